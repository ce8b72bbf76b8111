import PyProof.Rows.All
import Wide.All
import OpenK.AllK
import Wide.FinOn
import HandS.ForMost
import HandS.ForExc
import HandS.ExcInit
import HandS.ExcIs
import HandS.IsInst
import HandS.Defaults
import HandS.MakeKwOnly
import HandS.Flow
import KE.KExcIs
import HandS.ExcField
import HandS.OwnEq
import HandS.TupMul
import HandS.TupAny
import HandS.Style
import HandS.CallSlots
import KE.DataMinMax
import HandS.RaiseMore
import HandS.TryOnly
import PyProof.Rows.ReprOcc
import HandS.Exc
import HandS.Zip
import HandS.Deep
import KE.SortData
import KE.GoesMore
import KE.KTupSum
import KE.DataFind
import HandS.Conv
import HandS.DictTup
import HandS.DictSubView
import KE.KDictKeyed
import HandS.More
import KE.KDictSum
import HandS.SetFor
import HandS.Strs
import HandS.Walk
import HandS.DictComp
import HandS.Rev
import KE.KIndexOf
import HandS.TupLe
import HandS.MakeKw
import PySem.Challenge.RW_cutorall_k49_whole_kinds_kept_by_writing
set_option Elab.async false
set_option linter.all false
set_option maxRecDepth 100000
set_option maxHeartbeats 4000000
namespace Ek
open PySem PySem.W PySem.Calls PyProof.Rows PySem.HandSPX
section
variable {prog : Program} {w : World} {A : Around} {E : Value → Shared → Prop} {R : Result → Shared → Prop} {h : Heap} {g : Array GenState} {d : Drawn} {t : Nat} {os : OsState}
variable {nm q : Str} {C N fI : Addr} {bs bm bmB : List Value} {hdct : Bool} {sn : List Str} {sub : List Value} {ab : Bool} {col : Option Bool} {dd : Option Addr} {k0 k1 k2 k3 k5 : Option Value} {B newId initId : String}
/-- the check ahead of an own exception's making, keywords or none -/
theorem chk_kw (F : ExcBaseFacts B newId initId bmB) (hT : ∀ X : String, bm.contains (.type X) = bmB.contains (.type X)) {us : List Value} {kw : List (Str × Value)} {Q : Unit → Shared → Prop}
    (hC : h.get? C = some (excClassObj nm q C N bs bm hdct sn sub ab col dd k0 k1 k2 k3 k5 newId)) (z : Q () ⟨h, g, d, t, os⟩) : wpAny (model prog w) A (checkBuiltinCall newId ⟨.ref C :: us, kw⟩) Q E ⟨h, g, d, t, os⟩ := by
  have isB : (Value.ref C :: bm).contains (.type B) = true := by rw [List.contains_cons, hT, F.hasB, Bool.or_true]
  have st := F.noStar
  simp only [checkBuiltinCall, F.newKind, F.newSplit, F.newRow]
  repeat (first | (refine wpAny_isSubtype_exc hC ?_; rw [isB]) | refine wpAny_staticBase_exc hC ?_ | refine wpAny_madeBy_exc hC ?_ | refine wpAny_loadPart_at hC ?_ | simp only [bne_self_eq_false, Bool.false_eq_true, if_false] | wp_step)
  exact z
/-- what is laid: the tuple of the values by place, the exception -/
def laid (h : Heap) (C : Addr) (us : List Value) : Heap := (h.push (W.kdv_tup us)).push (excO C h.objs.size)
theorem new_kw (F : ExcBaseFacts B newId initId bmB) (hT : ∀ X : String, bm.contains (.type X) = bmB.contains (.type X)) {us : List Value} {kw : List (Str × Value)} (hC : h.get? C = some (excClassObj nm q C N bs bm hdct sn sub ab col dd k0 k1 k2 k3 k5 newId))
    (hz : us.length ≤ sizeLine) (z : R (.ok (.ret (.ref (h.objs.size + 1)))) ⟨laid h C us, g, d, t, os⟩) : codeAny (model prog w) A (.builtin newId ⟨.ref C :: us, kw⟩) R ⟨h, g, d, t, os⟩ := by
  have en := F.ends
  have isB : (Value.ref C :: bm).contains (.type B) = true := by rw [List.contains_cons, hT, F.hasB, Bool.or_true]
  have isA : (Value.ref C :: bm).contains (.type "AttributeError") = false := by rw [List.contains_cons, hT, F.noAttr]; rfl
  have isN : (Value.ref C :: bm).contains (.type "NameError") = false := by rw [List.contains_cons, hT, F.noName]; rfl
  refine codeAny_builtinAt F.entry ?_
  unfold Builtin.«BaseException.__new__»
  refine PySem.wpAt_bind ?_
  show PySem.wpAt _ _ _ (stack >>= _) _ _ _
  refine PySem.wpAt_bind (PySem.wpAt_stack fun p below => PySem.wpAt_of_wpAny ?_)
  wp_walk
  refine PySem.wpAt_of_wpAny ?_
  rw [F.owner]
  repeat (first | (with_reducible refine wpAny_isSubtype_exc hC ?_; first | rw [isB] | rw [isA] | rw [isN]) | with_reducible refine wpAny_madeHere_exc F.canon hC ?_ | with_reducible refine wpAny_loadPart_at hC ?_ | wp_step)
  show R _ _
  rw [Heap.size_push]
  exact z
theorem made_kw (F : ExcBaseFacts B newId initId bmB) (hT : ∀ X : String, bm.contains (.type X) = bmB.contains (.type X)) {us : List Value} {kw : List (Str × Value)} {Q : Fin → Shared → Prop} (hC : h.get? C = some (excClassObj nm q C N bs bm hdct sn sub ab col dd k0 k1 k2 k3 k5 newId))
    (hi : W.Looks (model prog w) h (typeLookup (.ref C) "__init__") (some (.ref fI))) (hb : ∀ self, W.Looks (model prog w) h (bindSpecial (.ref fI) self) (.ref fI, [self])) (hz : us.length ≤ sizeLine)
    (y : codeAny (model prog w) A (.call (.ref fI) ⟨.ref (h.objs.size + 1) :: us, kw⟩) (fun r s' => match r with | .ok (.ret v) => v = .none ∧ Q (.done (.ret (.ref (h.objs.size + 1)))) s' | .ok _ => False | .error e => E e s') ⟨laid h C us, g, d, t, os⟩) :
    wpAny (model prog w) A (Builtin.«type.__call__» ⟨.ref C :: us, kw⟩) Q E ⟨h, g, d, t, os⟩ := by
  repeat (first | with_reducible refine wpAny_madeBy_exc hC ?_ | with_reducible refine wpAny_loadPart_at hC ?_ | wp_step)
  refine codeAny_call_builtin_code (Code.quiet_builtin _ F.quiet) (chk_kw F hT hC (new_kw F hT hC hz (show wpAny _ _ _ _ _ _ from ?_)))
  have k : ∀ b o, h.get? b = some o → (laid h C us).get? b = some o := fun b o e => Heap.get?_push_of_some _ (Heap.get?_push_of_some _ e)
  have hx : (laid h C us).get? (h.objs.size + 1) = some (excO C h.objs.size) := by unfold laid; heap_get
  have isC : (Value.ref C :: bm).contains (.ref C) = true := by simp
  unfold isInstance
  repeat (first | (with_reducible refine wpAny_isSubtype_exc (k _ _ hC) ?_; rw [isC]) | with_reducible refine wpAny_loadPart_at hx ?_ | wp_step)
  refine (show wpAny _ _ (typeLookup (.ref C) _) _ _ _ from (hi.keeps k).at (wpAny_holding (wpAny_bind (((hb (.ref (h.objs.size + 1))).keeps k).at (wpAny_bind (wpAny_call (codeAny_mono y fun r s' z => ?_)))))))
  rcases r with e | (v | _ | _ | _) <;> first | exact z | exact z.elim | skip
  obtain ⟨rfl, z⟩ := z
  first | exact wpAny_pure (wpAny_pure z) | (wp_walk; exact z)
/-- C(.., k = v, ..) of an own exception class with its own __init__ -/
theorem call_kw (F : ExcBaseFacts B newId initId bmB) (hT : ∀ X : String, bm.contains (.type X) = bmB.contains (.type X)) {us : List Value} {kw : List (Str × Value)} (hC : h.get? C = some (excClassObj nm q C N bs bm hdct sn sub ab col dd k0 k1 k2 k3 k5 newId))
    (hi : W.Looks (model prog w) h (typeLookup (.ref C) "__init__") (some (.ref fI))) (hb : ∀ self, W.Looks (model prog w) h (bindSpecial (.ref fI) self) (.ref fI, [self])) (hz : us.length ≤ sizeLine)
    (y : codeAny (model prog w) (A.under (.builtin "type.__call__" ⟨.ref C :: us, kw⟩)) (.call (.ref fI) ⟨.ref (h.objs.size + 1) :: us, kw⟩) (W.InitBack (h.objs.size + 1) R) ⟨laid h C us, g, d, t, os⟩) :
    codeAny (model prog w) A (.call (.ref C) ⟨us, kw⟩) R ⟨h, g, d, t, os⟩ := by
  have f1 := tc_lookup
  have f2 := tc_bind (.ref C)
  have ty : (⟨h, g, d, t, os⟩ : Shared).TypeIs (.ref C) "type" := ⟨_, hC, rfl⟩
  refine codeAny_of_tree (show wpAny _ _ (callAny (.ref C) _) _ _ _ from ?_)
  repeat (any_goals (first | with_reducible refine wpAny_loadPart_at hC ?_ | assumption | wp_step))
  refine ⟨rfl, codeAny_call_builtin_at (Code.quiet_builtin _ (by decide +kernel)) entry_typeCall (wpAny_check_type_call_sub hC (made_kw F hT hC hi hb hz (codeAny_mono y fun r s' z => ?_)))⟩
  rcases r with e | (v | _ | _ | _) <;> exact z
end
end Ek

namespace Ek
open PySem PySem.Spec PyProof.Rows L2
/-! ### own exceptions as values -/
/-- at a: an exception of the class at C that has the fields fs -/
def XA (H : Hp) (a C : Addr) (fs : List (Str × V)) : Prop := ∃ d, H a = some (exo a C (some d)) ∧ H d = some (exd d fs)
/-- C(..), its own __init__ keeping sp -/
def tEx (C : Addr) (sp : Sp) (ta : TA) : TE := fun σ H Q => ta σ H fun vs H1 => vs.length ≤ 1000 ∧ ∀ a, H1 a = none → sp (.ref a :: vs) (upd H1 a (exo a C none)) (fun v H2 => v = .non ∧ Q (.ref a) H2) E0
section
variable {X : Cx} {CX : CXT} {x : Str} {C fI : Addr} {k : Nat} {fd : FuncData} {ps ks : List Str} {sp : Sp} {p pos : Pos} {e : Expr} {es : List Expr} {kws : List Keyword} {ta : TA}
theorem run_ex {pins : List (Addr × Obj)} {σ : L2.St} {H : Hp} {s : Shared} {Q : VK} {us all : List Value} {kw : List (Str × Value)} {vs : List V} (T : OexC X.K C) (iC : PySem.W.findIn X.K (.ref C) "__init__" = some (some (.ref fI))) (tI : PySem.W.typeIn X.K (.ref fI) = some (.type "function"))
    (F : FnOk X.prog X.w X.K X.mg X.base CX k fI fd ps sp) (hr : Room (k + 1) X.A) (hb : ∀ (s : Shared) (self : Value), X.K.In s.heap → BindsTo s fd ⟨self :: us, kw⟩ (ps.zip (self :: all))) (hx : Passes CX X E0) (I : Inv X pins σ H s) (hz : us.length ≤ sizeLine) (r : Vals vs all)
    (h : ∀ a, H a = none → sp (.ref a :: vs) (upd H a (exo a C none)) (fun v H2 => v = .non ∧ Q (.ref a) H2) E0) : wpAny (model X.prog X.w) X.A (call (.ref C) us kw) (EP X pins σ Q) X.xe s := by
  obtain ⟨nm, q, N, bs, bm, sn, sub, ab, col, dd, k0, k1, k2, k3, k5, hC, hbm⟩ := T.cls
  obtain ⟨hp, g, dr, tk, os⟩ := s
  have sz : hp.objs.size ≤ hp.objs.size + 1 := Nat.le_succ _
  have hq := h (hp.objs.size + 1) (I.hok.fresh sz)
  have kk : ∀ b o, hp.get? b = some o → (laid hp C us).get? b = some o := fun b o e => Heap.get?_push_of_some _ (Heap.get?_push_of_some _ e)
  have gx : (laid hp C us).get? (hp.objs.size + 1) = some (PySem.HandSPX.excO C hp.objs.size) := by unfold laid; heap_get
  have I2 : Inv X pins σ (upd H (hp.objs.size + 1) (exo (hp.objs.size + 1) C none)) ⟨laid hp C us, g, dr, tk, os⟩ := I.laid (t' := tk) (a := hp.objs.size + 1) (o := exo (hp.objs.size + 1) C none) (h' := laid hp C us) kk sz (exo_ok gx)
  refine wpAny_call (call_kw PySem.F.excBase_ValueError (fun Y => PySem.HandSPX.refsVE_contains Y bm hbm) (I.kIn _ _ hC) (PySem.W.looks_findIn I.kIn iC) (fun self => PySem.W.bind_fn I.kIn self tI) hz
    (codeAny_mono (F.run _ X.stack _ _ ⟨Value.ref (hp.objs.size + 1) :: us, kw⟩ (Value.ref (hp.objs.size + 1) :: all) _ _ E0 (hr.make C us kw) (I2.env0.make C us kw) (hb _ _ I2.kIn) (show Vals (V.ref (hp.objs.size + 1) :: vs) (Value.ref (hp.objs.size + 1) :: all) from .cons rfl r) hq) fun r s' z => ?_))
  cases r with
  | error er => exact hx pins σ _ _ er s' I2 z
  | ok fl =>
    cases fl with
    | ret u =>
      obtain ⟨v, H2, I3, rv, ev, q3⟩ := I2.after z
      subst ev
      exact ⟨rv, ⟨V.ref (hp.objs.size + 1), H2, I3, rfl, q3⟩⟩
    | next => exact False.elim z
    | brk => exact False.elim z
    | cont => exact False.elim z
/-- C(e, ..) as a value -/
theorem pe_ex (T : OexC X.K C) (iC : PySem.W.findIn X.K (.ref C) "__init__" = some (some (.ref fI))) (tI : PySem.W.typeIn X.K (.ref fI) = some (.type "function")) (F : FnOk X.prog X.w X.K X.mg X.base CX k fI fd ps sp) (hr : Room (k + 1) X.A) (hg : Gl X x) (hm : X.mg x = some (.ref C))
    (hb : Binds X.K fd ps []) (hx : Passes CX X E0) (ha : PA X (e :: es) ta) (hdb : (x == ("__debug__" : Str)) = false := by decide)
    (he : starEach (e :: es) X.env = (false, eval e X.env) :: starEach es X.env := by rfl) (hpl : (backTo pos (starEach es X.env)).any (·.1) = false := by rfl) : PE X (.Call (.Name x p) (e :: es) [] pos) (tEx C sp ta) := by
  refine ⟨fun pins s σ H Q I h => ?_⟩
  refine wpAny_Call_Name_kw (ld_glob I hg hm ?_ hdb)
  refine PySem.W.callWith_K (h₀ := X.base) I.ok.mod.kin T.kC (thn (ha.run pos pins s σ H _ I h) fun us s1 ⟨vs, H1, I1, r, hz, q⟩ => ⟨I1.kIn, ?_⟩) he hpl
  have hl : ∀ self : Value, ((self :: us) ++ []).length = ps.length := fun self => by
    have z := F.len _ _ _ _ (q (s1.heap.objs.size) (I1.hok.fresh (Nat.le_refl _)))
    rw [← z, List.append_nil, List.length_cons, List.length_cons, ← r.length]
  refine run_ex (all := us) (kw := []) T iC tI F hr (fun s2 self KX => ?_) hx I1 (by show us.length ≤ sizeLine; rw [← r.length, sizeLine_eq]; omega) r q
  have z := hb s2 (self :: us) KX (hl self)
  rw [List.append_nil] at z
  exact z
/-- C(k = v, ..) as a value -/
theorem pe_exk (T : OexC X.K C) (iC : PySem.W.findIn X.K (.ref C) "__init__" = some (some (.ref fI))) (tI : PySem.W.typeIn X.K (.ref fI) = some (.type "function")) (F : FnOk X.prog X.w X.K X.mg X.base CX k fI fd ps sp) (hr : Room (k + 1) X.A)
    (hg : Gl X x) (hm : X.mg x = some (.ref C)) (hps : ps.length = ks.length + 1) (hb : ∀ (s : Shared) (self : Value) (ws : List Value), ws.length = ks.length → BindsTo s fd ⟨[self], ks.zip ws⟩ (ps.zip (self :: ws))) (hx : Passes CX X E0) (hkw : PK X kws ta)
    (hall : (backToKw pos (keywordEach kws X.env)).all (·.1.isSome) = true := by rfl) (hks : (backToKw pos (keywordEach kws X.env)).filterMap (·.1) = ks := by rfl) (hdb : (x == ("__debug__" : Str)) = false := by decide)
    (hpl : ((backTo pos (starEach [] X.env)).any (·.1) || (backToKw pos (keywordEach kws X.env)).any (·.1.isNone)) = false := by rfl) :
    PE X (.Call (.Name x p) [] kws pos) (tEx C sp ta) := by
  refine ⟨fun pins s σ H Q I h => ?_⟩
  refine wpAny_Call_Name_kw (ld_glob I hg hm ?_ hdb)
  refine PySem.W.callWith_KW0 (h₀ := X.base) I.ok.mod.kin T.kC hall ?_ hpl
  refine thn (hkw.run pos pins s σ H _ I h) fun ws s2 ⟨zs, H2, I2, rz, hz, q2⟩ => ⟨I2.kIn, ?_⟩
  rw [hks]
  have hl : ws.length = ks.length := by
    have z := F.len _ _ _ _ (q2 (s2.heap.objs.size) (I2.hok.fresh (Nat.le_refl _)))
    rw [← rz.length]
    exact Nat.succ.inj (z.trans hps)
  exact run_ex (us := []) (all := ws) T iC tI F hr (fun s3 self _ => hb s3 self ws hl) hx I2 (Nat.zero_le _) rz q2
/-- e.f of such an exception -/
def tXA (K : PySem.W.Frag) (f : Str) (te : TE) : TE := fun σ H Q => te σ H fun x H1 => ∃ a C fs v, x = .ref a ∧ XfC K C ∧ PySem.W.findIn K (.ref C) f = some none ∧ XA H1 a C fs ∧ fs.lookup f = some v ∧ Q v H1
theorem pe_xa {n : Str} {te : TE} (he : PE X e te) (hb : attributeBase e n X.env (eval e X.env) = eval e X.env := by rfl) : PE X (.Attribute e n pos) (tXA X.K n te) := by
  refine ⟨fun pins s σ H Q I h => ?_⟩
  refine attr_of hb (thn (he.run pins s σ H _ I h) fun u s1 ⟨x, H1, I1, rx, a, C, fs, v, ex, T, hno, ⟨d, ha, hd⟩, l, q⟩ => ?_)
  subst ex
  obtain rfl : u = Value.ref a := rx
  obtain ⟨t1, ho⟩ := exo_at I1.hok ha
  obtain ⟨mA, hns, rel⟩ := exd_at I1.hok hd
  obtain ⟨od, hod, hl⟩ := lookIn_ns hns
  obtain ⟨u, hu, ru⟩ := RelO.some_of (v := v) (o := mA n) (by rw [← l]; exact rel n)
  have J : PySem.W.InstAt s1.heap a { cls := .ref C, dict := some d, data := .fields #[.ref t1, .none, .none, .none, .bool false, .none] } C (some od) := ⟨ho, rfl, rfl, hod⟩
  exact HandSPX.exc_get I1.kIn J T.ga T.gg T.exC (PySem.W.findObj_own T.hdC hno rfl (by rw [hl, hu])) (handed_of ru) ⟨v, H1, I1.tok _, ru, q⟩
/-- isinstance(e, c), e such an exception -/
def rIsX (K : PySem.W.Frag) : List V → Hp → VK → Prop := fun xs H Q => ∃ (a C : Addr) (fs : List (Str × V)) (c : V) (u : Value) (b : Bool), xs = [.ref a, c] ∧ XA H a C fs ∧ ExcC K C ∧ ClsV c u ∧ PySem.W.kitOne K (.ref C) u = some b ∧ Q (.bl b) H
theorem call_isX : CallR X (.builtin "isinstance") (rIsX X.K) := by
  intro pins s σ H xs us Q I r h
  obtain ⟨a, D, fs, c, u, b, rfl, ⟨d, ha, hd⟩, C, k, e, q⟩ := h
  obtain ⟨u1, u2, rfl, r1, r2⟩ := vals2 r
  have e2 := k.eq r2
  subst e2
  obtain rfl : u1 = Value.ref a := r1
  obtain ⟨t1, ho⟩ := exo_at I.hok ha
  obtain ⟨mA, hns, rel⟩ := exd_at I.hok hd
  obtain ⟨od, hod, hl⟩ := lookIn_ns hns
  have J : PySem.W.InstAt s.heap a { cls := .ref D, dict := some d, data := .fields #[.ref t1, .none, .none, .none, .bool false, .none] } D (some od) := ⟨ho, rfl, rfl, hod⟩
  have hcl : (PySem.W.clsIn X.K D).isSome = true := by
    obtain ⟨cd, hc, _⟩ := PySem.W.any_some C.hd
    rw [hc]
    rfl
  exact PySem.W.kia_one (PySem.W.kitx_exc hcl C.hg C.hk C.hs C.ha C.hn C.ht C.hm) I.kIn J e (fun z => nomatch z) fun tk => ⟨.bl b, H, I.kept (t' := tk) fun _ _ z => z, rfl, q⟩
end
/-! ### repr of data -/
/-- what repr may be asked of -/
def Okd (d : PyData) : Prop := d.showable = true ∧ d.hasDict = false ∧ d.depth ≤ 32 ∧ d.shown.length ≤ 1000000
def rRepr (K : PySem.W.Frag) : List V → Hp → VK → Prop := fun xs H Q => ∃ x d, xs = [x] ∧ Dp K H x d ∧ isDisplay d = true ∧ Okd d ∧ Q (.str d.shown) H
section
variable {X : Cx}
theorem call_repr (hg : X.A.guards = some []) (hu : X.A.units + 64 < cLine) : CallR X (.builtin "repr") (rRepr X.K) := by
  intro pins s σ H xs us Q I r h
  obtain ⟨x, d, rfl, hd, hdis, ⟨h1, h2, h3, h4⟩, q⟩ := h
  obtain ⟨u, rfl, ru⟩ := vals1 r
  obtain ⟨as, hr⟩ := Dp.reads I d x u hd ru
  obtain ⟨a, rfl⟩ := isRef_of_reads hr hdis
  exact repr_of_reads' hr h1 (PyData.noDict_hsm h2) hg (by omega) (fun _ _ e => e) (fun h' u tk hk => ⟨.str d.shown, H, I.kept (t' := tk) hk, ⟨u, rfl⟩, q⟩) (by rw [sizeLine_eq]; omega)
end
end Ek

namespace Ek
open PySem PySem.Spec PyProof.Rows L2
/-! ### promises of defs that are called while nothing is being shown (so that repr may be asked) -/
structure FnG (P : Program) (w : World) (K : PySem.W.Frag) (mg : Str → Option Value) (base : Heap) (CX : CXT) (k : Nat) (f : Addr) (fd : FuncData) (ps : List Str) (sp : Sp) : Prop where
  len : ∀ vs H Q E, sp vs H Q E → vs.length = ps.length
  run : ∀ (A : Around) (outer : List Env) (s : Shared) (H : Hp) (args : Args) (us : List Value) (vs : List V) (Q : VK) (E : XK), Room k A → A.guards = some [] → Env0 P w K mg base A outer s H →
    BindsTo s fd args (ps.zip us) → Vals vs us → sp vs H Q E → codeAny (model P w) A (.call (.ref f) args) (CR CX outer P w H s Q E) s
section
variable {P : Program} {w : World} {K : PySem.W.Frag} {mg : Str → Option Value} {base : Heap} {CX : CXT} {k : Nat} {f : Addr} {fd : FuncData} {ps : List Str} {sp : Sp}
theorem FnG.mono {j : Nat} (F : FnG P w K mg base CX j f fd ps sp) (h : j ≤ k) : FnG P w K mg base CX k f fd ps sp := ⟨F.len, fun A outer s H args us vs Q E hr => F.run A outer s H args us vs Q E (hr.mono h)⟩
/-- a def by its body -/
theorem okGX {x qual : Str} {st : Stmt} {N : List Str} (F : Fun K x qual st f fd) (S : FnScope N ps (defScope st)) (len : ∀ vs H Q E, sp vs H Q E → vs.length = ps.length)
    (body : ∀ (cdv : Value) (A : Around) (outer : List Env) (s : Shared) (H : Hp) (vs : List V) (Q : VK) (E : XK), Room k (A.deeper (envOfC qual (defScope st) s.heap.objs.size f cdv)) → A.guards = some [] → sp vs H Q E →
      ∃ t, PSs (cxOf CX P w K mg base N qual (defScope st) f cdv A outer s H E) (defBody st) t ∧ t { nx := fun _ H' => Q .non H', rt := Q } (start N vs) H) : FnG P w K mg base CX (k + 1) f fd ps sp := by
  obtain ⟨oc, od, kV, doc, pm, an, cdv, ct, osl, rfl, lk, hcd⟩ := F.ex
  constructor
  · exact len
  intro A outer s H args us vs Q E hr gd e0 hb r hsp
  have KX : K.In s.heap := e0.mod.kin.keeps fun b o e => (e0.bs b o e).1
  have kd : ∀ y ∈ ps.zip us, (defScope st).names.lookup y.1 = some .local ∨ ((defScope st).names.lookup y.1 = some .cell ∧ ((cellsFrom (s.heap.objs.size + 1) (defScope st).names []).lookup y.1).isSome = true) := by
    rintro ⟨n, v⟩ hy
    exact (S.par n (List.of_mem_zip hy).1).imp id fun q => ⟨q, PySem.W.cellsFrom_some _ _ _ (.inl q)⟩
  refine codeAny_call_function hr.depth (KX _ _ lk) rfl S.co S.gen rfl (PySem.W.codeRec_of KX hcd) (hb _ _ _ _ (wpAny_newFunctionEnv_cells S.kind kd fun env he s1 x => ?_))
  subst he
  obtain ⟨t, ht, hq⟩ := body cdv A outer s H vs Q E (hr.deeper _) gd hsp
  refine ⟨(e0.mod.nolimit.keeps fun b o e => (e0.bs b o e).1).keeps x.toInCall.keep, codeAny_func (wpAny_mono (ht.run [] s1 _ _ _ (inv_start S hr.hd e0 (len _ _ _ _ hsp) r x) hq) (fun fl s' hs => ?_) fun e s' hs => hs)⟩
  rcases fl with _ | _ | _ | u
  · obtain ⟨σ', H', J, q⟩ := hs
    exact ⟨V.non, H', J.os, J.bare, J.base, J.hok, rfl, q⟩
  · exact False.elim (by obtain ⟨_, _, _, q⟩ := hs; exact q)
  · exact False.elim (by obtain ⟨_, _, _, q⟩ := hs; exact q)
  · obtain ⟨v, σ', H', J, rv, q⟩ := hs
    exact ⟨v, H', J.os, J.bare, J.base, J.hok, rv, q⟩
theorem okG {x qual : Str} {st : Stmt} {N : List Str} (F : Fun K x qual st f fd) (S : FnScope N ps (defScope st)) (len : ∀ vs H Q E, sp vs H Q E → vs.length = ps.length)
    (body : ∀ (cdv : Value) (A : Around) (outer : List Env) (s : Shared) (H : Hp) (vs : List V) (Q : VK) (E : XK), Room k (A.deeper (envOfC qual (defScope st) s.heap.objs.size f cdv)) → A.guards = some [] → sp vs H Q E →
      ∃ t, PSs (cxOf CX0 P w K mg base N qual (defScope st) f cdv A outer s H E).nox (defBody st) t ∧ t { nx := fun _ H' => Q .non H', rt := Q } (start N vs) H) : FnG P w K mg base CX0 (k + 1) f fd ps sp :=
  okGX F S len fun cdv A outer s H vs Q E hr gd hsp => by
    obtain ⟨t, h, q⟩ := body cdv A outer s H vs Q E hr gd hsp
    exact ⟨t, h.nox, q⟩
end
section
variable {X : Cx} {CX : CXT} {x : Str} {f : Addr} {k : Nat} {fd : FuncData} {ps : List Str} {sp : Sp} {E : XK} {ds : List Value} {dvs : List V} {p pos : Pos} {e : Expr} {es : List Expr} {t : TA}
/-- f(e, ..) of such a def -/
theorem pe_callG (F : FnG X.prog X.w X.K X.mg X.base CX k f fd ps sp) (hr : Room k X.A) (gd : X.A.guards = some []) (hg : Gl X x) (hm : X.mg x = some (.ref f)) (hk : PySem.W.keepIn X.K (.ref f) = true) (hb : Binds X.K fd ps ds) (hd : Vals dvs ds) (hx : Passes CX X E) (ha : PA X (e :: es) t)
    (hdb : (x == ("__debug__" : Str)) = false := by decide) (he : starEach (e :: es) X.env = (false, eval e X.env) :: starEach es X.env := by rfl) (hpl : (backTo pos (starEach es X.env)).any (·.1) = false := by rfl) : PE X (.Call (.Name x p) (e :: es) [] pos) (tCall sp dvs E t) := by
  constructor
  intro pins s σ H Q I h
  refine wpAny_Call_Name_kw (ld_glob I hg hm (PySem.W.callWith_K (h₀ := X.base) I.ok.mod.kin hk (thn (ha.run pos pins s σ H _ I h) fun us s1 ⟨vs, H1, I1, r, q⟩ => ⟨I1.kIn, ?_⟩) he hpl) hdb)
  have r2 := r.append hd
  have hl : (us ++ ds).length = ps.length := r2.length.symm.trans (F.len _ _ _ _ q)
  refine wpAny_call (codeAny_mono (F.run X.A X.stack s1 H1 ⟨us, []⟩ (us ++ ds) (vs ++ dvs) Q E hr gd I1.env0 (hb s1 us I1.kIn hl) r2 q) fun r s' z => ?_)
  rcases r with er | (_ | _ | _ | u)
  · exact hx pins σ H1 s1 er s' I1 z
  · exact False.elim z
  · exact False.elim z
  · exact False.elim z
  · exact I1.after z
/-- less asked, the same said -/
theorem imp {e : Expr} {te te' : TE} (h : PE X e te) (i : ∀ σ H Q, te' σ H Q → te σ H Q) : PE X e te' := ⟨fun pins s σ H Q I q => h.run pins s σ H Q I (i σ H Q q)⟩
end
/-! ### the law's call -/
theorem law_callG {P : Program} {w : World} {K : PySem.W.Frag} {mg mb : Str → Option Value} {k : Nat} {fa a : Addr} {fd : FuncData} {x : Str} {sp : Sp} {s : Shared} {vs : List Value} {ns : List Int} (KX : K.In s.heap) (gl : s.heap.Ns mainGlobals mg) (bl : s.heap.Ns builtinsNs mb)
    (bb : ∀ x : Str, x ≠ "__name__" → mb x = bootBuiltins x) (lim : s.heap.NoLimit) (hg : s.gens = #[]) (ha : s.heap.get? a = some { cls := .type "list", data := .seq vs.toArray }) (hi : IntsAre vs ns) (hl : ns.length ≤ sizeLine) (hr : Room k callerA)
    (F : ∀ base : Heap, K.In base → base.Ns mainGlobals mg → FnG P w K mg base CX0 k fa fd [x] sp) (hb : ∀ (s : Shared) (u : Value), BindsTo s fd ⟨[u], []⟩ [(x, u)])
    (hsp : ∀ H : Hp, Only H → SqL K H a (ns.map V.int) → sp [.ref a] H (fun v _ => v = .bl true) fun _ _ _ => False) :
    codeAny (model P w) callerA (.call (.ref fa) ⟨[.ref a], []⟩) (fun r s' => r = .ok (.ret (.bool true)) ∧ OldK s.heap s'.heap ∧ s'.os = s.os ∧ AllBare s'.gens) s := by
  have core : ∀ H : Hp, Only H → SqL K H a (ns.map V.int) → HOk P w H s.heap → (∀ b u, H b = some u → b = a ∧ K.lookup a = none) →
      codeAny (model P w) callerA (.call (.ref fa) ⟨[.ref a], []⟩) (fun r s' => r = .ok (.ret (.bool true)) ∧ OldK s.heap s'.heap ∧ s'.os = s.os ∧ AllBare s'.gens) s := fun H hO hS ok one => by
    have free : ∀ b, b ≠ a → H b = none := fun b hb => by
      cases q : H b with
      | none => rfl
      | some u => exact absurd (one b u q).1 hb
    have dct : ∀ {b : Addr} {o : Obj} {es : Array DictEntry} {ep : Nat}, s.heap.get? b = some o → o.data = .dict es ep → H b = none := fun {b o es ep} e d => free b fun z => by
      rw [z, ha] at e
      cases e
      exact nomatch d
    have nsK : ∀ {b : Addr} {m : Str → Option Value}, s.heap.Ns b m → (hidT s.heap H).Ns b m := fun {b m} ⟨o, es, ep, e, d, r⟩ => ⟨o, es, ep, hidT_get e (dct e d), d, r⟩
    have kb : K.In (hidT s.heap H) := fun b o e => hidT_get (KX b o e) (by
      cases q : H b with
      | none => rfl
      | some u =>
        obtain ⟨rfl, z⟩ := one b u q
        rw [z] at e
        exact nomatch e)
    have md : Mod K mg (hidT s.heap H) := ⟨kb, nsK gl, ⟨mb, nsK bl, bb⟩, by obtain ⟨mc, h1, h2⟩ := lim; exact ⟨mc, nsK h1, h2⟩⟩
    have e0 : Env0 P w K mg (hidT s.heap H) callerA [] s H := ⟨rfl, md, fun b o e => of_hidT e, Nat.le_of_eq (hidT_size _ _), trivial, (fun b hb => by have z : b ∈ ([] : List Addr) := hb; cases z), ok, .of_eq hg⟩
    refine codeAny_mono ((F _ kb (nsK gl)).run callerA [] s H ⟨[.ref a], []⟩ [.ref a] [.ref a] _ _ hr rfl e0 (hb s (.ref a)) (.cons rfl .nil) (hsp H hO hS)) fun r s' h => ?_
    rcases r with e | (_ | _ | _ | u)
    · exact False.elim h
    · exact False.elim h
    · exact False.elim h
    · exact False.elim h
    · obtain ⟨v, H', os, bare, un, ok', r', q⟩ := h
      obtain rfl : v = .bl true := q
      obtain rfl : u = Value.bool true := r'
      refine ⟨rfl, OldK.of_keep fun b o e => ?_, os, bare⟩
      cases q : H b with
      | none => exact un.keep b o e q (by intro z; have z' : b ∈ ([] : List Addr) := z; cases z') (by simp)
      | some u =>
        rcases hO b with z | ⟨ob, xs, z⟩
        · rw [q] at z
          cases z
        · obtain ⟨e1, _⟩ := ok b _ z
          obtain ⟨e2, _⟩ := ok' b _ (un.frzs b ob _ z)
          rw [← e1, e] at *
          exact e2
  cases hk : K.lookup a with
  | some o =>
    have e := KX a o hk
    rw [ha] at e
    cases e
    exact core (fun _ => none) (fun _ => .inl rfl) (.inr ⟨_, vs.toArray, _, hk, rfl, rfl, rfl, by rw [List.size_toArray, hi.length]; exact hl, by simpa using vals_ints hi⟩) (fun b u z => nomatch (show (none : Option HO) = some u from z)) fun b u z => nomatch (show (none : Option HO) = some u from z)
  | none =>
    have pos : ∀ {b : Addr} {u : HO}, (if b = a then some (HO.frz { cls := .type "list", data := .seq vs.toArray } (.lst (ns.map V.int))) else none) = some u → b = a ∧ HO.frz { cls := .type "list", data := .seq vs.toArray } (.lst (ns.map V.int)) = u := fun {b u} z => by
      by_cases hb : b = a
      · rw [if_pos hb] at z
        exact ⟨hb, Option.some.inj z⟩
      · rw [if_neg hb] at z
        cases z
    refine core (fun b => if b = a then some (.frz { cls := .type "list", data := .seq vs.toArray } (.lst (ns.map V.int))) else none) (fun b => ?_) (.inl (.inr ⟨_, if_pos rfl⟩)) (fun b u z => ?_) fun b u z => ⟨(pos z).1, hk⟩
    · by_cases hb : b = a
      · exact .inr ⟨_, _, if_pos hb⟩
      · exact .inl (if_neg hb)
    · obtain ⟨rfl, rfl⟩ := pos z
      exact ⟨ha, by rw [List.length_map]; exact hl, vs, _, vals_ints hi, ha⟩
theorem walk_ofG {l : PySem.W.OpenLaw} {n k : Nat} {q : Program} {loose : List Str} {XP : (Str → Option Value) → Heap → Prop} {YP : World → Heap → Prop} {d : DefRec} {K : Params → PySem.W.Frag} {sp : PySem.W.Frag → Sp} {x : Str} (hn : l.most = some n) (hn2 : n ≤ sizeLine) (hdf : d.params.defaults = [])
    (hr : Room k callerA) (hY : ∀ (w : World) (h : Heap), YP w h → (K w.params).In h)
    (F : ∀ (w : World) (mg : Str → Option Value) (fa : Addr) (h : Heap), (K w.params).In h → h.Ns mainGlobals mg → mg d.name = some (.ref fa) → ∃ fd : FuncData, (∀ (s : Shared) (u : Value), BindsTo s fd ⟨[u], []⟩ [(x, u)]) ∧
      ∀ base : Heap, (K w.params).In base → base.Ns mainGlobals mg → FnG l.prog w (K w.params) mg base CX0 k fa fd [x] (sp (K w.params)))
    (hsp : ∀ (K : PySem.W.Frag) (H : Hp) (a : Addr) (ns : List Int), ns.length ≤ n → Only H → SqL K H a (ns.map V.int) → sp K [.ref a] H (fun v _ => v = .bl true) fun _ _ _ => False) : PySem.W.WalkO q loose XP YP l.row.toRowW d [] (fun f vs => PySem.call f vs) := by
  refine Att.attach_call hn hdf fun w s₀ s₁ mg mb fa o pm cd doc a vs ns G Y ho hd hcd hmg hobj hints hlen hg => ?_
  obtain ⟨fd, hb, hF⟩ := F w mg fa _ (hY w _ Y) G.T.g hmg
  exact law_callG (hY w _ Y) G.T.g G.T.b G.T.builtins G.T.nolimit hg hobj hints (Nat.le_trans hlen hn2) hr hF hb fun H hO hS => hsp _ H a ns hlen hO hS
end Ek

namespace Ek
open PySem PySem.Spec PyProof.Rows L2
/-! ### heaps and places -/
theorem at_z {α : Type} {xs : List α} {z : Int} {j : Nat} {v : α} (e : z = (j : Int)) (h : xs[j]? = some v) : atI xs z = some v := by
  rw [e]
  exact atI_nat h
theorem ix_z {n : Nat} {z : Int} {j : Nat} (e : z = (j : Int)) (h : j < n) : ixN n z = some j := by
  unfold ixN
  rw [e, if_pos (by omega), if_pos (by omega)]
  simp
theorem in64 {x n : Int} (hn : 0 < n ∧ n < 2147483648) : -(2 ^ 64) < x % n ∧ x % n < 2 ^ 64 := by
  have a := Int.emod_nonneg x (show n ≠ 0 by omega)
  have b := Int.emod_lt_of_pos x hn.1
  constructor
  · exact Int.lt_of_lt_of_le (by decide) a
  · exact Int.lt_trans (Int.lt_trans b hn.2) (by decide)
theorem same_upd {H : Hp} {p : Addr} {o : HO} (h : H p = none) : Same H (upd H p o) := fun b x e => by
  rw [upd_ne (ne_of_none e h)]
  exact e
theorem sl {K : PySem.W.Frag} {H : Hp} {a : Addr} {xs : List V} (h : H a = some (.lst xs)) : SqL K H a xs := .inl (.inl h)
theorem tl {K : PySem.W.Frag} {H : Hp} {a : Addr} {xs : List V} (h : H a = some (.tup xs)) : SqT K H a xs := .inl (.inl h)
/-- all but the hand is as it was -/
def Kp (h : Addr) (H H' : Hp) : Prop := ∀ b o, b ≠ h → H b = some o → H' b = some o
theorem Kp.refl {h : Addr} {H : Hp} : Kp h H H := fun _ _ _ e => e
theorem Kp.trans {h : Addr} {H H1 H2 : Hp} (a : Kp h H H1) (b : Kp h H1 H2) : Kp h H H2 := fun c o n e => b c o n (a c o n e)
theorem Kp.of {h : Addr} {H H1 : Hp} (a : Same H H1) : Kp h H H1 := fun c o _ e => a c o e
/-- the hand: a list of the drawn numbers and the place of the next -/
def Hd (H : Hp) (h : Addr) : Prop := ∃ (d : Addr) (ds : List Int) (t : Nat), H h = some (.lst [.ref d, .int (t : Int)]) ∧ H d = some (.lst (ds.map V.int)) ∧ d ≠ h ∧ ∀ x ∈ ds, 0 ≤ x
theorem Hd.same {H H' : Hp} {h : Addr} (s : Same H H') (x : Hd H h) : Hd H' h := by
  obtain ⟨d, ds, t, h1, h2, n, p⟩ := x
  exact ⟨d, ds, t, s _ _ h1, s _ _ h2, n, p⟩
theorem Hd.ne {H : Hp} {h b : Addr} (x : Hd H h) (e : H b = none) : b ≠ h := fun z => by
  obtain ⟨d, ds, t, h1, _⟩ := x
  rw [z, h1] at e
  cases e
theorem Hd.ns {H : Hp} {h b : Addr} {o : HO} (x : Hd H h) (e : H b = some o) (n : ∀ d t, o ≠ .lst [.ref d, .int t]) : b ≠ h := fun z => by
  obtain ⟨d, ds, t, h1, _⟩ := x
  rw [z, h1] at e
  exact n _ _ (Option.some.inj e).symm
/-! ### what a display of exceptions leaves -/
theorem XA.mono {H H' : Hp} {a C : Addr} {fs : List (Str × V)} (s : Same H H') (x : XA H a C fs) : XA H' a C fs := by
  obtain ⟨d, h1, h2⟩ := x
  exact ⟨d, s _ _ h1, s _ _ h2⟩
/-- exceptions at es, of these classes, with these fields -/
abbrev XAs (H : Hp) (es : List Addr) (cfs : List (Addr × List (Str × V))) : Prop := Paired (fun e (cf : Addr × List (Str × V)) => XA H e cf.1 cf.2) es cfs
theorem XAs.mono {H H' : Hp} {es : List Addr} {cfs : List (Addr × List (Str × V))} (s : Same H H') (x : XAs H es cfs) : XAs H' es cfs := by
  induction x with
  | nil => exact .nil
  | cons a _ ih => exact .cons (XA.mono s a) ih
theorem paired_app {α β : Type} {F : α → β → Prop} {a c : List α} {b d : List β} (x : Paired F a b) (y : Paired F c d) : Paired F (a ++ c) (b ++ d) := by
  induction x with
  | nil => exact y
  | cons h _ ih => exact .cons h ih
theorem paired_get {α β : Type} {F : α → β → Prop} {a : List α} {b : List β} (x : Paired F a b) : ∀ {i : Nat} {z : β}, b[i]? = some z → ∃ y, a[i]? = some y ∧ F y z := by
  induction x with
  | nil => intro i z h; simp at h
  | cons p _ ih =>
    intro i z h
    cases i with
    | zero => exact ⟨_, rfl, by cases h; exact p⟩
    | succ i => exact ih (by simpa using h)
theorem paired_len {α β : Type} {F : α → β → Prop} {a : List α} {b : List β} (x : Paired F a b) : a.length = b.length := by
  induction x with
  | nil => rfl
  | cons _ _ ih => rw [List.length_cons, List.length_cons, ih]
/-- what the __init__ of such a class leaves -/
def spX1 (K : PySem.W.Frag) (f : Str) : Sp := fun vs H Q _ => ∃ (a C : Addr) (y : V), vs = [.ref a, y] ∧ OexC K C ∧ PySem.W.findIn K (.ref C) f = some none ∧ H a = some (exo a C none) ∧ ∀ H', (∀ b o, b ≠ a → H b = some o → H' b = some o) → XA H' a C [(f, y)] → Q .non H'
def spX2 (K : PySem.W.Frag) (f g : Str) : Sp := fun vs H Q _ => ∃ (a C : Addr) (y z : V), vs = [.ref a, y, z] ∧ OexC K C ∧ PySem.W.findIn K (.ref C) f = some none ∧ PySem.W.findIn K (.ref C) g = some none ∧ H a = some (exo a C none) ∧
  ∀ H', (∀ b o, b ≠ a → H b = some o → H' b = some o) → XA H' a C [(g, z), (f, y)] → Q .non H'
theorem x1_end {H : Hp} {a C d : Addr} {f : Str} {y : V} (nd : H d = none) (ne : d ≠ a) :
    (∀ b o, b ≠ a → H b = some o → (upd (upd H d (exd d [(f, y)])) a (exo a C (some d))) b = some o) ∧ XA (upd (upd H d (exd d [(f, y)])) a (exo a C (some d))) a C [(f, y)] := by
  refine ⟨fun b o n e => ?_, d, upd_same, ?_⟩
  · rw [upd_ne n, upd_ne (ne_of_none e nd)]
    exact e
  · rw [upd_ne ne, upd_same]
theorem x2_end {H : Hp} {a C d : Addr} {f g : Str} {y z : V} (nd : H d = none) (ne : d ≠ a) :
    (∀ b o, b ≠ a → H b = some o → (upd (upd (upd H d (exd d [(f, y)])) a (exo a C (some d))) d (exd d [(g, z), (f, y)])) b = some o) ∧ XA (upd (upd (upd H d (exd d [(f, y)])) a (exo a C (some d))) d (exd d [(g, z), (f, y)])) a C [(g, z), (f, y)] := by
  refine ⟨fun b o n e => ?_, d, ?_, upd_same⟩
  · rw [upd_ne (ne_of_none e nd), upd_ne n, upd_ne (ne_of_none e nd)]
    exact e
  · rw [upd_ne ne.symm, upd_same]
/-- arguments that are values whatever the heap -/
def EvV (ta : TA) (σ : L2.St) (vs : List V) : Prop := ∀ (H : Hp) (Q : List V → Hp → Prop), Q vs H → ta σ H Q
theorem evv_nil {σ : L2.St} : EvV tNil σ [] := fun _ _ q => q
theorem evv_c {σ : L2.St} {v : V} {ta : TA} {vs : List V} (h : EvV ta σ vs) : EvV (tCons (tC v) ta) σ (v :: vs) := fun H Q q => h H _ q
theorem evv_v {σ : L2.St} {i : Nat} {v : V} {ta : TA} {vs : List V} (e : σ[i]? = some (some v)) (h : EvV ta σ vs) : EvV (tCons (tVar i) ta) σ (v :: vs) := fun H Q q => ⟨v, e, h H _ q⟩
def EvX (ta : TA) (σ : L2.St) (cfs : List (Addr × List (Str × V))) : Prop := ∀ (H : Hp) (Q : List V → Hp → Prop), (∀ (es : List Addr) (H2 : Hp), Same H H2 → XAs H2 es cfs → Q (es.map V.ref) H2) → ta σ H Q
theorem evx_nil {σ : L2.St} : EvX tNil σ [] := fun H Q q => q [] H (Same.refl H) .nil
theorem evx_1 {K : PySem.W.Frag} {σ : L2.St} {C : Addr} {f : Str} {y : V} {ta tr : TA} {cfs : List (Addr × List (Str × V))} (T : OexC K C) (n : PySem.W.findIn K (.ref C) f = some none) (h : EvV ta σ [y]) (hr : EvX tr σ cfs) : EvX (tCons (tEx C (spX1 K f) ta) tr) σ ((C, [(f, y)]) :: cfs) := fun H Q q =>
  h H _ ⟨by show 1 ≤ 1000; decide, fun a na => ⟨a, C, y, rfl, T, n, upd_same, fun H' k xa => ⟨rfl, hr H' _ fun es H2 s p => q (a :: es) H2 (fun b o e => s b o (k b o (ne_of_none e na) (by rw [upd_ne (ne_of_none e na)]; exact e))) (.cons (XA.mono s xa) p)⟩⟩⟩
theorem evx_2 {K : PySem.W.Frag} {σ : L2.St} {C : Addr} {f g : Str} {y z : V} {ta tr : TA} {cfs : List (Addr × List (Str × V))} (T : OexC K C) (n : PySem.W.findIn K (.ref C) f = some none) (n2 : PySem.W.findIn K (.ref C) g = some none) (h : EvV ta σ [y, z]) (hr : EvX tr σ cfs) :
    EvX (tCons (tEx C (spX2 K f g) ta) tr) σ ((C, [(g, z), (f, y)]) :: cfs) := fun H Q q =>
  h H _ ⟨by show 2 ≤ 1000; decide, fun a na => ⟨a, C, y, z, rfl, T, n, n2, upd_same, fun H' k xa => ⟨rfl, hr H' _ fun es H2 s p => q (a :: es) H2 (fun b o e => s b o (k b o (ne_of_none e na) (by rw [upd_ne (ne_of_none e na)]; exact e))) (.cons (XA.mono s xa) p)⟩⟩⟩
/-- [X(..), ..] -/
theorem st_list {σ : L2.St} {H : Hp} {ta : TA} {cfs : List (Addr × List (Str × V))} {Q : VK} (ev : EvX ta σ cfs) (hz : cfs.length ≤ 1000) (k : ∀ L es H', H L = none → Same H H' → H' L = some (.lst (es.map V.ref)) → XAs H' es cfs → Q (.ref L) H') : tLst ta σ H Q :=
  ev H _ fun es H2 s p => ⟨by rw [List.length_map, paired_len p]; exact Nat.le_of_lt (small1000 hz), fun L nL => k L es _ (s.free nL) (s.trans (same_upd nL)) upd_same (XAs.mono (same_upd nL) p)⟩
/-- found + [X(..), ..] -/
theorem st_more {σ : L2.St} {H : Hp} {i : Nat} {L : Addr} {es : List Addr} {ta : TA} {cfs old : List (Addr × List (Str × V))} {Q : VK} (ev : EvX ta σ cfs) (hσ : σ[i]? = some (some (.ref L))) (hL : H L = some (.lst (es.map V.ref))) (ho : XAs H es old) (hz : old.length + cfs.length ≤ 1000)
    (k : ∀ L' es' H', H L' = none → Same H H' → H' L' = some (.lst (es'.map V.ref)) → XAs H' es' (old ++ cfs) → Q (.ref L') H') : tOp rCat (tVar i) (tLst ta) σ H Q :=
  ⟨.ref L, hσ, st_list ev (by omega) fun L2 es2 H2 n2 s2 h2 p2 => ⟨L, L2, _, _, rfl, rfl, s2 _ _ hL, h2, by rw [List.length_map, List.length_map, paired_len p2, paired_len ho]; exact Nat.le_of_lt (small1000 hz), fun p np =>
    k p (es ++ es2) _ (s2.free np) (s2.trans (same_upd np)) (by rw [upd_same, List.map_append]) (XAs.mono (same_upd np) (paired_app (XAs.mono s2 ho) p2))⟩⟩
/-! ### statements, one by one -/
section
variable {D : Ends} {σ : L2.St} {H : Hp} {a b : TS} {te : TE} {g : TG} {i : Nat}
theorem q_seq (h : a { D with nx := fun s h => b D s h } σ H) : tSeq a b D σ H := h
theorem q_set (h : te σ H fun v H1 => D.nx (σ.set i (some v)) H1) : tAsg te (gName i) D σ H := h
theorem q_setc {v : V} (h : D.nx (σ.set i (some v)) H) : tAsg (tC v) (gName i) D σ H := h
theorem q_next (h : D.nx σ H) : tNext D σ H := h
theorem q_if {t : TT} {c : TS} (h : t σ H fun b H1 => if b = true then a D σ H1 else c D σ H1) : tIfS t a c D σ H := h
theorem q_ret (h : te σ H D.rt) : tRet te D σ H := h
end
/-! ### data that may be shown: at most n signs, at most k deep -/
structure Sm (n k : Nat) (d : PyData) : Prop where
  s : d.showable = true
  h : d.hasDict = false
  l : d.depth ≤ k
  z : d.shown.length ≤ n
theorem Sm.mono {n k n' k' : Nat} {d : PyData} (x : Sm n k d) (h1 : n ≤ n') (h2 : k ≤ k') : Sm n' k' d := ⟨x.s, x.h, Nat.le_trans x.l h2, Nat.le_trans x.z h1⟩
theorem Sm.okd {n k : Nat} {d : PyData} (x : Sm n k d) (h1 : n ≤ 1000000) (h2 : k ≤ 32) : Okd d := ⟨x.s, x.h, Nat.le_trans x.l h2, Nat.le_trans x.z h1⟩
theorem Sm.all {n k : Nat} : ∀ {ds : List PyData}, (∀ d ∈ ds, Sm n k d) → PyData.showableAll ds = true ∧ PyData.hasDictAll ds = false ∧ PyData.depthAll ds ≤ k ∧ ((PyData.shownAll ds).map (·.length)).sum ≤ ds.length * n ∧ (PyData.shownAll ds).length = ds.length
  | [], _ => ⟨by simp only [PyData.showableAll], by simp only [PyData.hasDictAll], by simp only [PyData.depthAll]; exact Nat.zero_le _, by simp [PyData.shownAll], by simp [PyData.shownAll]⟩
  | x :: xs, h => by
    obtain ⟨h1, h2, h3, h4⟩ := h x List.mem_cons_self
    obtain ⟨a, b, c, e, l⟩ := Sm.all (ds := xs) fun d m => h d (List.mem_cons_of_mem _ m)
    refine ⟨by simp only [PyData.showableAll, h1, a, Bool.and_self], by simp only [PyData.hasDictAll, h2, b, Bool.or_self], by simp only [PyData.depthAll]; omega, ?_, by simp only [PyData.shownAll, List.length_cons, l]⟩
    simp only [PyData.shownAll, List.map_cons, List.sum_cons, List.length_cons, Nat.succ_mul]
    omega
theorem Sm.list {n k : Nat} {ds : List PyData} (h : ∀ d ∈ ds, Sm n k d) : Sm (ds.length * n + 2 * ds.length + 3) (k + 1) (.list ds) := by
  obtain ⟨a, b, c, e, l⟩ := Sm.all h
  refine ⟨by simp only [PyData.showable, a], by simp only [PyData.hasDict, b], by simp only [PyData.depth]; omega, ?_⟩
  have z := listText_len_le (PyData.shownAll ds)
  simp only [PyData.shown]
  omega
theorem Sm.tuple {n k : Nat} {ds : List PyData} (h : ∀ d ∈ ds, Sm n k d) : Sm (ds.length * n + 2 * ds.length + 3) (k + 1) (.tuple ds) := by
  obtain ⟨a, b, c, e, l⟩ := Sm.all h
  refine ⟨by simp only [PyData.showable, a], by simp only [PyData.hasDict, b], by simp only [PyData.depth]; omega, ?_⟩
  have z := tupleText_len_le (PyData.shownAll ds)
  simp only [PyData.shown]
  omega
theorem Sm.int {i : Int} (h : i.natAbs < 10 ^ 12) : Sm 13 0 (.int i) := by
  refine ⟨?_, by simp only [PyData.hasDict], by simp only [PyData.depth]; exact Nat.le_refl _, PyData.shown_int_le h⟩
  simp only [PyData.showable, decide_eq_true_eq]
  by_cases z : i.natAbs = 0
  · rw [z]
    decide
  · exact Nat.lt_trans ((Nat.log2_lt z).mpr (Nat.lt_trans h (by decide : 10 ^ 12 < 2 ^ 40))) (by decide)
theorem DpAll.rep {K : PySem.W.Frag} {H : Hp} {v : V} {d : PyData} (h : Dp K H v d) : ∀ n : Nat, DpAll K H (List.replicate n v) (List.replicate n d)
  | 0 => .nil
  | n + 1 => .cons h (DpAll.rep h n)
mutual
theorem Dp.same {K : PySem.W.Frag} {H H' : Hp} (s : Same H H') : ∀ {v : V} {d : PyData}, Dp K H v d → Dp K H' v d
  | _, _, .non => .non
  | _, _, .bl b => .bl b
  | _, _, .int i => .int i
  | _, _, .str x => .str x
  | _, _, .lst h a => .lst (s.seq h) (DpAll.same s a)
  | _, _, .tup h a => .tup (by
      rcases h with (h | ⟨o, h⟩) | h
      · exact .inl (.inl (s _ _ h))
      · exact .inl (.inr ⟨o, s _ _ h⟩)
      · exact .inr h) (DpAll.same s a)
theorem DpAll.same {K : PySem.W.Frag} {H H' : Hp} (s : Same H H') : ∀ {vs : List V} {ds : List PyData}, DpAll K H vs ds → DpAll K H' vs ds
  | _, _, .nil => .nil
  | _, _, .cons h a => .cons (Dp.same s h) (DpAll.same s a)
end
/-- data that the hand is no part of -/
def Dps (K : PySem.W.Frag) (h : Addr) (H : Hp) (v : V) (d : PyData) : Prop := ∀ H', Kp h H H' → Dp K H' v d
theorem Dps.kp {K : PySem.W.Frag} {h : Addr} {H H' : Hp} {v : V} {d : PyData} (x : Dps K h H v d) (k : Kp h H H') : Dps K h H' v d := fun H2 k2 => x H2 (k.trans k2)
theorem Dps.now {K : PySem.W.Frag} {h : Addr} {H : Hp} {v : V} {d : PyData} (x : Dps K h H v d) : Dp K H v d := x H Kp.refl
/-! ### own exception classes, one and two fields -/
structure Cl1 (P : Program) (w : World) (K : PySem.W.Frag) (mg : Str → Option Value) (base : Heap) (x f : Str) (C : Addr) : Prop where
  g : mg x = some (.ref C)
  o : OexC K C
  xf : XfC K C
  xe : ExcC K C
  no : PySem.W.findIn K (.ref C) f = some none
  made : ∃ fI fd, PySem.W.findIn K (.ref C) "__init__" = some (some (.ref fI)) ∧ PySem.W.typeIn K (.ref fI) = some (.type "function") ∧ FnOk P w K mg base CX0 1 fI fd ["self", f] (spX1 K f) ∧ Binds K fd ["self", f] [] ∧
    ∀ (s : Shared) (self : Value) (ws : List Value), ws.length = [f].length → BindsTo s fd ⟨[self], [f].zip ws⟩ ((["self", f] : List Str).zip (self :: ws))
structure Cl2 (P : Program) (w : World) (K : PySem.W.Frag) (mg : Str → Option Value) (base : Heap) (x f g2 : Str) (C : Addr) : Prop where
  g : mg x = some (.ref C)
  o : OexC K C
  xf : XfC K C
  xe : ExcC K C
  no : PySem.W.findIn K (.ref C) f = some none
  no2 : PySem.W.findIn K (.ref C) g2 = some none
  made : ∃ fI fd, PySem.W.findIn K (.ref C) "__init__" = some (some (.ref fI)) ∧ PySem.W.typeIn K (.ref fI) = some (.type "function") ∧ FnOk P w K mg base CX0 1 fI fd ["self", f, g2] (spX2 K f g2) ∧ Binds K fd ["self", f, g2] [] ∧
    ∀ (s : Shared) (self : Value) (ws : List Value), ws.length = [f, g2].length → BindsTo s fd ⟨[self], [f, g2].zip ws⟩ ((["self", f, g2] : List Str).zip (self :: ws))
section
variable {X : Cx} {x f g2 : Str} {C : Addr} {p pos : Pos} {e : Expr} {es : List Expr} {kws : List Keyword} {ta : TA}
theorem pe_c1 (c : Cl1 X.prog X.w X.K X.mg X.base x f C) (hr : Room 2 X.A) (hg : Gl X x) (ha : PA X (e :: es) ta) (hdb : (x == ("__debug__" : Str)) = false := by decide) (he : starEach (e :: es) X.env = (false, eval e X.env) :: starEach es X.env := by rfl)
    (hpl : (backTo pos (starEach es X.env)).any (·.1) = false := by rfl) : PE X (.Call (.Name x p) (e :: es) [] pos) (tEx C (spX1 X.K f) ta) := by
  obtain ⟨fI, fd, i, t, F, b, _⟩ := c.made
  exact pe_ex c.o i t F hr hg c.g b pass0 ha hdb he hpl
theorem pe_k1 (c : Cl1 X.prog X.w X.K X.mg X.base x f C) (hr : Room 2 X.A) (hg : Gl X x) (hkw : PK X kws ta) (hall : (backToKw pos (keywordEach kws X.env)).all (·.1.isSome) = true := by rfl) (hks : (backToKw pos (keywordEach kws X.env)).filterMap (·.1) = [f] := by rfl)
    (hdb : (x == ("__debug__" : Str)) = false := by decide) (hpl : ((backTo pos (starEach [] X.env)).any (·.1) || (backToKw pos (keywordEach kws X.env)).any (·.1.isNone)) = false := by rfl) : PE X (.Call (.Name x p) [] kws pos) (tEx C (spX1 X.K f) ta) := by
  obtain ⟨fI, fd, i, t, F, _, b⟩ := c.made
  exact pe_exk (ks := [f]) c.o i t F hr hg c.g rfl b pass0 hkw hall hks hdb hpl
theorem pe_c2 (c : Cl2 X.prog X.w X.K X.mg X.base x f g2 C) (hr : Room 2 X.A) (hg : Gl X x) (ha : PA X (e :: es) ta) (hdb : (x == ("__debug__" : Str)) = false := by decide) (he : starEach (e :: es) X.env = (false, eval e X.env) :: starEach es X.env := by rfl)
    (hpl : (backTo pos (starEach es X.env)).any (·.1) = false := by rfl) : PE X (.Call (.Name x p) (e :: es) [] pos) (tEx C (spX2 X.K f g2) ta) := by
  obtain ⟨fI, fd, i, t, F, b, _⟩ := c.made
  exact pe_ex c.o i t F hr hg c.g b pass0 ha hdb he hpl
theorem pe_k2 (c : Cl2 X.prog X.w X.K X.mg X.base x f g2 C) (hr : Room 2 X.A) (hg : Gl X x) (hkw : PK X kws ta) (hall : (backToKw pos (keywordEach kws X.env)).all (·.1.isSome) = true := by rfl) (hks : (backToKw pos (keywordEach kws X.env)).filterMap (·.1) = [f, g2] := by rfl)
    (hdb : (x == ("__debug__" : Str)) = false := by decide) (hpl : ((backTo pos (starEach [] X.env)).any (·.1) || (backToKw pos (keywordEach kws X.env)).any (·.1.isNone)) = false := by rfl) : PE X (.Call (.Name x p) [] kws pos) (tEx C (spX2 X.K f g2) ta) := by
  obtain ⟨fI, fd, i, t, F, _, b⟩ := c.made
  exact pe_exk (ks := [f, g2]) c.o i t F hr hg c.g rfl b pass0 hkw hall hks hdb hpl
end
/-- e.f of an own exception, within a comprehension -/
theorem pe_xak {X : Cx} (K : PySem.W.Frag) {e : Expr} {te : TE} {n : Str} {pos : Pos} (hK : X.K = K) (he : PE X e te) (hb : attributeBase e n X.env (eval e X.env) = eval e X.env := by rfl) : PE X (.Attribute e n pos) (tXA K n te) := by
  subst hK
  exact pe_xa he hb
end Ek

namespace Ek
open PySem PySem.Spec PyProof.Rows L2
/-! ### min of a tuple of ints -/
section
variable {prog : Program} {w : World} {A : Around} {E : Value → Shared → Prop} {s : Shared} {l : Addr} {xs : Array (Int × Tok)}
theorem min_intTup {its : List Value} {ns : List Int} {Q : Value → Shared → Prop} (hh : A.handled = none) (hl : s.heap.IsTuple l its.toArray) (hi : IntsAre its ns) (hne : 0 < ns.length)
    (h : ∀ h' tk M t', (∀ b o, s.heap.get? b = some o → h'.get? b = some o) → M ∈ ns → (∀ a, a ∈ ns → M ≤ a) → Q (.int M t') { s with heap := h', toks := tk }) : wpAny (model prog w) A (call (.builtin "min") [.ref l]) Q E s := by
  obtain ⟨xs, e⟩ := hi.allInts.items
  have hn : numsOf (intItems xs).toList = ns := by rw [← e]; exact hi.numsOf
  rw [nums_intItems] at hn
  subst hn
  rw [e] at hl
  have sz : 0 < xs.size := by simpa using hne
  have hlt : l < s.heap.objs.size := by obtain ⟨_, z, _⟩ := hl; exact Heap.lt_size z
  refine call_min_walk (wpAny_pyIter_tuple hl ?_)
  refine ⟨_, _, _, _, _, _, _, rfl, Walks.tuple (A := A.in1) hh _ l (Nat.ne_of_lt hlt) (intItems xs), ⟨⟨_, Heap.get?_push_size _ rfl, rfl, rfl⟩, hl.push _⟩, (fun b hb => ?_), (by simpa [intItems] using sz), CmpOf.ints_lt (numAt xs) (fun _ _ => intItems_at), fun v h' tk hP hk => ?_⟩
  · show b < (s.heap.push _).objs.size
    rw [Heap.size_push]
    simp only [List.mem_cons, List.not_mem_nil, or_false] at hb
    rcases hb with rfl | rfl
    · exact Nat.lt_succ_self _
    · exact Nat.lt_succ_of_lt hlt
  · have hv : (intItems xs)[argBest (fun i j => decide (numAt xs i < numAt xs j)) (xs.size - 1)]? = some v := by simpa [intItems] using hP
    obtain ⟨t, rfl⟩ := intItems_at hv
    obtain ⟨h1, h2⟩ := argBest_lt (numAt xs) (xs.size - 1)
    refine h h' tk _ t (fun b o z => hk b o (fun hm => ?_) (Heap.get?_push_of_some _ z)) ?_ fun a ha => ?_
    · simp only [List.mem_cons, List.not_mem_nil, or_false] at hm
      exact absurd (hm ▸ Heap.lt_size z) (Nat.lt_irrefl _)
    · rw [numAt_eq]
      exact PySem.getD_mem (by rw [List.length_map, Array.length_toList]; omega)
    · obtain ⟨j, hj, rfl⟩ := mem_getD ha
      rw [List.length_map, Array.length_toList] at hj
      rw [← numAt_eq]
      exact h2 j (by omega)
end
def rMinT (K : PySem.W.Frag) : List V → Hp → VK → Prop := fun vs H Q => ∃ (a : Addr) (ns : List Int), vs = [V.ref a] ∧ SqT K H a (ns.map V.int) ∧ 0 < ns.length ∧ ∀ m, m ∈ ns → (∀ y, y ∈ ns → m ≤ y) → Q (.int m) H
/-- '0' times a size -/
def rRep0 : R2 := fun x y H Q => ∃ k : Nat, x = .str "0" ∧ y = .int (k : Int) ∧ ((k = 1 ∧ Q (.str "0") H) ∨ (k = 2 ∧ Q (.str "00") H) ∨ (k = 3 ∧ Q (.str "000") H))
section
variable {X : Cx}
theorem call_minT (hc : X.calm = true) : CallR X (.builtin "min") (rMinT X.K) := by
  intro pins s σ H vs us Q I r h
  obtain ⟨a, ns, rfl, hs, hne, q⟩ := h
  obtain ⟨its, rv, hl, _⟩ := I.tuple hs
  rw [Vals.ref1 r]
  exact min_intTup (I.ok.hd hc) hl rv.ints hne fun h' tk m t' hk h1 h2 => ⟨.int _, H, I.kept hk, ⟨_, rfl⟩, q m h1 h2⟩
/-- a == y by a's own ==; y of whatever type -/
def rOwnEq (K : PySem.W.Frag) (C : Addr) (sp : Sp) (E : XK) : R2 := fun x y H Q => ∃ (a dx : Addr) (fs : List (Str × V)) (t : Value), x = .ref a ∧ H a = some (.ins C dx fs) ∧ TyOf K H y t ∧ PySem.W.notFirst K C t = true ∧ sp [x, y] H (fun v H' => ∃ b, v = .bl b ∧ Q v H') E
theorem op_ownEq {CX : CXT} {C f : Addr} {fd : FuncData} {ps : List Str} {k : Nat} {sp : Sp} {E : XK} (F : FnOk X.prog X.w X.K X.mg X.base CX k f fd ps sp) (hr : Room k X.A) (hs : PySem.W.findIn X.K (.ref C) "__eq__" = some (some (.ref f))) (hf : PySem.W.isFn X.K (.ref f) = true)
    (hb : Binds X.K fd ps []) (hx : Passes CX X E) : OpR X (compareOp .Eq) (rOwnEq X.K C sp E) := by
  intro pins s σ H x y v u Q I rx ry h
  obtain ⟨a, dx, fs, t, rfl, ha, ty, hn, hsp⟩ := h
  obtain rfl : v = Value.ref a := rx
  obtain ⟨mA, J, _⟩ := ins_get I.hok ha
  obtain ⟨od, J, _⟩ := J.look
  obtain ⟨m, hF⟩ := I.fr
  obtain ⟨PP, Z, pp, _⟩ := kit_of I ry (.base ty)
  show wpAny (model X.prog X.w) X.A (richCompare .Eq (.ref a) u) (EP X pins σ Q) X.xe s
  refine PySem.W.cmp_K (op := .Eq) (tb := t) hr.units0 hF I.ok.mod.kin J (Z.ty _ _ I.kIn pp) hn hs hf ?_
  have r2 : Vals [V.ref a, y] [Value.ref a, u] := .cons rfl (.cons ry .nil)
  have hl := F.len _ _ _ _ hsp
  refine wpAny_call (codeAny_mono (F.run X.A X.stack s H ⟨[.ref a, u], []⟩ [.ref a, u] [.ref a, y] _ E hr I.env0 (by
    have z := hb s [.ref a, u] I.kIn (by simpa using hl)
    simpa using z) r2 hsp) fun r s' z => ?_)
  rcases r with e | (_ | _ | _ | w)
  · exact hx pins σ H s e s' I z
  · exact False.elim z
  · exact False.elim z
  · exact False.elim z
  · obtain ⟨z, H', I', rz, b, ez, q⟩ := I.after z
    subst ez
    obtain rfl : w = Value.bool b := rz
    exact ⟨.bl b, H', I', rfl, q⟩
theorem op_rep0 : OpR X (binaryOp .Mult) rRep0 := by
  intro pins s σ H x y v u Q I rx ry h
  obtain ⟨k, rfl, rfl, h⟩ := h
  obtain ⟨t, rfl⟩ := rx
  obtain ⟨t2, rfl⟩ := ry
  rcases h with ⟨rfl, q⟩ | ⟨rfl, q⟩ | ⟨rfl, q⟩
  · exact PySem.P.mul_str (by decide +kernel) (fun _ _ => by decide +kernel) (fun _ _ => by decide +kernel) (show Made.post (Made.val (.str "0" t)) _ _ from ⟨.str "0", H, I, ⟨t, rfl⟩, q⟩)
  · exact PySem.P.mul_str (by decide +kernel) (fun _ _ => by decide +kernel) (fun _ _ => by decide +kernel) (show Made.post (Made.str ⟨#[48, 48]⟩) _ _ from ⟨by decide +kernel, .str "00", H, I.tok _, ⟨_, rfl⟩, q⟩)
  · exact PySem.P.mul_str (by decide +kernel) (fun _ _ => by decide +kernel) (fun _ _ => by decide +kernel) (show Made.post (Made.str ⟨#[48, 48, 48]⟩) _ _ from ⟨by decide +kernel, .str "000", H, I.tok _, ⟨_, rfl⟩, q⟩)
end
/-! ### making and calling where what is raised is caught -/
def tMakeS (C : Addr) (sp : Sp) (E : L2.St → XK) (t : TA) : TE := fun σ H Q => t σ H fun vs H1 => ∀ x dx, H1 x = none → H1 dx = none → dx ≠ x → sp (.ref x :: vs) (upd (upd H1 dx (.own x)) x (.ins C dx [])) (fun v H2 => v = .non ∧ Q (.ref x) H2) (E σ)
def tMethS (C : Addr) (m : Str) (sp : Sp) (E : L2.St → XK) (ta : TE) (t : TA) : TE := fun σ H Q => ta σ H fun x H1 => ∃ a dx fs, x = .ref a ∧ H1 a = some (.ins C dx fs) ∧ fs.lookup m = none ∧ t σ H1 fun vs H2 => sp (x :: vs) H2 Q (E σ)
section
variable {X : Cx} {CX : CXT} {k : Nat} {f C : Addr} {fd : FuncData} {ps : List Str} {sp : Sp} {E : L2.St → XK} {x m : Str} {p pos apos : Pos} {e o : Expr} {es : List Expr} {ta : TE} {t : TA}
theorem pe_makeS (M : Mk X.K C f) (F : FnOk X.prog X.w X.K X.mg X.base CX k f fd ps sp) (hr : Room (k + 1) X.A) (hg : Gl X x) (hm : X.mg x = some (.ref C)) (hb : Binds X.K fd ps []) (hx : ∀ σ, PassesAt CX X σ (E σ)) (ha : PA X (e :: es) t) (hdb : (x == ("__debug__" : Str)) = false := by decide)
    (he : starEach (e :: es) X.env = (false, eval e X.env) :: starEach es X.env := by rfl) (hpl : (backTo pos (starEach es X.env)).any (·.1) = false := by rfl) : PE X (.Call (.Name x p) (e :: es) [] pos) (tMakeS C sp E t) := by
  refine ⟨fun pins s σ H Q I h => ?_⟩
  refine wpAny_Call_Name_kw (ld_glob I hg hm (PySem.W.callWith_K (h₀ := X.base) I.ok.mod.kin M.kp (thn (ha.run pos pins s σ H _ I h) fun us s1 ⟨vs, H1, I1, r, q⟩ => ⟨I1.kIn, ?_⟩) he hpl) hdb)
  have hq := q (s1.heap.objs.size + 1) s1.heap.objs.size (I1.hok.fresh (Nat.le_succ _)) (I1.hok.fresh (Nat.le_refl _)) (Nat.ne_of_lt (Nat.lt_succ_self _))
  have I2 := Inv.made (C := C) I1
  have r2 : Vals (V.ref (s1.heap.objs.size + 1) :: vs) (Value.ref (s1.heap.objs.size + 1) :: us) := .cons rfl r
  have hl : (Value.ref (s1.heap.objs.size + 1) :: us).length = ps.length := r2.length.symm.trans (F.len _ _ _ _ hq)
  refine wpAny_call (make_map (f := f) I1.kIn M.makes M.init (beq_iff_eq.mp M.fn) (codeAny_mono (F.run _ X.stack _ _ ⟨Value.ref (s1.heap.objs.size + 1) :: us, []⟩ (Value.ref (s1.heap.objs.size + 1) :: us) _ _ (E σ) (hr.make C us []) (I2.env0.make C us []) (by
    have z := hb _ (Value.ref (s1.heap.objs.size + 1) :: us) I2.kIn (by simpa using hl)
    simpa using z) r2 hq) fun r s' z => ?_))
  rcases r with er | (_ | _ | _ | u)
  · exact hx σ pins _ _ er s' I2 z
  · exact False.elim z
  · exact False.elim z
  · exact False.elim z
  · obtain ⟨v, H', I3, rv, ev, q3⟩ := I2.after z
    subst ev
    exact ⟨rv, ⟨V.ref (s1.heap.objs.size + 1), H', I3, rfl, q3⟩⟩
theorem run_S {pins : List (Addr × Obj)} {σ : L2.St} {H : Hp} {s : Shared} {Q : VK} {us : List Value} {vs : List V} {args : Args} (F : FnOk X.prog X.w X.K X.mg X.base CX k f fd ps sp) (hr : Room k X.A) (hb : BindsTo s fd args (ps.zip us)) (hx : PassesAt CX X σ (E σ)) (I : Inv X pins σ H s) (r : Vals vs us)
    (h : sp vs H Q (E σ)) : wpAny (model X.prog X.w) X.A (call (.ref f) args.pos args.kw) (EP X pins σ Q) X.xe s := by
  refine wpAny_call (codeAny_mono (F.run X.A X.stack s H args us vs Q (E σ) hr I.env0 hb r h) fun r s' z => ?_)
  rcases r with er | (_ | _ | _ | u)
  · exact hx pins _ _ er s' I z
  · exact False.elim z
  · exact False.elim z
  · exact False.elim z
  · exact I.after z
/-- o.m(k = v, ..) -/
theorem pe_methKS {kws : List Keyword} {ks : List Str} {pl : Sem Bool} (he : PE X o ta) (c : Cls X.K C) (hm : Meth X.K C m f) (F : FnOk X.prog X.w X.K X.mg X.base CX k f fd ps sp) (hr : Room k X.A) (hps : ps.length = ks.length + 1)
    (hb : ∀ (s : Shared) (self : Value) (ws : List Value), ws.length = ks.length → BindsTo s fd ⟨[self], ks.zip ws⟩ (ps.zip (self :: ws))) (hx : ∀ σ, PassesAt CX X σ (E σ)) (hkw : PK X kws t)
    (hall : (backToKw pos (keywordEach kws X.env)).all (·.1.isSome) = true := by rfl) (hks : (backToKw pos (keywordEach kws X.env)).filterMap (·.1) = ks := by rfl) (hpl : ((backTo pos (starEach [] X.env)).any (·.1) || (backToKw pos (keywordEach kws X.env)).any (·.1.isNone)) = false := by rfl)
    (ht : eval (.Call (.Attribute o m apos) [] kws pos) X.env = (do
      let ov ← eval o X.env
      standAt apos.atName
      let (f, first) ← holding [ov] (getMethod ov m pl)
      callWith pos f first (backTo pos (starEach [] X.env)) (backToKw pos (keywordEach kws X.env))) := by rfl) : PE X (.Call (.Attribute o m apos) [] kws pos) (tMethS C m sp E ta t) := by
  refine ⟨fun pins s σ H Q I h => ?_⟩
  refine PySem.W.methodCall_KW (pl := pl) (thn (he.run pins s σ H _ I h) fun u s1 ⟨x, H1, I1, rx, a, dx, fs, ex, ea, l, q⟩ => ?_) ht
  subst ex
  obtain rfl : u = Value.ref a := rx
  refine getmeth_ok I1 ea c hm l ?_
  refine PySem.W.callWith_KW0 (first := [.ref a]) (h₀ := X.base) I1.ok.mod.kin hm.kp hall ?_ hpl
  refine thn (hkw.run pos pins s1 σ H1 _ I1 q) fun ws s2 ⟨zs, H2, I2, rz, q2⟩ => ⟨I2.kIn, ?_⟩
  rw [hks]
  have hl : ws.length = ks.length := by
    have z := F.len _ _ _ _ q2
    rw [← rz.length]
    exact Nat.succ.inj (z.trans hps)
  exact run_S (args := ⟨[.ref a], ks.zip ws⟩) (us := .ref a :: ws) F hr (hb s2 _ ws hl) (hx σ) I2 (show Vals (V.ref a :: zs) (Value.ref a :: ws) from .cons rfl rz) q2
end
/-- isinstance(e, c), e the exception that the suite holds, d its own dict -/
def rIsES (K : PySem.W.Frag) (a : Addr) (cls : Value) (d : Option Addr) : List V → Hp → VK → Prop := fun xs H Q => ∃ (D dd : Addr) (fs : List (Str × V)) (c : V) (u : Value) (b : Bool), xs = [.ref a, c] ∧ cls = .ref D ∧ ExcC K D ∧ d = some dd ∧ H dd = some (.xd fs) ∧ ClsV c u ∧ PySem.W.kitOne K (.ref D) u = some b ∧ Q (.bl b) H
theorem call_isES {X : Cx} {a : Addr} {oe : Obj} {cls : Value} {d : Option Addr} {pn : List (Addr × Obj)} (hz : Zc cls d oe) (hf : ∃ vs, oe.data = .fields vs) : CallR (X.suite a ((a, oe) :: pn)) (.builtin "isinstance") (rIsES X.K a cls d) := by
  intro pins s σ H xs us Q I r h
  obtain ⟨D, dd, fs, c, u, b, rfl, rfl, C, rfl, hx, k, e, q⟩ := h
  obtain ⟨u1, u2, rfl, r1, r2⟩ := vals2 r
  have e2 := k.eq r2
  subst e2
  obtain rfl : u1 = Value.ref a := r1
  obtain ⟨ha, _⟩ := I.pin (a, oe) (List.mem_append_left _ List.mem_cons_self)
  obtain ⟨vs, hd⟩ := hf
  have hxd : ObjOk X.prog X.w H s.heap dd (.xd fs) := I.hok dd _ hx
  obtain ⟨mA, hns, _⟩ := hxd
  obtain ⟨od, ho, _⟩ := lookIn_ns hns
  have J : PySem.W.InstAt s.heap a oe D (some od) := ⟨ha, hz.1, by unfold PySem.W.notCls; rw [hd] <;> rfl, by rw [hz.2]; exact ho⟩
  have hcl : (PySem.W.clsIn X.K D).isSome = true := by
    obtain ⟨cd, hc, _⟩ := PySem.W.any_some C.hd
    rw [hc]
    rfl
  exact PySem.W.kia_one (PySem.W.kitx_exc hcl C.hg C.hk C.hs C.ha C.hn C.ht C.hm) I.kIn J e (fun z => nomatch z) fun tk => ⟨.bl b, H, I.kept (t' := tk) fun _ _ z => z, rfl, q⟩
/-! ### turns of a loop, whatever its body -/
section
variable {K : PySem.W.Frag} {a : Addr} {xs : List V} {Bd : V → Hp → (Hp → Prop) → Prop} {H0 : Hp} {Fin : Hp → Prop}
theorem lp_tup (Pv : Nat → Hp → Prop) (h0 : Pv 0 H0) (hl : ∀ i H, i ≤ xs.length → Pv i H → SqT K H a xs) (hs : ∀ i x H, xs[i]? = some x → Pv i H → Bd x H (Pv (i + 1))) (hd : ∀ H, Pv xs.length H → Fin H) :
    ∃ W : Nat → Nat → Hp → Prop, (∃ m, W 0 m H0) ∧ ∀ i m H, W i m H → ((Itt K a).stop i H ∧ Fin H) ∨ ((Itt K a).go i H ∧ ∃ Nx : Hp → Prop, (∀ H', Nx H' → ∃ m', m' < m ∧ W (i + 1) m' H') ∧ ∀ x H', (Itt K a).yld i H x H' → Bd x H' Nx) := by
  refine ⟨fun i m H => i + m = xs.length ∧ Pv i H, ⟨xs.length, by omega, h0⟩, fun i m H ⟨em, p⟩ => ?_⟩
  have q := hl i H (by omega) p
  by_cases lt : i < xs.length
  · refine .inr ⟨⟨xs, xs[i], q, List.getElem?_eq_getElem lt⟩, Pv (i + 1), fun H' p' => ⟨m - 1, by omega, by omega, p'⟩, fun x H' y => ?_⟩
    obtain ⟨rfl, y⟩ := y
    exact hs i x H' (y xs q) p
  · obtain rfl : i = xs.length := by omega
    exact .inl ⟨⟨xs, q, Nat.le_refl _⟩, hd H p⟩
theorem lp_list (Pv : Nat → Hp → Prop) (h0 : Pv 0 H0) (hl : ∀ i H, i ≤ xs.length → Pv i H → SqL K H a xs) (hs : ∀ i x H, xs[i]? = some x → Pv i H → Bd x H (Pv (i + 1))) (hd : ∀ H, Pv xs.length H → Fin H) :
    ∃ W : Nat → Nat → Hp → Prop, (∃ m, W 0 m H0) ∧ ∀ i m H, W i m H → ((Itl K a).stop i H ∧ Fin H) ∨ ((Itl K a).go i H ∧ ∃ Nx : Hp → Prop, (∀ H', Nx H' → ∃ m', m' < m ∧ W (i + 1) m' H') ∧ ∀ x H', (Itl K a).yld i H x H' → Bd x H' Nx) := by
  refine ⟨fun i m H => i + m = xs.length ∧ Pv i H, ⟨xs.length, by omega, h0⟩, fun i m H ⟨em, p⟩ => ?_⟩
  have q := hl i H (by omega) p
  by_cases lt : i < xs.length
  · refine .inr ⟨⟨xs, xs[i], q, List.getElem?_eq_getElem lt⟩, Pv (i + 1), fun H' p' => ⟨m - 1, by omega, by omega, p'⟩, fun x H' y => ?_⟩
    obtain ⟨rfl, y⟩ := y
    exact hs i x H' (y xs q) p
  · obtain rfl : i = xs.length := by omega
    exact .inl ⟨⟨xs, q, Nat.le_refl _⟩, hd H p⟩
end
/-! ### rules with the written part named (within comprehensions) -/
section
variable {X : Cx} {tg l : Expr} {tl : TE}
theorem pi_tupk (K : PySem.W.Frag) (hK : X.K = K) (hl : PE X l tl) : PI X tg l (iTup K tl) := by
  subst hK
  exact pi_tup hl
theorem op_catAk (K : PySem.W.Frag) (hK : X.K = K) : OpR X (binaryOp .Add) (rCatA K) := by
  subst hK
  exact op_catA
theorem ixl_k (K : PySem.W.Frag) (hK : X.K = K) : IxR X (rIxL K) := by
  subst hK
  exact ix_list
theorem ixt_k (K : PySem.W.Frag) (hK : X.K = K) : IxR X (rIxT K) := by
  subst hK
  exact ix_tup
theorem sl_tupk (K : PySem.W.Frag) (hK : X.K = K) : SlR X (rSlA K) := by
  subst hK
  exact sl_tupA
end
end Ek

namespace Ek
open PySem PySem.Spec PyProof.Rows L2
/-! ### the hand, its list of numbers named -/
def Hdd (H : Hp) (h dr : Addr) : Prop := ∃ (ds : List Int) (t : Nat), H h = some (.lst [.ref dr, .int (t : Int)]) ∧ H dr = some (.lst (ds.map V.int)) ∧ dr ≠ h ∧ ∀ x ∈ ds, 0 ≤ x
theorem Hdd.same {H H' : Hp} {h dr : Addr} (s : Same H H') (x : Hdd H h dr) : Hdd H' h dr := by
  obtain ⟨ds, t, h1, h2, n, p⟩ := x
  exact ⟨ds, t, s _ _ h1, s _ _ h2, n, p⟩
theorem Hdd.ne {H : Hp} {h dr b : Addr} (x : Hdd H h dr) (e : H b = none) : b ≠ h := fun z => by
  obtain ⟨ds, t, h1, _⟩ := x
  rw [z, h1] at e
  cases e
theorem Hdd.ned {H : Hp} {h dr b : Addr} (x : Hdd H h dr) (e : H b = none) : b ≠ dr := fun z => by
  obtain ⟨ds, t, h1, h2, _⟩ := x
  rw [z, h2] at e
  cases e
theorem Hdd.ns {H : Hp} {h dr b : Addr} {o : HO} (x : Hdd H h dr) (e : H b = some o) (n : ∀ d t, o ≠ .lst [.ref d, .int t]) : b ≠ h := fun z => by
  obtain ⟨ds, t, h1, _⟩ := x
  rw [z, h1] at e
  exact n _ _ (Option.some.inj e).symm
theorem Hdd.upd {H : Hp} {h dr D : Addr} {o : HO} (x : Hdd H h dr) (n1 : D ≠ h) (n2 : D ≠ dr) : Hdd (upd H D o) h dr := by
  obtain ⟨ds, t, h1, h2, n, p⟩ := x
  exact ⟨ds, t, by rw [upd_ne n1.symm]; exact h1, by rw [upd_ne n2.symm]; exact h2, n, p⟩
/-! ### repr of any data -/
def rReprA (K : PySem.W.Frag) : List V → Hp → VK → Prop := fun xs H Q => ∃ x d, xs = [x] ∧ Dp K H x d ∧ Okd d ∧ Q (.str d.shown) H
section
variable {X : Cx}
theorem call_reprA (hg : X.A.guards = some []) (hu : X.A.units + 64 < cLine) : CallR X (.builtin "repr") (rReprA X.K) := by
  intro pins s σ H xs us Q I r h
  obtain ⟨x, d, rfl, hd, hk, q⟩ := h
  have r0 := r
  obtain ⟨u, rfl, ru⟩ := vals1 r
  obtain ⟨h1, h2, h3, h4⟩ := id hk
  cases hd with
  | non =>
    obtain rfl : u = Value.none := ru
    exact PySem.P.repr_of_none ⟨.str _, H, I.tok _, ⟨_, rfl⟩, q⟩
  | bl b =>
    obtain rfl : u = Value.bool b := ru
    cases b
    · exact PySem.P.repr_of_bool ⟨.str _, H, I.tok _, ⟨_, rfl⟩, q⟩
    · exact PySem.P.repr_of_bool ⟨.str _, H, I.tok _, ⟨_, rfl⟩, q⟩
  | int i =>
    obtain ⟨t, rfl⟩ := ru
    refine PySem.P.repr_of_int ?_ ⟨.str _, H, I.tok _, ⟨_, rfl⟩, q⟩
    simpa [PyData.showable] using h1
  | str z =>
    obtain ⟨t, rfl⟩ := ru
    exact PySem.P.repr_of_str (hsz := by
      have e : (reprText z) = PyData.shown (.str z) := by simp [PyData.shown]
      rw [e, sizeLine_eq]
      omega) ⟨.str _, H, I.tok _, ⟨_, rfl⟩, q⟩
  | lst hs a => exact call_repr hg hu pins s σ H _ _ Q I r0 ⟨_, _, rfl, .lst hs a, rfl, hk, q⟩
  | tup hs a => exact call_repr hg hu pins s σ H _ _ Q I r0 ⟨_, _, rfl, .tup hs a, rfl, hk, q⟩
theorem call_reprAk (K : PySem.W.Frag) (hK : X.K = K) (hg : X.A.guards = some []) (hu : X.A.units + 64 < cLine) : CallR X (.builtin "repr") (rReprA K) := by
  subst hK
  exact call_reprA hg hu
theorem call_minTk (K : PySem.W.Frag) (hK : X.K = K) (hc : X.calm = true) : CallR X (.builtin "min") (rMinT K) := by
  subst hK
  exact call_minT hc
theorem call_lenk (K : PySem.W.Frag) (hK : X.K = K) : CallR X (.builtin "len") (fun xs H Q => ∃ p ys, xs = [V.ref p] ∧ (SqL K H p ys ∨ SqT K H p ys) ∧ Q (V.int ys.length) H) := by
  subst hK
  exact call_len_seq
theorem call_isik (K : PySem.W.Frag) (hK : X.K = K) : CallR X (.builtin "isinstance") (rIsi K) := by
  subst hK
  exact call_isi
/-! ### tuple * int, once too -/
theorem tuple_mul1 (l : Addr) (items : Array Value) (n : Nat) (dd : Option Addr) (sl : Array (Option Value)) (u : Tok) :
    Meets (Builtin.«tuple.__mul__» ⟨[.ref l, .int 1 u], []⟩) (fun _ R s => s.heap.get? l = some { cls := .type "tuple", dict := dd, data := .seq items n, slots := sl } ∧
      R (.ok (.ret (Value.ref l))) s) :=
  .of_wp fun prog w A R s h => by
    obtain ⟨hp, g, d, tk, os⟩ := s
    obtain ⟨hl, h⟩ := h
    have f1 := AutoSeq1.idx_int
    have c1 : (items.isEmpty || (1 : Int) == 1) = true := by simp
    wp_walk using wpAny_loadPart' hl
    repeat (first
      | (refine wpAny_ite_true (decide_eq_true (by rw [c1])) ?_; wp_walk using wpAny_loadPart' hl)
      | (refine wpAny_ite_false (decide_eq_false (by decide)) ?_; wp_walk using wpAny_loadPart' hl))
    exact ⟨_, rfl, h⟩
def rRepTA (K : PySem.W.Frag) : R2 := fun x y H Q => rRepT K x y H Q ∨ ∃ l xs, x = .ref l ∧ y = .int 1 ∧ SqT K H l xs ∧ Q (.ref l) H
theorem op_repTA : OpR X (binaryOp .Mult) (rRepTA X.K) := by
  intro pins s σ H x y v u Q I rx ry h
  rcases h with h | h
  · exact op_repT pins s σ H x y v u Q I rx ry h
  · obtain ⟨l, xs, rfl, rfl, hT, q⟩ := h
    cases rx
    obtain ⟨t, rfl⟩ := ry
    obtain ⟨its, r, ⟨⟨cls, dd, data, sl⟩, ho, hc, n, hd⟩, hs⟩ := I.tuple hT
    simp only at hc hd
    subst hc hd
    refine wpAny_binaryOp_repeat_ref (T := "tuple") (U := "int") (by decide) ⟨_, ho, rfl⟩ (fun s' => typeIs_int s' 1 t) noFill_tuple_mul F.fills_int_mul F.slot_int_rmul repeat_tuple F.slot_int_index.lookup
      (call_meets F.slot_int_rmul (typeIs_int s 1 t) F.entry_int_rmul (F.args_int_rmul_2 _ _) (int_rmul_tuple 1 t l its.toArray n dd sl)
        ⟨ho, rfl, ⟨_, ho, rfl⟩, call_meets F.slot_tuple_mul ⟨_, ho, rfl⟩ F.entry_tuple_mul (F.args_tuple_mul_2 _ _) (tuple_mul1 l its.toArray n dd sl t) ⟨ho, ?_⟩⟩)
    exact ⟨.ref l, H, I, rfl, q⟩
end
end Ek

namespace Ek
open PySem PySem.Spec PyProof.Rows L2
/-! ### a text shown is a text -/
theorem strOk_iff {s : Str} : PyData.strOk s = true ↔ ∀ c ∈ s.cps.toList, c < 0x110000 := by
  unfold PyData.strOk
  rw [Array.all_eq_true_iff_forall_mem]
  simp
theorem strOk_app {a b : Str} (ha : PyData.strOk a = true) (hb : PyData.strOk b = true) : PyData.strOk (a ++ b) = true := by
  rw [strOk_iff] at *
  intro c m
  have e : (a ++ b).cps = a.cps ++ b.cps := rfl
  rw [e, Array.toList_append] at m
  rcases List.mem_append.mp m with m | m
  · exact ha c m
  · exact hb c m
theorem strOk_int (i : Int) : PyData.strOk (toString i : String) = true := by
  rw [strOk_iff]
  intro c m
  by_cases h : c < 0x110000
  · exact h
  · exact absurd m (int_text_free' c ⟨by omega, .inr (by omega)⟩ i)
theorem strOk_from : ∀ {ts : List Str} {k : Nat} {acc : Str}, PyData.strOk acc = true → (∀ t ∈ ts, PyData.strOk t = true) → PyData.strOk (textFrom k acc ts) = true
  | [], _, _, h, _ => h
  | t :: ts, k, acc, h, ht => by
    refine strOk_from (ts := ts) (strOk_app (strOk_app h ?_) (ht t List.mem_cons_self)) fun x m => ht x (List.mem_cons_of_mem _ m)
    split <;> decide +kernel
theorem strOk_list {ts : List Str} (ht : ∀ t ∈ ts, PyData.strOk t = true) : PyData.strOk (listText ts) = true := strOk_app (strOk_from (by decide +kernel) ht) (by decide +kernel)
theorem strOk_join : ∀ {ts : List Str}, (∀ t ∈ ts, PyData.strOk t = true) → PyData.strOk (Str.join ", " ts) = true
  | [], _ => by decide +kernel
  | [x], h => h x List.mem_cons_self
  | x :: y :: r, h => strOk_app (strOk_app (h x List.mem_cons_self) (by decide +kernel)) (strOk_join (ts := y :: r) fun t m => h t (List.mem_cons_of_mem _ m))
theorem strOk_tuple {ts : List Str} (ht : ∀ t ∈ ts, PyData.strOk t = true) : PyData.strOk (tupleText ts) = true := by
  refine strOk_app (strOk_app (by decide +kernel) (strOk_join ht)) ?_
  split <;> decide +kernel
/-- what is shown of it is a text -/
def Tx (d : PyData) : Prop := PyData.strOk d.shown = true
theorem Tx.int {i : Int} : Tx (.int i) := by
  unfold Tx
  rw [PyData.shown]
  exact strOk_int i
theorem Tx.bool {b : Bool} : Tx (.bool b) := by cases b <;> (unfold Tx; decide +kernel)
theorem Tx.none : Tx .none := by unfold Tx; decide +kernel
theorem shownAll_mem : ∀ {ds : List PyData} {t : Str}, t ∈ PyData.shownAll ds → ∃ d ∈ ds, t = d.shown
  | [], t, h => by simp [PyData.shownAll] at h
  | d :: ds, t, h => by
    rw [PyData.shownAll] at h
    rcases List.mem_cons.mp h with rfl | h
    · exact ⟨d, List.mem_cons_self, rfl⟩
    · obtain ⟨d', m, e⟩ := shownAll_mem h
      exact ⟨d', List.mem_cons_of_mem _ m, e⟩
theorem Tx.all {ds : List PyData} (h : ∀ d ∈ ds, Tx d) : ∀ t ∈ PyData.shownAll ds, PyData.strOk t = true := fun t m => by
  obtain ⟨d, md, rfl⟩ := shownAll_mem m
  exact h d md
theorem Tx.list {ds : List PyData} (h : ∀ d ∈ ds, Tx d) : Tx (.list ds) := by
  unfold Tx
  rw [PyData.shown]
  exact strOk_list (Tx.all h)
theorem Tx.tuple {ds : List PyData} (h : ∀ d ∈ ds, Tx d) : Tx (.tuple ds) := by
  unfold Tx
  rw [PyData.shown]
  exact strOk_tuple (Tx.all h)
end Ek

namespace Ek
open PySem PySem.Spec PyProof.Rows L2
/-! ### several clauses, all with the same name; what no clause names does not come -/
abbrev Suite := Addr → Value → Option Addr → TS
def lostAt (i : Nat) (D : Ends) : Ends := { nx := fun t G => D.nx (t.set i none) G, rt := D.rt, bk := fun t G => D.bk (t.set i none) G, ct := fun t G => D.ct (t.set i none) G }
def wCl (K : PySem.W.Frag) (i : Nat) (D : Ends) : List (Value × Suite) → WX
  | [] => fun _ _ _ _ => False
  | (c, ts) :: more => fun k dd t G => ∃ hit, PySem.W.exmOne K k c = some hit ∧ (hit = true → ∀ ex, G ex = none → ts ex k dd (lostAt i D) (t.set i (some (.ref ex))) G) ∧ (hit = false → wCl K i D more k dd t G)
inductive Cls2 (X : Cx) (n : Str) : List ExceptHandler → List (Value × Suite) → Prop
  | none : Cls2 X n [] []
  | one {x : Str} {c : Value} {ts : Suite} {first : Stmt} {rest : List Stmt} {p p' : Pos} {hds : List ExceptHandler} {more : List (Value × Suite)} (nm : Names X x c)
      (ok : ∀ (ex : Addr) (ob : Obj) (k : Value) (dd : Option Addr) (pn : List (Addr × Obj)), Zc k dd ob → (∃ vs, ob.data = .fields vs) → PSs (X.suite ex ((ex, ob) :: pn)) (first :: rest) (ts ex k dd)) (m : Cls2 X n hds more) : Cls2 X n (.ExceptHandler (some (.Name x p)) (some n) (first :: rest) p' :: hds) ((c, ts) :: more)
section
variable {X : Cx} {n : Str} {i : Nat} {body : List Stmt} {h1 : ExceptHandler} {hds : List ExceptHandler} {cl : List (Value × Suite)} {pos : Pos} {tb : WX → TS}
theorem ps_clauses (st : X.stack = X.env :: X.outer) (fr : X.env.frame = some X.env.locals) (nd : X.N.Nodup) (at_ : X.N[i]? = some n) (lo : X.env.kindOf n = some .local)
    (bd : ∀ (W : WX) (pn : List (Addr × Obj)) (xe : Value → Shared → Prop), Takes (X.tr pn xe) W → PassesOwn (model X.prog X.w) X.A X.env xe → PSs (X.tr pn xe) body (tb W)) (hc : Cls2 X n (h1 :: hds) cl) :
    PS X (.Try body (h1 :: hds) [] [] pos) (fun D t G => tb (wCl X.K i D cl) D t G) := by
  constructor
  intro pins s σ G D inv wish
  have good := inv.ok
  have frames : X.A.frames = some (X.env :: X.outer) := st ▸ good.frames
  have here : Loc X.env.scope n := Or.inl lo
  apply wpAny_Try_except
  have run := (bd (wCl X.K i D cl) (X.pn ++ pins) (fun ev u1 => wpAny (model X.prog X.w) X.A (noteFrame ev X.env) (fun _ u2 => wpAny (model X.prog X.w) X.A (setFlight ev none) (fun _ u3 => wpAny (model X.prog X.w) X.A (handleBy ev X.env (h1 :: hds)) (SP X pins D) X.xe u3) X.xe u2) X.xe u1) ?caught PassesOwn.looking).run [] s σ G D (inv.toTry _) wish
  refine wpAny_mono run (fun fl u r => ?through) (fun _ _ z => z)
  case caught =>
    rintro ev u ⟨ex, B, sI, pins', t, G', k, dd, rfl, iv, nb, up, sky, free, os, ag, want⟩
    have iv2 : Inv X pins t G' sI := iv.ofTry good
    change wpAny (model X.prog X.w) X.A (noteFrame (.ref ex) X.env) _ _ _
    refine Sky.land Zc.steady frames fr (show Sky B (X.env :: X.outer) ex (Zc k dd) X.env.locals u.heap from st ▸ sky) fun g3 f3 u3 => ?_
    have iv3 : Inv X pins t G' { u with heap := g3 } := iv2.landed nb f3.1 (up.trans u3) os ag
    obtain ⟨ob, vs, eob, zob, dob⟩ := f3.there
    have away : ex ∉ frs (X.env :: X.outer) := fun m => by
      obtain ⟨_, o2, e2, no⟩ := f3.2.2.1.mem m
      have same : ob = o2 := Option.some.inj (eob.symm.trans e2)
      subst same
      exact no _ dob
    have neL : ex ≠ X.env.locals := fun z => away (by
      rw [z]
      exact List.mem_filterMap.mpr ⟨X.env, by simp, fr⟩)
    have neF : ex ∉ X.fs := fun m => by
      obtain ⟨e0, m0, q0⟩ := List.mem_filterMap.mp m
      exact away (List.mem_filterMap.mpr ⟨e0, List.mem_cons_of_mem _ m0, q0⟩)
    have su3 := iv3.suite eob dob free neL neF
    have walk : ∀ {hs : List ExceptHandler} {cs : List (Value × Suite)}, Cls2 X n hs cs → wCl X.K i D cs k dd t G' → wpAny (model X.prog X.w) X.A (handleBy (.ref ex) X.env hs) (SP X pins D) X.xe { u with heap := g3 } := by
      intro hs cs hk
      induction hk with
      | none => exact fun z => False.elim z
      | @one x c ts first rest p p' hs2 more nm ok m ih =>
        rintro ⟨hit, eh, yes, no⟩
        refine wpAny_handleBy_cons (codeAny_handlers_test ?_) (by intro z; cases z)
        have look : PySem.W.Looks (model X.prog X.w) g3 (typeOf (.ref ex)) k := fun A Q E s0 kp q => wpAny_typeOf_ref (kp _ _ eob) (by rw [zob.1]; exact q)
        have says := PySem.W.exm_one (M := model X.prog X.w) iv3.kIn look eh
        have named : ∀ {Q E : Value → Shared → Prop}, Q c { u with heap := g3 } → wpAny (model X.prog X.w) (X.A.mark (some (.ref ex))) (eval (.Name x p) X.env) Q E { u with heap := g3 } := by
          intro Q E q
          rcases nm with ⟨gl, db, own | ⟨no1, bt, nn⟩⟩
          · exact ld_glob (X := X.suite ex ((ex, ob) :: (X.pn ++ pins))) su3 gl own q db
          · exact ld_blt (X := X.suite ex ((ex, ob) :: (X.pn ++ pins))) su3 gl no1 bt q nn db
        refine named (says.here ?_)
        cases hit with
        | false => exact ih (no rfl)
        | true =>
          refine codeAny_handlers_suite_as (HandSPX.lands_againZ f3 fun g4 f4 u4 => ?_)
          have iv4 : Inv X pins t G' { u with heap := g4 } := iv2.landed nb f4.1 ((up.trans u3).trans u4) os ag
          obtain ⟨ob4, vs4, eob4, zob4, dob4⟩ := f4.there
          have su4 := iv4.suite eob4 dob4 free neL neF
          refine store_ok (X := X.suite ex ((ex, ob4) :: (X.pn ++ pins))) (v := .ref ex) su4 nd at_ here rfl (fun u5 su5 => ?_) (Or.inr lo)
          have suite := (ok ex ob4 k dd (X.pn ++ pins) zob4 ⟨_, dob4⟩).run [] u5 _ G' _ su5 (yes rfl ex free)
          refine wpAny_mono suite (fun fl u6 r => ?_) (fun _ _ z => z.elim)
          have leave : ∀ {t6 : L2.St} {G6 : Hp} {Q : Shared → Prop}, Inv (X.suite ex ((ex, ob4) :: (X.pn ++ pins))) [] t6 G6 u6 → (∀ u7, Inv X pins (t6.set i none) G6 u7 → Q u7) →
              wpAny (model X.prog X.w) X.A (do bindName X.env n .none; unbindBehindTheSuite X.env n p') (fun _ u7 => Q u7) X.xe u6 := fun w q => gone_ok (w.unsuite good) nd at_ lo q
          cases fl with
          | ret v => exact r.elim fun v6 r => r.elim fun t6 r => r.elim fun G6 r => leave r.1 fun u7 w => ⟨_, _, _, w, r.2.1, r.2.2⟩
          | next => exact r.elim fun t6 r => r.elim fun G6 r => leave r.1 fun u7 w => ⟨_, _, w, r.2⟩
          | brk => exact r.elim fun t6 r => r.elim fun G6 r => leave r.1 fun u7 w => ⟨_, _, w, r.2⟩
          | cont => exact r.elim fun t6 r => r.elim fun G6 r => leave r.1 fun u7 w => ⟨_, _, w, r.2⟩
    exact walk hc want
  case through =>
    cases fl with
    | ret v => exact r.elim fun v6 r => r.elim fun t6 r => r.elim fun G6 r => ⟨v6, t6, G6, r.1.ofTry good, r.2.1, r.2.2⟩
    | next => exact r.elim fun t6 r => r.elim fun G6 r => wpAny_execs_nil ⟨t6, G6, r.1.ofTry good, r.2⟩
    | brk => exact r.elim fun t6 r => r.elim fun G6 r => ⟨t6, G6, r.1.ofTry good, r.2⟩
    | cont => exact r.elim fun t6 r => r.elim fun G6 r => ⟨t6, G6, r.1.ofTry good, r.2⟩
end
end Ek

namespace Ek
open PySem PySem.Spec PyProof.Rows L2
/-! ### a tuple from its end -/
theorem adj_rev (n : Nat) : Builtin.Slice.sliceAdjust none none (-1) (n : Int) = ((n : Int) - 1, -1) := by
  have neg : ((-1 : Int) < 0) := by decide
  simp [Builtin.Slice.sliceAdjust, neg]
theorem places_rev (n : Nat) : Builtin.Slice.slicePlaces ((n : Int) - 1) (-1) (-1) = n := by
  unfold Builtin.Slice.slicePlaces
  rw [if_neg (by decide)]
  by_cases z : n = 0
  · subst z
    rfl
  · rw [if_pos (by omega), show (-(-1) : Int) = 1 from rfl, Int.ediv_one]
    omega
theorem pick_rev (xs : Array Value) : ((List.range xs.size).filterMap fun (j : Nat) => xs[(((xs.size : Nat) : Int) - 1 + (j : Int) * (-1)).toNat]?).toArray = xs.toList.reverse.toArray := by
  congr 1
  have step : ∀ (l : List Value), ((List.range l.length).filterMap fun (j : Nat) => l[((l.length : Int) - 1 + (j : Int) * (-1)).toNat]?) = l.reverse := by
    intro l
    apply List.ext_getElem?
    intro m
    have e : ((List.range l.length).filterMap fun (j : Nat) => l[((l.length : Int) - 1 + (j : Int) * (-1)).toNat]?) = (List.range l.length).map fun j => l.getD (l.length - 1 - j) .none := by
      have go : ∀ (r : List Nat), (∀ j ∈ r, j < l.length) → (r.filterMap fun (j : Nat) => l[((l.length : Int) - 1 + (j : Int) * (-1)).toNat]?) = r.map fun j => l.getD (l.length - 1 - j) .none := by
        intro r
        induction r with
        | nil => intro _; rfl
        | cons j r ih =>
          intro hr
          have lt := hr j List.mem_cons_self
          have e2 : ((l.length : Int) - 1 + (j : Int) * (-1)).toNat = l.length - 1 - j := by omega
          have e3 : l[((l.length : Int) - 1 + (j : Int) * (-1)).toNat]? = some (l.getD (l.length - 1 - j) .none) := by
            rw [e2, List.getD_eq_getElem?_getD, List.getElem?_eq_getElem (show l.length - 1 - j < l.length by omega)]
            rfl
          simp only [List.filterMap_cons, e3, List.map_cons]
          rw [ih fun x m => hr x (List.mem_cons_of_mem _ m)]
      exact go _ fun j m => List.mem_range.mp m
    rw [e, List.getElem?_map]
    by_cases lt : m < l.length
    · rw [List.getElem?_eq_getElem (show m < (List.range l.length).length by rw [List.length_range]; exact lt), List.getElem_range, List.getElem?_reverse lt]
      show some (l.getD (l.length - 1 - m) .none) = _
      rw [List.getD_eq_getElem?_getD, List.getElem?_eq_getElem (show l.length - 1 - m < l.length by omega)]
      rfl
    · rw [List.getElem?_eq_none (by rw [List.length_range]; omega), List.getElem?_eq_none (by rw [List.length_reverse]; omega)]
      rfl
  have z := step xs.toList
  rw [Array.length_toList] at z
  simpa using z
section
variable {prog : Program} {w : World} {A : Around} {E : Value → Shared → Prop} {s : Shared}
theorem app_rev {sl : Addr} {vs : Value} {n : Nat} {Q : Int × Int × Nat → Shared → Prop} (ob : s.heap.IsSliceOf sl .none .none vs) (pt : IsPart vs (some (-1))) (h : Q ((n : Int) - 1, -1, n) s) : wpAny (model prog w) A (Builtin.Slice.sliceApplied (.ref sl) (pure (n : Int))) Q E s := by
  obtain ⟨o, ho, _, dat⟩ := id ob
  unfold Builtin.Slice.sliceApplied Builtin.Slice.sliceFields
  refine wpAny_bind (wpAny_bind (wpAny_field ho dat (x := .none) rfl (wpAny_bind (wpAny_field ho dat (x := .none) rfl (wpAny_bind (wpAny_field ho dat (x := vs) rfl (wpAny_pure ?_)))))))
  refine wpAny_bind (HT.slicePart_ pt ?_)
  change wpAny _ _ (if ((-1 : Int) == 0) = true then _ else _) _ _ s
  rw [if_neg (by decide)]
  refine wpAny_bind (HT.slicePart_ .none (wpAny_bind (HT.slicePart_ .none (wpAny_bind (wpAny_pure ?_)))))
  change wpAny _ _ (match Builtin.Slice.sliceAdjust none none (-1) (n : Int) with | (lo, hi) => pure (lo, (-1 : Int), Builtin.Slice.slicePlaces lo hi (-1))) _ _ s
  rw [adj_rev]
  change wpAny _ _ (pure ((n : Int) - 1, (-1 : Int), Builtin.Slice.slicePlaces ((n : Int) - 1) (-1) (-1))) _ _ s
  rw [places_rev]
  exact wpAny_pure h
theorem get_rev {t sl : Addr} {items : Array Value} {vs : Value} {Q : Value → Shared → Prop} (tu : IsTup s.heap t items) (ob : s.heap.IsSliceOf sl .none .none vs) (pt : IsPart vs (some (-1)))
    (h : Q (.ref s.heap.objs.size) { s with heap := s.heap.push { cls := .type "tuple", data := .seq items.toList.reverse.toArray } }) (fits : items.size ≤ sizeLine) : wpAny (model prog w) A (getItem (.ref t) (.ref sl)) Q E s := by
  have ok : sizeOk (.seq items.toList.reverse.toArray) := by
    show items.toList.reverse.toArray.size ≤ sizeLine
    simpa using fits
  obtain ⟨o, ho, cl, dat⟩ := id ob
  have isSl : s.TypeIs (.ref sl) "slice" := ⟨o, ho, cl⟩
  unfold getItem
  try with_reducible refine wpAny_holding ?_
  first | refine wpAny_bind (wpAny_pure ?_) | skip
  refine wpAny_bind (wpAny_sequenceKey tu.typeIs (by decide) (wpAny_bind (wpAny_callSpecial?_slot (name := Str.ofString "__getitem__") tu.typeIs PyProof.Rows.slot_tuple_getitem (wpAny_call_entry PyProof.Rows.slot_tuple_getitem tu.typeIs PyProof.Rows.entry_tuple_getitem ?_ (PyProof.Rows.args_tuple_getitem _ _)))))
  change wpAny _ _ (Builtin.Tuple.tupleItemsOf (.ref t) >>= _) _ _ s
  refine wpAny_bind (PyProof.Rows.tupleItemsOf_ tu (wpAny_bind (wpAny_typeOf isSl ?_)))
  rw [if_pos (by decide)]
  refine wpAny_bind (app_rev ob pt ?_)
  change wpAny _ _ (if ((((items.size : Nat) : Int) - 1 == 0) && (-1 : Int) == 1 && items.size == items.size) = true then _ else _) _ _ s
  rw [if_neg (by simp), pick_rev]
  first
    | exact wpAny_bind (m := Builtin.Tuple.tupleExact _) (wpAny_newObj_type (wpAny_pure ⟨_, rfl, wpAny_pure h⟩) ok)
    | exact wpAny_bind (m := Builtin.Tuple.tupleExact _) (wpAny_newObj_type (wpAny_bind (wpAny_pure (wpAny_pure ⟨_, rfl, wpAny_pure h⟩))) ok)
    | exact wpAny_bind (wpAny_bind (m := Builtin.Tuple.tupleExact _) (wpAny_newObj_type (wpAny_pure (wpAny_pure ⟨_, rfl, wpAny_pure h⟩)) ok))
    | exact wpAny_bind (wpAny_bind (m := Builtin.Tuple.tupleExact _) (wpAny_newObj_type (wpAny_pure ⟨_, rfl, wpAny_pure h⟩) ok))
end
/-- t[::-1] -/
def tRevT (K : PySem.W.Frag) (te : TE) : TE := fun σ H Q => te σ H fun x H1 => ∃ a xs, x = .ref a ∧ SqT K H1 a xs ∧ ∀ p, H1 p = none → Q (.ref p) (upd H1 p (.tup xs.reverse))
theorem pe_revT {X : Cx} {e : Expr} {te : TE} {k : Nat} {p1 p2 p3 pos : Pos} (he : PE X e te) : PE X (.Subscript e (.Slice none none (some (.UnaryOp .USub (.Constant (.int 1) k p1) p2)) p3) pos) (tRevT X.K te) := by
  constructor
  intro pins s σ H Q inv wish
  refine Subscript_ (thn (he.run pins s σ H _ inv wish) fun u s1 ⟨x, H1, i1, rx, a, xs, ex, hx, q⟩ => ?_)
  subst ex
  obtain rfl : u = Value.ref a := rx
  have stp : PO X (some (.UnaryOp .USub (.Constant (.int 1) k p1) p2)) (tPart (tUn (rU fun i => .int (-i)) (tC (.int 1)))) := po_some (pe_un un_neg pe_int)
  refine wpAny_Slice (thn (po_none.run pins s1 σ H1 (fun o G => o = none ∧ G = H1) i1 ⟨rfl, rfl⟩) fun v1 s2 ⟨o1, G1, i2, t1, f1, g1⟩ => ?_)
  subst f1 g1
  refine thn (po_none.run pins s2 σ G1 (fun o G => o = none ∧ G = G1) i2 ⟨rfl, rfl⟩) fun v2 s3 ⟨o2, G2, i3, t2, f2, g2⟩ => ?_
  subst f2 g2
  refine thn (stp.run pins s3 σ G2 (fun o G => o = some (-1) ∧ G = G2) i3 ⟨1, rfl, -1, rfl, rfl, rfl⟩) fun v3 s4 ⟨o3, G3, i4, t3, f3, g3⟩ => ?_
  subst f3 g3
  cases t1
  cases t2
  have i5 : Inv X pins σ G3 { s4 with heap := s4.heap.push { cls := .type "slice", data := .fields #[.none, .none, v3] } } := i4.kept (t' := s4.toks) fun b ob z => Heap.get?_push_of_some _ z
  obtain ⟨its, r, tu, fits⟩ := i5.tuple hx
  have len := r.length
  change wpAny (model X.prog X.w) X.A (subscriptTail e (.Slice none none (some (.UnaryOp .USub (.Constant (.int 1) k p1) p2)) p3) (.ref a) (.ref s4.heap.objs.size)) (EP X pins σ Q) X.xe { s4 with heap := s4.heap.push { cls := .type "slice", data := .fields #[.none, .none, v3] } }
  refine tail_any (ops := [.ref a, .ref s4.heap.objs.size]) tu.typeIs (PyProof.Rows.slot_tuple_getitem.lookup) ?_ (by with_unfolding_all rfl)
  refine get_rev tu (Heap.IsSliceOf.new _ .none .none v3) t3 ?_ (by rw [List.size_toArray]; omega)
  refine ⟨.ref _, _, i5.laid (t' := s4.toks) (o := .tup xs.reverse) (fun b ob z => Heap.get?_push_of_some _ z) (Nat.le_refl _) ?_, rfl, q _ (i5.hok.fresh (Nat.le_refl _))⟩
  exact ⟨by rw [List.length_reverse]; exact fits, _, r.reverse, IsTup.new _ _⟩
theorem pg_tupk {X : Cx} {pos : Pos} {es : List Expr} {k n : Nat} {t : TGs} (K : PySem.W.Frag) (hK : X.K = K) (hc : X.calm = true) (h : PGs X es t) (hn : (assignEach es X.env).length = n := by rfl) (hst : (assignEach es X.env).findIdx? (·.1) = none := by rfl) : PG X (.Tuple es k pos) (gTup K n t) := by
  subst hK
  exact pg_tup hc h hn hst
theorem Sm.intW {i : Int} (h : i.natAbs < 10 ^ 18) : Sm 19 0 (.int i) := by
  refine ⟨?_, by simp only [PyData.hasDict], by simp only [PyData.depth]; exact Nat.le_refl _, ?_⟩
  · simp only [PyData.showable, decide_eq_true_eq]
    by_cases z : i.natAbs = 0
    · rw [z]
      decide
    · exact Nat.lt_trans ((Nat.log2_lt z).mpr (Nat.lt_trans h (by decide : 10 ^ 18 < 2 ^ 64))) (by decide)
  · rw [PyData.shown, PySem.ofString_length]
    exact int_text_length_le10 (by decide) h
theorem pi_listk {X : Cx} {tg l : Expr} {tl : TE} (K : PySem.W.Frag) (hK : X.K = K) (hl : PE X l tl) : PI X tg l (iList K tl) := by
  subst hK
  exact pi_list hl
theorem call_tuple_ofk {X : Cx} (K : PySem.W.Frag) (hK : X.K = K) : CallR X (.type "tuple") (fun xs H Q => ∃ p ys, xs = [V.ref p] ∧ ((SqL K H p ys ∧ ∀ l, H l = none → Q (V.ref l) (upd H l (.tup ys))) ∨ (SqT K H p ys ∧ Q (V.ref p) H))) := by
  subst hK
  exact call_tuple_of
end Ek

namespace Ek
open PySem PySem.Spec PyProof.Rows L2
/-! ### x in t, x not in t: t a tuple of data -/
def rInTD (K : PySem.W.Frag) (neg : Bool) : R2 := fun x y H Q => ∃ d ds, Dp K H x d ∧ Dp K H y (.tuple ds) ∧ SeqAt.shaped d = true ∧ SeqAt.shaped (.tuple ds) = true ∧ Q (.bl (if neg then !ds.any (fun z => PyData.eqv z d) else ds.any fun z => PyData.eqv z d)) H
section
variable {X : Cx}
theorem op_inTD (hu : X.A.units + 65 < cLine) : OpR X (compareOp .In) (rInTD X.K false) := by
  intro pins s σ H x y v u Q I rx ry h
  obtain ⟨d, ds, hd, he, sd, se, q⟩ := h
  obtain ⟨as, r1⟩ := Dp.reads I d x v hd rx
  obtain ⟨bs, r2⟩ := Dp.reads I (.tuple ds) y u he ry
  exact SeqAt.in_tuple_reads r2 r1 (SeqAt.canLay_of_shaped se) (SeqAt.canLay_of_shaped sd) (room_in_shaped sd hu) ⟨.bl _, H, I, rfl, q⟩
theorem op_notInTD (hu : X.A.units + 65 < cLine) : OpR X (compareOp .NotIn) (rInTD X.K true) := by
  intro pins s σ H x y v u Q I rx ry h
  obtain ⟨d, ds, hd, he, sd, se, q⟩ := h
  obtain ⟨as, r1⟩ := Dp.reads I d x v hd rx
  obtain ⟨bs, r2⟩ := Dp.reads I (.tuple ds) y u he ry
  exact SeqAt.notIn_tuple_reads r2 r1 (SeqAt.canLay_of_shaped se) (SeqAt.canLay_of_shaped sd) (room_in_shaped sd hu) ⟨.bl _, H, I, rfl, q⟩
theorem op_ltTk (K : PySem.W.Frag) (hK : X.K = K) (hu : X.A.units < cLine) : OpR X (compareOp .Lt) (rLtT K) := by
  subst hK
  exact op_ltT hu
end
/-! ### sorted of data -/
def rSortB {β : Type} (enc : β → PyData) (val : β → V) (K : PySem.W.Frag) : List V → Hp → VK → Prop := fun vs H Q => ∃ (a : Addr) (bs : List β), vs = [V.ref a] ∧ SqL K H a (bs.map val) ∧ (∀ b ∈ bs, Dp K H (val b) (enc b)) ∧ PySem.W.AllAlike (bs.map enc) ∧ PySem.W.Sortable (bs.map enc) ∧ (∀ b ∈ bs, (enc b).depth ≤ 60) ∧
  ∀ p, H p = none → Q (.ref p) (upd H p (.lst ((bs.mergeSort (PySem.W.dataLe false enc)).map val)))
theorem each_vals {β : Type} {val : β → V} : ∀ {us : List Value} {bs : List β}, Vals (bs.map val) us → PySem.W.EachIs (fun v b => RelV (val b) v) us bs
  | us, [], h => by
    have h' : Vals [] us := h
    cases h'
    exact .nil
  | us, b :: bs, h => by
    have h' : Vals (val b :: bs.map val) us := h
    cases h' with
    | cons h1 h2 => exact .cons h1 (each_vals h2)
theorem vals_each {β : Type} {val : β → V} : ∀ {us : List Value} {bs : List β}, PySem.W.EachIs (fun v b => RelV (val b) v) us bs → Vals (bs.map val) us
  | _, _, .nil => .nil
  | _, _, .cons h t => .cons h (vals_each t)
theorem call_sortB {X : Cx} {β : Type} {enc : β → PyData} {val : β → V} (hu : X.A.units + 64 < cLine) : CallR X (.builtin "sorted") (rSortB enc val X.K) := by
  intro pins s σ H vs us Q I r h
  obtain ⟨a, bs, rfl, hs, hd, al, so, dp, q⟩ := h
  obtain ⟨its, rv, hl, hz⟩ := I.list hs
  rw [Vals.ref1 r]
  have e := each_vals rv
  have hlen : bs.length ≤ sizeLine := by rw [List.length_map] at hz; exact hz
  refine PySem.W.sorted_data (vs := its) (bs := bs) (enc := enc) (R := fun v b => RelV (val b) v) hl.isList e ((PySem.W.each_mem e).mono fun v b z => Dp.reads I (enc b) (val b) v (hd b z.2) z.1) al so hlen (fun b m => by have := dp b m; omega) fun out ho e2 => ?_
  obtain ⟨ep, he'⟩ := PyProof.Rows.sortedAll_at s.heap its out.toArray
  have hv : Vals ((bs.mergeSort (PySem.W.dataLe false enc)).map val) out := vals_each e2
  refine ⟨.ref _, upd H (s.heap.objs.size + 1) (.lst ((bs.mergeSort (PySem.W.dataLe false enc)).map val)), I.laid (t' := s.toks) (fun _ _ => PyProof.Rows.sortedAll_old) (Nat.le_succ _) ⟨?_, out, ep, hv, ?_⟩, rfl, q _ (I.hok.fresh (Nat.le_succ _))⟩
  · rw [hv.length, ho]
    exact hlen
  · simpa using he'
/-! ### enumerate over a tuple -/
def IteT (K : PySem.W.Frag) (a : Addr) : It :=
  ⟨fun i H => ∃ (xs : List V) (x : V), SqT K H a xs ∧ xs[i]? = some x, fun i H v H' => ∃ T x, v = .ref T ∧ H T = none ∧ H' = upd H T (.tup [.int (i : Nat), x]) ∧ ∀ xs, SqT K H a xs → xs[i]? = some x, fun i H => ∃ xs : List V, SqT K H a xs ∧ xs.length = i⟩
theorem turn_enumT {P : Program} {w : World} {K : PySem.W.Frag} {elts : List Expr} {kk : Nat} {tpos : Pos} (a e it : Addr) :
    Turn P w K (.Tuple elts kk tpos) (IteT K a) [e, it] e (fun i h => (∃ old, IsEnum h e it ((i : Nat) : Int) old) ∧ h.IsTupleIter it a i ∧ e ≠ it ∧ e ≠ a ∧ a ≠ it) where
  mem := by simp
  obj := fun i h st b hb => by
    obtain ⟨⟨old, he⟩, ⟨o, ho, hc, hd⟩, _⟩ := st
    have e' : b = e ∨ b = it := by simpa using hb
    rcases e' with z | z
    · rw [z]; exact ⟨_, he, fun v q => nomatch q⟩
    · rw [z]; exact ⟨o, ho, fun v q => by rw [hd] at q; cases q⟩
  keep := fun i h h' st k => let ⟨⟨old, he⟩, hi, hne⟩ := st; ⟨⟨old, k e (by simp) _ he⟩, hi.at fun o q => k it (by simp) o q, hne⟩
  item := by
    intro X hP hw hK hc i pins s σ H E I hf st hg
    subst hP hw hK
    obtain ⟨⟨old, he⟩, hit, hne, hea, hai⟩ := st
    obtain ⟨xs, x, hq, hx⟩ := hg
    obtain ⟨its, rv, p, hz⟩ := I.tuple hq
    obtain ⟨u, hu, ru⟩ := rv.get hx
    have hel : e < s.heap.objs.size := Heap.lt_size he
    have hil : it < s.heap.objs.size := by obtain ⟨_, q, _⟩ := hit; exact Heap.lt_size q
    have ilt : i < its.length := (List.getElem?_eq_some_iff.mp hu).1
    refine wpAny_pyNext_enum_itemD (P := fun i v => its.toArray[i]? = some v) (St := fun i h => h.IsTupleIter it a i ∧ h.IsTuple a its.toArray) (n := its.toArray.size) (Draws.tuple (A := X.A.in1) (I.ok.hd hc) it a hai its.toArray) he ⟨hit, p⟩ (by simpa using ilt) hne (by simp [hne, hea]) fun y h' tk hy ho hst hT hsz hk => ?_
    obtain ⟨hit', _⟩ := hst
    have ey : y = u := by
      have z : its[i]? = some y := by simpa using hy
      rw [hu] at z
      exact (Option.some.inj z).symm
    subst ey
    refine ⟨_, rfl, wpAny_letOwnedTupleGo_enum (s := { s with heap := h', toks := tk + 1 }) ho fun h'' he' sb => ?_⟩
    have hT2 : h''.get? s.heap.objs.size = some { cls := .type "tuple", data := .seq #[.int i tk, y] } := (sb.2 _ (Nat.ne_of_gt hel)).trans hT
    have new : ObjOk X.prog X.w (upd H s.heap.objs.size (.tup [.int (i : Nat), x])) h'' s.heap.objs.size (.tup [.int (i : Nat), x]) :=
      ⟨by show 2 ≤ sizeLine; decide, [.int i tk, y], .cons ⟨_, rfl⟩ (.cons ru .nil), ⟨_, hT2, rfl, _, rfl⟩⟩
    have I1 : Inv X pins σ (upd H s.heap.objs.size (.tup [.int (i : Nat), x])) { s with heap := h'', toks := tk + 1 } :=
      I.turnedNew (ch := [e, it]) (fun b ob hb q => (sb.2 b (fun z => hb (by simp [z]))).trans (hk b ob (fun z => hb (by simp [z])) (fun z => hb (by simp [z])) q)) hf (Nat.le_refl _) new
    refine ⟨.ref s.heap.objs.size, _, I1, rfl, ⟨_, x, rfl, I.hok.fresh (Nat.le_refl _), rfl, fun ys hy => by rw [I.tuple_inj hy hq]; exact hx⟩, ⟨⟨y, ?_⟩, hit'.at fun o q => (sb.2 it (Ne.symm hne)).trans q, hne, hea, hai⟩, fun b hb => ?_⟩
    · have e1 : ((i + 1 : Nat) : Int) = (i : Int) + 1 := by omega
      rw [e1]; exact he'
    · have hb' : b < s.heap.objs.size := by
        have e' : b = e ∨ b = it := by simpa using hb
        rcases e' with z | z
        · rw [z]; exact hel
        · rw [z]; exact hil
      rw [upd_ne (Nat.ne_of_lt hb')]
      exact (hf b hb).1
  done := by
    intro X hP hw hK hc i pins s σ H E I hf st hg
    subst hP hw hK
    obtain ⟨⟨old, he⟩, hit, hne, hea, hai⟩ := st
    obtain ⟨xs, hq, hx⟩ := hg
    obtain ⟨its, rv, p, hz⟩ := I.tuple hq
    obtain ⟨f0, f1, f2, f3, f4, f5⟩ := hf it (by simp)
    have hl := rv.length
    have e0 : its.toArray.size = i := by simp; omega
    subst e0
    exact wpAny_pyNext_enum_endD (Draws.tuple (A := X.A.in1) (I.ok.hd hc) it a hai its.toArray) he ⟨hit, p⟩ fun h' eb => ⟨rfl, I.turned (t' := s.toks) (fun b o hb q => eb b o hb q) f0 f1 f3 f4 f5⟩
  self := fun A i s Q E st h => let ⟨⟨_, he⟩, _⟩ := st; wpAny_pyIter_enum he h
theorem meets_enumerate_newT (l : Addr) (items : Array Value) (n : Nat) (dct : Option Addr) (sl : Array (Option Value)) :
    Meets (Builtin.«enumerate.__new__» ⟨[.type "enumerate", .ref l], []⟩) (fun _ R s => s.heap.get? l = some { cls := .type "tuple", dict := dct, data := .seq items n, slots := sl } ∧
      R (.ok (.ret (.ref (s.heap.push { cls := .type "tuple_iterator", data := .fields #[.ref l, .int 0 0] }).objs.size)))
        { s with heap := (s.heap.push { cls := .type "tuple_iterator", data := .fields #[.ref l, .int 0 0] }).push { cls := .type "enumerate", data := .fields #[.none, .bool false, .ref s.heap.objs.size, rawInt 0, .none, .none] } }) :=
  .of_wp fun prog w A R s h => by
    obtain ⟨hp, g, d, tk, os⟩ := s; obtain ⟨hl, h⟩ := h
    have hsub := sub_enumerate
    have hL : Heap.IsTuple (Shared.heap ⟨hp, g, d, tk, os⟩) l items := ⟨_, hl, rfl, n, rfl⟩
    wp_walk using wpAny_loadPart' hl
    refine wpAny_stack_any fun st => wpAny_pure ?_
    split
    · rename_i c _ _ _ _ _
      cases (c == Value.type "enumerate")
      · wp_walk using wpAny_loadPart' hl, wpAny_pyIter_tuple hL
        exact ⟨_, rfl, h⟩
      · wp_walk using wpAny_loadPart' hl, wpAny_pyIter_tuple hL
        exact ⟨_, rfl, h⟩
    · wp_walk using wpAny_loadPart' hl, wpAny_pyIter_tuple hL
      exact ⟨_, rfl, h⟩
theorem call_enumerate_tuple {prog : Program} {w : World} {A : Around} {E : Value → Shared → Prop} {s : Shared} {l : Addr} {items : Array Value} {Q : Value → Shared → Prop} (hL : s.heap.IsTuple l items)
    (h : ∀ h', IsEnum h' (s.heap.objs.size + 1) s.heap.objs.size 0 .none → h'.IsTupleIter s.heap.objs.size l 0 → h'.objs.size = s.heap.objs.size + 2 →
      (∀ b o, s.heap.get? b = some o → h'.get? b = some o) → Q (.ref (s.heap.objs.size + 1)) { s with heap := h' }) :
    wpAny (model prog w) A (call (.type "enumerate") [.ref l]) Q E s := by
  obtain ⟨⟨c, dct, dt, sl⟩, hl, hc, n, hd⟩ := hL
  replace hc : c = .type "tuple" := hc
  replace hd : dt = .seq items n := hd
  subst hc hd
  refine callType_new F.called_enumerate (by decide) (F.typeCall_enumerate_1 _) (F.newCall_enumerate_1 _) (fun obj => F.args_object_init_2 obj _) F.entry_enumerate_new
    (meets_enumerate_newT l items n dct sl) ⟨hl, ?_⟩
  have hz : (s.heap.push { cls := .type "tuple_iterator", data := .fields #[.ref l, .int 0 0] }).objs.size = s.heap.objs.size + 1 := Heap.size_push ..
  show _ ∧ _
  rw [hz]
  have he : IsEnum ((s.heap.push { cls := .type "tuple_iterator", data := .fields #[.ref l, .int 0 0] }).push
      { cls := .type "enumerate", data := .fields #[.none, .bool false, .ref s.heap.objs.size, rawInt 0, .none, .none] }) (s.heap.objs.size + 1) s.heap.objs.size 0 .none := by
    have := Heap.get?_push_size (s.heap.push { cls := .type "tuple_iterator", data := .fields #[.ref l, .int 0 0] })
      (o := { cls := .type "enumerate", data := .fields #[.none, .bool false, .ref s.heap.objs.size, rawInt 0, .none, .none] }) rfl
    rw [hz] at this; exact this
  refine ⟨⟨_, he, rfl⟩, h _ he ⟨_, Heap.get?_push_of_some _ (Heap.get?_push_size _ rfl), rfl, rfl⟩ (by rw [Heap.size_push, hz]) fun b o x => Heap.get?_push_of_some _ (Heap.get?_push_of_some _ x)⟩
def iEnumT (K : PySem.W.Frag) (ta : TA) : TI := fun σ H R => ta σ H fun vs H1 => ∃ a xs, vs = [.ref a] ∧ SqT K H1 a xs ∧ R (IteT K a) H1
theorem pi_enumT {X : Cx} {e : Expr} {ta : TA} {p pos tpos : Pos} {elts : List Expr} {kk : Nat} (hg : Gl X "enumerate") (hm : X.mg "enumerate" = none) (ha : PA X [e] ta) (hs : starEach [e] X.env = [(false, eval e X.env)] := by rfl) :
    PI X (.Tuple elts kk tpos) (.Call (.Name "enumerate" p) [e] [] pos) (iEnumT X.K ta) := by
  refine ⟨fun pins s σ H R I h => ?_⟩
  refine Call_ (ld_blt I hg hm boot_enumerate (PyProof.Rows.callWith_type1 (thn (ha.run pos pins s σ H _ I h) fun us s1 ⟨vs, H1, I1, r1, q1⟩ => ?_) hs rfl))
  obtain ⟨a, xs, ex, hq, q⟩ := q1
  subst ex
  cases r1 with
  | cons r rr =>
    cases rr
    cases r
    obtain ⟨its, rv, p', hz⟩ := I1.tuple hq
    have hal : a < s1.heap.objs.size := by
      obtain ⟨o, ho, _⟩ := id p'
      exact Heap.lt_size ho
    refine call_enumerate_tuple p' fun h' he hit hsz hk => wpAny_pyIter_enum he ?_
    have I2 : Inv X pins σ H1 { s1 with heap := h' } := I1.kept (t' := s1.toks) hk
    refine ⟨s1.heap.objs.size + 1, [s1.heap.objs.size + 1, s1.heap.objs.size], _, _, H1, rfl, I2, turn_enumT a (s1.heap.objs.size + 1) s1.heap.objs.size, ⟨⟨.none, he⟩, hit, Nat.succ_ne_self _, Nat.ne_of_gt (Nat.lt_succ_of_lt hal), Nat.ne_of_lt hal⟩, fun b hb => ?_, q⟩
    have e' : b = s1.heap.objs.size + 1 ∨ b = s1.heap.objs.size := by simpa using hb
    have hle : s1.heap.objs.size ≤ b := by
      rcases e' with z | z
      · rw [z]; exact Nat.le_add_right _ _
      · rw [z]; exact Nat.le_refl _
    exact I1.fpOk hle (I1.hok.fresh hle)
end Ek

namespace Ek
open PySem PySem.Spec PyProof.Rows L2 RZ
/-! ### sum of a tuple of ints -/
def rSumT (K : PySem.W.Frag) : List V → Hp → VK → Prop := fun vs H Q => ∃ (a : Addr) (ns : List Int), vs = [V.ref a] ∧ SqT K H a (ns.map V.int) ∧ Q (.int ns.sum) H
theorem sum_rawT {prog : Program} {w : World} {A : Around} {E : Value → Shared → Prop} {s : Shared} {l : Addr} {its : List Value} {ns : List Int} {Q : Value → Shared → Prop} (hh : A.handled = none) (hl : s.heap.IsTuple l its.toArray) (hi : IntsAre its ns)
    (h : ∀ h' tk t', (∀ b o, s.heap.get? b = some o → h'.get? b = some o) → Q (.int ns.sum t') { s with heap := h', toks := tk }) : wpAny (model prog w) A (call (.builtin "sum") [.ref l]) Q E s := by
  obtain ⟨xs, e⟩ := hi.allInts.items
  have hn : numsOf (intItems xs).toList = ns := by rw [← e]; exact hi.numsOf
  rw [nums_intItems] at hn
  rw [e] at hl
  refine PySem.W.ktm_sumG hh hl fun h' tk t' hk => ?_
  have := h h' tk t' hk
  rw [preSum_eq, List.take_of_length_le (by simp), hn]; exact this
theorem cr_sumT {X : Cx} (hc : X.calm = true) : CallR X (.builtin "sum") (rSumT X.K) := by
  intro pins s σ H vs us Q I r h
  obtain ⟨a, ns, rfl, hs, q⟩ := h
  obtain ⟨its, rv, hl, _⟩ := I.tuple hs
  rw [Vals.ref1 r]
  exact sum_rawT (I.ok.hd hc) hl rv.ints fun h' tk t' hk => ⟨.int _, H, I.kept hk, ⟨_, rfl⟩, q⟩
/-- a comprehension over zip of two tuples -/
theorem lc_zipT {K : PySem.W.Frag} {a b : Addr} {xs ys : List V} {g : TG} {tt : TT} {te : TE} {vs : List Nat} {σ : L2.St} {H1 : Hp} {D : Addr} {Qd : Hp → Prop} (Pv : Nat → Hp → Prop) (h0 : Pv 0 (upd H1 D (.lst []))) (hl : ∀ i H, i ≤ xs.length → Pv i H → SqT K H a xs ∧ SqT K H b ys) (hxy : xs.length = ys.length)
    (hs : ∀ i x y H T, xs[i]? = some x → ys[i]? = some y → Pv i H → H T = none → g (.ref T) (wipe σ vs) (upd H T (.tup [x, y])) fun σ2 H2 => wipe σ2 vs = wipe σ vs ∧ tt σ2 H2 fun b H3 =>
      if b = true then te σ2 H3 fun y H4 => ∃ acc, H4 D = some (.lst acc) ∧ acc.length < sizeLine ∧ Pv (i + 1) (upd H4 D (.lst (acc ++ [y]))) else Pv (i + 1) H3) (hd : ∀ H, Pv xs.length H → Qd H) :
    ∃ W : Nat → Nat → Hp → Prop, (∃ m, W 0 m (upd H1 D (.lst []))) ∧ ∀ i m H, W i m H →
      ((ItzT K a b).stop i H ∧ Qd H) ∨ ((ItzT K a b).go i H ∧ ∃ Nx : Hp → Prop, (∀ H', Nx H' → ∃ m', m' < m ∧ W (i + 1) m' H') ∧ ∀ x H', (ItzT K a b).yld i H x H' → g x (wipe σ vs) H' fun σ2 H2 => wipe σ2 vs = wipe σ vs ∧ tt σ2 H2 fun b H3 =>
        if b = true then te σ2 H3 fun y H4 => ∃ acc, H4 D = some (.lst acc) ∧ acc.length < sizeLine ∧ Nx (upd H4 D (.lst (acc ++ [y]))) else Nx H3) := by
  refine ⟨fun i m H => i + m = xs.length ∧ Pv i H, ⟨xs.length, by omega, h0⟩, fun i m H ⟨em, p⟩ => ?_⟩
  obtain ⟨q1, q2⟩ := hl i H (by omega) p
  by_cases lt : i < xs.length
  · have lt2 : i < ys.length := by omega
    refine .inr ⟨⟨xs, ys, xs[i], ys[i], q1, q2, List.getElem?_eq_getElem lt, List.getElem?_eq_getElem lt2⟩, Pv (i + 1), fun H' p' => ⟨m - 1, by omega, by omega, p'⟩, fun x H' y => ?_⟩
    obtain ⟨T, x1, y1, rfl, nT, rfl, gx, gy⟩ := y
    exact hs i x1 y1 H T (gx xs q1) (gy ys q2) p nT
  · obtain rfl : i = xs.length := by omega
    exact .inl ⟨⟨xs, ys, q1, q2, .inl (Nat.le_refl _)⟩, hd H p⟩
/-- for a, b in enumerate(t) -/
theorem for_enumT {K : PySem.W.Frag} {a : Addr} {xs : List V} {g : TG} {tb : TS} {D : Ends} {σ : L2.St} {H : Hp} (Pv : Nat → L2.St → Hp → Prop) (h0 : Pv 0 σ H) (hl : ∀ i σ H, i ≤ xs.length → Pv i σ H → SqT K H a xs)
    (hs : ∀ i x σ H T, xs[i]? = some x → Pv i σ H → H T = none → g (.ref T) σ (upd H T (.tup [.int (i : Nat), x])) fun σ2 H2 => tb { D with nx := Pv (i + 1), ct := Pv (i + 1), bk := D.nx } σ2 H2) (hd : ∀ σ H, Pv xs.length σ H → D.nx σ H) :
    ∃ W : Nat → Nat → L2.St → Hp → Prop, (∃ m, W 0 m σ H) ∧ ∀ i m σ H, W i m σ H →
      ((IteT K a).stop i H ∧ D.nx σ H) ∨ ((IteT K a).go i H ∧ ∃ N : L2.St → Hp → Prop, (∀ σ' H', N σ' H' → ∃ m', m' < m ∧ W (i + 1) m' σ' H') ∧ ∀ x H', (IteT K a).yld i H x H' → g x σ H' fun σ2 H2 => tb { D with nx := N, ct := N, bk := D.nx } σ2 H2) := by
  refine ⟨fun i m σ H => m = xs.length - i ∧ i ≤ xs.length ∧ Pv i σ H, ⟨xs.length, by simp, Nat.zero_le _, h0⟩, ?_⟩
  rintro i m σ H ⟨rfl, hi, p⟩
  have q := hl i σ H hi p
  by_cases hlt : i < xs.length
  · refine .inr ⟨⟨xs, xs[i], q, by simp [hlt]⟩, Pv (i + 1), fun σ' H' p' => ⟨xs.length - (i + 1), by omega, rfl, hlt, p'⟩, fun x H' y => ?_⟩
    obtain ⟨T, x1, rfl, nT, rfl, gx⟩ := y
    exact hs i x1 σ H T (gx xs q) p nT
  · have e : i = xs.length := by omega
    subst e
    exact .inl ⟨⟨xs, q, rfl⟩, hd σ H p⟩
theorem find_at {α : Type} {f : α → Bool} {l : List α} {j : Nat} {x : α} (h : l[j]? = some x) (n : (l.take j).find? f = none) (c : f x = true) : l.find? f = some x := by
  have e : l = l.take j ++ x :: l.drop (j + 1) := by
    have := List.getElem?_eq_some_iff.mp h
    obtain ⟨lt, hx⟩ := this
    rw [← hx, ← List.drop_eq_getElem_cons lt, List.take_append_drop]
  rw [e, List.find?_append, n, List.find?_cons_of_pos c]
  rfl
theorem find_no {α : Type} {f : α → Bool} {l : List α} {j : Nat} {x : α} (h : l[j]? = some x) (n : (l.take j).find? f = none) (c : ¬ f x = true) : (l.take (j + 1)).find? f = none := by
  rw [List.take_add_one, h, List.find?_append, n]
  show (none : Option α).or (List.find? f [x]) = none
  rw [List.find?_cons_of_neg c, List.find?_nil]
  rfl
theorem ru65 {k : Nat} {A : Around} (r : Room k A) : A.units + 65 < cLine := by
  have := r.un
  omega
theorem passE0 {X : Cx} {P : Program} {w : World} : Passes (L2.CX P w) X E0 := fun _ _ _ _ _ _ _ h => by
  obtain ⟨a, B, H', cls, d, _, _, _, _, _, _, _, z⟩ := h
  exact False.elim z
theorem eqv_str {a : Str} : ∀ {d : PyData}, PyData.eqv (.str a) d = true → d = .str a := fun {d} h => by
  cases d with
  | str b =>
    rw [PyData.eqv] at h
    rw [eq_of_beq h]
  | _ => simp [PyData.eqv] at h
end Ek

namespace Ek
open PySem PySem.Spec PyProof.Rows L2
/-! ### calls by name alone; calls whose errors are caught -/
def tCallW (sp : Sp) (E : XK) (t : TA) : TE := fun σ H Q => t σ H fun vs H1 => sp vs H1 Q E
def tCallT (sp : Sp) (E : L2.St → XK) (t : TA) : TE := fun σ H Q => t σ H fun vs H1 => sp vs H1 Q (E σ)
section
variable {X : Cx} {CX : CXT} {x : Str} {f : Addr} {k : Nat} {fd : FuncData} {ps ks : List Str} {sp : Sp} {E : XK} {ES : L2.St → XK} {p pos : Pos} {e : Expr} {es : List Expr} {kws : List Keyword} {ta : TA}
/-- f(k = v, ..) -/
theorem pe_callKw (F : FnOk X.prog X.w X.K X.mg X.base CX k f fd ps sp) (hr : Room k X.A) (hg : Gl X x) (hm : X.mg x = some (.ref f)) (hk : PySem.W.keepIn X.K (.ref f) = true) (hps : ps.length = ks.length) (hb : ∀ (s : Shared) (ws : List Value), ws.length = ks.length → BindsTo s fd ⟨[], ks.zip ws⟩ (ps.zip ws)) (hx : Passes CX X E) (hkw : PK X kws ta)
    (hall : (backToKw pos (keywordEach kws X.env)).all (·.1.isSome) = true := by rfl) (hks : (backToKw pos (keywordEach kws X.env)).filterMap (·.1) = ks := by rfl) (hdb : (x == ("__debug__" : Str)) = false := by decide)
    (hpl : ((backTo pos (starEach [] X.env)).any (·.1) || (backToKw pos (keywordEach kws X.env)).any (·.1.isNone)) = false := by rfl) :
    PE X (.Call (.Name x p) [] kws pos) (tCallW sp E ta) := by
  refine ⟨fun pins s σ H Q I h => ?_⟩
  refine wpAny_Call_Name_kw (ld_glob I hg hm ?_ hdb)
  refine PySem.W.callWith_KW0 (h₀ := X.base) I.ok.mod.kin hk hall ?_ hpl
  refine thn (hkw.run pos pins s σ H _ I h) fun ws s2 ⟨zs, H2, I2, rz, q2⟩ => ⟨I2.kIn, ?_⟩
  rw [hks]
  have hl : ws.length = ks.length := by
    have z := F.len _ _ _ _ q2
    rw [← rz.length]
    exact z.trans hps
  refine wpAny_call (codeAny_mono (F.run X.A X.stack s2 H2 ⟨[], ks.zip ws⟩ ws zs Q E hr I2.env0 (hb s2 ws hl) rz q2) fun r s' z => ?_)
  rcases r with er | (_ | _ | _ | u)
  · exact hx pins σ H2 s2 er s' I2 z
  · exact False.elim z
  · exact False.elim z
  · exact False.elim z
  · exact I2.after z
/-- f(e, ..), its errors caught by the try around it -/
theorem pe_callT (F : FnOk X.prog X.w X.K X.mg X.base CX k f fd ps sp) (hr : Room k X.A) (hg : Gl X x) (hm : X.mg x = some (.ref f)) (hk : PySem.W.keepIn X.K (.ref f) = true) (hb : Binds X.K fd ps []) (hx : ∀ σ, PassesAt CX X σ (ES σ)) (ha : PA X (e :: es) ta)
    (hdb : (x == ("__debug__" : Str)) = false := by decide) (he : starEach (e :: es) X.env = (false, eval e X.env) :: starEach es X.env := by rfl) (hpl : (backTo pos (starEach es X.env)).any (·.1) = false := by rfl) : PE X (.Call (.Name x p) (e :: es) [] pos) (tCallT sp ES ta) := by
  constructor
  intro pins s σ H Q I h
  refine wpAny_Call_Name_kw (ld_glob I hg hm (PySem.W.callWith_K (h₀ := X.base) I.ok.mod.kin hk (thn (ha.run pos pins s σ H _ I h) fun us s1 ⟨vs, H1, I1, r, q⟩ => ⟨I1.kIn, ?_⟩) he hpl) hdb)
  have hl : us.length = ps.length := r.length.symm.trans (F.len _ _ _ _ q)
  have z := hb s1 us I1.kIn (by simpa using hl)
  exact run_S (args := ⟨us, []⟩) (us := us) F hr (by simpa using z) (hx σ) I1 r q
end
end Ek

namespace Ek
open PySem PySem.Spec PyProof.Rows L2
/-! ### len of an object by its own __len__ -/
def rLenOwn (C : Addr) (sp : Sp) (E : XK) : List V → Hp → VK → Prop := fun xs H Q => ∃ (a dx : Addr) (fs : List (Str × V)), xs = [.ref a] ∧ H a = some (.ins C dx fs) ∧ sp [.ref a] H (fun v H' => ∃ n : Nat, v = .int n ∧ n ≤ 1000 ∧ Q v H') E
theorem call_lenOwn {X : Cx} {CX : CXT} {C f : Addr} {fd : FuncData} {ps : List Str} {k : Nat} {sp : Sp} {E : XK} (F : FnOk X.prog X.w X.K X.mg X.base CX k f fd ps sp) (hr : Room (k + 1) X.A) (hs : PySem.W.findIn X.K (.ref C) "__len__" = some (some (.ref f))) (hf : PySem.W.isFn X.K (.ref f) = true)
    (hb : Binds X.K fd ps []) (hx : Passes CX X E) : CallR X (.builtin "len") (rLenOwn C sp E) := by
  intro pins s σ H xs us Q I r h
  obtain ⟨a, dx, fs, rfl, ha, hsp⟩ := h
  rw [Vals.ref1 r]
  obtain ⟨mA, J, _⟩ := ins_get I.hok ha
  obtain ⟨od, J, _⟩ := J.look
  obtain ⟨m, hF⟩ := I.fr
  refine PySem.W.len_K hF I.ok.mod.kin J hs hf ?_
  have r2 : Vals [V.ref a] [Value.ref a] := .cons rfl .nil
  have hl := F.len _ _ _ _ hsp
  refine wpAny_call (codeAny_mono (F.run X.A.in1 X.stack s H ⟨[.ref a], []⟩ [.ref a] [.ref a] _ E hr.in1 I.env0.in1 (by
    have z := hb s [.ref a] I.kIn (by simpa using hl)
    simpa using z) r2 hsp) fun r s' z => ?_)
  rcases r with e | (_ | _ | _ | w)
  · exact hx pins σ H s e s' I z
  · exact False.elim z
  · exact False.elim z
  · exact False.elim z
  · obtain ⟨z, H', I', rz, n, ez, n9, q⟩ := I.after z
    subst ez
    obtain ⟨t, rfl⟩ := rz
    refine ⟨⟨by omega, by omega⟩, .int n, H', I'.tok _, ⟨_, rfl⟩, q⟩
/-! ### defs with parameters by name alone -/
section
variable {K : PySem.W.Frag} {x qual : Str} {params : Arguments} {body : List Stmt} {scope : Scope} {f : Addr} {fd : FuncData}
/-- every value handed in: us by place, ws by name, in order -/
theorem kb_all {v : V} {n : Str} (F : FunD K x qual params body scope [] [(n, v)] f fd) (m : Nat) (ks ps : List Str) (h : ∀ (D : Addr) (doc pm : Value) (an : Option Addr) (cdv ct : Value) (us ws : List Value), us.length = m → ws.length = ks.length →
      bindArgs (PySem.W.fnOf x qual params body scope .none (.ref D) doc pm an cdv ct) ⟨us, ks.zip ws⟩ = pure (ps.zip (us ++ ws))) : KBn K fd ps m ks (fun us ws => us ++ ws) (fun vs zs => vs ++ zs) := by
  obtain ⟨oc, od, dV, kV, doc, pm, an, cdv, ct, osl, rfl, lk, hcd, hD, hK⟩ := F.ex
  rcases hD with ⟨_, rfl⟩ | ⟨e, _⟩
  · rcases hK with e | ⟨D, rfl, hq⟩
    · exact absurd e (List.cons_ne_nil _ _)
    · refine ⟨fun s us ws X l1 l2 => BindsTo.of_looks fun M => PySem.W.Looks.of_pure (h D doc pm an cdv ct us ws l1 l2), fun r1 r2 => r1.append r2⟩
  · exact absurd rfl e
/-- the same, no value by place -/
theorem kw_all {v : V} {n : Str} (F : FunD K x qual params body scope [] [(n, v)] f fd) (ks : List Str) (h : ∀ (D : Addr) (doc pm : Value) (an : Option Addr) (cdv ct : Value) (ws : List Value), ws.length = ks.length →
      bindArgs (PySem.W.fnOf x qual params body scope .none (.ref D) doc pm an cdv ct) ⟨[], ks.zip ws⟩ = pure (ks.zip ws)) : ∀ (s : Shared) (ws : List Value), ws.length = ks.length → BindsTo s fd ⟨[], ks.zip ws⟩ (ks.zip ws) := by
  obtain ⟨oc, od, dV, kV, doc, pm, an, cdv, ct, osl, rfl, lk, hcd, hD, hK⟩ := F.ex
  rcases hD with ⟨_, rfl⟩ | ⟨e, _⟩
  · rcases hK with e | ⟨D, rfl, hq⟩
    · exact absurd e (List.cons_ne_nil _ _)
    · exact fun s ws l2 => BindsTo.of_looks fun M => PySem.W.Looks.of_pure (h D doc pm an cdv ct ws l2)
  · exact absurd rfl e
/-- the keyword-only value left out -/
theorem kb_dfl {v : V} {n : Str} (F : FunD K x qual params body scope [] [(n, v)] f fd) (m : Nat) (ps : List Str) (hn : m + 1 = ps.length) (h : ∀ (D : Addr) (doc pm : Value) (an : Option Addr) (cdv ct : Value) (us : List Value) (k : Value), us.length = m →
      KwChain D [(n, k)] (bindArgs (PySem.W.fnOf x qual params body scope .none (.ref D) doc pm an cdv ct) ⟨us, []⟩) (ps.zip (us ++ [k]))) : ∃ ds, Vals [v] ds ∧ Binds K fd ps ds := by
  refine FunD.binds0 F m (List.cons_ne_nil _ _) hn fun D doc pm an cdv ct us ks l1 l2 => ?_
  match ks, l2 with
  | [k], _ => exact h D doc pm an cdv ct us k l1
end
theorem pe_fldk {X : Cx} {e : Expr} {n : Str} {pos : Pos} {ta : TE} (K : PySem.W.Frag) (hK : X.K = K) (he : PE X e ta) (hb : attributeBase e n X.env (eval e X.env) = eval e X.env := by rfl) : PE X (.Attribute e n pos) (tFld K ta n) := by
  subst hK
  exact pe_fld he hb
end Ek

namespace Ek
open PySem PySem.Spec PyProof.Rows L2
/-! ### tuples whose own dict is known to be none: laid frozen -/
def tTupF (t : TA) : TE := fun σ H Q => t σ H fun xs H1 => xs.length ≤ sizeLine ∧ ∀ p o, o.dict = none → H1 p = none → Q (.ref p) (upd H1 p (.frz o (.tup xs)))
theorem pe_tupF {X : Cx} {es : List Expr} {t : TA} {x1 : Nat} {pos : Pos} (h : PA X es t) : PE X (.Tuple es x1 pos) (tTupF t) := by
  refine ⟨fun pins s σ H Q I hq => ?_⟩
  refine wpAny_Tuple_spliced (thn (h.run pos pins s σ H _ I hq) fun us s1 ⟨xs, H1, I1, r, z, q⟩ => ⟨by rw [← r.length]; exact z, ?_⟩)
  have hf : H1 s1.heap.objs.size = none := I1.hok.fresh (Nat.le_refl _)
  refine ⟨.ref s1.heap.objs.size, upd H1 s1.heap.objs.size (.frz { cls := .type "tuple", data := .seq us.toArray } (.tup xs)), I1.laid (t' := s1.toks) (fun b u e => Heap.get?_push_of_some _ e) (Nat.le_refl _) ?_, rfl, q _ _ rfl hf⟩
  exact ⟨Heap.get?_push_size _ rfl, z, us, r, ⟨_, Heap.get?_push_size _ rfl, rfl, _, rfl⟩⟩
def rCatF (K : PySem.W.Frag) : R2 := fun x y H Q => ∃ a b xs ys, x = .ref a ∧ y = .ref b ∧ SqT K H a xs ∧ SqT K H b ys ∧ xs.length + ys.length ≤ sizeLine ∧
  (xs = [] → Q (.ref b) H) ∧ (xs ≠ [] → ys = [] → Q (.ref a) H) ∧ (xs ≠ [] → ys ≠ [] → ∀ p o, o.dict = none → H p = none → Q (.ref p) (upd H p (.frz o (.tup (xs ++ ys)))))
theorem op_catF {X : Cx} : OpR X (binaryOp .Add) (rCatF X.K) := by
  intro pins s σ H x y v u Q I rx ry h
  obtain ⟨a, b, xs, ys, rfl, rfl, ha, hb, hz, q0, q1, q2⟩ := h
  by_cases hx : xs = []
  · exact op_catA pins s σ H _ _ v u Q I rx ry ⟨a, b, xs, ys, rfl, rfl, ha, hb, hz, q0, fun z => absurd hx z, fun z => absurd hx z⟩
  · cases rx
    cases ry
    obtain ⟨its, r1, p1, _⟩ := I.tuple ha
    obtain ⟨its2, r2, p2, _⟩ := I.tuple hb
    refine HT.cat_tup p1 p2 (fun z => hx (r1.nil_iff.mp z)) (fun z => ⟨.ref a, H, I, rfl, q1 hx (r2.nil_iff.mp z)⟩) (fun z => ?_) (by rw [← r1.length, ← r2.length]; exact hz)
    refine ⟨.ref s.heap.objs.size, _, I.laid (t' := s.toks) (o := .frz { cls := .type "tuple", data := .seq (its ++ its2).toArray } (.tup (xs ++ ys))) (fun b ob q => Heap.get?_push_of_some _ q) (Nat.le_refl _) ?_, rfl, q2 hx (fun w => z (r2.nil_iff.mpr w)) _ _ rfl (I.hok.fresh (Nat.le_refl _))⟩
    exact ⟨Heap.get?_push_size _ rfl, by rw [List.length_append]; exact hz, _, r1.append r2, IsTup.new _ _⟩
theorem op_catFk {X : Cx} (K : PySem.W.Frag) (hK : X.K = K) : OpR X (binaryOp .Add) (rCatF K) := hK ▸ op_catF
/-- t.count(n) of such a tuple of whole numbers -/
def rCountF (K : PySem.W.Frag) : V → List V → Hp → VK → Prop := fun x vs H Q => ∃ (l : Addr) (ns : List Int) (i : Int), x = .ref l ∧ vs = [.int i] ∧ SqT K H l (ns.map V.int) ∧ Q (.int (((ns.map PyData.int).countP fun y => PyData.eqv y (.int i) : Nat) : Int)) H
theorem plain_ints : ∀ {ns : List Int}, PyData.plainAll (ns.map PyData.int) = true
  | [] => by simp [PyData.plainAll]
  | n :: ns => by simp only [List.map_cons, PyData.plainAll, PyData.plain, plain_ints, Bool.and_self]
theorem dp_intsF {K : PySem.W.Frag} {H : Hp} : ∀ {ns : List Int}, DpAll K H (ns.map V.int) (ns.map PyData.int)
  | [] => .nil
  | n :: ns => .cons (.int n) dp_intsF
theorem mt_countF {X : Cx} (hu : X.A.units + 65 < cLine) : MtM X "tuple.count" (rCountF X.K) := by
  intro pins s σ H x vs v us Q I rx rv h
  obtain ⟨l, ns, i, rfl, rfl, hS, q⟩ := h
  cases rx
  obtain ⟨u, rfl, ru⟩ := rv.one
  obtain ⟨its, r, hl, _⟩ := I.tuple hS
  obtain ⟨as, r1⟩ := Dp.readsAll I (ns.map .int) (ns.map V.int) its dp_intsF r
  obtain ⟨bs, r2⟩ := Dp.reads I (.int i) (.int i) u (.int i) ru
  exact SeqAt.count_tuple_data hl (by simpa using r1) r2 plain_ints (by simp only [PyData.plain]) (by simp only [PyData.depth, Nat.min_zero, Nat.zero_min]; omega) ⟨.int _, H, I.kept (fun _ _ h => h), ⟨_, rfl⟩, q⟩
def tBMF (r : V → List V → Hp → VK → Prop) (to : TE) (t : TA) : TE := fun σ H Q => to σ H fun x H1 => (∃ p o xs, x = .ref p ∧ o.dict = none ∧ H1 p = some (.frz o (.tup xs))) ∧ t σ H1 fun xs H2 => r x xs H2 Q
theorem pe_bmF {X : Cx} {o e : Expr} {es : List Expr} {to : TE} {t : TA} {name : Str} {apos cpos : Pos} {id : String} {r : V → List V → Hp → VK → Prop} (pa : PlainAttrs "tuple") (slot : Slot "tuple" name id) (hty : typeOf (.builtin id) = pure (.type "method_descriptor")) (hm : MtM X id r) (ho : PE X o to) (ha : PA X (e :: es) t)
    (hbase : attributeBase o name X.env (eval o X.env) = eval o X.env := by rfl)
    (hfew : ((backTo cpos (starEach (e :: es) X.env)).all (fun x => !x.1) && (backToKw cpos (keywordEach [] X.env)).all (fun x => x.1.isSome)
      && decide ((e :: es).length + ([] : List Keyword).length + (if ([] : List Keyword).isEmpty then 0 else 1) < 30)) = true := by rfl)
    (hline : (apos.endLine == cpos.line) = true := by rfl) (hs : starEach (e :: es) X.env = (false, eval e X.env) :: starEach es X.env := by rfl) (hplain : (backTo cpos (starEach es X.env)).any (·.1) = false := by rfl) :
    PE X (.Call (.Attribute o name apos) (e :: es) [] cpos) (tBMF r to t) := by
  refine ⟨fun pins s σ H Q I h => ?_⟩
  refine wpAny_Call_method_late hbase hfew hline rfl (thn (ho.run pins s σ H _ I h) fun v s1 ⟨x, H1, I1, r1, ty, q1⟩ => ?_)
  obtain ⟨p, ob, xs, rfl, hd, hp⟩ := ty
  cases r1
  obtain ⟨e1, z, its, rv, ob2, e2, c2, _⟩ := (show ObjOk X.prog X.w H1 s1.heap p (.frz ob (.tup xs)) from I1.hok p _ hp)
  have h1 : s1.TypeIs (.ref p) "tuple" := ⟨ob2, e2, c2⟩
  have h2 : ∀ a, Value.ref p = .ref a → ∃ ob, s1.heap.get? a = some ob ∧ ob.dict = none := fun a e => by
    cases e
    exact ⟨ob, e1, hd⟩
  refine ⟨"tuple", id, pa, slot, hty, h1, h2, ?_⟩
  have hA := ha.run cpos pins s1 σ H1 _ I1 q1
  rw [hs] at hA ⊢
  refine Calls.callWith_builtin (by show (false || (backTo cpos (starEach es X.env)).any (·.1)) = false; rw [hplain] <;> rfl) (Calls.evalArgs_plain ?_)
  exact thn hA fun us s2 ⟨vs, H2, I2, r2, q2⟩ => hm pins s2 σ H2 (.ref p) vs (.ref p) us Q I2 rfl r2 q2
/-- what is known of a frozen tuple is let go -/
def tForget (H0 : Hp) (te : TE) : TE := fun σ H Q => (∃ a o xs, H a = some (.frz o (.tup xs)) ∧ (∀ o' u', H0 a ≠ some (.frz o' u')) ∧ te σ (upd H a (.tup xs)) Q) ∨ te σ H Q
theorem pe_forget {X : Cx} {e : Expr} {te : TE} (h : PE X e te) : PE X e (tForget X.H_0 te) := by
  refine ⟨fun pins s σ H Q I hq => ?_⟩
  rcases hq with ⟨a, o, xs, ha, hn, q⟩ | q
  · exact h.run pins s σ (upd H a (.tup xs)) Q (I.unlock ha hn) q
  · exact h.run pins s σ H Q I q
end Ek

namespace Ek
open PySem PySem.Spec PyProof.Rows L2
/-! ### the values of a dict with tuples as keys, as a list -/
section
variable {prog : Program} {w : World} {A : Around} {E : Value → Shared → Prop} {s : Shared} {d : Addr} {es : Array DictEntry} {ep : Nat}
theorem meets_vals (hd : (d == sysModules) = false) : MeetsIn prog w (Builtin.«dict.values» ⟨[.ref d], []⟩) fun _ R s => DT.Raw s.heap d es ep ∧ R (.ok (.ret (.ref s.heap.objs.size))) { s with heap := s.heap.push (DSub.viewOb "dict_values" d) } := .of_wp fun A R s ⟨hm, h⟩ => by
  refine wpAny_bind ?_; unfold Builtin.Dict.noArgs
  refine wpAny_bind (wpAny_notOrdered_dict hm.typeIs ?_); show wpAny _ _ (pure d) _ _ s
  refine wpAny_pure ?_; show wpAny _ _ (Builtin.Dict.showsAll d >>= _) _ _ s; unfold Builtin.Dict.showsAll; rw [if_neg (by rw [hd]; exact Bool.false_ne_true)]
  refine wpAny_bind (wpAny_pure ?_); exact wpAny_bind (wpAny_newObj_type (wpAny_pure ⟨_, rfl, h⟩))
theorem call_vals {Q : Value → Shared → Prop} (hd : (d == sysModules) = false) (hm : DT.Raw s.heap d es ep) (h : Q (.ref s.heap.objs.size) { s with heap := s.heap.push (DSub.viewOb "dict_values" d) }) : wpAny (model prog w) A (call (.builtin "dict.values") [.ref d]) Q E s :=
  call_meetsIn PySem.F.slot_dict_values hm.typeIs PySem.F.entry_dict_values (PySem.F.args_dict_values_1 _) (meets_vals (es := es) (ep := ep) hd) ⟨hm, h⟩
theorem kdl_vals {v : Addr} {o : Obj} (hx : o.ExactDict) (hd : o.data = .dict es ep) : PySem.W.KdlSrc prog w "dict_values" v d es.size (fun i x => ∃ en : DictEntry, es[i]? = some en ∧ x = en.val) fun h => h.get? v = some (DSub.viewOb "dict_values" d) ∧ h.get? d = some o where
  type := fun _ hm => ⟨_, hm.1, rfl⟩
  there := fun _ hm => ⟨Heap.lt_size hm.1, Heap.lt_size hm.2⟩
  keep := fun _ _ hm hk => ⟨hk v (.inl rfl) _ hm.1, hk d (.inr rfl) _ hm.2⟩
  notList := by decide
  notTuple := by decide
  hint := fun _ _ s _ hm hq => PySem.W.kdl_hint_values (s := s) ⟨_, hm.1, rfl⟩ hq
  iter := fun _ s hh hm => ⟨_, _, (fun _ _ hq => DSub.iter_vals hm.1 hm.2 hd hq), DSub.walksVal hh (Nat.ne_of_lt (Heap.lt_size hm.2)) hd (fun i e he => ⟨e, he, rfl⟩), ⟨Heap.get?_push_size _ rfl, Heap.get?_push_of_some _ hm.2⟩⟩
end
section
variable {X : Cx}
def rValsT : V → List V → Hp → VK → Prop := fun x xs H Q => ∃ (a : Addr) (kvs : List (List L2.Key × V)), x = .ref a ∧ xs = [] ∧ H a = some (.dT kvs) ∧ ∀ p, H p = none → Q (.ref p) (upd H p (viewO "dict_values" p a))
theorem mt_valsT : MtR X "dict.values" rValsT := by
  intro pins s σ H x xs v us Q I rx rxs h
  obtain ⟨a, kvs, rfl, rfl, ha, q⟩ := h
  cases rx
  cases rxs
  obtain ⟨z, hd, ws, rel, o, es, ep, ho, hx, hdat, _⟩ := dt_of I.hok ha
  refine call_vals (es := es) (ep := ep) hd ⟨o, ho, hx, hdat⟩ ?_
  exact ⟨.ref s.heap.objs.size, upd H s.heap.objs.size (viewO "dict_values" s.heap.objs.size a), I.laid (t' := s.toks) (fun b u e => Heap.get?_push_of_some _ e) (Nat.le_refl _) (viewO_ok (Heap.get?_push_size _ rfl)), rfl, q _ (I.hok.fresh (Nat.le_refl _))⟩
def rListV : List V → Hp → VK → Prop := fun xs H Q => ∃ (p a : Addr) (kvs : List (List L2.Key × V)), xs = [V.ref p] ∧ H p = some (viewO "dict_values" p a) ∧ H a = some (.dT kvs) ∧ ∀ q, H q = none → Q (.ref q) (upd H q (.lst (kvs.map (·.2))))
theorem call_list_vals (hc : X.calm = true) : CallR X (.type "list") rListV := by
  intro pins s σ H xs us Q I r h
  obtain ⟨p, d, kvs, rfl, hp, hd, q⟩ := h
  obtain ⟨u, rfl, rx⟩ := r.one
  cases rx
  have hv : s.heap.get? p = some (DSub.viewOb "dict_values" d) := (show ObjOk X.prog X.w H s.heap p (viewO "dict_values" p d) from I.hok p _ hp).1
  obtain ⟨z, hs, ks, pr, o, es, ep, ho, hx, hdt, he, hn⟩ := dt_of I.hok hd
  have l1 : es.size = ks.length := size_of_entries he
  have l2 : kvs.length = ks.length := Paired.length pr
  refine PySem.W.kdl_call (kdl_vals hx hdt) (I.ok.hd hc) ⟨hv, ho⟩ (by omega) fun h' tk acc' c' kp e it => ?_
  have rv : Vals (kvs.map (·.2)) acc'.toList := by
    have la : acc'.toList.length = acc'.size := by simp
    refine vals_of_at (by rw [List.length_map, la, it.1, l1, l2]) fun j x u h1 h2 => ?_
    obtain ⟨en, hen, rfl⟩ := it.2 j u (by rw [← Array.getElem?_toList]; exact h2)
    rw [List.getElem?_map] at h1
    obtain ⟨p, hp1, rfl⟩ := Option.map_eq_some_iff.mp h1
    have hj : j < ks.length := by have := (List.getElem?_eq_some_iff.mp hp1).1; omega
    obtain ⟨p', h3, h4⟩ := DX.pget pr (List.getElem?_eq_getElem hj)
    rw [hp1] at h3
    cases h3
    have qe := entry_at he j
    rw [hen, List.getElem?_eq_getElem hj] at qe
    have e2 : en = entryOfKey (tupleKind (mixKind X.prog X.w)) ks[j] := Option.some.inj qe
    rw [e2]
    exact h4.2.2
  have hz : (kvs.map (·.2)).length ≤ sizeLine := by rw [List.length_map]; omega
  refine ⟨.ref s.heap.objs.size, _, I.laid (t' := tk) (o := .lst (kvs.map (·.2))) kp (Nat.le_refl _) ?_, rfl, q _ (I.hok.fresh (Nat.le_refl _))⟩
  exact ⟨hz, acc'.toList, c', rv, by rw [Array.toArray_toList]; exact e⟩
/-! ### dict(t) of a tuple of pairs (tuple, value), each key once; the tuple's own dict is known to be none -/
abbrev PrT (K : PySem.W.Frag) (H : Hp) (p : Addr) (q : Addr × List L2.Key × V) : Prop := SqT K H p [.ref q.1, q.2.2] ∧ H q.1 = some (.tup (q.2.1.map kV))
theorem prsT_of {pins : List (Addr × Obj)} {σ : L2.St} {H : Hp} {s : Shared} (I : Inv X pins σ H s) : ∀ {ps : List Addr} {L : List (Addr × List L2.Key × V)}, Paired (PrT X.K H) ps L →
    ∃ prs : List (List L2.Key × Addr × Value), KT H (L.map (·.2)) prs ∧ prs.length = ps.length ∧ prs.map (·.1) = L.map (·.2.1) ∧ ∀ (j : Nat) (q : List L2.Key × Addr × Value), prs[j]? = some q → ∃ b : Addr, ps[j]? = some b ∧ IsTup s.heap b #[.ref q.2.1, q.2.2]
  | _, _, .nil => ⟨[], .nil, rfl, rfl, fun j q e => by simp at e⟩
  | _, _, .cons (a := p) (b := kv) h t => by
    obtain ⟨prs, r, hl, hk, hp⟩ := prsT_of I t
    obtain ⟨its, rv, ht, _⟩ := I.tuple h.1
    obtain ⟨u, y, ei, ru, ry⟩ := vals2 rv
    subst ei
    cases ru
    refine ⟨(kv.2.1, kv.1, y) :: prs, .cons ⟨rfl, h.2, ry⟩ r, by rw [List.length_cons, List.length_cons, hl], by rw [List.map_cons, List.map_cons, hk], fun j q e => ?_⟩
    cases j with
    | zero =>
      cases (show some (kv.2.1, kv.1, y) = some q from e)
      exact ⟨p, rfl, ht⟩
    | succ j =>
      obtain ⟨b, e1, e2⟩ := hp j q (by simpa using e)
      exact ⟨b, by simpa using e1, e2⟩
theorem kt_mem {H : Hp} {kvs : List (List L2.Key × V)} {prs : List (List L2.Key × Addr × Value)} (r : KT H kvs prs) : ∀ x ∈ prs, H x.2.1 = some (.tup (x.1.map kV)) := by
  induction r with
  | nil => intro x m; cases m
  | cons h _ ih =>
    intro x m
    rcases List.mem_cons.mp m with e | m
    · rw [e, ← h.1]; exact h.2.1
    · exact ih x m
def rDictF (K : PySem.W.Frag) : List V → Hp → VK → Prop := fun xs H Q => ∃ (a : Addr) (o : Obj) (ps : List Addr) (L : List (Addr × List L2.Key × V)), xs = [V.ref a] ∧ o.dict = none ∧ H a = some (.frz o (.tup (ps.map V.ref))) ∧ Paired (PrT K H) ps L ∧ (L.map (·.2.1)).Nodup ∧ L.length ≤ sizeLine ∧ ∀ p, H p = none → Q (.ref p) (upd H p (.dT (L.map (·.2))))
theorem call_dictF (hc : X.calm = true) (hu : X.A.units + 64 < cLine) : CallR X (.type "dict") (rDictF X.K) := by
  intro pins s σ H xs us Q I r h
  obtain ⟨a, o, ps, L, rfl, hod, ha, pr, nd, hz, q⟩ := h
  obtain ⟨u, rfl, rx⟩ := r.one
  cases rx
  obtain ⟨e1, z, its, rv, ob2, e2, c2, nn, d2⟩ := (show ObjOk X.prog X.w H s.heap a (.frz o (.tup (ps.map V.ref))) from I.hok a _ ha)
  obtain rfl : ob2 = o := Option.some.inj (e2.symm.trans e1)
  obtain ⟨prs, kt, hl, hk, hp⟩ := prsT_of I pr
  have ei := refs_at rv
  have lL : L.length = prs.length := by
    have := congrArg List.length hk
    rw [List.length_map, List.length_map] at this
    exact this.symm
  have nd2 : (prs.map (·.1)).Nodup := by rw [hk]; exact nd
  have km := kt_mem kt
  refine PySem.call_dict_pairsH (knd := tupleKind (mixKind X.prog X.w)) (ps := prs) (PySem.PairArg.tuple a its.toArray (fun j => ps.getD j 0) (prs.map fun x => (Value.ref x.2.1, x.2.2))) (I.ok.hd hc) ?room ⟨⟨_, nn, e1, c2, hod, d2⟩, ?sz, fun j k v hj => ?pr⟩ ⟨(List.length_map _).symm, fun i key v rel => ?rel⟩ (fun h' hk' x hx => ?st) (by rw [List.length_map]; omega) fun h' tk dd hkk => ?fin
  case room => exact tupleKind_room_in1 (A := X.A.in1) (by show X.A.units + 1 + 1 < cLine; omega)
  case sz => rw [ei, List.size_toArray, List.length_map, List.length_map, hl]
  case pr =>
    rw [List.getElem?_map] at hj
    obtain ⟨x, hx, ex⟩ := Option.map_eq_some_iff.mp hj
    cases ex
    obtain ⟨b, hb, tb⟩ := hp j x hx
    have eb : ps.getD j 0 = b := by rw [List.getD_eq_getElem?_getD, hb]; rfl
    show its.toArray[j]? = some (Value.ref (ps.getD j 0)) ∧ PairAt s.heap (ps.getD j 0) _ _
    rw [eb]
    exact ⟨by rw [ei, List.getElem?_toArray, List.getElem?_map, hb]; rfl, .inl tb⟩
  case rel =>
    have rel' : (prs.map fun x => (Value.ref x.2.1, x.2.2))[i]? = some (key, v) := rel
    rw [List.getElem?_map] at rel'
    obtain ⟨x, hx, ex⟩ := Option.map_eq_some_iff.mp rel'
    cases ex
    exact ⟨x.1, x.2.1, hx, rfl⟩
  case st =>
    exact PySem.tupleKind_stays.stays (fun b ob vs n e _ => hk' b ob (Nat.ne_of_lt (Heap.lt_size e)) (fun z => by cases z) e) (key_of I.hok (km x hx))
  case fin =>
    rw [PySem.storedAllH_nil_of_nodup prs nd2] at dd
    obtain ⟨oD, es, ep, h1, h2, h3, h4, _, h5⟩ := dd
    have hf : H s.heap.objs.size = none := I.hok.fresh (Nat.le_refl _)
    refine ⟨.ref s.heap.objs.size, upd H s.heap.objs.size (.dT (L.map (·.2))), I.laid (t' := tk) (fun b u e => hkk b u (fun z => by cases z) e) (Nat.le_refl _) ?_, rfl, q _ hf⟩
    exact ⟨by rw [List.length_map]; exact hz, beq_eq_false_iff_ne.mpr (Ne.symm (Nat.ne_of_lt I.big)), prs, kt.keeps fun b ys e => (by rw [upd_ne (ne_of_none e hf)]; exact e), oD, es, ep, h1, h2, h3, h4, h5⟩
/-! ### tuple(l) of a list, laid with its own dict known to be none -/
def rTupF (K : PySem.W.Frag) : List V → Hp → VK → Prop := fun xs H Q => ∃ p ys, xs = [.ref p] ∧ SqL K H p ys ∧ ∀ l o, o.dict = none → H l = none → Q (.ref l) (upd H l (.frz o (.tup ys)))
theorem call_tupleF : CallR X (.type "tuple") (rTupF X.K) := by
  intro pins s σ H xs us Q I r h
  obtain ⟨p, ys, rfl, hq, q⟩ := h
  obtain ⟨u, rfl, rx⟩ := r.one
  cases rx
  obtain ⟨its, r', pl, hz⟩ := I.list hq
  have hlen := r'.length
  refine call_tuple_list pl.isList (fun h' kp => ?_) (by simp only [List.size_toArray] <;> omega)
  have I1 : Inv X pins σ H { s with heap := h' } := I.kept (t' := s.toks) kp
  have hf : H h'.objs.size = none := I1.hok.fresh (Nat.le_refl _)
  refine ⟨.ref h'.objs.size, upd H h'.objs.size (.frz { cls := .type "tuple", data := .seq its.toArray } (.tup ys)), I1.laid (t' := s.toks) (fun b o e => Heap.get?_push_of_some _ e) (Nat.le_refl _) ?_, rfl, q _ _ rfl hf⟩
  exact ⟨Heap.get?_push_size _ rfl, hz, its, r', IsTup.new _ _⟩
theorem ru1 {k : Nat} {A : Around} (r : Room k A) : A.units + 1 < cLine := by
  have := r.un
  omega
theorem cr_allk (K : PySem.W.Frag) (hK : X.K = K) (hc : X.calm = true) : CallR X (.builtin "all") (rAll K) := hK ▸ cr_all hc
end
end Ek

namespace Ek
open PySem PySem.Spec PySem.Calls PyProof.Rows L2
/-! ### tuples, some of them empty, in order -/
def TupsA (h : Heap) : List Value → List (Option Value) → Prop
  | [], [] => True
  | v :: vs, f :: fs => (∃ a o xs n, v = .ref a ∧ h.get? a = some o ∧ o.cls = .type "tuple" ∧ o.data = .seq xs n ∧ xs[0]? = f) ∧ TupsA h vs fs
  | _, _ => False
section
variable {M : Model} {s : Shared} {A : Around} {E : Value → Shared → Prop}
theorem firstsA : ∀ (vs : List Value) (fs : List (Option Value)) {Q : List (Option Value) → Shared → Prop}, TupsA s.heap vs fs → Q fs s → wpAny M A (vs.mapM firstOfTuple') Q E s
  | [], [], _, _, now => by rw [List.mapM_nil]; exact wpAny_pure now
  | [], _ :: _, _, tups, _ => tups.elim
  | _ :: _, [], _, tups, _ => tups.elim
  | v :: vs, f :: fs, Q, tups, h => by
    obtain ⟨⟨a, o, xs, n, e, ho, hc, hd, hf⟩, t⟩ := tups; subst e
    rw [List.mapM_cons]; refine wpAny_bind ?_
    rw [PySem.W.kas_first_eq]; refine wpAny_bind (PySem.W.Looks.here (show PySem.W.Looks M s.heap (typeOf (.ref a)) o.cls from (PySem.W.Looks.ld ho).andThen .now) ?_)
    rw [hc, if_neg (by first | decide | simp)]; refine wpAny_bind (listItems_at ho hd (wpAny_pure ?_))
    rw [hf]; exact wpAny_bind (firstsA vs fs (Q := fun bs s' => wpAny M A (pure (f :: bs)) Q E s') t (wpAny_pure h))
theorem tupsA_len {h : Heap} : ∀ {vs : List Value} {fs : List (Option Value)}, TupsA h vs fs → vs.length = fs.length
  | [], [], _ => rfl
  | [], _ :: _, t => t.elim
  | _ :: _, [], t => t.elim
  | _ :: vs, _ :: fs, t => by rw [List.length_cons, List.length_cons, tupsA_len t.2]
theorem tupsA_look {h : Heap} : ∀ {vs : List Value} {fs : List (Option Value)}, TupsA h vs fs → ∀ v ∈ vs, PySem.W.Looks M h (typeOf v) (.type "tuple")
  | [], [], _, v, m => by cases m
  | [], _ :: _, t, _, _ => t.elim
  | _ :: _, [], t, _, _ => t.elim
  | u :: vs, f :: fs, t, v, m => by
    obtain ⟨⟨a, o, xs, n, e, ho, hc, hd, hf⟩, t⟩ := t
    rcases List.mem_cons.mp m with z | m
    · rw [z, e]
      exact hc ▸ (PySem.W.Looks.ld ho).andThen .now
    · exact tupsA_look t v m
theorem kindA {vs : List Value} {fs : List (Option Value)} {Q : SortKind → Shared → Prop} (t : TupsA s.heap vs fs) (h2 : 2 ≤ vs.length) (hn : fs.all (·.isSome) = false) (hg : (fs[0]?.bind id).isSome = true → Q general' s) (ho : (fs[0]?.bind id).isSome = false → Q oneType' s) : wpAny M A (keyKind' vs.toArray) Q E s := by
  have lk := tupsA_look (M := M) t
  obtain ⟨v₁, rest, rfl⟩ : ∃ v₁ rest, vs = v₁ :: rest := by
    cases vs with
    | nil => simp at h2
    | cons a l => exact ⟨a, l, rfl⟩
  rw [keyKind'_eq, List.mapM_toArray, map_eq_pure_bind]; refine wpAny_bind (wpAny_bind (firstsA _ fs t (wpAny_pure ?_)))
  have hn' : (fs.toArray.all fun x => x.isSome) = false := by rw [List.all_toArray]; exact hn
  have h0 : fs.toArray[0]? = fs[0]? := by simp
  rw [if_neg (by rw [hn']; decide), h0]
  cases c : (fs[0]?.bind id).isSome with
  | true =>
    rw [if_pos rfl]
    exact wpAny_pure (hg c)
  | false =>
    rw [if_neg (by decide), oneTypeOnly'_eq, List.mapM_toArray, map_eq_pure_bind]
    refine wpAny_bind (wpAny_bind (wpAny_bind (PySem.W.kas_mapM (r := Value.type "tuple") _ (fun v hv Q' hq => (lk v hv).here hq) (wpAny_pure ?_))))
    have hall : ((List.map (fun _ => Value.type "tuple") (v₁ :: rest)).toArray.all fun x => x == Value.type "tuple") = true := by
      simp only [List.all_toArray, List.all_map, List.all_eq_true]; intro _ _; exact beq_self_eq_true _
    have h00 : (List.map (fun _ => Value.type "tuple") (v₁ :: rest)).toArray[0]? = some (Value.type "tuple") := by simp
    rw [h00]; simp only [hall, if_true]; exact wpAny_pure (wpAny_pure (ho c))
end
/-! ### the order of two tuples of data, as the sort asks for it -/
section
variable {s : Shared} {prog : Program} {w : World} {A : Around} {E : Value → Shared → Prop}
open PySem.SeqAt in
theorem oneLt_tup {xs ys : List PyData} {a b : Value} {as bs : List Addr} {Q : Bool → Shared → Prop} (ra : Reads s.heap a (.tuple xs) as) (rb : Reads s.heap b (.tuple ys) bs) (h : PySem.W.alike (.tuple xs) (.tuple ys) = true) (hu : A.units + min (PyData.tuple xs).depth (PyData.tuple ys).depth < cLine) (hq : Q (PySem.W.dataLt (.tuple xs) (.tuple ys)) s) : wpAny (model prog w) A (oneLt' true a b) Q E s := by
  have hal : PySem.W.alikeAll xs ys = true := by simpa [PySem.W.alike] using h
  cases ra with
  | @tuple l o vs n _ _ h1 h2 h3 h4 =>
    cases rb with
    | @tuple l' o' vs' n' _ _ k1 k2 k3 k4 =>
      have n1 : vs.size = xs.length := by simpa using PySem.SeqAt.ReadsAll.length _ _ _ h4
      have n2 : vs'.size = ys.length := by simpa using PySem.SeqAt.ReadsAll.length _ _ _ k4
      rw [PySem.W.dataLt_tuple, ← PySem.W.firstLt_toks xs ys hal, ← n1, ← n2] at hq
      rw [oneLt'_eq]; simp only [if_true]
      refine wpAny_bind (wpAny_cRoomFor (PySem.SeqAt.room_here hu) ?_)
      obtain ⟨cls, dd, data, sl⟩ := o; obtain ⟨cls2, dd2, data2, sl2⟩ := o'
      simp only at h2 h3 k2 k3
      subst h2 h3 k2 k3
      refine wpAny_bind (wpAny_callSpecialIfBound?_slot (T := "tuple") ⟨_, h1, rfl⟩ PySem.F.slot_tuple_lt (call_meets PySem.F.slot_tuple_lt ⟨_, h1, rfl⟩ PySem.F.entry_tuple_lt (PySem.F.args_tuple_lt_2 _ _) (PySem.SeqAt.tuple_ltAt _ _ vs vs' n n' dd dd2 sl sl2 (pairEq xs ys) (fun j => PySem.W.dataLt (xs.getD j .none) (ys.getD j .none))) ⟨h1, k1, fun j j1 j2 => ?_, fun j j1 j2 hj => ?_, ?_⟩))
      · have z := PySem.W.eqAt_alikeAll xs ys A.in1 s vs.toList vs'.toList _ _ h4 k4 hal (PySem.SeqAt.room_in hu) j (by simpa using j1) (by simpa using j2); simpa using z
      · have z := PySem.W.rcLt_alikeAll xs ys A.in1 s vs.toList vs'.toList _ _ h4 k4 hal (PySem.SeqAt.room_in hu) j (by simpa using j1) (by simpa using j2) hj; simpa using z
      · exact wpAny_truthy_bool hq
end
theorem eachA {h : Heap} : ∀ {vs : List Value} {ds : List PyData}, PySem.W.EachIs (fun v d => ∃ as, Reads h v d as) vs ds → (∀ d, d ∈ ds → ∃ xs, d = .tuple xs) → ∃ fs, TupsA h vs fs ∧ (fs.all (·.isSome) = true → ∀ d, d ∈ ds → ∃ x r, d = .tuple (x :: r))
  | _, _, .nil, _ => ⟨[], trivial, fun _ d m => by cases m⟩
  | _, _, .cons (b := d) ⟨_, r⟩ t, ht => by
    obtain ⟨fs, h1, h2⟩ := eachA t fun d hd => ht d (List.mem_cons_of_mem _ hd)
    obtain ⟨ys, rfl⟩ := ht d (List.mem_cons_self ..)
    cases r with
    | @tuple a o xs c _ _ ho hc hd hr =>
      refine ⟨xs[0]? :: fs, ⟨⟨a, o, xs, c, rfl, ho, hc, hd, rfl⟩, h1⟩, fun z d m => ?_⟩
      rw [List.all_cons, Bool.and_eq_true] at z
      rcases List.mem_cons.mp m with e | m
      · cases ys with
        | nil =>
          have l0 : xs.toList.length = 0 := PySem.SeqAt.ReadsAll.length _ _ _ hr
          have : xs[0]? = none := by rw [← Array.getElem?_toList]; exact List.getElem?_eq_none (by omega)
          rw [this] at z; exact absurd z.1 (by decide)
        | cons y ys => exact ⟨y, ys, e⟩
      · exact h2 z.2 d m
section
variable {s : Shared} {prog : Program} {w : World} {A : Around}
theorem sortsTups {vs : List Value} {ds : List PyData} (e : PySem.W.EachIs (fun v d => ∃ as, Reads s.heap v d as) vs ds) (hal : PySem.W.AllAlike ds) (ht : ∀ d, d ∈ ds → ∃ xs, d = .tuple xs) (hu : ∀ d, d ∈ ds → A.units + d.depth < cLine) : PySem.W.SortsAt prog w A s (PySem.W.dataKind s.heap ds) vs := by
  have room : ∀ {d d' : PyData}, d ∈ ds → A.units + min d.depth d'.depth < cLine := fun {d d'} hd => by have := hu d hd; omega
  obtain ⟨fs, t, hz⟩ := eachA e ht
  by_cases c : fs.all (·.isSome) = true
  · exact PySem.W.SortsAt.data e hal (.inl (hz c)) hu
  · have c' : fs.all (·.isSome) = false := by simpa using c
    refine ⟨fun v hv => ?_, ?_⟩
    · obtain ⟨d, hd, _, r⟩ := e.left v hv; exact ⟨_, PySem.W.dataKind_some hal hd r⟩
    · cases g : (fs[0]?.bind id).isSome with
      | true =>
        refine ⟨general', fun E x y a b Q ha hb hq => ?_, fun h2 E Q hq => kindA t h2 c' (fun _ => hq) (fun z => by rw [g] at z; cases z)⟩
        obtain ⟨d, as, hd, ra, rfl⟩ := PySem.W.dataKind_inv ha
        obtain ⟨d', as', hd', rb, rfl⟩ := PySem.W.dataKind_inv hb
        obtain ⟨u, rfl⟩ := ht d hd
        exact PySem.W.oneLt_alike (f := false) (fun z => by cases z) ra rb (hal _ hd _ hd') (fun z => by cases z) (room hd) hq
      | false =>
        refine ⟨oneType', fun E x y a b Q ha hb hq => ?_, fun h2 E Q hq => kindA t h2 c' (fun z => by rw [g] at z; cases z) (fun _ => hq)⟩
        obtain ⟨d, as, hd, ra, rfl⟩ := PySem.W.dataKind_inv ha
        obtain ⟨d', as', hd', rb, rfl⟩ := PySem.W.dataKind_inv hb
        obtain ⟨u, rfl⟩ := ht d hd; obtain ⟨u', rfl⟩ := ht d' hd'
        exact oneLt_tup ra rb (hal _ hd _ hd') (room hd) hq
end
/-! ### sorted(d) of a dict with tuples of numbers as keys -/
section
variable {X : Cx}
def encT (z : Addr × List Int) : PyData := .tuple (z.2.map .int)
theorem alikeT (x y : Addr × List Int) : PySem.W.alike (encT x) (encT y) = true := by unfold encT; simp [PySem.W.alike, PySem.W.alike_ints]
theorem depthT (x : Addr × List Int) : (encT x).depth ≤ 60 := by unfold encT; simp [PyData.depth, PySem.W.depth_ints]
theorem dpInts {K : PySem.W.Frag} {H : Hp} : ∀ {xs : List Int}, DpAll K H (xs.map V.int) (xs.map .int)
  | [] => .nil
  | x :: xs => .cons (.int x) dpInts
def rSortedT : List V → Hp → VK → Prop := fun xs H Q => ∃ (d : Addr) (kvs : List (List L2.Key × V)) (ks : List (List Int)), xs = [V.ref d] ∧ Rd H d (.dT kvs) ∧ kvs.map (·.1) = ks.map (·.map Sum.inl) ∧
  ∀ (p : Addr) (zs : List (Addr × List Int)), H p = none → zs.map (·.2) = ks → (∀ z ∈ zs, H z.1 = some (.tup (z.2.map V.int))) → Q (.ref p) (upd H p (.lst ((zs.mergeSort (PySem.W.dataLe false encT)).map fun z => V.ref z.1)))
theorem zsOf {H : Hp} : ∀ {kvs : List (List L2.Key × V)} {ws : List (List L2.Key × Addr × Value)} {ks : List (List Int)}, KT H kvs ws → kvs.map (·.1) = ks.map (·.map Sum.inl) → ∃ zs : List (Addr × List Int), zs.map (·.2) = ks ∧ (∀ z ∈ zs, H z.1 = some (.tup (z.2.map V.int))) ∧ zs.map (fun z => Value.ref z.1) = ws.map fun x => Value.ref x.2.1
  | [], _, [], .nil, _ => ⟨[], rfl, fun z m => (by cases m), rfl⟩
  | [], _, _ :: _, .nil, h => by simp at h
  | _ :: _, _, [], _, h => by simp at h
  | _ :: kvs, _, k :: ks, .cons (b := b) h1 t, h => by
    rw [List.map_cons, List.map_cons] at h; injection h with e1 e2
    obtain ⟨zs, a1, a2, a3⟩ := zsOf t e2
    refine ⟨(b.2.1, k) :: zs, by rw [List.map_cons, a1], fun z m => ?_, by rw [List.map_cons, List.map_cons, a3]⟩
    rcases List.mem_cons.mp m with e | m
    · rw [e]; have h2 := h1.2.1; rw [e1, List.map_map] at h2; exact h2
    · exact a2 z m
theorem call_sortedDT (hc : X.calm = true) (hu : X.A.units + 64 < cLine) : CallR X (.builtin "sorted") rSortedT := by
  intro pins s σ H xs us Q I r told
  obtain ⟨d, kvs, ks, ex, hd, hks, q⟩ := told
  subst ex
  obtain ⟨u, eu, rx⟩ := r.one
  subst eu
  cases rx
  obtain ⟨z, hs, ws, pr, o, es, ep, ho, hx, hdt, he, hn⟩ := (show ObjOk X.prog X.w H s.heap d (.dT kvs) from hd.ok I.hok)
  have l1 : es.size = ws.length := size_of_entries he
  have l2 : kvs.length = ws.length := Paired.length pr
  obtain ⟨zs, z1, z2, z3⟩ := zsOf pr hks
  have l3 : zs.length = ws.length := by have := congrArg List.length z3; simpa using this
  refine call_function_entry PyProof.Rows.kind_sorted PyProof.Rows.plain_sorted PyProof.Rows.entry_sorted (PyProof.Rows.args_sorted1 (.ref d)) ?_; unfold Builtin.«sorted»; refine wpAny_bind (m := checkCount "sorted" 1 1 _) (wpAny_pure ?_)
  refine wpAny_bind (PySem.W.kdu_collect (A := X.A.in1) (kdl_raw hs hx hdt) (I.ok.hd hc) ho (by omega) fun h' tk acc hk it => ?_)
  have ea : acc.toList = zs.map fun z => Value.ref z.1 := by
    rw [z3]
    have hl : acc.toList.length = ws.length := by rw [Array.length_toList, it.1]; exact l1
    apply List.ext_getElem?
    intro j; rw [List.getElem?_map]
    cases hj : acc.toList[j]? with
    | none => rw [List.getElem?_eq_none (by have := List.getElem?_eq_none_iff.mp hj; omega)]; all_goals rfl
    | some v =>
      obtain ⟨en, hen, hv⟩ := it.2 j v (by rw [← Array.getElem?_toList]; exact hj); have qe := entry_at he j
      rw [hen] at qe
      cases hb : ws[j]? with
      | none => rw [hb] at qe; exact nomatch (show some en = none from qe)
      | some b =>
        rw [hb] at qe; have e2 : en = entryOfKey (tupleKind (mixKind X.prog X.w)) b := Option.some.inj qe
        rw [hv, e2]
        all_goals rfl
  have hal : acc.toList.length = zs.length := by rw [ea, List.length_map]
  have I1 : Inv X pins σ H { s with heap := h', toks := tk } := I.kept hk; refine wpAny_bind (wpAny_newList ?_ (by rw [hal]; omega)); have hoL : (h'.push (seqObj "list" acc.toList.toArray 0)).get? h'.objs.size = some (seqObj "list" acc.toList.toArray 0) := Heap.get?_push_size _ rfl; show wpAny _ _ _ _ _ { s with heap := h'.push (seqObj "list" acc.toList.toArray 0), toks := tk }
  have rv : Vals (zs.map fun z => V.ref z.1) acc.toList := by
    rw [ea]; have := vals_refs (zs.map (·.1)); rwa [List.map_map, List.map_map] at this
  have e := each_vals rv
  have e0 : PySem.W.EachIs (fun v b => ∃ as, Reads h' v (encT b) as) acc.toList zs := (PySem.W.each_mem e).mono fun v b z => Dp.reads I1 (encT b) (V.ref b.1) v (.tup (Or.inl (Or.inl (z2 b z.2))) dpInts) z.1
  have er : PySem.W.EachIs (fun v b => ∃ as, Reads (PySem.W.sortingHeap (h'.push (seqObj "list" acc.toList.toArray 0)) h'.objs.size acc.toList) v (encT b) as) acc.toList zs := e0.mono fun v b ⟨as, r⟩ => ⟨as, PyProof.Rows.Reads.keeps (fun b' o' q' => PySem.W.sortingHeap_old (Nat.ne_of_lt (Heap.lt_size q')) (Heap.get?_push_of_some _ q')) r⟩
  have al : PySem.W.AllAlike (zs.map encT) := PySem.W.AllAlike.of alikeT
  refine wpAny_bind (wpAny_holding (wpAny_call_entry PyProof.Rows.slot_list_sort ⟨_, hoL, rfl⟩ PyProof.Rows.entry_list_sort (PySem.W.list_sort_vals (s := { s with heap := h'.push (seqObj "list" acc.toList.toArray 0), toks := tk }) hoL (sortsTups (PySem.W.each_map (R := fun v d => ∃ as, Reads (PySem.W.sortingHeap (h'.push (seqObj "list" acc.toList.toArray 0)) h'.objs.size acc.toList) v d as) encT er) al (fun d m => by
      obtain ⟨b, _, rfl⟩ := List.mem_map.mp m
      exact ⟨_, rfl⟩) (fun d m => by
      obtain ⟨b, _, rfl⟩ := List.mem_map.mp m
      have := depthT b
      show X.A.units + 1 + 1 + _ < _
      omega)) (by rw [hal]; omega) ⟨_, rfl, ?_⟩) (PyProof.Rows.args_list_sort _)))
  have e2 := PySem.W.sortVals_data false e er al
  obtain ⟨e', he'⟩ := PyProof.Rows.sortedHeap_at (vs := acc.toList) (out := (PySem.W.sortVals (PySem.W.dataKind (PySem.W.sortingHeap (h'.push (seqObj "list" acc.toList.toArray 0)) h'.objs.size acc.toList) (zs.map encT)) false acc.toList acc.toList).toArray) hoL
  have hv : Vals ((zs.mergeSort (PySem.W.dataLe false encT)).map fun z => V.ref z.1) (PySem.W.sortVals (PySem.W.dataKind (PySem.W.sortingHeap (h'.push (seqObj "list" acc.toList.toArray 0)) h'.objs.size acc.toList) (zs.map encT)) false acc.toList acc.toList) := vals_each (val := fun z : Addr × List Int => V.ref z.1) e2
  have hlen : ((zs.mergeSort (PySem.W.dataLe false encT)).map fun z => V.ref z.1).length ≤ sizeLine := by
    rw [List.length_map, List.length_mergeSort]; omega
  refine wpAny_pure ⟨_, rfl, .ref h'.objs.size, upd H h'.objs.size (.lst ((zs.mergeSort (PySem.W.dataLe false encT)).map fun z => V.ref z.1)), I1.laid (t' := tk) (fun b u e => ?_) (Nat.le_refl _)
    (show ObjOk X.prog X.w _ _ _ (.lst ((zs.mergeSort (PySem.W.dataLe false encT)).map fun z => V.ref z.1)) from ⟨hlen, _, e', hv, he'⟩), rfl, q _ zs (I1.hok.fresh (Nat.le_refl _)) z1 z2⟩
  have lb : b < h'.objs.size := Heap.lt_size e
  rw [PyProof.Rows.sortedHeap_old (Nat.ne_of_lt lb) (by rw [size_push']; exact Nat.lt_succ_of_lt lb)]; exact Heap.get?_push_of_some _ e
end
end Ek

namespace Ek
open PySem PySem.Spec PySem.Calls PyProof.Rows L2
/-! ### set(..) of a list of ints -/
/-- a set as it is laid: nothing in it -/
def bare (w : World) : Obj := { cls := .type "set", dict := none, data := .set #[] 0 (.fresh 0 0 (!w.params.followText "set-order")) }
section
variable {P : Program} {w : World} {A : Around} {E : Value → Shared → Prop} {s : Shared}
/-- what is known once the set at p holds the ints -/
def Full (w : World) (s : Shared) (ns : List Int) (r : Value) (t : Shared) : Prop := r = .none ∧ ∃ G k c, t = { s with heap := G, toks := k } ∧ SetR w G s.heap.objs.size (fun j => decide (j ∈ ns)) c ∧ c ≤ ns.length ∧ ∀ b o, s.heap.get? b = some o → G.get? b = some o
theorem vals_at {us : List Value} {ns : List Int} (r : IntsAre us ns) (e : us.length = ns.length) : ∀ (i : Nat) (v : Value), us.toArray[i]? = some v → ∃ k t, ns[i]? = some k ∧ v = .int k t := fun i v g => by
  have li : i < ns.length := by
    have z := (Array.getElem?_eq_some_iff.mp g).1
    rw [List.size_toArray] at z
    omega
  obtain ⟨t, f⟩ := PyProof.Rows.IntsAre.int_at r i v (by simpa using g)
  exact ⟨ns[i], t, List.getElem?_eq_getElem li, by rw [f, List.getD_eq_getElem?_getD, List.getElem?_eq_getElem li]; rfl⟩
set_option maxHeartbeats 3200000 in
theorem fill_L {l : Addr} {us : List Value} {ns : List Int} (hh : A.handled = none) (hl : s.heap.IsList l us.toArray) (r : IntsAre us ns) (few : ns.length + 1 < scanBound) :
    wpAny (model P w) A.in1 (Builtin.«set.__init__» ⟨[.ref s.heap.objs.size] ++ [.ref l], []⟩) (fun x t => match x with
      | .done f => wants (Full w s ns) E (.ok f) t
      | .again c => c.quiet = true ∧ codeAny (model P w) A c (wants (Full w s ns) E) t) (fun e t => wants (Full w s ns) E (.error e) t) { s with heap := s.heap.push (bare w) } := by
  have en : us.length = ns.length := IntsAre.length r
  obtain ⟨⟨c0, d0, x0, y0⟩, g0, c1, n0, x1⟩ := hl
  simp only at c1 x1
  subst c1 x1
  have g1 : (s.heap.push (bare w)).get? l = some ⟨.type "list", d0, .seq us.toArray n0, y0⟩ := Heap.get?_push_of_some _ g0
  have i1 : (s.heap.push (bare w)).IsList l us.toArray := ⟨_, g1, rfl, n0, rfl⟩
  have sub1 := F.sub_list_set
  have sub2 := F.sub_list_frozenset
  have nd : (Value.type "list" == Value.type "dict") = false := rfl
  have lt : l < s.heap.objs.size := Heap.lt_size g0
  have sz : (s.heap.push (bare w)).objs.size = s.heap.objs.size + 1 := Heap.size_push ..
  have gS : (s.heap.push (bare w)).get? s.heap.objs.size = some (bare w) := Heap.get?_push_size _ rfl
  unfold Builtin.«set.__init__» noKeywords Builtin.Frozenset.updateFrom
  generalize hI : pyIter = I
  wp_walk
  subst hI
  refine wpAny_pyIter_list i1 (wpAny_bind (wpAny_runValue ?_))
  have h3 : A.in1.in1.handled = none := hh
  have apart : l ≠ (s.heap.push (bare w)).objs.size := by rw [sz]; exact Nat.ne_of_lt (Nat.lt_succ_of_lt lt)
  have out : s.heap.objs.size ∉ [(s.heap.push (bare w)).objs.size, l] := by rw [sz]; exact fun m => (List.mem_cons.mp m).elim (Nat.ne_of_lt (Nat.lt_succ_self _)) fun m => Nat.ne_of_gt lt (List.mem_singleton.mp m)
  refine set_update_ints ((Walks.list h3 _ l apart us.toArray).toS) s.heap.objs.size out ns (by simpa using en) few (vals_at r en) (us.toArray.size - 0) 0 _ (by omega) (Nat.zero_le _)
    ⟨⟨_, Heap.get?_push_size _ rfl, rfl, rfl⟩, i1.push _⟩ ⟨0, Nat.le_refl 0, setR_new_at (h := (s.heap.push (bare w)).push { cls := .type "list_iterator", data := .fields #[.ref l, .int 0 0] }) (Heap.get?_push_of_some _ gS)⟩ fun s' c m lc R => ?_
  have m1 := m.gens
  have m2 := m.drawn
  have m3 := m.os
  have m4 := m.heap
  obtain ⟨G, g2, d2, k2, o2⟩ := s'
  simp only at m1 m2 m3
  subst m1 m2 m3
  refine wpAny_pure (wpAny_pure ⟨rfl, G, k2, c, rfl, R, by simpa [en] using lc, fun b o e => m4 b o ?_ (Heap.get?_push_of_some _ (Heap.get?_push_of_some _ e))⟩)
  have lb : b < s.heap.objs.size := Heap.lt_size e
  rw [sz]
  exact fun m => (List.mem_cons.mp m).elim (Nat.ne_of_lt lb) fun m => Nat.ne_of_lt (Nat.lt_succ_of_lt lb) (List.mem_singleton.mp m)
end
section
variable {X : Cx}
/-- set(xs) of a list of ints -/
def rSetI (K : PySem.W.Frag) (w : World) : List V → Hp → VK → Prop := fun vs H Q => ∃ (a : Addr) (ns : List Int), vs = [V.ref a] ∧ SqL K H a (ns.map V.int) ∧ ns.length ≤ 1000 ∧ ∀ p so, H p = none → (∃ c, c ≤ ns.length ∧ so = SetO w p (fun j => decide (j ∈ ns)) c) → Q (.ref p) (upd H p so)
theorem set_made {P : Program} {w : World} {A : Around} {E : Value → Shared → Prop} {s : Shared} {l : Addr} {us : List Value} {ns : List Int} {Q : Value → Shared → Prop} (hh : A.handled = none) (hl : s.heap.IsList l us.toArray) (r : IntsAre us ns) (few : ns.length + 1 < scanBound)
    (q : ∀ t, Full w s ns .none t → Q (.ref s.heap.objs.size) t) : wpAny (model P w) A (call (.type "set") [.ref l]) Q E s := by
  obtain ⟨_, _, mro⟩ := F.called_set.mro
  have made := F.called_set.made
  have sub := F.called_set.sub
  have notT := F.called_set.notType
  have can := F.called_set.canCreate
  have tc := F.typeCall_set_1 (.ref l)
  refine wpAny_call (codeAny_of_tree (show wpAny _ _ (callAny (.type "set") _) _ _ _ from wpAny_pure ⟨Code.quiet_builtin _ (by decide +kernel), codeAny_builtin F.entry_type_call ?_⟩))
  rw [Around.under_plain (weight_type_call_type "set" [.ref l] []) rfl]
  repeat (any_goals (first | assumption | wp_step))
  refine codeAny_mono (code_set_led1 (.ref l) (E := E) (Q₁ := fun o t => o = .ref s.heap.objs.size ∧ t = { s with heap := s.heap.push (bare w) }) ⟨rfl, rfl⟩) fun a t at_ => ?_
  rcases a with fl | e
  · exact at_
  · cases e with
    | ret o =>
      obtain ⟨rfl, rfl⟩ := at_
      have laid : (s.heap.push (bare w)).get? s.heap.objs.size = some (bare w) := Heap.get?_push_size _ rfl
      have isS : Shared.TypeIs { s with heap := s.heap.push (bare w) } (.ref s.heap.objs.size) "set" := ⟨_, laid, rfl⟩
      have look := F.called_set.init.lookup
      have bnd := F.called_set.init.bind (.ref s.heap.objs.size)
      repeat (any_goals (first | assumption | wp_step))
      refine codeAny_mono (codeAny_call_builtin (R := wants (Full w s ns) E) F.called_set.init.plain F.entry_set_init (check_set_init_1 isS (fill_L hh hl r few))) fun b t2 bt => ?_
      rcases b with fl2 | e2
      · exact bt
      · cases e2 with
        | ret v =>
          have e3 : v = .none := bt.1
          subst e3
          repeat (any_goals (first | assumption | wp_step))
          exact q _ bt
        | _ => exact bt.elim
    | _ => exact at_.elim
theorem call_setI (hc : X.calm = true) : CallR X (.type "set") (rSetI X.K X.w) := by
  intro pins s σ H xs us Q I r h
  obtain ⟨a, ns, rfl, hs, few, q⟩ := h
  obtain ⟨its, rv, hl, _⟩ := I.list hs
  rw [Vals.ref1 r]
  refine set_made (I.ok.hd hc) hl.isList (ints_of_vals rv) (by unfold scanBound; omega) fun t ft => ?_
  obtain ⟨_, G, k, c, rfl, R, lc, kp⟩ := ft
  exact ⟨.ref _, upd H s.heap.objs.size (SetO X.w s.heap.objs.size (fun j => decide (j ∈ ns)) c), I.laid (t' := k) kp (Nat.le_refl _) (setO_new R), rfl, q _ _ (I.hok.fresh (Nat.le_refl _)) ⟨c, lc, rfl⟩⟩
/-! ### sorted of tuples, some of them empty -/
def rSortZ {β : Type} (enc : β → PyData) (val : β → V) (K : PySem.W.Frag) : List V → Hp → VK → Prop := fun vs H Q => ∃ (a : Addr) (bs : List β), vs = [V.ref a] ∧ SqL K H a (bs.map val) ∧ (∀ b ∈ bs, Dp K H (val b) (enc b)) ∧ PySem.W.AllAlike (bs.map enc) ∧ (∀ b ∈ bs, ∃ xs, enc b = .tuple xs) ∧ (∀ b ∈ bs, (enc b).depth ≤ 60) ∧
  ∀ p, H p = none → Q (.ref p) (upd H p (.lst ((bs.mergeSort (PySem.W.dataLe false enc)).map val)))
theorem call_sortZ {β : Type} {enc : β → PyData} {val : β → V} (hu : X.A.units + 64 < cLine) : CallR X (.builtin "sorted") (rSortZ enc val X.K) := by
  intro pins s σ H vs us Q I r h
  obtain ⟨a, bs, rfl, hs, hd, al, tp, dp, q⟩ := h
  obtain ⟨its, rv, hl, hz⟩ := I.list hs
  rw [Vals.ref1 r]
  have e := each_vals rv
  have hlen : bs.length ≤ sizeLine := by rw [List.length_map] at hz; exact hz
  have er : PySem.W.EachIs (fun v b => ∃ as, Reads s.heap v (enc b) as) its bs := (PySem.W.each_mem e).mono fun v b z => Dp.reads I (enc b) (val b) v (hd b z.2) z.1
  have er2 : PySem.W.EachIs (fun v b => ∃ as, Reads (PySem.W.sortingHeap (PySem.W.copyHeap s.heap its) (s.heap.objs.size + 1) its) v (enc b) as) its bs := er.mono fun _ _ ⟨as, r⟩ => ⟨as, PyProof.Rows.Reads.keeps (fun _ _ => PySem.W.sorting_copy_old) r⟩
  refine PySem.W.sorted_vals hl.isList (sortsTups (s := { s with heap := PySem.W.sortingHeap (PySem.W.copyHeap s.heap its) (s.heap.objs.size + 1) its }) (PySem.W.each_map (R := fun v d => ∃ as, Reads (PySem.W.sortingHeap (PySem.W.copyHeap s.heap its) (s.heap.objs.size + 1) its) v d as) enc er2) al (fun d m => ?_) fun d m => ?_) (by rw [e.length]; exact hlen) ?_
  · obtain ⟨b, mb, rfl⟩ := List.mem_map.mp m
    exact tp b mb
  · obtain ⟨b, mb, rfl⟩ := List.mem_map.mp m
    have := dp b mb
    show X.A.units + 1 + 1 + _ < _
    omega
  · have e2 := PySem.W.sortVals_data false e er2 al
    obtain ⟨ep, he'⟩ := PyProof.Rows.sortedAll_at s.heap its (PySem.W.sortVals (PySem.W.dataKind (PySem.W.sortingHeap (PySem.W.copyHeap s.heap its) (s.heap.objs.size + 1) its) (bs.map enc)) false its its).toArray
    have hv : Vals ((bs.mergeSort (PySem.W.dataLe false enc)).map val) (PySem.W.sortVals (PySem.W.dataKind (PySem.W.sortingHeap (PySem.W.copyHeap s.heap its) (s.heap.objs.size + 1) its) (bs.map enc)) false its its) := vals_each e2
    refine ⟨.ref _, upd H (s.heap.objs.size + 1) (.lst ((bs.mergeSort (PySem.W.dataLe false enc)).map val)), I.laid (t' := s.toks) (fun _ _ => PyProof.Rows.sortedAll_old) (Nat.le_succ _) ⟨?_, _, ep, hv, ?_⟩, rfl, q _ (I.hok.fresh (Nat.le_succ _))⟩
    · rw [List.length_map, List.length_mergeSort]
      exact hlen
    · simpa using he'
end
end Ek

namespace Ek
open PySem PySem.Spec PyProof.Rows L2
section
variable {X : Cx}
/-- xs[i] by values, a place from the front -/
def rGetL (K : PySem.W.Frag) : V → V → Hp → VK → Prop := fun o i H Q => ∃ (p : Addr) (xs : List V) (k : Int) (j : Nat) (v : V), o = .ref p ∧ i = .int k ∧ k = (j : Int) ∧ H p = some (.lst xs) ∧ xs[j]? = some v ∧ Q v H
theorem get_list : PGet X (rGetL X.K) := by
  intro pins s σ H o i ov iv Q I ro ri h
  obtain ⟨p, xs, k, j, v, rfl, rfl, rfl, hp, hv, q⟩ := h
  cases ro
  obtain ⟨t, rfl⟩ := ri
  obtain ⟨its, r, pl, hz⟩ := I.list (sl hp : SqL X.K H p xs)
  obtain ⟨w, ew, rw'⟩ := r.get hv
  have jl : j < xs.length := (List.getElem?_eq_some_iff.mp hv).1
  have hn := line63
  exact getItem_listL pl.isList (by omega) (by omega) (by simpa using ew) ⟨v, H, I, rw', q⟩
end
/-! ### tuple * int, none too -/
theorem tuple_mul0 (l : Addr) (items : Array Value) (n : Nat) (dd : Option Addr) (sl : Array (Option Value)) (u : Tok) (hi : items.isEmpty = false) :
    Meets (Builtin.«tuple.__mul__» ⟨[.ref l, .int 0 u], []⟩) (fun _ R s => s.heap.get? l = some { cls := .type "tuple", dict := dd, data := .seq items n, slots := sl } ∧
      R (.ok (.ret (Value.ref s.heap.objs.size))) { s with heap := s.heap.push { cls := Value.type "tuple", data := Data.seq #[] }, toks := s.toks }) :=
  .of_wp fun prog w A R s h => by
    obtain ⟨hp, g, d, tk, os⟩ := s
    obtain ⟨hl, h⟩ := h
    have f1 := AutoSeq1.idx_int
    have c1 : (items.isEmpty || (0 : Int) == 1) = false := by rw [hi]; rfl
    have c2 : (decide ((0 : Int) ≤ 0) || items.isEmpty) = true := rfl
    wp_walk using wpAny_loadPart' hl
    repeat (first
      | (refine wpAny_ite_false (decide_eq_false (by rw [c1]; exact Bool.false_ne_true)) ?_; wp_walk using wpAny_loadPart' hl)
      | (refine wpAny_ite_true (decide_eq_true (by rw [c2])) ?_; wp_walk using wpAny_loadPart' hl)
      | (refine wpAny_ite_false (decide_eq_false (by decide)) ?_; wp_walk using wpAny_loadPart' hl))
    exact ⟨_, rfl, h⟩
def rRepTZ (K : PySem.W.Frag) : R2 := fun x y H Q => rRepTA K x y H Q ∨ ∃ l xs, x = .ref l ∧ y = .int 0 ∧ SqT K H l xs ∧ xs ≠ [] ∧ ∀ p, H p = none → Q (.ref p) (upd H p (.tup []))
section
variable {X : Cx}
theorem op_repTZ : OpR X (binaryOp .Mult) (rRepTZ X.K) := by
  intro pins s σ H x y v u Q I rx ry h
  rcases h with h | h
  · exact op_repTA pins s σ H x y v u Q I rx ry h
  · obtain ⟨l, xs, rfl, rfl, hT, hne, q⟩ := h
    cases rx
    obtain ⟨t, rfl⟩ := ry
    obtain ⟨its, r, ⟨⟨cls, dd, data, sl⟩, ho, hc, n, hd⟩, hs⟩ := I.tuple hT
    simp only at hc hd
    subst hc hd
    have hle : its.length = xs.length := r.length.symm
    have hi : its.toArray.isEmpty = false := by
      cases its with
      | nil => exact absurd (List.eq_nil_of_length_eq_zero hle.symm) hne
      | cons a b => rfl
    refine wpAny_binaryOp_repeat_ref (T := "tuple") (U := "int") (by decide) ⟨_, ho, rfl⟩ (fun s' => typeIs_int s' 0 t) noFill_tuple_mul F.fills_int_mul F.slot_int_rmul repeat_tuple F.slot_int_index.lookup
      (call_meets F.slot_int_rmul (typeIs_int s 0 t) F.entry_int_rmul (F.args_int_rmul_2 _ _) (int_rmul_tuple 0 t l its.toArray n dd sl)
        ⟨ho, rfl, ⟨_, ho, rfl⟩, call_meets F.slot_tuple_mul ⟨_, ho, rfl⟩ F.entry_tuple_mul (F.args_tuple_mul_2 _ _) (tuple_mul0 l its.toArray n dd sl t hi) ⟨ho, ?_⟩⟩)
    refine ⟨.ref s.heap.objs.size, _, I.laid (t' := s.toks) (o := .tup []) (fun b ob q => Heap.get?_push_of_some _ q) (Nat.le_refl _) ?_, rfl, q _ (I.hok.fresh (Nat.le_refl _))⟩
    exact ⟨Nat.zero_le _, _, .nil, IsTup.new _ _⟩
theorem rep_flatZ (v : V) : ∀ n : Nat, (List.replicate n [v]).flatten = List.replicate n v
  | 0 => rfl
  | n + 1 => by rw [List.replicate_succ, List.flatten_cons, rep_flatZ v n, List.replicate_succ]; rfl
theorem repZ {K : PySem.W.Frag} {H : Hp} {t : Addr} {v : V} {n : Nat} {Q : VK} (n9 : n ≤ 1000) (ht : H t = some (.tup [v])) (k : ∀ t' H', Same H H' → H' t' = some (.tup (List.replicate n v)) → Q (.ref t') H') : rRepTZ K (.ref t) (.int (n : Nat)) H Q := by
  rcases (show n = 0 ∨ n = 1 ∨ 2 ≤ n by omega) with e | e | e
  · subst e
    exact .inr ⟨t, [v], rfl, rfl, tl ht, List.cons_ne_nil _ _, fun p np => k p _ (same_upd np) upd_same⟩
  · subst e
    exact .inl (.inr ⟨t, _, rfl, rfl, tl ht, k t H (Same.refl H) ht⟩)
  · refine .inl (.inl ⟨t, _, [v], rfl, rfl, tl ht, List.cons_ne_nil _ _, by omega, by omega, by show 1 ≤ 1000; decide, fun p np => k p _ (same_upd np) ?_⟩)
    rw [upd_same, Int.toNat_natCast, rep_flatZ]
end
end Ek

namespace Ek
open PySem PySem.Spec PyProof.Rows L2
/-! ### x = {k: v for ..} -/
section
variable {X : Cx}
theorem sw_dc {kx vx : Expr} {gs : List Comprehension} {scope : Scope} {pos py : Pos} {y : Str} {l : Nat} {env : Env} (hk : env.scope.kind = .function) (hy : env.scope.names.lookup y = some .local) (hl : (py.line == pos.line) = true)
    (ha : (scope.names.any fun (n, k) => n == y && (k == .local || k == .cell)) = false) : swapsWith (.DictComp kx vx gs scope pos) (some (.Name y py)) l env = pure true := by
  have ky : env.kindOf y = some .local := hy
  have hb : env.blockKind = .function := by unfold Env.blockKind; rw [hk]; rfl
  unfold swapsWith
  simp only [hb, ky, ha, Expr.pos, hl]
  rfl
theorem ps_setDc {i : Nat} {y : Str} {py : Pos} {kx vx tg iter : Expr} {ifs : List Expr} {scope : Scope} {own : List (Str × Nat)} {pos spos : Pos} {wi : TI} {g : TG} {tt : TT} {tk tv : TE} (hc : X.calm = true) (hN : X.N.Nodup) (hy : X.N[i]? = some y) (hyl : X.env.scope.names.lookup y = some .local)
    (hsw : swapsWith (.DictComp kx vx [⟨tg, iter, ifs, 0⟩] scope pos) (some (.Name y py)) spos.line X.env = pure true) (hi : PI X tg iter wi) (ok : BlkOk X.N X.env.scope scope own)
    (hg : ∀ (s : Shared) (H : Hp) (C : Addr) (cl : List (Str × Addr)) (fp : List Addr), PG (X.blk s H scope (compEnvC scope cl C X.env) fp) tg g) (ht : ∀ (s : Shared) (H : Hp) (C : Addr) (cl : List (Str × Addr)) (fp : List Addr), PTs (X.blk s H scope (compEnvC scope cl C X.env) fp) ifs tt)
    (hk : ∀ (s : Shared) (H : Hp) (C : Addr) (cl : List (Str × Addr)) (fp : List Addr), PE (X.blk s H scope (compEnvC scope cl C X.env) fp) kx tk)
    (he : ∀ (s : Shared) (H : Hp) (C : Addr) (cl : List (Str × Addr)) (fp : List Addr), PE (X.blk s H scope (compEnvC scope cl C X.env) fp) vx tv) (hs : ∀ x, foldedSetIterable iter X.env x = pure x := by intro _; rfl) :
    PS X (.Assign [.Name y py] (.DictComp kx vx [⟨tg, iter, ifs, 0⟩] scope pos) spos) (tAsg (tDc wi g tt tk tv (own.map (·.2))) (gName i)) := by
  refine ⟨fun pins s σ H D I h => ?_⟩
  rw [exec_Assign_Name_used _ _ _ _ hsw]
  refine wpAny_bind (wpAny_standAt (wpAny_bind ?_))
  show wpAny _ X.A (do let _ ← comprehension (.DictComp kx vx [⟨tg, iter, ifs, 0⟩] scope pos) scope X.env (firstIterPos [⟨tg, iter, ifs, 0⟩] pos) newDict false (eval iter X.env) (some (assign (.Name y py) X.env))) _ _ s
  have h : tDc wi g tt tk tv (own.map (·.2)) σ H (fun x H1 => gName i x σ H1 D.nx) := h
  refine wpAny_bind (thn (dc_core (Qf := fun _ s' => SP X pins D .next s') hc hN I hi ok hg ht hk he hs h fun L C s' m H' I' q hn f => ?_) fun _ s' hq => wpAny_pure (wpAny_pure hq))
  show wpAny _ _ (assign (.Name y py) X.env (.ref L)) _ _ _
  refine wpAny_assign_Name (store_ok2 (v := V.ref L) I' hN hy (.inl hyl) rfl (fun s2 I2 ⟨a, sb, ha⟩ => ?_) (.inr hyl))
  obtain ⟨f0, f1, f2, f3, f4, f5⟩ := f
  have haC : C ≠ a := by
    rcases ha with z | z
    · rw [z]; exact f1
    · exact fun e => f4 y a z e.symm
  refine ⟨m, hn.sameBut sb haC, fun h3 sb3 => ?_⟩
  exact ⟨_, H', I2.turned (t' := s2.toks) (fun b o hb e => (sb3.2 b hb).trans e) f0 f1 f3 f4 f5, q⟩
end
end Ek

namespace Ek
open PySem PySem.Spec PyProof.Rows L2 RZ
/-! ### zip of two sequences, each a tuple (true) or a list (false) -/
def itN (b : Bool) : String := cond b "tuple_iterator" "list_iterator"
def sqN (b : Bool) : String := cond b "tuple" "list"
def itA (b : Bool) (h : Heap) (i l : Addr) (k : Nat) : Prop := ∃ o, h.get? i = some o ∧ o.cls = .type (itN b) ∧ o.data = .fields #[.ref l, .int k 0]
def sqA (b : Bool) (h : Heap) (l : Addr) (xs : Array Value) : Prop := ∃ o, h.get? l = some o ∧ o.cls = .type (sqN b) ∧ ∃ n, o.data = .seq xs n
def itO (b : Bool) (l : Addr) : Obj := { cls := .type (itN b), data := .fields #[.ref l, .int 0 0] }
theorem itA.mv {b : Bool} {h h' : Heap} {i l : Addr} {k : Nat} (x : itA b h i l k) (e : ∀ o, h.get? i = some o → h'.get? i = some o) : itA b h' i l k := by
  obtain ⟨o, g, r⟩ := x
  exact ⟨o, e o g, r⟩
theorem sqA.mv {b : Bool} {h h' : Heap} {l : Addr} {xs : Array Value} (x : sqA b h l xs) (e : ∀ o, h.get? l = some o → h'.get? l = some o) : sqA b h' l xs := by
  obtain ⟨o, g, r⟩ := x
  exact ⟨o, e o g, r⟩
section
variable {prog : Program} {w : World} {A : Around} {E : Value → Shared → Prop} {s : Shared}
theorem nx_item {b : Bool} {it l : Addr} {i : Nat} {xs : Array Value} {x : Value} {Q : Value → Shared → Prop} (hi : itA b s.heap it l i) (hl : sqA b s.heap l xs) (hx : xs[i]? = some x)
    (q : ∀ h', itA b h' it l (i + 1) → Heap.SameBut it s.heap h' → Q x { s with heap := h' }) : wpAny (model prog w) A (Builtin.SmallTypes.nextOf (.ref it)) Q E s := by
  cases b with
  | true => exact RZ.nextOf_tuple_item (show s.heap.IsTupleIter it l i from hi) hl hx q
  | false => exact wpAny_nextOf_list_item (show s.heap.IsListIter it l i from hi) hl hx q
theorem nx_end {b : Bool} {it l : Addr} {i : Nat} {xs : Array Value} {Q : Value → Shared → Prop} (hh : A.handled = none) (hi : itA b s.heap it l i) (hl : sqA b s.heap l xs) (hx : xs[i]? = none)
    (q : ∀ h' e, Heap.ExtBut it s.heap h' → (∃ o, h'.get? e = some o ∧ o.cls = .type "StopIteration") → E (.ref e) { s with heap := h' }) : wpAny (model prog w) A (Builtin.SmallTypes.nextOf (.ref it)) Q E s := by
  cases b with
  | true => exact RZ.nextOf_tuple_end hh (show s.heap.IsTupleIter it l i from hi) hl hx q
  | false => exact wpAny_nextOf_list_end hh (show s.heap.IsListIter it l i from hi) hl hx q
theorem it_new {b : Bool} {l : Addr} {xs : Array Value} {Q : Value → Shared → Prop} (hl : sqA b s.heap l xs) (q : Q (.ref s.heap.objs.size) { s with heap := s.heap.push (itO b l) }) : wpAny (model prog w) A (pyIter (.ref l)) Q E s := by
  cases b with
  | true => exact wpAny_pyIter_tuple hl q
  | false => exact wpAny_pyIter_list hl q
variable {z TI TO i1 i2 l1 l2 : Addr} {k1 k2 : Nat} {xs ys : Array Value} {x y a b : Value} {p q : Bool}

theorem zm_item {Q : Value → Shared → Prop} (D : ZipApart z TI TO i1 i2 l1 l2) (hz : IsZip s.heap z TI TO .none) (hTI : IsPair s.heap TI (.ref i1) (.ref i2)) (hTO : IsPair s.heap TO a b) (h1 : itA p s.heap i1 l1 k1) (h2 : itA q s.heap i2 l2 k2) (g1 : sqA p s.heap l1 xs) (g2 : sqA q s.heap l2 ys) (hx : xs[k1]? = some x) (hy : ys[k2]? = some y)
    (fin : ∀ h', IsZip h' z TI TO (rawInt s.heap.objs.size) → IsPair h' TO x y → itA p h' i1 l1 (k1 + 1) → itA q h' i2 l2 (k2 + 1) → IsPair h' s.heap.objs.size x y → h'.objs.size = s.heap.objs.size + 1 → (∀ c o, c ≠ z → c ≠ TO → c ≠ i1 → c ≠ i2 → s.heap.get? c = some o → h'.get? c = some o) → Q (.ref s.heap.objs.size) { s with heap := h' }) :
    wpAny (model prog w) A (Builtin.«zip.__next__» ⟨[.ref z], []⟩) (fun r s' => ∃ v, r = .done (.ret v) ∧ Q v s') E s := by
  show wpAny _ _ (field (.ref z) 2 >>= _) _ _ _; refine wpAny_bind (wpAny_field hz rfl (x := .bool false) rfl ?_)
  show wpAny _ _ (field (.ref z) 3 >>= _) _ _ _; refine wpAny_bind (wpAny_field hz rfl (x := .ref TI) rfl (wpAny_bind (wpAny_seqItems hTI rfl ?_)))
  show wpAny _ _ (Builtin.SmallTypes.ownedTupleIsFree (.ref z) >>= _) _ _ _; refine wpAny_bind ?_
  unfold Builtin.SmallTypes.ownedTupleIsFree; refine wpAny_bind (wpAny_field hz rfl (x := .none) rfl (wpAny_pure ?_)); simp only [if_true]
  refine wpAny_bind (wpAny_rule (wpAny_bind (wpAny_field hz rfl (x := .ref TO) rfl (wpAny_bind (wpAny_setField_rec hz (by simp) fun m1 y1 c1 => ?_)))))
  have z1 : IsZip m1 z TI TO .ellipsis := y1
  have k1' : ∀ c o, c ≠ z → s.heap.get? c = some o → m1.get? c = some o := fun c o n e => c1.extBut _ _ n e
  refine wpAny_bind ?_; simp only [List.zipIdx_cons, List.zipIdx_nil, List.forIn_cons, List.forIn_nil]; refine wpAny_bind (wpAny_bind (wpAny_onRaise ?_))
  -- the first
  show wpAny _ _ (Builtin.SmallTypes.nextOf (.ref i1) >>= _) _ _ _; refine wpAny_bind (nx_item (h1.mv fun o => k1' _ o D.i1z) (g1.mv fun o => k1' _ o D.l1z) hx fun m2 a2 c2 => wpAny_pure ?_)
  have k2' : ∀ c o, c ≠ z → c ≠ i1 → s.heap.get? c = some o → m2.get? c = some o := fun c o n n2 e => c2.extBut _ _ n2 (k1' c o n e)
  have t2 : IsPair m2 TO a b := k2' _ _ D.TOz D.TOi1 hTO
  refine wpAny_bind (wpAny_seqItems t2 rfl (wpAny_bind (wpAny_updateSeq_pair t2 fun m3 y3 c3 => wpAny_bind (wpAny_letGo (wpAny_pure ?_)))))
  have t3 : IsPair m3 TO x b := y3
  have k3' : ∀ c o, c ≠ z → c ≠ i1 → c ≠ TO → s.heap.get? c = some o → m3.get? c = some o := fun c o n n2 n3 e => c3.extBut _ _ n3 (k2' c o n n2 e)
  -- the second
  refine wpAny_bind (wpAny_bind (wpAny_onRaise ?_)); show wpAny _ _ (Builtin.SmallTypes.nextOf (.ref i2) >>= _) _ _ _
  refine wpAny_bind (nx_item (h2.mv fun o => k3' _ o D.i2z D.i12.symm D.TOi2.symm) (g2.mv fun o => k3' _ o D.l2z D.l2i1 D.l2TO) hy fun m4 a4 c4 => wpAny_pure ?_)
  have t4 : IsPair m4 TO x b := c4.extBut _ _ D.TOi2 t3
  refine wpAny_bind (wpAny_seqItems t4 rfl (wpAny_bind (wpAny_updateSeq_pair t4 fun m5 y5 c5 => wpAny_bind (wpAny_letGo (wpAny_pure (wpAny_pure ?_))))))
  have t5 : IsPair m5 TO x y := y5
  have k5' : ∀ c o, c ≠ z → c ≠ TO → c ≠ i1 → c ≠ i2 → s.heap.get? c = some o → m5.get? c = some o := fun c o n n3 n2 n4 e => c5.extBut _ _ n3 (c4.extBut _ _ n4 (k3' c o n n2 n3 e))
  have z5 : IsZip m5 z TI TO .ellipsis := c5.extBut _ _ D.TOz.symm (c4.extBut _ _ D.i2z.symm (c3.extBut _ _ D.TOz.symm (c2.extBut _ _ D.i1z.symm z1)))
  have sz : m5.objs.size = s.heap.objs.size := c5.1.trans (c4.1.trans (c3.1.trans (c2.1.trans c1.1)))
  have u1 : itA p m5 i1 l1 (k1 + 1) := a2.mv fun o e => c5.extBut _ _ D.TOi1.symm (c4.extBut _ _ D.i12 (c3.extBut _ _ D.TOi1.symm e))
  have u2 : itA q m5 i2 l2 (k2 + 1) := a4.mv fun o e => c5.extBut _ _ D.TOi2.symm e
  have lz : z < m5.objs.size := Heap.lt_size z5
  -- the new pair handed out
  refine wpAny_bind (wpAny_seqItems t5 rfl (wpAny_bind (wpAny_newTuple ?_)))
  show wpAny _ _ (Builtin.SmallTypes.ownedTupleHandOut (.ref z) (.ref m5.objs.size) >>= _) _ _ _; refine wpAny_bind ?_; unfold Builtin.SmallTypes.ownedTupleHandOut
  have z6 : IsZip (m5.push { cls := .type "tuple", data := .seq #[x, y] }) z TI TO .ellipsis := Heap.get?_push_of_some _ z5
  refine wpAny_bind (wpAny_setField_rec z6 (by simp) fun m7 y7 c7 => ?_)
  have z7 : IsZip m7 z TI TO (rawInt m5.objs.size) := y7
  refine wpAny_setField_rec z7 (by simp) fun m8 y8 c8 => wpAny_pure ⟨_, rfl, ?_⟩
  have z8 : IsZip m8 z TI TO (rawInt m5.objs.size) := y8
  have k8 : ∀ c o, c ≠ z → m5.get? c = some o → m8.get? c = some o := fun c o n e => c8.extBut _ _ n (c7.extBut _ _ n (Heap.get?_push_of_some _ e))
  have t8 : IsPair m8 m5.objs.size x y := c8.extBut _ _ (Nat.ne_of_gt lz) (c7.extBut _ _ (Nat.ne_of_gt lz) (Heap.get?_push_size _ rfl))
  have s8 : m8.objs.size = m5.objs.size + 1 := c8.1.trans (c7.1.trans (Heap.size_push ..))
  show Q (.ref m5.objs.size) _
  rw [sz] at z8 t8 s8 ⊢
  exact fin m8 z8 (k8 _ _ D.TOz t5) (u1.mv fun o => k8 _ o D.i1z) (u2.mv fun o => k8 _ o D.i2z) t8 s8 fun c o n n3 n2 n4 e => k8 c o n (k5' c o n n3 n2 n4 e)
theorem zm_end {Q : Fin → Shared → Prop} (hh : A.handled = none) (D : ZipApart z TI TO i1 i2 l1 l2) (hz : IsZip s.heap z TI TO .none) (hTI : IsPair s.heap TI (.ref i1) (.ref i2)) (hTO : IsPair s.heap TO a b) (h1 : itA p s.heap i1 l1 k1) (h2 : itA q s.heap i2 l2 k2) (g1 : sqA p s.heap l1 xs) (g2 : sqA q s.heap l2 ys) (hend : xs[k1]? = none ∨ ys[k2]? = none)
    (fin : ∀ h' e, (∀ c o, c ≠ z → c ≠ TO → c ≠ i1 → c ≠ i2 → s.heap.get? c = some o → h'.get? c = some o) → (∃ o, h'.get? e = some o ∧ o.cls = .type "StopIteration") → E (.ref e) { s with heap := h' }) : wpAny (model prog w) A (Builtin.«zip.__next__» ⟨[.ref z], []⟩) Q E s := by
  show wpAny _ _ (field (.ref z) 2 >>= _) _ _ _; refine wpAny_bind (wpAny_field hz rfl (x := .bool false) rfl ?_)
  show wpAny _ _ (field (.ref z) 3 >>= _) _ _ _; refine wpAny_bind (wpAny_field hz rfl (x := .ref TI) rfl (wpAny_bind (wpAny_seqItems hTI rfl ?_)))
  show wpAny _ _ (Builtin.SmallTypes.ownedTupleIsFree (.ref z) >>= _) _ _ _; refine wpAny_bind ?_
  unfold Builtin.SmallTypes.ownedTupleIsFree; refine wpAny_bind (wpAny_field hz rfl (x := .none) rfl (wpAny_pure ?_)); simp only [if_true]
  refine wpAny_bind (wpAny_rule (wpAny_bind (wpAny_field hz rfl (x := .ref TO) rfl (wpAny_bind (wpAny_setField_rec hz (by simp) fun m1 y1 c1 => ?_)))))
  have z1 : IsZip m1 z TI TO .ellipsis := y1
  have k1' : ∀ c o, c ≠ z → s.heap.get? c = some o → m1.get? c = some o := fun c o n e => c1.extBut _ _ n e
  have off : ∀ {m : Heap} {e : Addr}, IsZip m z TI TO .ellipsis → (∃ o, m.get? e = some o ∧ o.cls = .type "StopIteration") → e ≠ z := fun {m e} zz he ez => by
    obtain ⟨oe, ge, ce⟩ := he
    rw [ez, zz] at ge
    cases ge
    simp at ce
  refine wpAny_bind ?_; simp only [List.zipIdx_cons, List.zipIdx_nil, List.forIn_cons, List.forIn_nil]; refine wpAny_bind (wpAny_bind (wpAny_onRaise ?_))
  show wpAny _ _ (Builtin.SmallTypes.nextOf (.ref i1) >>= _) _ _ _
  cases hx : xs[k1]? with
  | none =>
    refine wpAny_bind (nx_end hh (h1.mv fun o => k1' _ o D.i1z) (g1.mv fun o => k1' _ o D.l1z) hx fun m2 e c2 he => ?_)
    have z2 : IsZip m2 z TI TO .ellipsis := c2 _ _ D.i1z.symm z1
    have ez := off z2 he
    obtain ⟨oe, ge, ce⟩ := he
    exact wpAny_setField_rec z2 (by simp) fun m3 _ c3 => fin m3 e (fun c o n _ n2 _ g => c3.extBut _ _ n (c2 _ _ n2 (k1' c o n g))) ⟨oe, c3.extBut _ _ ez ge, ce⟩
  | some x =>
    have hy : ys[k2]? = none := hend.resolve_left (by rw [hx]; exact fun z => nomatch z)
    refine wpAny_bind (nx_item (h1.mv fun o => k1' _ o D.i1z) (g1.mv fun o => k1' _ o D.l1z) hx fun m2 a2 c2 => wpAny_pure ?_)
    have k2' : ∀ c o, c ≠ z → c ≠ i1 → s.heap.get? c = some o → m2.get? c = some o := fun c o n n2 e => c2.extBut _ _ n2 (k1' c o n e)
    have t2 : IsPair m2 TO a b := k2' _ _ D.TOz D.TOi1 hTO
    refine wpAny_bind (wpAny_seqItems t2 rfl (wpAny_bind (wpAny_updateSeq_pair t2 fun m3 y3 c3 => wpAny_bind (wpAny_letGo (wpAny_pure ?_)))))
    have k3' : ∀ c o, c ≠ z → c ≠ i1 → c ≠ TO → s.heap.get? c = some o → m3.get? c = some o := fun c o n n2 n3 e => c3.extBut _ _ n3 (k2' c o n n2 e)
    refine wpAny_bind (wpAny_bind (wpAny_onRaise ?_)); show wpAny _ _ (Builtin.SmallTypes.nextOf (.ref i2) >>= _) _ _ _
    refine wpAny_bind (nx_end hh (h2.mv fun o => k3' _ o D.i2z D.i12.symm D.TOi2.symm) (g2.mv fun o => k3' _ o D.l2z D.l2i1 D.l2TO) hy fun m4 e c4 he => ?_)
    have z4 : IsZip m4 z TI TO .ellipsis := c4 _ _ D.i2z.symm (c3.extBut _ _ D.TOz.symm (c2.extBut _ _ D.i1z.symm z1))
    have ez := off z4 he
    obtain ⟨oe, ge, ce⟩ := he
    exact wpAny_setField_rec z4 (by simp) fun m5 _ c5 => fin m5 e (fun c o n n3 n2 n4 g => c5.extBut _ _ n (c4 _ _ n4 (k3' c o n n2 n3 g))) ⟨oe, c5.extBut _ _ ez ge, ce⟩
theorem pn_item {Q : Option Value → Shared → Prop} (D : ZipApart z TI TO i1 i2 l1 l2) (hz : IsZip s.heap z TI TO .none) (hTI : IsPair s.heap TI (.ref i1) (.ref i2)) (hTO : IsPair s.heap TO a b) (h1 : itA p s.heap i1 l1 k1) (h2 : itA q s.heap i2 l2 k2) (g1 : sqA p s.heap l1 xs) (g2 : sqA q s.heap l2 ys) (hx : xs[k1]? = some x) (hy : ys[k2]? = some y)
    (fin : ∀ h', IsZip h' z TI TO (rawInt s.heap.objs.size) → IsPair h' TO x y → itA p h' i1 l1 (k1 + 1) → itA q h' i2 l2 (k2 + 1) → IsPair h' s.heap.objs.size x y → h'.objs.size = s.heap.objs.size + 1 → (∀ c o, c ≠ z → c ≠ TO → c ≠ i1 → c ≠ i2 → s.heap.get? c = some o → h'.get? c = some o) → Q (some (.ref s.heap.objs.size)) { s with heap := h' }) : wpAny (model prog w) A (pyNext (.ref z)) Q E s := by
  have ty : s.TypeIs (.ref z) "zip" := ⟨_, hz, rfl⟩
  unfold pyNext
  refine wpAny_bind (wpAny_attempt (wpAny_callSpecial?_slot (name := Str.ofString "__next__") ty F.slot_zip_next (wpAny_call_entry F.slot_zip_next ty F.entry_zip_next ?_ (F.args_zip_next_1 _))))
  exact zm_item D hz hTI hTO h1 h2 g1 g2 hx hy fun h' b1 b2 b3 b4 b5 b6 b7 => wpAny_pure (fin h' b1 b2 b3 b4 b5 b6 b7)
theorem pn_end {Q : Option Value → Shared → Prop} (hh : A.handled = none) (D : ZipApart z TI TO i1 i2 l1 l2) (hz : IsZip s.heap z TI TO .none) (hTI : IsPair s.heap TI (.ref i1) (.ref i2)) (hTO : IsPair s.heap TO a b) (h1 : itA p s.heap i1 l1 k1) (h2 : itA q s.heap i2 l2 k2) (g1 : sqA p s.heap l1 xs) (g2 : sqA q s.heap l2 ys) (hend : xs[k1]? = none ∨ ys[k2]? = none)
    (fin : ∀ h', (∀ c o, c ≠ z → c ≠ TO → c ≠ i1 → c ≠ i2 → s.heap.get? c = some o → h'.get? c = some o) → Q none { s with heap := h' }) : wpAny (model prog w) A (pyNext (.ref z)) Q E s := by
  have ty : s.TypeIs (.ref z) "zip" := ⟨_, hz, rfl⟩
  unfold pyNext
  refine wpAny_bind (wpAny_attempt (wpAny_callSpecial?_slot (name := Str.ofString "__next__") ty F.slot_zip_next (wpAny_call_entry F.slot_zip_next ty F.entry_zip_next ?_ (F.args_zip_next_1 _))))
  refine zm_end hh D hz hTI hTO h1 h2 g1 g2 hend fun h' e k he => ?_
  obtain ⟨o, ho, hc⟩ := he
  exact wpAny_bind (wpAny_isInstance (T := "StopIteration") (b := true) ⟨o, ho, hc⟩ isSubtype_stop (wpAny_pure (fin _ k)))
end
abbrev zw1 (p : Bool) (h : Heap) (l1 : Addr) : Heap := h.push (itO p l1)
abbrev zw2 (p q : Bool) (h : Heap) (l1 l2 : Addr) : Heap := (zw1 p h l1).push (itO q l2)
abbrev zw3 (p q : Bool) (h : Heap) (l1 l2 : Addr) : Heap := (zw2 p q h l1 l2).push { cls := .type "tuple", data := .seq #[.ref h.objs.size, .ref (zw1 p h l1).objs.size] }
abbrev zw4 (p q : Bool) (h : Heap) (l1 l2 : Addr) : Heap := (zw3 p q h l1 l2).push { cls := .type "tuple", data := .seq #[.none, .none] }
abbrev zw5 (p q : Bool) (h : Heap) (l1 l2 : Addr) : Heap := (zw4 p q h l1 l2).push { cls := .type "zip", data := .fields #[.none, .bool false, .bool false, .ref (zw2 p q h l1 l2).objs.size, .ref (zw3 p q h l1 l2).objs.size] }
theorem meets_zm (p q : Bool) (l1 l2 : Addr) (xs ys : Array Value) : Meets (Builtin.«zip.__new__» ⟨[.type "zip", .ref l1, .ref l2], []⟩) (fun _ R s => sqA p s.heap l1 xs ∧ sqA q s.heap l2 ys ∧ R (.ok (.ret (.ref (zw4 p q s.heap l1 l2).objs.size))) { s with heap := zw5 p q s.heap l1 l2 }) :=
  .of_wp fun prog w A R s h => by
    obtain ⟨hp, g, d, tk, os⟩ := s
    obtain ⟨a1, a2, h⟩ := h
    have hsub := sub_zip
    have b1 : sqA p (Shared.heap ⟨hp, g, d, tk, os⟩) l1 xs := a1
    have b2 : sqA q (Shared.heap ⟨hp.push (itO p l1), g, d, tk, os⟩) l2 ys := a2.mv fun o e => Heap.get?_push_of_some _ e
    wp_walk using it_new b1, it_new b2
    exact ⟨_, rfl, h⟩
theorem call_zm {prog : Program} {w : World} {A : Around} {E : Value → Shared → Prop} {s : Shared} {p q : Bool} {l1 l2 : Addr} {xs ys : Array Value} {Q : Value → Shared → Prop} (a1 : sqA p s.heap l1 xs) (a2 : sqA q s.heap l2 ys)
    (h : ∀ h', IsZip h' (s.heap.objs.size + 4) (s.heap.objs.size + 2) (s.heap.objs.size + 3) .none → IsPair h' (s.heap.objs.size + 2) (.ref s.heap.objs.size) (.ref (s.heap.objs.size + 1)) → IsPair h' (s.heap.objs.size + 3) .none .none → itA p h' s.heap.objs.size l1 0 → itA q h' (s.heap.objs.size + 1) l2 0 →
      (∀ c o, s.heap.get? c = some o → h'.get? c = some o) → Q (.ref (s.heap.objs.size + 4)) { s with heap := h' }) : wpAny (model prog w) A (call (.type "zip") [.ref l1, .ref l2]) Q E s := by
  refine callType_new F.called_zip (by decide) (F.typeCall_zip_2 _ _) (F.newCall_zip_2 _ _) (fun obj => F.args_object_init_3 obj _ _) F.entry_zip_new (meets_zm p q l1 l2 xs ys) ⟨a1, a2, ?_⟩
  have n1 : (zw1 p s.heap l1).objs.size = s.heap.objs.size + 1 := Heap.size_push ..
  have n2 : (zw2 p q s.heap l1 l2).objs.size = s.heap.objs.size + 2 := (Heap.size_push ..).trans (by rw [n1])
  have n3 : (zw3 p q s.heap l1 l2).objs.size = s.heap.objs.size + 3 := (Heap.size_push ..).trans (by rw [n2])
  have n4 : (zw4 p q s.heap l1 l2).objs.size = s.heap.objs.size + 4 := (Heap.size_push ..).trans (by rw [n3])
  have up : ∀ {m : Heap} {o o' : Obj} {c : Addr}, m.get? c = some o → (m.push o').get? c = some o := fun e => Heap.get?_push_of_some _ e
  have e5 : (zw5 p q s.heap l1 l2).get? (zw4 p q s.heap l1 l2).objs.size = some _ := Heap.get?_push_size _ rfl
  have e4 : (zw5 p q s.heap l1 l2).get? (zw3 p q s.heap l1 l2).objs.size = some _ := up (Heap.get?_push_size _ rfl)
  have e3 : (zw5 p q s.heap l1 l2).get? (zw2 p q s.heap l1 l2).objs.size = some _ := up (up (Heap.get?_push_size _ rfl))
  have e2 : (zw5 p q s.heap l1 l2).get? (zw1 p s.heap l1).objs.size = some _ := up (up (up (Heap.get?_push_size _ (by cases q <;> rfl))))
  have e1 : (zw5 p q s.heap l1 l2).get? s.heap.objs.size = some _ := up (up (up (up (Heap.get?_push_size _ (by cases p <;> rfl)))))
  show _ ∧ _
  rw [n2, n3, n4] at e5; rw [n3] at e4; rw [n1, n2] at e3; rw [n1] at e2; rw [n4]
  exact ⟨⟨_, e5, rfl⟩, h _ e5 e3 e4 ⟨_, e1, rfl, rfl⟩ ⟨_, e2, rfl, rfl⟩ fun c o x => up (up (up (up (up x))))⟩
end Ek

namespace Ek
open PySem PySem.Spec PyProof.Rows L2 RZ
/-! ### zip of two sequences over the layer: each a tuple (true) or a list (false) -/
def SqB (p : Bool) (K : PySem.W.Frag) (H : Hp) (a : Addr) (xs : List V) : Prop := if p = true then SqT K H a xs else SqL K H a xs
theorem SqB.its {X : Cx} {pins : List (Addr × Obj)} {σ : L2.St} {H : Hp} {s : Shared} {p : Bool} {a : Addr} {xs : List V} (I : Inv X pins σ H s) (h : SqB p X.K H a xs) : ∃ us : List Value, Vals xs us ∧ sqA p s.heap a us.toArray := by
  cases p with
  | true =>
    obtain ⟨us, r, t, _⟩ := I.tuple (show SqT X.K H a xs from h)
    exact ⟨us, r, t⟩
  | false =>
    obtain ⟨us, r, t, _⟩ := I.list (show SqL X.K H a xs from h)
    exact ⟨us, r, t.isList⟩
theorem SqB.inj {X : Cx} {pins : List (Addr × Obj)} {σ : L2.St} {H : Hp} {s : Shared} {p : Bool} {a : Addr} {xs ys : List V} (I : Inv X pins σ H s) (h : SqB p X.K H a xs) (h' : SqB p X.K H a ys) : xs = ys := by
  cases p with
  | true => exact I.tuple_inj (show SqT X.K H a xs from h) h'
  | false => exact I.list_inj (show SqL X.K H a xs from h) h'
def ItzM (p q : Bool) (K : PySem.W.Frag) (a b : Addr) : It :=
  ⟨fun i H => ∃ (xs ys : List V) (x y : V), SqB p K H a xs ∧ SqB q K H b ys ∧ xs[i]? = some x ∧ ys[i]? = some y,
   fun i H v H' => ∃ T x y, v = .ref T ∧ H T = none ∧ H' = upd H T (.tup [x, y]) ∧ (∀ xs, SqB p K H a xs → xs[i]? = some x) ∧ ∀ ys, SqB q K H b ys → ys[i]? = some y,
   fun i H => ∃ xs ys : List V, SqB p K H a xs ∧ SqB q K H b ys ∧ (xs.length ≤ i ∨ ys.length ≤ i)⟩
theorem five {α : Type} {P : α → Prop} {a b c d e : α} (h1 : P a) (h2 : P b) (h3 : P c) (h4 : P d) (h5 : P e) : ∀ x ∈ [a, b, c, d, e], P x := fun x m => by
  simp only [List.mem_cons, List.not_mem_nil, or_false] at m
  rcases m with rfl | rfl | rfl | rfl | rfl <;> assumption
theorem turn_zm {P : Program} {w : World} {K : PySem.W.Frag} {elts : List Expr} {kk : Nat} {tpos : Pos} {p q : Bool} {a b z TI TO i1 i2 : Addr} (D : ZipApart z TI TO i1 i2 a b) :
    Turn P w K (.Tuple elts kk tpos) (ItzM p q K a b) [z, TI, TO, i1, i2] z (fun i h => IsZip h z TI TO .none ∧ IsPair h TI (.ref i1) (.ref i2) ∧ (∃ x y, IsPair h TO x y) ∧ itA p h i1 a i ∧ itA q h i2 b i) := by
  have out : ∀ {c : Addr} {P : Prop}, c ∉ [z, TI, TO, i1, i2] → (c ≠ z → c ≠ TO → c ≠ i1 → c ≠ i2 → P) → P := fun {c P} h k => by
    simp only [List.mem_cons, List.not_mem_nil, or_false, not_or] at h
    exact k h.1 h.2.2.1 h.2.2.2.1 h.2.2.2.2
  refine ⟨List.mem_cons_self, fun i h st => ?_, fun i h h' st k => ?_, ?_, ?_, fun A i s Q E st h => wpAny_pyIter_zip st.1 h⟩
  · obtain ⟨y1, y2, ⟨_, _, y3⟩, ⟨o1, e1, _, d1⟩, ⟨o2, e2, _, d2⟩⟩ := st
    exact five ⟨_, y1, fun v e => nomatch e⟩ ⟨_, y2, fun v e => nomatch e⟩ ⟨_, y3, fun v e => nomatch e⟩ ⟨o1, e1, fun v e => by rw [d1] at e; cases e⟩ ⟨o2, e2, fun v e => by rw [d2] at e; cases e⟩
  · obtain ⟨y1, y2, ⟨u, v, y3⟩, y4, y5⟩ := st
    exact ⟨k z (by simp) _ y1, k TI (by simp) _ y2, ⟨u, v, k TO (by simp) _ y3⟩, y4.mv (k i1 (by simp)), y5.mv (k i2 (by simp))⟩
  · intro X hP hw hK hc i pins s σ H E I hf st hg
    subst hP hw hK
    obtain ⟨y1, y2, ⟨u0, v0, y3⟩, y4, y5⟩ := st
    obtain ⟨xs, ys, x, y, sa, sb, hx, hy⟩ := hg
    obtain ⟨us, r1, p1⟩ := sa.its I
    obtain ⟨vs, r2, p2⟩ := sb.its I
    obtain ⟨u, hu, ru⟩ := r1.get hx
    obtain ⟨v, hv, rv⟩ := r2.get hy
    have lz := Heap.lt_size y1
    refine pn_item D y1 y2 y3 y4 y5 p1 p2 (x := u) (y := v) (by simpa using hu) (by simpa using hv) fun h' b1 b2 b3 b4 b5 b6 k => ⟨_, rfl, wpAny_letOwnedTupleGo_zip (s := { s with heap := h' }) b1 fun m b7 sb' => ?_⟩
    have kz : ∀ {c : Addr} {o : Obj}, c ≠ z → h'.get? c = some o → m.get? c = some o := fun n e => (sb'.2 _ n).trans e
    have n0 : s.heap.objs.size ≠ z := Nat.ne_of_gt lz
    have g0 : m.get? s.heap.objs.size = some { cls := .type "tuple", data := .seq #[u, v] } := kz n0 b5
    have obj : ObjOk X.prog X.w (upd H s.heap.objs.size (.tup [x, y])) m s.heap.objs.size (.tup [x, y]) := ⟨by show 2 ≤ sizeLine; decide, [u, v], .cons ru (.cons rv .nil), ⟨_, g0, rfl, _, rfl⟩⟩
    have I2 : Inv X pins σ (upd H s.heap.objs.size (.tup [x, y])) { s with heap := m } := I.turnedNew (t' := s.toks) (ch := [z, TI, TO, i1, i2]) (fun c o hb e => out hb fun n1 n2 n3 n4 => kz n1 (k c o n1 n2 n3 n4 e)) hf (Nat.le_refl _) obj
    have lts : ∀ c ∈ [z, TI, TO, i1, i2], c < s.heap.objs.size := five lz (Heap.lt_size y2) (Heap.lt_size y3) (Heap.lt_size (Classical.choose_spec y4).1) (Heap.lt_size (Classical.choose_spec y5).1)
    refine ⟨.ref s.heap.objs.size, _, I2, rfl, ⟨_, x, y, rfl, I.hok.fresh (Nat.le_refl _), rfl, fun l e => by rw [e.inj I sa]; exact hx, fun l e => by rw [e.inj I sb]; exact hy⟩, ⟨b7, kz D.TIz (k _ _ D.TIz D.TITO D.TIi1 D.TIi2 y2), ⟨u, v, kz D.TOz b2⟩, b3.mv fun o => kz D.i1z, b4.mv fun o => kz D.i2z⟩, fun c mc => ?_⟩
    rw [upd_ne (Nat.ne_of_lt (lts c mc))]
    exact (hf c mc).1
  · intro X hP hw hK hc i pins s σ H E I hf st hg
    subst hP hw hK
    obtain ⟨y1, y2, ⟨u0, v0, y3⟩, y4, y5⟩ := st
    obtain ⟨xs, ys, sa, sb, he⟩ := hg
    obtain ⟨us, r1, p1⟩ := sa.its I
    obtain ⟨vs, r2, p2⟩ := sb.its I
    have l1 := r1.length
    have l2 := r2.length
    refine pn_end (I.ok.hd hc) D y1 y2 y3 y4 y5 p1 p2 (he.imp (fun e => by simp; omega) (fun e => by simp; omega)) fun h' k => ⟨rfl, I.turnedL (t' := s.toks) (ch := [z, TI, TO, i1, i2]) (fun c o hb e => out hb fun n1 n2 n3 n4 => k c o n1 n2 n3 n4 e) hf⟩
def iZipM (p q : Bool) (K : PySem.W.Frag) (ta : TA) : TI := fun σ H R => ta σ H fun vs H1 => ∃ a b xs ys, vs = [.ref a, .ref b] ∧ SqB p K H1 a xs ∧ SqB q K H1 b ys ∧ R (ItzM p q K a b) H1
theorem sqA_lt {p : Bool} {h : Heap} {a : Addr} {xs : Array Value} (x : sqA p h a xs) : a < h.objs.size := by
  obtain ⟨o, e, _⟩ := x
  exact Heap.lt_size e
theorem pi_zipM (p q : Bool) {X : Cx} {e e2 : Expr} {ta : TA} {ps pos tpos : Pos} {elts : List Expr} {kk : Nat} (hg : Gl X "zip") (hm : X.mg "zip" = none) (ha : PA X [e, e2] ta) (hs : starEach [e, e2] X.env = (false, eval e X.env) :: starEach [e2] X.env := by rfl)
    (hpl : (backTo pos (starEach [e2] X.env)).any (·.1) = false := by rfl) : PI X (.Tuple elts kk tpos) (.Call (.Name "zip" ps) [e, e2] [] pos) (iZipM p q X.K ta) := by
  refine ⟨fun pins s σ H R I h => Call_ (ld_blt I hg hm PyProof.Rows.boot_zip (PyProof.Rows.callWith_type1 (thn (ha.run pos pins s σ H _ I h) fun us s1 ⟨vs, H1, I1, r1, a, b, xs, ys, ex, sa, sb, q1⟩ => ?_) hs hpl))⟩
  subst ex
  obtain ⟨u1, u2, rfl, r2, r3⟩ := vals2 r1
  obtain rfl : u1 = Value.ref a := r2
  obtain rfl : u2 = Value.ref b := r3
  obtain ⟨us, _, p1⟩ := sa.its I1
  obtain ⟨ws, _, p2⟩ := sb.its I1
  refine call_zm p1 p2 fun h' y1 y2 y3 y4 y5 k => wpAny_pyIter_zip y1 ⟨s1.heap.objs.size + 4, [s1.heap.objs.size + 4, s1.heap.objs.size + 2, s1.heap.objs.size + 3, s1.heap.objs.size, s1.heap.objs.size + 1], _, _, H1, rfl, I1.kept (t' := s1.toks) k, turn_zm (PySem.W.ktu_apart s1.heap.objs.size a b (sqA_lt p1) (sqA_lt p2)), ⟨y1, y2, ⟨_, _, y3⟩, y4, y5⟩, ?_, q1⟩
  have fr : ∀ {c : Addr}, s1.heap.objs.size ≤ c → FpOk X pins H1 c := fun hle => I1.fpOk hle (I1.hok.fresh hle)
  exact five (fr (Nat.le_add_right _ _)) (fr (Nat.le_add_right _ _)) (fr (Nat.le_add_right _ _)) (fr (Nat.le_refl _)) (fr (Nat.le_add_right _ _))
/-- the turns of a comprehension over it -/
theorem lc_zipM {p q : Bool} {K : PySem.W.Frag} {a b : Addr} {xs ys : List V} {n : Nat} {g : TG} {tt : TT} {te : TE} {vs : List Nat} {σ : L2.St} {H1 : Hp} {D : Addr} {Qd : Hp → Prop} (nx : n ≤ xs.length) (ny : n ≤ ys.length) (ne : xs.length ≤ n ∨ ys.length ≤ n) (Pv : Nat → Hp → Prop) (h0 : Pv 0 (upd H1 D (.lst []))) (hl : ∀ i H, i ≤ n → Pv i H → SqB p K H a xs ∧ SqB q K H b ys)
    (hs : ∀ i x y H T, i < n → xs[i]? = some x → ys[i]? = some y → Pv i H → H T = none → g (.ref T) (wipe σ vs) (upd H T (.tup [x, y])) fun σ2 H2 => wipe σ2 vs = wipe σ vs ∧ tt σ2 H2 fun b H3 => if b = true then te σ2 H3 fun y H4 => ∃ acc, H4 D = some (.lst acc) ∧ acc.length < sizeLine ∧ Pv (i + 1) (upd H4 D (.lst (acc ++ [y]))) else Pv (i + 1) H3) (hd : ∀ H, Pv n H → Qd H) :
    ∃ W : Nat → Nat → Hp → Prop, (∃ m, W 0 m (upd H1 D (.lst []))) ∧ ∀ i m H, W i m H → ((ItzM p q K a b).stop i H ∧ Qd H) ∨ ((ItzM p q K a b).go i H ∧ ∃ Nx : Hp → Prop, (∀ H', Nx H' → ∃ m', m' < m ∧ W (i + 1) m' H') ∧ ∀ x H', (ItzM p q K a b).yld i H x H' → g x (wipe σ vs) H' fun σ2 H2 => wipe σ2 vs = wipe σ vs ∧ tt σ2 H2 fun b H3 =>
        if b = true then te σ2 H3 fun y H4 => ∃ acc, H4 D = some (.lst acc) ∧ acc.length < sizeLine ∧ Nx (upd H4 D (.lst (acc ++ [y]))) else Nx H3) := by
  refine ⟨fun i m H => i + m = n ∧ Pv i H, ⟨n, Nat.zero_add _, h0⟩, fun i m H ⟨em, pv⟩ => ?_⟩
  obtain ⟨q1, q2⟩ := hl i H (by omega) pv
  by_cases lt : i < n
  · refine .inr ⟨⟨xs, ys, xs[i], ys[i], q1, q2, List.getElem?_eq_getElem (by omega), List.getElem?_eq_getElem (by omega)⟩, Pv (i + 1), fun H' p' => ⟨m - 1, by omega, by omega, p'⟩, fun x H' y => ?_⟩
    obtain ⟨T, x1, y1, rfl, nT, rfl, gx, gy⟩ := y
    exact hs i x1 y1 H T lt (gx xs q1) (gy ys q2) pv nT
  · obtain rfl : i = n := by omega
    exact .inl ⟨⟨xs, ys, q1, q2, ne⟩, hd H pv⟩
/-! ### f(k = v, ..) of a def that has defaults -/
theorem pe_callKwD {X : Cx} {CX : CXT} {x : Str} {f : Addr} {k : Nat} {fd : FuncData} {ps ks : List Str} {sp : Sp} {E : XK} {p pos : Pos} {kws : List Keyword} {ta : TA} (F : FnOk X.prog X.w X.K X.mg X.base CX k f fd ps sp) (hr : Room k X.A) (hg : Gl X x) (hm : X.mg x = some (.ref f)) (hk : PySem.W.keepIn X.K (.ref f) = true) (hps : ps.length = ks.length)
    (hb : ∀ (s : Shared) (ws : List Value), X.K.In s.heap → ws.length = ks.length → BindsTo s fd ⟨[], ks.zip ws⟩ (ps.zip ws)) (hx : Passes CX X E) (hkw : PK X kws ta) (hall : (backToKw pos (keywordEach kws X.env)).all (·.1.isSome) = true := by rfl) (hks : (backToKw pos (keywordEach kws X.env)).filterMap (·.1) = ks := by rfl) (hdb : (x == ("__debug__" : Str)) = false := by decide)
    (hpl : ((backTo pos (starEach [] X.env)).any (·.1) || (backToKw pos (keywordEach kws X.env)).any (·.1.isNone)) = false := by rfl) : PE X (.Call (.Name x p) [] kws pos) (tCallW sp E ta) := by
  refine ⟨fun pins s σ H Q I h => wpAny_Call_Name_kw (ld_glob I hg hm (PySem.W.callWith_KW0 (h₀ := X.base) I.ok.mod.kin hk hall (thn (hkw.run pos pins s σ H _ I h) fun ws s2 ⟨zs, H2, I2, rz, q2⟩ => ⟨I2.kIn, ?_⟩) hpl) hdb)⟩
  rw [hks]
  have hl : ws.length = ks.length := by rw [← rz.length, ← hps]; exact F.len _ _ _ _ q2
  exact run_S (args := ⟨[], ks.zip ws⟩) (us := ws) (E := fun _ => E) F hr (hb s2 ws I2.kIn hl) (fun pins H s er s' I' z => hx pins σ H s er s' I' z) I2 rz q2
end Ek

namespace Ek
open PySem PySem.Spec PyProof.Rows L2
section
variable {X : Cx}
/-! ### dict(t) of a tuple of pairs (key, value); the tuple's own dict is known to be none -/
theorem pairs_of2 {pins : List (Addr × Obj)} {σ : L2.St} {H : Hp} {s : Shared} (I : Inv X pins σ H s) : ∀ {ps : List Addr} {kvs : List (L2.Key × V)}, Paired (fun p kv => SqT X.K H p [kV kv.1, kv.2]) ps kvs →
    ∃ prs : List (L2.Key × Value × Value), KV kvs (prs.map fun x => (x.1, x.2.2)) ∧ prs.length = ps.length ∧ ∀ (j : Nat) (q : L2.Key × Value × Value), prs[j]? = some q → ∃ b : Addr, ps[j]? = some b ∧ IsTup s.heap b #[q.2.1, q.2.2] ∧ keyIs q.1 q.2.1 = true
  | _, _, .nil => ⟨[], .nil, rfl, fun j q e => by simp at e⟩
  | _, _, .cons (a := p) (b := kv) h t => by
    obtain ⟨prs, r, hl, hp⟩ := pairs_of2 I t
    obtain ⟨its, rv, ht, _⟩ := I.tuple h
    obtain ⟨u, y, ei, ru, ry⟩ := vals2 rv
    subst ei
    refine ⟨(kv.1, u, y) :: prs, .cons ⟨rfl, ry⟩ r, by rw [List.length_cons, List.length_cons, hl], fun j q e => ?_⟩
    cases j with
    | zero =>
      cases (show some (kv.1, u, y) = some q from e)
      exact ⟨p, rfl, ht, kV_is (P := X.prog) (w := X.w) ru⟩
    | succ j =>
      obtain ⟨b, e1, e2⟩ := hp j q (by simpa using e)
      exact ⟨b, by simpa using e1, e2⟩
def rDictKF (K : PySem.W.Frag) : List V → Hp → VK → Prop := fun xs H Q => ∃ (a : Addr) (o : Obj) (ps : List Addr) (kvs : List (L2.Key × V)), xs = [V.ref a] ∧ o.dict = none ∧ H a = some (.frz o (.tup (ps.map V.ref))) ∧ Paired (fun p kv => SqT K H p [kV kv.1, kv.2]) ps kvs ∧ ∀ p, H p = none → Q (.ref p) (upd H p (.dK (mergeK [] kvs)))
theorem call_dictKF (hc : X.calm = true) : CallR X (.type "dict") (rDictKF X.K) := by
  intro pins s σ H xs us Q I r h
  obtain ⟨a, o, ps, kvs, rfl, hod, ha, pr, q⟩ := h
  obtain ⟨u, rfl, rx⟩ := r.one
  cases rx
  obtain ⟨e1, z, its, rv, ob2, e2, c2, nn, d2⟩ := (show ObjOk X.prog X.w H s.heap a (.frz o (.tup (ps.map V.ref))) from I.hok a _ ha)
  obtain rfl : ob2 = o := Option.some.inj (e2.symm.trans e1)
  obtain ⟨prs, rel, hl, hp⟩ := pairs_of2 I pr
  have ei := refs_at rv
  have hz : prs.length ≤ sizeLine := by
    rw [hl]
    simpa using z
  refine PySem.call_dict_pairs (knd := mixKind X.prog X.w) (kvs := prs.map fun x => (x.1, x.2.2)) (PySem.PairArg.tuple a its.toArray (fun j => ps.getD j 0) (prs.map fun x => (x.2.1, x.2.2))) (I.ok.hd hc) ⟨⟨_, nn, e1, c2, hod, d2⟩, ?sz, fun j k v hj => ?pr⟩ ⟨by rw [List.length_map, List.length_map], fun i key v rel => ?rel⟩ (by rw [List.length_map]; exact hz) fun h' tk hd' hkk => ?fin
  case sz => rw [ei, List.size_toArray, List.length_map, List.length_map, hl]
  case pr =>
    rw [List.getElem?_map] at hj
    obtain ⟨x, hx, ex⟩ := Option.map_eq_some_iff.mp hj
    cases ex
    obtain ⟨b, hb, tb, _⟩ := hp j x hx
    have eb : ps.getD j 0 = b := by rw [List.getD_eq_getElem?_getD, hb]; rfl
    show its.toArray[j]? = some (Value.ref (ps.getD j 0)) ∧ PairAt s.heap (ps.getD j 0) _ _
    rw [eb]
    exact ⟨by rw [ei, List.getElem?_toArray, List.getElem?_map, hb]; rfl, .inl tb⟩
  case rel =>
    have rel' : (prs.map fun x => (x.2.1, x.2.2))[i]? = some (key, v) := rel
    rw [List.getElem?_map] at rel'
    obtain ⟨x, hx, ex⟩ := Option.map_eq_some_iff.mp rel'
    cases ex
    exact ⟨x.1, by rw [List.getElem?_map, hx]; rfl, (hp i x hx).choose_spec.2.2⟩
  case fin =>
    have hf : H s.heap.objs.size = none := I.hok.fresh (Nat.le_refl _)
    have hm : (s.heap.objs.size == sysModules) = false := beq_eq_false_iff_ne.mpr (Nat.ne_of_gt I.big)
    have hlen : (mergeK [] kvs).length ≤ sizeLine := by
      refine Nat.le_trans (length_mergeK kvs []) ?_
      rw [List.length_nil, Nat.zero_add, rel.length, List.length_map]
      exact hz
    exact ⟨.ref s.heap.objs.size, upd H s.heap.objs.size (.dK (mergeK [] kvs)), I.laid (t' := tk) (fun b u e => hkk b u (fun z => by cases z) e) (Nat.le_refl _) (show ObjOk X.prog X.w _ _ _ (.dK (mergeK [] kvs)) from ⟨hlen, hm, merged [] _, KV.merge rel .nil, hd'⟩), rfl, q _ hf⟩
/-! ### dict(l) of a list of pairs, laid and never written again -/
def rDictPF (K : PySem.W.Frag) : List V → Hp → VK → Prop := fun xs H Q => ∃ (a : Addr) (ps : List Addr) (kvs : List (L2.Key × V)), xs = [.ref a] ∧ SqL K H a (ps.map V.ref) ∧ Paired (fun p kv => SqT K H p [kV kv.1, kv.2]) ps kvs ∧ ∀ p o, H p = none → Q (.ref p) (upd H p (.frz o (.dK (mergeK [] kvs))))
theorem call_dictPF (hcalm : X.calm = true) : CallR X (.type "dict") (rDictPF X.K) := by
  intro pins s σ H xs us Q I r q
  obtain ⟨a, ps, kvs, ex, hq, hp, q⟩ := q
  subst ex
  obtain ⟨u, eu, rx⟩ := vals1 r
  subst eu
  cases rx
  obtain ⟨its, rv, pl, hz⟩ := I.list hq
  have ei := refs_at rv
  subst ei
  rw [List.length_map] at hz
  obtain ⟨prs, rel, hl, hpr⟩ := pairs_of I hp
  obtain ⟨o, n, ho, hc, hd, hdat⟩ := pl
  refine L2.call_dict_pairs (prs := prs) (I.ok.hd hcalm) ho hc hd hdat (by simp [hl]) (by rw [hl]; exact hz) (fun j q' e => ?_) fun h' tk hd' k => ?_
  · obtain ⟨b, u, e1, e2, e3⟩ := hpr j q' e
    exact ⟨b, u, by simp [e1], e2, e3⟩
  · have hm : (s.heap.objs.size == sysModules) = false := beq_eq_false_iff_ne.mpr (Nat.ne_of_gt I.big)
    have hlen : (mergeK [] kvs).length ≤ sizeLine := by
      refine Nat.le_trans (length_mergeK kvs []) ?_
      rw [List.length_nil, Nat.zero_add, rel.length, hl]
      exact hz
    obtain ⟨ob, es, ep, hob, hrest⟩ := id hd'
    exact ⟨.ref s.heap.objs.size, upd H s.heap.objs.size (.frz ob (.dK (mergeK [] kvs))), I.laid (t' := tk) k (Nat.le_refl _) (show ObjOk X.prog X.w _ _ _ (.frz ob (.dK (mergeK [] kvs))) from ⟨hob, hlen, hm, merged [] prs, KV.merge rel .nil, hd'⟩), rfl, q _ ob (I.hok.fresh (Nat.le_refl _))⟩
/-- a comprehension over the keys of such a dict -/
theorem lc_keysK {d : Addr} {o : Obj} {kvs : List (L2.Key × V)} {g : TG} {tt : TT} {te : TE} {vs : List Nat} {σ : L2.St} {H1 : Hp} {D : Addr} {Qd : Hp → Prop} (Pv : Nat → Hp → Prop) (h0 : Pv 0 (upd H1 D (.lst []))) (hl : ∀ i H, i ≤ kvs.length → Pv i H → H d = some (.frz o (.dK kvs)))
    (hs : ∀ i k v H, kvs[i]? = some (k, v) → Pv i H → g (kV k) (wipe σ vs) H fun σ2 H2 => wipe σ2 vs = wipe σ vs ∧ tt σ2 H2 fun b H3 =>
      if b = true then te σ2 H3 fun y H4 => ∃ acc, H4 D = some (.lst acc) ∧ acc.length < sizeLine ∧ Pv (i + 1) (upd H4 D (.lst (acc ++ [y]))) else Pv (i + 1) H3) (hd : ∀ H, Pv kvs.length H → Qd H) :
    ∃ W : Nat → Nat → Hp → Prop, (∃ m, W 0 m (upd H1 D (.lst []))) ∧ ∀ i m H, W i m H →
      ((Itk d o kvs).stop i H ∧ Qd H) ∨ ((Itk d o kvs).go i H ∧ ∃ Nx : Hp → Prop, (∀ H', Nx H' → ∃ m', m' < m ∧ W (i + 1) m' H') ∧ ∀ x H', (Itk d o kvs).yld i H x H' → g x (wipe σ vs) H' fun σ2 H2 => wipe σ2 vs = wipe σ vs ∧ tt σ2 H2 fun b H3 =>
        if b = true then te σ2 H3 fun y H4 => ∃ acc, H4 D = some (.lst acc) ∧ acc.length < sizeLine ∧ Nx (upd H4 D (.lst (acc ++ [y]))) else Nx H3) := by
  refine ⟨fun i m H => i + m = kvs.length ∧ Pv i H, ⟨kvs.length, by omega, h0⟩, fun i m H ⟨em, p⟩ => ?_⟩
  have q1 := hl i H (by omega) p
  by_cases lt : i < kvs.length
  · refine .inr ⟨⟨q1, lt⟩, Pv (i + 1), fun H' p' => ⟨m - 1, by omega, by omega, p'⟩, fun x H' y => ?_⟩
    obtain ⟨rfl, k, v, hk, rfl⟩ := y
    exact hs i k v _ hk p
  · obtain rfl : i = kvs.length := by omega
    exact .inl ⟨⟨q1, Nat.le_refl _⟩, hd H p⟩
end
end Ek

namespace Ek
open PySem PySem.Spec PyProof.Rows L2 RT
/-! ### enumerate(reversed(t)) of a tuple -/
section
variable {prog : Program} {w : World} {A : Around} {E : Value → Shared → Prop} {s : Shared}
theorem nextOf_rt_item {it t : Addr} {i : Nat} {items : Array Value} {x : Value} {Q : Value → Shared → Prop} (hit : IsRt s.heap it t (i : Int)) (ht : IsTup s.heap t items) (hx : items[i]? = some x) (hsz : items.size ≤ sizeLine)
    (hQ : ∀ h', IsRt h' it t ((i : Int) - 1) → Heap.SameBut it s.heap h' → Q x { s with heap := h', toks := s.toks + 1 }) : wpAny (model prog w) A (Builtin.SmallTypes.nextOf (.ref it)) Q E s := by
  obtain ⟨o, ho, hc, hd⟩ := id hit
  have hi : i < items.size := (Array.getElem?_eq_some_iff.mp hx).1
  have hT : s.TypeIs (.ref t) "tuple" := IsTup.typeOf' ht
  rw [sizeLine_eq] at hsz
  unfold Builtin.SmallTypes.nextOf
  refine wpAny_bind (wpAny_callSpecial?_slot (name := Str.ofString "__next__") hit.typeIs slot_rt_next
    (wpAny_call_entry slot_rt_next hit.typeIs entry_rt_next ?_ (args_rt_next _)))
  unfold Builtin.«reversed.__next__»
  refine wpAny_bind (wpAny_of_eq (a := (Value.ref it, [])) rfl ?_)
  try dsimp only
  refine wpAny_bind (wpAny_field ho hd (x := .ref t) rfl ?_)
  try dsimp only
  refine wpAny_bind (wpAny_field ho hd (x := rawInt (i : Int)) rfl ?_)
  show wpAny _ _ (if (i : Int) < 0 then _ else _) _ _ s
  rw [if_neg (by omega)]
  try dsimp only
  refine wpAny_bind (wpAny_specialOf hT get_tuple ?_)
  try dsimp only
  try rw [if_neg (by decide)]
  try dsimp only
  refine wpAny_bind (wpAny_mkInt ?_)
  refine wpAny_bind (wpAny_attempt ?_)
  have fin : seqIndex? (i : Int) items.size = some i := seqIndex_of (by omega) (by omega)
  refine PyProof.Rows.getItem_tuple (s := { s with toks := s.toks + 1 }) ht (by omega) (by omega) fin hx ?_
  try dsimp only
  refine wpAny_bind (wpAny_field (s := { s with toks := s.toks + 1 }) ho hd (x := rawInt (i : Int)) rfl ?_)
  try dsimp only
  refine wpAny_bind (wpAny_setField (s := { s with toks := s.toks + 1 }) ho hd (by simp) ?_)
  first
  | refine wpAny_pure ⟨x, rfl, wpAny_pure (hQ _ ?_ (Heap.SameBut.update ..))⟩
  | refine wpAny_bind (wpAny_pure (wpAny_pure ⟨x, rfl, wpAny_pure (hQ _ ?_ (Heap.SameBut.update ..))⟩))
  exact ⟨_, Heap.get?_update_self _ ho (Obj.isFreed_of_fields (Obj.data_mapFields hd _)), (Obj.cls_mapFields ..).trans hc, by
    rw [Obj.data_mapFields hd]; simp⟩
theorem nextOf_rt_end {it t : Addr} {Q : Value → Shared → Prop} (hh : A.handled = none) (hit : IsRt s.heap it t (-1))
    (hE : ∀ h' e, Heap.ExtBut it s.heap h' → (∃ o, h'.get? e = some o ∧ o.cls = .type "StopIteration") → E (.ref e) { s with heap := h' }) : wpAny (model prog w) A (Builtin.SmallTypes.nextOf (.ref it)) Q E s := by
  obtain ⟨o, ho, hc, hd⟩ := id hit
  unfold Builtin.SmallTypes.nextOf
  refine wpAny_bind (wpAny_callSpecial?_slot (name := Str.ofString "__next__") hit.typeIs slot_rt_next
    (wpAny_call_entry slot_rt_next hit.typeIs entry_rt_next ?_ (args_rt_next _)))
  unfold Builtin.«reversed.__next__»
  refine wpAny_bind (wpAny_of_eq (a := (Value.ref it, [])) rfl ?_)
  try dsimp only
  refine wpAny_bind (wpAny_field ho hd (x := .ref t) rfl ?_)
  try dsimp only
  refine wpAny_bind (wpAny_field ho hd (x := rawInt (-1)) rfl ?_)
  show wpAny _ _ (if (-1 : Int) < 0 then _ else _) _ _ s
  rw [if_pos (by decide)]
  try dsimp only
  refine wpAny_bind (wpAny_rule ?_)
  refine wpAny_bind ?_
  wp_delta
  refine wpAny_bind (wpAny_setField ho hd (by simp) ?_)
  have ho2 := Heap.get?_update_self (Obj.mapFields (·.setIfInBounds 1 (rawInt (-1)))) ho (Obj.isFreed_of_fields (Obj.data_mapFields hd _))
  refine wpAny_setField (s := { s with heap := s.heap.update it (Obj.mapFields (·.setIfInBounds 1 (rawInt (-1)))) }) ho2 (Obj.data_mapFields hd _) (by simp) ?_
  try dsimp only
  first
  | show wpAny _ _ (newExc (.type "StopIteration") [] >>= _) _ _ _
  | (refine wpAny_bind ?_; show wpAny _ _ (newExc (.type "StopIteration") [] >>= _) _ _ _)
  | (refine wpAny_bind ?_; wp_delta; show wpAny _ _ (newExc (.type "StopIteration") [] >>= _) _ _ _)
  refine wpAny_bind ?_
  simp only [newExc, newTuple]
  refine wpAny_bind (wpAny_newObj_type ?_ (by size_fits))
  refine wpAny_bind (m := firstArgMember _ _) (wpAny_of_eq (a := Value.none) (by first | rfl | (simp only [firstArgMember]; rfl)) ?_)
  refine wpAny_newObj_type ?_ (by size_fits)
  simp only [raiseNew]
  refine wpAny_bind (wpAny_handled ?_)
  first | rw [show A.in1.handled = none from hh] | rw [hh]
  refine wpAny_bind (wpAny_pure (wpAny_throw ?_))
  refine hE _ _ ?_ ⟨_, Heap.get?_push_size _ rfl, rfl⟩
  refine ((?_ : Heap.ExtBut it s.heap _).push _).push _
  exact fun b ob hb e => (Heap.get?_update_other _ _ (Ne.symm hb)).trans ((Heap.get?_update_other _ _ (Ne.symm hb)).trans e)
end
theorem Draws.rt {prog : Program} {w : World} {A : Around} (hh : A.handled = none) (it t : Addr) (hne : t ≠ it) (items : Array Value) (hsz : items.size ≤ sizeLine) :
    Draws prog w A it [it, t] items.size (fun i v => items[items.size - 1 - i]? = some v) (fun i h => i ≤ items.size ∧ IsRt h it t ((items.size : Int) - 1 - (i : Nat)) ∧ IsTup h t items) where
  live := fun _ _ st => let ⟨_, ⟨o, ho, _⟩, _⟩ := st; ⟨o, ho⟩
  frame := fun _ _ _ st hk => ⟨st.1, st.2.1.at fun o e => hk it (by simp) o e, by
    obtain ⟨_, _, o, ho, r⟩ := st
    exact ⟨o, hk t (by simp) o ho, r⟩⟩
  item := fun i s Q E hi st hQ => by
    obtain ⟨h1, h2, h3⟩ := st
    have e1 : (items.size : Int) - 1 - ((i : Nat) : Int) = ((items.size - 1 - i : Nat) : Int) := by omega
    rw [e1] at h2
    refine nextOf_rt_item h2 h3 (x := items[items.size - 1 - i]) (by rw [Array.getElem?_eq_getElem]) hsz fun h' hit' hs' => ?_
    have e2 : ((items.size - 1 - i : Nat) : Int) - 1 = (items.size : Int) - 1 - ((i + 1 : Nat) : Int) := by omega
    rw [e2] at hit'
    refine hQ _ h' (s.toks + 1) (by rw [Array.getElem?_eq_getElem]) ⟨hi, hit', ?_⟩ hs'
    obtain ⟨o, ho, r⟩ := h3
    exact ⟨o, (hs'.2 t hne).trans ho, r⟩
  done := fun s Q E st hE => by
    obtain ⟨_, h2, _⟩ := st
    have e1 : (items.size : Int) - 1 - ((items.size : Nat) : Int) = -1 := by omega
    rw [e1] at h2
    exact nextOf_rt_end hh h2 hE

def IteR (K : PySem.W.Frag) (a : Addr) (n : Nat) : It :=
  ⟨fun i H => ∃ (xs : List V) (x : V), SqT K H a xs ∧ xs.length = n ∧ i < n ∧ xs[n - 1 - i]? = some x, fun i H v H' => ∃ T x, v = .ref T ∧ H T = none ∧ H' = upd H T (.tup [.int (i : Nat), x]) ∧ ∀ xs, SqT K H a xs → xs[n - 1 - i]? = some x, fun i H => ∃ xs : List V, SqT K H a xs ∧ xs.length = n ∧ i = n⟩
theorem turn_enumR {P : Program} {w : World} {K : PySem.W.Frag} {elts : List Expr} {kk : Nat} {tpos : Pos} (a e it : Addr) (n : Nat) :
    Turn P w K (.Tuple elts kk tpos) (IteR K a n) [e, it] e (fun i h => (∃ old, IsEnum h e it ((i : Nat) : Int) old) ∧ IsRt h it a ((n : Int) - 1 - (i : Nat)) ∧ i ≤ n ∧ e ≠ it ∧ e ≠ a ∧ a ≠ it) where
  mem := by simp
  obj := fun i h st b hb => by
    obtain ⟨⟨old, he⟩, ⟨o, ho, hc, hd⟩, _⟩ := st
    have e' : b = e ∨ b = it := by simpa using hb
    rcases e' with z | z
    · rw [z]; exact ⟨_, he, fun v q => nomatch q⟩
    · rw [z]; exact ⟨o, ho, fun v q => by rw [hd] at q; cases q⟩
  keep := fun i h h' st k => let ⟨⟨old, he⟩, hi, hne⟩ := st; ⟨⟨old, k e (by simp) _ he⟩, hi.at fun o q => k it (by simp) o q, hne⟩
  item := by
    intro X hP hw hK hc i pins s σ H E I hf st hg
    subst hP hw hK
    obtain ⟨⟨old, he⟩, hit, hin, hne, hea, hai⟩ := st
    obtain ⟨xs, x, hq, hn, lt, hx⟩ := hg
    obtain ⟨its, rv, p, hz⟩ := I.tuple hq
    obtain ⟨u, hu, ru⟩ := rv.get hx
    have hel : e < s.heap.objs.size := Heap.lt_size he
    have hil : it < s.heap.objs.size := by obtain ⟨_, q, _⟩ := hit; exact Heap.lt_size q
    have sz : its.toArray.size = n := by rw [List.size_toArray, ← rv.length]; exact hn
    have hit0 : IsRt s.heap it a ((its.toArray.size : Int) - 1 - (i : Nat)) := by rw [sz]; exact hit
    refine wpAny_pyNext_enum_itemD (Ek.Draws.rt (A := X.A.in1) (I.ok.hd hc) it a hai its.toArray (by rw [List.size_toArray, ← rv.length]; exact hz)) he ⟨by omega, hit0, p⟩ (by omega) hne (by simp [hne, hea]) fun y h' tk hy ho hst hT hsz hk => ?_
    obtain ⟨_, hit', _⟩ := hst
    rw [sz] at hit' hy
    have ey : y = u := by
      have z : its[n - 1 - i]? = some y := by simpa using hy
      rw [hu] at z
      exact (Option.some.inj z).symm
    subst ey
    refine ⟨_, rfl, wpAny_letOwnedTupleGo_enum (s := { s with heap := h', toks := tk + 1 }) ho fun h'' he' sb => ?_⟩
    have hT2 : h''.get? s.heap.objs.size = some { cls := .type "tuple", data := .seq #[.int i tk, y] } := (sb.2 _ (Nat.ne_of_gt hel)).trans hT
    have new : ObjOk X.prog X.w (upd H s.heap.objs.size (.tup [.int (i : Nat), x])) h'' s.heap.objs.size (.tup [.int (i : Nat), x]) :=
      ⟨by show 2 ≤ sizeLine; decide, [.int i tk, y], .cons ⟨_, rfl⟩ (.cons ru .nil), ⟨_, hT2, rfl, _, rfl⟩⟩
    have I1 : Inv X pins σ (upd H s.heap.objs.size (.tup [.int (i : Nat), x])) { s with heap := h'', toks := tk + 1 } :=
      I.turnedNew (ch := [e, it]) (fun b ob hb q => (sb.2 b (fun z => hb (by simp [z]))).trans (hk b ob (fun z => hb (by simp [z])) (fun z => hb (by simp [z])) q)) hf (Nat.le_refl _) new
    refine ⟨.ref s.heap.objs.size, _, I1, rfl, ⟨_, x, rfl, I.hok.fresh (Nat.le_refl _), rfl, fun ys hy => by rw [I.tuple_inj hy hq]; exact hx⟩, ⟨⟨y, ?_⟩, hit'.at fun o q => (sb.2 it (Ne.symm hne)).trans q, by omega, hne, hea, hai⟩, fun b hb => ?_⟩
    · have e1 : ((i + 1 : Nat) : Int) = (i : Int) + 1 := by omega
      rw [e1]; exact he'
    · have hb' : b < s.heap.objs.size := by
        have e' : b = e ∨ b = it := by simpa using hb
        rcases e' with z | z
        · rw [z]; exact hel
        · rw [z]; exact hil
      rw [upd_ne (Nat.ne_of_lt hb')]
      exact (hf b hb).1
  done := by
    intro X hP hw hK hc i pins s σ H E I hf st hg
    subst hP hw hK
    obtain ⟨⟨old, he⟩, hit, hin, hne, hea, hai⟩ := st
    obtain ⟨xs, hq, hn, rfl⟩ := hg
    obtain ⟨its, rv, p, hz⟩ := I.tuple hq
    obtain ⟨f0, f1, f2, f3, f4, f5⟩ := hf it (by simp)
    have sz : its.toArray.size = i := by rw [List.size_toArray, ← rv.length]; exact hn
    have hit0 : IsRt s.heap it a ((its.toArray.size : Int) - 1 - ((its.toArray.size : Nat) : Nat)) := by rw [sz]; exact hit
    exact wpAny_pyNext_enum_endD (Ek.Draws.rt (A := X.A.in1) (I.ok.hd hc) it a hai its.toArray (by rw [List.size_toArray, ← rv.length]; exact hz)) he ⟨Nat.le_refl _, hit0, p⟩ fun h' eb => ⟨rfl, I.turned (t' := s.toks) (fun b o hb q => eb b o hb q) f0 f1 f3 f4 f5⟩
  self := fun A i s Q E st h => let ⟨⟨_, he⟩, _⟩ := st; wpAny_pyIter_enum he h
theorem meets_enumerate_newR (r t : Addr) (i : Int) (dct : Option Addr) (sl : Array (Option Value)) :
    Meets (Builtin.«enumerate.__new__» ⟨[.type "enumerate", .ref r], []⟩) (fun _ R s => s.heap.get? r = some { cls := .type "reversed", dict := dct, data := .fields #[.ref t, rawInt i], slots := sl } ∧
      R (.ok (.ret (.ref s.heap.objs.size))) { s with heap := s.heap.push { cls := .type "enumerate", data := .fields #[.none, .bool false, .ref r, rawInt 0, .none, .none] } }) :=
  .of_wp fun prog w A R s h => by
    obtain ⟨hp, g, d, tk, os⟩ := s; obtain ⟨hl, h⟩ := h
    have hsub := sub_enumerate
    have hL : IsRt (Shared.heap ⟨hp, g, d, tk, os⟩) r t i := ⟨_, hl, rfl, rfl⟩
    wp_walk using wpAny_loadPart' hl
    refine wpAny_stack_any fun st => wpAny_pure ?_
    split
    · rename_i c _ _ _ _ _
      cases (c == Value.type "enumerate")
      · wp_walk using wpAny_loadPart' hl, iter_rt hL
        exact ⟨_, rfl, h⟩
      · wp_walk using wpAny_loadPart' hl, iter_rt hL
        exact ⟨_, rfl, h⟩
    · wp_walk using wpAny_loadPart' hl, iter_rt hL
      exact ⟨_, rfl, h⟩
theorem call_enumerate_rt {prog : Program} {w : World} {A : Around} {E : Value → Shared → Prop} {s : Shared} {r t : Addr} {i : Int} {Q : Value → Shared → Prop} (hL : IsRt s.heap r t i)
    (h : ∀ h', IsEnum h' s.heap.objs.size r 0 .none → IsRt h' r t i → h'.objs.size = s.heap.objs.size + 1 →
      (∀ b o, s.heap.get? b = some o → h'.get? b = some o) → Q (.ref s.heap.objs.size) { s with heap := h' }) :
    wpAny (model prog w) A (call (.type "enumerate") [.ref r]) Q E s := by
  obtain ⟨⟨c, dct, dt, sl⟩, hl, hc, hd⟩ := id hL
  replace hc : c = .type "reversed" := hc
  replace hd : dt = .fields #[.ref t, rawInt i] := hd
  subst hc hd
  refine callType_new F.called_enumerate (by decide) (F.typeCall_enumerate_1 _) (F.newCall_enumerate_1 _) (fun obj => F.args_object_init_2 obj _) F.entry_enumerate_new
    (meets_enumerate_newR r t i dct sl) ⟨hl, ?_⟩
  show _ ∧ _
  have he : IsEnum (s.heap.push { cls := .type "enumerate", data := .fields #[.none, .bool false, .ref r, rawInt 0, .none, .none] }) s.heap.objs.size r 0 .none :=
    Heap.get?_push_size s.heap (o := { cls := .type "enumerate", data := .fields #[.none, .bool false, .ref r, rawInt 0, .none, .none] }) rfl
  exact ⟨⟨_, he, rfl⟩, h _ he (hL.at fun o q => Heap.get?_push_of_some _ q) (by rw [Heap.size_push]) fun b o x => Heap.get?_push_of_some _ x⟩
def iEnumR (K : PySem.W.Frag) (te : TE) : TI := fun σ H R => te σ H fun v H1 => ∃ (a : Addr) (xs : List V), v = .ref a ∧ SqT K H1 a xs ∧ R (IteR K a xs.length) H1
theorem pi_enumR {X : Cx} {e : Expr} {te : TE} {p p2 pos pos2 tpos : Pos} {elts : List Expr} {kk : Nat} (hg : Gl X "enumerate") (hm : X.mg "enumerate" = none) (hg2 : Gl X "reversed") (hm2 : X.mg "reversed" = none) (he : PE X e te)
    (hs : starEach [e] X.env = (false, eval e X.env) :: starEach [] X.env := by rfl)
    (hs2 : starEach [.Call (.Name "reversed" p2) [e] [] pos2] X.env = (false, eval (.Call (.Name "reversed" p2) [e] [] pos2) X.env) :: starEach [] X.env := by rfl) :
    PI X (.Tuple elts kk tpos) (.Call (.Name "enumerate" p) [.Call (.Name "reversed" p2) [e] [] pos2] [] pos) (iEnumR X.K te) := by
  refine ⟨fun pins s σ H R I h => ?_⟩
  refine Call_ (ld_blt I hg hm boot_enumerate (PyProof.Rows.callWith_type1 (args_cons (Call_ (ld_blt I hg2 hm2 PyProof.Rows.boot_reversed (PyProof.Rows.callWith_type1 (args_cons (thn (he.run pins s σ H _ I h) fun u s1 ⟨v, H1, I1, r1, q1⟩ => args_nil ?_) hs) hs rfl))) hs2) hs2 rfl))
  obtain ⟨a, xs, ev, hq, q⟩ := q1
  subst ev
  obtain rfl : u = Value.ref a := r1
  obtain ⟨its, rv, p', hz⟩ := I1.tuple hq
  have hl := rv.length
  have hn := line63
  have hal : a < s1.heap.objs.size := by
    obtain ⟨o, ho, _⟩ := id p'
    exact Heap.lt_size ho
  refine call_reversed_tup p' (fun A E Q k => len_tuple p' (by simp only [List.size_toArray] <;> omega) k) (args_nil ?_)
  have hrt : IsRt (s1.heap.push (rtObj a ((its.toArray.size : Int) - 1))) s1.heap.objs.size a ((its.toArray.size : Int) - 1) := ⟨_, Heap.get?_push_size _ rfl, rfl, rfl⟩
  have k1 : ∀ b o, s1.heap.get? b = some o → (s1.heap.push (rtObj a ((its.toArray.size : Int) - 1))).get? b = some o := fun b o q => Heap.get?_push_of_some _ q
  have z1 : (s1.heap.push (rtObj a ((its.toArray.size : Int) - 1))).objs.size = s1.heap.objs.size + 1 := Heap.size_push ..
  refine call_enumerate_rt (s := { s1 with heap := s1.heap.push (rtObj a ((its.toArray.size : Int) - 1)), toks := s1.toks + 1 + 1 }) hrt fun h' he' hit hsz hk => wpAny_pyIter_enum he' ?_
  have I2 : Inv X pins σ H1 { s1 with heap := h', toks := s1.toks + 1 + 1 } := I1.kept (t' := s1.toks + 1 + 1) fun b o q => hk b o (k1 b o q)
  have e1 : ((its.toArray.size : Nat) : Int) - 1 = (xs.length : Int) - 1 - ((0 : Nat) : Int) := by simp only [List.size_toArray]; omega
  rw [e1] at hit
  have he2 : IsEnum h' (s1.heap.objs.size + 1) s1.heap.objs.size 0 .none := by
    have := he'
    simp only [z1] at this
    exact this
  simp only [z1]
  refine ⟨s1.heap.objs.size + 1, [s1.heap.objs.size + 1, s1.heap.objs.size], _, _, H1, rfl, I2, turn_enumR a (s1.heap.objs.size + 1) s1.heap.objs.size xs.length, ⟨⟨.none, he2⟩, hit, Nat.zero_le _, Nat.succ_ne_self _, Nat.ne_of_gt (Nat.lt_succ_of_lt hal), Nat.ne_of_lt hal⟩, fun b hb => ?_, q⟩
  have e' : b = s1.heap.objs.size + 1 ∨ b = s1.heap.objs.size := by simpa using hb
  have hle : s1.heap.objs.size ≤ b := by
    rcases e' with z | z
    · rw [z]; exact Nat.le_add_right _ _
    · rw [z]; exact Nat.le_refl _
  exact I1.fpOk hle (I1.hok.fresh hle)
end Ek

namespace Ek
open PySem PySem.Spec PySem.Calls PyProof.Rows L2
/-! ### set(t) of a tuple of ints, len of a set, t.index(k), list(d.values()) -/
section
variable {P : Program} {w : World} {A : Around} {E : Value → Shared → Prop} {s : Shared}
set_option maxHeartbeats 3200000 in
theorem fill_T {l : Addr} {us : List Value} {ns : List Int} (hh : A.handled = none) (hl : s.heap.IsTuple l us.toArray) (r : IntsAre us ns) (few : ns.length + 1 < scanBound) :
    wpAny (model P w) A.in1 (Builtin.«set.__init__» ⟨[.ref s.heap.objs.size] ++ [.ref l], []⟩) (fun x t => match x with
      | .done f => wants (Full w s ns) E (.ok f) t
      | .again c => c.quiet = true ∧ codeAny (model P w) A c (wants (Full w s ns) E) t) (fun e t => wants (Full w s ns) E (.error e) t) { s with heap := s.heap.push (bare w) } := by
  have en : us.length = ns.length := IntsAre.length r
  obtain ⟨⟨c0, d0, x0, y0⟩, g0, c1, n0, x1⟩ := hl
  simp only at c1 x1
  subst c1 x1
  have g1 : (s.heap.push (bare w)).get? l = some ⟨.type "tuple", d0, .seq us.toArray n0, y0⟩ := Heap.get?_push_of_some _ g0
  have i1 : (s.heap.push (bare w)).IsTuple l us.toArray := ⟨_, g1, rfl, n0, rfl⟩
  have sub1 := F.sub_tuple_set
  have sub2 := F.sub_tuple_frozenset
  have nd : (Value.type "tuple" == Value.type "dict") = false := rfl
  have lt : l < s.heap.objs.size := Heap.lt_size g0
  have sz : (s.heap.push (bare w)).objs.size = s.heap.objs.size + 1 := Heap.size_push ..
  have gS : (s.heap.push (bare w)).get? s.heap.objs.size = some (bare w) := Heap.get?_push_size _ rfl
  unfold Builtin.«set.__init__» noKeywords Builtin.Frozenset.updateFrom
  generalize hI : pyIter = I
  wp_walk
  subst hI
  refine wpAny_pyIter_tuple i1 (wpAny_bind (wpAny_runValue ?_))
  have h3 : A.in1.in1.handled = none := hh
  have apart : l ≠ (s.heap.push (bare w)).objs.size := by rw [sz]; exact Nat.ne_of_lt (Nat.lt_succ_of_lt lt)
  have out : s.heap.objs.size ∉ [(s.heap.push (bare w)).objs.size, l] := by rw [sz]; exact fun m => (List.mem_cons.mp m).elim (Nat.ne_of_lt (Nat.lt_succ_self _)) fun m => Nat.ne_of_gt lt (List.mem_singleton.mp m)
  refine set_update_ints ((Walks.tuple h3 _ l apart us.toArray).toS) s.heap.objs.size out ns (by simpa using en) few (vals_at r en) (us.toArray.size - 0) 0 _ (by omega) (Nat.zero_le _)
    ⟨⟨_, Heap.get?_push_size _ rfl, rfl, rfl⟩, i1.push _⟩ ⟨0, Nat.le_refl 0, setR_new_at (h := (s.heap.push (bare w)).push { cls := .type "tuple_iterator", data := .fields #[.ref l, .int 0 0] }) (Heap.get?_push_of_some _ gS)⟩ fun s' c m lc R => ?_
  have m1 := m.gens
  have m2 := m.drawn
  have m3 := m.os
  have m4 := m.heap
  obtain ⟨G, g2, d2, k2, o2⟩ := s'
  simp only at m1 m2 m3
  subst m1 m2 m3
  refine wpAny_pure (wpAny_pure ⟨rfl, G, k2, c, rfl, R, by simpa [en] using lc, fun b o e => m4 b o ?_ (Heap.get?_push_of_some _ (Heap.get?_push_of_some _ e))⟩)
  have lb : b < s.heap.objs.size := Heap.lt_size e
  rw [sz]
  exact fun m => (List.mem_cons.mp m).elim (Nat.ne_of_lt lb) fun m => Nat.ne_of_lt (Nat.lt_succ_of_lt lb) (List.mem_singleton.mp m)
theorem set_madeT {P : Program} {w : World} {A : Around} {E : Value → Shared → Prop} {s : Shared} {l : Addr} {us : List Value} {ns : List Int} {Q : Value → Shared → Prop} (hh : A.handled = none) (hl : s.heap.IsTuple l us.toArray) (r : IntsAre us ns) (few : ns.length + 1 < scanBound)
    (q : ∀ t, Full w s ns .none t → Q (.ref s.heap.objs.size) t) : wpAny (model P w) A (call (.type "set") [.ref l]) Q E s := by
  obtain ⟨_, _, mro⟩ := F.called_set.mro
  have made := F.called_set.made
  have sub := F.called_set.sub
  have notT := F.called_set.notType
  have can := F.called_set.canCreate
  have tc := F.typeCall_set_1 (.ref l)
  refine wpAny_call (codeAny_of_tree (show wpAny _ _ (callAny (.type "set") _) _ _ _ from wpAny_pure ⟨Code.quiet_builtin _ (by decide +kernel), codeAny_builtin F.entry_type_call ?_⟩))
  rw [Around.under_plain (weight_type_call_type "set" [.ref l] []) rfl]
  repeat (any_goals (first | assumption | wp_step))
  refine codeAny_mono (code_set_led1 (.ref l) (E := E) (Q₁ := fun o t => o = .ref s.heap.objs.size ∧ t = { s with heap := s.heap.push (bare w) }) ⟨rfl, rfl⟩) fun a t at_ => ?_
  rcases a with fl | e
  · exact at_
  · cases e with
    | ret o =>
      obtain ⟨rfl, rfl⟩ := at_
      have laid : (s.heap.push (bare w)).get? s.heap.objs.size = some (bare w) := Heap.get?_push_size _ rfl
      have isS : Shared.TypeIs { s with heap := s.heap.push (bare w) } (.ref s.heap.objs.size) "set" := ⟨_, laid, rfl⟩
      have look := F.called_set.init.lookup
      have bnd := F.called_set.init.bind (.ref s.heap.objs.size)
      repeat (any_goals (first | assumption | wp_step))
      refine codeAny_mono (codeAny_call_builtin (R := wants (Full w s ns) E) F.called_set.init.plain F.entry_set_init (check_set_init_1 isS (fill_T hh hl r few))) fun b t2 bt => ?_
      rcases b with fl2 | e2
      · exact bt
      · cases e2 with
        | ret v =>
          have e3 : v = .none := bt.1
          subst e3
          repeat (any_goals (first | assumption | wp_step))
          exact q _ bt
        | _ => exact bt.elim
    | _ => exact at_.elim
end
section
variable {X : Cx}
def rSetT (K : PySem.W.Frag) (w : World) : List V → Hp → VK → Prop := fun vs H Q => ∃ (a : Addr) (ns : List Int), vs = [V.ref a] ∧ SqT K H a (ns.map V.int) ∧ ns.length ≤ 1000 ∧ ∀ p so, H p = none → (∃ c, c ≤ ns.length ∧ so = SetO w p (fun j => decide (j ∈ ns)) c) → Q (.ref p) (upd H p so)
theorem call_setT (hc : X.calm = true) : CallR X (.type "set") (rSetT X.K X.w) := by
  intro pins s σ H xs us Q I r h
  obtain ⟨a, ns, rfl, hs, few, q⟩ := h
  obtain ⟨its, rv, hl, _⟩ := I.tuple hs
  rw [Vals.ref1 r]
  refine set_madeT (I.ok.hd hc) hl (ints_of_vals rv) (by unfold scanBound; omega) fun t ft => ?_
  obtain ⟨_, G, k, c, rfl, R, lc, kp⟩ := ft
  exact ⟨.ref _, upd H s.heap.objs.size (SetO X.w s.heap.objs.size (fun j => decide (j ∈ ns)) c), I.laid (t' := k) kp (Nat.le_refl _) (setO_new R), rfl, q _ _ (I.hok.fresh (Nat.le_refl _)) ⟨c, lc, rfl⟩⟩
def rLenSet (w : World) : List V → Hp → VK → Prop := fun vs H Q => ∃ (a : Addr) (S : Int → Bool) (n : Nat), vs = [V.ref a] ∧ H a = some (SetO w a S n) ∧ ∀ ks : List Int, ks.Nodup → (∀ k, S k = true ↔ k ∈ ks) → ks.length = n → Q (.int n) H
theorem call_lenSet : CallR X (.builtin "len") (rLenSet X.w) := by
  intro pins s σ H vs us Q I r h
  obtain ⟨a, S, n, rfl, ha, q⟩ := h
  have R := setO_get I ha
  rw [Vals.ref1 r]
  obtain ⟨o, es, ep, t, ho, hex, hd, g, nd, hm, hb, hf, hn, hr, hl⟩ := R
  have big := hb
  refine call_len_set ho hex hd hf (by unfold scanBound at hb; omega) ⟨.int es.size, H, I.tok _, ⟨_, rfl⟩, ?_⟩
  rw [hn]
  exact q _ nd hm (by rw [List.length_map, Array.length_toList]; exact hn)
theorem mt_indexI : MtR X "tuple.index" (fun x xs H Q => ∃ (p : Addr) (ns : List Int) (k : Int), x = V.ref p ∧ xs = [V.int k] ∧ SqT X.K H p (ns.map V.int) ∧ k ∈ ns ∧ Q (.int (ns.idxOf k : Nat)) H) := by
  intro pins s σ H x xs v us Q I rx rs h
  obtain ⟨p, ns, k, rfl, rfl, hq, hk, q⟩ := h
  cases rx
  obtain ⟨u, rfl, t, rfl⟩ := vals1 rs
  obtain ⟨its, r, pl, hz⟩ := I.tuple hq
  exact PySem.SeqAt.tuple_index_ints pl (ints_of_vals r) hk ⟨.int (ns.idxOf k : Nat), H, I.tok _, ⟨_, rfl⟩, q⟩
end
end Ek

namespace Ek
open PySem PySem.Spec PyProof.Rows L2
/-! ### the values of a dict with keys by value, as a list -/
section
variable {X : Cx}
def rValsK : V → List V → Hp → VK → Prop := fun x xs H Q => ∃ (a : Addr) (kvs : List (L2.Key × V)), x = .ref a ∧ xs = [] ∧ H a = some (.dK kvs) ∧ ∀ p, H p = none → Q (.ref p) (upd H p (viewO "dict_values" p a))
theorem mt_valsK : MtR X "dict.values" rValsK := by
  intro pins s σ H x xs v us Q I rx rxs h
  obtain ⟨a, kvs, rfl, rfl, ha, q⟩ := h
  cases rx
  cases rxs
  obtain ⟨z, hd, ws, rel, o, es, ep, ho, hx, hdat, _⟩ := dk_of I.hok ha
  refine call_vals (es := es) (ep := ep) hd ⟨o, ho, hx, hdat⟩ ?_
  exact ⟨.ref s.heap.objs.size, upd H s.heap.objs.size (viewO "dict_values" s.heap.objs.size a), I.laid (t' := s.toks) (fun b u e => Heap.get?_push_of_some _ e) (Nat.le_refl _) (viewO_ok (Heap.get?_push_size _ rfl)), rfl, q _ (I.hok.fresh (Nat.le_refl _))⟩
def rListVK : List V → Hp → VK → Prop := fun xs H Q => ∃ (p a : Addr) (kvs : List (L2.Key × V)), xs = [V.ref p] ∧ H p = some (viewO "dict_values" p a) ∧ H a = some (.dK kvs) ∧ ∀ q, H q = none → Q (.ref q) (upd H q (.lst (kvs.map (·.2))))
theorem call_list_valsK (hc : X.calm = true) : CallR X (.type "list") rListVK := by
  intro pins s σ H xs us Q I r h
  obtain ⟨p, d, kvs, rfl, hp, hd, q⟩ := h
  obtain ⟨u, rfl, rx⟩ := r.one
  cases rx
  have hv : s.heap.get? p = some (DSub.viewOb "dict_values" d) := (show ObjOk X.prog X.w H s.heap p (viewO "dict_values" p d) from I.hok p _ hp).1
  obtain ⟨z, hs, vs, kv, o, es, ep, ho, hx, hdt, hkeys, hpairs, hnd⟩ := dk_of I.hok hd
  have l2 : kvs.length = vs.length := Paired.length kv
  have l1 : es.size = vs.length := by
    have := hpairs.length
    rw [Array.length_toList] at this
    exact this
  refine PySem.W.kdl_call (kdl_vals hx hdt) (I.ok.hd hc) ⟨hv, ho⟩ (by omega) fun h' tk acc' c' kp e it => ?_
  have rv : Vals (kvs.map (·.2)) acc'.toList := by
    have la : acc'.toList.length = acc'.size := by simp
    refine vals_of_at (by rw [List.length_map, la, it.1, l1, l2]) fun j x u h1 h2 => ?_
    obtain ⟨en, hen, rfl⟩ := it.2 j u (by rw [← Array.getElem?_toList]; exact h2)
    rw [List.getElem?_map] at h1
    obtain ⟨p, hp1, rfl⟩ := Option.map_eq_some_iff.mp h1
    obtain ⟨w, hw, rw_⟩ := kv_get kv (show kvs[j]? = some (p.1, p.2) from hp1)
    have he := hpairs.get? (i := j) (e := en) (k := p.1) (v := w) (by rw [Array.getElem?_toList]; exact hen) hw
    rw [he.2]
    exact rw_
  have hz : (kvs.map (·.2)).length ≤ sizeLine := by rw [List.length_map]; omega
  refine ⟨.ref s.heap.objs.size, _, I.laid (t' := tk) (o := .lst (kvs.map (·.2))) kp (Nat.le_refl _) ?_, rfl, q _ (I.hok.fresh (Nat.le_refl _))⟩
  exact ⟨hz, acc'.toList, c', rv, by rw [Array.toArray_toList]; exact e⟩
/-- the same within a comprehension -/
def rIxI (K : PySem.W.Frag) : V → List V → Hp → VK → Prop := fun x xs H Q => ∃ (p : Addr) (ns : List Int) (k : Int), x = V.ref p ∧ xs = [V.int k] ∧ SqT K H p (ns.map V.int) ∧ k ∈ ns ∧ Q (.int (ns.idxOf k : Nat)) H
theorem mt_indexIk (K : PySem.W.Frag) (hK : X.K = K) : MtR X "tuple.index" (rIxI K) := by
  subst hK
  exact mt_indexI
/-- of a tuple laid frozen -/
theorem mt_indexF (K : PySem.W.Frag) (hK : X.K = K) : MtM X "tuple.index" (rIxI K) := by
  subst hK
  intro pins s σ H x xs v us Q I rx rs h
  exact mt_indexI pins s σ H x xs v us Q I rx rs h
end
end Ek

namespace Ek
open PySem PySem.Spec PyProof.Rows L2
section
variable {X : Cx}
/-- dict(t) of a frozen tuple of pairs within a comprehension -/
theorem call_dictKFk (K : PySem.W.Frag) (hK : X.K = K) (hc : X.calm = true) : CallR X (.type "dict") (rDictKF K) := hK ▸ call_dictKF hc
/-- t[lo:hi], the new tuple laid frozen, its own dict known to be none -/
def rSlF (K : PySem.W.Frag) : V → Option Int → Option Int → Hp → VK → Prop := fun x lo hi H Q => ∃ a xs, x = .ref a ∧ SqT K H a xs ∧
  (HT.sIx xs.length 0 lo = 0 ∧ HT.sIx xs.length xs.length hi = xs.length → Q (.ref a) H) ∧ (¬ (HT.sIx xs.length 0 lo = 0 ∧ HT.sIx xs.length xs.length hi = xs.length) → ∀ p o, o.dict = none → H p = none → Q (.ref p) (upd H p (.frz o (.tup (cutV xs lo hi)))))
theorem sl_tupF : SlR X (rSlF X.K) := by
  intro pins s σ H x v vl vu lo hi sl Q I rx hs pl pu h
  obtain ⟨a, xs, rfl, hx, q1, q2⟩ := h
  cases rx
  obtain ⟨its, r, ht, hz⟩ := I.tuple hx
  have hlen : its.toArray.size = xs.length := by rw [List.size_toArray]; exact r.length.symm
  by_cases hw : HT.sIx xs.length 0 lo = 0 ∧ HT.sIx xs.length xs.length hi = xs.length
  · exact sl_tupA pins s σ H (.ref a) (.ref a) vl vu lo hi sl Q I rfl hs pl pu ⟨a, xs, rfl, hx, q1, fun n => absurd hw n⟩
  · refine ⟨"tuple", _, PyProof.Rows.slot_tuple_getitem.lookup, ht.typeIs, ?_⟩
    refine HT.getItem_tuple_cut ht hs pl pu (by rw [hlen]; exact hw) ?_ (by rw [hlen]; exact hz)
    rw [hlen]
    have rv := (r.drop (HT.sIx xs.length 0 lo)).take (HT.sIx xs.length xs.length hi - HT.sIx xs.length 0 lo)
    exact ⟨.ref s.heap.objs.size, _, I.laid (t' := s.toks) (o := .frz _ (.tup (cutV xs lo hi))) (fun b ob q => Heap.get?_push_of_some _ q) (Nat.le_refl _) ⟨Heap.get?_push_size _ rfl, Nat.le_trans (cutV_length xs lo hi) hz, _, rv, IsTup.new _ _⟩, rfl, q2 hw _ _ rfl (I.hok.fresh (Nat.le_refl _))⟩
end
end Ek

namespace Ek
open PySem PySem.Spec PyProof.Rows L2
/-- isinstance(e, (c1, c2, ..)), e the exception that the suite holds, d its own dict -/
def rIsEST (K : PySem.W.Frag) (a : Addr) (cls : Value) (d : Option Addr) : List V → Hp → VK → Prop := fun xs H Q => ∃ (D dd tp : Addr) (fs : List (Str × V)) (cs : List V) (us : List Value) (b : Bool), xs = [.ref a, .ref tp] ∧ cls = .ref D ∧ ExcC K D ∧ d = some dd ∧ H dd = some (.xd fs) ∧ H tp = some (.tup cs) ∧ Paired ClsV cs us ∧ PySem.W.kitAny K (.ref D) us = some b ∧ Q (.bl b) H
theorem call_isEST {X : Cx} {a : Addr} {oe : Obj} {cls : Value} {d : Option Addr} {pn : List (Addr × Obj)} (hz : Zc cls d oe) (hf : ∃ vs, oe.data = .fields vs) : CallR (X.suite a ((a, oe) :: pn)) (.builtin "isinstance") (rIsEST X.K a cls d) := by
  intro pins s σ H xs us Q I r h
  obtain ⟨D, dd, tp, fs, cs, ws, b, rfl, rfl, C, rfl, hx, hT, kk, e, q⟩ := h
  obtain ⟨u1, u2, rfl, r1, r2⟩ := vals2 r
  obtain rfl : u1 = Value.ref a := r1
  cases (show u2 = Value.ref tp from r2)
  obtain ⟨ha, _⟩ := I.pin (a, oe) (List.mem_append_left _ List.mem_cons_self)
  obtain ⟨vs, hd⟩ := hf
  have hxd : ObjOk X.prog X.w H s.heap dd (.xd fs) := I.hok dd _ hx
  obtain ⟨mA, hns, _⟩ := hxd
  obtain ⟨od, ho, _⟩ := lookIn_ns hns
  have J : PySem.W.InstAt s.heap a oe D (some od) := ⟨ha, hz.1, by unfold PySem.W.notCls; rw [hd] <;> rfl, by rw [hz.2]; exact ho⟩
  have hcl : (PySem.W.clsIn X.K D).isSome = true := by
    obtain ⟨cd, hc, _⟩ := PySem.W.any_some C.hd
    rw [hc]
    rfl
  obtain ⟨_, its, rv, o, h1, h2, n, h3⟩ := (show ObjOk X.prog X.w H s.heap tp (.tup cs) from I.hok tp _ hT)
  have e3 := ClsV.all kk rv
  subst e3
  obtain ⟨oc, od2, dt, sl⟩ := o
  simp only at h2 h3
  subst h2 h3
  exact PySem.W.kia_tup (PySem.W.kitx_exc hcl C.hg C.hk C.hs C.ha C.hn C.ht C.hm) I.kIn J h1 e (fun z => nomatch z) fun tk => ⟨.bl b, H, I.kept (t' := tk) fun _ _ z => z, rfl, q⟩
theorem kitAny2 {K : PySem.W.Frag} {t a b : Value} (h1 : PySem.W.kitOne K t a = some false) (h2 : PySem.W.kitOne K t b = some false) : PySem.W.kitAny K t [a, b] = some false := by
  unfold PySem.W.kitAny
  rw [h1]
  show PySem.W.kitAny K t [b] = some false
  unfold PySem.W.kitAny
  rw [h2]
  rfl
end Ek

namespace CC
open PySem PySem.Spec PyProof.Rows L2 Ek
def topS (i : Nat) : Stmt := PySem.Challenge.pw_cutorall_k49_whole_kinds_kept_by_writing.main.body.getD i (.Pass ⟨0, 0, 0, 0⟩)
abbrev sDraws : Stmt := topS 47
abbrev NDraws : List Str := ["script", "many", "cell", "rests", "draws", "k", "at", "mixed"]
theorem scDraws : FnScope NDraws ["script", "many"] (defScope sDraws) := ⟨rfl, rfl, rfl, by decide +kernel, rfl, by decide +kernel, by decide +kernel⟩

abbrev sTake : Stmt := topS 48
abbrev NTake : List Str := ["hand", "many", "at", "draws"]
theorem scTake : FnScope NTake ["hand", "many"] (defScope sTake) := ⟨rfl, rfl, rfl, by decide +kernel, rfl, by decide +kernel, by decide +kernel⟩

abbrev sAT : Stmt := topS 36
abbrev NAT : List Str := ["numbers", "letters", "number"]
theorem scAT : FnScope NAT ["numbers", "letters", "number"] (defScope sAT) := ⟨rfl, rfl, rfl, by decide +kernel, rfl, by decide +kernel, by decide +kernel⟩

abbrev sLaw : Stmt := topS 62
abbrev NLaw : List Str := ["script", "hand", "word", "book", "cells", "ties", "puzzle", "start", "places", "price", "cell", "row", "told", "value", "most", "due", "k", "filling", "total"]
theorem scLaw : FnScope NLaw ["script"] (defScope sLaw) := ⟨rfl, rfl, rfl, by decide +kernel, rfl, by decide +kernel, by decide +kernel⟩

abbrev sII : Stmt := topS 2
abbrev NII : List Str := ["value"]
theorem scII : FnScope NII ["value"] (defScope sII) := ⟨rfl, rfl, rfl, by decide +kernel, rfl, by decide +kernel, by decide +kernel⟩

abbrev sIB : Stmt := topS 4
abbrev NIB : List Str := ["value", "limit"]
theorem scIB : FnScope NIB ["value", "limit"] (defScope sIB) := ⟨rfl, rfl, rfl, by decide +kernel, rfl, by decide +kernel, by decide +kernel⟩

abbrev sSFr : Stmt := topS 35
abbrev NSFr : List Str := ["numbers", "letters"]
theorem scSFr : FnScope NSFr ["numbers"] (defScope sSFr) := ⟨rfl, rfl, rfl, by decide +kernel, rfl, by decide +kernel, by decide +kernel⟩

abbrev sWAt : Stmt := topS 37
abbrev NWAt : List Str := ["told", "row", "letters", "number", "letter"]
theorem scWAt : FnScope NWAt ["told", "row"] (defScope sWAt) := ⟨rfl, rfl, rfl, by decide +kernel, rfl, by decide +kernel, by decide +kernel⟩

abbrev sINu : Stmt := topS 3
abbrev NINu : List Str := ["value"]
theorem scINu : FnScope NINu ["value"] (defScope sINu) := ⟨rfl, rfl, rfl, by decide +kernel, rfl, by decide +kernel, by decide +kernel⟩

abbrev sIV : Stmt := topS 5
abbrev NIV : List Str := ["value"]
theorem scIV : FnScope NIV ["value"] (defScope sIV) := ⟨rfl, rfl, rfl, by decide +kernel, rfl, by decide +kernel, by decide +kernel⟩

abbrev sIS : Stmt := topS 6
abbrev NIS : List Str := ["value"]
theorem scIS : FnScope NIS ["value"] (defScope sIS) := ⟨rfl, rfl, rfl, by decide +kernel, rfl, by decide +kernel, by decide +kernel⟩

abbrev sIQ : Stmt := topS 7
abbrev NIQ : List Str := ["value"]
theorem scIQ : FnScope NIQ ["value"] (defScope sIQ) := ⟨rfl, rfl, rfl, by decide +kernel, rfl, by decide +kernel, by decide +kernel⟩

abbrev sIR : Stmt := topS 8
abbrev NIR : List Str := ["value", "size", "member"]
theorem scIR : FnScope NIR ["value", "size"] (defScope sIR) := ⟨rfl, rfl, rfl, by decide +kernel, rfl, by decide +kernel, by decide +kernel⟩

abbrev sRO : Stmt := topS 9
abbrev NRO : List Str := ["size", "rows", "_", "row", "value"]
theorem scRO : FnScope NRO ["size"] (defScope sRO) := ⟨rfl, rfl, rfl, by decide +kernel, rfl, by decide +kernel, by decide +kernel⟩

abbrev sRN : Stmt := topS 10
abbrev NRN : List Str := ["row", "number", "value"]
theorem scRN : FnScope NRN ["row"] (defScope sRN) := ⟨rfl, rfl, rfl, by decide +kernel, rfl, by decide +kernel, by decide +kernel⟩

abbrev sAA : Stmt := topS 22
abbrev NAA : List Str := ["value", "size", "amount"]
theorem scAA : FnScope NAA ["value", "size"] (defScope sAA) := ⟨rfl, rfl, rfl, by decide +kernel, rfl, by decide +kernel, by decide +kernel⟩

abbrev sPI : Stmt := inClass (topS 23) 0
abbrev NPI : List Str := ["self", "size", "amounts"]
theorem scPI : FnScope NPI ["self", "size", "amounts"] (defScope sPI) := ⟨rfl, rfl, rfl, by decide +kernel, rfl, by decide +kernel, by decide +kernel⟩

abbrev sPC : Stmt := inClass (topS 23) 2
abbrev NPC : List Str := ["self", "row"]
theorem scPC : FnScope NPC ["self", "row"] (defScope sPC) := ⟨rfl, rfl, rfl, by decide +kernel, rfl, by decide +kernel, by decide +kernel⟩

abbrev sXN : Stmt := inClass (topS 13) 0
abbrev NXN : List Str := ["self", "value"]
theorem scXN : FnScope NXN ["self", "value"] (defScope sXN) := ⟨rfl, rfl, rfl, by decide +kernel, rfl, by decide +kernel, by decide +kernel⟩

abbrev sXU : Stmt := inClass (topS 20) 0
abbrev NXU : List Str := ["self", "what"]
theorem scXU : FnScope NXU ["self", "what"] (defScope sXU) := ⟨rfl, rfl, rfl, by decide +kernel, rfl, by decide +kernel, by decide +kernel⟩

abbrev sAR : Stmt := topS 25
abbrev NAR : List Str := ["value", "member"]
theorem scAR : FnScope NAR ["value"] (defScope sAR) := ⟨rfl, rfl, rfl, by decide +kernel, rfl, by decide +kernel, by decide +kernel⟩

abbrev sBI : Stmt := inClass (topS 26) 0
abbrev NBI : List Str := ["self", "prices"]
theorem scBI : FnScope NBI ["self", "prices"] (defScope sBI) := ⟨rfl, rfl, rfl, by decide +kernel, rfl, by decide +kernel, by decide +kernel⟩

abbrev sBL : Stmt := inClass (topS 26) 2
abbrev NBL : List Str := ["self"]
theorem scBL : FnScope NBL ["self"] (defScope sBL) := ⟨rfl, rfl, rfl, by decide +kernel, rfl, by decide +kernel, by decide +kernel⟩

abbrev sOP : Stmt := inClass (topS 23) 5
abbrev NOP : List Str := ["self"]
theorem scOP : FnScope NOP ["self"] (defScope sOP) := ⟨rfl, rfl, rfl, by decide +kernel, rfl, by decide +kernel, by decide +kernel⟩

abbrev sPP : Stmt := inClass (topS 23) 6
abbrev NPP : List Str := ["self", "other"]
theorem scPP : FnScope NPP ["self", "other"] (defScope sPP) := ⟨rfl, rfl, rfl, by decide +kernel, rfl, by decide +kernel, by decide +kernel⟩

abbrev sPT : Stmt := inClass (topS 23) 7
abbrev NPT : List Str := ["self", "many", "amount"]
theorem scPT : FnScope NPT ["self", "many"] (defScope sPT) := ⟨rfl, rfl, rfl, by decide +kernel, rfl, by decide +kernel, by decide +kernel⟩

abbrev sPF : Stmt := inClass (topS 23) 8
abbrev NPF : List Str := ["self", "place", "value", "rest", "row"]
theorem scPF : FnScope NPF ["self", "place", "value"] (defScope sPF) := ⟨rfl, rfl, rfl, by decide +kernel, rfl, by decide +kernel, by decide +kernel⟩

abbrev sPX : Stmt := inClass (topS 23) 9
abbrev NPX : List Str := ["self", "places", "size"]
theorem scPX : FnScope NPX ["self", "places", "size"] (defScope sPX) := ⟨rfl, rfl, rfl, by decide +kernel, rfl, by decide +kernel, by decide +kernel⟩

abbrev sXSt : Stmt := inClass (topS 17) 0
abbrev NXSt : List Str := ["self", "value"]
theorem scXSt : FnScope NXSt ["self", "value"] (defScope sXSt) := ⟨rfl, rfl, rfl, by decide +kernel, rfl, by decide +kernel, by decide +kernel⟩

abbrev sXF : Stmt := inClass (topS 18) 0
abbrev NXF : List Str := ["self", "value"]
theorem scXF : FnScope NXF ["self", "value"] (defScope sXF) := ⟨rfl, rfl, rfl, by decide +kernel, rfl, by decide +kernel, by decide +kernel⟩

abbrev sXPz : Stmt := inClass (topS 16) 0
abbrev NXPz : List Str := ["self", "part", "place"]
theorem scXPz : FnScope NXPz ["self", "part", "place"] (defScope sXPz) := ⟨rfl, rfl, rfl, by decide +kernel, rfl, by decide +kernel, by decide +kernel⟩

abbrev sXB : Stmt := inClass (topS 15) 0
abbrev NXB : List Str := ["self", "value"]
theorem scXB : FnScope NXB ["self", "value"] (defScope sXB) := ⟨rfl, rfl, rfl, by decide +kernel, rfl, by decide +kernel, by decide +kernel⟩

abbrev sXP : Stmt := inClass (topS 14) 0
abbrev NXP : List Str := ["self", "value"]
theorem scXP : FnScope NXP ["self", "value"] (defScope sXP) := ⟨rfl, rfl, rfl, by decide +kernel, rfl, by decide +kernel, by decide +kernel⟩

abbrev sITi : Stmt := topS 28
abbrev NITi : List Str := ["value", "book", "cell_count", "price", "cells", "times", "cell"]
theorem scITi : FnScope NITi ["value", "book", "cell_count"] (defScope sITi) := ⟨rfl, rfl, rfl, by decide +kernel, rfl, by decide +kernel, by decide +kernel⟩

abbrev sFNT : Stmt := topS 29
abbrev NFNT : List Str := ["ties", "book", "cell_count", "number", "tie"]
theorem scFNT : FnScope NFNT ["ties", "book", "cell_count"] (defScope sFNT) := ⟨rfl, rfl, rfl, by decide +kernel, rfl, by decide +kernel, by decide +kernel⟩

abbrev sPZI : Stmt := inClass (topS 30) 0
abbrev NPZI : List Str := ["self", "book", "cell_count", "ties", "wrong"]
theorem scPZI : FnScope NPZI ["self", "book", "cell_count", "ties"] (defScope sPZI) := ⟨rfl, rfl, rfl, by decide +kernel, rfl, by decide +kernel, by decide +kernel⟩

abbrev sIPa : Stmt := topS 31
abbrev NIPa : List Str := ["value", "cell_count"]
theorem scIPa : FnScope NIPa ["value", "cell_count"] (defScope sIPa) := ⟨rfl, rfl, rfl, by decide +kernel, rfl, by decide +kernel, by decide +kernel⟩

abbrev sISt : Stmt := topS 32
abbrev NISt : List Str := ["puzzle", "value", "one", "other", "pair"]
theorem scISt : FnScope NISt ["puzzle", "value"] (defScope sISt) := ⟨rfl, rfl, rfl, by decide +kernel, rfl, by decide +kernel, by decide +kernel⟩

abbrev sSOP : Stmt := topS 38
abbrev NSOP : List Str := ["price", "numbers", "row", "letters", "place", "value"]
theorem scSOP : FnScope NSOP ["price"] (defScope sSOP) := ⟨rfl, rfl, rfl, by decide +kernel, rfl, by decide +kernel, by decide +kernel⟩

abbrev sLLe : Stmt := topS 39
abbrev NLLe : List Str := ["letters", "cells", "fixed", "found", "letter", "cell"]
theorem scLLe : FnScope NLLe ["letters", "cells", "fixed"] (defScope sLLe) := ⟨rfl, rfl, rfl, by decide +kernel, rfl, by decide +kernel, by decide +kernel⟩

abbrev sSmO : Stmt := topS 40
abbrev NSmO : List Str := ["puzzle", "start", "fixed", "price", "by_price", "numbers", "cells", "times", "letters", "number", "left", "cell", "value"]
theorem scSmO : FnScope NSmO ["puzzle", "start"] (defScope sSmO) := ⟨rfl, rfl, rfl, by decide +kernel, rfl, by decide +kernel, by decide +kernel⟩

abbrev sXCe : Stmt := inClass (topS 19) 0
abbrev NXCe : List Str := ["self", "value"]
theorem scXCe : FnScope NXCe ["self", "value"] (defScope sXCe) := ⟨rfl, rfl, rfl, by decide +kernel, rfl, by decide +kernel, by decide +kernel⟩

abbrev sFrC : Stmt := topS 33
abbrev NFrC : List Str := ["puzzle", "start", "fixed", "cell", "_"]
theorem scFrC : FnScope NFrC ["puzzle", "start"] (defScope sFrC) := ⟨rfl, rfl, rfl, by decide +kernel, rfl, by decide +kernel, by decide +kernel⟩

abbrev sWrs : Stmt := topS 41
abbrev NWrs : List Str := ["told", "letters", "bits", "found", "members", "number", "bit", "row", "letter", "place"]
theorem scWrs : FnScope NWrs ["told", "letters"] (defScope sWrs) := ⟨rfl, rfl, rfl, by decide +kernel, rfl, by decide +kernel, by decide +kernel⟩

abbrev sArC : Stmt := topS 44
abbrev NArC : List Str := ["value", "free", "cell"]
theorem scArC : FnScope NArC ["value", "free"] (defScope sArC) := ⟨rfl, rfl, rfl, by decide +kernel, rfl, by decide +kernel, by decide +kernel⟩

abbrev sWrP : Stmt := topS 45
abbrev NWrP : List Str := ["puzzle", "cells", "start", "told", "free", "places", "least", "row", "worth", "values", "cell", "place"]
theorem scWrP : FnScope NWrP ["puzzle", "cells", "start"] (defScope sWrP) := ⟨rfl, rfl, rfl, by decide +kernel, rfl, by decide +kernel, by decide +kernel⟩

abbrev sEvery : Stmt := topS 49
abbrev NEvery : List Str := ["many", "rows", "k", "longer", "row"]
theorem scEvery : FnScope NEvery ["many"] (defScope sEvery) := ⟨rfl, rfl, rfl, by decide +kernel, rfl, by decide +kernel, by decide +kernel⟩

abbrev sPlace : Stmt := topS 50
abbrev NPlace : List Str := ["row", "at", "value"]
theorem scPlace : FnScope NPlace ["row"] (defScope sPlace) := ⟨rfl, rfl, rfl, by decide +kernel, rfl, by decide +kernel, by decide +kernel⟩

abbrev sLB : Stmt := topS 54
abbrev NLB : List Str := ["book", "size", "amounts"]
theorem scLB : FnScope NLB ["book"] (defScope sLB) := ⟨rfl, rfl, rfl, by decide +kernel, rfl, by decide +kernel, by decide +kernel⟩

abbrev sAm3 : Stmt := topS 52
abbrev NAm3 : List Str := ["hand"]
theorem scAm3 : FnScope NAm3 ["hand"] (defScope sAm3) := ⟨rfl, rfl, rfl, by decide +kernel, rfl, by decide +kernel, by decide +kernel⟩

abbrev sLTi : Stmt := topS 53
abbrev NLTi : List Str := ["hand", "book", "cells", "many", "ties", "k", "number", "places", "place"]
theorem scLTi : FnScope NLTi ["hand", "book", "cells", "many"] (defScope sLTi) := ⟨rfl, rfl, rfl, by decide +kernel, rfl, by decide +kernel, by decide +kernel⟩

abbrev sLTo : Stmt := topS 55
abbrev NLTo : List Str := ["book", "ties", "filling", "total", "number", "cells", "times", "cell"]
theorem scLTo : FnScope NLTo ["book", "ties", "filling"] (defScope sLTo) := ⟨rfl, rfl, rfl, by decide +kernel, rfl, by decide +kernel, by decide +kernel⟩

abbrev sLKe : Stmt := topS 56
abbrev NLKe : List Str := ["filling", "start", "cell", "value"]
theorem scLKe : FnScope NLKe ["filling", "start"] (defScope sLKe) := ⟨rfl, rfl, rfl, by decide +kernel, rfl, by decide +kernel, by decide +kernel⟩

abbrev sLTs : Stmt := topS 57
abbrev NLTs : List Str := ["book", "cells", "ties", "start", "found", "row"]
theorem scLTs : FnScope NLTs ["book", "cells", "ties", "start"] (defScope sLTs) := ⟨rfl, rfl, rfl, by decide +kernel, rfl, by decide +kernel, by decide +kernel⟩

abbrev sLSt : Stmt := topS 58
abbrev NLSt : List Str := ["hand", "cells", "share", "start", "cell"]
theorem scLSt : FnScope NLSt ["hand", "cells", "share"] (defScope sLSt) := ⟨rfl, rfl, rfl, by decide +kernel, rfl, by decide +kernel, by decide +kernel⟩

abbrev sLFr : Stmt := topS 59
abbrev NLFr : List Str := ["hand", "cells", "start", "many", "free", "found", "k", "cell"]
theorem scLFr : FnScope NLFr ["hand", "cells", "start", "many"] (defScope sLFr) := ⟨rfl, rfl, rfl, by decide +kernel, rfl, by decide +kernel, by decide +kernel⟩

abbrev sLIs : Stmt := topS 51
abbrev NLIs : List Str := ["price", "word", "size", "amounts", "rows", "i", "j", "both", "some", "one", "x", "y"]
theorem scLIs : FnScope NLIs ["price", "word"] (defScope sLIs) := ⟨rfl, rfl, rfl, by decide +kernel, rfl, by decide +kernel, by decide +kernel⟩

abbrev sLBn : Stmt := topS 60
abbrev NLBn : List Str := ["hand", "size", "base", "singles", "triple", "amounts", "pairs", "row", "total", "k", "x", "y"]
theorem scLBn : FnScope NLBn ["hand", "size"] (defScope sLBn) := ⟨rfl, rfl, rfl, by decide +kernel, rfl, by decide +kernel, by decide +kernel⟩

abbrev sLKp : Stmt := topS 61
abbrev NLKp : List Str := ["hand", "word", "size", "rows", "amounts", "least", "j", "i", "under", "row", "one", "x", "y"]
theorem scLKp : FnScope NLKp ["hand", "word"] (defScope sLKp) := ⟨rfl, rfl, rfl, by decide +kernel, rfl, by decide +kernel, by decide +kernel⟩

abbrev sIsI : Stmt := topS 2
abbrev NIsI : List Str := ["value"]
theorem scIsI : FnScope NIsI ["value"] (defScope sIsI) := ⟨rfl, rfl, rfl, by decide +kernel, rfl, by decide +kernel, by decide +kernel⟩

abbrev sINB : Stmt := topS 4
abbrev NINB : List Str := ["value", "limit"]
theorem scINB : FnScope NINB ["value", "limit"] (defScope sINB) := ⟨rfl, rfl, rfl, by decide +kernel, rfl, by decide +kernel, by decide +kernel⟩
structure Bt (mg : Str → Option Value) : Prop where
  len : mg "len" = none
  int : mg "int" = none
  abs : mg "abs" = none
  range : mg "range" = none
  isinstance : mg "isinstance" = none
  bool : mg "bool" = none
  list : mg "list" = none
  tuple : mg "tuple" = none
  all : mg "all" = none
  min : mg "min" = none
  max : mg "max" = none
  sum : mg "sum" = none
  repr : mg "repr" = none
  zip : mg "zip" = none
  enumerate : mg "enumerate" = none
  sorted : mg "sorted" = none
  dict : mg "dict" = none
  set : mg "set" = none
  any : mg "any" = none
  reversed : mg "reversed" = none
/-- a value of a kind that may be asked about -/
inductive Kn (H : Hp) : V → Prop where
  | non : Kn H .non
  | bl (b : Bool) : Kn H (.bl b)
  | int (i : Int) : Kn H (.int i)
  | str (x : Str) : Kn H (.str x)
  | lst {a : Addr} {xs : List V} (e : H a = some (.lst xs)) : Kn H (.ref a)
  | tup {a : Addr} {xs : List V} (e : H a = some (.tup xs)) : Kn H (.ref a)
theorem Kn.same {H H' : Hp} {v : V} (s : Same H H') (k : Kn H v) : Kn H' v := by
  cases k with
  | non => exact .non
  | bl b => exact .bl b
  | int i => exact .int i
  | str x => exact .str x
  | lst e => exact .lst (s _ _ e)
  | tup e => exact .tup (s _ _ e)
def isI : V → Bool
  | .int _ => true
  | _ => false
def isB (n : Int) : V → Bool
  | .int i => decide (0 ≤ i) && decide (i < n)
  | _ => false
def isZ : V → Bool
  | .int i => decide (1 ≤ i) && decide (i ≤ 3)
  | _ => false
def isR : V → Bool
  | .ref _ => true
  | _ => false
section
variable {P : Program} {w : World} {K : PySem.W.Frag} {mg : Str → Option Value} {base : Heap}
def spII : Sp := fun vs H Q _ => ∃ v, vs = [v] ∧ Kn H v ∧ Q (.bl (isI v)) H
theorem ok_II {f : Addr} {fd : FuncData} (F : Fun K "is_integer" "is_integer" sII f fd) (B : Bt mg) : FnOk P w K mg base CX0 1 f fd ["value"] spII := by
  refine F.ok scII (fun vs H Q E h => ?_) (fun cdv A outer s H vs Q E hr h => ?_)
  · obtain ⟨v, rfl, _⟩ := h
    rfl
  · obtain ⟨v, rfl, k, q⟩ := h
    refine ⟨_, (pss_one (ps_ret (pe_and (pe_callB call_isi (by rfl) B.isinstance (by decide +kernel) (pa_cons (pv 0) (pa_cons (pe_bltn (v := .ty "int") (by rfl) B.int (by decide +kernel) rfl) pa_nil))) (pe_one (pe_not (pe_callB call_isi (by rfl) B.isinstance (by decide +kernel) (pa_cons (pv 0) (pa_cons (pe_bltn (v := .ty "bool") (by rfl) B.bool (by decide +kernel) rfl) pa_nil)))))))), ?_⟩
    refine q_ret ?_
    cases k with
    | non => exact ⟨_, rfl, _, _, _, _, _, rfl, .ty _, .base .non, kit_ty (by decide +kernel), false, rfl, q⟩
    | bl b => exact ⟨_, rfl, _, _, _, _, _, rfl, .ty _, .base (.bl _), kit_ty (by decide +kernel), true, rfl, _, rfl, _, _, _, _, _, rfl, .ty _, .base (.bl _), kit_ty (by decide +kernel), true, rfl, q⟩
    | int i => exact ⟨_, rfl, _, _, _, _, _, rfl, .ty _, .base (.int _), kit_ty (by decide +kernel), true, rfl, _, rfl, _, _, _, _, _, rfl, .ty _, .base (.int _), kit_ty (by decide +kernel), false, rfl, q⟩
    | str x => exact ⟨_, rfl, _, _, _, _, _, rfl, .ty _, .base (.str _), kit_ty (by decide +kernel), false, rfl, q⟩
    | lst e => exact ⟨_, rfl, _, _, _, _, _, rfl, .ty _, .base (.lst e), kit_ty (by decide +kernel), false, rfl, q⟩
    | tup e => exact ⟨_, rfl, _, _, _, _, _, rfl, .ty _, .base (.tup e), kit_ty (by decide +kernel), false, rfl, q⟩
def spIB : Sp := fun vs H Q _ => ∃ v n, vs = [v, .int n] ∧ Kn H v ∧ Q (.bl (isB n v)) H
theorem ok_IB {f fII : Addr} {fd fdII : FuncData} (F : Fun K "is_number_below" "is_number_below" sIB f fd) (GII : FnOk P w K mg base CX0 1 fII fdII ["value"] spII) (kII : PySem.W.keepIn K (.ref fII) = true) (bII : Binds K fdII ["value"] []) (gII : mg "is_integer" = some (.ref fII)) :
    FnOk P w K mg base CX0 2 f fd ["value", "limit"] spIB := by
  refine F.ok scIB (fun vs H Q E h => ?_) (fun cdv A outer s H vs Q E hr h => ?_)
  · obtain ⟨v, n, rfl, _⟩ := h
    rfl
  · obtain ⟨v, n, rfl, k, q⟩ := h
    refine ⟨_, (pss_one (ps_ret (pe_and (pe_call GII (hr.mono (by decide)) (by rfl) gII kII bII .nil pass0 (pa_cons (pv 0) pa_nil)) (pe_one (pe_chain op_le op_lt pe_int (pv 0) (pv 1)))))), ?_⟩
    refine q_ret ⟨_, rfl, v, rfl, k, isI v, rfl, ?_⟩
    cases v with
    | int i =>
      refine ⟨_, rfl, _, _, rfl, rfl, _, rfl, ?_⟩
      have q' : Q (.bl (decide (0 ≤ i) && decide (i < n))) H := q
      by_cases z : 0 ≤ i
      · rw [decide_eq_true z] at q' ⊢
        exact ⟨_, rfl, _, _, rfl, rfl, q'⟩
      · rw [decide_eq_false z] at q' ⊢
        exact q'
    | _ => exact q
def spIV : Sp := fun vs H Q _ => ∃ v, vs = [v] ∧ Kn H v ∧ Q (.bl (isB 2 v)) H
theorem ok_IV {f fIB : Addr} {fd fdIB : FuncData} (F : Fun K "is_value" "is_value" sIV f fd) (GIB : FnOk P w K mg base CX0 2 fIB fdIB ["value", "limit"] spIB) (kIB : PySem.W.keepIn K (.ref fIB) = true) (bIB : Binds K fdIB ["value", "limit"] []) (gIB : mg "is_number_below" = some (.ref fIB)) :
    FnOk P w K mg base CX0 3 f fd ["value"] spIV := by
  refine F.ok scIV (fun vs H Q E h => ?_) (fun cdv A outer s H vs Q E hr h => ?_)
  · obtain ⟨v, rfl, _⟩ := h
    rfl
  · obtain ⟨v, rfl, k, q⟩ := h
    refine ⟨_, (pss_one (ps_ret (pe_call GIB (hr.mono (by decide)) (by rfl) gIB kIB bIB .nil pass0 (pa_cons (pv 0) (pa_cons pe_int pa_nil))))), ?_⟩
    exact q_ret ⟨_, rfl, v, 2, rfl, k, q⟩
def spIS : Sp := fun vs H Q _ => ∃ v, vs = [v] ∧ Kn H v ∧ Q (.bl (isZ v)) H
theorem ok_IS {f fII : Addr} {fd fdII : FuncData} (F : Fun K "is_size" "is_size" sIS f fd) (GII : FnOk P w K mg base CX0 1 fII fdII ["value"] spII) (kII : PySem.W.keepIn K (.ref fII) = true) (bII : Binds K fdII ["value"] []) (gII : mg "is_integer" = some (.ref fII)) :
    FnOk P w K mg base CX0 2 f fd ["value"] spIS := by
  refine F.ok scIS (fun vs H Q E h => ?_) (fun cdv A outer s H vs Q E hr h => ?_)
  · obtain ⟨v, rfl, _⟩ := h
    rfl
  · obtain ⟨v, rfl, k, q⟩ := h
    refine ⟨_, (pss_one (ps_ret (pe_and (pe_call GII (hr.mono (by decide)) (by rfl) gII kII bII .nil pass0 (pa_cons (pv 0) pa_nil)) (pe_one (pe_chain op_le op_le pe_int (pv 0) pe_int))))), ?_⟩
    refine q_ret ⟨_, rfl, v, rfl, k, isI v, rfl, ?_⟩
    cases v with
    | int i =>
      refine ⟨_, rfl, _, _, rfl, rfl, _, rfl, ?_⟩
      have q' : Q (.bl (decide (1 ≤ i) && decide (i ≤ 3))) H := q
      by_cases z : 1 ≤ i
      · rw [decide_eq_true z] at q' ⊢
        exact ⟨_, _, rfl, rfl, q'⟩
      · rw [decide_eq_false z] at q' ⊢
        exact q'
    | _ => exact q
def spIQ : Sp := fun vs H Q _ => ∃ v, vs = [v] ∧ Kn H v ∧ ∀ H', Same H H' → Q (.bl (isR v)) H'
theorem ok_IQ {f : Addr} {fd : FuncData} (F : Fun K "is_sequence" "is_sequence" sIQ f fd) (B : Bt mg) : FnOk P w K mg base CX0 1 f fd ["value"] spIQ := by
  refine F.ok scIQ (fun vs H Q E h => ?_) (fun cdv A outer s H vs Q E hr h => ?_)
  · obtain ⟨v, rfl, _⟩ := h
    rfl
  · obtain ⟨v, rfl, k, q⟩ := h
    refine ⟨_, (pss_one (ps_ret (pe_callB call_isiT (by rfl) B.isinstance (by decide +kernel) (pa_cons (pv 0) (pa_cons (pe_tup (pa_cons (pe_bltn (v := .ty "list") (by rfl) B.list (by decide +kernel) rfl) (pa_cons (pe_bltn (v := .ty "tuple") (by rfl) B.tuple (by decide +kernel) rfl) pa_nil))) pa_nil))))), ?_⟩
    refine q_ret ⟨_, rfl, by show 2 ≤ sizeLine; decide, fun p np => ?_⟩
    have s1 := same_upd (o := .tup [.ty "list", .ty "tuple"]) np
    have k1 := k.same s1
    have c2 : Paired ClsV [.ty "list", .ty "tuple"] [.type "list", .type "tuple"] := .cons (.ty _) (.cons (.ty _) .nil)
    cases k1 with
    | non => exact ⟨_, _, _, _, _, _, rfl, upd_same, c2, .base .non, kitAny_cons (b := false) (kit_ty (by decide +kernel)) (fun _ => kitAny_cons (b := false) (r := false) (kit_ty (by decide +kernel)) (fun _ => kitAny_nil) (fun z => z)) (fun z => by cases z), q _ s1⟩
    | bl b => exact ⟨_, _, _, _, _, _, rfl, upd_same, c2, .base (.bl _), kitAny_cons (b := false) (kit_ty (by decide +kernel)) (fun _ => kitAny_cons (b := false) (r := false) (kit_ty (by decide +kernel)) (fun _ => kitAny_nil) (fun z => z)) (fun z => by cases z), q _ s1⟩
    | int i => exact ⟨_, _, _, _, _, _, rfl, upd_same, c2, .base (.int _), kitAny_cons (b := false) (kit_ty (by decide +kernel)) (fun _ => kitAny_cons (b := false) (r := false) (kit_ty (by decide +kernel)) (fun _ => kitAny_nil) (fun z => z)) (fun z => by cases z), q _ s1⟩
    | str x => exact ⟨_, _, _, _, _, _, rfl, upd_same, c2, .base (.str _), kitAny_cons (b := false) (kit_ty (by decide +kernel)) (fun _ => kitAny_cons (b := false) (r := false) (kit_ty (by decide +kernel)) (fun _ => kitAny_nil) (fun z => z)) (fun z => by cases z), q _ s1⟩
    | lst e => exact ⟨_, _, _, _, _, true, rfl, upd_same, c2, .base (.lst e), kitAny_cons (b := true) (kit_ty (by decide +kernel)) (fun z => by cases z) (fun _ => rfl), q _ s1⟩
    | tup e => exact ⟨_, _, _, _, _, true, rfl, upd_same, c2, .base (.tup e), kitAny_cons (b := false) (kit_ty (by decide +kernel)) (fun _ => kitAny_cons (b := true) (kit_ty (by decide +kernel)) (fun z => by cases z) (fun _ => rfl)) (fun z => by cases z), q _ s1⟩
/-- the values of a row, and how they count -/
def num (bs : List Int) : Int := bs.foldl (fun n v => 2 * n + v) 0
def spRN (K : PySem.W.Frag) : Sp := fun vs H Q _ => ∃ (a : Addr) (bs : List Int), vs = [.ref a] ∧ SqT K H a (bs.map V.int) ∧ Q (.int (num bs)) H
theorem num_take {bs : List Int} {i : Nat} {b : Int} (h : bs[i]? = some b) : num (bs.take (i + 1)) = 2 * num (bs.take i) + b := by
  unfold num
  obtain ⟨hi, e⟩ := List.getElem?_eq_some_iff.mp h
  rw [List.take_add_one, h, List.foldl_append]
  rfl
theorem ok_RN {f : Addr} {fd : FuncData} (F : Fun K "row_number" "row_number" sRN f fd) : FnOk P w K mg base CX0 1 f fd ["row"] (spRN K) := by
  refine F.ok scRN (fun vs H Q E h => ?_) (fun cdv A outer s H vs Q E hr h => ?_)
  · obtain ⟨a, bs, rfl, _⟩ := h
    rfl
  · obtain ⟨a, bs, rfl, hS, q⟩ := h
    refine ⟨_, (pss_cons (ps_set (i := 1) scRN.nd rfl (.inl rfl) pe_int)
      (pss_cons (ps_for PassesOwn.never rfl (pi_tup (pv 0)) (pg_name (i := 2) scRN.nd rfl (.inl rfl))
      (pss_one (ps_set (i := 1) scRN.nd rfl (.inl rfl) (pe_op op_add (pe_op op_mul pe_int (pv 1)) (pv 2)))))
      (pss_one (ps_ret (pv 1))))), ?_⟩
    refine q_seq (q_setc ?_)
    dsimp only
    refine q_seq ?_
    refine ⟨.ref a, rfl, a, rfl, ⟨_, hS⟩, for_tup (K := K) (a := a) (xs := bs.map V.int) (fun i σ H' => ∃ v : Option V, σ = [some (.ref a), some (.int (num (bs.take i))), v] ∧ H' = H) ⟨none, rfl, rfl⟩ (fun i σ H' _ hP => by obtain ⟨v, _, rfl⟩ := hP; exact hS) (fun i x σ H' hx hP => ?_) (fun σ H' hP => ?_)⟩
    · obtain ⟨v, rfl, rfl⟩ := hP
      rw [List.getElem?_map] at hx
      cases e : bs[i]? with
      | none => rw [e] at hx; cases hx
      | some b =>
        rw [e] at hx
        obtain rfl : x = .int b := (Option.some.inj hx).symm
        refine ⟨_, rfl, _, _, rfl, rfl, .inl ⟨by decide, by decide⟩, _, rfl, _, _, rfl, rfl, some (.int b), ?_, rfl⟩
        rw [num_take e]
        rfl
    · obtain ⟨v, rfl, rfl⟩ := hP
      dsimp only
      refine q_ret ⟨_, rfl, ?_⟩
      rw [List.length_map, List.take_length]
      exact q
end
end CC

namespace CC
open PySem PySem.Spec PyProof.Rows L2 Ek
section
variable {P : Program} {w : World} {K : PySem.W.Frag} {mg : Str → Option Value} {base : Heap}
theorem len_small {xs : List V} {n : Nat} (h : xs.length ≤ n) (hn : n ≤ 1000) : xs.length < sizeLine := small1000 (by omega)
/-- whether the members at a are a row of n values -/
def rowB (n : Int) (xs : List V) : Bool := decide ((xs.length : Int) = n) && xs.all (isB 2)
def spIR : Sp := fun vs H Q _ => ∃ v n, vs = [v, .int n] ∧ ((Kn H v ∧ (∀ a xs, v = .ref a → H a ≠ some (.tup xs)) ∧ Q (.bl false) H) ∨
  ∃ a xs, v = .ref a ∧ H a = some (.tup xs) ∧ (∀ x ∈ xs, Kn H x) ∧ xs.length ≤ 100 ∧ ∀ H', Same H H' → Q (.bl (rowB n xs)) H')
theorem ok_IR {f fIV : Addr} {fd fdIV : FuncData} (F : Fun K "is_row" "is_row" sIR f fd) (B : Bt mg) (GIV : FnOk P w K mg base CX0 3 fIV fdIV ["value"] spIV) (kIV : PySem.W.keepIn K (.ref fIV) = true) (bIV : Binds K fdIV ["value"] []) (gIV : mg "is_value" = some (.ref fIV)) : FnOk P w K mg base CX0 4 f fd ["value", "size"] spIR := by
  refine F.ok scIR (fun vs H Q E h => ?_) (fun cdv A outer s H vs Q E hr h => ?_)
  · obtain ⟨v, n, rfl, _⟩ := h
    rfl
  · obtain ⟨v, n, rfl, h⟩ := h
    refine ⟨_, (pss_one (ps_ret (pe_and (pe_callB call_isi (by rfl) B.isinstance (by decide +kernel) (pa_cons (pv 0) (pa_cons (pe_bltn (v := .ty "tuple") (by rfl) B.tuple (by decide +kernel) rfl) pa_nil))) (pe_and (pe_cmpR op_eq (pe_callB call_len_seq (by rfl) B.len PySem.boot_len (pa_cons (pv 0) pa_nil)) (pv 1) (nomark _)) (pe_one (pe_callB (cr_all rfl) (by rfl) B.all (by decide +kernel) (pa_cons (pe_lc (own := [("member", 2)]) (g := gName 2) (tt := tYes) rfl scIR.nd (pi_tup (pv 0)) (blkOk_by (N := NIR) (sc := defScope sIR) (by decide +kernel)) (fun _ _ _ _ _ => pg_name (i := 2) scIR.nd rfl (Or.inl rfl)) (fun _ _ _ _ _ => pts_nil) (fun _ _ _ _ _ => (pe_call GIV (hr.mono (by decide)) (by rfl) gIV kIV bIV .nil pass0 (pa_cons (pv 2) pa_nil)))) pa_nil))))))), ?_⟩
    refine q_ret ?_
    rcases h with ⟨k, nt, q⟩ | ⟨a, xs, rfl, e, km, hl, q⟩
    · cases k with
      | non => exact ⟨_, rfl, _, _, _, _, _, rfl, .ty _, .base .non, kit_ty (by decide +kernel), false, rfl, q⟩
      | bl b => exact ⟨_, rfl, _, _, _, _, _, rfl, .ty _, .base (.bl _), kit_ty (by decide +kernel), false, rfl, q⟩
      | int i => exact ⟨_, rfl, _, _, _, _, _, rfl, .ty _, .base (.int _), kit_ty (by decide +kernel), false, rfl, q⟩
      | str x => exact ⟨_, rfl, _, _, _, _, _, rfl, .ty _, .base (.str _), kit_ty (by decide +kernel), false, rfl, q⟩
      | lst e => exact ⟨_, rfl, _, _, _, _, _, rfl, .ty _, .base (.lst e), kit_ty (by decide +kernel), false, rfl, q⟩
      | tup e => exact absurd e (nt _ _ rfl)
    · refine ⟨_, rfl, _, _, _, _, true, rfl, .ty _, .base (.tup e), kit_ty (by decide +kernel), true, rfl, ?_⟩
      refine ⟨_, rfl, a, xs, rfl, .inr (tl e), .int n, rfl, rfl, _, rfl, ?_⟩
      by_cases hn : (xs.length : Int) = n
      · rw [decide_eq_true (by rw [hn])]
        have er : rowB n xs = xs.all (isB 2) := by
          unfold rowB
          rw [decide_eq_true hn, Bool.true_and]
        refine ⟨.ref a, rfl, a, rfl, ⟨_, tl e⟩, fun D nD => lc_tup (K := K) (a := a) (xs := xs) (fun i H' => Same H H' ∧ H' D = some (.lst (((xs.take i).map (isB 2)).map V.bl))) ⟨same_upd nD, upd_same⟩ (fun i H' _ hP => tl (hP.1 _ _ e)) (fun i x H' hx hP => ?_) (fun H' hP => ?_)⟩
        · obtain ⟨s', hD⟩ := hP
          have kx : Kn H' x := (km x (List.mem_of_getElem? hx)).same s'
          refine ⟨rfl, _, rfl, x, rfl, kx, _, hD, ?_, fun b o z => ?_, ?_⟩
          · rw [List.length_map, List.length_map, List.length_take]
            exact small1000 (Nat.le_trans (Nat.min_le_right _ _) (by omega))
          · rw [upd_ne (ne_of_none z nD)]
            exact s' _ _ z
          · rw [upd_same, List.take_add_one, hx, List.map_append, List.map_append]
            rfl
        · obtain ⟨s', hD⟩ := hP
          rw [List.take_length] at hD
          refine ⟨D, xs.map (isB 2), rfl, sl hD, ?_⟩
          have z := q H' s'
          rw [er] at z
          have e2 : (xs.map (isB 2)).all id = xs.all (isB 2) := by
            rw [List.all_map]
            rfl
          rw [e2]
          exact z
      · rw [decide_eq_false (fun z => hn (V.int.inj z))]
        have er : rowB n xs = false := by
          unfold rowB
          rw [decide_eq_false hn, Bool.false_and]
        have z := q H (Same.refl H)
        rw [er] at z
        exact z
def rowsOf : Nat → List (List Int)
  | 0 => [[]]
  | n + 1 => (rowsOf n).flatMap fun r => [r ++ [0], r ++ [1]]
theorem rows_len : ∀ n, (rowsOf n).length = 2 ^ n
  | 0 => rfl
  | n + 1 => by
    have h : ∀ l : List (List Int), (l.flatMap fun r => [r ++ [0], r ++ [1]]).length = 2 * l.length := fun l => by
      induction l with
      | nil => rfl
      | cons x l ih => rw [List.flatMap_cons, List.length_append, ih, List.length_cons, List.length_cons, List.length_cons, List.length_nil]; omega
    show ((rowsOf n).flatMap fun r => [r ++ [0], r ++ [1]]).length = _
    rw [h, rows_len n, Nat.pow_succ]
    omega
theorem row_len : ∀ n, ∀ r ∈ rowsOf n, r.length = n
  | 0, r, h => by
    obtain rfl := List.mem_singleton.mp h
    rfl
  | n + 1, r, h => by
    obtain ⟨x, hx, hr⟩ := List.mem_flatMap.mp h
    have z := row_len n x hx
    simp only [List.mem_cons, List.not_mem_nil, or_false] at hr
    rcases hr with rfl | rfl <;> simp [z]
/-- tuples at rs, of these values -/
abbrev Rws (H : Hp) (rs : List Addr) (bss : List (List Int)) : Prop := Paired (fun r (bs : List Int) => H r = some (.tup (bs.map V.int))) rs bss
theorem Rws.same {H H' : Hp} {rs : List Addr} {bss : List (List Int)} (s : Same H H') (x : Rws H rs bss) : Rws H' rs bss := by
  induction x with
  | nil => exact .nil
  | cons e _ ih => exact .cons (s _ _ e) ih
def spRO : Sp := fun vs H Q _ => ∃ n : Nat, vs = [.int n] ∧ n ≤ 3 ∧ ∀ H' p rs, Same H H' → H p = none → H' p = some (.tup (rs.map V.ref)) → Rws H' rs (rowsOf n) → Q (.ref p) H'
theorem Rws.updL {H : Hp} {rs : List Addr} {bss : List (List Int)} {D : Addr} {xs : List V} {o : HO} (e : H D = some (.lst xs)) (x : Rws H rs bss) : Rws (upd H D o) rs bss := by
  induction x with
  | nil => exact .nil
  | cons h _ ih => exact .cons (by rw [upd_ne (ne_of h e (by intro z; cases z))]; exact h) ih
theorem take_flat {α β : Type} (g : α → List β) {l : List α} {i : Nat} {x : α} (h : l[i]? = some x) : (l.take (i + 1)).flatMap g = (l.take i).flatMap g ++ g x := by
  rw [List.take_add_one, h, List.flatMap_append]
  simp
theorem ok_RO {f : Addr} {fd : FuncData} (F : Fun K "rows_of" "rows_of" sRO f fd) (B : Bt mg) : FnOk P w K mg base CX0 1 f fd ["size"] spRO := by
  refine F.ok scRO (fun vs H Q E h => ?_) (fun cdv A outer s H vs Q E hr h => ?_)
  · obtain ⟨n, rfl, _⟩ := h
    rfl
  · obtain ⟨n, rfl, hn, q⟩ := h
    refine ⟨_, pss_cons (ps_set (i := 1) scRO.nd rfl (.inl rfl) (pe_lst (pa_cons (pe_tup pa_nil) pa_nil)))
      (pss_cons (ps_for PassesOwn.never rfl (pi_range1 rfl B.range (pa_cons (pv 0) pa_nil)) (pg_name (i := 2) scRO.nd rfl (.inl rfl))
        (pss_one (ps_setLc2 (i := 1) (own := [("row", 3), ("value", 4)]) (vs1 := [4]) (g := gName 3) (g1 := gName 4) (tt := tYes) (tt1 := tYes) rfl scRO.nd rfl rfl (sw_true rfl rfl rfl (by decide +kernel)) (pi_list (pv 1)) (blkOk_by (N := NRO) (sc := defScope sRO) (by decide +kernel)) (by decide)
          (fun _ _ _ _ _ => pg_name (i := 3) scRO.nd rfl (Or.inl rfl)) (fun _ _ _ _ _ => pts_nil) (fun _ _ _ _ _ => pi_tupk K rfl (pe_tup (pa_cons pe_int (pa_cons pe_int pa_nil)))) (fun _ _ _ _ _ => pg_name (i := 4) scRO.nd rfl (Or.inl rfl)) (fun _ _ _ _ _ => pts_nil)
          (fun _ _ _ _ _ => pe_op (op_catAk K rfl) (pv 3) (pe_tup (pa_cons (pv 4) pa_nil))))))
      (pss_one (ps_ret (pe_callTy call_tuple_of (by rfl) B.tuple (by decide +kernel) (pa_cons (pv 1) pa_nil))))), ?_⟩
    refine q_seq (q_set ?_)
    refine ⟨Nat.zero_le _, fun t0 nt0 => ⟨by show 1 ≤ sizeLine; decide, fun L0 nL0 => ?_⟩⟩
    have s0 : Same H (upd (upd H t0 (.tup [])) L0 (.lst [.ref t0])) := (same_upd nt0).trans (same_upd nL0)
    have e0 : (upd (upd H t0 (.tup [])) L0 (.lst [.ref t0])) t0 = some (.tup []) := same_upd nL0 _ _ upd_same
    dsimp only
    refine q_seq ?_
    refine ⟨_, rfl, n, rfl, by omega, by omega, for_range (lo := 0) (n := n) (fun i σ H' => ∃ (L : Addr) (u : Option V) (rs : List Addr), σ = [some (.int n), some (.ref L), u, none, none] ∧ Same H H' ∧ H' L = some (.lst (rs.map V.ref)) ∧ Rws H' rs (rowsOf i))
      ⟨L0, none, [t0], rfl, s0, upd_same, .cons e0 .nil⟩ (fun i σ H1 hi hP => ?_) (fun σ H1 hP => ?_)⟩
    · obtain ⟨L, u, rs, rfl, s1, hL, rw1⟩ := hP
      refine q_set ?_
      have len1 : rs.length = (rowsOf i).length := paired_len rw1
      have lim : (rowsOf i).length ≤ 8 := by
        rw [rows_len]
        exact Nat.le_trans (Nat.pow_le_pow_right (by decide) (show i ≤ 3 by omega)) (by decide)
      refine ⟨.ref L, rfl, L, rfl, ⟨_, sl hL⟩, fun D nD => lp_list (K := K) (a := L) (xs := rs.map V.ref) (fun j H2 => Same H1 H2 ∧ ∃ rs2 : List Addr, H2 D = some (.lst (rs2.map V.ref)) ∧ Rws H2 rs2 (((rowsOf i).take j).flatMap fun r => [r ++ [0], r ++ [1]]))
        ⟨same_upd nD, [], upd_same, .nil⟩ (fun j H2 _ hQ => sl (hQ.1 _ _ hL)) (fun j x H2 hx hQ => ?_) (fun H2 hQ => ?_)⟩
      · obtain ⟨s2, rs2, hD, rw2⟩ := hQ
        obtain ⟨r, bs, rfl, hbs, hr⟩ : ∃ r bs, x = V.ref r ∧ (rowsOf i)[j]? = some bs ∧ H1 r = some (.tup (bs.map V.int)) := by
          rw [List.getElem?_map] at hx
          cases e : rs[j]? with
          | none => rw [e] at hx; cases hx
          | some r =>
            rw [e] at hx
            have hj : j < (rowsOf i).length := by
              rw [← len1]
              exact (List.getElem?_eq_some_iff.mp e).1
            obtain ⟨y, hy, hz⟩ := paired_get rw1 (List.getElem?_eq_getElem hj)
            rw [e] at hy
            cases hy
            exact ⟨r, _, (Option.some.inj hx).symm, List.getElem?_eq_getElem hj, hz⟩
        have l2 : rs2.length ≤ 16 := by
          have z := paired_len rw2
          have h2 : ∀ l : List (List Int), (l.flatMap fun r => [r ++ [0], r ++ [1]]).length = 2 * l.length := fun l => by
            induction l with
            | nil => rfl
            | cons x l ih => rw [List.flatMap_cons, List.length_append, ih, List.length_cons, List.length_cons, List.length_cons, List.length_nil]; omega
          rw [h2, List.length_take] at z
          omega
        have lb : bs.length ≤ 3 := by
          rw [row_len i bs (List.mem_of_getElem? hbs)]
          omega
        refine ⟨rfl, by show 2 ≤ sizeLine; decide, fun tp ntp => ⟨tp, rfl, ⟨_, tl upd_same⟩, lp_tup (K := K) (a := tp) (xs := [.int 0, .int 1]) (fun k H3 => Same H1 H3 ∧ H3 tp = some (.tup [.int 0, .int 1]) ∧ ∃ rs3 : List Addr, H3 D = some (.lst (rs3.map V.ref)) ∧ rs3.length = rs2.length + k ∧ Rws H3 rs3 ((((rowsOf i).take j).flatMap fun r => [r ++ [0], r ++ [1]]) ++ ([bs ++ [0], bs ++ [1]].take k)))
          ⟨s2.trans (same_upd ntp), upd_same, rs2, same_upd ntp _ _ hD, rfl, by rw [List.take_zero, List.append_nil]; exact rw2.same (same_upd ntp)⟩ (fun k H3 _ hR => tl hR.2.1) (fun k y H3 hy hR => ?_) (fun H3 hR => ?_)⟩⟩
        · obtain ⟨s3, htp, rs3, hD3, l3, rw3⟩ := hR
          obtain ⟨b, rfl, hb⟩ : ∃ b : Int, y = .int b ∧ [bs ++ [0], bs ++ [1]][k]? = some (bs ++ [b]) := by
            match k, hy with
            | 0, hy => exact ⟨0, (Option.some.inj hy).symm, rfl⟩
            | 1, hy => exact ⟨1, (Option.some.inj hy).symm, rfl⟩
            | k + 2, hy => simp at hy
          have hk : k < 2 := (List.getElem?_eq_some_iff.mp hy).1
          -- what is laid at t: the new row
          have fin : ∀ (H4 : Hp) (t : Addr), Same H3 H4 → H4 t = some (.tup ((bs ++ [b]).map V.int)) → ∃ acc, H4 D = some (.lst acc) ∧ acc.length < sizeLine ∧ Same H1 (upd H4 D (.lst (acc ++ [.ref t]))) ∧ (upd H4 D (.lst (acc ++ [.ref t]))) tp = some (.tup [.int 0, .int 1]) ∧
              ∃ rs3 : List Addr, (upd H4 D (.lst (acc ++ [.ref t]))) D = some (.lst (rs3.map V.ref)) ∧ rs3.length = rs2.length + (k + 1) ∧ Rws (upd H4 D (.lst (acc ++ [.ref t]))) rs3 ((((rowsOf i).take j).flatMap fun r => [r ++ [0], r ++ [1]]) ++ ([bs ++ [0], bs ++ [1]].take (k + 1))) := fun H4 t s4 ht => by
            have hD4 := s4 _ _ hD3
            refine ⟨_, hD4, by rw [List.length_map]; exact small1000 (by omega), fun c o e => ?_, ?_, rs3 ++ [t], by rw [upd_same, List.map_append]; rfl, by rw [List.length_append, l3]; rfl, ?_⟩
            · rw [upd_ne (ne_of_none e nD)]
              exact s4 _ _ (s3 _ _ e)
            · have htp4 := s4 _ _ htp
              rw [upd_ne (ne_of htp4 hD4 (by intro z; cases z))]
              exact htp4
            · rw [List.take_add_one, hb, ← List.append_assoc]
              exact Rws.updL hD4 (paired_app (rw3.same s4) (.cons ht .nil))
          refine ⟨rfl, .ref r, rfl, .int b, rfl, by show 1 ≤ sizeLine; decide, fun t1 nt1 => ?_⟩
          refine ⟨r, t1, bs.map V.int, [.int b], rfl, rfl, tl (same_upd nt1 _ _ (s3 _ _ hr)), tl upd_same, ?_, fun z => ?_, (fun _ z => absurd z (List.cons_ne_nil _ _)), fun _ _ p np => ?_⟩
          · rw [List.length_map]
            exact Nat.le_of_lt (small1000 (by show bs.length + 1 ≤ 1000; omega))
          · have zb : bs = [] := by
              cases bs with
              | nil => rfl
              | cons c d => cases z
            subst zb
            exact fin _ t1 (same_upd nt1) upd_same
          · exact fin _ p ((same_upd nt1).trans (same_upd np)) (by rw [upd_same, List.map_append]; rfl)
        · obtain ⟨s3, htp, rs3, hD3, l3, rw3⟩ := hR
          refine ⟨s3, rs3, hD3, ?_⟩
          rw [take_flat _ hbs]
          exact rw3
      · obtain ⟨s2, rs2, hD, rw2⟩ := hQ
        refine ⟨D, _, rs2, rfl, s1.trans s2, hD, ?_⟩
        rw [List.length_map, len1, List.take_length] at rw2
        exact rw2
    · obtain ⟨L, u, rs, rfl, s1, hL, rw1⟩ := hP
      dsimp only
      refine q_ret ⟨.ref L, rfl, L, _, rfl, .inl ⟨sl hL, fun p np => q _ p rs (s1.trans (same_upd np)) (s1.free np) upd_same (rw1.same (same_upd np))⟩⟩
end
end CC

namespace CC
open PySem PySem.Spec PyProof.Rows L2 Ek
section
variable {P : Program} {w : World} {K : PySem.W.Frag} {mg : Str → Option Value} {base : Heap}
def amB (k : Nat) (xs : List V) : Bool := decide (xs.length = 2 ^ k) && xs.all isI
theorem amB_ints {k : Nat} : ∀ {xs : List V}, xs.all isI = true → ∃ ms : List Int, xs = ms.map V.int
  | [], _ => ⟨[], rfl⟩
  | x :: xs, h => by
    rw [List.all_cons, Bool.and_eq_true] at h
    obtain ⟨ms, rfl⟩ := amB_ints (k := k) h.2
    cases x with
    | int i => exact ⟨i :: ms, rfl⟩
    | _ => exact absurd h.1 (by simp [isI])
/-- what may be passed as amounts -/
inductive Am (H : Hp) : V → Prop where
  | flat {v : V} (k : Kn H v) (n : isR v = false) : Am H v
  | lst {a : Addr} {xs : List V} (e : H a = some (.lst xs)) (km : ∀ x ∈ xs, Kn H x) (z : xs.length ≤ 100) : Am H (.ref a)
  | tup {a : Addr} {xs : List V} (e : H a = some (.tup xs)) (km : ∀ x ∈ xs, Kn H x) (z : xs.length ≤ 100) : Am H (.ref a)
theorem Am.same {H H' : Hp} {v : V} (s : Same H H') (k : Am H v) : Am H' v := by
  cases k with
  | flat k n => exact .flat (k.same s) n
  | lst e km z => exact .lst (s _ _ e) (fun x hx => (km x hx).same s) z
  | tup e km z => exact .tup (s _ _ e) (fun x hx => (km x hx).same s) z
/-- the members, if it is a sequence -/
def Mem (H : Hp) (v : V) (xs : List V) : Prop := ∃ a, v = .ref a ∧ (H a = some (.lst xs) ∨ H a = some (.tup xs))
def spAA : Sp := fun vs H Q _ => ∃ (v : V) (k : Nat), vs = [v, .int k] ∧ k ≤ 3 ∧ Am H v ∧ ∀ H', Same H H' → (isR v = false → Q (.bl false) H') ∧ ∀ xs, Mem H v xs → Q (.bl (amB k xs)) H'
theorem ok_AA {f fIQ fII : Addr} {fd fdIQ fdII : FuncData} (F : Fun K "_are_amounts" "_are_amounts" sAA f fd) (B : Bt mg) (GIQ : FnOk P w K mg base CX0 1 fIQ fdIQ ["value"] spIQ) (kIQ : PySem.W.keepIn K (.ref fIQ) = true) (bIQ : Binds K fdIQ ["value"] []) (gIQ : mg "is_sequence" = some (.ref fIQ)) (GII : FnOk P w K mg base CX0 1 fII fdII ["value"] spII) (kII : PySem.W.keepIn K (.ref fII) = true) (bII : Binds K fdII ["value"] []) (gII : mg "is_integer" = some (.ref fII)) : FnOk P w K mg base CX0 2 f fd ["value", "size"] spAA := by
  refine F.ok scAA (fun vs H Q E h => ?_) (fun cdv A outer s H vs Q E hr h => ?_)
  · obtain ⟨v, k, rfl, _⟩ := h
    rfl
  · obtain ⟨v, k, rfl, hk, am, q⟩ := h
    have pw : (1 : Int) * 2 ^ ((k : Nat) : Int).toNat = ((2 ^ k : Nat) : Int) := by
      rw [Int.toNat_natCast, Int.one_mul]
      simp
    cases am with
    | flat kn n =>
      refine ⟨_, (pss_one (ps_ret (pe_and (pe_call GIQ (hr.mono (by decide)) (by rfl) gIQ kIQ bIQ .nil pass0 (pa_cons (pv 0) pa_nil)) (pe_and (pe_cmpR op_eq (pe_callB call_len_seq (by rfl) B.len PySem.boot_len (pa_cons (pv 0) pa_nil)) (pe_op op_shl pe_int (pv 1)) (nomark _)) (pe_one (pe_callB (cr_all rfl) (by rfl) B.all (by decide +kernel) (pa_cons (pe_lc (own := [("amount", 2)]) (g := gName 2) (tt := tYes) rfl scAA.nd (pi_list (pv 0)) (blkOk_by (N := NAA) (sc := defScope sAA) (by decide +kernel)) (fun _ _ _ _ _ => pg_name (i := 2) scAA.nd rfl (Or.inl rfl)) (fun _ _ _ _ _ => pts_nil) (fun _ _ _ _ _ => (pe_call GII (hr.mono (by decide)) (by rfl) gII kII bII .nil pass0 (pa_cons (pv 2) pa_nil)))) pa_nil))))))), ?_⟩
      refine q_ret ⟨_, rfl, v, rfl, kn, fun H1 s1 => ⟨_, rfl, ?_⟩⟩
      rw [n]
      exact (q H1 s1).1 n
    | @lst a xs e km z =>
      refine ⟨_, (pss_one (ps_ret (pe_and (pe_call GIQ (hr.mono (by decide)) (by rfl) gIQ kIQ bIQ .nil pass0 (pa_cons (pv 0) pa_nil)) (pe_and (pe_cmpR op_eq (pe_callB call_len_seq (by rfl) B.len PySem.boot_len (pa_cons (pv 0) pa_nil)) (pe_op op_shl pe_int (pv 1)) (nomark _)) (pe_one (pe_callB (cr_all rfl) (by rfl) B.all (by decide +kernel) (pa_cons (pe_lc (own := [("amount", 2)]) (g := gName 2) (tt := tYes) rfl scAA.nd (pi_list (pv 0)) (blkOk_by (N := NAA) (sc := defScope sAA) (by decide +kernel)) (fun _ _ _ _ _ => pg_name (i := 2) scAA.nd rfl (Or.inl rfl)) (fun _ _ _ _ _ => pts_nil) (fun _ _ _ _ _ => (pe_call GII (hr.mono (by decide)) (by rfl) gII kII bII .nil pass0 (pa_cons (pv 2) pa_nil)))) pa_nil))))))), ?_⟩
      refine q_ret ⟨_, rfl, .ref a, rfl, .lst e, fun H1 s1 => ⟨true, rfl, ?_⟩⟩
      have e1 := s1 _ _ e
      refine ⟨_, rfl, a, xs, rfl, .inl (sl e1), .int k, rfl, 1, (k : Int), rfl, rfl, ⟨by omega, by omega, by decide⟩, rfl, _, rfl, ?_⟩
      dsimp only
      by_cases hn : xs.length = 2 ^ k
      · rw [decide_eq_true (show V.int (xs.length : Int) = V.int (1 * 2 ^ ((k : Nat) : Int).toNat) by rw [pw, hn])]
        refine ⟨.ref a, rfl, a, rfl, ⟨_, sl e1⟩, fun D nD => lc_list (K := K) (a := a) (xs := xs) (fun i H' => Same H1 H' ∧ H' D = some (.lst (((xs.take i).map isI).map V.bl))) ⟨same_upd nD, upd_same⟩ (fun i H' _ hP => sl (hP.1 _ _ e1)) (fun i x H' hx hP => ?_) (fun H' hP => ?_)⟩
        · obtain ⟨s', hD⟩ := hP
          refine ⟨rfl, _, rfl, x, rfl, ((km x (List.mem_of_getElem? hx)).same s1).same s', _, hD, ?_, fun b o z => ?_, ?_⟩
          · rw [List.length_map, List.length_map, List.length_take]
            exact small1000 (Nat.le_trans (Nat.min_le_right _ _) (by omega))
          · rw [upd_ne (ne_of_none z nD)]
            exact s' _ _ z
          · rw [upd_same, List.take_add_one, hx, List.map_append, List.map_append]
            rfl
        · obtain ⟨s', hD⟩ := hP
          rw [List.take_length] at hD
          refine ⟨D, xs.map isI, rfl, sl hD, ?_⟩
          have z := (q H' (s1.trans s')).2 xs ⟨a, rfl, .inl e⟩
          have er : amB k xs = xs.all isI := by
            unfold amB
            rw [decide_eq_true hn, Bool.true_and]
          have e2 : (xs.map isI).all id = xs.all isI := by
            rw [List.all_map]
            rfl
          rw [e2, ← er]
          exact z
      · rw [decide_eq_false (show ¬ V.int (xs.length : Int) = V.int (1 * 2 ^ ((k : Nat) : Int).toNat) from fun z => hn (by have z' := V.int.inj z; rw [pw] at z'; omega))]
        have er : amB k xs = false := by
          unfold amB
          rw [decide_eq_false hn, Bool.false_and]
        have z := (q H1 s1).2 xs ⟨a, rfl, .inl e⟩
        rw [er] at z
        exact z
    | @tup a xs e km z =>
      refine ⟨_, (pss_one (ps_ret (pe_and (pe_call GIQ (hr.mono (by decide)) (by rfl) gIQ kIQ bIQ .nil pass0 (pa_cons (pv 0) pa_nil)) (pe_and (pe_cmpR op_eq (pe_callB call_len_seq (by rfl) B.len PySem.boot_len (pa_cons (pv 0) pa_nil)) (pe_op op_shl pe_int (pv 1)) (nomark _)) (pe_one (pe_callB (cr_all rfl) (by rfl) B.all (by decide +kernel) (pa_cons (pe_lc (own := [("amount", 2)]) (g := gName 2) (tt := tYes) rfl scAA.nd (pi_tup (pv 0)) (blkOk_by (N := NAA) (sc := defScope sAA) (by decide +kernel)) (fun _ _ _ _ _ => pg_name (i := 2) scAA.nd rfl (Or.inl rfl)) (fun _ _ _ _ _ => pts_nil) (fun _ _ _ _ _ => (pe_call GII (hr.mono (by decide)) (by rfl) gII kII bII .nil pass0 (pa_cons (pv 2) pa_nil)))) pa_nil))))))), ?_⟩
      refine q_ret ⟨_, rfl, .ref a, rfl, .tup e, fun H1 s1 => ⟨true, rfl, ?_⟩⟩
      have e1 := s1 _ _ e
      refine ⟨_, rfl, a, xs, rfl, .inr (tl e1), .int k, rfl, 1, (k : Int), rfl, rfl, ⟨by omega, by omega, by decide⟩, rfl, _, rfl, ?_⟩
      dsimp only
      by_cases hn : xs.length = 2 ^ k
      · rw [decide_eq_true (show V.int (xs.length : Int) = V.int (1 * 2 ^ ((k : Nat) : Int).toNat) by rw [pw, hn])]
        refine ⟨.ref a, rfl, a, rfl, ⟨_, tl e1⟩, fun D nD => lc_tup (K := K) (a := a) (xs := xs) (fun i H' => Same H1 H' ∧ H' D = some (.lst (((xs.take i).map isI).map V.bl))) ⟨same_upd nD, upd_same⟩ (fun i H' _ hP => tl (hP.1 _ _ e1)) (fun i x H' hx hP => ?_) (fun H' hP => ?_)⟩
        · obtain ⟨s', hD⟩ := hP
          refine ⟨rfl, _, rfl, x, rfl, ((km x (List.mem_of_getElem? hx)).same s1).same s', _, hD, ?_, fun b o z => ?_, ?_⟩
          · rw [List.length_map, List.length_map, List.length_take]
            exact small1000 (Nat.le_trans (Nat.min_le_right _ _) (by omega))
          · rw [upd_ne (ne_of_none z nD)]
            exact s' _ _ z
          · rw [upd_same, List.take_add_one, hx, List.map_append, List.map_append]
            rfl
        · obtain ⟨s', hD⟩ := hP
          rw [List.take_length] at hD
          refine ⟨D, xs.map isI, rfl, sl hD, ?_⟩
          have z := (q H' (s1.trans s')).2 xs ⟨a, rfl, .inr e⟩
          have er : amB k xs = xs.all isI := by
            unfold amB
            rw [decide_eq_true hn, Bool.true_and]
          have e2 : (xs.map isI).all id = xs.all isI := by
            rw [List.all_map]
            rfl
          rw [e2, ← er]
          exact z
      · rw [decide_eq_false (show ¬ V.int (xs.length : Int) = V.int (1 * 2 ^ ((k : Nat) : Int).toNat) from fun z => hn (by have z' := V.int.inj z; rw [pw] at z'; omega))]
        have er : amB k xs = false := by
          unfold amB
          rw [decide_eq_false hn, Bool.false_and]
        have z := (q H1 s1).2 xs ⟨a, rfl, .inr e⟩
        rw [er] at z
        exact z
end
end CC

namespace CC
open PySem PySem.Spec PyProof.Rows L2 Ek
section
variable {P : Program} {w : World} {K : PySem.W.Frag} {mg : Str → Option Value} {base : Heap}
/-! ### the errors: what their __init__ leaves, to be raised -/
def spXf (K : PySem.W.Frag) (f : Str) : Sp := fun vs H Q _ => ∃ (a C : Addr) (y : V), vs = [.ref a, y] ∧ OexC K C ∧ PySem.W.findIn K (.ref C) f = some none ∧ H a = some (exo a C none) ∧
  ∀ d H', (∀ b o, b ≠ a → H b = some o → H' b = some o) → H d = none → d ≠ a → H' a = some (exo a C (some d)) → H' d = some (exd d [(f, y)]) → Q .non H'
theorem ok_XN {f : Addr} {fd : FuncData} (F : Fun K "__init__" "InvalidNumber.__init__" sXN f fd) : FnOk P w K mg base CX0 1 f fd ["self", "value"] (spXf K "value") := by
  refine F.ok scXN (fun vs H Q E h => ?_) (fun cdv A outer s H vs Q E hr h => ?_)
  · obtain ⟨a, C, y, rfl, _⟩ := h
    rfl
  · obtain ⟨a, C, y, rfl, T, hno, ha, q⟩ := h
    exact ⟨_, pss_one (ps_ost (pv 0) (pv 1)), y, rfl, .ref a, rfl, a, C, rfl, T, hno, .inl ⟨ha, fun d nd ne => q d _ (x1_end nd ne).1 nd ne upd_same (by rw [upd_ne ne, upd_same])⟩⟩
theorem ok_XU {f : Addr} {fd : FuncData} (F : Fun K "__init__" "Undefined.__init__" sXU f fd) : FnOk P w K mg base CX0 1 f fd ["self", "what"] (spXf K "what") := by
  refine F.ok scXU (fun vs H Q E h => ?_) (fun cdv A outer s H vs Q E hr h => ?_)
  · obtain ⟨a, C, y, rfl, _⟩ := h
    rfl
  · obtain ⟨a, C, y, rfl, T, hno, ha, q⟩ := h
    exact ⟨_, pss_one (ps_ost (pv 0) (pv 1)), y, rfl, .ref a, rfl, a, C, rfl, T, hno, .inl ⟨ha, fun d nd ne => q d _ (x1_end nd ne).1 nd ne upd_same (by rw [upd_ne ne, upd_same])⟩⟩
/-- a class of errors with the one field f -/
structure Xc (K : PySem.W.Frag) (mg : Str → Option Value) (x f : Str) (C : Addr) : Prop where
  g : mg x = some (.ref C)
  o : OexC K C
  xf : XfC K C
  xe : ExcC K C
  no : PySem.W.findIn K (.ref C) f = some none
/-- X(y) as it is raised: what is known at the end -/
theorem raise_end {C : Addr} {y : V} {f : Str} {H1 : Hp} {Q : XK} (T : OexC K C) (no : PySem.W.findIn K (.ref C) f = some none) (q : ∀ d H', Same H1 H' → H1 d = none → H' d = some (.xd [(f, y)]) → Q (.ref C) (some d) H') :
    ∀ a, H1 a = none → spXf K f (.ref a :: ([y] ++ [])) (upd H1 a (exo a C none)) (fun v H2 => v = .non ∧ ∃ (d : Addr) (fs : List (Str × V)), H2 a = some (exo a C (some d)) ∧ H2 d = some (exd d fs) ∧ H1 d = none ∧ Q (.ref C) (some d) (upd (del H2 a) d (.xd fs))) (fun _ _ _ => False) := by
  intro a na
  refine ⟨a, C, y, rfl, T, no, upd_same, fun d H2 k nd ne ha hd => ⟨rfl, d, _, ha, hd, ?_, q d _ (fun b o e => ?_) ?_ upd_same⟩⟩
  · rw [upd_ne ne] at nd
    exact nd
  · have nb : b ≠ a := ne_of_none e na
    have nd1 : b ≠ d := fun z => by
      rw [z] at e
      rw [upd_ne ne, e] at nd
      cases nd
    rw [upd_ne nd1, del_ne nb]
    exact k b o nb (by rw [upd_ne nb]; exact e)
  · rw [upd_ne ne] at nd
    exact nd
theorem sz_am : ¬ (("size" : Str) = "amounts") := by decide +kernel
theorem am_sz : ¬ (("amounts" : Str) = "size") := by decide +kernel
def pf (k : Nat) (t : Addr) : List (Str × V) := [("size", .int k), ("amounts", .ref t)]
theorem pf_put (k : Nat) (t : Addr) : putF "amounts" (.ref t) (putF "size" (.int k) []) = pf k t := by
  show (if ("size" : Str) = "amounts" then [(("size" : Str), V.ref t)] else (("size" : Str), V.int k) :: putF "amounts" (V.ref t) []) = _
  rw [if_neg sz_am]
  rfl
theorem pf_size (k : Nat) (t : Addr) : (pf k t).lookup ("size" : Str) = some (.int k) := by simp [pf, List.lookup]
theorem pf_am (k : Nat) (t : Addr) : (pf k t).lookup ("amounts" : Str) = some (.ref t) := by
  have e : (("amounts" : Str) == "size") = false := by decide +kernel
  simp [pf, List.lookup, e]
/-- a price at p: its class C, its size, its amounts -/
def PrAt (C : Addr) (H : Hp) (p : Addr) (k : Nat) (ms : List Int) : Prop := ∃ dx t, H p = some (.ins C dx (pf k t)) ∧ H t = some (.tup (ms.map V.int)) ∧ 1 ≤ k ∧ k ≤ 3 ∧ ms.length = 2 ^ k
theorem PrAt.same {C : Addr} {H H' : Hp} {p : Addr} {k : Nat} {ms : List Int} (s : Same H H') (x : PrAt C H p k ms) : PrAt C H' p k ms := by
  obtain ⟨dx, t, h1, h2, h3⟩ := x
  exact ⟨dx, t, s _ _ h1, s _ _ h2, h3⟩
structure Pc (K : PySem.W.Frag) (mg : Str → Option Value) (C : Addr) : Prop where
  g : mg "Price" = some (.ref C)
  cl : Cls K C
  nS : NoAttr K C "size"
  nA : NoAttr K C "amounts"
/-- size and amounts are those of a price -/
def Good (H : Hp) (sz am : V) (k : Nat) (ms : List Int) : Prop := sz = .int k ∧ 1 ≤ k ∧ k ≤ 3 ∧ ms.length = 2 ^ k ∧ Mem H am (ms.map V.int)
/-- the same of what is good, nothing raised -/
def spPI0 (C : Addr) : Sp := fun vs H Q _ => ∃ (p dx : Addr) (sz am : V) (k : Nat) (ms : List Int), vs = [.ref p, sz, am] ∧ H p = some (.ins C dx []) ∧ Am H am ∧ Good H sz am k ms ∧
  ∀ H', (∀ b o, b ≠ p → H b = some o → H' b = some o) → PrAt C H' p k ms → Q .non H'
theorem good_am {H : Hp} {am : V} {k : Nat} {ms : List Int} (m : Mem H am (ms.map V.int)) (hl : ms.length = 2 ^ k) : amB k (ms.map V.int) = true := by
  unfold amB
  rw [decide_eq_true (by rw [List.length_map]; exact hl), Bool.true_and, List.all_map]
  exact List.all_eq_true.mpr fun x _ => rfl
theorem mem_inj {H : Hp} {v : V} {xs ys : List V} (a : Mem H v xs) (b : Mem H v ys) : xs = ys := by
  obtain ⟨p, rfl, h⟩ := a
  obtain ⟨q, e, h'⟩ := b
  cases e
  rcases h with h | h <;> rcases h' with h' | h' <;> rw [h] at h' <;> cases h' <;> rfl
/-- the end of a good price's making -/
theorem init_end {C : Addr} {H H1 : Hp} {D : Ends} {p dx : Addr} {am : V} {k : Nat} {ms : List Int} {Q : VK} (T : Pc K mg C) (s1 : Same H H1) (hp : H p = some (.ins C dx [])) (g : Good H (.int k) am k ms)
    (hD : ∀ σ H', Q .non H' → D.nx σ H') (q : ∀ H', (∀ b o, b ≠ p → H b = some o → H' b = some o) → PrAt C H' p k ms → Q .non H') :
    tSeq (sFld K (tVar 0) (tVar 1) "size") (sFld K (tVar 0) (tCB (fun xs H Q => ∃ p ys, xs = [.ref p] ∧ ((SqL K H p ys ∧ ∀ l, H l = none → Q (.ref l) (upd H l (.tup ys))) ∨ (SqT K H p ys ∧ Q (.ref p) H))) (tCons (tVar 2) tNil)) "amounts") D [some (.ref p), some (.int k), some am] H1 := by
  obtain ⟨_, k1, k3, hl, a, rfl, hm⟩ := g
  have hp1 := s1 _ _ hp
  refine q_seq ⟨_, rfl, _, rfl, p, C, dx, [], rfl, hp1, T.cl, T.nS, by show 0 < 1000; decide, ?_⟩
  dsimp only
  have na : ∀ {xs : List V} {t : Addr}, H t = some (.lst xs) ∨ H t = some (.tup xs) → t ≠ p := fun {xs t} h z => by
    subst z
    rcases h with h | h <;> rw [hp] at h <;> cases h
  have hm1 : H1 a = some (.lst (ms.map V.int)) ∨ H1 a = some (.tup (ms.map V.int)) := hm.imp (s1 _ _) (s1 _ _)
  have nap := na hm
  have e2 : ∀ {o : HO}, (upd H1 p o) a = H1 a := fun {o} => upd_ne nap
  have fin : ∀ (H4 : Hp) (t : Addr), (∀ b o, b ≠ p → H1 b = some o → H4 b = some o) → t ≠ p → H4 t = some (.tup (ms.map V.int)) → H4 p = some (.ins C dx (putF "size" (.int k) [])) →
      ∃ b C' dx' fs, V.ref p = .ref b ∧ H4 b = some (.ins C' dx' fs) ∧ Cls K C' ∧ NoAttr K C' "amounts" ∧ fs.length < 1000 ∧ D.nx [some (.ref p), some (.int k), some (.ref a)] (upd H4 b (.ins C' dx' (putF "amounts" (.ref t) fs))) := fun H4 t kk nt ht h4 => by
    refine ⟨p, C, dx, _, rfl, h4, T.cl, T.nA, by show 1 < 1000; decide, hD _ _ (q _ (fun b o nb e => ?_) ⟨dx, t, ?_, ?_, k1, k3, hl⟩)⟩
    · rw [upd_ne nb]
      exact kk b o nb (s1 _ _ e)
    · rw [upd_same, pf_put]
    · rw [upd_ne nt]
      exact ht
  rcases hm1 with h | h
  · refine ⟨.ref a, rfl, a, _, rfl, .inl ⟨sl (e2.trans h), fun l nl => ⟨.ref p, rfl, ?_⟩⟩⟩
    have nlp : l ≠ p := fun z => by
      rw [z, upd_same] at nl
      cases nl
    refine fin _ l (fun b o nb e => ?_) nlp upd_same ?_
    · have e' : (upd H1 p (.ins C dx (putF "size" (.int k) []))) b = some o := by
        rw [upd_ne nb]
        exact e
      exact same_upd nl _ _ e'
    · rw [upd_ne nlp.symm, upd_same]
  · refine ⟨.ref a, rfl, a, _, rfl, .inr ⟨tl (e2.trans h), .ref p, rfl, fin _ a (fun b o nb e => by rw [upd_ne nb]; exact e) nap (e2.trans h) upd_same⟩⟩
theorem ok_PI0 {f fIS fAA C : Addr} {fd fdIS fdAA : FuncData} (F : Fun K "__init__" "Price.__init__" sPI f fd) (T : Pc K mg C) (B : Bt mg) (GIS : FnOk P w K mg base CX0 2 fIS fdIS ["value"] spIS) (kIS : PySem.W.keepIn K (.ref fIS) = true) (bIS : Binds K fdIS ["value"] []) (gIS : mg "is_size" = some (.ref fIS)) (GAA : FnOk P w K mg base CX0 2 fAA fdAA ["value", "size"] spAA) (kAA : PySem.W.keepIn K (.ref fAA) = true) (bAA : Binds K fdAA ["value", "size"] []) (gAA : mg "_are_amounts" = some (.ref fAA)) : FnOk P w K mg base CX0 3 f fd ["self", "size", "amounts"] (spPI0 C) := by
  refine F.ok scPI (fun vs H Q E h => ?_) (fun cdv A outer s H vs Q E hr h => ?_)
  · obtain ⟨p, dx, sz, am, k, ms, rfl, _⟩ := h
    rfl
  · obtain ⟨p, dx, sz, am, k, ms, rfl, hp, hA, g, q⟩ := h
    refine ⟨_, (pss_cons (ps_if (PW.pt (pw_or (pt_not (pt_val (pe_call GIS (hr.mono (by decide)) (by rfl) gIS kIS bIS .nil pass0 (pa_cons (pv 1) pa_nil)))) (pw_or1 (pt_not (pt_val (pe_call GAA (hr.mono (by decide)) (by rfl) gAA kAA bAA .nil pass0 (pa_cons (pv 2) (pa_cons (pv 1) pa_nil))))))))
      (pss_one ps_never) pss_nil)
      (pss_cons (ps_fld (pv 0) (pv 1) rfl)
      (pss_one (ps_fld (pv 0) (pe_callTy call_tuple_of (by rfl) B.tuple (by decide +kernel) (pa_cons (pv 2) pa_nil)) rfl)))), ?_⟩
    obtain ⟨rfl, k1, k3, hl, m⟩ := id g
    refine q_seq (q_if ?_)
    have ez : isZ (.int k) = true := by
      show (decide (1 ≤ (k : Int)) && decide ((k : Int) ≤ 3)) = true
      rw [decide_eq_true (by omega), decide_eq_true (by omega)]
      rfl
    refine ⟨_, rfl, .int k, rfl, .int _, isZ (.int k), rfl, ?_⟩
    rw [ez]
    refine ⟨am, rfl, .int k, rfl, am, k, rfl, k3, hA, fun H1 s1 => ⟨?_, ?_⟩⟩
    · intro z
      obtain ⟨a, rfl, _⟩ := m
      cases z
    · intro xs mx
      obtain rfl := mem_inj mx m
      rw [good_am m hl]
      refine ⟨true, rfl, ?_⟩
      dsimp only
      rw [if_neg (show ¬ (!true) = true by decide)]
      refine q_next ?_
      exact init_end T s1 hp g (fun _ _ z => z) q
end
end CC

namespace CC
open PySem PySem.Spec PyProof.Rows L2 Ek
section
variable {P : Program} {w : World} {K : PySem.W.Frag} {mg : Str → Option Value} {base : Heap}
def Bits (bs : List Int) : Prop := ∀ b ∈ bs, b = 0 ∨ b = 1
theorem num_lt : ∀ {bs : List Int}, Bits bs → bs.length ≤ 3 → 0 ≤ num bs ∧ num bs < 2 ^ bs.length
  | [], _, _ => by decide
  | [a], h, _ => by
    have ha := h a (by simp)
    show 0 ≤ 2 * 0 + a ∧ 2 * 0 + a < 2
    omega
  | [a, b], h, _ => by
    have ha := h a (by simp)
    have hb := h b (by simp)
    show 0 ≤ 2 * (2 * 0 + a) + b ∧ 2 * (2 * 0 + a) + b < 4
    omega
  | [a, b, c], h, _ => by
    have ha := h a (by simp)
    have hb := h b (by simp)
    have hc := h c (by simp)
    show 0 ≤ 2 * (2 * (2 * 0 + a) + b) + c ∧ 2 * (2 * (2 * 0 + a) + b) + c < 8
    omega
  | _ :: _ :: _ :: _ :: _, _, h => by simp at h
def costL (ms bs : List Int) : Int := ms.getD (num bs).toNat 0
theorem cost_at {ms bs : List Int} {k : Nat} (hb : Bits bs) (hk : bs.length = k) (k3 : k ≤ 3) (hl : ms.length = 2 ^ k) : (num bs) = (((num bs).toNat : Nat) : Int) ∧ (ms.map V.int)[(num bs).toNat]? = some (.int (costL ms bs)) := by
  obtain ⟨h0, h1⟩ := num_lt hb (by omega)
  refine ⟨by omega, ?_⟩
  have hi : (num bs).toNat < ms.length := by
    rw [hl, ← hk]
    have e : (2 : Int) ^ bs.length = ((2 ^ bs.length : Nat) : Int) := by simp
    rw [e] at h1
    omega
  rw [List.getElem?_map, List.getElem?_eq_getElem hi]
  unfold costL
  rw [List.getD_eq_getElem?_getD, List.getElem?_eq_getElem hi]
  rfl
theorem rowB_bits {k : Nat} : ∀ {xs : List V}, xs.all (isB 2) = true → ∃ bs : List Int, xs = bs.map V.int ∧ Bits bs
  | [], _ => ⟨[], rfl, fun _ h => by cases h⟩
  | x :: xs, h => by
    rw [List.all_cons, Bool.and_eq_true] at h
    obtain ⟨bs, rfl, hb⟩ := rowB_bits (k := k) h.2
    cases x with
    | int i =>
      have z : (decide (0 ≤ i) && decide (i < 2)) = true := h.1
      rw [Bool.and_eq_true, decide_eq_true_iff, decide_eq_true_iff] at z
      refine ⟨i :: bs, rfl, fun b m => ?_⟩
      rcases List.mem_cons.mp m with rfl | m
      · omega
      · exact hb b m
    | _ => exact absurd h.1 (by simp [isB])
theorem bits_rowB {k : Nat} {bs : List Int} (hb : Bits bs) (hk : bs.length = k) : rowB k (bs.map V.int) = true := by
  unfold rowB
  rw [decide_eq_true (by rw [List.length_map, hk]), Bool.true_and, List.all_map]
  refine List.all_eq_true.mpr fun b m => ?_
  show (decide (0 ≤ b) && decide (b < 2)) = true
  rcases hb b m with rfl | rfl <;> rfl
theorem kn_ints {H : Hp} {bs : List Int} : ∀ x ∈ bs.map V.int, Kn H x := fun x m => by
  obtain ⟨b, _, rfl⟩ := List.mem_map.mp m
  exact .int b
def spPC0 (C : Addr) : Sp := fun vs H Q _ => ∃ (p a : Addr) (k : Nat) (ms bs : List Int), vs = [.ref p, .ref a] ∧ PrAt C H p k ms ∧ H a = some (.tup (bs.map V.int)) ∧ Bits bs ∧ bs.length = k ∧ ∀ H', Same H H' → Q (.int (costL ms bs)) H'
theorem ok_PC0 {f fIR fRN C : Addr} {fd fdIR fdRN : FuncData} (F : Fun K "cost" "Price.cost" sPC f fd) (T : Pc K mg C) (GIR : FnOk P w K mg base CX0 4 fIR fdIR ["value", "size"] spIR) (kIR : PySem.W.keepIn K (.ref fIR) = true) (bIR : Binds K fdIR ["value", "size"] []) (gIR : mg "is_row" = some (.ref fIR)) (GRN : FnOk P w K mg base CX0 1 fRN fdRN ["row"] (spRN K)) (kRN : PySem.W.keepIn K (.ref fRN) = true) (bRN : Binds K fdRN ["row"] []) (gRN : mg "row_number" = some (.ref fRN)) : FnOk P w K mg base CX0 5 f fd ["self", "row"] (spPC0 C) := by
  refine F.ok scPC (fun vs H Q E h => ?_) (fun cdv A outer s H vs Q E hr h => ?_)
  · obtain ⟨p, a, k, ms, bs, rfl, _⟩ := h
    rfl
  · obtain ⟨p, a, k, ms, bs, rfl, pr, ha, hb, hk, q⟩ := h
    obtain ⟨dx, t, hp, ht, k1, k3, hl⟩ := id pr
    refine ⟨_, (pss_cons (ps_if (pt_not (pt_val (pe_call GIR (hr.mono (by decide)) (by rfl) gIR kIR bIR .nil pass0 (pa_cons (pv 1) (pa_cons (pe_fld (pv 0) rfl) pa_nil)))))
      (pss_one ps_never) pss_nil)
      (pss_one (ps_ret (pe_ix ix_tup (pe_fld (pv 0) rfl) (pe_call GRN (hr.mono (by decide)) (by rfl) gRN kRN bRN .nil pass0 (pa_cons (pv 1) pa_nil)) (fun _ _ => rfl))))), ?_⟩
    refine q_seq (q_if ?_)
    refine ⟨.ref a, rfl, .ref p, rfl, p, C, dx, _, .int k, rfl, hp, T.cl, T.nS, pf_size _ _, .ref a, k, rfl, .inr ⟨a, _, rfl, ha, kn_ints, by rw [List.length_map]; omega, fun H1 s1 => ?_⟩⟩
    rw [bits_rowB hb hk]
    refine ⟨true, rfl, ?_⟩
    dsimp only
    rw [if_neg (show ¬ (!true) = true by decide)]
    refine q_next ?_
    dsimp only
    obtain ⟨e1, e2⟩ := cost_at hb hk k3 hl
    refine q_ret ⟨.ref p, rfl, p, C, dx, _, .ref t, rfl, s1 _ _ hp, T.cl, T.nA, pf_am _ _, .ref a, rfl, a, bs, rfl, tl (s1 _ _ ha), t, _, _, _, rfl, rfl, tl (s1 _ _ ht), at_z e1 e2, q H1 s1⟩
theorem bits_rows : ∀ n, ∀ r ∈ rowsOf n, Bits r
  | 0, r, h => by
    obtain rfl := List.mem_singleton.mp h
    exact fun b m => by cases m
  | n + 1, r, h => by
    obtain ⟨x, hx, hr⟩ := List.mem_flatMap.mp h
    have z := bits_rows n x hx
    simp only [List.mem_cons, List.not_mem_nil, or_false] at hr
    rcases hr with rfl | rfl
    · intro b m
      rcases List.mem_append.mp m with m | m
      · exact z b m
      · exact .inl (List.mem_singleton.mp m)
    · intro b m
      rcases List.mem_append.mp m with m | m
      · exact z b m
      · exact .inr (List.mem_singleton.mp m)
theorem pf_no {k : Nat} {t : Addr} {m : Str} (h1 : (m == "size") = false) (h2 : (m == "amounts") = false) : (pf k t).lookup m = none := by simp [pf, List.lookup, h1, h2]
theorem dp_ints {K : PySem.W.Frag} {H : Hp} : ∀ {xs : List Int}, DpAll K H (xs.map V.int) (xs.map .int)
  | [] => .nil
  | x :: xs => .cons (.int x) dp_ints
structure Pe (K : PySem.W.Frag) (C : Addr) : Prop where
  ha : PySem.W.findIn K (.ref C) "__class__" = some (some (.builtin "object.__class__"))
  hn : PySem.W.specialIn K (.builtin "object.__class__") "__get__" = some (some (.builtin "getset_descriptor.__get__"))
  ht : PySem.W.takesIn K (.builtin "object.__class__") = some true
  hm : PySem.W.mroIn K C (.type "object") = some true
  kt : PySem.W.kitOne K (.type "tuple") (.ref C) = some false
theorem kit_self {K : PySem.W.Frag} {C : Addr} : PySem.W.kitOne K (.ref C) (.ref C) = some true := by
  unfold PySem.W.kitOne
  rw [if_pos (by simp)]
theorem ty_pr {C : Addr} {H : Hp} {p : Addr} {k : Nat} {ms : List Int} (T : Pc K mg C) (e : Pe K C) (x : PrAt C H p k ms) : TyOf K H (.ref p) (.ref C) := by
  obtain ⟨dx, t, hp, _⟩ := x
  exact .ins hp T.cl e.ha e.hn e.ht e.hm
end
end CC

namespace CC
open PySem PySem.Spec PyProof.Rows L2 Ek
section
variable {P : Program} {w : World} {K : PySem.W.Frag} {mg : Str → Option Value} {base : Heap}
/-- amounts that the hand is no part of -/
def AmS (h : Addr) (H : Hp) (v : V) : Prop := ∀ H2, Kp h H H2 → Am H2 v
theorem mem_tup {H : Hp} {a : Addr} {xs ys : List V} (e : H a = some (.tup xs)) (m : Mem H (.ref a) ys) : ys = xs := by
  obtain ⟨b, eb, h⟩ := m
  cases eb
  rcases h with h | h <;> rw [e] at h <;> cases h <;> rfl
theorem mem_lst {H : Hp} {a : Addr} {xs ys : List V} (e : H a = some (.lst xs)) (m : Mem H (.ref a) ys) : ys = xs := by
  obtain ⟨b, eb, h⟩ := m
  cases eb
  rcases h with h | h <;> rw [e] at h <;> cases h <;> rfl
/-- the drawn numbers: a new list of many numbers from 0 on -/
def spDraws (K : PySem.W.Frag) : Sp := fun vs H Q _ => ∃ (a : Addr) (ns : List Int) (m : Nat), vs = [.ref a, .int m] ∧ SqL K H a (ns.map V.int) ∧ ns.length ≤ 1000 ∧ m ≤ 1000 ∧
  ∀ H' p (ds : List Int), Same H H' → H p = none → H' p = some (.lst (ds.map V.int)) → ds.length = m → (∀ d ∈ ds, 0 ≤ d) → Q (.ref p) H'
theorem ok_draws {f : Addr} {fd : FuncData} (F : Fun K "_law_draws" "_law_draws" sDraws f fd) (B : Bt mg) : FnOk P w K mg base CX0 1 f fd ["script", "many"] (spDraws K) := by
  refine F.ok scDraws (fun vs H Q E h => ?_) (fun cdv A outer s H vs Q E hr h => ?_)
  · obtain ⟨a, ns, m, rfl, _⟩ := h
    rfl
  · obtain ⟨a, ns, m, rfl, hS, hlen, hm, q⟩ := h
    refine ⟨_, pss_cons (ps_setLc (i := 3) (own := [("cell", 2)]) (g := gName 2) (tt := tYes) rfl scDraws.nd rfl rfl (sw_true rfl rfl rfl (by decide +kernel)) (pi_list (pv 0)) (blkOk_by (N := ["script", "many", "cell", "rests", "draws", "k", "at", "mixed"]) (sc := defScope sDraws) (by decide +kernel))
        (fun _ _ _ _ _ => pg_name (i := 2) scDraws.nd rfl (Or.inl rfl)) (fun _ _ _ _ _ => pts_nil) (fun _ _ _ _ _ => pe_callB call_abs (by rfl) B.abs (by decide +kernel) (pa_cons (pe_callTy call_int1 (by rfl) B.int (by decide +kernel) (pa_cons (pv 2) pa_nil)) pa_nil)))
      (pss_cons (ps_set (i := 4) scDraws.nd rfl (.inl rfl) (pe_lst pa_nil))
      (pss_cons (ps_for PassesOwn.never rfl (pi_range1 rfl B.range (pa_cons (pv 1) pa_nil)) (pg_name (i := 5) scDraws.nd rfl (.inl rfl))
        (pss_cons (ps_set (i := 2) scDraws.nd rfl (.inl rfl) (pv 5))
        (pss_cons (ps_if (pt_cmpR op_gt (pe_callB call_len_seq (by rfl) B.len PySem.boot_len (pa_cons (pv 0) pa_nil)) pe_int (nomark _))
          (pss_cons (ps_set (i := 6) scDraws.nd rfl (.inl rfl) (pe_op op_mod (pv 5) (pe_callB call_len_seq (by rfl) B.len PySem.boot_len (pa_cons (pv 0) pa_nil))))
          (pss_cons (ps_set (i := 2) scDraws.nd rfl (.inl rfl) (pe_callTy call_int1 (by rfl) B.int (by decide +kernel) (pa_cons (pe_ix ix_list (pv 0) (pv 6) (fun _ _ => rfl)) pa_nil)))
          (pss_one (ps_if (PW.pt (pw_and (pt_cmpR op_ge (pv 2) (pe_op op_pow pe_int pe_int) (nomark _)) (pw_and1 (pt_cmpR op_gt (pe_ix ix_list (pv 3) (pv 6) (fun _ _ => rfl)) pe_int (nomark _)))))
            (pss_cons (ps_expr (pe_bm PySem.F.plainAttrs_list PySem.F.slot_list_append PySem.F.type_list_append mt_append (pv 4) (pa_cons (pe_op op_mod (pe_callTy call_int1 (by rfl) B.int (by decide +kernel) (pa_cons (pe_ix ix_list (pv 3) (pv 6) (fun _ _ => rfl)) pa_nil)) pe_int) pa_nil)))
            (pss_cons (ps_asg (pe_op op_fdiv (pe_callTy call_int1 (by rfl) B.int (by decide +kernel) (pa_cons (pe_ix ix_list (pv 3) (pv 6) (fun _ _ => rfl)) pa_nil)) pe_int) (pg_sub (pv 3) (pv 6) set_list))
            (pss_one ps_continue))) pss_nil)))) pss_nil)
        (pss_cons (ps_set (i := 7) scDraws.nd rfl (.inl rfl) (pe_op op_mod (pe_callTy call_int1 (by rfl) B.int (by decide +kernel) (pa_cons (pe_op op_add (pe_op op_add (pe_op op_mul (pv 2) pe_int) (pe_op op_mul (pv 5) pe_int)) pe_int) pa_nil)) pe_int))
        (pss_cons (ps_set (i := 7) scDraws.nd rfl (.inl rfl) (pe_op op_mod (pe_callTy call_int1 (by rfl) B.int (by decide +kernel) (pa_cons (pe_op op_add (pe_op op_fdiv (pe_op op_mul (pv 7) (pv 7)) pe_int) (pv 7)) pa_nil)) pe_int))
        (pss_one (ps_expr (pe_bm PySem.F.plainAttrs_list PySem.F.slot_list_append PySem.F.type_list_append mt_append (pv 4) (pa_cons (pe_op op_mod (pe_callTy call_int1 (by rfl) B.int (by decide +kernel) (pa_cons (pe_op op_add (pe_op op_fdiv (pe_op op_mul (pv 7) (pv 7)) pe_int) (pe_op op_mul (pv 5) pe_int)) pa_nil)) pe_int) pa_nil)))))))))
      (pss_one (ps_ret (pv 4))))), ?_⟩
    -- rests = [abs(int(cell)) for cell in script]
    refine ⟨.ref a, rfl, a, rfl, ⟨_, hS⟩, fun D nD => lc_list (K := K) (a := a) (xs := ns.map V.int) (fun i H' => Same H H' ∧ ∃ rs : List Int, H' D = some (.lst (rs.map V.int)) ∧ rs.length = i)
      ⟨same_upd nD, [], upd_same, rfl⟩ (fun i H' _ hP => hP.1.seq hS) (fun i x H' hx hP => ?_) (fun H' hP => ?_)⟩
    · obtain ⟨hs, rs, hD, hl⟩ := hP
      have hi : i < ns.length := by
        have z := (List.getElem?_eq_some_iff.mp hx).1
        rw [List.length_map] at z
        exact z
      obtain ⟨n, rfl⟩ : ∃ n, x = V.int n := by
        rw [List.getElem?_map] at hx
        cases e : ns[i]? with
        | none => rw [e] at hx; cases hx
        | some n => rw [e] at hx; exact ⟨n, (Option.some.inj hx).symm⟩
      refine ⟨rfl, ?_⟩
      refine ⟨.int n, rfl, .inl ⟨n, rfl, n, rfl, _, hD, ?_, ?_, rs ++ [if n < 0 then -n else n], ?_, ?_⟩⟩
      · rw [List.length_map]
        exact small1000 (by omega)
      · intro b o e
        rw [upd_ne (ne_of_none e nD)]
        exact hs b o e
      · rw [upd_same, List.map_append]
        rfl
      · rw [List.length_append, hl]
        rfl
    · obtain ⟨hs, rs, hD, hl⟩ := hP
      have hl' : rs.length = ns.length := by
        rw [hl, List.length_map]
      -- draws = []
      refine ⟨Nat.zero_le _, fun L nL => ?_⟩
      have nLD : L ≠ D := fun e => by rw [e, hD] at nL; cases nL
      have nL0 : H L = none := hs.free nL
      refine ⟨_, rfl, (m : Int), rfl, by omega, by omega, for_range (lo := 0) (n := m) (fun i σ H' => ∃ c k t x : Option V, σ = [some (.ref a), some (.int m), c, some (.ref D), some (.ref L), k, t, x] ∧ Same H H' ∧
          ∃ rs ds : List Int, H' D = some (.lst (rs.map V.int)) ∧ rs.length = ns.length ∧ H' L = some (.lst (ds.map V.int)) ∧ ds.length = i ∧ ∀ d ∈ ds, 0 ≤ d)
        ⟨none, none, none, none, rfl, ?_, rs, [], ?_, hl', ?_, rfl, ?_⟩ (fun i σ H1 hi hP => ?_) (fun σ H1 hP => ?_)⟩
      · intro b o e
        rw [upd_ne (ne_of_none e nL0)]
        exact hs b o e
      · rw [upd_ne nLD.symm]
        exact hD
      · exact upd_same
      · intro d hd
        cases hd
      · obtain ⟨c, k, t, x, rfl, hs1, rs, ds, hD1, hr1, hL1, hd1, h0⟩ := hP
        have hA1 : SqL K H1 a (ns.map V.int) := hs1.seq hS
        have hlt : ds.length < sizeLine := small1000 (by omega)
        have mon : ∀ (z : Int) (x' t' c' : Option V) (H2 : Hp) (r2 : List Int), 0 ≤ z → Same H H2 → H2 D = some (.lst (r2.map V.int)) → r2.length = ns.length → H2 L = some (.lst ((ds ++ [z]).map V.int)) →
            ∃ c k t x : Option V, [some (V.ref a), some (V.int m), c', some (V.ref D), some (V.ref L), some (V.int (0 + (i : Int))), t', x'] = [some (V.ref a), some (V.int m), c, some (V.ref D), some (V.ref L), k, t, x] ∧ Same H H2 ∧
              ∃ rs ds : List Int, H2 D = some (.lst (rs.map V.int)) ∧ rs.length = ns.length ∧ H2 L = some (.lst (ds.map V.int)) ∧ ds.length = i + 1 ∧ ∀ d ∈ ds, 0 ≤ d := fun z x' t' c' H2 r2 hz h1 h2 h3 h4 => by
          refine ⟨c', _, t', x', rfl, h1, r2, ds ++ [z], h2, h3, h4, by simp [hd1], fun d hd => ?_⟩
          rcases List.mem_append.mp hd with q | q
          · exact h0 d q
          · rw [List.mem_singleton.mp q]; exact hz
        refine ⟨_, rfl, .ref a, rfl, a, _, rfl, .inl hA1, _, _, rfl, rfl, _, rfl, ?_⟩
        refine ite2 (fun e => ?_) (fun e => ?_)
        · have hn : 0 < ns.length := by
            have z := of_decide_eq_true e
            rw [List.length_map] at z
            omega
          have hmod : 0 ≤ (0 + (i : Int)) % ((ns.map V.int).length : Int) ∧ (0 + (i : Int)) % ((ns.map V.int).length : Int) < (ns.length : Int) := by
            rw [List.length_map]
            exact ⟨Int.emod_nonneg _ (by omega), Int.emod_lt_of_pos _ (by omega)⟩
          obtain ⟨j, hj, ej⟩ : ∃ j : Nat, j < ns.length ∧ (0 + (i : Int)) % ((ns.map V.int).length : Int) = (j : Int) := ⟨((0 + (i : Int)) % ((ns.map V.int).length : Int)).toNat, by omega, by omega⟩
          have g1 : (ns.map V.int)[j]? = some (.int ns[j]) := by
            rw [List.getElem?_map, List.getElem?_eq_getElem hj]
            rfl
          have hj2 : j < rs.length := by omega
          have g2 : (rs.map V.int)[j]? = some (.int rs[j]) := by
            rw [List.getElem?_map, List.getElem?_eq_getElem hj2]
            rfl
          refine ⟨.int (0 + (i : Int)), rfl, .ref a, rfl, a, _, rfl, .inl hA1, _, _, rfl, rfl, (by rw [List.length_map]; omega), ?_⟩
          refine ⟨.ref a, rfl, .int _, rfl, a, _, _, _, rfl, rfl, hA1, at_z ej g1, .inl ⟨_, rfl, ?_⟩⟩
          refine ⟨_, rfl, _, _, rfl, rfl, (by refine ⟨by decide, by decide, by decide⟩), _, _, rfl, rfl, _, rfl, ?_⟩
          by_cases e1 : (10 : Int) ^ (18 : Int).toNat ≤ ns[j]
          · rw [decide_eq_true e1]
            refine ⟨.ref D, rfl, .int _, rfl, D, _, _, _, rfl, rfl, .inl (.inl hD1), at_z ej g2, _, _, rfl, rfl, _, rfl, ?_⟩
            refine ite2 (fun e2 => ?_) (fun e2 => ?_)
            · refine ⟨.ref L, rfl, .inl ⟨rfl, _, .inl (.inl hL1)⟩, .ref D, rfl, .int _, rfl, D, _, _, _, rfl, rfl, .inl (.inl hD1), at_z ej g2, .inl ⟨_, rfl, _, _, rfl, rfl, (by show (0 : Int) < _; decide), L, _, _, rfl, rfl, hL1, (by rw [List.length_map]; exact hlt), ?_⟩⟩
              have hD2 : (upd H1 L (.lst (ds.map V.int ++ [.int (rs[j] % 1000003)]))) D = some (.lst (rs.map V.int)) := by
                rw [upd_ne nLD.symm]
                exact hD1
              refine ⟨.ref D, rfl, .int _, rfl, D, _, _, _, rfl, rfl, .inl (.inl hD2), at_z ej g2, .inl ⟨_, rfl, _, _, rfl, rfl, ⟨by decide, by decide⟩, .ref D, rfl, .int _, rfl, D, _, _, j, rfl, rfl, hD2, ix_z ej (by rw [List.length_map]; exact hj2), ?_⟩⟩
              refine mon (rs[j] % 1000003) _ _ _ _ (rs.set j (rs[j] / 1000003)) (Int.emod_nonneg _ (by decide)) ?_ ?_ ?_ ?_
              · intro b o e
                rw [upd_ne (ne_of_none e nD), upd_ne (ne_of_none e nL0)]
                exact hs1 b o e
              · rw [upd_same, List.map_set]
              · rw [List.length_set]
                exact hr1
              · rw [upd_ne nLD, upd_same, List.map_append]
                rfl
            · skip
              -- mixed = ..
              refine ⟨_, rfl, _, _, rfl, rfl, .inr ⟨by decide, by decide⟩, _, rfl, _, _, rfl, rfl, .inr ⟨by decide, by decide⟩, _, _, rfl, rfl, _, _, rfl, rfl, .inl ⟨_, rfl, _, _, rfl, rfl, (by show (0 : Int) < _; decide), ?_⟩⟩
              refine ⟨_, rfl, _, rfl, _, _, rfl, rfl, .inl (in64 (by decide)), _, _, rfl, rfl, ⟨by decide, by decide⟩, _, rfl, _, _, rfl, rfl, .inl ⟨_, rfl, _, _, rfl, rfl, (by show (0 : Int) < _; decide), ?_⟩⟩
              refine ⟨.ref L, rfl, .inl ⟨rfl, _, .inl (.inl hL1)⟩, _, rfl, _, rfl, _, _, rfl, rfl, .inl (in64 (by decide)), _, _, rfl, rfl, ⟨by decide, by decide⟩, _, rfl, _, _, rfl, rfl, .inr ⟨by decide, by decide⟩, _, _, rfl, rfl, .inl ⟨_, rfl, _, _, rfl, rfl, (by show (0 : Int) < _; decide), L, _, _, rfl, rfl, hL1, (by rw [List.length_map]; exact hlt), ?_⟩⟩
              refine mon ((((((ns[j] * 48271 + (0 + (i : Int)) * 69621 + 11) % 2147483647) * ((ns[j] * 48271 + (0 + (i : Int)) * 69621 + 11) % 2147483647) / 4096 + ((ns[j] * 48271 + (0 + (i : Int)) * 69621 + 11) % 2147483647)) % 2147483629) * ((((ns[j] * 48271 + (0 + (i : Int)) * 69621 + 11) % 2147483647) * ((ns[j] * 48271 + (0 + (i : Int)) * 69621 + 11) % 2147483647) / 4096 + ((ns[j] * 48271 + (0 + (i : Int)) * 69621 + 11) % 2147483647)) % 2147483629) / 4096 + (0 + (i : Int)) * 7919) % 2147483629) _ _ _ _ rs (Int.emod_nonneg _ (by decide)) ?_ ?_ hr1 ?_
              · intro b o e
                rw [upd_ne (ne_of_none e nL0)]
                exact hs1 b o e
              · rw [upd_ne nLD.symm]
                exact hD1
              · rw [upd_same, List.map_append]
                rfl
          · rw [decide_eq_false e1]
            -- mixed = ..
            refine ⟨_, rfl, _, _, rfl, rfl, .inr ⟨by decide, by decide⟩, _, rfl, _, _, rfl, rfl, .inr ⟨by decide, by decide⟩, _, _, rfl, rfl, _, _, rfl, rfl, .inl ⟨_, rfl, _, _, rfl, rfl, (by show (0 : Int) < _; decide), ?_⟩⟩
            refine ⟨_, rfl, _, rfl, _, _, rfl, rfl, .inl (in64 (by decide)), _, _, rfl, rfl, ⟨by decide, by decide⟩, _, rfl, _, _, rfl, rfl, .inl ⟨_, rfl, _, _, rfl, rfl, (by show (0 : Int) < _; decide), ?_⟩⟩
            refine ⟨.ref L, rfl, .inl ⟨rfl, _, .inl (.inl hL1)⟩, _, rfl, _, rfl, _, _, rfl, rfl, .inl (in64 (by decide)), _, _, rfl, rfl, ⟨by decide, by decide⟩, _, rfl, _, _, rfl, rfl, .inr ⟨by decide, by decide⟩, _, _, rfl, rfl, .inl ⟨_, rfl, _, _, rfl, rfl, (by show (0 : Int) < _; decide), L, _, _, rfl, rfl, hL1, (by rw [List.length_map]; exact hlt), ?_⟩⟩
            refine mon ((((((ns[j] * 48271 + (0 + (i : Int)) * 69621 + 11) % 2147483647) * ((ns[j] * 48271 + (0 + (i : Int)) * 69621 + 11) % 2147483647) / 4096 + ((ns[j] * 48271 + (0 + (i : Int)) * 69621 + 11) % 2147483647)) % 2147483629) * ((((ns[j] * 48271 + (0 + (i : Int)) * 69621 + 11) % 2147483647) * ((ns[j] * 48271 + (0 + (i : Int)) * 69621 + 11) % 2147483647) / 4096 + ((ns[j] * 48271 + (0 + (i : Int)) * 69621 + 11) % 2147483647)) % 2147483629) / 4096 + (0 + (i : Int)) * 7919) % 2147483629) _ _ _ _ rs (Int.emod_nonneg _ (by decide)) ?_ ?_ hr1 ?_
            · intro b o e
              rw [upd_ne (ne_of_none e nL0)]
              exact hs1 b o e
            · rw [upd_ne nLD.symm]
              exact hD1
            · rw [upd_same, List.map_append]
              rfl
        · skip
          -- mixed = ..
          refine ⟨_, rfl, _, _, rfl, rfl, .inr ⟨by decide, by decide⟩, _, rfl, _, _, rfl, rfl, .inr ⟨by decide, by decide⟩, _, _, rfl, rfl, _, _, rfl, rfl, .inl ⟨_, rfl, _, _, rfl, rfl, (by show (0 : Int) < _; decide), ?_⟩⟩
          refine ⟨_, rfl, _, rfl, _, _, rfl, rfl, .inl (in64 (by decide)), _, _, rfl, rfl, ⟨by decide, by decide⟩, _, rfl, _, _, rfl, rfl, .inl ⟨_, rfl, _, _, rfl, rfl, (by show (0 : Int) < _; decide), ?_⟩⟩
          refine ⟨.ref L, rfl, .inl ⟨rfl, _, .inl (.inl hL1)⟩, _, rfl, _, rfl, _, _, rfl, rfl, .inl (in64 (by decide)), _, _, rfl, rfl, ⟨by decide, by decide⟩, _, rfl, _, _, rfl, rfl, .inr ⟨by decide, by decide⟩, _, _, rfl, rfl, .inl ⟨_, rfl, _, _, rfl, rfl, (by show (0 : Int) < _; decide), L, _, _, rfl, rfl, hL1, (by rw [List.length_map]; exact hlt), ?_⟩⟩
          refine mon (((((((0 + (i : Int)) * 48271 + (0 + (i : Int)) * 69621 + 11) % 2147483647) * (((0 + (i : Int)) * 48271 + (0 + (i : Int)) * 69621 + 11) % 2147483647) / 4096 + (((0 + (i : Int)) * 48271 + (0 + (i : Int)) * 69621 + 11) % 2147483647)) % 2147483629) * (((((0 + (i : Int)) * 48271 + (0 + (i : Int)) * 69621 + 11) % 2147483647) * (((0 + (i : Int)) * 48271 + (0 + (i : Int)) * 69621 + 11) % 2147483647) / 4096 + (((0 + (i : Int)) * 48271 + (0 + (i : Int)) * 69621 + 11) % 2147483647)) % 2147483629) / 4096 + (0 + (i : Int)) * 7919) % 2147483629) _ _ _ _ rs (Int.emod_nonneg _ (by decide)) ?_ ?_ hr1 ?_
          · intro b o e
            rw [upd_ne (ne_of_none e nL0)]
            exact hs1 b o e
          · rw [upd_ne nLD.symm]
            exact hD1
          · rw [upd_same, List.map_append]
            rfl
      · obtain ⟨c, k, t, x, rfl, hs1, rs, ds, hD1, hr1, hL1, hd1, h0⟩ := hP
        exact ⟨.ref L, rfl, q H1 L ds hs1 nL0 hL1 hd1 h0⟩
/-- a drawn number below n -/
def spTake : Sp := fun vs H Q _ => ∃ (h dr : Addr) (n : Int), vs = [.ref h, .int n] ∧ Hdd H h dr ∧ 0 < n ∧ ∀ r H', 0 ≤ r → r < n → (∀ b, b ≠ h → H' b = H b) → Hdd H' h dr → Q (.int r) H'
theorem ok_take {f : Addr} {fd : FuncData} (F : Fun K "_law_take" "_law_take" sTake f fd) (B : Bt mg) : FnOk P w K mg base CX0 1 f fd ["hand", "many"] spTake := by
  refine F.ok scTake (fun vs H Q E h => ?_) (fun cdv A outer s H vs Q E hr h => ?_)
  · obtain ⟨a, d, n, rfl, _⟩ := h
    rfl
  · obtain ⟨h, d, n, rfl, ⟨ds, t, hh, hd, ne, nn⟩, n0, q⟩ := h
    refine ⟨_, pss_cons (ps_set (i := 2) scTake.nd rfl (.inl rfl) (pe_ix ix_list (pv 0) pe_int (fun _ _ => rfl)))
      (pss_cons (ps_asg (pe_op op_add (pv 2) pe_int) (pg_sub (pv 0) pe_int set_list))
      (pss_cons (ps_set (i := 3) scTake.nd rfl (.inl rfl) (pe_ix ix_list (pv 0) pe_int (fun _ _ => rfl)))
      (pss_cons (ps_if (pt_cmpR op_ge (pv 2) (pe_callB call_len_seq (by rfl) B.len PySem.boot_len (pa_cons (pv 3) pa_nil)) (nomark _)) (pss_one (ps_ret pe_int)) pss_nil)
      (pss_one (ps_ret (pe_op op_mod (pe_op op_fdiv (pe_callTy call_int1 (by rfl) B.int (by decide +kernel) (pa_cons (pe_ix ix_list (pv 3) (pv 2) (fun _ _ => rfl)) pa_nil)) pe_int) (pv 1))))))), ?_⟩
    have hdU : ∀ o, (upd H h o) d = some (.lst (ds.map V.int)) := fun o => by
      rw [upd_ne ne]
      exact hd
    have fin : Hdd (upd H h (.lst [.ref d, .int ((t + 1 : Nat) : Int)])) h d := ⟨ds, t + 1, upd_same, hdU _, ne, nn⟩
    have keep : ∀ b, b ≠ h → (upd H h (.lst [.ref d, .int ((t + 1 : Nat) : Int)])) b = H b := fun b hb => upd_ne hb
    refine ⟨.ref h, rfl, h, _, 1, .int t, rfl, rfl, sl hh, at_z (j := 1) rfl rfl, .int t, rfl, _, _, rfl, rfl, .ref h, rfl, h, _, 1, 1, rfl, rfl, hh, ix_z rfl (by show 1 < 2; decide), ?_⟩
    refine ⟨.ref h, rfl, h, _, 0, .ref d, rfl, rfl, sl upd_same, at_z (j := 0) rfl rfl, .int t, rfl, .ref d, rfl, d, _, rfl, .inl (sl (hdU _)), _, _, rfl, rfl, _, rfl, ?_⟩
    refine ite2 (fun e => ?_) (fun e => ?_)
    · exact q 0 _ (by decide) n0 keep fin
    · have hlt : t < ds.length := by
        by_cases z : t < ds.length
        · exact z
        · exact absurd (decide_eq_true (by rw [List.length_map]; omega)) e
      have g : (ds.map V.int)[t]? = some (.int ds[t]) := by
        rw [List.getElem?_map, List.getElem?_eq_getElem hlt]
        rfl
      refine ⟨.ref d, rfl, .int t, rfl, d, _, _, _, rfl, rfl, sl (hdU _), at_z rfl g, .inl ⟨_, rfl, _, _, rfl, rfl, ⟨by decide, by decide⟩, .int n, rfl, _, _, rfl, rfl, n0, ?_⟩⟩
      exact q _ _ (Int.emod_nonneg _ (by omega)) (Int.emod_lt_of_pos _ n0) keep fin
end
end CC

namespace CC
open PySem PySem.Spec PyProof.Rows L2 Ek
section
variable {P : Program} {w : World} {K : PySem.W.Frag} {mg : Str → Option Value} {base : Heap}
theorem rws_at {H : Hp} {rs : List Addr} {bss : List (List Int)} {i : Nat} {x : V} (rw1 : Rws H rs bss) (hx : (rs.map V.ref)[i]? = some x) : ∃ r bs, x = V.ref r ∧ bss[i]? = some bs ∧ H r = some (.tup (bs.map V.int)) := by
  rw [List.getElem?_map] at hx
  cases e : rs[i]? with
  | none => rw [e] at hx; cases hx
  | some r =>
    rw [e] at hx
    have hj : i < bss.length := by
      rw [← paired_len rw1]
      exact (List.getElem?_eq_some_iff.mp e).1
    obtain ⟨y, hy, hz⟩ := paired_get rw1 (List.getElem?_eq_getElem hj)
    rw [e] at hy
    cases hy
    exact ⟨r, _, (Option.some.inj hx).symm, List.getElem?_eq_getElem hj, hz⟩
theorem rws_get {H : Hp} {rs : List Addr} {bss : List (List Int)} {i : Nat} {bs : List Int} (rw1 : Rws H rs bss) (h : bss[i]? = some bs) : ∃ r, (rs.map V.ref)[i]? = some (.ref r) ∧ H r = some (.tup (bs.map V.int)) := by
  obtain ⟨y, hy, hz⟩ := paired_get rw1 h
  exact ⟨y, by rw [List.getElem?_map, hy]; rfl, hz⟩
theorem rows8 {n : Nat} (h : n ≤ 3) : (rowsOf n).length ≤ 8 := by
  have : n = 0 ∨ n = 1 ∨ n = 2 ∨ n = 3 := by omega
  rcases this with rfl | rfl | rfl | rfl <;> decide +kernel
theorem rows32 {n : Nat} (h : n ≤ 8) : (rowsOf n).length ≤ 256 := by
  rw [rows_len]
  exact Nat.le_trans (Nat.pow_le_pow_right (by decide) h) (by decide)
/-- x + (y,) -/
theorem tup_more {σ : L2.St} {H : Hp} {i : Nat} {r : Addr} {xs : List V} {y : V} {Q : VK} (hσ : σ[i]? = some (some (.ref r))) (hr : H r = some (.tup xs)) (lb : xs.length ≤ 100) (k : ∀ t H', Same H H' → H' t = some (.tup (xs ++ [y])) → Q (.ref t) H') : tOp (rCatA K) (tVar i) (tTup (tCons (tC y) tNil)) σ H Q := by
  refine ⟨.ref r, hσ, by show 1 ≤ sizeLine; decide, fun t1 nt1 => ?_⟩
  refine ⟨r, t1, xs, [y], rfl, rfl, tl (same_upd nt1 _ _ hr), tl upd_same, ?_, fun z => ?_, (fun _ z => absurd z (List.cons_ne_nil _ _)), fun _ _ p np => ?_⟩
  · exact Nat.le_of_lt (small1000 (by show xs.length + 1 ≤ 1000; omega))
  · subst z
    exact k t1 _ (same_upd nt1) upd_same
  · exact k p _ ((same_upd nt1).trans (same_upd np)) upd_same
def spEv : Sp := fun vs H Q _ => ∃ n : Nat, vs = [.int n] ∧ n ≤ 8 ∧ ∀ H' p rs, Same H H' → H p = none → H' p = some (.lst (rs.map V.ref)) → Rws H' rs (rowsOf n) → Q (.ref p) H'
theorem ok_every {f : Addr} {fd : FuncData} (F : Fun K "_law_rows" "_law_rows" sEvery f fd) (B : Bt mg) : FnOk P w K mg base CX0 1 f fd ["many"] spEv := by
  refine F.ok scEvery (fun vs H Q E h => ?_) (fun cdv A outer s H vs Q E hr h => ?_)
  · obtain ⟨n, rfl, _⟩ := h
    rfl
  · obtain ⟨n, rfl, hn, q⟩ := h
    refine ⟨_, (pss_cons (ps_set (i := 1) scEvery.nd rfl (.inl rfl) (pe_lst (pa_cons (pe_tup pa_nil) pa_nil)))
      (pss_cons (ps_for PassesOwn.never rfl (pi_range1 rfl B.range (pa_cons (pv 0) pa_nil)) (pg_name (i := 2) scEvery.nd rfl (.inl rfl))
      (pss_cons (ps_set (i := 3) scEvery.nd rfl (.inl rfl) (pe_lst pa_nil))
      (pss_cons (ps_for PassesOwn.never rfl (pi_list (pv 1)) (pg_name (i := 4) scEvery.nd rfl (.inl rfl))
      (pss_one (ps_set (i := 3) scEvery.nd rfl (.inl rfl) (pe_op op_cat (pv 3) (pe_lst (pa_cons (pe_op op_catA (pv 4) (pe_tup (pa_cons pe_int pa_nil))) (pa_cons (pe_op op_catA (pv 4) (pe_tup (pa_cons pe_int pa_nil))) pa_nil)))))))
      (pss_one (ps_set (i := 1) scEvery.nd rfl (.inl rfl) (pv 3))))))
      (pss_one (ps_ret (pv 1))))), ?_⟩
    refine q_seq (q_set ?_)
    refine ⟨Nat.zero_le _, fun t0 nt0 => ⟨by show 1 ≤ sizeLine; decide, fun L0 nL0 => ?_⟩⟩
    have s0 : Same H (upd (upd H t0 (.tup [])) L0 (.lst [.ref t0])) := (same_upd nt0).trans (same_upd nL0)
    have e0 : (upd (upd H t0 (.tup [])) L0 (.lst [.ref t0])) t0 = some (.tup []) := same_upd nL0 _ _ upd_same
    have n0 : H L0 = none := (same_upd nt0).free nL0
    dsimp only
    refine q_seq ?_
    refine ⟨_, rfl, n, rfl, by omega, by omega, for_range (lo := 0) (n := n) (fun i σ H' => ∃ (L : Addr) (u v x : Option V) (rs : List Addr), σ = [some (.int n), some (.ref L), u, v, x] ∧ Same H H' ∧ H L = none ∧ H' L = some (.lst (rs.map V.ref)) ∧ Rws H' rs (rowsOf i))
      ⟨L0, none, none, none, [t0], rfl, s0, n0, upd_same, .cons e0 .nil⟩ (fun i σ H1 hi hP => ?_) (fun σ H1 hP => ?_)⟩
    · obtain ⟨L, u, v, x, rs, rfl, s1, nL, hL, rw1⟩ := hP
      refine q_seq (q_set ⟨Nat.zero_le _, fun M0 nM0 => ?_⟩)
      dsimp only
      have lim := rows32 (show i ≤ 8 by omega)
      have len1 := paired_len rw1
      refine q_seq ?_
      refine ⟨.ref L, rfl, L, rfl, ⟨_, sl (same_upd nM0 _ _ hL)⟩, for_list (K := K) (a := L) (xs := rs.map V.ref) (fun j σ H2 => ∃ (M : Addr) (x : Option V) (rs2 : List Addr), σ = [some (.int n), some (.ref L), some (.int (0 + (i : Int))), some (.ref M), x] ∧ Same H1 H2 ∧ H1 M = none ∧ H2 M = some (.lst (rs2.map V.ref)) ∧ Rws H2 rs2 (((rowsOf i).take j).flatMap fun r => [r ++ [0], r ++ [1]]))
        ⟨M0, x, [], rfl, same_upd nM0, nM0, upd_same, .nil⟩ (fun j σ H2 _ hQ => ?_) (fun j x σ H2 hx hQ => ?_) (fun σ H2 hQ => ?_)⟩
      · obtain ⟨M, x, rs2, rfl, s2, _⟩ := hQ
        exact sl (s2 _ _ hL)
      · obtain ⟨M, x', rs2, rfl, s2, nM, hM, rw2⟩ := hQ
        obtain ⟨r, bs, rfl, hbs, hr⟩ := rws_at rw1 hx
        have l2 : rs2.length ≤ 512 := by
          have z := paired_len rw2
          have h2 : ∀ l : List (List Int), (l.flatMap fun r => [r ++ [0], r ++ [1]]).length = 2 * l.length := fun l => by
            induction l with
            | nil => rfl
            | cons x l ih => rw [List.flatMap_cons, List.length_append, ih, List.length_cons, List.length_cons, List.length_cons, List.length_nil]; omega
          rw [h2, List.length_take] at z
          omega
        have lb : (bs.map V.int).length ≤ 100 := by
          rw [List.length_map, row_len i bs (List.mem_of_getElem? hbs)]
          omega
        refine q_set ?_
        refine ⟨.ref M, rfl, ?_⟩
        refine tup_more (show _ = some (some (V.ref r)) from rfl) (s2 _ _ hr) lb fun t1 H3 s3 h3 => ?_
        refine tup_more (show _ = some (some (V.ref r)) from rfl) (s3 _ _ (s2 _ _ hr)) lb fun t2 H4 s4 h4 => ?_
        refine ⟨by show 2 ≤ sizeLine; decide, fun L2 nL2 => ?_⟩
        have s5 := s3.trans (s4.trans (same_upd (o := .lst [.ref t1, .ref t2]) nL2))
        refine ⟨M, L2, rs2.map V.ref, [.ref t1, .ref t2], rfl, rfl, s5 _ _ hM, upd_same, by rw [List.length_map]; exact Nat.le_of_lt (small1000 (by show rs2.length + 2 ≤ 1000; omega)), fun p np => ?_⟩
        have s6 := s5.trans (same_upd (o := .lst (rs2.map V.ref ++ [.ref t1, .ref t2])) np)
        refine ⟨p, _, rs2 ++ [t1, t2], rfl, s2.trans s6, (s2.trans s5).free np, by rw [upd_same, List.map_append]; rfl, ?_⟩
        rw [take_flat _ hbs]
        refine paired_app (rw2.same s6) (.cons ?_ (.cons ?_ .nil))
        · refine same_upd np _ _ (same_upd nL2 _ _ (s4 _ _ ?_))
          rw [h3, List.map_append]
          rfl
        · refine same_upd np _ _ (same_upd nL2 _ _ ?_)
          rw [h4, List.map_append]
          rfl
      · obtain ⟨M, x', rs2, rfl, s2, nM, hM, rw2⟩ := hQ
        dsimp only
        refine q_set ?_
        refine ⟨.ref M, rfl, ?_⟩
        refine ⟨M, _, _, _, rs2, rfl, s1.trans s2, s1.free nM, hM, ?_⟩
        rw [List.length_map, len1, List.take_length] at rw2
        exact rw2
    · obtain ⟨L, u, v, x, rs, rfl, s1, nL, hL, rw1⟩ := hP
      dsimp only
      refine q_ret ?_
      exact ⟨.ref L, rfl, q _ L rs s1 nL hL rw1⟩
def spAm : Sp := fun vs H Q _ => ∃ (h dr : Addr) (wd : Int), vs = [.ref h, .int wd] ∧ Hdd H h dr ∧ ∀ r H', -1000000 < r → r < 1000000 → Kp h H H' → Hdd H' h dr → Q (.int r) H'
theorem Kp.eq {h : Addr} {H H' : Hp} (e : ∀ b, b ≠ h → H' b = H b) : Kp h H H' := fun b o n x => (e b n).trans x
end
end CC

namespace CC
open PySem PySem.Spec PyProof.Rows L2 Ek
section
variable {P : Program} {w : World} {K : PySem.W.Frag} {mg : Str → Option Value} {base : Heap}
theorem q_seqJ {D : Ends} {σ : L2.St} {H : Hp} {a b : TS} (J : L2.St → Hp → Prop) (h1 : ∀ σ' H', J σ' H' → b D σ' H') (h2 : (∀ σ' H', J σ' H' → b D σ' H') → a { D with nx := fun s h => b D s h } σ H) : tSeq a b D σ H := h2 h1
def Bd (lo hi : Int) (ns : List Int) : Prop := ∀ x ∈ ns, lo ≤ x ∧ x ≤ hi
theorem Bd.nil {lo hi : Int} : Bd lo hi [] := fun _ m => by cases m
theorem Bd.snoc {lo hi x : Int} {ns : List Int} (h : Bd lo hi ns) (hx : lo ≤ x ∧ x ≤ hi) : Bd lo hi (ns ++ [x]) := fun y m => by
  rcases List.mem_append.mp m with m | m
  · exact h y m
  · rw [List.mem_singleton.mp m]; exact hx
theorem Bd.at {lo hi : Int} {ns : List Int} (h : Bd lo hi ns) {j : Nat} (hj : j < ns.length) : ∃ v, (ns.map V.int)[j]? = some (.int v) ∧ lo ≤ v ∧ v ≤ hi :=
  ⟨ns[j], by rw [List.getElem?_map, List.getElem?_eq_getElem hj]; rfl, h _ (List.getElem_mem hj)⟩
theorem Bd.wide {lo hi lo' hi' : Int} {ns : List Int} (h : Bd lo hi ns) (h1 : lo' ≤ lo) (h2 : hi ≤ hi') : Bd lo' hi' ns := fun x m => by
  have z := h x m
  omega
theorem Bd.sum {lo hi : Int} : ∀ {ns : List Int}, Bd lo hi ns → lo ≤ 0 → 0 ≤ hi → (ns.length : Int) * lo ≤ ns.sum ∧ ns.sum ≤ (ns.length : Int) * hi
  | [], _, _, _ => by simp
  | x :: ns, h, h1, h2 => by
    have z := h x List.mem_cons_self
    obtain ⟨a, b⟩ := Bd.sum (ns := ns) (fun y m => h y (List.mem_cons_of_mem _ m)) h1 h2
    rw [List.sum_cons, List.length_cons]
    have e : ∀ c : Int, ((ns.length + 1 : Nat) : Int) * c = (ns.length : Int) * c + c := fun c => by
      rw [Int.natCast_add, Int.add_mul]
      simp
    rw [e, e]
    omega
theorem mul_bit {lo hi p b : Int} (h : lo ≤ p ∧ p ≤ hi) (h1 : lo ≤ 0) (h2 : 0 ≤ hi) (hb : 0 ≤ b ∧ b ≤ 1) : lo ≤ p * b ∧ p * b ≤ hi := by
  have e : b = 0 ∨ b = 1 := by omega
  rcases e with rfl | rfl
  · rw [Int.mul_zero]; omega
  · rw [Int.mul_one]; exact h
theorem small_mul {p b lo hi : Int} (h : lo ≤ p ∧ p ≤ hi) (h1 : -1000 ≤ lo) (h2 : hi ≤ 1000) : CMul p b := .inl ⟨Int.lt_of_lt_of_le (by decide) (Int.le_trans h1 h.1), Int.lt_of_le_of_lt (Int.le_trans h.2 h2) (by decide)⟩
theorem bits_bd {bs : List Int} (h : Bits bs) : Bd 0 1 bs := fun x m => by
  have z := h x m
  omega
theorem cut_lo (xs : List V) (n : Nat) : cutV xs (some (n : Int)) none = xs.drop n := by
  unfold cutV
  rw [HT.sIx_nat, HT.sIx_none]
  by_cases h : n ≤ xs.length
  · rw [Nat.min_eq_left h]
    exact List.take_of_length_le (by rw [List.length_drop]; exact Nat.le_refl _)
  · rw [Nat.min_eq_right (by omega), List.drop_of_length_le (Nat.le_refl _), List.drop_of_length_le (by omega), List.take_nil]
theorem cut_hi (xs : List V) (n : Nat) : cutV xs none (some (n : Int)) = xs.take n := by
  unfold cutV
  rw [HT.sIx_nat, HT.sIx_none, List.drop_zero, Nat.sub_zero]
  by_cases h : n ≤ xs.length
  · rw [Nat.min_eq_left h]
  · rw [Nat.min_eq_right (by omega), List.take_of_length_le (Nat.le_refl _), List.take_of_length_le (by omega)]
theorem cut_m1 (xs : List V) : cutV xs none (some (-1)) = xs.dropLast := by
  unfold cutV
  rw [HT.sIx_none, List.drop_zero, Nat.sub_zero, List.dropLast_eq_take]
  have e : HT.sIx xs.length xs.length (some (-1)) = ((-1 : Int) + (xs.length : Int)).toNat := by
    show (if (-1 : Int) < 0 then ((-1 : Int) + (xs.length : Int)).toNat else min (-1 : Int).toNat xs.length) = _
    rw [if_pos (by decide)]
  rw [e]
  congr 1
  omega
theorem or_int {σ : L2.St} {H : Hp} {i : Nat} {kd a b : Int} {Q : VK} (hσ : σ[i]? = some (some (.int kd))) (q : ∀ w : Int, Q (.int w) H) : tCB (fun xs H Q => (∃ i, xs = [.int i] ∧ Q (.int i) H) ∨ ∃ k, xs = [.bl k] ∧ Q (.int (if k then 1 else 0)) H) (tCons (tOrV (tOp rEq (tVar i) (tC (.int a))) (tOp rEq (tVar i) (tC (.int b)))) tNil) σ H Q := by
  refine ⟨.int kd, hσ, rfl, ?_⟩
  by_cases e : kd = a
  · rw [decide_eq_true (by rw [e])]
    exact ⟨true, rfl, .inr ⟨_, rfl, q _⟩⟩
  · rw [decide_eq_false (fun z => e (V.int.inj z))]
    exact ⟨false, rfl, .int kd, hσ, rfl, .inr ⟨_, rfl, q _⟩⟩
def spLP : Sp := fun vs H Q _ => ∃ (h dr : Addr) (k : Nat), vs = [.ref h, .int k] ∧ 1 ≤ k ∧ k ≤ 3 ∧ Hdd H h dr ∧
  ∀ p t ms H', Kp h H H' → Hdd H' h dr → H' p = some (.tup [.int k, .ref t]) → H' t = some (.tup (ms.map V.int)) → ms.length = 2 ^ k → Bd (-1000000000) 1000000000 ms → Q (.ref p) H'
theorem price_end {h dr : Addr} {H H2 : Hp} {L : Addr} {ms : List Int} {k : Nat} {Q : VK}
    (q : ∀ p t ms H', Kp h H H' → Hdd H' h dr → H' p = some (.tup [.int k, .ref t]) → H' t = some (.tup (ms.map V.int)) → ms.length = 2 ^ k → Bd (-1000000000) 1000000000 ms → Q (.ref p) H')
    (kp : Kp h H H2) (hd : Hdd H2 h dr) (hL : H2 L = some (.lst (ms.map V.int))) (hl : ms.length = 2 ^ k) (hb : Bd (-1000000000) 1000000000 ms) :
    ∃ p ys, [V.ref L] = [V.ref p] ∧ ((SqL K H2 p ys ∧ ∀ l, H2 l = none → (([V.int k, .ref l] : List V).length ≤ sizeLine ∧ ∀ p, (upd H2 l (.tup ys)) p = none → Q (.ref p) (upd (upd H2 l (.tup ys)) p (.tup [.int k, .ref l])))) ∨
      (SqT K H2 p ys ∧ (([V.int k, .ref p] : List V).length ≤ sizeLine ∧ ∀ p', H2 p' = none → Q (.ref p') (upd H2 p' (.tup [.int k, .ref p]))))) :=
  ⟨L, _, rfl, .inl ⟨sl hL, fun l nl => ⟨by show 2 ≤ sizeLine; decide, fun p np => q p l ms _ (kp.trans (Kp.of ((same_upd nl).trans (same_upd np)))) (hd.same ((same_upd nl).trans (same_upd np))) upd_same (same_upd np _ _ upd_same) hl hb⟩⟩⟩
end
end CC

namespace CC
open PySem PySem.Spec PyProof.Rows L2 Ek
section
variable {P : Program} {w : World} {K : PySem.W.Frag} {mg : Str → Option Value} {base : Heap}
theorem is_seq {H : Hp} {p : Addr} {v : V} (k : Kn H v) (np : H p = none) : ∃ t us, TyX K (upd H p (.tup [.ty "list", .ty "tuple"])) v t ∧ Paired ClsV [V.ty "list", .ty "tuple"] us ∧ PySem.W.kitAny K t us = some (isR v) := by
  have c2 : Paired ClsV [.ty "list", .ty "tuple"] [.type "list", .type "tuple"] := .cons (.ty _) (.cons (.ty _) .nil)
  have s1 := same_upd (o := .tup [.ty "list", .ty "tuple"]) np
  cases k.same s1 with
  | non => exact ⟨_, _, .base .non, c2, kitAny_cons (b := false) (kit_ty (by decide +kernel)) (fun _ => kitAny_cons (b := false) (r := false) (kit_ty (by decide +kernel)) (fun _ => kitAny_nil) (fun z => z)) (fun z => by cases z)⟩
  | bl b => exact ⟨_, _, .base (.bl _), c2, kitAny_cons (b := false) (kit_ty (by decide +kernel)) (fun _ => kitAny_cons (b := false) (r := false) (kit_ty (by decide +kernel)) (fun _ => kitAny_nil) (fun z => z)) (fun z => by cases z)⟩
  | int i => exact ⟨_, _, .base (.int _), c2, kitAny_cons (b := false) (kit_ty (by decide +kernel)) (fun _ => kitAny_cons (b := false) (r := false) (kit_ty (by decide +kernel)) (fun _ => kitAny_nil) (fun z => z)) (fun z => by cases z)⟩
  | str x => exact ⟨_, _, .base (.str _), c2, kitAny_cons (b := false) (kit_ty (by decide +kernel)) (fun _ => kitAny_cons (b := false) (r := false) (kit_ty (by decide +kernel)) (fun _ => kitAny_nil) (fun z => z)) (fun z => by cases z)⟩
  | lst e => exact ⟨_, _, .base (.lst e), c2, kitAny_cons (b := true) (kit_ty (by decide +kernel)) (fun z => by cases z) (fun _ => rfl)⟩
  | tup e => exact ⟨_, _, .base (.tup e), c2, kitAny_cons (b := false) (kit_ty (by decide +kernel)) (fun _ => kitAny_cons (b := true) (kit_ty (by decide +kernel)) (fun z => by cases z) (fun _ => rfl)) (fun z => by cases z)⟩
theorem mem_kn {H : Hp} {am : V} {xs : List V} (hA : Am H am) (m : Mem H am xs) : (∀ x ∈ xs, Kn H x) ∧ xs.length ≤ 100 := by
  cases hA with
  | flat k n =>
    obtain ⟨a, rfl, _⟩ := m
    cases n
  | lst e km z =>
    rw [mem_lst e m]
    exact ⟨km, z⟩
  | tup e km z =>
    rw [mem_tup e m]
    exact ⟨km, z⟩
theorem am_kn {H : Hp} {am : V} (hA : Am H am) : Kn H am := by
  cases hA with
  | flat k n => exact k
  | lst e km z => exact .lst e
  | tup e km z => exact .tup e
theorem am_mem {H : Hp} {am : V} (hA : Am H am) (r : isR am = true) : ∃ a xs, am = .ref a ∧ (H a = some (.lst xs) ∨ H a = some (.tup xs)) := by
  cases hA with
  | flat k n => rw [n] at r; cases r
  | @lst a xs e km z => exact ⟨a, xs, rfl, .inl e⟩
  | @tup a xs e km z => exact ⟨a, xs, rfl, .inr e⟩
theorem cat_A {H : Hp} {a b : Addr} {xs ys : List V} {Q : VK} (ha : H a = some (.tup xs)) (hb : H b = some (.tup ys)) (hz : xs.length + ys.length ≤ 1000) (k : ∀ t H', Same H H' → H' t = some (.tup (xs ++ ys)) → Q (.ref t) H') : rCatA K (.ref a) (.ref b) H Q := by
  refine ⟨a, b, xs, ys, rfl, rfl, tl ha, tl hb, Nat.le_of_lt (small1000 hz), fun z => ?_, fun _ z => ?_, fun _ _ p np => k p _ (same_upd np) upd_same⟩
  · subst z
    exact k b H (Same.refl H) hb
  · subst z
    exact k a H (Same.refl H) (by rw [List.append_nil]; exact ha)
theorem noPart {σ : L2.St} {H : Hp} {Q : Option Int → Hp → Prop} (h : Q none H) : tNoPart σ H Q := h
theorem sl_A {H : Hp} {a : Addr} {xs ys : List V} {lo hi : Option Int} {Q : VK} (ha : H a = some (.tup xs)) (e : cutV xs lo hi = ys) (k : ∀ t H', Same H H' → H' t = some (.tup ys) → Q (.ref t) H') : rSlA K (.ref a) lo hi H Q := by
  refine ⟨a, xs, rfl, tl ha, fun ⟨z1, z2⟩ => ?_, fun _ p np => k p _ (same_upd np) (by rw [upd_same, e])⟩
  refine k a H (Same.refl H) ?_
  rw [← e]
  unfold cutV
  rw [z1, z2, List.drop_zero, Nat.sub_zero, List.take_length]
  exact ha
theorem cut_lo1 (xs : List V) (n : Nat) : cutV xs (some ((n : Int) + 1)) none = xs.drop (n + 1) := cut_lo xs (n + 1)
theorem kn_int {i : Int} : ∀ H2, Kn H2 (.int i) := fun _ => .int i
theorem len_map {xs ms : List Int} (e : ms.map V.int = xs.map V.int) : ms.length = xs.length := by
  have z := congrArg List.length e
  rw [List.length_map, List.length_map] at z
  exact z
theorem sm_ints {ms : List Int} {lo hi : Int} (hb : Bd lo hi ms) (h1 : -1000000000 ≤ lo) (h2 : hi ≤ 1000000000) (hl : ms.length ≤ 9) : Sm 400 3 (.tuple (ms.map .int)) := by
  refine (Sm.tuple (n := 13) (k := 0) (ds := ms.map .int) fun d m => ?_).mono (by rw [List.length_map]; omega) (by decide)
  obtain ⟨x, mx, rfl⟩ := List.mem_map.mp m
  have z := hb x mx
  exact Sm.int (by omega)
theorem pow8 {k : Nat} (k3 : k ≤ 3) : 2 ^ k ≤ 8 := Nat.le_trans (Nat.pow_le_pow_right (by decide) k3) (by decide)
theorem Bd.mem {lo hi : Int} {ns ms : List Int} (h : Bd lo hi ns) (s : ∀ x ∈ ms, x ∈ ns) : Bd lo hi ms := fun x m => h x (s x m)
theorem tx_ints {ms : List Int} : Tx (.tuple (ms.map .int)) := Tx.tuple fun d m => by
  obtain ⟨x, _, rfl⟩ := List.mem_map.mp m
  exact Tx.int
/-- what the clauses of try tell of an error's class -/
structure Xe (K : PySem.W.Frag) (C pe : Addr) : Prop where
  te : PySem.W.exmOne K (.ref C) (.ref C) = some true
  kp : PySem.W.kitOne K (.ref C) (.ref pe) = some true
theorem lkv {v : V} : ([("value", v)] : List (Str × V)).lookup ("value" : Str) = some v := by simp [List.lookup]
theorem rows_num3 : ∀ k : Fin 4, ∀ i : Fin 8, ((rowsOf k.1)[i.1]?).all (fun bs => num bs == (i.1 : Int)) = true := by decide +kernel
theorem rows_num {k i : Nat} {bs : List Int} (k3 : k ≤ 3) (h : (rowsOf k)[i]? = some bs) : num bs = (i : Int) := by
  have hi : i < 8 := Nat.lt_of_lt_of_le (List.getElem?_eq_some_iff.mp h).1 (rows8 k3)
  have z := rows_num3 ⟨k, by omega⟩ ⟨i, hi⟩
  simp only at z
  rw [h] at z
  exact eq_of_beq z
theorem cost_row {k i : Nat} {bs ms : List Int} (k3 : k ≤ 3) (h : (rowsOf k)[i]? = some bs) (hl : ms.length = 2 ^ k) : (ms.map V.int)[i]? = some (.int (costL ms bs)) := by
  have hi : i < ms.length := by
    rw [hl, ← rows_len]
    exact (List.getElem?_eq_some_iff.mp h).1
  unfold costL
  rw [rows_num k3 h, Int.toNat_natCast, List.getElem?_map, List.getElem?_eq_getElem hi, List.getD_eq_getElem?_getD, List.getElem?_eq_getElem hi]
  rfl
theorem okd_int {lo hi i : Int} {ms : List Int} (hb : Bd (-1000000000) 1000000000 ms) (m : i ∈ ms) : Okd (.int i) := by
  have z := hb i m
  exact (Sm.int (by omega)).okd (by decide) (by decide)
theorem q_asg {D : Ends} {σ : L2.St} {H : Hp} {te : TE} {g : TG} (h : te σ H fun v H1 => g v σ H1 D.nx) : tAsg te g D σ H := h
theorem PrAt.kp {C h dr : Addr} {H H' : Hp} {p : Addr} {k : Nat} {ms : List Int} (hd : Hdd H h dr) (kp : Kp h H H') (x : PrAt C H p k ms) : PrAt C H' p k ms := by
  obtain ⟨dx, t, h1, h2, h3⟩ := x
  exact ⟨dx, t, kp _ _ (hd.ns h1 (fun _ _ z => by cases z)) h1, kp _ _ (hd.ns h2 (fun _ _ z => by cases z)) h2, h3⟩
theorem PrAt.updL {C l : Addr} {H : Hp} {p : Addr} {k : Nat} {ms : List Int} {xs : List V} {o : HO} (e : H l = some (.lst xs)) (x : PrAt C H p k ms) : PrAt C (upd H l o) p k ms := by
  obtain ⟨dx, t, h1, h2, h3⟩ := x
  exact ⟨dx, t, by rw [upd_ne (ne_of h1 e (by intro z; cases z))]; exact h1, by rw [upd_ne (ne_of h2 e (by intro z; cases z))]; exact h2, h3⟩
theorem made_same {H H' : Hp} {x dx C : Addr} (nx : H x = none) (ndx : H dx = none) (kk : ∀ b o, b ≠ x → (upd (upd H dx (.own x)) x (.ins C dx [])) b = some o → H' b = some o) : Same H H' := fun b o e => by
  refine kk b o (ne_of_none e nx) ?_
  rw [upd_ne (ne_of_none e nx), upd_ne (ne_of_none e ndx)]
  exact e
theorem made_am {H : Hp} {x dx C : Addr} (nx : H x = none) (ndx : H dx = none) : Same H (upd (upd H dx (.own x)) x (.ins C dx [])) := fun b o e => by
  rw [upd_ne (ne_of_none e nx), upd_ne (ne_of_none e ndx)]
  exact e
/-- a price is made of what is good -/
theorem pr_made {C : Addr} {H : Hp} {x dx : Addr} {am : V} {k : Nat} {ms : List Int} {R : Hp → Prop} (nx : H x = none) (ndx : H dx = none) (hA : Am H am) (k1 : 1 ≤ k) (k3 : k ≤ 3) (hl : ms.length = 2 ^ k) (m : Mem H am (ms.map V.int)) (q : ∀ H', Same H H' → PrAt C H' x k ms → R H') :
    spPI0 C [.ref x, .int k, am] (upd (upd H dx (.own x)) x (.ins C dx [])) (fun v H2 => v = .non ∧ R H2) E0 := by
  refine ⟨x, dx, .int k, am, k, ms, rfl, upd_same, hA.same (made_am nx ndx), ⟨rfl, k1, k3, hl, ?_⟩, fun H' kk pr => ⟨rfl, q H' (made_same nx ndx kk) pr⟩⟩
  obtain ⟨a, rfl, h⟩ := m
  exact ⟨a, rfl, h.imp (made_am nx ndx _ _) (made_am nx ndx _ _)⟩
end
end CC

namespace CC
open PySem PySem.Spec PyProof.Rows L2 Ek
section
variable {P : Program} {w : World} {K : PySem.W.Frag} {mg : Str → Option Value} {base : Heap}
def spCost : Sp := fun vs H Q _ => ∃ (q t r : Addr) (k : Nat) (ms bs : List Int), vs = [.ref q, .ref r] ∧ H q = some (.tup [.int k, .ref t]) ∧ H t = some (.tup (ms.map V.int)) ∧ ms.length = 2 ^ k ∧ k ≤ 3 ∧ H r = some (.tup (bs.map V.int)) ∧ Bits bs ∧ bs.length = k ∧ Q (.int (costL ms bs)) H
theorem small_am {H : Hp} {l : Addr} {ms : List Int} {k : Nat} (k3 : k ≤ 3) (hl : ms.length = 2 ^ k) (e : H l = some (.lst (ms.map V.int)) ∨ H l = some (.tup (ms.map V.int))) : Am H (.ref l) := by
  have z := pow8 k3
  rcases e with e | e
  · exact .lst e kn_ints (by rw [List.length_map]; omega)
  · exact .tup e kn_ints (by rw [List.length_map]; omega)
end
end CC

namespace CS
open PySem PySem.Spec PyProof.Rows L2 Ek CC
section
variable {P : Program} {w : World} {K : PySem.W.Frag} {mg : Str → Option Value} {base : Heap}
/-- letters as a key -/
abbrev kI (ns : List Nat) : List L2.Key := ns.map fun (n : Nat) => Sum.inl (n : Int)
/-- a dict of numbers for letters -/
abbrev Mp := List (List Nat × Int)
abbrev dV (m : Mp) : List (List L2.Key × V) := m.map fun p => (kI p.1, V.int p.2)
def getM (m : Mp) (l : List Nat) : Int := ((m.find? fun p => decide (p.1 = l)).map (·.2)).getD 0
def putM (m : Mp) (l : List Nat) (n : Int) : Mp := if m.any (fun p => decide (p.1 = l)) then m.map fun p => if p.1 = l then (p.1, n) else p else m ++ [(l, n)]
theorem kI_inj {a b : List Nat} (h : kI a = kI b) : a = b := by
  induction a generalizing b with
  | nil => cases b with
    | nil => rfl
    | cons _ _ => cases h
  | cons x a ih => cases b with
    | nil => cases h
    | cons y b =>
      rw [kI, kI, List.map_cons, List.map_cons] at h
      injection h with h1 h2
      have e : (x : Int) = (y : Int) := Sum.inl.inj h1
      rw [ih h2, show x = y by omega]
theorem kI_iff {a b : List Nat} : (kI a = kI b) = (a = b) := propext ⟨kI_inj, fun h => by rw [h]⟩
theorem kV_kI {l : List Nat} : (kI l).map kV = l.map fun (n : Nat) => V.int (n : Int) := by
  rw [kI, List.map_map]
  rfl
theorem valV_dV {l : List Nat} : ∀ {m : Mp}, valV (dV m) (kI l) = (m.find? fun p => decide (p.1 = l)).map fun p => V.int p.2
  | [] => rfl
  | p :: m => by
    by_cases e : p.1 = l
    · rw [dV, List.map_cons, valV_pos (by rw [e]), List.find?_cons_of_pos (by simpa using e)]
      rfl
    · rw [dV, List.map_cons, valV_neg (fun z => e (kI_inj z)), List.find?_cons_of_neg (by simpa using e)]
      exact valV_dV
theorem getD_dV {m : Mp} {l : List Nat} : ((valV (dV m) (kI l)).getD (V.int 0)) = V.int (getM m l) := by
  rw [valV_dV, getM]
  cases m.find? fun p => decide (p.1 = l) <;> rfl
theorem any_dV {l : List Nat} {m : Mp} : ((dV m).any fun kv => decide (kv.1 = kI l)) = m.any fun p => decide (p.1 = l) := by
  rw [dV, List.any_map]
  congr 1
  funext p
  show decide (kI p.1 = kI l) = decide (p.1 = l)
  rw [decide_eq_decide, kI_iff]
theorem putK_dV {m : Mp} {l : List Nat} {n : Int} : putK (dV m) (kI l) (V.int n) = dV (putM m l n) := by
  unfold putK putM
  rw [any_dV]
  by_cases c : (m.any fun p => decide (p.1 = l)) = true
  · rw [if_pos c, if_pos c, dV, dV, List.map_map, List.map_map]
    apply List.map_congr_left
    intro p _
    show (if kI p.1 = kI l then (kI p.1, V.int n) else (kI p.1, V.int p.2)) = (kI (if p.1 = l then (p.1, n) else p).1, V.int (if p.1 = l then (p.1, n) else p).2)
    by_cases e : p.1 = l
    · rw [if_pos (by rw [e]), if_pos e]
    · rw [if_neg (fun z => e (kI_inj z)), if_neg e]
  · rw [if_neg c, if_neg c, dV, dV, List.map_append]
    rfl
theorem isD_dT {H : Hp} {d : Addr} {kvs : List (List L2.Key × V)} (h : H d = some (.dT kvs)) : IsD H d := .inr ⟨kvs, .inl h⟩
theorem put_dV {H : Hp} {d a : Addr} {m : Mp} {l : List Nat} {n : Int} (hd : H d = some (.dT (dV m))) (ha : H a = some (.tup ((kI l).map kV))) (hm : m.length ≤ 1000) : DPut H d (.ref a) (.int n) (upd H d (.dT (dV (putM m l n)))) := by
  have z := DPut.t (v := V.int n) hd ha (by rw [dV, List.length_map]; exact small1000 (by omega))
  rw [putK_dV] at z
  exact z
def spAT : Sp := fun vs H Q _ => ∃ (d a : Addr) (m : Mp) (l : List Nat) (n : Int), vs = [.ref d, .ref a, .int n] ∧ H d = some (.dT (dV m)) ∧ H a = some (.tup ((kI l).map kV)) ∧ m.length ≤ 1000 ∧ Q .non (upd H d (.dT (dV (putM m l (getM m l + n)))))
theorem ok_AT {f : Addr} {fd : FuncData} (F : Fun K "add_to" "add_to" sAT f fd) : FnOk P w K mg base CX0 1 f fd ["numbers", "letters", "number"] spAT := by
  refine F.ok scAT (fun vs H Q E h => ?_) (fun cdv A outer s H vs Q E hr h => ?_)
  · obtain ⟨d, a, m, l, n, rfl, _⟩ := h
    rfl
  · obtain ⟨d, a, m, l, n, rfl, hd, ha, hm, q⟩ := h
    refine ⟨_, (pss_one (ps_dput (ru1 hr) (pv 0) (pv 1) (pe_op op_add (pe_dget2 (ru1 hr) (pv 0) (pv 1) pe_int ⟨rfl, rfl, rfl, rfl⟩) (pv 2)) rfl)), ?_⟩
    refine ⟨.ref d, rfl, d, rfl, isD_dT hd, .ref a, rfl, _, DGet.t hd ha, .int n, rfl, getM m l, n, getD_dV, rfl, .ref d, rfl, .ref a, rfl, d, _, rfl, put_dV hd ha hm, q⟩
end
end CS

namespace CS
open PySem PySem.Spec PyProof.Rows L2 Ek CC
abbrev lV (l : List Nat) : List V := l.map fun (n : Nat) => V.int (n : Int)
theorem lV_at {l : List Nat} {i : Nat} {x : V} (h : (lV l)[i]? = some x) : ∃ n, l[i]? = some n ∧ x = V.int (n : Nat) := by
  rw [lV, List.getElem?_map] at h
  obtain ⟨n, e, rfl⟩ := Option.map_eq_some_iff.mp h
  exact ⟨n, e, rfl⟩
/-- the pairs of letters, each of two that rise -/
def prR (l : List Nat) (x : Nat) : List (List Nat) := (l.filter fun y => decide (x < y)).map fun y => [x, y]
def prL (l : List Nat) : List (List Nat) := l.flatMap (prR l)
/-- tuples of letters -/
abbrev KsT (H : Hp) (qs : List Addr) (ls : List (List Nat)) : Prop := Paired (fun q (l : List Nat) => H q = some (.tup (lV l))) qs ls
theorem KsT.same {H H' : Hp} {qs : List Addr} {ls : List (List Nat)} (s : Same H H') (x : KsT H qs ls) : KsT H' qs ls := by
  induction x with
  | nil => exact .nil
  | cons e _ ih => exact .cons (s _ _ e) ih
theorem KsT.updL {H : Hp} {qs : List Addr} {ls : List (List Nat)} {D : Addr} {xs : List V} {o : HO} (e : H D = some (.lst xs)) (x : KsT H qs ls) : KsT (upd H D o) qs ls := by
  induction x with
  | nil => exact .nil
  | cons h _ ih => exact .cons (by rw [upd_ne (ne_of h e (by intro z; cases z))]; exact h) ih
theorem prR_len {l : List Nat} {x : Nat} : (prR l x).length ≤ l.length := by
  rw [prR, List.length_map]
  exact List.length_filter_le _ _
theorem flat_len {l : List Nat} : ∀ {m : List Nat}, (m.flatMap (prR l)).length ≤ m.length * l.length
  | [] => by simp
  | x :: m => by
    rw [List.flatMap_cons, List.length_append, List.length_cons, Nat.succ_mul]
    have := prR_len (l := l) (x := x)
    have := flat_len (l := l) (m := m)
    omega
end CS

namespace CS
open PySem PySem.Spec PyProof.Rows L2 Ek CC
theorem sqT_same {K : PySem.W.Frag} {H H' : Hp} {a : Addr} {xs : List V} (s : Same H H') (x : SqT K H a xs) : SqT K H' a xs := by
  rcases x with (e | ⟨o, e⟩) | c
  · exact .inl (.inl (s _ _ e))
  · exact .inl (.inr ⟨o, s _ _ e⟩)
  · exact .inr c
/-- members of a sum -/
abbrev MbT (H : Hp) (ps : List Addr) (L : Mp) : Prop := Paired (fun p (q : List Nat × Int) => ∃ b, H p = some (.tup [.ref b, .int q.2]) ∧ H b = some (.tup (lV q.1))) ps L
theorem MbT.same {H H' : Hp} {ps : List Addr} {L : Mp} (s : Same H H') (x : MbT H ps L) : MbT H' ps L := by
  induction x with
  | nil => exact .nil
  | cons e _ ih =>
    obtain ⟨b, h1, h2⟩ := e
    exact .cons ⟨b, s _ _ h1, s _ _ h2⟩ ih
def addM (m : Mp) (n : Int) (ls : List (List Nat)) : Mp := ls.foldl (fun m l => putM m l (getM m l + n)) m
def askM (q : List Nat × Int) : Bool := decide (q.1.length = 2) || (decide (q.1.length = 3) && decide (0 < q.2))
def mostM (L : Mp) : Mp := L.foldl (fun m q => if askM q = true then addM m q.2 (prL q.1) else m) []
def bentM (L : Mp) : Bool := (mostM L).all fun p => decide (p.2 ≤ 0)
theorem most_take {L : Mp} {i : Nat} {q : List Nat × Int} (h : L[i]? = some q) : mostM (L.take (i + 1)) = if askM q = true then addM (mostM (L.take i)) q.2 (prL q.1) else mostM (L.take i) := by
  rw [mostM, List.take_add_one, h, List.foldl_append]
  rfl
theorem addM_take {m : Mp} {n : Int} {ls : List (List Nat)} {j : Nat} {l : List Nat} (h : ls[j]? = some l) : addM m n (ls.take (j + 1)) = putM (addM m n (ls.take j)) l (getM (addM m n (ls.take j)) l + n) := by
  rw [addM, List.take_add_one, h, List.foldl_append]
  rfl
theorem putM_len {m : Mp} {l : List Nat} {n : Int} : (putM m l n).length ≤ m.length + 1 := by
  unfold putM
  by_cases c : (m.any fun p => decide (p.1 = l)) = true
  · rw [if_pos c, List.length_map]; omega
  · rw [if_neg c, List.length_append]; exact Nat.le_refl _
theorem prL_len {l : List Nat} (h : l.length ≤ 3) : (prL l).length ≤ 9 := by
  have z := flat_len (l := l) (m := l)
  have z3 : l.length * l.length ≤ 3 * 3 := Nat.mul_le_mul h h
  exact Nat.le_trans z z3
theorem mbt_at {H : Hp} {ps : List Addr} {L : Mp} {i : Nat} {x : V} (mb : MbT H ps L) (hx : (ps.map V.ref)[i]? = some x) : ∃ p q b, x = .ref p ∧ L[i]? = some q ∧ H p = some (.tup [.ref b, .int q.2]) ∧ H b = some (.tup (lV q.1)) := by
  rw [List.getElem?_map] at hx
  obtain ⟨p, hp, rfl⟩ := Option.map_eq_some_iff.mp hx
  have hi : i < L.length := by rw [← paired_len mb]; exact (List.getElem?_eq_some_iff.mp hp).1
  obtain ⟨y, hy, b, hz⟩ := paired_get mb (List.getElem?_eq_getElem hi)
  rw [hp] at hy
  cases hy
  exact ⟨p, _, b, rfl, List.getElem?_eq_getElem hi, hz⟩
theorem kst_at {H : Hp} {qs : List Addr} {ls : List (List Nat)} {i : Nat} {x : V} (ks : KsT H qs ls) (hx : (qs.map V.ref)[i]? = some x) : ∃ q l, x = .ref q ∧ ls[i]? = some l ∧ H q = some (.tup (lV l)) := by
  rw [List.getElem?_map] at hx
  obtain ⟨p, hp, rfl⟩ := Option.map_eq_some_iff.mp hx
  have hi : i < ls.length := by rw [← paired_len ks]; exact (List.getElem?_eq_some_iff.mp hp).1
  obtain ⟨y, hy, hz⟩ := paired_get ks (List.getElem?_eq_getElem hi)
  rw [hp] at hy
  cases hy
  exact ⟨p, _, rfl, List.getElem?_eq_getElem hi, hz⟩
theorem q_ifOr {D : Ends} {σ : L2.St} {H : Hp} {t u : TT} {a c : TS} (b1 b2 : Bool) (h1 : ∀ Q : Bool → Hp → Prop, Q b1 H → t σ H Q) (h2 : ∀ Q : Bool → Hp → Prop, Q b2 H → u σ H Q) (h : if (b1 || b2) = true then a D σ H else c D σ H) : tIfS (tOr t u) a c D σ H := by
  refine h1 _ ?_
  cases b1 with
  | true =>
    rw [Bool.true_or, if_pos rfl] at h
    show (if true = true then _ else _)
    rw [if_pos rfl]
    show (if true = true then _ else _)
    rw [if_pos rfl]
    exact h
  | false =>
    rw [Bool.false_or] at h
    show (if false = true then _ else _)
    rw [if_neg (by decide)]
    exact h2 _ h
theorem t_and {σ : L2.St} {H : Hp} {t u : TT} (b1 b2 : Bool) (h1 : ∀ Q : Bool → Hp → Prop, Q b1 H → t σ H Q) (h2 : ∀ Q : Bool → Hp → Prop, Q b2 H → u σ H Q) : ∀ Q : Bool → Hp → Prop, Q (b1 && b2) H → tAnd t u σ H Q := fun Q hQ => by
  refine h1 _ ?_
  cases b1 with
  | true =>
    show (if true = true then _ else _)
    rw [if_pos rfl]
    exact h2 _ hQ
  | false =>
    show (if false = true then _ else _)
    rw [if_neg (by decide)]
    exact hQ
theorem dInt {a b : Int} : decide (V.int a = V.int b) = decide (a = b) := decide_eq_decide.mpr ⟨fun h => V.int.inj h, fun h => by rw [h]⟩
theorem ask_eq {l : List Nat} {n : Int} : (decide (V.int (((lV l).length : Nat) : Int) = V.int 2) || (decide (V.int (((lV l).length : Nat) : Int) = V.int 3) && decide ((0 : Int) < n))) = askM (l, n) := by
  rw [dInt, dInt, List.length_map]
  unfold askM
  have e2 : decide ((l.length : Int) = 2) = decide (l.length = 2) := decide_eq_decide.mpr (by omega)
  have e3 : decide ((l.length : Int) = 3) = decide (l.length = 3) := decide_eq_decide.mpr (by omega)
  rw [e2, e3]
end CS

namespace CS
open PySem PySem.Spec PyProof.Rows L2 Ek CC
def lI (l : List Nat) : List Int := l.map fun (n : Nat) => (n : Int)
theorem lV_lI {l : List Nat} : lV l = (lI l).map V.int := by rw [lI, List.map_map]; rfl
/-- a member of a sum as data -/
def encS (q : List Nat × Int) : PyData := .tuple [.tuple ((lI q.1).map .int), .int q.2]
theorem alike_S (x y : List Nat × Int) : PySem.W.alike (encS x) (encS y) = true := by
  unfold encS
  simp [PySem.W.alike, PySem.W.alikeAll, PySem.W.alike_ints]
theorem depth_S (x : List Nat × Int) : (encS x).depth ≤ 60 := by
  unfold encS
  simp [PyData.depth, PyData.depthAll, PySem.W.depth_ints]
/-! ### the order of keys and of members -/
abbrev keyLt (a b : List Nat) : Prop := lI a < lI b
theorem lI_inj {a b : List Nat} (h : lI a = lI b) : a = b := by
  induction a generalizing b with
  | nil => cases b with
    | nil => rfl
    | cons _ _ => cases h
  | cons x a ih => cases b with
    | nil => cases h
    | cons y b =>
      simp only [lI, List.map_cons, List.cons.injEq] at h
      have e : x = y := by omega
      rw [e, ih h.2]
theorem eqv_ints : ∀ (xs ys : List Int), PyData.eqvAll (xs.map .int) (ys.map .int) = decide (xs = ys)
  | [], [] => by simp [PyData.eqvAll]
  | [], _ :: _ => by simp [PyData.eqvAll]
  | _ :: _, [] => by simp [PyData.eqvAll]
  | x :: xs, y :: ys => by
    rw [List.map_cons, List.map_cons, PySem.W.eqv_all_cons, eqv_ints xs ys]
    by_cases h : x = y
    · simp [PyData.eqv, h]
    · simp [PyData.eqv, h]
theorem lt_S (p q : List Nat × Int) : PySem.W.dataLt (encS p) (encS q) = decide (lI p.1 < lI q.1 ∨ (lI p.1 = lI q.1 ∧ p.2 < q.2)) := by
  unfold encS
  rw [PySem.W.dataLt_tuple, PySem.W.dataLt_cons (by simp [PySem.W.alike, PySem.W.alike_ints])]
  have ev : PyData.eqv (.tuple ((lI p.1).map .int)) (.tuple ((lI q.1).map .int)) = decide (lI p.1 = lI q.1) := by
    rw [PyData.eqv]
    exact eqv_ints _ _
  by_cases h : lI p.1 = lI q.1
  · rw [if_pos (ev.trans (decide_eq_true h)), PySem.W.dataLt_cons (by simp [PySem.W.alike])]
    have irr : ¬ lI q.1 < lI q.1 := List.lt_irrefl _
    by_cases g : p.2 = q.2
    · rw [if_pos (by simp [PyData.eqv, g]), lex_irrefl, h, g]
      simp
    · rw [if_neg (by simp [PyData.eqv, g]), PySem.W.dataLt_int, h]
      simp only [irr, false_or, true_and]
  · rw [if_neg (by rw [ev, decide_eq_false h]; decide), PySem.W.dataLt_tuple]
    have z := PySem.W.dataLt_ints (lI p.1) (lI q.1)
    unfold PySem.W.rowLt at z
    rw [z]
    simp [h]
theorem le_S (p q : List Nat × Int) : PySem.W.dataLe false encS p q = decide (lI p.1 < lI q.1 ∨ (lI p.1 = lI q.1 ∧ p.2 ≤ q.2)) := by
  show (!PySem.W.dataLt (encS q) (encS p)) = _
  rw [lt_S]
  by_cases e : lI p.1 = lI q.1
  · have irr : ¬ lI q.1 < lI q.1 := List.lt_irrefl _
    by_cases g : q.2 < p.2
    · have g' : ¬ p.2 ≤ q.2 := by omega
      simp [e, g, g']
    · have g' : p.2 ≤ q.2 := by omega
      simp [e, g, g']
  · have e' : ¬ lI q.1 = lI p.1 := fun z => e z.symm
    by_cases g : lI q.1 < lI p.1
    · have g' : ¬ lI p.1 < lI q.1 := fun z => absurd (List.lt_trans g z) (List.lt_irrefl _)
      simp [e, e', g, g']
    · have g' : lI p.1 < lI q.1 := by
        rcases Decidable.em (lI p.1 < lI q.1) with z | z
        · exact z
        · exact absurd (List.le_antisymm (List.not_lt.mp g) (List.not_lt.mp z)) e
      simp [e, e', g, g']
theorem le_T (p q : Addr × List Int) : PySem.W.dataLe false encT p q = decide (p.2 ≤ q.2) := by
  show (!PySem.W.dataLt (encT q) (encT p)) = _
  unfold encT
  rw [PySem.W.dataLt_tuple]
  have z := PySem.W.dataLt_ints q.2 p.2
  unfold PySem.W.rowLt at z
  rw [z]
  by_cases h : q.2 < p.2
  · have h' : ¬ p.2 ≤ q.2 := fun r => List.not_lt.mpr r h
    simp [h, h']
  · have h' : p.2 ≤ q.2 := List.not_lt.mp h
    simp [h, h']
/-- members in the order of their letters -/
def Up (L : Mp) : Prop := L.Pairwise fun p q => lI p.1 < lI q.1
theorem up_sortT {zs : List (Addr × List Int)} (nd : (zs.map (·.2)).Nodup) : (zs.mergeSort (PySem.W.dataLe false encT)).Pairwise fun p q => p.2 < q.2 := by
  have pw : (zs.mergeSort (PySem.W.dataLe false encT)).Pairwise fun p q => PySem.W.dataLe false encT p q = true := List.pairwise_mergeSort (fun a b c h1 h2 => by
    rw [le_T, decide_eq_true_iff] at *
    exact List.le_trans h1 h2) (fun a b => by
    rw [le_T, le_T, Bool.or_eq_true, decide_eq_true_iff, decide_eq_true_iff]
    exact List.le_total _ _) zs
  have nd2 : ((zs.mergeSort (PySem.W.dataLe false encT)).map (·.2)).Nodup := ((List.mergeSort_perm zs (PySem.W.dataLe false encT)).map (·.2)).nodup_iff.mpr nd
  have nd3 : (zs.mergeSort (PySem.W.dataLe false encT)).Pairwise fun p q => p.2 ≠ q.2 := List.pairwise_map.mp nd2
  refine (pw.and nd3).imp fun {p q} h => ?_
  have h1 := h.1
  rw [le_T, decide_eq_true_iff] at h1
  rcases Decidable.em (p.2 < q.2) with z | z
  · exact z
  · exact absurd (List.le_antisymm h1 (List.not_lt.mp z)) h.2
theorem up_sortS {β : Type} {g : β → List Nat × Int} {zs : List β} (nd : (zs.map fun z => (g z).1).Nodup) : (zs.mergeSort (PySem.W.dataLe false fun z => encS (g z))).Pairwise fun p q => lI (g p).1 < lI (g q).1 := by
  have e : ∀ p q : β, PySem.W.dataLe false (fun z => encS (g z)) p q = decide (lI (g p).1 < lI (g q).1 ∨ (lI (g p).1 = lI (g q).1 ∧ (g p).2 ≤ (g q).2)) := fun p q => le_S (g p) (g q)
  have pw : (zs.mergeSort (PySem.W.dataLe false fun z => encS (g z))).Pairwise fun p q => PySem.W.dataLe false (fun z => encS (g z)) p q = true := List.pairwise_mergeSort (fun a b c h1 h2 => by
    rw [e, decide_eq_true_iff] at *
    rcases h1 with h1 | ⟨h1, h1'⟩ <;> rcases h2 with h2 | ⟨h2, h2'⟩
    · exact .inl (List.lt_trans h1 h2)
    · exact .inl (h2 ▸ h1)
    · exact .inl (h1 ▸ h2)
    · exact .inr ⟨h1.trans h2, by omega⟩) (fun a b => by
    rw [e, e, Bool.or_eq_true, decide_eq_true_iff, decide_eq_true_iff]
    rcases Decidable.em (lI (g a).1 < lI (g b).1) with z | z
    · exact .inl (.inl z)
    · rcases Decidable.em (lI (g b).1 < lI (g a).1) with y | y
      · exact .inr (.inl y)
      · have eq := List.le_antisymm (List.not_lt.mp y) (List.not_lt.mp z)
        rcases Int.le_total (g a).2 (g b).2 with x | x
        · exact .inl (.inr ⟨eq, x⟩)
        · exact .inr (.inr ⟨eq.symm, x⟩)) zs
  have nd2 : ((zs.mergeSort (PySem.W.dataLe false fun z => encS (g z))).map fun z => (g z).1).Nodup := ((List.mergeSort_perm zs (PySem.W.dataLe false fun z => encS (g z))).map fun z => (g z).1).nodup_iff.mpr nd
  have nd3 : (zs.mergeSort (PySem.W.dataLe false fun z => encS (g z))).Pairwise fun p q => (g p).1 ≠ (g q).1 := List.pairwise_map.mp nd2
  refine (pw.and nd3).imp fun {p q} h => ?_
  have h1 := h.1
  rw [e, decide_eq_true_iff] at h1
  rcases h1 with z | ⟨z, _⟩
  · exact z
  · exact absurd (lI_inj z) h.2
theorem up_eq {L L' : Mp} (u : Up L) (u' : Up L') (h : ∀ p, p ∈ L ↔ p ∈ L') : L = L' := by
  have nd : ∀ {L : Mp}, Up L → L.Nodup := fun {L} u => u.imp fun {p q} h e => by rw [e] at h; exact List.lt_irrefl _ h
  have pm : L.Perm L' := (List.perm_ext_iff_of_nodup (nd u) (nd u')).mpr h
  exact pm.eq_of_pairwise (le := fun (p q : List Nat × Int) => lI p.1 < lI q.1) (fun a b _ _ h1 h2 => absurd (show lI a.1 < lI a.1 from List.lt_trans h1 h2) (List.lt_irrefl _)) u u'
end CS

namespace CS
open PySem PySem.Spec PyProof.Rows L2 Ek CC
theorem dp_ints {K : PySem.W.Frag} {H : Hp} : ∀ {xs : List Int}, DpAll K H (xs.map V.int) (xs.map .int)
  | [] => .nil
  | x :: xs => .cons (.int x) dp_ints
theorem paired_zip {α β : Type} {F : α → β → Prop} {a : List α} {b : List β} (x : Paired F a b) : (a.zip b).map Prod.fst = a ∧ (a.zip b).map Prod.snd = b ∧ ∀ p ∈ a.zip b, F p.1 p.2 := by
  induction x with
  | nil => exact ⟨rfl, rfl, fun p m => by cases m⟩
  | cons h _ ih =>
    obtain ⟨h1, h2, h3⟩ := ih
    refine ⟨by rw [List.zip_cons_cons, List.map_cons, h1], by rw [List.zip_cons_cons, List.map_cons, h2], fun p m => ?_⟩
    rw [List.zip_cons_cons] at m
    rcases List.mem_cons.mp m with e | m
    · rw [e]; exact h
    · exact h3 p m
theorem paired_of {α β : Type} {F : α → β → Prop} : ∀ {l : List (α × β)}, (∀ p ∈ l, F p.1 p.2) → Paired F (l.map Prod.fst) (l.map Prod.snd)
  | [], _ => .nil
  | p :: l, h => .cons (h p List.mem_cons_self) (paired_of fun q m => h q (List.mem_cons_of_mem _ m))
theorem refs_fst {β : Type} (l : List (Addr × β)) : l.map (fun b => V.ref b.1) = (l.map Prod.fst).map V.ref := by
  rw [List.map_map]
  rfl
theorem MbT.updL {H : Hp} {ps : List Addr} {L : Mp} {D : Addr} {xs : List V} {o : HO} (e : H D = some (.lst xs)) (x : MbT H ps L) : MbT (upd H D o) ps L := by
  induction x with
  | nil => exact .nil
  | cons h _ ih =>
    obtain ⟨b, h1, h2⟩ := h
    exact .cons ⟨b, by rw [upd_ne (ne_of h1 e (by intro z; cases z))]; exact h1, by rw [upd_ne (ne_of h2 e (by intro z; cases z))]; exact h2⟩ ih
theorem call_sortS {X : Cx} (hu : X.A.units + 64 < cLine) : CallR X (.builtin "sorted") (rSortB (fun b : Addr × (List Nat × Int) => encS b.2) (fun b => V.ref b.1) X.K) := call_sortB hu
theorem find_nodup {m : Mp} (nd : (m.map (·.1)).Nodup) {i : Nat} {p : List Nat × Int} (h : m[i]? = some p) : m.find? (fun q => decide (q.1 = p.1)) = some p := by
  induction m generalizing i with
  | nil => cases h
  | cons x m ih =>
    rw [List.map_cons, List.nodup_cons] at nd
    cases i with
    | zero =>
      cases h
      exact List.find?_cons_of_pos (by simp)
    | succ i =>
      have h' : m[i]? = some p := by simpa using h
      rw [List.find?_cons_of_neg (fun z => nd.1 (by rw [of_decide_eq_true z]; exact List.mem_map.mpr ⟨p, List.mem_of_getElem? h', rfl⟩))]
      exact ih nd.2 h'
section
variable {P : Program} {w : World} {K : PySem.W.Frag} {mg : Str → Option Value} {base : Heap}
def spLTu : Sp := fun vs H Q _ => ∃ (d : Addr) (m : Mp), vs = [.ref d] ∧ H d = some (.dT (dV m)) ∧ m.length ≤ 200 ∧ (m.map (·.1)).Nodup ∧ ∀ H' t o ps L, Same H H' → o.dict = none → H' t = some (.frz o (.tup (ps.map V.ref))) → MbT H' ps L → Up L → L.Perm (m.filter fun p => decide (p.2 ≠ 0)) → Q (.ref t) H'
end
end CS

namespace CS
open PySem PySem.Spec PyProof.Rows L2 Ek CC
def sumI (r : List Int) : Int := r.sum
def onesR (n : Nat) (r : List Int) : List Nat := (List.range n).filter fun k => decide (r.getD k 0 = 1)
def subsF (n : Nat) : List (List Nat) := ((rowsOf n).filter fun r => decide (sumI r ≤ 3)).map (onesR n)
section
variable {P : Program} {w : World} {K : PySem.W.Frag} {mg : Str → Option Value} {base : Heap}
def spLSu : Sp := fun vs H Q _ => ∃ n : Nat, vs = [.int n, .int 3] ∧ n ≤ 5 ∧ ∀ H' F qs, Same H H' → H F = none → H' F = some (.lst (qs.map V.ref)) → KsT H' qs (subsF n) → Q (.ref F) H'
end
end CS

namespace CS
open PySem PySem.Spec PyProof.Rows L2 Ek CC
theorem putM_keys {m : Mp} {l : List Nat} {n : Int} : (putM m l n).map (·.1) = if m.any (fun p => decide (p.1 = l)) = true then m.map (·.1) else m.map (·.1) ++ [l] := by
  unfold putM
  by_cases c : (m.any fun p => decide (p.1 = l)) = true
  · rw [if_pos c, if_pos c, List.map_map]
    apply List.map_congr_left
    intro p _
    show (if p.1 = l then (p.1, n) else p).1 = p.1
    by_cases e : p.1 = l
    · rw [if_pos e]
    · rw [if_neg e]
  · rw [if_neg c, if_neg c, List.map_append]
    rfl
/-- letters that may be, each once -/
def okM (n : Nat) (m : Mp) : Prop := (∀ p ∈ m, p.1 ∈ subsF n) ∧ (m.map (·.1)).Nodup
theorem okM.nil {n : Nat} : okM n [] := ⟨fun p h => (by cases h), List.nodup_nil⟩
theorem okM.put {n : Nat} {m : Mp} {l : List Nat} {x : Int} (h : okM n m) (hl : l ∈ subsF n) : okM n (putM m l x) := by
  obtain ⟨h1, h2⟩ := h
  have k1 : ∀ k ∈ m.map (·.1), k ∈ subsF n := fun k hk => by
    obtain ⟨p, hp, rfl⟩ := List.mem_map.mp hk
    exact h1 p hp
  have ks := putM_keys (m := m) (l := l) (n := x)
  refine ⟨fun p hp => ?_, ?_⟩
  · have hk : p.1 ∈ (putM m l x).map (·.1) := List.mem_map.mpr ⟨p, hp, rfl⟩
    rw [ks] at hk
    by_cases c : (m.any fun p => decide (p.1 = l)) = true
    · rw [if_pos c] at hk
      exact k1 _ hk
    · rw [if_neg c] at hk
      rcases List.mem_append.mp hk with z | z
      · exact k1 _ z
      · rw [List.mem_singleton.mp z]; exact hl
  · rw [ks]
    by_cases c : (m.any fun p => decide (p.1 = l)) = true
    · rw [if_pos c]; exact h2
    · rw [if_neg c, List.nodup_append]
      refine ⟨h2, by simp, fun a ha b hb e => c ?_⟩
      rw [List.mem_singleton.mp hb] at e
      obtain ⟨p, hp, e2⟩ := List.mem_map.mp ha
      exact List.any_eq_true.mpr ⟨p, hp, decide_eq_true (by rw [e2, e])⟩
theorem okM.perm {n : Nat} {m L : Mp} {f : List Nat × Int → Bool} (h : okM n m) (p : L.Perm (m.filter f)) : okM n L := by
  refine ⟨fun q hq => h.1 q (List.mem_filter.mp (p.mem_iff.mp hq)).1, ?_⟩
  have p2 := p.map (·.1)
  refine (p2.nodup_iff).mpr ?_
  exact (List.Sublist.map _ List.filter_sublist).nodup h.2
def bnM (m : Mp) : Prop := ∀ p ∈ m, -1000000 < p.2 ∧ p.2 < 1000000
theorem bnM.put {m : Mp} {l : List Nat} {x : Int} (h : bnM m) (x0 : -1000000 < x) (x1 : x < 1000000) : bnM (putM m l x) := by
  intro p hp
  unfold putM at hp
  by_cases c : (m.any fun p => decide (p.1 = l)) = true
  · rw [if_pos c] at hp
    obtain ⟨q, hq, rfl⟩ := List.mem_map.mp hp
    by_cases e : q.1 = l
    · rw [if_pos e]; exact ⟨x0, x1⟩
    · rw [if_neg e]; exact h q hq
  · rw [if_neg c] at hp
    rcases List.mem_append.mp hp with z | z
    · exact h p z
    · rw [List.mem_singleton.mp z]; exact ⟨x0, x1⟩
/-- a sum over n letters, a tuple laid with its own dict known to be none -/
def SumF (H : Hp) (v : V) (n b : Nat) : Prop := ∃ (t : Addr) (o : Obj) (ps : List Addr) (L : Mp), v = .ref t ∧ o.dict = none ∧ H t = some (.frz o (.tup (ps.map V.ref))) ∧ MbT H ps L ∧ okM n L ∧ L.length ≤ b ∧ Up L ∧ (∀ p ∈ L, p.2 ≠ 0) ∧ bnM L
theorem subs_len : ∀ n : Fin 6, (subsF n.1).length ≤ 26 := by decide +kernel
section
variable {P : Program} {w : World} {K : PySem.W.Frag} {mg : Str → Option Value} {base : Heap}
def spLDs : Sp := fun vs H Q _ => ∃ (h dr : Addr) (n : Nat) (wd : Int), vs = [.ref h, .int n, .int wd] ∧ n ≤ 5 ∧ Hdd H h dr ∧ ∀ v H', Kp h H H' → Hdd H' h dr → SumF H' v n 90 → Q v H'
end
end CS

namespace CS
open PySem PySem.Spec PyProof.Rows L2 Ek CC
def onR (bs : List Int) (l : List Nat) : Bool := l.all fun x => decide (bs.getD x 0 = 1)
def worthM (L : Mp) (bs : List Int) : Int := ((L.filter fun q => onR bs q.1).map (·.2)).sum
section
variable {P : Program} {w : World} {K : PySem.W.Frag} {mg : Str → Option Value} {base : Heap}
def spLWo (K : PySem.W.Frag) : Sp := fun vs H Q _ => ∃ (t r : Addr) (ps : List Addr) (L : Mp) (bs : List Int), vs = [.ref t, .ref r] ∧ SqT K H t (ps.map V.ref) ∧ MbT H ps L ∧ H r = some (.tup (bs.map V.int)) ∧ (∀ q ∈ L, ∀ x ∈ q.1, x < bs.length) ∧ (∀ q ∈ L, q.1.length ≤ 3) ∧ L.length ≤ 100 ∧ ∀ H', Same H H' → Q (.int (worthM L bs)) H'
end
end CS

namespace CS
open PySem PySem.Spec PyProof.Rows L2 Ek CC
section
variable {P : Program} {w : World} {K : PySem.W.Frag} {mg : Str → Option Value} {base : Heap}
theorem ok_WAt {f : Addr} {fd : FuncData} (F : Fun K "worth_at" "worth_at" sWAt f fd) (B : Bt mg) : FnOk P w K mg base CX0 1 f fd ["told", "row"] (spLWo K) := by
  refine F.ok scWAt (fun vs H Q E h => ?_) (fun cdv A outer s H vs Q E hr h => ?_)
  · obtain ⟨t, r, ps, L, bs, rfl, _⟩ := h
    rfl
  · obtain ⟨t, r, ps, L, bs, rfl, ht, mb, hr', lb, l3, l100, q⟩ := h
    refine ⟨_, (pss_one (ps_ret (pe_callB (cr_sum rfl) (by rfl) B.sum (by decide +kernel) (pa_cons (pe_lc (own := [("letters", 2), ("number", 3)]) rfl scWAt.nd (pi_tup (pv 0)) (blkOk_by (N := NWAt) (sc := defScope sWAt) (by decide +kernel)) (fun _ _ _ _ _ => (pg_tupk (n := 2) K rfl rfl (pgs_cons (pg_name (i := 2) scWAt.nd rfl (Or.inl rfl)) (pgs_cons (pg_name (i := 3) scWAt.nd rfl (Or.inl rfl)) pgs_nil)))) (fun _ _ _ _ _ => pts_one (pt_val (pe_callB (cr_allk K rfl rfl) (by rfl) B.all (by decide +kernel) (pa_cons (pe_lc (own := [("letter", 4)]) (g := gName 4) (tt := tYes) rfl scWAt.nd (pi_tupk K rfl (pv 2)) (blkOk_by (N := NWAt) (sc := { kind := .function, names := [(".0", .local), ("letters", .local), ("number", .local), ("all", .globalImplicit), ("row", .cell)], isGenerator := false, isCoroutine := false }) (by decide +kernel)) (fun _ _ _ _ _ => pg_name (i := 4) scWAt.nd rfl (Or.inl rfl)) (fun _ _ _ _ _ => pts_nil) (fun _ _ _ _ _ => (pe_cmpR op_eq (pe_ix (ixt_k K rfl) (pv 1) (pv 4) (fun _ _ => rfl)) pe_int (nomark _)))) pa_nil)))) (fun _ _ _ _ _ => (pv 3))) pa_nil)))), ?_⟩
    refine q_ret ?_
    refine ⟨.ref t, rfl, t, rfl, ⟨_, ht⟩, fun D nD => lc_tup (K := K) (a := t) (xs := ps.map V.ref) (fun i H' => Same H H' ∧ H' D = some (.lst ((((L.take i).filter fun q => onR bs q.1).map (·.2)).map V.int))) ⟨same_upd nD, upd_same⟩ (fun i H' _ hP => sqT_same hP.1 ht) (fun i x H' hx hP => ?_) (fun H' hP => ?_)⟩
    · obtain ⟨s', hD⟩ := hP
      obtain ⟨p, qq, b, rfl, hq, hp, hb⟩ := mbt_at mb hx
      have il : i < L.length := (List.getElem?_eq_some_iff.mp hq).1
      have q3 := l3 qq (List.mem_of_getElem? hq)
      have qb := lb qq (List.mem_of_getElem? hq)
      obtain ⟨l, n⟩ := qq
      simp only at q3 qb hp hb
      have et : (L.take (i + 1)).filter (fun q => onR bs q.1) = (L.take i).filter (fun q => onR bs q.1) ++ (if onR bs l = true then [(l, n)] else []) := by
        rw [List.take_add_one, hq, List.filter_append]
        congr 1
        by_cases c : onR bs l = true
        · rw [if_pos c]
          exact List.filter_cons_of_pos (by simpa using c)
        · rw [if_neg c]
          exact List.filter_cons_of_neg (by simpa using c)
      have hb' := s' _ _ hb
      have hr2 := s' _ _ hr'
      refine ⟨p, _, rfl, tl (s' _ _ hp), rfl, _, _, rfl, _, _, rfl, rfl, ?_⟩
      refine ⟨rfl, .ref b, rfl, b, rfl, ⟨_, tl hb'⟩, fun D2 nD2 => lc_tup (K := K) (a := b) (xs := lV l) (fun k H2 => Same H' H2 ∧ H2 D2 = some (.lst (((l.take k).map fun x => decide (bs.getD x 0 = 1)).map V.bl))) ⟨same_upd nD2, upd_same⟩ (fun k H2 _ hR => tl (hR.1 _ _ hb')) (fun k y H2 hy hR => ?_) (fun H2 hR => ?_)⟩
      · obtain ⟨s2, hD2⟩ := hR
        obtain ⟨x, hx2, rfl⟩ := lV_at hy
        have xb := qb x (List.mem_of_getElem? hx2)
        have kl : k < l.length := (List.getElem?_eq_some_iff.mp hx2).1
        have g1 : (bs.map V.int)[x]? = some (.int bs[x]) := by rw [List.getElem?_map, List.getElem?_eq_getElem xb]; rfl
        have e1 : bs.getD x 0 = bs[x] := by rw [List.getD_eq_getElem?_getD, List.getElem?_eq_getElem xb]; rfl
        refine ⟨rfl, .ref r, rfl, _, rfl, r, _, _, _, rfl, rfl, tl (s2 _ _ hr2), at_z (j := x) rfl g1, rfl, _, hD2, ?_, fun c o e => ?_, ?_⟩
        · rw [List.length_map, List.length_map, List.length_take]
          exact small1000 (by omega)
        · rw [upd_ne (ne_of_none e nD2)]
          exact s2 _ _ e
        · rw [upd_same, List.take_add_one, hx2, List.map_append, List.map_append, dInt]
          show some (HO.lst (_ ++ [V.bl (decide (bs[x] = 1))])) = some (HO.lst (_ ++ [V.bl (decide (bs.getD x 0 = 1))]))
          rw [e1]
      · obtain ⟨s2, hD2⟩ := hR
        have el : l.take (lV l).length = l := by rw [lV, List.length_map, List.take_length]
        rw [el] at hD2
        refine ⟨D2, _, rfl, sl hD2, _, rfl, ?_⟩
        have ea : (l.map fun x => decide (bs.getD x 0 = 1)).all id = onR bs l := by rw [List.all_map]; rfl
        rw [ea, et]
        have hD' := s2 _ _ hD
        refine ite2 (fun c => ?_) (fun c => ?_)
        · rw [if_pos c]
          refine ⟨.int n, rfl, _, hD', ?_, fun c o e => ?_, ?_⟩
          · rw [List.length_map, List.length_map]
            have z := List.length_filter_le (fun q : List Nat × Int => onR bs q.1) (L.take i)
            rw [List.length_take] at z
            exact small1000 (by omega)
          · rw [upd_ne (ne_of_none e nD)]
            exact s2 _ _ (s' _ _ e)
          · rw [upd_same, List.map_append, List.map_append]
            rfl
        · rw [if_neg c, List.append_nil]
          exact ⟨s'.trans s2, hD'⟩
    · obtain ⟨s', hD⟩ := hP
      have el : L.take (ps.map V.ref).length = L := by rw [List.length_map, paired_len mb, List.take_length]
      rw [el] at hD
      exact ⟨D, _, rfl, sl hD, q H' s'⟩
end
end CS

namespace CS
open PySem PySem.Spec PyProof.Rows L2 Ek CC
theorem keys_kI {m : Mp} : (dV m).map (·.1) = (m.map fun p => lI p.1).map (·.map Sum.inl) := by
  rw [dV, List.map_map, List.map_map]
  apply List.map_congr_left
  intro p _
  show kI p.1 = (lI p.1).map Sum.inl
  rw [kI, lI, List.map_map]
  rfl
theorem pick_of {m : Mp} : ∀ {S : List (Addr × List Int)}, (∀ z ∈ S, ∃ p ∈ m, z.2 = lI p.1) → ∃ qs : List (Addr × (List Nat × Int)), S = qs.map (fun q => (q.1, lI q.2.1)) ∧ ∀ q ∈ qs, q.2 ∈ m
  | [], _ => ⟨[], rfl, fun q h => by cases h⟩
  | z :: S, h => by
    obtain ⟨qs, e, hq⟩ := pick_of fun y hy => h y (List.mem_cons_of_mem _ hy)
    obtain ⟨p, hp, ez⟩ := h z List.mem_cons_self
    refine ⟨(z.1, p) :: qs, ?_, fun q hq2 => ?_⟩
    · rw [List.map_cons, ← e, ← ez]
    · rcases List.mem_cons.mp hq2 with x | x
      · rw [x]; exact hp
      · exact hq q x
theorem find_mem {m : Mp} (nd : (m.map (·.1)).Nodup) {p : List Nat × Int} (h : p ∈ m) : m.find? (fun q => decide (q.1 = p.1)) = some p := by
  obtain ⟨i, hi, e⟩ := List.mem_iff_getElem.mp h
  exact find_nodup nd (by rw [List.getElem?_eq_getElem hi, e])
theorem mem_eq {m : Mp} (nd : (m.map (·.1)).Nodup) {p q : List Nat × Int} (hp : p ∈ m) (hq : q ∈ m) (e : p.1 = q.1) : p = q := by
  have a := find_mem nd hp
  have b := find_mem nd hq
  rw [e, b] at a
  exact (Option.some.inj a).symm
section
variable {P : Program} {w : World} {K : PySem.W.Frag} {mg : Str → Option Value} {base : Heap}
def spSFr : Sp := fun vs H Q _ => ∃ (d : Addr) (m : Mp), vs = [.ref d] ∧ H d = some (.dT (dV m)) ∧ m.length ≤ 200 ∧ (m.map (·.1)).Nodup ∧ ∀ H' t ps L, Same H H' → H' t = some (.tup (ps.map V.ref)) → MbT H' ps L → Up L → (∀ p, p ∈ L ↔ p ∈ m ∧ p.2 ≠ 0) → L.length ≤ m.length → Q (.ref t) H'
theorem ok_SFr {f : Addr} {fd : FuncData} (F : Fun K "sum_from" "sum_from" sSFr f fd) (B : Bt mg) : FnOk P w K mg base CX0 1 f fd ["numbers"] spSFr := by
  refine F.ok scSFr (fun vs H Q E h => ?_) (fun cdv A outer s H vs Q E hr h => ?_)
  · obtain ⟨d, m, rfl, _⟩ := h
    rfl
  · obtain ⟨d, m, rfl, hd, hm, nd, q⟩ := h
    refine ⟨_, (pss_one (ps_ret (pe_callTy call_tuple_of (by rfl) B.tuple (by decide +kernel) (pa_cons (pe_lc (own := [("letters", 1)]) (g := gName 1) rfl scSFr.nd (pi_list (pe_callB (call_sortedDT rfl hr.units) (by rfl) B.sorted (by decide +kernel) (pa_cons (pv 0) pa_nil))) (blkOk_by (N := NSFr) (sc := defScope sSFr) (by decide +kernel)) (fun _ _ _ _ _ => pg_name (i := 1) scSFr.nd rfl (Or.inl rfl)) (fun _ _ _ _ _ => pts_one (pt_cmpR op_ne (pe_dget (ru1 hr) (pv 0) (pv 1) (fun _ _ => rfl)) pe_int (nomark _))) (fun _ _ _ _ _ => (pe_tup (pa_cons (pv 1) (pa_cons (pe_dget (ru1 hr) (pv 0) (pv 1) (fun _ _ => rfl)) pa_nil))))) pa_nil)))), ?_⟩
    refine q_ret ?_
    refine ⟨.ref d, rfl, d, dV m, m.map fun p => lI p.1, rfl, .inl hd, keys_kI, fun p zs np ez hz => ⟨p, rfl, ⟨_, sl upd_same⟩, fun D nD => ?_⟩⟩
    have ndz : (zs.map (·.2)).Nodup := by
      rw [ez]
      have z : m.Pairwise fun p q => p.1 ≠ q.1 := List.pairwise_map.mp nd
      exact List.pairwise_map.mpr (z.imp fun {p q} h e => h (lI_inj e))
    have upS := up_sortT ndz
    have memS : ∀ z, z ∈ zs.mergeSort (PySem.W.dataLe false encT) ↔ z ∈ zs := fun z => (List.mergeSort_perm zs _).mem_iff
    have lenS : (zs.mergeSort (PySem.W.dataLe false encT)).length = m.length := by
      rw [List.length_mergeSort]
      have := congrArg List.length ez
      simpa using this
    obtain ⟨qs, eS, hqs⟩ := pick_of (m := m) (S := zs.mergeSort (PySem.W.dataLe false encT)) fun z mz => by
      have : z.2 ∈ zs.map (·.2) := List.mem_map.mpr ⟨z, (memS z).mp mz, rfl⟩
      rw [ez] at this
      obtain ⟨p, hp, e⟩ := List.mem_map.mp this
      exact ⟨p, hp, e.symm⟩
    have hq2 : ∀ q ∈ qs, H q.1 = some (.tup (lV q.2.1)) := fun q mq => by
      have mz : (q.1, lI q.2.1) ∈ zs := (memS _).mp (by rw [eS]; exact List.mem_map.mpr ⟨q, mq, rfl⟩)
      rw [lV_lI]
      exact hz _ mz
    have all : ∀ p, p ∈ m → ∃ q ∈ qs, q.2 = p := fun p hp => by
      have h1 : lI p.1 ∈ zs.map (·.2) := by rw [ez]; exact List.mem_map.mpr ⟨p, hp, rfl⟩
      obtain ⟨z, mz, e⟩ := List.mem_map.mp h1
      have h2 : z ∈ qs.map (fun q => (q.1, lI q.2.1)) := by rw [← eS]; exact (memS z).mpr mz
      obtain ⟨q, mq, rfl⟩ := List.mem_map.mp h2
      exact ⟨q, mq, mem_eq nd (hqs q mq) hp (lI_inj e)⟩
    rw [eS] at upS lenS nD ⊢
    rw [List.length_map] at lenS
    have upQ : (qs.map Prod.snd).Pairwise fun p q => lI p.1 < lI q.1 := List.pairwise_map.mpr ((List.pairwise_map (R := fun (p q : Addr × List Int) => p.2 < q.2)).mp upS)
    clear eS memS ndz ez hz
    have es : (qs.map (fun q => (q.1, lI q.2.1))).map (fun z => V.ref z.1) = qs.map fun q => V.ref q.1 := by rw [List.map_map]; rfl
    rw [es] at nD ⊢
    have s1 := same_upd (o := .lst (qs.map fun q => V.ref q.1)) np
    have hp : (upd H p (.lst (qs.map fun q => V.ref q.1))) p = some (.lst (qs.map fun q => V.ref q.1)) := upd_same
    generalize upd H p (.lst (qs.map fun q => V.ref q.1)) = H1 at s1 hp nD ⊢
    refine lc_list (K := K) (a := p) (xs := qs.map fun q => V.ref q.1) (fun i H' => Same H1 H' ∧ ∃ ps : List Addr, H' D = some (.lst (ps.map V.ref)) ∧ ps.length ≤ i ∧ MbT H' ps (((qs.map Prod.snd).take i).filter fun p => decide (p.2 ≠ 0))) ⟨same_upd nD, [], upd_same, Nat.le_refl _, .nil⟩ (fun i H' _ hP => sl (hP.1 _ _ hp)) (fun i x H' hx hP => ?_) (fun H' hP => ?_)
    · obtain ⟨s', ps, hD, lp, mb⟩ := hP
      rw [List.getElem?_map] at hx
      obtain ⟨qq, hb, rfl⟩ := Option.map_eq_some_iff.mp hx
      have mq := List.mem_of_getElem? hb
      have hz' := s' _ _ (s1 _ _ (hq2 qq mq))
      have hd' := s' _ _ (s1 _ _ hd)
      have fn := find_mem nd (hqs qq mq)
      have il : i < qs.length := (List.getElem?_eq_some_iff.mp hb).1
      have hb2 : (qs.map Prod.snd)[i]? = some qq.2 := by rw [List.getElem?_map, hb]; rfl
      obtain ⟨b, l, n⟩ := qq
      simp only at hz' fn hb2
      have g : DGet H' d (.ref b) (some (V.int n)) := by
        have := DGet.t (k := kI l) hd' (by rw [kV_kI]; exact hz')
        rw [valV_dV, fn] at this
        exact this
      refine ⟨rfl, .ref d, rfl, .ref b, rfl, d, _, rfl, g, ?_⟩
      have ef : ((qs.map Prod.snd).take (i + 1)).filter (fun p => decide (p.2 ≠ 0)) = ((qs.map Prod.snd).take i).filter (fun p => decide (p.2 ≠ 0)) ++ (if n ≠ 0 then [(l, n)] else []) := by
        rw [List.take_add_one, hb2, List.filter_append]
        congr 1
        by_cases c : n ≠ 0
        · rw [if_pos c]
          exact List.filter_cons_of_pos (by simpa using c)
        · rw [if_neg c]
          exact List.filter_cons_of_neg (by simpa using c)
      refine ⟨rfl, _, rfl, ?_⟩
      refine ite2 (fun c => ?_) (fun c => ?_)
      · have c' : n ≠ 0 := fun z => by subst z; simp at c
        refine ⟨.ref b, rfl, .ref d, rfl, .ref b, rfl, d, _, rfl, g, by show 2 ≤ sizeLine; decide, fun t nt => ?_⟩
        have st := same_upd (o := .tup [V.ref b, .int n]) nt
        have hDt := st _ _ hD
        refine ⟨_, hDt, by rw [List.length_map]; exact small1000 (by omega), fun c o e => ?_, ps ++ [t], by rw [upd_same, List.map_append]; rfl, by rw [List.length_append]; show _ + 1 ≤ _; omega, ?_⟩
        · rw [upd_ne (ne_of_none e nD)]
          exact st _ _ (s' _ _ e)
        · rw [ef, if_pos c']
          exact MbT.updL hDt (paired_app (mb.same st) (.cons ⟨b, upd_same, st _ _ hz'⟩ .nil))
      · have c' : ¬ n ≠ 0 := fun z => c (by simp [z])
        refine ⟨s', ps, hD, by omega, ?_⟩
        rw [ef, if_neg c', List.append_nil]
        exact mb
    · obtain ⟨s', ps, hD, lp, mb⟩ := hP
      have lb : (qs.map fun q => V.ref q.1).length = (qs.map Prod.snd).length := by rw [List.length_map, List.length_map]
      rw [lb, List.take_length] at mb
      refine ⟨D, _, rfl, .inl ⟨sl hD, fun t nt => ?_⟩⟩
      have st := same_upd (o := .tup (ps.map V.ref)) nt
      refine q _ t ps _ (s1.trans (s'.trans st)) upd_same (mb.same st) (upQ.filter _) (fun p => ?_) (Nat.le_trans (List.length_filter_le _ _) (by rw [List.length_map]; omega))
      rw [List.mem_filter, List.mem_map]
      refine ⟨fun ⟨⟨q, mq, e⟩, c⟩ => ⟨e ▸ hqs q mq, by simpa using c⟩, fun ⟨hp, c⟩ => ⟨?_, by simpa using c⟩⟩
      obtain ⟨q, mq, e⟩ := all p hp
      exact ⟨q, mq, e⟩
end
end CS

namespace CS
open PySem PySem.Spec PyProof.Rows L2 Ek CC
/-! ### numbers added up -/
def accM (m L : Mp) : Mp := L.foldl (fun m q => putM m q.1 (getM m q.1 + q.2)) m
def valL (L : Mp) (k : List Nat) : Int := ((L.filter fun q => decide (q.1 = k)).map (·.2)).sum
theorem accM_take {m L : Mp} {i : Nat} {q : List Nat × Int} (h : L[i]? = some q) : accM m (L.take (i + 1)) = putM (accM m (L.take i)) q.1 (getM (accM m (L.take i)) q.1 + q.2) := by
  rw [accM, List.take_add_one, h, List.foldl_append]
  rfl
theorem accM_len {L : Mp} : ∀ {m : Mp}, (accM m L).length ≤ m.length + L.length := by
  induction L with
  | nil => exact Nat.le_refl _
  | cons q L ih =>
    intro m
    have a := ih (m := putM m q.1 (getM m q.1 + q.2))
    have b := putM_len (m := m) (l := q.1) (n := getM m q.1 + q.2)
    show (accM (putM m q.1 (getM m q.1 + q.2)) L).length ≤ _
    rw [List.length_cons]
    omega
theorem any_mem {m : Mp} {l : List Nat} : (m.any fun p => decide (p.1 = l)) = true ↔ l ∈ m.map (·.1) := by
  rw [List.any_eq_true, List.mem_map]
  exact ⟨fun ⟨p, hp, e⟩ => ⟨p, hp, of_decide_eq_true e⟩, fun ⟨p, hp, e⟩ => ⟨p, hp, decide_eq_true e⟩⟩
theorem putM_nodup {m : Mp} {l : List Nat} {n : Int} (nd : (m.map (·.1)).Nodup) : ((putM m l n).map (·.1)).Nodup := by
  rw [putM_keys]
  by_cases c : (m.any fun p => decide (p.1 = l)) = true
  · rw [if_pos c]; exact nd
  · rw [if_neg c, List.nodup_append]
    refine ⟨nd, by simp, fun a ha b hb e => c ?_⟩
    rw [List.mem_singleton.mp hb] at e
    exact any_mem.mpr (e ▸ ha)
theorem accM_nodup {L : Mp} : ∀ {m : Mp}, (m.map (·.1)).Nodup → ((accM m L).map (·.1)).Nodup := by
  induction L with
  | nil => exact fun h => h
  | cons q L ih => exact fun h => ih (putM_nodup h)
theorem getM_none {m : Mp} {k : List Nat} (h : k ∉ m.map (·.1)) : getM m k = 0 := by
  unfold getM
  rw [List.find?_eq_none.mpr fun p hp z => h (List.mem_map.mpr ⟨p, hp, of_decide_eq_true z⟩)]
  rfl
theorem getM_mem {m : Mp} (nd : (m.map (·.1)).Nodup) {p : List Nat × Int} (h : p ∈ m) : getM m p.1 = p.2 := by
  unfold getM
  rw [find_mem nd h]
  rfl
theorem mem_iff_get {m : Mp} (nd : (m.map (·.1)).Nodup) (p : List Nat × Int) : (p ∈ m ∧ p.2 ≠ 0) ↔ (p.2 = getM m p.1 ∧ p.2 ≠ 0) := by
  refine ⟨fun ⟨h, c⟩ => ⟨(getM_mem nd h).symm, c⟩, fun ⟨h, c⟩ => ⟨?_, c⟩⟩
  rcases Decidable.em (p.1 ∈ m.map (·.1)) with z | z
  · obtain ⟨q, hq, e⟩ := List.mem_map.mp z
    have g := getM_mem nd hq
    rw [e] at g
    have : q = p := by
      obtain ⟨a, b⟩ := q
      obtain ⟨c, d⟩ := p
      simp only at e g h
      rw [e, ← g, ← h]
    exact this ▸ hq
  · rw [getM_none z] at h
    exact absurd h c
theorem getM_put {m : Mp} {l k : List Nat} {n : Int} (nd : (m.map (·.1)).Nodup) : getM (putM m l n) k = if k = l then n else getM m k := by
  have nd2 := putM_nodup (l := l) (n := n) nd
  by_cases e : k = l
  · subst e
    rw [if_pos rfl]
    refine getM_mem (p := (k, n)) nd2 ?_
    unfold putM
    by_cases c : (m.any fun p => decide (p.1 = k)) = true
    · rw [if_pos c]
      obtain ⟨p, hp, e⟩ := List.any_eq_true.mp c
      have e' := of_decide_eq_true e
      exact List.mem_map.mpr ⟨p, hp, by rw [if_pos e', e']⟩
    · rw [if_neg c]
      exact List.mem_append_right _ List.mem_cons_self
  · rw [if_neg e]
    rcases Decidable.em (k ∈ m.map (·.1)) with z | z
    · obtain ⟨q, hq, e2⟩ := List.mem_map.mp z
      have q1 : q.1 ≠ l := fun x => e (by rw [← e2, x])
      have h2 : q ∈ putM m l n := by
        unfold putM
        by_cases c : (m.any fun p => decide (p.1 = l)) = true
        · rw [if_pos c]
          exact List.mem_map.mpr ⟨q, hq, by rw [if_neg q1]⟩
        · rw [if_neg c]
          exact List.mem_append_left _ hq
      rw [← e2, getM_mem nd2 h2, getM_mem nd hq]
    · rw [getM_none z, getM_none]
      rw [putM_keys]
      by_cases c : (m.any fun p => decide (p.1 = l)) = true
      · rw [if_pos c]; exact z
      · rw [if_neg c, List.mem_append, List.mem_singleton]
        exact fun x => x.elim z e
theorem valL_cons {q : List Nat × Int} {L : Mp} {k : List Nat} : valL (q :: L) k = (if k = q.1 then q.2 else 0) + valL L k := by
  unfold valL
  by_cases c : q.1 = k
  · rw [List.filter_cons_of_pos (by simpa using c), List.map_cons, List.sum_cons, if_pos c.symm]
  · rw [List.filter_cons_of_neg (by simpa using c), if_neg (fun z => c z.symm), Int.zero_add]
theorem valL_app {L M : Mp} {k : List Nat} : valL (L ++ M) k = valL L k + valL M k := by
  induction L with
  | nil => rw [List.nil_append, show valL [] k = 0 from rfl, Int.zero_add]
  | cons q L ih => rw [List.cons_append, valL_cons, valL_cons, ih, Int.add_assoc]
theorem get_acc {L : Mp} : ∀ {m : Mp} {k : List Nat}, (m.map (·.1)).Nodup → getM (accM m L) k = getM m k + valL L k := by
  induction L with
  | nil => intro m k _; rw [show valL [] k = 0 from rfl, Int.add_zero]; rfl
  | cons q L ih =>
    intro m k nd
    show getM (accM (putM m q.1 (getM m q.1 + q.2)) L) k = _
    rw [ih (putM_nodup nd), getM_put nd, valL_cons]
    by_cases c : k = q.1
    · rw [if_pos c, if_pos c, c, Int.add_assoc]
    · rw [if_neg c, if_neg c, Int.zero_add]
theorem get_val {L : Mp} {k : List Nat} (nd : (L.map (·.1)).Nodup) : getM L k = valL L k := by
  induction L with
  | nil => rfl
  | cons q L ih =>
    rw [List.map_cons, List.nodup_cons] at nd
    rw [valL_cons]
    by_cases c : k = q.1
    · have z : valL L k = 0 := by rw [← ih nd.2, getM_none (by rw [c]; exact nd.1)]
      rw [if_pos c, z, Int.add_zero]
      unfold getM
      rw [List.find?_cons_of_pos (by simpa using c.symm)]
      rfl
    · rw [if_neg c, Int.zero_add, ← ih nd.2]
      unfold getM
      rw [List.find?_cons_of_neg (by simpa using fun z : q.1 = k => c z.symm)]
section
variable {P : Program} {w : World} {K : PySem.W.Frag} {mg : Str → Option Value} {base : Heap}
theorem cat_S {H : Hp} {a b : Addr} {xs ys : List V} {Q : VK} (ha : SqT K H a xs) (hb : SqT K H b ys) (hz : xs.length + ys.length ≤ 1000) (k : ∀ t H', Same H H' → SqT K H' t (xs ++ ys) → Q (.ref t) H') : rCatA K (.ref a) (.ref b) H Q := by
  refine ⟨a, b, xs, ys, rfl, rfl, ha, hb, Nat.le_of_lt (small1000 hz), fun z => ?_, fun _ z => ?_, fun _ _ p np => k p _ (same_upd np) (tl upd_same)⟩
  · subst z
    exact k b H (Same.refl H) hb
  · subst z
    rw [List.append_nil] at k
    exact k a H (Same.refl H) ha
theorem sqT_but {H H' : Hp} {a d : Addr} {xs : List V} {kvs : List (List L2.Key × V)} (k : ∀ c o, c ≠ d → H c = some o → H' c = some o) (hd : H d = some (.dT kvs)) (x : SqT K H a xs) : SqT K H' a xs := by
  rcases x with (e | ⟨o, e⟩) | c
  · exact .inl (.inl (k _ _ (ne_of e hd (by intro z; cases z)) e))
  · exact .inl (.inr ⟨o, k _ _ (ne_of e hd (by intro z; cases z)) e⟩)
  · exact .inr c
end
end CS

namespace CS
open PySem PySem.Spec PyProof.Rows L2 Ek CC
theorem cut_lo (xs : List V) (n : Nat) : cutV xs (some (n : Int)) none = xs.drop n := by
  unfold cutV
  rw [HT.sIx_nat, HT.sIx_none]
  by_cases h : n ≤ xs.length
  · rw [Nat.min_eq_left h]
    exact List.take_of_length_le (by rw [List.length_drop]; exact Nat.le_refl _)
  · rw [Nat.min_eq_right (by omega), List.drop_of_length_le (Nat.le_refl _), List.drop_of_length_le (by omega), List.take_nil]
theorem cut_hi (xs : List V) (n : Nat) : cutV xs none (some (n : Int)) = xs.take n := by
  unfold cutV
  rw [HT.sIx_nat, HT.sIx_none, List.drop_zero, Nat.sub_zero]
  by_cases h : n ≤ xs.length
  · rw [Nat.min_eq_left h]
  · rw [Nat.min_eq_right (by omega), List.take_of_length_le (Nat.le_refl _), List.take_of_length_le (by omega)]
theorem cut_lo1 (xs : List V) (n : Nat) : cutV xs (some ((n : Int) + 1)) none = xs.drop (n + 1) := cut_lo xs (n + 1)
theorem noPart {σ : L2.St} {H : Hp} {Q : Option Int → Hp → Prop} (h : Q none H) : tNoPart σ H Q := h
theorem sl_S {K : PySem.W.Frag} {H : Hp} {a : Addr} {xs ys : List V} {lo hi : Option Int} {Q : VK} (ha : SqT K H a xs) (e : cutV xs lo hi = ys) (k : ∀ t H', Same H H' → SqT K H' t ys → Q (.ref t) H') : rSlA K (.ref a) lo hi H Q := by
  refine ⟨a, xs, rfl, ha, fun ⟨z1, z2⟩ => ?_, fun _ p np => k p _ (same_upd np) (tl (by rw [upd_same, e]))⟩
  refine k a H (Same.refl H) ?_
  rw [← e]
  unfold cutV
  rw [z1, z2, Nat.sub_zero, List.drop_zero, List.take_length]
  exact ha
/-- a comprehension over zip of two tuples, of any lengths -/
theorem lc_zipT2 {K : PySem.W.Frag} {a b : Addr} {xs ys : List V} {n : Nat} {g : TG} {tt : TT} {te : TE} {vs : List Nat} {σ : L2.St} {H1 : Hp} {D : Addr} {Qd : Hp → Prop} (nx : n ≤ xs.length) (ny : n ≤ ys.length) (ne : xs.length ≤ n ∨ ys.length ≤ n) (Pv : Nat → Hp → Prop) (h0 : Pv 0 (upd H1 D (.lst []))) (hl : ∀ i H, i ≤ n → Pv i H → SqT K H a xs ∧ SqT K H b ys)
    (hs : ∀ i x y H T, i < n → xs[i]? = some x → ys[i]? = some y → Pv i H → H T = none → g (.ref T) (wipe σ vs) (upd H T (.tup [x, y])) fun σ2 H2 => wipe σ2 vs = wipe σ vs ∧ tt σ2 H2 fun b H3 =>
      if b = true then te σ2 H3 fun y H4 => ∃ acc, H4 D = some (.lst acc) ∧ acc.length < sizeLine ∧ Pv (i + 1) (upd H4 D (.lst (acc ++ [y]))) else Pv (i + 1) H3) (hd : ∀ H, Pv n H → Qd H) :
    ∃ W : Nat → Nat → Hp → Prop, (∃ m, W 0 m (upd H1 D (.lst []))) ∧ ∀ i m H, W i m H →
      ((RZ.ItzT K a b).stop i H ∧ Qd H) ∨ ((RZ.ItzT K a b).go i H ∧ ∃ Nx : Hp → Prop, (∀ H', Nx H' → ∃ m', m' < m ∧ W (i + 1) m' H') ∧ ∀ x H', (RZ.ItzT K a b).yld i H x H' → g x (wipe σ vs) H' fun σ2 H2 => wipe σ2 vs = wipe σ vs ∧ tt σ2 H2 fun b H3 =>
        if b = true then te σ2 H3 fun y H4 => ∃ acc, H4 D = some (.lst acc) ∧ acc.length < sizeLine ∧ Nx (upd H4 D (.lst (acc ++ [y]))) else Nx H3) := by
  refine ⟨fun i m H => i + m = n ∧ Pv i H, ⟨n, by omega, h0⟩, fun i m H ⟨em, p⟩ => ?_⟩
  obtain ⟨q1, q2⟩ := hl i H (by omega) p
  by_cases lt : i < n
  · refine .inr ⟨⟨xs, ys, xs[i], ys[i], q1, q2, List.getElem?_eq_getElem (by omega), List.getElem?_eq_getElem (by omega)⟩, Pv (i + 1), fun H' p' => ⟨m - 1, by omega, by omega, p'⟩, fun x H' y => ?_⟩
    obtain ⟨T, x1, y1, rfl, nT, rfl, gx, gy⟩ := y
    exact hs i x1 y1 H T lt (gx xs q1) (gy ys q2) p nT
  · obtain rfl : i = n := by omega
    exact .inl ⟨⟨xs, ys, q1, q2, ne⟩, hd H p⟩
/-- a comprehension over zip of two lists, of any lengths -/
theorem lc_zipL2 {K : PySem.W.Frag} {a b : Addr} {xs ys : List V} {n : Nat} {g : TG} {tt : TT} {te : TE} {vs : List Nat} {σ : L2.St} {H1 : Hp} {D : Addr} {Qd : Hp → Prop} (nx : n ≤ xs.length) (ny : n ≤ ys.length) (ne : xs.length ≤ n ∨ ys.length ≤ n) (Pv : Nat → Hp → Prop) (h0 : Pv 0 (upd H1 D (.lst []))) (hl : ∀ i H, i ≤ n → Pv i H → SqL K H a xs ∧ SqL K H b ys)
    (hs : ∀ i x y H T, i < n → xs[i]? = some x → ys[i]? = some y → Pv i H → H T = none → g (.ref T) (wipe σ vs) (upd H T (.tup [x, y])) fun σ2 H2 => wipe σ2 vs = wipe σ vs ∧ tt σ2 H2 fun b H3 =>
      if b = true then te σ2 H3 fun y H4 => ∃ acc, H4 D = some (.lst acc) ∧ acc.length < sizeLine ∧ Pv (i + 1) (upd H4 D (.lst (acc ++ [y]))) else Pv (i + 1) H3) (hd : ∀ H, Pv n H → Qd H) :
    ∃ W : Nat → Nat → Hp → Prop, (∃ m, W 0 m (upd H1 D (.lst []))) ∧ ∀ i m H, W i m H →
      ((Itz K a b).stop i H ∧ Qd H) ∨ ((Itz K a b).go i H ∧ ∃ Nx : Hp → Prop, (∀ H', Nx H' → ∃ m', m' < m ∧ W (i + 1) m' H') ∧ ∀ x H', (Itz K a b).yld i H x H' → g x (wipe σ vs) H' fun σ2 H2 => wipe σ2 vs = wipe σ vs ∧ tt σ2 H2 fun b H3 =>
        if b = true then te σ2 H3 fun y H4 => ∃ acc, H4 D = some (.lst acc) ∧ acc.length < sizeLine ∧ Nx (upd H4 D (.lst (acc ++ [y]))) else Nx H3) := by
  refine ⟨fun i m H => i + m = n ∧ Pv i H, ⟨n, by omega, h0⟩, fun i m H ⟨em, p⟩ => ?_⟩
  obtain ⟨q1, q2⟩ := hl i H (by omega) p
  by_cases lt : i < n
  · refine .inr ⟨⟨xs, ys, xs[i], ys[i], q1, q2, List.getElem?_eq_getElem (by omega), List.getElem?_eq_getElem (by omega)⟩, Pv (i + 1), fun H' p' => ⟨m - 1, by omega, by omega, p'⟩, fun x H' y => ?_⟩
    obtain ⟨T, x1, y1, rfl, nT, rfl, gx, gy⟩ := y
    exact hs i x1 y1 H T lt (gx xs q1) (gy ys q2) p nT
  · obtain rfl : i = n := by omega
    exact .inl ⟨⟨xs, ys, q1, q2, ne⟩, hd H p⟩
/-! ### rising -/
def riseI (xs : List Int) : Bool := (xs.zip (xs.drop 1)).all fun p => decide (p.1 < p.2)
def riseT (xss : List (List Int)) : Bool := (xss.zip (xss.drop 1)).all fun p => HT.lexLt p.1 p.2
/-- tuples of ints, some of them frozen -/
abbrev RtS (K : PySem.W.Frag) (H : Hp) (rs : List Addr) (bss : List (List Int)) : Prop := Paired (fun r (bs : List Int) => SqT K H r (bs.map V.int)) rs bss
theorem RtS.same {K : PySem.W.Frag} {H H' : Hp} {rs : List Addr} {bss : List (List Int)} (s : Same H H') (x : RtS K H rs bss) : RtS K H' rs bss := by
  induction x with
  | nil => exact .nil
  | cons e _ ih => exact .cons (sqT_same s e) ih
theorem RtS.updL {K : PySem.W.Frag} {H : Hp} {rs : List Addr} {bss : List (List Int)} {D : Addr} {xs : List V} {u : HO} (e : H D = some (.lst xs)) (x : RtS K H rs bss) : RtS K (upd H D u) rs bss := by
  induction x with
  | nil => exact .nil
  | cons h _ ih =>
    refine .cons ?_ ih
    rcases h with (g | ⟨o, g⟩) | c
    · exact .inl (.inl (by rw [upd_ne (ne_of g e (by intro z; cases z))]; exact g))
    · exact .inl (.inr ⟨o, by rw [upd_ne (ne_of g e (by intro z; cases z))]; exact g⟩)
    · exact .inr c
section
variable {P : Program} {w : World} {K : PySem.W.Frag} {mg : Str → Option Value} {base : Heap}
def spIsR (K : PySem.W.Frag) : Sp := fun vs H Q _ => ∃ (a : Addr) (xs : List Int), vs = [.ref a] ∧ SqT K H a (xs.map V.int) ∧ xs.length ≤ 500 ∧ ∀ H', Same H H' → Q (.bl (riseI xs)) H'
def spIsRt (K : PySem.W.Frag) : Sp := fun vs H Q _ => ∃ (a : Addr) (rs : List Addr) (xss : List (List Int)), vs = [.ref a] ∧ H a = some (.lst (rs.map V.ref)) ∧ RtS K H rs xss ∧ xss.length ≤ 500 ∧ ∀ H', Same H H' → Q (.bl (riseT xss)) H'
end
end CS

namespace CS
open PySem PySem.Spec PyProof.Rows L2 Ek CC
/-! ### any value as data -/
mutual
inductive Dv (N : Addr → Prop) (H : Hp) : V → PyData → Prop
  | non : Dv N H .non .none
  | bl (b : Bool) : Dv N H (.bl b) (.bool b)
  | int (i : Int) : Dv N H (.int i) (.int i)
  | str (s : Str) : Dv N H (.str s) (.str s)
  | tup {a : Addr} {xs : List V} {ds : List PyData} (h : Rd H a (.tup xs)) (p : DvAll N H xs ds) : Dv N H (.ref a) (.tuple ds)
  | lst {a : Addr} {xs : List V} {ds : List PyData} (h : H a = some (.lst xs)) (n : N a) (p : DvAll N H xs ds) : Dv N H (.ref a) (.list ds)
inductive DvAll (N : Addr → Prop) (H : Hp) : List V → List PyData → Prop
  | nil : DvAll N H [] []
  | cons {v : V} {d : PyData} {vs : List V} {ds : List PyData} (h : Dv N H v d) (t : DvAll N H vs ds) : DvAll N H (v :: vs) (d :: ds)
end
mutual
theorem Dv.imp {N N' : Addr → Prop} {H H' : Hp} (hT : ∀ a xs, Rd H a (.tup xs) → Rd H' a (.tup xs)) (hL : ∀ a xs, N a → H a = some (.lst xs) → N' a ∧ H' a = some (.lst xs)) : ∀ {v : V} {d : PyData}, Dv N H v d → Dv N' H' v d
  | _, _, .non => .non
  | _, _, .bl b => .bl b
  | _, _, .int i => .int i
  | _, _, .str s => .str s
  | _, _, .tup h p => .tup (hT _ _ h) (DvAll.imp hT hL p)
  | _, _, .lst h n p => .lst (hL _ _ n h).2 (hL _ _ n h).1 (DvAll.imp hT hL p)
theorem DvAll.imp {N N' : Addr → Prop} {H H' : Hp} (hT : ∀ a xs, Rd H a (.tup xs) → Rd H' a (.tup xs)) (hL : ∀ a xs, N a → H a = some (.lst xs) → N' a ∧ H' a = some (.lst xs)) : ∀ {vs : List V} {ds : List PyData}, DvAll N H vs ds → DvAll N' H' vs ds
  | _, _, .nil => .nil
  | _, _, .cons h t => .cons (Dv.imp hT hL h) (DvAll.imp hT hL t)
end
variable {N : Addr → Prop}
theorem rd_same {H H' : Hp} (s : Same H H') {a : Addr} {u : HO} (x : Rd H a u) : Rd H' a u := by
  rcases x with e | ⟨o, e⟩
  · exact .inl (s _ _ e)
  · exact .inr ⟨o, s _ _ e⟩
theorem Dv.same {H H' : Hp} (s : Same H H') {v : V} {d : PyData} (x : Dv N H v d) : Dv N H' v d := x.imp (fun _ _ => rd_same s) (fun _ _ n e => ⟨n, s _ _ e⟩)
theorem DvAll.same {H H' : Hp} (s : Same H H') {v : List V} {d : List PyData} (x : DvAll N H v d) : DvAll N H' v d := x.imp (fun _ _ => rd_same s) (fun _ _ n e => ⟨n, s _ _ e⟩)
theorem Dv.kp {h dr : Addr} {H H' : Hp} (hd : Hdd H h dr) (kp : Kp h H H') (nh : ¬ N h) {v : V} {d : PyData} (x : Dv N H v d) : Dv N H' v d := x.imp (fun a xs r => by
  rcases r with e | ⟨o, e⟩
  · exact .inl (kp _ _ (hd.ns e (fun _ _ z => by cases z)) e)
  · exact .inr ⟨o, kp _ _ (hd.ns e (fun _ _ z => by cases z)) e⟩) (fun a xs n e => ⟨n, kp _ _ (fun z => nh (z ▸ n)) e⟩)
theorem Dv.updL {H : Hp} {D : Addr} {ys : List V} {u : HO} (e : H D = some (.lst ys)) (nD : ¬ N D) {v : V} {d : PyData} (x : Dv N H v d) : Dv N (upd H D u) v d := x.imp (fun a xs r => by
  rcases r with g | ⟨o, g⟩
  · exact .inl (by rw [upd_ne (ne_of g e (by intro z; cases z))]; exact g)
  · exact .inr ⟨o, by rw [upd_ne (ne_of g e (by intro z; cases z))]; exact g⟩) (fun a xs n g => ⟨n, by rw [upd_ne (fun z : a = D => nD (z ▸ n))]; exact g⟩)
theorem Dv.weak {N' : Addr → Prop} (hN : ∀ a, N a → N' a) {H : Hp} {v : V} {d : PyData} (x : Dv N H v d) : Dv N' H v d := x.imp (fun _ _ r => r) (fun a xs n e => ⟨hN a n, e⟩)
theorem dv_len {H : Hp} : ∀ {vs : List V} {ds : List PyData}, DvAll N H vs ds → vs.length = ds.length
  | _, _, .nil => rfl
  | _, _, .cons _ t => by rw [List.length_cons, List.length_cons, dv_len t]
theorem dv_at {H : Hp} : ∀ {vs : List V} {ds : List PyData} {i : Nat} {x : V}, DvAll N H vs ds → vs[i]? = some x → ∃ d, ds[i]? = some d ∧ Dv N H x d
  | _, _, _, _, .nil, h => by cases h
  | _, _, 0, _, .cons h _, e => by cases e; exact ⟨_, rfl, h⟩
  | _, _, i + 1, _, .cons _ t, e => by
    have e' := e
    rw [List.getElem?_cons_succ] at e'
    obtain ⟨d, h1, h2⟩ := dv_at t e'
    exact ⟨d, by rw [List.getElem?_cons_succ]; exact h1, h2⟩
def isTupD : PyData → Bool
  | .tuple _ => true
  | _ => false
def isIntB : PyData → Bool
  | .int _ => true
  | .bool _ => true
  | _ => false
def isBoolD : PyData → Bool
  | .bool _ => true
  | _ => false
def isIntD : PyData → Bool
  | .int _ => true
  | _ => false
section
variable {K : PySem.W.Frag}
theorem ty_of {H : Hp} {v : V} {d : PyData} (x : Dv N H v d) : ∃ t, TyX K H v t ∧ PySem.W.kitOne K t (.type "tuple") = some (isTupD d) ∧ PySem.W.kitOne K t (.type "int") = some (isIntB d) ∧ PySem.W.kitOne K t (.type "bool") = some (isBoolD d) := by
  cases x with
  | non => exact ⟨_, .base .non, kit_ty (r := false) (by decide +kernel), kit_ty (r := false) (by decide +kernel), kit_ty (r := false) (by decide +kernel)⟩
  | bl b => exact ⟨_, .base (.bl _), kit_ty (r := false) (by decide +kernel), kit_ty (r := true) (by decide +kernel), kit_ty (r := true) (by decide +kernel)⟩
  | int i => exact ⟨_, .base (.int _), kit_ty (r := false) (by decide +kernel), kit_ty (r := true) (by decide +kernel), kit_ty (r := false) (by decide +kernel)⟩
  | str s => exact ⟨_, .base (.str _), kit_ty (r := false) (by decide +kernel), kit_ty (r := false) (by decide +kernel), kit_ty (r := false) (by decide +kernel)⟩
  | tup h p =>
    rcases h with h | ⟨o, h⟩
    · exact ⟨_, .base (.tup h), kit_ty (r := true) (by decide +kernel), kit_ty (r := false) (by decide +kernel), kit_ty (r := false) (by decide +kernel)⟩
    · exact ⟨_, .fTuple h, kit_ty (r := true) (by decide +kernel), kit_ty (r := false) (by decide +kernel), kit_ty (r := false) (by decide +kernel)⟩
  | lst h n p => exact ⟨_, .base (.lst h), kit_ty (r := false) (by decide +kernel), kit_ty (r := false) (by decide +kernel), kit_ty (r := false) (by decide +kernel)⟩
theorem tup_dv {H : Hp} {v : V} {d : PyData} (x : Dv N H v d) (e : isTupD d = true) : ∃ (a : Addr) (xs : List V) (ds : List PyData), v = .ref a ∧ SqT K H a xs ∧ d = .tuple ds ∧ DvAll N H xs ds := by
  cases x with
  | tup h p => exact ⟨_, _, _, rfl, .inl h, rfl, p⟩
  | _ => cases e
theorem int_dv {H : Hp} {v : V} {d : PyData} (x : Dv N H v d) (e : isIntD d = true) : ∃ i, v = .int i ∧ d = .int i := by
  cases x with
  | int i => exact ⟨i, rfl, rfl⟩
  | _ => cases e
end
theorem int_split (d : PyData) : isIntD d = (isIntB d && !isBoolD d) := by cases d <;> rfl
def belD (n : Int) : PyData → Bool
  | .int i => decide (0 ≤ i) && decide (i < n)
  | _ => false
theorem bel_not {n : Int} {d : PyData} (h : isIntD d = false) : belD n d = false := by cases d <;> first | rfl | cases h
section
variable {P : Program} {w : World} {K : PySem.W.Frag} {mg : Str → Option Value} {base : Heap}
def spIsI : Sp := fun vs H Q _ => ∃ (N : Addr → Prop) (v : V) (d : PyData), vs = [v] ∧ Dv N H v d ∧ Q (.bl (isIntD d)) H
theorem ok_IsI {f : Addr} {fd : FuncData} (F : Fun K "is_integer" "is_integer" sIsI f fd) (B : Bt mg) : FnOk P w K mg base CX0 1 f fd ["value"] spIsI := by
  refine F.ok scIsI (fun vs H Q E h => ?_) (fun cdv A outer s H vs Q E hr h => ?_)
  · obtain ⟨N, v, d, rfl, _⟩ := h
    rfl
  · obtain ⟨N, v, d, rfl, dv, q⟩ := h
    refine ⟨_, (pss_one (ps_ret (pe_and (pe_callB call_isi (by rfl) B.isinstance (by decide +kernel) (pa_cons (pv 0) (pa_cons (pe_bltn (v := .ty "int") (by rfl) B.int (by decide +kernel) rfl) pa_nil))) (pe_one (pe_not (pe_callB call_isi (by rfl) B.isinstance (by decide +kernel) (pa_cons (pv 0) (pa_cons (pe_bltn (v := .ty "bool") (by rfl) B.bool (by decide +kernel) rfl) pa_nil)))))))), ?_⟩
    refine q_ret ?_
    obtain ⟨ty, hty, k1, k2, k3⟩ := ty_of (K := K) dv
    rw [int_split] at q
    refine ⟨v, rfl, v, _, ty, _, isIntB d, rfl, .ty _, hty, k2, _, rfl, ?_⟩
    cases e : isIntB d with
    | false => rw [e] at q; exact q
    | true =>
      rw [e] at q
      exact ⟨v, rfl, v, _, ty, _, isBoolD d, rfl, .ty _, hty, k3, _, rfl, q⟩
def spINB : Sp := fun vs H Q _ => ∃ (N : Addr → Prop) (v : V) (d : PyData) (n : Int), vs = [v, .int n] ∧ Dv N H v d ∧ Q (.bl (belD n d)) H
theorem ok_INB {f : Addr} {fd : FuncData} (F : Fun K "is_number_below" "is_number_below" sINB f fd) (B : Bt mg) {fIsI : Addr} {fdIsI : FuncData} (GIsI : FnOk P w K mg base CX0 1 fIsI fdIsI ["value"] spIsI) (kIsI : PySem.W.keepIn K (.ref fIsI) = true) (bIsI : Binds K fdIsI ["value"] []) (gIsI : mg "is_integer" = some (.ref fIsI)) : FnOk P w K mg base CX0 2 f fd ["value", "limit"] spINB := by
  refine F.ok scINB (fun vs H Q E h => ?_) (fun cdv A outer s H vs Q E hr h => ?_)
  · obtain ⟨N, v, d, n, rfl, _⟩ := h
    rfl
  · obtain ⟨N, v, d, n, rfl, dv, q⟩ := h
    refine ⟨_, (pss_one (ps_ret (pe_and (pe_call GIsI (hr.mono (by decide)) (by rfl) gIsI kIsI bIsI .nil pass0 (pa_cons (pv 0) pa_nil)) (pe_one (pe_chain op_le op_lt pe_int (pv 0) (pv 1)))))), ?_⟩
    refine q_ret ?_
    refine ⟨v, rfl, N, v, d, rfl, dv, _, rfl, ?_⟩
    cases e : isIntD d with
    | false => rw [bel_not e] at q; exact q
    | true =>
      obtain ⟨i, rfl, rfl⟩ := int_dv dv e
      refine ⟨.int i, rfl, 0, i, rfl, rfl, _, rfl, ?_⟩
      have q' : Q (.bl (decide (0 ≤ i) && decide (i < n))) H := q
      cases c : decide (0 ≤ i) with
      | false => rw [c] at q'; exact q'
      | true => rw [c] at q'; exact ⟨.int n, rfl, i, n, rfl, rfl, q'⟩
end
end CS

namespace CS
open PySem PySem.Spec PyProof.Rows L2 Ek CC
variable {N : Addr → Prop}
def intOf : PyData → Int
  | .int i => i
  | _ => 0
def lettersD (n : Int) : PyData → Bool
  | .tuple ds => decide (ds.length ≤ 3) && (ds.all (belD n) && riseI (ds.map intOf))
  | _ => false
def memberD (n : Int) : PyData → Bool
  | .tuple ds => decide (ds.length = 2) && (lettersD n (ds.getD 0 .none) && (isIntD (ds.getD 1 .none) && decide (intOf (ds.getD 1 .none) ≠ 0)))
  | _ => false
def keyOf : PyData → List Int
  | .tuple (.tuple ds :: _) => ds.map intOf
  | _ => []
def isSumD (n : Int) : PyData → Bool
  | .tuple ds => ds.all (memberD n) && riseT (ds.map keyOf)
  | _ => false
theorem letters_no {n : Int} {d : PyData} (h : isTupD d = false) : lettersD n d = false := by cases d <;> first | rfl | cases h
theorem member_no {n : Int} {d : PyData} (h : isTupD d = false) : memberD n d = false := by cases d <;> first | rfl | cases h
theorem sum_no {n : Int} {d : PyData} (h : isTupD d = false) : isSumD n d = false := by cases d <;> first | rfl | cases h
theorem ints_dv {n : Int} {H : Hp} : ∀ {vs : List V} {ds : List PyData}, DvAll N H vs ds → ds.all (belD n) = true → vs = (ds.map intOf).map V.int
  | _, _, .nil, _ => rfl
  | _, _, .cons h t, e => by
    rw [List.all_cons, Bool.and_eq_true] at e
    rw [List.map_cons, List.map_cons, ← ints_dv t e.2]
    cases h with
    | int i => rfl
    | _ => cases e.1
theorem mem_dv {K : PySem.W.Frag} {n : Int} {H : Hp} {x : V} {e : PyData} (dx : Dv N H x e) (m : memberD n e = true) : ∃ (b r : Addr) (y1 : V) (d0 d1 : PyData), x = .ref b ∧ SqT K H b [.ref r, y1] ∧ SqT K H r ((keyOf e).map V.int) ∧ e = .tuple [d0, d1] ∧ Dv N H (.ref r) d0 ∧ Dv N H y1 d1 ∧ lettersD n d0 = true ∧ isIntD d1 = true ∧ intOf d1 ≠ 0 := by
  have tt : isTupD e = true := by
    cases z : isTupD e with
    | true => rfl
    | false => rw [member_no z] at m; cases m
  obtain ⟨b, xs, ds, rfl, ht, rfl, p⟩ := tup_dv (K := K) dx tt
  have m' : (decide (ds.length = 2) && (lettersD n (ds.getD 0 .none) && (isIntD (ds.getD 1 .none) && decide (intOf (ds.getD 1 .none) ≠ 0)))) = true := m
  rw [Bool.and_eq_true, Bool.and_eq_true, Bool.and_eq_true, decide_eq_true_iff, decide_eq_true_iff] at m'
  obtain ⟨c, m1, m2, m3⟩ := m'
  cases p with
  | nil => cases c
  | @cons x0 d0 xs ds v0 p =>
  cases p with
  | nil => cases c
  | @cons x1 d1 xs ds v1 p =>
  cases p with
  | cons _ _ => simp at c
  | nil =>
  have m1' : lettersD n d0 = true := m1
  have t0 : isTupD d0 = true := by
    cases z : isTupD d0 with
    | true => rfl
    | false => rw [letters_no z] at m1'; cases m1'
  obtain ⟨r, ys, es, rfl, hr, rfl, p0⟩ := tup_dv (K := K) v0 t0
  have l0 : (decide (es.length ≤ 3) && (es.all (belD n) && riseI (es.map intOf))) = true := m1'
  rw [Bool.and_eq_true, Bool.and_eq_true] at l0
  refine ⟨b, r, x1, _, d1, rfl, ht, ?_, rfl, v0, v1, m1', m2, m3⟩
  show SqT K H r ((es.map intOf).map V.int)
  rw [← ints_dv p0 l0.2.1]
  exact hr
section
variable {P : Program} {w : World} {K : PySem.W.Frag} {mg : Str → Option Value} {base : Heap}
def spArL : Sp := fun vs H Q _ => ∃ (N : Addr → Prop) (v : V) (d : PyData) (n : Int), vs = [v, .int n] ∧ Dv N H v d ∧ ∀ H', Same H H' → Q (.bl (lettersD n d)) H'
def spIsM : Sp := fun vs H Q _ => ∃ (N : Addr → Prop) (v : V) (d : PyData) (n : Int), vs = [v, .int n] ∧ Dv N H v d ∧ ∀ H', Same H H' → Q (.bl (memberD n d)) H'
def spIsS : Sp := fun vs H Q _ => ∃ (N : Addr → Prop) (v : V) (d : PyData) (n : Int), vs = [v, .int n] ∧ Dv N H v d ∧ (∀ ds, d = .tuple ds → ds.length ≤ 200) ∧ ∀ H', Same H H' → Q (.bl (isSumD n d)) H'
end
end CS

namespace CS
open PySem PySem.Spec PyProof.Rows L2 Ek CC
/-! ### a price's sum -/
theorem len3s : ∀ n : Fin 6, ∀ l ∈ subsF n.1, l.length ≤ 3 := by decide +kernel
theorem below : ∀ n : Fin 6, ∀ l ∈ subsF n.1, ∀ z ∈ l, z < n.1 := by decide +kernel
theorem worth_app {L M : Mp} {bs : List Int} : worthM (L ++ M) bs = worthM L bs + worthM M bs := by
  unfold worthM
  rw [List.filter_append, List.map_append, List.sum_append]
theorem worth_one {l : List Nat} {x : Int} {bs : List Int} : worthM [(l, x)] bs = if onR bs l = true then x else 0 := by
  unfold worthM
  by_cases c : onR bs l = true
  · rw [if_pos c, List.filter_cons_of_pos (by simpa using c)]
    simp
  · rw [if_neg c, List.filter_cons_of_neg (by simpa using c)]
    rfl
theorem sum_perm {l l' : List Int} (p : l.Perm l') : l.sum = l'.sum := by
  induction p with
  | nil => rfl
  | cons x _ ih => rw [List.sum_cons, List.sum_cons, ih]
  | swap x y l => rw [List.sum_cons, List.sum_cons, List.sum_cons, List.sum_cons]; omega
  | trans _ _ a b => exact a.trans b
theorem worth_perm {L M : Mp} (p : L.Perm M) (bs : List Int) : worthM L bs = worthM M bs := by
  unfold worthM
  exact sum_perm ((p.filter _).map _)
theorem worth_nz {m : Mp} {bs : List Int} : worthM (m.filter fun p => decide (p.2 ≠ 0)) bs = worthM m bs := by
  induction m with
  | nil => rfl
  | cons p m ih =>
    have e : worthM (p :: m) bs = worthM [p] bs + worthM m bs := worth_app (L := [p])
    rw [e, ← ih]
    obtain ⟨l, x⟩ := p
    by_cases c : x = 0
    · rw [List.filter_cons_of_neg (by simpa using c), worth_one, c]
      split <;> simp
    · rw [List.filter_cons_of_pos (by simpa using c)]
      exact worth_app (L := [(l, x)])
theorem perm_of {L m : Mp} (u : Up L) (nd : (m.map (·.1)).Nodup) (mem : ∀ p, p ∈ L ↔ p ∈ m ∧ p.2 ≠ 0) : L.Perm (m.filter fun p => decide (p.2 ≠ 0)) := by
  have n1 : L.Nodup := u.imp fun {p q} h e => by rw [e] at h; exact List.lt_irrefl _ h
  have n2 : m.Nodup := by
    have z : m.Pairwise fun p q => p.1 ≠ q.1 := List.pairwise_map.mp nd
    exact z.imp fun {p q} h e => h (by rw [e])
  refine (List.perm_ext_iff_of_nodup n1 (n2.filter _)).mpr fun p => ?_
  rw [mem, List.mem_filter, decide_eq_true_iff]
/-- rows as letters: those of an earlier row hold no later one's -/
def chkR (k : Nat) : Bool := (List.range (rowsOf k).length).all fun i => (List.range i).all fun j => !onR ((rowsOf k).getD j []) (onesR k ((rowsOf k).getD i []))
theorem chkR_ok : ∀ k : Fin 4, chkR k.1 = true := by decide +kernel
theorem ones_on : ∀ k : Fin 4, ∀ r ∈ rowsOf k.1, onR r (onesR k.1 r) = true := by decide +kernel
theorem ones_in : ∀ k : Fin 4, ∀ r ∈ rowsOf k.1, onesR k.1 r ∈ subsF k.1 := by decide +kernel
theorem ones_nodup : ∀ k : Fin 4, ((rowsOf k.1).map (onesR k.1)).Nodup := by decide +kernel
theorem later {k : Nat} (k3 : k ≤ 3) {i j : Nat} {r s : List Int} (hi : (rowsOf k)[i]? = some r) (hj : (rowsOf k)[j]? = some s) (ji : j < i) : onR s (onesR k r) = false := by
  have c := chkR_ok ⟨k, by omega⟩
  have c1 := List.all_eq_true.mp c i (List.mem_range.mpr (List.getElem?_eq_some_iff.mp hi).1)
  have c2 := List.all_eq_true.mp c1 j (List.mem_range.mpr ji)
  have e1 : (rowsOf k).getD i [] = r := by rw [List.getD_eq_getElem?_getD, hi]; rfl
  have e2 : (rowsOf k).getD j [] = s := by rw [List.getD_eq_getElem?_getD, hj]; rfl
  rw [e1, e2] at c2
  simpa using c2
/-- a comprehension over enumerate of a tuple -/
theorem lc_enumT {K : PySem.W.Frag} {a : Addr} {xs : List V} {g : TG} {tt : TT} {te : TE} {vs : List Nat} {σ : L2.St} {H1 : Hp} {D : Addr} {Qd : Hp → Prop} (Pv : Nat → Hp → Prop) (h0 : Pv 0 (upd H1 D (.lst []))) (hl : ∀ i H, i ≤ xs.length → Pv i H → SqT K H a xs)
    (hs : ∀ i x H T, i < xs.length → xs[i]? = some x → Pv i H → H T = none → g (.ref T) (wipe σ vs) (upd H T (.tup [.int (i : Nat), x])) fun σ2 H2 => wipe σ2 vs = wipe σ vs ∧ tt σ2 H2 fun b H3 =>
      if b = true then te σ2 H3 fun y H4 => ∃ acc, H4 D = some (.lst acc) ∧ acc.length < sizeLine ∧ Pv (i + 1) (upd H4 D (.lst (acc ++ [y]))) else Pv (i + 1) H3) (hd : ∀ H, Pv xs.length H → Qd H) :
    ∃ W : Nat → Nat → Hp → Prop, (∃ m, W 0 m (upd H1 D (.lst []))) ∧ ∀ i m H, W i m H →
      ((IteT K a).stop i H ∧ Qd H) ∨ ((IteT K a).go i H ∧ ∃ Nx : Hp → Prop, (∀ H', Nx H' → ∃ m', m' < m ∧ W (i + 1) m' H') ∧ ∀ x H', (IteT K a).yld i H x H' → g x (wipe σ vs) H' fun σ2 H2 => wipe σ2 vs = wipe σ vs ∧ tt σ2 H2 fun b H3 =>
        if b = true then te σ2 H3 fun y H4 => ∃ acc, H4 D = some (.lst acc) ∧ acc.length < sizeLine ∧ Nx (upd H4 D (.lst (acc ++ [y]))) else Nx H3) := by
  refine ⟨fun i m H => i + m = xs.length ∧ Pv i H, ⟨xs.length, by omega, h0⟩, fun i m H ⟨em, p⟩ => ?_⟩
  have q1 := hl i H (by omega) p
  by_cases lt : i < xs.length
  · refine .inr ⟨⟨xs, xs[i], q1, List.getElem?_eq_getElem lt⟩, Pv (i + 1), fun H' p' => ⟨m - 1, by omega, by omega, p'⟩, fun x H' y => ?_⟩
    obtain ⟨T, x1, rfl, nT, rfl, gx⟩ := y
    exact hs i x1 H T lt (gx xs q1) p nT
  · obtain rfl : i = xs.length := by omega
    exact .inl ⟨⟨xs, q1, rfl⟩, hd H p⟩
theorem ones_take {bs : List Int} {i : Nat} {b : Int} (h : bs[i]? = some b) : onesR (i + 1) bs = onesR i bs ++ (if b = 1 then [i] else []) := by
  unfold onesR
  rw [List.range_succ, List.filter_append]
  congr 1
  have e : bs.getD i 0 = b := by rw [List.getD_eq_getElem?_getD, h]; rfl
  by_cases c : b = 1
  · rw [if_pos c]
    exact List.filter_cons_of_pos (by rw [e, c]; decide)
  · rw [if_neg c]
    exact List.filter_cons_of_neg (by rw [e]; simpa using c)
theorem ones_le {n : Nat} {bs : List Int} : (onesR n bs).length ≤ n := by
  have := List.length_filter_le (fun k => decide (bs.getD k 0 = 1)) (List.range n)
  rw [List.length_range] at this
  exact this
/-- what is told so far -/
def PsM (k : Nat) (ms : List Int) (i : Nat) (m : Mp) : Prop := m.map (·.1) = ((rowsOf k).take i).map (onesR k) ∧ ∀ j s, j < i → (rowsOf k)[j]? = some s → worthM m s = costL ms s
theorem PsM.nin {k i : Nat} {ms : List Int} {m : Mp} {r : List Int} (k3 : k ≤ 3) (h : PsM k ms i m) (hr : (rowsOf k)[i]? = some r) : onesR k r ∉ m.map (·.1) := fun z => by
  have nd := ones_nodup ⟨k, by omega⟩
  rw [h.1] at z
  have e : ((rowsOf k).take (i + 1)).map (onesR k) = ((rowsOf k).take i).map (onesR k) ++ [onesR k r] := by rw [List.take_add_one, hr, List.map_append]; rfl
  have nd2 : (((rowsOf k).take (i + 1)).map (onesR k)).Nodup := (List.Sublist.map _ (List.take_sublist _ _)).nodup nd
  rw [e, List.nodup_append] at nd2
  exact nd2.2.2 _ z _ (List.mem_singleton.mpr rfl) rfl
theorem PsM.put {k i : Nat} {ms : List Int} {m : Mp} {r : List Int} (k3 : k ≤ 3) (h : PsM k ms i m) (hr : (rowsOf k)[i]? = some r) : PsM k ms (i + 1) (putM m (onesR k r) (getM m (onesR k r) + (costL ms r - worthM m r))) := by
  have nin := h.nin k3 hr
  obtain ⟨h1, h2⟩ := h
  have ep : putM m (onesR k r) (getM m (onesR k r) + (costL ms r - worthM m r)) = m ++ [(onesR k r, costL ms r - worthM m r)] := by
    unfold putM
    rw [if_neg (fun z => nin (any_mem.mp z)), getM_none nin, Int.zero_add]
  rw [ep]
  refine ⟨by rw [List.map_append, h1, List.take_add_one, hr, List.map_append]; rfl, fun j s hj hs => ?_⟩
  rw [worth_app, worth_one]
  by_cases ji : j = i
  · subst ji
    rw [hr] at hs
    cases hs
    rw [if_pos (ones_on ⟨k, by omega⟩ r (List.mem_of_getElem? hr))]
    omega
  · rw [if_neg (by rw [later k3 hr hs (by omega)]; decide), Int.add_zero]
    exact h2 j s (by omega) hs
section
variable {P : Program} {w : World} {K : PySem.W.Frag} {mg : Str → Option Value} {base : Heap}
def spSOP (C : Addr) : Sp := fun vs H Q _ => ∃ (p : Addr) (k : Nat) (ms : List Int), vs = [.ref p] ∧ PrAt C H p k ms ∧ ∀ H' t ps L, Same H H' → H' t = some (.tup (ps.map V.ref)) → MbT H' ps L → Up L → (∀ p ∈ L, p.2 ≠ 0) → okM k L → (∀ r ∈ rowsOf k, worthM L r = costL ms r) → Q (.ref t) H'
theorem ok_SOP {f C : Addr} {fd : FuncData} (F : Fun K "sum_of_price" "sum_of_price" sSOP f fd) (B : Bt mg) (T : Pc K mg C) {fRO : Addr} {fdRO : FuncData} (GRO : FnOk P w K mg base CX0 1 fRO fdRO ["size"] spRO) (kRO : PySem.W.keepIn K (.ref fRO) = true) (bRO : Binds K fdRO ["size"] []) (gRO : mg "rows_of" = some (.ref fRO)) {fAT : Addr} {fdAT : FuncData} (GAT : FnOk P w K mg base CX0 1 fAT fdAT ["numbers", "letters", "number"] spAT) (kAT : PySem.W.keepIn K (.ref fAT) = true) (bAT : Binds K fdAT ["numbers", "letters", "number"] []) (gAT : mg "add_to" = some (.ref fAT)) {fSFr : Addr} {fdSFr : FuncData} (GSFr : FnOk P w K mg base CX0 1 fSFr fdSFr ["numbers"] spSFr) (kSFr : PySem.W.keepIn K (.ref fSFr) = true) (bSFr : Binds K fdSFr ["numbers"] []) (gSFr : mg "sum_from" = some (.ref fSFr)) {fWAt : Addr} {fdWAt : FuncData} (GWAt : FnOk P w K mg base CX0 1 fWAt fdWAt ["told", "row"] (spLWo K)) (kWAt : PySem.W.keepIn K (.ref fWAt) = true) (bWAt : Binds K fdWAt ["told", "row"] []) (gWAt : mg "worth_at" = some (.ref fWAt)) {fPC : Addr} {fdPC : FuncData} (mPC : Meth K C "cost" fPC) (GPC : FnOk P w K mg base CX0 5 fPC fdPC ["self", "row"] (spPC0 C)) (bPC : Binds K fdPC ["self", "row"] []) : FnOk P w K mg base CX0 6 f fd ["price"] (spSOP C) := by
  refine F.ok scSOP (fun vs H Q E h => ?_) (fun cdv A outer s H vs Q E hr h => ?_)
  · obtain ⟨p, k, ms, rfl, _⟩ := h
    rfl
  · obtain ⟨p, k, ms, rfl, pr, q⟩ := h
    obtain ⟨dx, ta, hp, hta, k1, k3, hl⟩ := id pr
    refine ⟨_, (pss_cons (ps_set (i := 1) scSOP.nd rfl (.inl rfl) pe_dnewT)
      (pss_cons (ps_for PassesOwn.never rfl (pi_tup (pe_call GRO (hr.mono (by decide)) (by rfl) gRO kRO bRO .nil pass0 (pa_cons (pe_fld (pv 0) rfl) pa_nil))) (pg_name (i := 2) scSOP.nd rfl (.inl rfl))
      (pss_cons (ps_set (i := 3) scSOP.nd rfl (.inl rfl) (pe_callTy call_tuple_of (by rfl) B.tuple (by decide +kernel) (pa_cons (pe_lc (own := [("place", 4), ("value", 5)]) rfl scSOP.nd (pi_enumT (by rfl) B.enumerate (pa_cons (pv 2) pa_nil)) (blkOk_by (N := NSOP) (sc := defScope sSOP) (by decide +kernel)) (fun _ _ _ _ _ => (pg_tupk (n := 2) K rfl rfl (pgs_cons (pg_name (i := 4) scSOP.nd rfl (Or.inl rfl)) (pgs_cons (pg_name (i := 5) scSOP.nd rfl (Or.inl rfl)) pgs_nil)))) (fun _ _ _ _ _ => pts_one (pt_cmpR op_eq (pv 5) pe_int (nomark _))) (fun _ _ _ _ _ => (pv 4))) pa_nil)))
      (pss_one (ps_expr (pe_call GAT (hr.mono (by decide)) (by rfl) gAT kAT bAT .nil pass0 (pa_cons (pv 1) (pa_cons (pv 3) (pa_cons (pe_op op_sub (pe_meth (pv 0) T.cl mPC GPC (hr.mono (by decide)) bPC .nil pass0 (pa_cons (pv 2) pa_nil)) (pe_call GWAt (hr.mono (by decide)) (by rfl) gWAt kWAt bWAt .nil pass0 (pa_cons (pe_call GSFr (hr.mono (by decide)) (by rfl) gSFr kSFr bSFr .nil pass0 (pa_cons (pv 1) pa_nil)) (pa_cons (pv 2) pa_nil)))) pa_nil))))))))
      (pss_one (ps_ret (pe_call GSFr (hr.mono (by decide)) (by rfl) gSFr kSFr bSFr .nil pass0 (pa_cons (pv 1) pa_nil)))))), ?_⟩
    refine q_seq (q_set (fun d nd => ?_))
    have sd := same_upd (o := .dT []) nd
    have hd : (upd H d (.dT [])) d = some (.dT (dV [])) := upd_same
    generalize upd H d (.dT []) = H0 at sd hd ⊢
    dsimp only
    refine q_seq ?_
    refine ⟨.ref p, rfl, p, C, dx, _, .int k, rfl, sd _ _ hp, T.cl, T.nS, pf_size _ _, k, rfl, k3, fun H1 R rs s1 nR hR rw1 => ⟨R, rfl, ⟨_, tl hR⟩, for_tup (K := K) (a := R) (xs := rs.map V.ref) (fun i σ H' => (∀ c o, c ≠ d → H1 c = some o → H' c = some o) ∧ (∃ m, H' d = some (.dT (dV m)) ∧ PsM k ms i m) ∧ ∃ x2 x3 : Option V, σ = [some (.ref p), some (.ref d), x2, x3, none, none]) ⟨fun _ _ _ e => e, ⟨[], s1 _ _ hd, rfl, fun j s h => absurd h (Nat.not_lt_zero _)⟩, none, none, rfl⟩ (fun i σ H' _ hP => ?_) (fun i x σ H' hx hP => ?_) (fun σ H' hP => ?_)⟩⟩
    · exact sqT_but hP.1 (s1 _ _ hd) (tl hR)
    · obtain ⟨k', ⟨m, hm, pm⟩, x2, x3, rfl⟩ := hP
      obtain ⟨r, bs, rfl, hbs, hr1⟩ := rws_at rw1 hx
      have hd1 := s1 _ _ hd
      have hr2 := k' _ _ (ne_of hr1 hd1 (by intro z; cases z)) hr1
      have mbs := List.mem_of_getElem? hbs
      have lbs := row_len k bs mbs
      have bits := bits_rows k bs mbs
      have il : i < 8 := Nat.lt_of_lt_of_le (List.getElem?_eq_some_iff.mp hbs).1 (rows8 k3)
      have lm : m.length = i := by
        have := congrArg List.length pm.1
        rw [List.length_map, List.length_map, List.length_take] at this
        have := (List.getElem?_eq_some_iff.mp hbs).1
        omega
      have ndm : (m.map (·.1)).Nodup := by
        rw [pm.1]
        exact (List.Sublist.map _ (List.take_sublist _ _)).nodup (ones_nodup ⟨k, by omega⟩)
      refine q_seq (q_set ?_)
      refine ⟨.ref r, rfl, r, _, rfl, tl hr2, fun D nD => lc_enumT (K := K) (a := r) (xs := bs.map V.int) (fun j H2 => Same H' H2 ∧ H2 D = some (.lst (lV (onesR j bs)))) ⟨same_upd nD, upd_same⟩ (fun j H2 _ hR2 => tl (hR2.1 _ _ hr2)) (fun j x H2 T jl hx2 hR2 nT => ?_) (fun H2 hR2 => ?_)⟩
      · obtain ⟨s2, hD⟩ := hR2
        rw [List.getElem?_map] at hx2
        obtain ⟨b, hb, rfl⟩ := Option.map_eq_some_iff.mp hx2
        rw [List.length_map] at jl
        have st := same_upd (o := .tup [V.int (j : Nat), .int b]) nT
        have hDt := st _ _ hD
        refine ⟨T, _, rfl, tl upd_same, rfl, _, _, rfl, _, _, rfl, rfl, ?_⟩
        refine ⟨rfl, .int b, rfl, rfl, _, rfl, ?_⟩
        rw [dInt]
        have ej := ones_take hb
        refine ite2 (fun c => ?_) (fun c => ?_)
        · rw [if_pos (of_decide_eq_true c)] at ej
          refine ⟨.int (j : Nat), rfl, _, hDt, ?_, fun c o e => ?_, ?_⟩
          · have := ones_le (n := j) (bs := bs)
            rw [List.length_map]
            exact small1000 (by omega)
          · rw [upd_ne (ne_of_none e nD)]
            exact st _ _ (s2 _ _ e)
          · rw [upd_same, ej, lV, lV, List.map_append]
            rfl
        · rw [if_neg (fun z => c (decide_eq_true z)), List.append_nil] at ej
          rw [ej]
          exact ⟨s2.trans st, hDt⟩
      · obtain ⟨s2, hD⟩ := hR2
        rw [List.length_map, lbs] at hD
        refine ⟨D, _, rfl, .inl ⟨sl hD, fun l nl => ?_⟩⟩
        have sl2 := same_upd (o := .tup (lV (onesR k bs))) nl
        have hl2 : (upd H2 l (.tup (lV (onesR k bs)))) l = some (.tup (lV (onesR k bs))) := upd_same
        generalize upd H2 l (.tup (lV (onesR k bs))) = H3 at sl2 hl2 ⊢
        have s3 := s2.trans sl2
        have hp1 := s1 _ _ (sd _ _ hp)
        have pr1 : PrAt C H1 p k ms := (pr.same sd).same s1
        have pr3 : PrAt C H3 p k ms := by
          obtain ⟨dx, t, h1, h2, h3⟩ := pr1
          exact ⟨dx, t, s3 _ _ (k' _ _ (ne_of h1 hd1 (by intro z; cases z)) h1), s3 _ _ (k' _ _ (ne_of h2 hd1 (by intro z; cases z)) h2), h3⟩
        dsimp only
        obtain ⟨dx3, t3, e3, _⟩ := id pr3
        have hr3 := s3 _ _ hr2
        have hm3 := s3 _ _ hm
        refine ⟨.ref d, rfl, .ref l, rfl, .ref p, rfl, p, dx3, _, rfl, e3, pf_no rfl rfl, .ref r, rfl, p, r, k, ms, bs, rfl, pr3, hr3, bits, lbs, fun H4 s4 => ⟨.ref d, rfl, d, m, rfl, s4 _ _ hm3, by omega, ndm, fun H5 t ps L s5 ht mb up mem lL => ?_⟩⟩
        have pmL := perm_of up ndm mem
        have eW : worthM L bs = worthM m bs := by rw [worth_perm pmL, worth_nz]
        have inL : ∀ q ∈ L, q.1 ∈ subsF k := fun q hq => by
          have h1 : q.1 ∈ m.map (·.1) := List.mem_map.mpr ⟨q, ((mem q).mp hq).1, rfl⟩
          rw [pm.1] at h1
          obtain ⟨r, hr, e⟩ := List.mem_map.mp h1
          rw [← e]
          exact ones_in ⟨k, by omega⟩ r (List.mem_of_mem_take hr)
        refine ⟨.ref r, rfl, t, r, ps, L, bs, rfl, tl ht, mb, s5 _ _ (s4 _ _ hr3), fun q hq x hx => by have := below ⟨k, by omega⟩ q.1 (inL q hq) x hx; simp only at this; omega, fun q hq => len3s ⟨k, by omega⟩ q.1 (inL q hq), by omega, fun H6 s6 => ⟨_, _, rfl, rfl, ?_⟩⟩
        have s36 := s4.trans (s5.trans s6)
        have hm6 := s36 _ _ hm3
        refine ⟨d, l, m, onesR k bs, _, rfl, hm6, by rw [kV_kI]; exact s36 _ _ hl2, by omega, fun c o nc e => ?_, ⟨_, upd_same, ?_⟩, _, _, rfl⟩
        · rw [upd_ne nc]
          exact s36 _ _ (s3 _ _ (k' _ _ nc e))
        · rw [eW]
          exact pm.put k3 hbs
    · obtain ⟨k', ⟨m, hm, pm⟩, x2, x3, rfl⟩ := hP
      have lr : (rs.map V.ref).length = (rowsOf k).length := by rw [List.length_map, paired_len rw1]
      rw [lr] at pm
      have ndm : (m.map (·.1)).Nodup := by
        rw [pm.1, List.take_length]
        exact ones_nodup ⟨k, by omega⟩
      have lm : m.length = (rowsOf k).length := by
        have := congrArg List.length pm.1
        rwa [List.take_length, List.length_map, List.length_map] at this
      have l8 := rows8 k3
      dsimp only
      refine ⟨.ref d, rfl, d, m, rfl, hm, by omega, ndm, fun H2 t ps L s2 ht mb up mem lL => ?_⟩
      have pmL := perm_of up ndm mem
      refine q H2 t ps L (fun c o e => s2 _ _ (k' _ _ (ne_of_none e nd) (s1 _ _ (sd _ _ e)))) ht mb up (fun p hp => ((mem p).mp hp).2) ⟨fun p hp => ?_, ?_⟩ fun r hr => ?_
      · have h1 : p.1 ∈ m.map (·.1) := List.mem_map.mpr ⟨p, ((mem p).mp hp).1, rfl⟩
        rw [pm.1, List.take_length] at h1
        obtain ⟨r, hr, e⟩ := List.mem_map.mp h1
        rw [← e]
        exact ones_in ⟨k, by omega⟩ r hr
      · exact ((pmL.map (·.1)).nodup_iff).mpr ((List.Sublist.map _ List.filter_sublist).nodup ndm)
      · obtain ⟨j, hj⟩ := List.getElem?_of_mem hr
        rw [worth_perm pmL, worth_nz]
        exact pm.2 j r (List.getElem?_eq_some_iff.mp hj).1 hj
end
end CS

namespace CS
open PySem PySem.Spec PyProof.Rows L2 Ek CC
theorem in_lV {x : Nat} {l : List Nat} : inV (.int (x : Int)) (lV l) = decide (x ∈ l) := by
  induction l with
  | nil => simp [inV, lV]
  | cons y l ih =>
    have e : inV (.int (x : Int)) (lV (y :: l)) = (eqV (.int (y : Int)) (.int (x : Int)) || inV (.int (x : Int)) (lV l)) := by
      simp only [inV, lV, List.map_cons, List.any_cons]
    rw [e, ih]
    have e2 : eqV (.int (y : Int)) (.int (x : Int)) = decide (x = y) := by
      show ((y : Int) == (x : Int)) = decide (x = y)
      by_cases c : x = y
      · rw [c]; simp
      · rw [decide_eq_false c]
        exact beq_eq_false_iff_ne.mpr (by omega)
    rw [e2]
    by_cases c : x = y <;> simp [c]
theorem flat_lV {l : List Nat} : (lV l).all flatV = true := by
  rw [List.all_eq_true]
  intro x m
  obtain ⟨w, _, rfl⟩ := List.mem_map.mp m
  rfl
theorem on_in {k : Nat} {bs : List Int} {l : List Nat} (lt : ∀ x ∈ l, x < k) : (l.map fun x => decide (x ∈ onesR k bs)).all id = onR bs l := by
  rw [List.all_map]
  unfold onR
  rw [Bool.eq_iff_iff, List.all_eq_true, List.all_eq_true]
  have e : ∀ x ∈ l, (x ∈ onesR k bs ↔ bs.getD x 0 = 1) := fun x hx => by
    unfold onesR
    rw [List.mem_filter, List.mem_range, decide_eq_true_iff]
    exact ⟨fun h => h.2, fun h => ⟨lt x hx, h⟩⟩
  exact ⟨fun h x hx => decide_eq_true ((e x hx).mp (of_decide_eq_true (h x hx))), fun h x hx => decide_eq_true ((e x hx).mpr (of_decide_eq_true (h x hx)))⟩
theorem op_in_seqk {X : Cx} (K : PySem.W.Frag) (hK : X.K = K) : OpR X (compareOp .In) (rIn K false) := by
  subst hK
  exact op_in_seq
section
variable {P : Program} {w : World} {K : PySem.W.Frag} {mg : Str → Option Value} {base : Heap}
def spLSp : Sp := fun vs H Q _ => ∃ (o t : Addr) (k : Nat) (ms : List Int), vs = [.ref o] ∧ H o = some (.tup [.int k, .ref t]) ∧ H t = some (.tup (ms.map V.int)) ∧ 1 ≤ k ∧ k ≤ 3 ∧ ms.length = 2 ^ k ∧ ∀ H' d m, Same H H' → H d = none → H' d = some (.dT (dV m)) → PsM k ms (rowsOf k).length m → Q (.ref d) H'
end
end CS

namespace CS
open PySem PySem.Spec PyProof.Rows L2 Ek CC
theorem riseT_iff {xss : List (List Int)} : riseT xss = true ↔ ∀ j a b, xss[j]? = some a → xss[j + 1]? = some b → HT.lexLt a b = true := by
  unfold riseT
  rw [List.all_eq_true]
  refine ⟨fun h j a b ha hb => ?_, fun h p hp => ?_⟩
  · have hz : (xss.zip (xss.drop 1))[j]? = some (a, b) := List.getElem?_zip_eq_some.mpr ⟨ha, by rw [List.getElem?_drop, Nat.add_comm]; exact hb⟩
    exact h _ (List.mem_of_getElem? hz)
  · obtain ⟨j, hj⟩ := List.getElem?_of_mem hp
    obtain ⟨h1, h2⟩ := List.getElem?_zip_eq_some.mp hj
    rw [List.getElem?_drop, Nat.add_comm] at h2
    exact h j p.1 p.2 h1 h2
theorem dp_mb {K : PySem.W.Frag} {H : Hp} {ps : List Addr} {L : Mp} (x : MbT H ps L) : DpAll K H (ps.map V.ref) (L.map encS) := by
  induction x with
  | nil => exact .nil
  | @cons p q ps L e _ ih =>
    obtain ⟨b, h1, h2⟩ := e
    rw [lV_lI] at h2
    exact .cons (.tup (tl h1) (.cons (.tup (tl h2) dp_ints) (.cons (.int _) .nil))) ih
theorem dv_ints {N : Addr → Prop} {H : Hp} : ∀ {xs : List Int}, DvAll N H (xs.map V.int) (xs.map .int)
  | [] => .nil
  | x :: xs => .cons (.int x) dv_ints
theorem dv_mb {N : Addr → Prop} {H : Hp} {ps : List Addr} {L : Mp} (x : MbT H ps L) : DvAll N H (ps.map V.ref) (L.map encS) := by
  induction x with
  | nil => exact .nil
  | @cons p q ps L e _ ih =>
    obtain ⟨b, h1, h2⟩ := e
    rw [lV_lI] at h2
    exact .cons (.tup (.inl h1) (.cons (.tup (.inl h2) dv_ints) (.cons (.int _) .nil))) ih
theorem lexLt_dec : ∀ a b : List Int, HT.lexLt a b = decide (a < b)
  | [], [] => by rw [HT.lexLt_nil_nil]; exact (decide_eq_false (List.lt_irrefl _)).symm
  | [], _ :: _ => by rw [HT.lexLt_nil_cons]; simp
  | _ :: _, [] => by rw [HT.lexLt_cons_nil]; simp
  | x :: a, y :: b => by
    rw [HT.lexLt_cons, lexLt_dec a b]
    by_cases h : x = y
    · rw [if_pos h]; simp [h, List.cons_lt_cons_iff]
    · rw [if_neg h]; simp [h, List.cons_lt_cons_iff]
theorem let_ok : ∀ n : Fin 4, ∀ l ∈ subsF n.1, lettersD n.1 (.tuple ((lI l).map .int)) = true := by decide +kernel
theorem ints_of : ∀ xs : List Int, (xs.map PyData.int).map intOf = xs
  | [] => rfl
  | x :: xs => by rw [List.map_cons, List.map_cons, ints_of xs]; rfl
theorem good_sum {n : Nat} {L : Mp} (n3 : n ≤ 3) (ok : okM n L) (up : Up L) (nz : ∀ p ∈ L, p.2 ≠ 0) : isSumD n (.tuple (L.map encS)) = true := by
  show ((L.map encS).all (memberD n) && riseT ((L.map encS).map keyOf)) = true
  have e : (L.map encS).map keyOf = L.map fun p => lI p.1 := by
    rw [List.map_map]
    apply List.map_congr_left
    intro p _
    show ((lI p.1).map PyData.int).map intOf = lI p.1
    exact ints_of _
  rw [e, Bool.and_eq_true]
  refine ⟨List.all_eq_true.mpr fun d hd => ?_, riseT_iff.mpr fun j a b ha hb => ?_⟩
  · obtain ⟨p, hp, rfl⟩ := List.mem_map.mp hd
    show (decide (2 = 2) && (lettersD n (.tuple ((lI p.1).map .int)) && (isIntD (.int p.2) && decide (intOf (.int p.2) ≠ 0)))) = true
    rw [let_ok ⟨n, by omega⟩ p.1 (ok.1 p hp)]
    have : intOf (.int p.2) ≠ 0 := nz p hp
    simp [isIntD, this]
  · rw [List.getElem?_map] at ha hb
    obtain ⟨p, hp, rfl⟩ := Option.map_eq_some_iff.mp ha
    obtain ⟨q, hq, rfl⟩ := Option.map_eq_some_iff.mp hb
    rw [lexLt_dec, decide_eq_true_iff]
    have l1 := (List.getElem?_eq_some_iff.mp hp)
    have l2 := (List.getElem?_eq_some_iff.mp hq)
    obtain ⟨h1, e1⟩ := l1
    obtain ⟨h2, e2⟩ := l2
    have z := List.pairwise_iff_getElem.mp up j (j + 1) h1 h2 (Nat.lt_succ_self j)
    rw [e1, e2] at z
    exact z
/-! ### a sum is told by its worths -/
def gM (n : Nat) (L : Mp) : Mp := (rowsOf n).map fun r => (onesR n r, getM L (onesR n r))
theorem gM_perm {n : Nat} {L : Mp} (n3 : n ≤ 3) (ok : okM n L) (up : Up L) (nz : ∀ p ∈ L, p.2 ≠ 0) : L.Perm ((gM n L).filter fun p => decide (p.2 ≠ 0)) := by
  refine perm_of up ?_ fun p => ?_
  · rw [gM, List.map_map]
    exact ones_nodup ⟨n, by omega⟩
  · constructor
    · intro hp
      refine ⟨?_, nz p hp⟩
      have h := ok.1 p hp
      obtain ⟨r, hr, e⟩ := List.mem_map.mp (show p.1 ∈ ((rowsOf n).filter fun r => decide (sumI r ≤ 3)).map (onesR n) from h)
      exact List.mem_map.mpr ⟨r, (List.mem_filter.mp hr).1, by rw [e, getM_mem ok.2 hp]⟩
    · rintro ⟨h, c⟩
      obtain ⟨r, _, rfl⟩ := List.mem_map.mp h
      exact ((mem_iff_get ok.2 _).mpr ⟨rfl, c⟩).1
theorem worth_zero {m : Mp} {bs : List Int} (h : ∀ p ∈ m, onR bs p.1 = false) : worthM m bs = 0 := by
  unfold worthM
  rw [List.filter_eq_nil_iff.mpr fun p hp => by rw [h p hp]; decide]
  rfl
theorem gM_at {n j : Nat} {L : Mp} {r : List Int} (n3 : n ≤ 3) (hr : (rowsOf n)[j]? = some r) : worthM (gM n L) r = worthM ((gM n L).take j) r + getM L (onesR n r) := by
  have hj : (gM n L)[j]? = some (onesR n r, getM L (onesR n r)) := by rw [gM, List.getElem?_map, hr]; rfl
  have e : gM n L = (gM n L).take j ++ ([(onesR n r, getM L (onesR n r))] ++ (gM n L).drop (j + 1)) := by
    conv => lhs; rw [← List.take_append_drop j (gM n L)]
    congr 1
    obtain ⟨h1, h2⟩ := List.getElem?_eq_some_iff.mp hj
    rw [List.drop_eq_getElem_cons h1, h2]
    rfl
  have e2 : worthM (gM n L) r = worthM ((gM n L).take j ++ ([(onesR n r, getM L (onesR n r))] ++ (gM n L).drop (j + 1))) r := congrArg (fun m => worthM m r) e
  rw [worth_app, worth_app, worth_one, if_pos (ones_on ⟨n, by omega⟩ r (List.mem_of_getElem? hr)), worth_zero (m := (gM n L).drop (j + 1)) fun p hp => ?_, Int.add_zero] at e2
  · exact e2
  · obtain ⟨i, hi⟩ := List.getElem?_of_mem hp
    rw [List.getElem?_drop, gM, List.getElem?_map] at hi
    obtain ⟨s, hs, rfl⟩ := Option.map_eq_some_iff.mp hi
    exact later n3 hs hr (by omega)
theorem told_by {n : Nat} {L M : Mp} (n3 : n ≤ 3) (okL : okM n L) (upL : Up L) (nzL : ∀ p ∈ L, p.2 ≠ 0) (okN : okM n M) (upM : Up M) (nzM : ∀ p ∈ M, p.2 ≠ 0) (h : ∀ r ∈ rowsOf n, worthM L r = worthM M r) : L = M := by
  have pL := gM_perm n3 okL upL nzL
  have pM := gM_perm n3 okN upM nzM
  have hw : ∀ r ∈ rowsOf n, worthM (gM n L) r = worthM (gM n M) r := fun r hr => by
    rw [← worth_nz (m := gM n L), ← worth_nz (m := gM n M), ← worth_perm pL, ← worth_perm pM]
    exact h r hr
  have tk : ∀ j, j ≤ (rowsOf n).length → (gM n L).take j = (gM n M).take j := by
    intro j
    induction j with
    | zero => intro _; rfl
    | succ j ih =>
      intro hj
      have hr : (rowsOf n)[j]? = some (rowsOf n)[j] := List.getElem?_eq_getElem (by omega)
      generalize (rowsOf n)[j] = r at hr
      have a := gM_at (L := L) n3 hr
      have b := gM_at (L := M) n3 hr
      rw [hw r (List.mem_of_getElem? hr), ih (by omega)] at a
      have e : getM L (onesR n r) = getM M (onesR n r) := by omega
      have x1 : (gM n L)[j]? = some (onesR n r, getM L (onesR n r)) := by rw [gM, List.getElem?_map, hr]; rfl
      have x2 : (gM n M)[j]? = some (onesR n r, getM M (onesR n r)) := by rw [gM, List.getElem?_map, hr]; rfl
      rw [List.take_add_one, List.take_add_one, ih (by omega), x1, x2, e]
  have g := tk (rowsOf n).length (Nat.le_refl _)
  have lg : ∀ L : Mp, (gM n L).length = (rowsOf n).length := fun L => List.length_map ..
  rw [← lg L, List.take_length, lg L, ← lg M, List.take_length] at g
  refine up_eq upL upM fun p => ?_
  rw [pL.mem_iff, pM.mem_iff, g]
/-! ### bounds -/
theorem sum_abs {m : Mp} {B : Int} {bs : List Int} (B0 : 0 ≤ B) (h : ∀ p ∈ m, -B ≤ p.2 ∧ p.2 ≤ B) : -(B * (m.length : Int)) ≤ worthM m bs ∧ worthM m bs ≤ B * (m.length : Int) := by
  induction m with
  | nil => simp [worthM]
  | cons p m ih =>
    have e : worthM (p :: m) bs = worthM [(p.1, p.2)] bs + worthM m bs := worth_app (L := [p])
    have i := ih fun q hq => h q (List.mem_cons_of_mem _ hq)
    have z := h p List.mem_cons_self
    rw [e, worth_one, List.length_cons]
    have em : B * ((m.length + 1 : Nat) : Int) = B * (m.length : Int) + B := by rw [Int.natCast_add, Int.mul_add]; simp
    rw [em]
    split <;> omega
/-- numbers of a price's sum, each at most 9 times what is ahead -/
theorem big {n : Nat} {L : Mp} {ms : List Int} (n3 : n ≤ 3) (hw : ∀ (j : Nat) (r : List Int), (rowsOf n)[j]? = some r → worthM (gM n L) r = costL ms r) (hb : ∀ r ∈ rowsOf n, -1000000000 ≤ costL ms r ∧ costL ms r ≤ 1000000000) : ∀ p ∈ gM n L, -999999999999 ≤ p.2 ∧ p.2 ≤ 999999999999 := by
  have l8 := rows8 n3
  have st : ∀ (j : Nat) (r : List Int) (S : Int), (rowsOf n)[j]? = some r → 0 ≤ S → (-S ≤ worthM ((gM n L).take j) r ∧ worthM ((gM n L).take j) r ≤ S) → -(S + 1000000000) ≤ getM L (onesR n r) ∧ getM L (onesR n r) ≤ S + 1000000000 := fun j r S hr S0 hS => by
    have a := gM_at (L := L) n3 hr
    rw [hw j r hr] at a
    have b := hb r (List.mem_of_getElem? hr)
    omega
  have sm : ∀ j, j ≤ (rowsOf n).length → ∀ bs, -((2 ^ j - 1 : Int) * 1000000000) ≤ worthM ((gM n L).take j) bs ∧ worthM ((gM n L).take j) bs ≤ (2 ^ j - 1 : Int) * 1000000000 := by
    intro j
    induction j with
    | zero => intro _ bs; simp [worthM]
    | succ j ih =>
      intro hj bs
      have hr : (rowsOf n)[j]? = some (rowsOf n)[j] := List.getElem?_eq_getElem (by omega)
      generalize (rowsOf n)[j] = r at hr
      have x1 : (gM n L)[j]? = some (onesR n r, getM L (onesR n r)) := by rw [gM, List.getElem?_map, hr]; rfl
      have i1 := ih (by omega) bs
      have i2 := st j r _ hr (by have : (1 : Int) ≤ 2 ^ j := by exact_mod_cast Nat.one_le_two_pow
                                 omega) (ih (by omega) r)
      have e : worthM ((gM n L).take (j + 1)) bs = worthM ((gM n L).take j) bs + if onR bs (onesR n r) = true then getM L (onesR n r) else 0 := by
        rw [List.take_add_one, x1]
        exact (worth_app (M := [(onesR n r, getM L (onesR n r))])).trans (by rw [worth_one])
      have p2 : (2 : Int) ^ (j + 1) = 2 * 2 ^ j := by rw [Int.pow_succ, Int.mul_comm]
      have p1 : (1 : Int) ≤ 2 ^ j := by exact_mod_cast Nat.one_le_two_pow
      rw [e, p2]
      split <;> omega
  intro p hp
  obtain ⟨j, hj⟩ := List.getElem?_of_mem hp
  rw [gM, List.getElem?_map] at hj
  obtain ⟨r, hr, rfl⟩ := Option.map_eq_some_iff.mp hj
  have jl := (List.getElem?_eq_some_iff.mp hr).1
  have z := st j r _ hr (by have : (1 : Int) ≤ 2 ^ j := by exact_mod_cast Nat.one_le_two_pow
                            omega) (sm j (by omega) r)
  have p8 : (2 : Int) ^ j ≤ 128 := by
    have : (2 : Nat) ^ j ≤ 2 ^ 7 := Nat.pow_le_pow_right (by decide) (by omega)
    exact_mod_cast this
  simp only
  omega
/-- letters and numbers that may be shown -/
def shM (n : Nat) (L : Mp) : Prop := ∀ p ∈ L, p.1 ∈ subsF n ∧ -999999999999 ≤ p.2 ∧ p.2 ≤ 999999999999
theorem sum_okd {n : Nat} {L : Mp} (n5 : n ≤ 3) (h : shM n L) (l : L.length ≤ 200) : Okd (.tuple (L.map encS)) := by
  have e : ∀ d ∈ L.map encS, Sm 103 2 d := fun d hd => by
    obtain ⟨p, hp, rfl⟩ := List.mem_map.mp hd
    obtain ⟨h1, h2, h3⟩ := h p hp
    have a : Sm 48 1 (.tuple ((lI p.1).map .int)) := (Sm.tuple (n := 13) (k := 0) fun d hd => by
      obtain ⟨i, hi, rfl⟩ := List.mem_map.mp hd
      obtain ⟨x, hx, rfl⟩ := List.mem_map.mp hi
      have := below ⟨n, by omega⟩ p.1 h1 x hx
      simp only at this
      exact Sm.int (by omega)).mono (by
      have := len3s ⟨n, by omega⟩ p.1 h1
      rw [List.length_map, lI, List.length_map]
      omega) (Nat.le_refl _)
    refine (Sm.tuple (n := 48) (k := 1) fun d hd => ?_).mono (by show 2 * 48 + 2 * 2 + 3 ≤ 103; decide) (Nat.le_refl _)
    rcases List.mem_cons.mp hd with z | hd
    · rw [z]; exact a
    · rw [List.mem_singleton.mp hd]
      exact (Sm.int (by omega)).mono (by decide) (by decide)
  refine (Sm.tuple e).okd ?_ (by decide)
  rw [List.length_map]
  omega
/-- all that is known of a price's own sum -/
structure Own (k : Nat) (ms : List Int) (L : Mp) : Prop where
  ok : okM k L
  up : Up L
  nz : ∀ p ∈ L, p.2 ≠ 0
  w : ∀ r ∈ rowsOf k, worthM L r = costL ms r
theorem Own.eq {k : Nat} {ms : List Int} {L M : Mp} (k3 : k ≤ 3) (a : Own k ms L) (b : Own k ms M) : L = M :=
  told_by k3 a.ok a.up a.nz b.ok b.up b.nz fun r hr => (a.w r hr).trans (b.w r hr).symm
theorem Own.sh {k : Nat} {ms : List Int} {L : Mp} (k3 : k ≤ 3) (a : Own k ms L) (hb : ∀ r ∈ rowsOf k, -1000000000 ≤ costL ms r ∧ costL ms r ≤ 1000000000) : shM k L ∧ L.length ≤ 8 := by
  have p := gM_perm k3 a.ok a.up a.nz
  have l8 := rows8 k3
  refine ⟨fun q hq => ⟨a.ok.1 q hq, ?_⟩, ?_⟩
  · have m : q ∈ gM k L := (List.mem_filter.mp (p.mem_iff.mp hq)).1
    exact big k3 (fun j r hr => by rw [← worth_nz (m := gM k L), ← worth_perm p]; exact a.w r (List.mem_of_getElem? hr)) hb q m
  · rw [p.length_eq]
    have := List.length_filter_le (fun p : List Nat × Int => decide (p.2 ≠ 0)) (gM k L)
    rw [show (gM k L).length = (rowsOf k).length from List.length_map ..] at this
    omega
theorem own_of {k : Nat} {ms : List Int} {m L : Mp} (k3 : k ≤ 3) (pm : PsM k ms (rowsOf k).length m) (up : Up L) (p : L.Perm (m.filter fun p => decide (p.2 ≠ 0))) : Own k ms L := by
  obtain ⟨h1, h2⟩ := pm
  rw [List.take_length] at h1
  have ndm : (m.map (·.1)).Nodup := by rw [h1]; exact ones_nodup ⟨k, by omega⟩
  refine ⟨⟨fun q hq => ?_, ?_⟩, up, fun q hq => by simpa using (List.mem_filter.mp (p.mem_iff.mp hq)).2, fun r hr => ?_⟩
  · have x : q.1 ∈ m.map (·.1) := List.mem_map.mpr ⟨q, (List.mem_filter.mp (p.mem_iff.mp hq)).1, rfl⟩
    rw [h1] at x
    obtain ⟨r, hr, e⟩ := List.mem_map.mp x
    rw [← e]
    exact ones_in ⟨k, by omega⟩ r hr
  · exact ((p.map (·.1)).nodup_iff).mpr ((List.Sublist.map _ List.filter_sublist).nodup ndm)
  · obtain ⟨j, hj⟩ := List.getElem?_of_mem hr
    rw [worth_perm p, worth_nz]
    exact h2 j r (List.getElem?_eq_some_iff.mp hj).1 hj
end CS

namespace CC
open PySem PySem.Spec PyProof.Rows L2 Ek
/-! ### books -/
abbrev Pd := Nat × List Int
theorem bk_fld {t : Addr} : ([("prices", V.ref t)] : List (Str × V)).lookup ("prices" : Str) = some (.ref t) := by simp [List.lookup]
/-- prices at ps -/
abbrev PrsAt (C : Addr) (H : Hp) (ps : List Addr) (bks : List Pd) : Prop := Paired (fun p (z : Pd) => PrAt C H p z.1 z.2) ps bks
theorem PrsAt.same {C : Addr} {H H' : Hp} {ps : List Addr} {bks : List Pd} (s : Same H H') (x : PrsAt C H ps bks) : PrsAt C H' ps bks := by
  induction x with
  | nil => exact .nil
  | cons e _ ih => exact .cons (e.same s) ih
def BkAt (C CB : Addr) (H : Hp) (b : Addr) (bks : List Pd) : Prop := ∃ dx t ps, H b = some (.ins CB dx [("prices", .ref t)]) ∧ H t = some (.tup (ps.map V.ref)) ∧ PrsAt C H ps bks ∧ 1 ≤ bks.length ∧ bks.length ≤ 6
theorem BkAt.same {C CB : Addr} {H H' : Hp} {b : Addr} {bks : List Pd} (s : Same H H') (x : BkAt C CB H b bks) : BkAt C CB H' b bks := by
  obtain ⟨dx, t, ps, h1, h2, h3, h4⟩ := x
  exact ⟨dx, t, ps, s _ _ h1, s _ _ h2, h3.same s, h4⟩
structure Bc (K : PySem.W.Frag) (mg : Str → Option Value) (CB : Addr) : Prop where
  g : mg "Book" = some (.ref CB)
  cl : Cls K CB
  nP : NoAttr K CB "prices"
section
variable {P : Program} {w : World} {K : PySem.W.Frag} {mg : Str → Option Value} {base : Heap}
def spAR (C : Addr) : Sp := fun vs H Q _ => ∃ (l : Addr) (ps : List Addr) (bks : List Pd), vs = [.ref l] ∧ H l = some (.lst (ps.map V.ref)) ∧ PrsAt C H ps bks ∧ 1 ≤ bks.length ∧ bks.length ≤ 6 ∧ ∀ H', Same H H' → Q (.bl true) H'
theorem ok_AR {f C : Addr} {fd : FuncData} (F : Fun K "_are_prices" "_are_prices" sAR f fd) (B : Bt mg) (T : Pc K mg C) (e : Pe K C) {fIQ : Addr} {fdIQ : FuncData} (GIQ : FnOk P w K mg base CX0 1 fIQ fdIQ ["value"] spIQ) (kIQ : PySem.W.keepIn K (.ref fIQ) = true) (bIQ : Binds K fdIQ ["value"] []) (gIQ : mg "is_sequence" = some (.ref fIQ)) : FnOk P w K mg base CX0 2 f fd ["value"] (spAR C) := by
  refine F.ok scAR (fun vs H Q E h => ?_) (fun cdv A outer s H vs Q E hr h => ?_)
  · obtain ⟨l, ps, bks, rfl, _⟩ := h
    rfl
  · obtain ⟨l, ps, bks, rfl, hl, pa, b1, b6, q⟩ := h
    have ln := paired_len pa
    refine ⟨_, (pss_one (ps_ret (pe_and (pe_call GIQ (hr.mono (by decide)) (by rfl) gIQ kIQ bIQ .nil pass0 (pa_cons (pv 0) pa_nil)) (pe_and (pe_chain op_le op_le pe_int (pe_callB call_len_seq (by rfl) B.len PySem.boot_len (pa_cons (pv 0) pa_nil)) pe_int) (pe_one (pe_callB (cr_all rfl) (by rfl) B.all (by decide +kernel) (pa_cons (pe_lc (own := [("member", 1)]) (g := gName 1) (tt := tYes) rfl scAR.nd (pi_list (pv 0)) (blkOk_by (N := NAR) (sc := defScope sAR) (by decide +kernel)) (fun _ _ _ _ _ => pg_name (i := 1) scAR.nd rfl (Or.inl rfl)) (fun _ _ _ _ _ => pts_nil) (fun _ _ _ _ _ => (pe_callB (call_isik K rfl) (by rfl) B.isinstance (by decide +kernel) (pa_cons (pv 1) (pa_cons (pe_glob (v := .ref C) (by rfl) T.g rfl) pa_nil))))) pa_nil))))))), ?_⟩
    refine q_ret ?_
    refine ⟨.ref l, rfl, .ref l, rfl, .lst hl, fun H1 s1 => ⟨true, rfl, ?_⟩⟩
    have hl1 := s1 _ _ hl
    refine ⟨.ref l, rfl, l, _, rfl, .inl (sl hl1), _, _, rfl, rfl, ?_⟩
    have e1 : decide ((1 : Int) ≤ ((ps.map V.ref).length : Nat)) = true := decide_eq_true (by rw [List.length_map]; omega)
    have e6 : decide ((((ps.map V.ref).length : Nat) : Int) ≤ 6) = true := decide_eq_true (by rw [List.length_map]; omega)
    refine ⟨_, rfl, ?_⟩
    rw [e1, if_pos rfl]
    refine ⟨_, _, rfl, rfl, _, rfl, ?_⟩
    rw [e6, if_pos rfl]
    refine ⟨.ref l, rfl, l, rfl, ⟨_, sl hl1⟩, fun D nD => lc_list (K := K) (a := l) (xs := ps.map V.ref) (fun i H' => Same H1 H' ∧ H' D = some (.lst ((List.replicate i true).map V.bl))) ⟨same_upd nD, upd_same⟩ (fun i H' _ hP => sl (hP.1 _ _ hl1)) (fun i x H' hx hP => ?_) (fun H' hP => ?_)⟩
    · obtain ⟨s', hD⟩ := hP
      obtain ⟨p, rfl, hp⟩ : ∃ p, x = V.ref p ∧ ps[i]? = some p := by
        rw [List.getElem?_map] at hx
        cases ee : ps[i]? with
        | none => rw [ee] at hx; cases hx
        | some p => rw [ee] at hx; exact ⟨p, (Option.some.inj hx).symm, rfl⟩
      have li : i < ps.length := (List.getElem?_eq_some_iff.mp hp).1
      obtain ⟨y, hy, hz⟩ := paired_get pa (List.getElem?_eq_getElem (show i < bks.length by omega))
      rw [hp] at hy
      cases hy
      refine ⟨rfl, .ref p, rfl, .ref p, .ref C, _, _, true, rfl, .own C, .base (ty_pr T e (hz.same (s1.trans s'))), kit_self, _, hD, ?_, fun b o z => ?_, ?_⟩
      · rw [List.length_map, List.length_replicate]
        exact small1000 (by omega)
      · rw [upd_ne (ne_of_none z nD)]
        exact s' _ _ z
      · rw [upd_same, List.replicate_succ', List.map_append]
        rfl
    · obtain ⟨s', hD⟩ := hP
      refine ⟨D, _, rfl, sl hD, ?_⟩
      have ea : (List.replicate (ps.map V.ref).length true).all id = true := by simp
      rw [ea]
      exact q H' (s1.trans s')
def spBI (C CB : Addr) : Sp := fun vs H Q _ => ∃ (b dx l : Addr) (ps : List Addr) (bks : List Pd), vs = [.ref b, .ref l] ∧ H b = some (.ins CB dx []) ∧ H l = some (.lst (ps.map V.ref)) ∧ PrsAt C H ps bks ∧ 1 ≤ bks.length ∧ bks.length ≤ 6 ∧
  ∀ H', (∀ c o, c ≠ b → H c = some o → H' c = some o) → BkAt C CB H' b bks → Q .non H'
theorem PrsAt.updI {C CB b dx : Addr} {H : Hp} {fs : List (Str × V)} {o : HO} {ps : List Addr} {bks : List Pd} (n : C ≠ CB) (e : H b = some (.ins CB dx fs)) (x : PrsAt C H ps bks) : PrsAt C (upd H b o) ps bks := by
  induction x with
  | nil => exact .nil
  | cons h _ ih =>
    obtain ⟨dx2, t, h1, h2, h3⟩ := h
    refine .cons ⟨dx2, t, ?_, ?_, h3⟩ ih
    · rw [upd_ne (ne_of h1 e (by intro z; injection z with z1; exact n z1))]
      exact h1
    · rw [upd_ne (ne_of h2 e (by intro z; cases z))]
      exact h2
theorem ok_BI {f C CB : Addr} {fd : FuncData} (F : Fun K "__init__" "Book.__init__" sBI f fd) (TB : Bc K mg CB) (nB : C ≠ CB) (B : Bt mg) {fAR : Addr} {fdAR : FuncData} (GAR : FnOk P w K mg base CX0 2 fAR fdAR ["value"] (spAR C)) (kAR : PySem.W.keepIn K (.ref fAR) = true) (bAR : Binds K fdAR ["value"] []) (gAR : mg "_are_prices" = some (.ref fAR)) : FnOk P w K mg base CX0 3 f fd ["self", "prices"] (spBI C CB) := by
  refine F.ok scBI (fun vs H Q E h => ?_) (fun cdv A outer s H vs Q E hr h => ?_)
  · obtain ⟨b, dx, l, ps, bks, rfl, _⟩ := h
    rfl
  · obtain ⟨b, dx, l, ps, bks, rfl, hb, hl, pa, b1, b6, q⟩ := h
    refine ⟨_, (pss_cons (ps_if (pt_not (pt_val (pe_call GAR (hr.mono (by decide)) (by rfl) gAR kAR bAR .nil pass0 (pa_cons (pv 1) pa_nil))))
      (pss_one ps_never) pss_nil)
      (pss_one (ps_fld (pv 0) (pe_callTy call_tuple_of (by rfl) B.tuple (by decide +kernel) (pa_cons (pv 1) pa_nil)) rfl))), ?_⟩
    refine q_seq (q_if ?_)
    refine ⟨.ref l, rfl, l, ps, bks, rfl, hl, pa, b1, b6, fun H1 s1 => ⟨true, rfl, ?_⟩⟩
    dsimp only
    rw [if_neg (show ¬ (!true) = true by decide)]
    refine q_next ?_
    have hb1 := s1 _ _ hb
    have hl1 := s1 _ _ hl
    refine ⟨.ref l, rfl, l, _, rfl, .inl ⟨sl hl1, fun t nt => ⟨.ref b, rfl, ?_⟩⟩⟩
    have st := same_upd (o := .tup (ps.map V.ref)) nt
    refine ⟨b, CB, dx, [], rfl, st _ _ hb1, TB.cl, TB.nP, by show 0 < 1000; decide, ?_⟩
    have ntb : t ≠ b := fun z => by
      rw [z, hb1] at nt
      cases nt
    refine q _ (fun c o nc e => ?_) ⟨dx, t, ps, by rw [upd_same]; rfl, by rw [upd_ne ntb, upd_same], PrsAt.updI nB (st _ _ hb1) (pa.same (s1.trans st)), b1, b6⟩
    rw [upd_ne nc]
    exact st _ _ (s1 _ _ e)
def spBL (C CB : Addr) : Sp := fun vs H Q _ => ∃ (b : Addr) (bks : List Pd), vs = [.ref b] ∧ BkAt C CB H b bks ∧ Q (.int ((bks.length : Nat) : Int)) H
theorem ok_BL {f C CB : Addr} {fd : FuncData} (F : Fun K "__len__" "Book.__len__" sBL f fd) (B : Bt mg) (TB : Bc K mg CB) : FnOk P w K mg base CX0 1 f fd ["self"] (spBL C CB) := by
  refine F.ok scBL (fun vs H Q E h => ?_) (fun cdv A outer s H vs Q E hr h => ?_)
  · obtain ⟨b, bks, rfl, _⟩ := h
    rfl
  · obtain ⟨b, bks, rfl, bk, q⟩ := h
    obtain ⟨dx, t, ps, hb, ht, pa, b1, b6⟩ := id bk
    refine ⟨_, (pss_one (ps_ret (pe_callB call_len_seq (by rfl) B.len PySem.boot_len (pa_cons (pe_fld (pv 0) rfl) pa_nil)))), ?_⟩
    refine q_ret ?_
    refine ⟨.ref b, rfl, b, CB, dx, _, .ref t, rfl, hb, TB.cl, TB.nP, bk_fld, t, _, rfl, .inr (tl ht), ?_⟩
    rw [List.length_map, paired_len pa]
    exact q
end
def LPr (H : Hp) (p : Addr) (z : Pd) : Prop := ∃ t, H p = some (.tup [.int z.1, .ref t]) ∧ H t = some (.tup (z.2.map V.int)) ∧ 1 ≤ z.1 ∧ z.1 ≤ 3 ∧ z.2.length = 2 ^ z.1 ∧ Bd (-1000000000) 1000000000 z.2
theorem LPr.same {H H' : Hp} {p : Addr} {z : Pd} (s : Same H H') (x : LPr H p z) : LPr H' p z := by
  obtain ⟨t, h1, h2, h3⟩ := x
  exact ⟨t, s _ _ h1, s _ _ h2, h3⟩
theorem LPr.kp {h dr : Addr} {H H' : Hp} {p : Addr} {z : Pd} (hd : Hdd H h dr) (kp : Kp h H H') (x : LPr H p z) : LPr H' p z := by
  obtain ⟨t, h1, h2, h3⟩ := x
  exact ⟨t, kp _ _ (hd.ns h1 (fun _ _ z => by cases z)) h1, kp _ _ (hd.ns h2 (fun _ _ z => by cases z)) h2, h3⟩
theorem LPr.updL {H : Hp} {p D : Addr} {z : Pd} {xs : List V} {o : HO} (e : H D = some (.lst xs)) (x : LPr H p z) : LPr (upd H D o) p z := by
  obtain ⟨t, h1, h2, h3⟩ := x
  exact ⟨t, by rw [upd_ne (ne_of h1 e (by intro z; cases z))]; exact h1, by rw [upd_ne (ne_of h2 e (by intro z; cases z))]; exact h2, h3⟩
abbrev LPs (H : Hp) (ps : List Addr) (bks : List Pd) : Prop := Paired (LPr H) ps bks
theorem LPs.same {H H' : Hp} {ps : List Addr} {bks : List Pd} (s : Same H H') (x : LPs H ps bks) : LPs H' ps bks := by
  induction x with
  | nil => exact .nil
  | cons e _ ih => exact .cons (e.same s) ih
theorem LPs.kp {h dr : Addr} {H H' : Hp} {ps : List Addr} {bks : List Pd} (hd : Hdd H h dr) (kp : Kp h H H') (x : LPs H ps bks) : LPs H' ps bks := by
  induction x with
  | nil => exact .nil
  | cons e _ ih => exact .cons (e.kp hd kp) ih
theorem LPs.updL {H : Hp} {ps : List Addr} {D : Addr} {bks : List Pd} {xs : List V} {o : HO} (e : H D = some (.lst xs)) (x : LPs H ps bks) : LPs (upd H D o) ps bks := by
  induction x with
  | nil => exact .nil
  | cons e2 _ ih => exact .cons (e2.updL e) ih
theorem Rws.kp {h dr : Addr} {H H' : Hp} {rs : List Addr} {bss : List (List Int)} (hd : Hdd H h dr) (kp : Kp h H H') (x : Rws H rs bss) : Rws H' rs bss := by
  induction x with
  | nil => exact .nil
  | cons e _ ih => exact .cons (kp _ _ (hd.ns e (fun _ _ z => by cases z)) e) ih
section
variable {P : Program} {w : World} {K : PySem.W.Frag} {mg : Str → Option Value} {base : Heap}
theorem rd_pick {σ : L2.St} {H : Hp} {h dr : Addr} {i : Nat} {vals : List V} {ta : TA} {n : Int} {E : XK} {Q : VK} (ev : EvV ta σ vals) (hσ : σ[i]? = some (some (.ref h))) (hd : Hdd H h dr) (hn : n = (vals.length : Nat)) (hz : vals.length ≤ 100) (pos : 0 < vals.length)
    (q : ∀ (j : Nat) (v : V) (H' : Hp), vals[j]? = some v → Kp h H H' → Hdd H' h dr → Q v H') : tOp (rIxL K) (tLst ta) (tCall spTake [] E (tCons (tVar i) (tCons (tC (.int n)) tNil))) σ H Q := by
  refine ev H _ ⟨Nat.le_of_lt (small1000 (by omega)), fun L nL => ?_⟩
  have s1 := same_upd (o := .lst vals) nL
  refine ⟨.ref h, hσ, h, dr, n, rfl, hd.same s1, by omega, fun r H2 r0 r1 k2 hd2 => ?_⟩
  have hL2 : H2 L = some (.lst vals) := (k2 L (hd.ne nL)).trans upd_same
  have lt : r.toNat < vals.length := by omega
  exact ⟨L, _, r, _, rfl, rfl, sl hL2, at_z (j := r.toNat) (by omega) (List.getElem?_eq_getElem lt), q _ _ H2 (List.getElem?_eq_getElem lt) ((Kp.of s1).trans (Kp.eq k2)) hd2⟩
theorem ref_hand {h : Addr} {ps : List Addr} : ∀ d t, HO.lst (ps.map V.ref) ≠ .lst [.ref d, .int t] := fun d t z => by
  injection z with z
  cases ps with
  | nil => cases z
  | cons a1 l1 => cases l1 with
    | nil => cases z
    | cons a2 l2 => injection z with z1 z2; injection z2 with z3 z4; cases z3
def spLB (C CB : Addr) : Sp := fun vs H Q _ => ∃ (L : Addr) (ps : List Addr) (bks : List Pd), vs = [.ref L] ∧ H L = some (.lst (ps.map V.ref)) ∧ LPs H ps bks ∧ 1 ≤ bks.length ∧ bks.length ≤ 6 ∧ ∀ H' b, Same H H' → BkAt C CB H' b bks → Q (.ref b) H'
theorem PrsAt.updL {C D : Addr} {H : Hp} {ps : List Addr} {bks : List Pd} {xs : List V} {o : HO} (e : H D = some (.lst xs)) (x : PrsAt C H ps bks) : PrsAt C (upd H D o) ps bks := by
  induction x with
  | nil => exact .nil
  | cons h _ ih => exact .cons (PrAt.updL e h) ih
theorem ok_LB {f fPI fBI C CB : Addr} {fd fdPI fdBI : FuncData} (F : Fun K "_law_made_book" "_law_made_book" sLB f fd) (T : Pc K mg C) (TB : Bc K mg CB) (nB : C ≠ CB) (M : Mk K C fPI) (GPI : FnOk P w K mg base CX0 3 fPI fdPI ["self", "size", "amounts"] (spPI0 C)) (bPI : Binds K fdPI ["self", "size", "amounts"] [])
    (MB : Mk K CB fBI) (GBI : FnOk P w K mg base CX0 3 fBI fdBI ["self", "prices"] (spBI C CB)) (bBI : Binds K fdBI ["self", "prices"] []) : FnOk P w K mg base CX0 5 f fd ["book"] (spLB C CB) := by
  refine F.ok scLB (fun vs H Q E h => ?_) (fun cdv A outer s H vs Q E hr h => ?_)
  · obtain ⟨L, ps, bks, rfl, _⟩ := h
    rfl
  · obtain ⟨L, ps, bks, rfl, hL, lps, b1, b6, q⟩ := h
    have ln := paired_len lps
    refine ⟨_, (pss_one (ps_ret (pe_make MB GBI (hr.mono (by decide)) (by rfl) TB.g bBI .nil pass0 (pa_cons (pe_lc (own := [("size", 1), ("amounts", 2)]) (tt := tYes) rfl scLB.nd (pi_list (pv 0)) (blkOk_by (N := NLB) (sc := defScope sLB) (by decide +kernel)) (fun _ _ _ _ _ => (pg_tupk (n := 2) K rfl rfl (pgs_cons (pg_name (i := 1) scLB.nd rfl (Or.inl rfl)) (pgs_cons (pg_name (i := 2) scLB.nd rfl (Or.inl rfl)) pgs_nil)))) (fun _ _ _ _ _ => pts_nil) (fun _ _ _ _ _ => (pe_make M GPI (hr.mono (by decide)) (by rfl) T.g bPI .nil pass0 (pa_cons (pv 1) (pa_cons (pv 2) pa_nil))))) pa_nil)))), ?_⟩
    refine q_ret ?_
    refine ⟨.ref L, rfl, L, rfl, ⟨_, sl hL⟩, fun D nD => lc_list (K := K) (a := L) (xs := ps.map V.ref) (fun i H' => Same H H' ∧ ∃ qs : List Addr, H' D = some (.lst (qs.map V.ref)) ∧ PrsAt C H' qs (bks.take i)) ⟨same_upd nD, [], upd_same, .nil⟩ (fun i H' _ hP => sl (hP.1 _ _ hL)) (fun i x H' hx hP => ?_) (fun H' hP => ?_)⟩
    · obtain ⟨s', qs, hD, pa⟩ := hP
      obtain ⟨p, rfl, hp⟩ : ∃ p, x = V.ref p ∧ ps[i]? = some p := by
        rw [List.getElem?_map] at hx
        cases ee : ps[i]? with
        | none => rw [ee] at hx; cases hx
        | some p => rw [ee] at hx; exact ⟨p, (Option.some.inj hx).symm, rfl⟩
      have li : i < bks.length := by
        have := (List.getElem?_eq_some_iff.mp hp).1
        omega
      obtain ⟨y, hy, hz⟩ := paired_get lps (List.getElem?_eq_getElem li)
      rw [hp] at hy
      cases hy
      have hbi : bks[i]? = some bks[i] := List.getElem?_eq_getElem li
      generalize bks[i] = z at hz hbi
      obtain ⟨k, ms⟩ := z
      obtain ⟨t, h1, h2, k1, k3, lm, bd⟩ := hz.same s'
      have lq := paired_len pa
      rw [List.length_take] at lq
      refine ⟨p, _, rfl, tl h1, rfl, _, _, rfl, _, _, rfl, rfl, ?_⟩
      refine ⟨rfl, .int k, rfl, .ref t, rfl, fun x dx nx ndx _ => ?_⟩
      refine pr_made nx ndx (small_am k3 lm (.inr h2)) k1 k3 lm ⟨t, rfl, .inr h2⟩ fun H2 s2 pr => ?_
      have hD2 := s2 _ _ hD
      refine ⟨_, hD2, by rw [List.length_map]; exact small1000 (by omega), fun b o e => ?_, qs ++ [x], by rw [upd_same, List.map_append]; rfl, ?_⟩
      · rw [upd_ne (ne_of_none e nD)]
        exact s2 _ _ (s' _ _ e)
      · have e2 : bks.take (i + 1) = bks.take i ++ [(k, ms)] := by
          rw [List.take_add_one, hbi]
          rfl
        rw [e2]
        exact PrsAt.updL hD2 (paired_app (pa.same s2) (.cons pr .nil))
    · obtain ⟨s', qs, hD, pa⟩ := hP
      rw [List.length_map, ln, List.take_length] at pa
      intro b dx nb ndx _
      have s2 := made_am (C := CB) nb ndx
      refine ⟨b, dx, D, qs, bks, rfl, upd_same, s2 _ _ hD, pa.same s2, b1, b6, fun H3 kk bk => ⟨rfl, q H3 b (s'.trans (made_same nb ndx kk)) bk⟩⟩
end
theorem eqv_ints : ∀ {xs ys : List Int}, PyData.eqvAll (xs.map .int) (ys.map .int) = decide (xs = ys)
  | [], [] => by simp [PyData.eqvAll]
  | [], y :: ys => by simp [PyData.eqvAll]
  | x :: xs, [] => by simp [PyData.eqvAll]
  | x :: xs, y :: ys => by
    rw [List.map_cons, List.map_cons, PyData.eqvAll, eqv_ints, PyData.eqv, Bool.eq_iff_iff]
    simp
theorem lay_ints : ∀ {xs : List Int}, PyData.canLayAll0 (xs.map .int) = true
  | [] => by simp [PyData.canLayAll0]
  | x :: xs => by rw [List.map_cons, PyData.canLayAll0, lay_ints]; rfl
theorem depth_ints : ∀ {xs : List Int}, PyData.depthAll (xs.map .int) = 0
  | [] => by simp [PyData.depthAll]
  | x :: xs => by rw [List.map_cons, PyData.depthAll, depth_ints]; simp [PyData.depth]
theorem shaped_ints {xs : List Int} : SeqAt.shaped (.tuple (xs.map .int)) = true := by
  unfold SeqAt.shaped
  rw [PyData.canLay0, lay_ints, PyData.depth, depth_ints]
  rfl
theorem dInt2 {i j : Int} : decide (V.int i = V.int j) = decide (i = j) := decide_eq_decide.mpr (by simp)
theorem dStr {i j : Str} : decide (V.str i = V.str j) = decide (i = j) := decide_eq_decide.mpr (by simp)
theorem int_at {xs : List Int} {i : Nat} {x : V} (h : (xs.map V.int)[i]? = some x) : ∃ n, x = .int n ∧ xs[i]? = some n := by
  rw [List.getElem?_map] at h
  cases e : xs[i]? with
  | none => rw [e] at h; cases h
  | some n => rw [e] at h; exact ⟨n, (Option.some.inj h).symm, rfl⟩
end CC

namespace CS
open PySem PySem.Spec PyProof.Rows L2 Ek CC
/-- how far a run with the hand has come -/
structure Wd (h dr : Addr) (N : Addr → Prop) (H G : Hp) : Prop where
  kp : Kp h H G
  hd : Hdd G h dr
  fr : ∀ a, G a = none → N a
  nh : ¬ N h
section
variable {h dr : Addr} {N : Addr → Prop} {H G G' : Hp}
theorem Wd.start (hd : Hdd H h dr) (fr : ∀ a, H a = none → N a) (nh : ¬ N h) : Wd h dr N H H := ⟨Kp.refl, hd, fr, nh⟩
theorem Wd.fre (W : Wd h dr N H G) (kp : Kp h G G') (hd : Hdd G' h dr) : ∀ a, G' a = none → N a := fun a e => W.fr a (by
  cases z : G a with
  | none => rfl
  | some o =>
    have y := kp a o (hd.ne e) z
    rw [e] at y
    cases y)
theorem Wd.go (W : Wd h dr N H G) (kp : Kp h G G') (hd : Hdd G' h dr) : Wd h dr N H G' := ⟨W.kp.trans kp, hd, W.fre kp hd, W.nh⟩
theorem Wd.same (W : Wd h dr N H G) (s : Same G G') : Wd h dr N H G' := W.go (Kp.of s) (W.hd.same s)
theorem Wd.dv (W : Wd h dr N H G) (kp : Kp h G G') {v : V} {d : PyData} (x : Dv N G v d) : Dv N G' v d := x.kp W.hd kp W.nh
theorem Wd.dva (W : Wd h dr N H G) (kp : Kp h G G') : ∀ {v : List V} {d : List PyData}, DvAll N G v d → DvAll N G' v d
  | _, _, .nil => .nil
  | _, _, .cons x t => .cons (W.dv kp x) (W.dva kp t)
theorem alT {t : Addr} {xs : List V} {ds : List PyData} (W : Wd h dr N H G) (nt : G t = none) (p : DvAll N G xs ds) : Same G (upd G t (.tup xs)) ∧ Wd h dr N H (upd G t (.tup xs)) ∧ Dv N (upd G t (.tup xs)) (.ref t) (.tuple ds) ∧ (upd G t (.tup xs)) t = some (.tup xs) :=
  ⟨same_upd nt, W.same (same_upd nt), .tup (.inl upd_same) (p.same (same_upd nt)), upd_same⟩
theorem alL {t : Addr} {xs : List V} {ds : List PyData} (W : Wd h dr N H G) (nt : G t = none) (p : DvAll N G xs ds) : Same G (upd G t (.lst xs)) ∧ Wd h dr N H (upd G t (.lst xs)) ∧ Dv N (upd G t (.lst xs)) (.ref t) (.list ds) :=
  ⟨same_upd nt, W.same (same_upd nt), .lst upd_same (W.fr t nt) (p.same (same_upd nt))⟩
theorem pickT {K : PySem.W.Frag} {m : Nat} {X : Addr} {xs : List V} {ds : List PyData} (W : Wd h dr N H G) (nX : G X = none) (all : DvAll N G xs ds) (lm : xs.length = m) (m0 : 0 < m) {Q : VK} {E : XK} (k : ∀ v d G', Kp h G G' → Wd h dr N H G' → Dv N G' v d → d ∈ ds → Q v G') :
    spTake [.ref h, .int (m : Int)] (upd G X (.lst xs)) (fun y G' => rIxL K (.ref X) y G' Q) E := by
  have s := same_upd (o := .lst xs) nX
  have W1 := W.same s
  refine ⟨h, dr, m, rfl, W1.hd, by omega, fun r G' r0 r1 e hd' => ?_⟩
  have kp := Kp.eq e
  have hX : G' X = some (.lst xs) := kp _ _ (W.hd.ne nX) upd_same
  obtain ⟨v, gv⟩ : ∃ v, xs[r.toNat]? = some v := ⟨_, List.getElem?_eq_getElem (by omega)⟩
  have W2 := W1.go kp hd'
  have kp2 := (Kp.of (h := h) s).trans kp
  obtain ⟨d, gd, dx⟩ := dv_at (W.dva kp2 all) gv
  exact ⟨X, xs, r, v, rfl, rfl, sl hX, at_z (j := r.toNat) (by omega) gv, k v d G' kp2 W2 dx (List.mem_of_getElem? gd)⟩
theorem pickM {K : PySem.W.Frag} {m : Nat} {X : Addr} {xs : List V} (W : Wd h dr N H G) (nX : G X = none) (lm : xs.length = m) (m0 : 0 < m) {Q : VK} {E : XK} (k : ∀ v G', Kp h G G' → Wd h dr N H G' → v ∈ xs → Q v G') :
    spTake [.ref h, .int (m : Int)] (upd G X (.lst xs)) (fun y G' => rIxL K (.ref X) y G' Q) E := by
  have s := same_upd (o := .lst xs) nX
  have W1 := W.same s
  refine ⟨h, dr, m, rfl, W1.hd, by omega, fun r G' r0 r1 e hd' => ?_⟩
  have kp := Kp.eq e
  have hX : G' X = some (.lst xs) := kp _ _ (W.hd.ne nX) upd_same
  obtain ⟨v, gv⟩ : ∃ v, xs[r.toNat]? = some v := ⟨_, List.getElem?_eq_getElem (by omega)⟩
  exact ⟨X, xs, r, v, rfl, rfl, sl hX, at_z (j := r.toNat) (by omega) gv, k v G' ((Kp.of (h := h) s).trans kp) (W1.go kp hd') (List.mem_of_getElem? gv)⟩
theorem DvAll.app {H : Hp} : ∀ {a c : List V} {b d : List PyData}, DvAll N H a b → DvAll N H c d → DvAll N H (a ++ c) (b ++ d)
  | _, _, _, _, .nil, y => y
  | _, _, _, _, .cons h t, y => .cons h (DvAll.app t y)
theorem DvAll.rev {H : Hp} : ∀ {a : List V} {b : List PyData}, DvAll N H a b → DvAll N H a.reverse b.reverse
  | _, _, .nil => .nil
  | _, _, .cons h t => by
    rw [List.reverse_cons, List.reverse_cons]
    exact DvAll.app (DvAll.rev t) (.cons h .nil)
theorem DvAll.drp {H : Hp} : ∀ {n : Nat} {a : List V} {b : List PyData}, DvAll N H a b → DvAll N H (a.drop n) (b.drop n)
  | 0, _, _, p => p
  | n + 1, _, _, .nil => .nil
  | n + 1, _, _, .cons _ t => DvAll.drp (n := n) t
theorem DvAll.tk {H : Hp} : ∀ {n : Nat} {a : List V} {b : List PyData}, DvAll N H a b → DvAll N H (a.take n) (b.take n)
  | 0, _, _, p => .nil
  | n + 1, _, _, .nil => .nil
  | n + 1, _, _, .cons h t => .cons h (DvAll.tk (n := n) t)
theorem dv_cut {H : Hp} {xs : List V} {ds : List PyData} (p : DvAll N H xs ds) (lo hi : Option Int) : ∃ es, DvAll N H (cutV xs lo hi) es ∧ es.length ≤ ds.length := by
  unfold cutV
  refine ⟨_, DvAll.tk (DvAll.drp p), ?_⟩
  rw [List.length_take, List.length_drop]
  omega
end
mutual
theorem Dv.dp {K : PySem.W.Frag} {N : Addr → Prop} {H : Hp} : ∀ {v : V} {d : PyData}, Dv N H v d → Dp K H v d
  | _, _, .non => .non
  | _, _, .bl b => .bl b
  | _, _, .int i => .int i
  | _, _, .str s => .str s
  | _, _, .tup h p => .tup (.inl h) (DvAll.dp p)
  | _, _, .lst h n p => .lst (sl h) (DvAll.dp p)
theorem DvAll.dp {K : PySem.W.Frag} {N : Addr → Prop} {H : Hp} : ∀ {v : List V} {d : List PyData}, DvAll N H v d → DpAll K H v d
  | _, _, .nil => .nil
  | _, _, .cons h t => .cons (Dv.dp h) (DvAll.dp t)
end
section
variable {h dr : Addr} {N : Addr → Prop} {H G G' : Hp}
/-- a tuple of at most so many values -/
def Tu (N : Addr → Prop) (H : Hp) (v : V) (b : Nat) : Prop := ∃ (a : Addr) (xs : List V) (ds : List PyData), v = .ref a ∧ Rd H a (.tup xs) ∧ DvAll N H xs ds ∧ ds.length ≤ b
theorem Tu.dv {v : V} {b : Nat} (x : Tu N G v b) : ∃ ds, Dv N G v (.tuple ds) ∧ ds.length ≤ b := by
  obtain ⟨a, xs, ds, rfl, h, p, l⟩ := x
  exact ⟨ds, .tup h p, l⟩
theorem Tu.same {v : V} {b : Nat} (s : Same G G') (x : Tu N G v b) : Tu N G' v b := by
  obtain ⟨a, xs, ds, e, h, p, l⟩ := x
  exact ⟨a, xs, ds, e, rd_same s h, p.same s, l⟩
theorem tu_sl {K : PySem.W.Frag} {v : V} {b : Nat} {lo hi : Option Int} {Q : VK} (x : Tu N G v b) (k : ∀ v' G', Same G G' → Tu N G' v' b → Q v' G') : rSlA K v lo hi G Q := by
  obtain ⟨a, xs, ds, rfl, h, p, l⟩ := x
  obtain ⟨es, p2, l2⟩ := dv_cut p lo hi
  refine ⟨a, xs, rfl, .inl h, fun _ => k _ G (Same.refl G) ⟨a, xs, ds, rfl, h, p, l⟩, fun _ t nt => ?_⟩
  have s := same_upd (o := .tup (cutV xs lo hi)) nt
  exact k _ _ s ⟨t, _, es, rfl, .inl upd_same, p2.same s, by omega⟩
theorem tu_cat {K : PySem.W.Frag} {v u : V} {b c : Nat} {Q : VK} (x : Tu N G v b) (y : Tu N G u c) (z : b + c ≤ 1000) (k : ∀ v' G', Same G G' → Tu N G' v' (b + c) → Q v' G') : rCatA K v u G Q := by
  obtain ⟨a, xs, ds, rfl, h, p, l⟩ := x
  obtain ⟨a2, ys, es, rfl, h2, p2, l2⟩ := y
  have lx := dv_len p
  have ly := dv_len p2
  refine ⟨a, a2, xs, ys, rfl, rfl, .inl h, .inl h2, Nat.le_of_lt (small1000 (by omega)), fun _ => k _ G (Same.refl G) ⟨a2, ys, es, rfl, h2, p2, by omega⟩, fun _ _ => k _ G (Same.refl G) ⟨a, xs, ds, rfl, h, p, by omega⟩, fun _ _ t nt => ?_⟩
  have s := same_upd (o := .tup (xs ++ ys)) nt
  exact k _ _ s ⟨t, _, _, rfl, .inl upd_same, (p.same s).app (p2.same s), by rw [List.length_append]; omega⟩
end
theorem Wd.rd {h dr : Addr} {N : Addr → Prop} {H G G' : Hp} (W : Wd h dr N H G) (kp : Kp h G G') {a : Addr} {xs : List V} (x : Rd G a (.tup xs)) : Rd G' a (.tup xs) := by
  rcases x with e | ⟨o, e⟩
  · exact .inl (kp _ _ (W.hd.ns e (fun _ _ z => by cases z)) e)
  · exact .inr ⟨o, kp _ _ (W.hd.ns e (fun _ _ z => by cases z)) e⟩
end CS

namespace CP
open PySem PySem.Spec PyProof.Rows L2 Ek CC CS
/-! ### ties and puzzles -/
theorem sqT_same {K : PySem.W.Frag} {H H' : Hp} (s : Same H H') {a : Addr} {xs : List V} (x : SqT K H a xs) : SqT K H' a xs := by
  rcases x with x | x
  · exact .inl (rd_same s x)
  · exact .inr x
abbrev Tie := Nat × List Int × Int
def encTie (t : Tie) : PyData := .tuple [.int t.1, .tuple (t.2.1.map .int), .int t.2.2]
/-- whether a value is a tie of prices bks on cells below n -/
def tieD (bks : List Pd) (n : Int) : PyData → Bool
  | .tuple [.int p, .tuple cs, .int t] => (decide (0 ≤ p) && decide (p < ((bks.length : Nat) : Int))) && (decide (cs.length = (bks.getD p.toNat (0, [])).1) && (cs.all (belD n) && decide (1 ≤ t)))
  | _ => false
def tieOk (bks : List Pd) (n : Int) (t : Tie) : Prop := t.1 < bks.length ∧ t.2.1.length = (bks.getD t.1 (0, [])).1 ∧ (∀ c ∈ t.2.1, 0 ≤ c ∧ c < n) ∧ 1 ≤ t.2.2
def TiAt (H : Hp) (a : Addr) (t : Tie) : Prop := ∃ c, Rd H a (.tup [.int t.1, .ref c, .int t.2.2]) ∧ Rd H c (.tup (t.2.1.map V.int))
theorem TiAt.same {H H' : Hp} {a : Addr} {t : Tie} (s : Same H H') (x : TiAt H a t) : TiAt H' a t := by
  obtain ⟨c, h1, h2⟩ := x
  exact ⟨c, rd_same s h1, rd_same s h2⟩
abbrev TisAt (H : Hp) (as : List Addr) (ts : List Tie) : Prop := Paired (TiAt H) as ts
theorem TisAt.same {H H' : Hp} {as : List Addr} {ts : List Tie} (s : Same H H') (x : TisAt H as ts) : TisAt H' as ts := by
  induction x with
  | nil => exact .nil
  | cons e _ ih => exact .cons (e.same s) ih
theorem rd_updL {H : Hp} {D a : Addr} {xs ys : List V} {o : HO} (e : H D = some (.lst ys)) (x : Rd H a (.tup xs)) : Rd (upd H D o) a (.tup xs) := by
  rcases x with g | ⟨q, g⟩
  · exact .inl (by rw [upd_ne (ne_of g e (by intro z; cases z))]; exact g)
  · exact .inr ⟨q, by rw [upd_ne (ne_of g e (by intro z; cases z))]; exact g⟩
theorem rd_kp {h dr a : Addr} {H H' : Hp} {xs : List V} (hd : Hdd H h dr) (kp : Kp h H H') (x : Rd H a (.tup xs)) : Rd H' a (.tup xs) := by
  rcases x with e | ⟨o, e⟩
  · exact .inl (kp _ _ (hd.ns e (fun _ _ z => by cases z)) e)
  · exact .inr ⟨o, kp _ _ (hd.ns e (fun _ _ z => by cases z)) e⟩
theorem TiAt.updL {H : Hp} {D a : Addr} {t : Tie} {ys : List V} {o : HO} (e : H D = some (.lst ys)) (x : TiAt H a t) : TiAt (upd H D o) a t := by
  obtain ⟨c, h1, h2⟩ := x
  exact ⟨c, rd_updL e h1, rd_updL e h2⟩
theorem TisAt.updL {H : Hp} {D : Addr} {as : List Addr} {ts : List Tie} {ys : List V} {o : HO} (e : H D = some (.lst ys)) (x : TisAt H as ts) : TisAt (upd H D o) as ts := by
  induction x with
  | nil => exact .nil
  | cons e2 _ ih => exact .cons (e2.updL e) ih
theorem TiAt.kp {h dr : Addr} {H H' : Hp} {a : Addr} {t : Tie} (hd : Hdd H h dr) (kp : Kp h H H') (x : TiAt H a t) : TiAt H' a t := by
  obtain ⟨c, h1, h2⟩ := x
  exact ⟨c, rd_kp hd kp h1, rd_kp hd kp h2⟩
theorem TisAt.kp {h dr : Addr} {H H' : Hp} {as : List Addr} {ts : List Tie} (hd : Hdd H h dr) (kp : Kp h H H') (x : TisAt H as ts) : TisAt H' as ts := by
  induction x with
  | nil => exact .nil
  | cons e _ ih => exact .cons (e.kp hd kp) ih
def zf (b : Addr) (n : Nat) (t : Addr) : List (Str × V) := [("book", .ref b), ("cell_count", .int n), ("ties", .ref t)]
theorem zf_put (b : Addr) (n : Nat) (t : Addr) : putF "ties" (.ref t) (putF "cell_count" (.int n) (putF "book" (.ref b) [])) = zf b n t := by
  have e1 : ¬ (("book" : Str) = "cell_count") := by decide +kernel
  have e2 : ¬ (("book" : Str) = "ties") := by decide +kernel
  have e3 : ¬ (("cell_count" : Str) = "ties") := by decide +kernel
  simp only [putF, if_neg e1, if_neg e2, if_neg e3]
  rfl
theorem zf_book (b : Addr) (n : Nat) (t : Addr) : (zf b n t).lookup ("book" : Str) = some (.ref b) := by simp [zf, List.lookup]
theorem zf_cells (b : Addr) (n : Nat) (t : Addr) : (zf b n t).lookup ("cell_count" : Str) = some (.int n) := by
  have e : (("cell_count" : Str) == "book") = false := by decide +kernel
  simp [zf, List.lookup, e]
theorem zf_ties (b : Addr) (n : Nat) (t : Addr) : (zf b n t).lookup ("ties" : Str) = some (.ref t) := by
  have e : (("ties" : Str) == "book") = false := by decide +kernel
  have e2 : (("ties" : Str) == "cell_count") = false := by decide +kernel
  simp [zf, List.lookup, e, e2]
/-- a puzzle at z: its book of prices bks, n cells, its ties -/
def PzAt (C CB CP : Addr) (H : Hp) (z : Addr) (bks : List Pd) (n : Nat) (ts : List Tie) : Prop := ∃ dx b t as, H z = some (.ins CP dx (zf b n t)) ∧ BkAt C CB H b bks ∧ Rd H t (.tup (as.map V.ref)) ∧ TisAt H as ts ∧ (∀ x ∈ ts, tieOk bks n x) ∧ ts.length ≤ 200
theorem PzAt.same {C CB CP : Addr} {H H' : Hp} {z : Addr} {bks : List Pd} {n : Nat} {ts : List Tie} (s : Same H H') (x : PzAt C CB CP H z bks n ts) : PzAt C CB CP H' z bks n ts := by
  obtain ⟨dx, b, t, as, h1, h2, h3, h4, h5⟩ := x
  exact ⟨dx, b, t, as, s _ _ h1, h2.same s, rd_same s h3, h4.same s, h5⟩
theorem BkAt.updL {C CB D : Addr} {H : Hp} {b : Addr} {bks : List Pd} {xs : List V} {o : HO} (e : H D = some (.lst xs)) (x : BkAt C CB H b bks) : BkAt C CB (upd H D o) b bks := by
  obtain ⟨dx, t, ps, h1, h2, h3, h4⟩ := x
  exact ⟨dx, t, ps, by rw [upd_ne (ne_of h1 e (by intro z; cases z))]; exact h1, by rw [upd_ne (ne_of h2 e (by intro z; cases z))]; exact h2, PrsAt.updL e h3, h4⟩
theorem PzAt.updL {C CB CP D : Addr} {H : Hp} {z : Addr} {bks : List Pd} {n : Nat} {ts : List Tie} {xs : List V} {o : HO} (e : H D = some (.lst xs)) (x : PzAt C CB CP H z bks n ts) : PzAt C CB CP (upd H D o) z bks n ts := by
  obtain ⟨dx, b, t, as, h1, h2, h3, h4, h5⟩ := x
  exact ⟨dx, b, t, as, by rw [upd_ne (ne_of h1 e (by intro z; cases z))]; exact h1, BkAt.updL e h2, rd_updL e h3, h4.updL e, h5⟩
theorem PrsAt.kp {C h dr : Addr} {H H' : Hp} {ps : List Addr} {bks : List Pd} (hd : Hdd H h dr) (kp : Kp h H H') (x : PrsAt C H ps bks) : PrsAt C H' ps bks := by
  induction x with
  | nil => exact .nil
  | cons e _ ih => exact .cons (e.kp hd kp) ih
theorem PzAt.kp {C CB CP h dr : Addr} {H H' : Hp} {z : Addr} {bks : List Pd} {n : Nat} {ts : List Tie} (hd : Hdd H h dr) (kp : Kp h H H') (x : PzAt C CB CP H z bks n ts) : PzAt C CB CP H' z bks n ts := by
  obtain ⟨dx, b, t, as, h1, ⟨dx2, t2, ps, g1, g2, g3, g4⟩, h3, h4, h5⟩ := x
  exact ⟨dx, b, t, as, kp _ _ (hd.ns h1 (fun _ _ z => by cases z)) h1, ⟨dx2, t2, ps, kp _ _ (hd.ns g1 (fun _ _ z => by cases z)) g1, kp _ _ (hd.ns g2 (fun _ _ z => by cases z)) g2, PrsAt.kp hd kp g3, g4⟩, rd_kp hd kp h3, h4.kp hd kp, h5⟩
structure Pzc (K : PySem.W.Frag) (mg : Str → Option Value) (CP : Addr) : Prop where
  g : mg "Puzzle" = some (.ref CP)
  cl : Cls K CP
  nB : NoAttr K CP "book"
  nC : NoAttr K CP "cell_count"
  nT : NoAttr K CP "ties"
theorem ints_of {N : Addr → Prop} {H : Hp} : ∀ {xs : List V} {ds : List PyData} {n : Int}, DvAll N H xs ds → ds.all (belD n) = true → ∃ cs : List Int, xs = cs.map V.int ∧ ds = cs.map .int ∧ ∀ c ∈ cs, 0 ≤ c ∧ c < n
  | _, _, _, .nil, _ => ⟨[], rfl, rfl, fun _ h => by cases h⟩
  | _, _, n, .cons (d := d) h t, e => by
    rw [List.all_cons, Bool.and_eq_true] at e
    obtain ⟨cs, rfl, rfl, b⟩ := ints_of t e.2
    have ei : isIntD d = true := by cases d <;> first | rfl | cases e.1
    obtain ⟨i, rfl, rfl⟩ := int_dv h ei
    have z : (decide (0 ≤ i) && decide (i < n)) = true := e.1
    rw [Bool.and_eq_true, decide_eq_true_iff, decide_eq_true_iff] at z
    exact ⟨i :: cs, rfl, rfl, fun c m => by
      rcases List.mem_cons.mp m with rfl | m
      · exact z
      · exact b c m⟩
/-- a value that is a tie, as it stands in the heap -/
theorem tie_of {N : Addr → Prop} {H : Hp} {v : V} {d : PyData} {bks : List Pd} {n : Int} (x : Dv N H v d) (e : tieD bks n d = true) : ∃ a t, v = .ref a ∧ d = encTie t ∧ TiAt H a t ∧ tieOk bks n t := by
  cases x with
  | @tup a xs ds h p =>
    cases p with
    | nil => cases e
    | @cons v0 d0 _ _ h0 p =>
      cases p with
      | nil => cases d0 <;> cases e
      | @cons v1 d1 _ _ h1 p =>
        cases p with
        | nil => cases d0 <;> cases d1 <;> cases e
        | @cons v2 d2 _ _ h2 p =>
          cases p with
          | cons _ _ => cases d0 <;> cases d1 <;> cases d2 <;> cases e
          | nil =>
            cases h0 with
            | int i0 =>
              cases h1 with
              | @tup c ys cs hc pc =>
                cases h2 with
                | int i2 =>
                  have z : ((decide (0 ≤ i0) && decide (i0 < ((bks.length : Nat) : Int))) && (decide (cs.length = (bks.getD i0.toNat (0, [])).1) && (cs.all (belD n) && decide (1 ≤ i2)))) = true := e
                  simp only [Bool.and_eq_true, decide_eq_true_iff] at z
                  obtain ⟨⟨z0, z1⟩, z2, z3, z4⟩ := z
                  obtain ⟨is, rfl, rfl, bi⟩ := ints_of pc z3
                  have e0 : ((i0.toNat : Nat) : Int) = i0 := by omega
                  refine ⟨a, (i0.toNat, is, i2), rfl, ?_, ⟨c, ?_, hc⟩, by show i0.toNat < _; omega, by rw [List.length_map] at z2; exact z2, bi, z4⟩
                  · show _ = PyData.tuple [.int ((i0.toNat : Nat) : Int), _, _]
                    rw [e0]
                  · show Rd H a (.tup [.int ((i0.toNat : Nat) : Int), _, _])
                    rw [e0]
                    exact h
                | _ => cases e
              | _ => cases h2 <;> cases e
            | _ => cases h1 <;> cases h2 <;> cases e
  | _ => cases e
theorem TiAt.dv {N : Addr → Prop} {H : Hp} {a : Addr} {t : Tie} (x : TiAt H a t) : Dv N H (.ref a) (encTie t) := by
  obtain ⟨c, h1, h2⟩ := x
  have go : ∀ cs : List Int, DvAll N H (cs.map V.int) (cs.map .int) := fun cs => by
    induction cs with
    | nil => exact .nil
    | cons c cs ih => exact .cons (.int c) ih
  exact .tup h1 (.cons (.int _) (.cons (.tup h2 (go _)) (.cons (.int _) .nil)))
theorem tie_ok {bks : List Pd} {n : Int} {t : Tie} (x : tieOk bks n t) : tieD bks n (encTie t) = true := by
  obtain ⟨h1, h2, h3, h4⟩ := x
  show ((decide ((0 : Int) ≤ t.1) && decide ((t.1 : Int) < ((bks.length : Nat) : Int))) && (decide ((t.2.1.map PyData.int).length = (bks.getD ((t.1 : Nat) : Int).toNat (0, [])).1) && ((t.2.1.map PyData.int).all (belD n) && decide (1 ≤ t.2.2)))) = true
  rw [decide_eq_true (by omega), decide_eq_true (by omega), decide_eq_true (by rw [List.length_map, Int.toNat_natCast]; exact h2), decide_eq_true h4, Bool.and_true, Bool.true_and, Bool.true_and, Bool.and_true, List.all_map]
  exact List.all_eq_true.mpr fun c m => by
    show (decide (0 ≤ c) && decide (c < n)) = true
    rw [decide_eq_true (h3 c m).1, decide_eq_true (h3 c m).2]
    rfl
section
variable {P : Program} {w : World} {K : PySem.W.Frag} {mg : Str → Option Value} {base : Heap}
theorem ok_XF {f : Addr} {fd : FuncData} (F : Fun K "__init__" "InvalidFilling.__init__" sXF f fd) : FnOk P w K mg base CX0 1 f fd ["self", "value"] (spXf K "value") := by
  refine F.ok scXF (fun vs H Q E h => ?_) (fun cdv A outer s H vs Q E hr h => ?_)
  · obtain ⟨a, C, y, rfl, _⟩ := h
    rfl
  · obtain ⟨a, C, y, rfl, T, hno, ha, q⟩ := h
    exact ⟨_, pss_one (ps_ost (pv 0) (pv 1)), y, rfl, .ref a, rfl, a, C, rfl, T, hno, .inl ⟨ha, fun d nd ne => q d _ (x1_end nd ne).1 nd ne upd_same (by rw [upd_ne ne, upd_same])⟩⟩
theorem ok_XSt {f : Addr} {fd : FuncData} (F : Fun K "__init__" "InvalidStart.__init__" sXSt f fd) : FnOk P w K mg base CX0 1 f fd ["self", "value"] (spXf K "value") := by
  refine F.ok scXSt (fun vs H Q E h => ?_) (fun cdv A outer s H vs Q E hr h => ?_)
  · obtain ⟨a, C, y, rfl, _⟩ := h
    rfl
  · obtain ⟨a, C, y, rfl, T, hno, ha, q⟩ := h
    exact ⟨_, pss_one (ps_ost (pv 0) (pv 1)), y, rfl, .ref a, rfl, a, C, rfl, T, hno, .inl ⟨ha, fun d nd ne => q d _ (x1_end nd ne).1 nd ne upd_same (by rw [upd_ne ne, upd_same])⟩⟩
def numD : PyData → Bool
  | .int i => decide (0 ≤ i)
  | _ => false
def spINu : Sp := fun vs H Q _ => ∃ (N : Addr → Prop) (v : V) (d : PyData), vs = [v] ∧ Dv N H v d ∧ Q (.bl (numD d)) H
theorem ok_INu {f : Addr} {fd : FuncData} (F : Fun K "is_number" "is_number" sINu f fd) {fIsI : Addr} {fdIsI : FuncData} (GIsI : FnOk P w K mg base CX0 1 fIsI fdIsI ["value"] spIsI) (kIsI : PySem.W.keepIn K (.ref fIsI) = true) (bIsI : Binds K fdIsI ["value"] []) (gIsI : mg "is_integer" = some (.ref fIsI)) : FnOk P w K mg base CX0 2 f fd ["value"] spINu := by
  refine F.ok scINu (fun vs H Q E h => ?_) (fun cdv A outer s H vs Q E hr h => ?_)
  · obtain ⟨N, v, d, rfl, _⟩ := h
    rfl
  · obtain ⟨N, v, d, rfl, dv, q⟩ := h
    refine ⟨_, (pss_one (ps_ret (pe_and (pe_call GIsI (hr.mono (by decide)) (by rfl) gIsI kIsI bIsI .nil pass0 (pa_cons (pv 0) pa_nil)) (pe_one (pe_cmpR op_ge (pv 0) pe_int (nomark _)))))), ?_⟩
    refine q_ret ?_
    refine ⟨v, rfl, N, v, d, rfl, dv, _, rfl, ?_⟩
    cases e : isIntD d with
    | false =>
      have z : numD d = false := by cases d <;> first | rfl | cases e
      rw [z] at q
      exact q
    | true =>
      obtain ⟨i, rfl, rfl⟩ := int_dv dv e
      exact ⟨.int i, rfl, i, 0, rfl, rfl, q⟩
end
end CP

namespace CP
open PySem PySem.Spec PyProof.Rows L2 Ek CC CS
section
variable {P : Program} {w : World} {K : PySem.W.Frag} {mg : Str → Option Value} {base : Heap}
theorem tie_no {bks : List Pd} {n : Int} {d : PyData} (h : isTupD d = false) : tieD bks n d = false := by cases d <;> first | rfl | cases h
def elD : PyData → List PyData
  | .tuple cs => cs
  | _ => []
def inD : PyData → Int
  | .int i => i
  | _ => 0
theorem tie3 {bks : List Pd} {n : Int} {d0 d1 d2 : PyData} : tieD bks n (.tuple [d0, d1, d2]) = (belD ((bks.length : Nat) : Int) d0 && (isTupD d1 && (decide ((elD d1).length = (bks.getD (inD d0).toNat (0, [])).1) && ((elD d1).all (belD n) && (isIntD d2 && decide (1 ≤ inD d2)))))) := by
  cases d0 <;> cases d1 <;> cases d2 <;> first | rfl | simp [tieD, belD, isTupD, isIntD]
def spITi (C CB : Addr) : Sp := fun vs H Q _ => ∃ (N : Addr → Prop) (v : V) (d : PyData) (b : Addr) (bks : List Pd) (n : Int), vs = [v, .ref b, .int n] ∧ Dv N H v d ∧ BkAt C CB H b bks ∧ ∀ H', Same H H' → Q (.bl (tieD bks n d)) H'
theorem ok_ITi {f C CB : Addr} {fd : FuncData} (F : Fun K "is_tie" "is_tie" sITi f fd) (B : Bt mg) (T : Pc K mg C) (TB : Bc K mg CB) {fINB : Addr} {fdINB : FuncData} (GINB : FnOk P w K mg base CX0 2 fINB fdINB ["value", "limit"] spINB) (kINB : PySem.W.keepIn K (.ref fINB) = true) (bINB : Binds K fdINB ["value", "limit"] []) (gINB : mg "is_number_below" = some (.ref fINB)) {fIsI : Addr} {fdIsI : FuncData} (GIsI : FnOk P w K mg base CX0 1 fIsI fdIsI ["value"] spIsI) (kIsI : PySem.W.keepIn K (.ref fIsI) = true) (bIsI : Binds K fdIsI ["value"] []) (gIsI : mg "is_integer" = some (.ref fIsI)) {fBL : Addr} {fdBL : FuncData} (GBL : FnOk P w K mg base CX0 1 fBL fdBL ["self"] (spBL C CB)) (bBL : Binds K fdBL ["self"] []) (inBL : PySem.W.findIn K (.ref CB) "__len__" = some (some (.ref fBL))) (fnBL : PySem.W.isFn K (.ref fBL) = true) : FnOk P w K mg base CX0 3 f fd ["value", "book", "cell_count"] (spITi C CB) := by
  refine F.ok scITi (fun vs H Q E h => ?_) (fun cdv A outer s H vs Q E hr h => ?_)
  · obtain ⟨N, v, d, b, bks, n, rfl, _⟩ := h
    rfl
  · obtain ⟨N, v, d, b, bks, n, rfl, dv, bk, q⟩ := h
    refine ⟨_, (pss_cons (ps_if (PW.pt (pw_or (pt_not (pt_val (pe_callB call_isi (by rfl) B.isinstance (by decide +kernel) (pa_cons (pv 0) (pa_cons (pe_bltn (v := .ty "tuple") (by rfl) B.tuple (by decide +kernel) rfl) pa_nil))))) (pw_or1 (pt_cmpR op_ne (pe_callB call_len_seq (by rfl) B.len PySem.boot_len (pa_cons (pv 0) pa_nil)) pe_int (nomark _)))))
      (pss_one (ps_ret pe_bl)) pss_nil)
      (pss_cons (ps_asg (pv 0) (pg_tup (by rfl) (pgs_cons (pg_name (i := 3) scITi.nd rfl (.inl rfl)) (pgs_cons (pg_name (i := 4) scITi.nd rfl (.inl rfl)) (pgs_cons (pg_name (i := 5) scITi.nd rfl (.inl rfl)) pgs_nil)))))
      (pss_cons (ps_if (PW.pt (pw_or (pt_not (pt_val (pe_call GINB (hr.mono (by decide)) (by rfl) gINB kINB bINB .nil pass0 (pa_cons (pv 3) (pa_cons (pe_callB (call_lenOwn GBL (hr.mono (by decide)) inBL fnBL bBL pass0) (by rfl) B.len PySem.boot_len (pa_cons (pv 1) pa_nil)) pa_nil))))) (pw_or1 (pt_not (pt_val (pe_callB call_isi (by rfl) B.isinstance (by decide +kernel) (pa_cons (pv 4) (pa_cons (pe_bltn (v := .ty "tuple") (by rfl) B.tuple (by decide +kernel) rfl) pa_nil))))))))
      (pss_one (ps_ret pe_bl)) pss_nil)
      (pss_cons (ps_if (PW.pt (pw_or (pt_cmpR op_ne (pe_callB call_len_seq (by rfl) B.len PySem.boot_len (pa_cons (pv 4) pa_nil)) (pe_fld (pe_ix ix_tup (pe_fld (pv 1) rfl) (pv 3) (fun _ _ => rfl)) rfl) (nomark _)) (pw_or1 (pt_not (pt_val (pe_callB (cr_all rfl) (by rfl) B.all (by decide +kernel) (pa_cons (pe_lc (own := [("cell", 6)]) (g := gName 6) (tt := tYes) rfl scITi.nd (pi_tup (pv 4)) (blkOk_by (N := NITi) (sc := defScope sITi) (by decide +kernel)) (fun _ _ _ _ _ => pg_name (i := 6) scITi.nd rfl (Or.inl rfl)) (fun _ _ _ _ _ => pts_nil) (fun _ _ _ _ _ => (pe_call GINB (hr.mono (by decide)) (by rfl) gINB kINB bINB .nil pass0 (pa_cons (pv 6) (pa_cons (pv 2) pa_nil))))) pa_nil)))))))
      (pss_one (ps_ret pe_bl)) pss_nil)
      (pss_one (ps_ret (pe_and (pe_call GIsI (hr.mono (by decide)) (by rfl) gIsI kIsI bIsI .nil pass0 (pa_cons (pv 5) pa_nil)) (pe_one (pe_cmpR op_ge (pv 5) pe_int (nomark _)))))))))), ?_⟩
    obtain ⟨ty, hty, k1, k2, k3⟩ := ty_of (K := K) dv
    have no : tieD bks n d = false → Q (.bl false) H := fun z => by
      have y := q H (Same.refl H)
      rw [z] at y
      exact y
    refine q_seq (q_if ?_)
    refine ⟨v, rfl, v, _, ty, _, isTupD d, rfl, .ty _, hty, k1, ?_⟩
    cases tt : isTupD d with
    | false => exact ⟨false, rfl, no (tie_no tt)⟩
    | true =>
      refine ⟨true, rfl, ?_⟩
      obtain ⟨a, xs, ds, rfl, ht, rfl, p⟩ := tup_dv dv tt
      have lx := dv_len p
      refine ⟨.ref a, rfl, a, xs, rfl, .inr ht, rfl, _, rfl, ?_⟩
      rw [dInt]
      by_cases c : ds.length = 3
      · rw [decide_eq_true (show ((xs.length : Nat) : Int) = 3 by omega)]
        refine q_next ?_
        cases p with
        | nil => cases c
        | @cons x0 d0 xs ds v0 p =>
        cases p with
        | nil => cases c
        | @cons x1 d1 xs ds v1 p =>
        cases p with
        | nil => cases c
        | @cons x2 d2 xs ds v2 p =>
        cases p with
        | cons _ _ => simp at c
        | nil =>
        dsimp only
        refine q_seq (q_asg ?_)
        refine ⟨.ref a, rfl, a, _, rfl, ht, rfl, x0, _, rfl, x1, _, rfl, x2, _, rfl, rfl, ?_⟩
        dsimp only
        refine q_seq (q_if ?_)
        obtain ⟨dx, t, ps, hb, hps, pa, b1, b6⟩ := id bk
        have lp := paired_len pa
        rw [tie3] at no q
        refine ⟨x0, rfl, .ref b, rfl, b, dx, _, rfl, hb, b, bks, rfl, bk, bks.length, rfl, by omega, N, x0, d0, _, rfl, v0, _, rfl, ?_⟩
        cases e0 : belD ((bks.length : Nat) : Int) d0 with
        | false => exact no (by rw [e0]; rfl)
        | true =>
          rw [e0, Bool.true_and] at no q
          obtain ⟨i0, rfl, rfl⟩ := int_dv v0 (by cases d0 <;> first | rfl | cases e0)
          have z0 : (decide (0 ≤ i0) && decide (i0 < ((bks.length : Nat) : Int))) = true := e0
          simp only [Bool.and_eq_true, decide_eq_true_iff] at z0
          obtain ⟨ty1, hty1, k11, _, _⟩ := ty_of (K := K) v1
          refine ⟨x1, rfl, x1, _, ty1, _, isTupD d1, rfl, .ty _, hty1, k11, ?_⟩
          cases t1 : isTupD d1 with
          | false => exact ⟨false, rfl, no (by rw [t1]; rfl)⟩
          | true =>
            rw [t1, Bool.true_and] at no q
            refine ⟨true, rfl, ?_⟩
            obtain ⟨c1, ys, cs, rfl, hc, rfl, pc⟩ := tup_dv v1 t1
            have lc := dv_len pc
            obtain ⟨p, hp1, ⟨dxp, tp, hp, hm, kk1, kk3, hl⟩⟩ := paired_get pa (List.getElem?_eq_getElem (show i0.toNat < bks.length by omega))
            have hgd : bks.getD (inD (.int i0)).toNat (0, []) = bks[i0.toNat] := by
              rw [List.getD_eq_getElem?_getD]
              show (bks[i0.toNat]?).getD _ = _
              rw [List.getElem?_eq_getElem (show i0.toNat < bks.length by omega)]
              rfl
            rw [hgd] at no q
            refine q_next ?_
            dsimp only
            refine q_seq (q_if ?_)
            refine ⟨.ref c1, rfl, c1, ys, rfl, .inr hc, ?_⟩
            refine ⟨.ref b, rfl, b, CB, dx, _, .ref t, rfl, hb, TB.cl, TB.nP, bk_fld, .int i0, rfl, t, _, i0, .ref p, rfl, rfl, tl hps, at_z (j := i0.toNat) (by omega) (by rw [List.getElem?_map, hp1]; rfl), p, C, dxp, _, .int (bks[i0.toNat]).1, rfl, hp, T.cl, T.nS, pf_size _ _, rfl, _, rfl, ?_⟩
            rw [dInt]
            have el : elD (.tuple cs) = cs := rfl
            rw [el] at no q
            by_cases cl : cs.length = (bks[i0.toNat]).1
            · rw [decide_eq_true (show ((ys.length : Nat) : Int) = (((bks[i0.toNat]).1 : Nat) : Int) by omega)]
              rw [decide_eq_true cl, Bool.true_and] at q
              refine ⟨.ref c1, rfl, c1, rfl, ⟨_, hc⟩, fun D nD => lc_tup (K := K) (a := c1) (xs := ys) (fun i H' => Same H H' ∧ H' D = some (.lst (((cs.take i).map (belD n)).map V.bl))) ⟨same_upd nD, upd_same⟩ (fun i H' _ hP => sqT_same hP.1 hc) (fun i x H' hx hP => ?_) (fun H' hP => ?_)⟩
              · obtain ⟨s', hD⟩ := hP
                have il : i < ys.length := (List.getElem?_eq_some_iff.mp hx).1
                obtain ⟨e, he, dx⟩ := dv_at (pc.same s') hx
                refine ⟨rfl, x, rfl, .int n, rfl, N, x, e, n, rfl, dx, _, hD, ?_, fun c o e => ?_, ?_⟩
                · rw [List.length_map, List.length_map, List.length_take]
                  exact small1000 (by omega)
                · rw [upd_ne (ne_of_none e nD)]
                  exact s' _ _ e
                · rw [upd_same, List.take_add_one, he, List.map_append, List.map_append]
                  rfl
              · obtain ⟨s', hD⟩ := hP
                rw [lc, List.take_length] at hD
                refine ⟨D, _, rfl, sl hD, _, rfl, ?_⟩
                rw [show (cs.map (belD n)).all id = cs.all (belD n) by rw [List.all_map]; rfl]
                cases al : cs.all (belD n) with
                | false =>
                  rw [al] at q
                  exact q H' s'
                | true =>
                  rw [al, Bool.true_and] at q
                  refine q_next ?_
                  dsimp only
                  refine q_ret ?_
                  refine ⟨x2, rfl, N, x2, d2, rfl, v2.same s', _, rfl, ?_⟩
                  cases e2 : isIntD d2 with
                  | false => rw [e2] at q; exact q H' s'
                  | true =>
                    rw [e2, Bool.true_and] at q
                    obtain ⟨i2, rfl, rfl⟩ := int_dv v2 e2
                    exact ⟨.int i2, rfl, i2, 1, rfl, rfl, q H' s'⟩
            · rw [decide_eq_false (show ¬ ((ys.length : Nat) : Int) = (((bks[i0.toNat]).1 : Nat) : Int) by omega)]
              exact no (by rw [decide_eq_false cl]; rfl)
      · rw [decide_eq_false (show ¬ ((xs.length : Nat) : Int) = 3 by omega)]
        refine no ?_
        match ds, c with
        | [], _ => rfl
        | [a], _ => cases a <;> rfl
        | [a, b], _ => cases a <;> cases b <;> rfl
        | [a, b, c], h => exact absurd rfl h
        | a :: b :: c :: e :: l, _ => cases a <;> cases b <;> cases c <;> rfl
end
end CP

namespace CP
open PySem PySem.Spec PyProof.Rows L2 Ek CC CS
section
variable {P : Program} {w : World} {K : PySem.W.Frag} {mg : Str → Option Value} {base : Heap}
def isSeqD : PyData → Bool
  | .tuple _ => true
  | .list _ => true
  | _ => false
theorem seq_ty {N : Addr → Prop} {H : Hp} {v : V} {d : PyData} (x : Dv N H v d) : ∃ t us, TyX K H v t ∧ Paired ClsV [V.ty "list", .ty "tuple"] us ∧ PySem.W.kitAny K t us = some (isSeqD d) := by
  have c2 : Paired ClsV [.ty "list", .ty "tuple"] [.type "list", .type "tuple"] := .cons (.ty _) (.cons (.ty _) .nil)
  cases x with
  | non => exact ⟨_, _, .base .non, c2, kitAny_cons (b := false) (kit_ty (by decide +kernel)) (fun _ => kitAny_cons (b := false) (r := false) (kit_ty (by decide +kernel)) (fun _ => kitAny_nil) (fun z => z)) (fun z => by cases z)⟩
  | bl b => exact ⟨_, _, .base (.bl _), c2, kitAny_cons (b := false) (kit_ty (by decide +kernel)) (fun _ => kitAny_cons (b := false) (r := false) (kit_ty (by decide +kernel)) (fun _ => kitAny_nil) (fun z => z)) (fun z => by cases z)⟩
  | int i => exact ⟨_, _, .base (.int _), c2, kitAny_cons (b := false) (kit_ty (by decide +kernel)) (fun _ => kitAny_cons (b := false) (r := false) (kit_ty (by decide +kernel)) (fun _ => kitAny_nil) (fun z => z)) (fun z => by cases z)⟩
  | str s => exact ⟨_, _, .base (.str _), c2, kitAny_cons (b := false) (kit_ty (by decide +kernel)) (fun _ => kitAny_cons (b := false) (r := false) (kit_ty (by decide +kernel)) (fun _ => kitAny_nil) (fun z => z)) (fun z => by cases z)⟩
  | tup h p =>
    rcases h with h | ⟨o, h⟩
    · exact ⟨_, _, .base (.tup h), c2, kitAny_cons (b := false) (kit_ty (by decide +kernel)) (fun _ => kitAny_cons (b := true) (kit_ty (by decide +kernel)) (fun z => by cases z) (fun _ => rfl)) (fun z => by cases z)⟩
    · exact ⟨_, _, .fTuple h, c2, kitAny_cons (b := false) (kit_ty (by decide +kernel)) (fun _ => kitAny_cons (b := true) (kit_ty (by decide +kernel)) (fun z => by cases z) (fun _ => rfl)) (fun z => by cases z)⟩
  | lst h n p => exact ⟨_, _, .base (.lst h), c2, kitAny_cons (b := true) (kit_ty (by decide +kernel)) (fun z => by cases z) (fun _ => rfl)⟩
def spIQD : Sp := fun vs H Q _ => ∃ (N : Addr → Prop) (v : V) (d : PyData), vs = [v] ∧ Dv N H v d ∧ ∀ H', Same H H' → Q (.bl (isSeqD d)) H'
theorem ok_IQD {f : Addr} {fd : FuncData} (F : Fun K "is_sequence" "is_sequence" sIQ f fd) (B : Bt mg) : FnOk P w K mg base CX0 1 f fd ["value"] spIQD := by
  refine F.ok scIQ (fun vs H Q E h => ?_) (fun cdv A outer s H vs Q E hr h => ?_)
  · obtain ⟨N, v, d, rfl, _⟩ := h
    rfl
  · obtain ⟨N, v, d, rfl, dv, q⟩ := h
    refine ⟨_, (pss_one (ps_ret (pe_callB call_isiT (by rfl) B.isinstance (by decide +kernel) (pa_cons (pv 0) (pa_cons (pe_tup (pa_cons (pe_bltn (v := .ty "list") (by rfl) B.list (by decide +kernel) rfl) (pa_cons (pe_bltn (v := .ty "tuple") (by rfl) B.tuple (by decide +kernel) rfl) pa_nil))) pa_nil))))), ?_⟩
    refine q_ret ⟨_, rfl, by show 2 ≤ sizeLine; decide, fun p np => ?_⟩
    have s1 := same_upd (o := .tup [.ty "list", .ty "tuple"]) np
    obtain ⟨t, us, h1, h2, h3⟩ := seq_ty (K := K) (dv.same s1)
    exact ⟨_, _, _, _, _, _, rfl, upd_same, h2, h1, h3, q _ s1⟩
/-- the first that is no tie -/
def badAt (bks : List Pd) (n : Int) (ds : List PyData) : Option Nat := ds.findIdx? fun d => !tieD bks n d
def optV : Option Nat → V
  | some i => .int ((i : Nat) : Int)
  | none => .non
def spFNT (C CB : Addr) : Sp := fun vs H Q _ => ∃ (N : Addr → Prop) (a : Addr) (xs : List V) (ds : List PyData) (b : Addr) (bks : List Pd) (n : Int), vs = [.ref a, .ref b, .int n] ∧ Rd H a (.tup xs) ∧ DvAll N H xs ds ∧ ds.length ≤ 200 ∧ BkAt C CB H b bks ∧ ∀ H', Same H H' → Q (optV (badAt bks n ds)) H'
theorem ok_FNT {f C CB : Addr} {fd : FuncData} (F : Fun K "_first_that_is_no_tie" "_first_that_is_no_tie" sFNT f fd) (B : Bt mg) {fIQ : Addr} {fdIQ : FuncData} (GIQ : FnOk P w K mg base CX0 1 fIQ fdIQ ["value"] spIQD) (kIQ : PySem.W.keepIn K (.ref fIQ) = true) (bIQ : Binds K fdIQ ["value"] []) (gIQ : mg "is_sequence" = some (.ref fIQ)) {fITi : Addr} {fdITi : FuncData} (GITi : FnOk P w K mg base CX0 3 fITi fdITi ["value", "book", "cell_count"] (spITi C CB)) (kITi : PySem.W.keepIn K (.ref fITi) = true) (bITi : Binds K fdITi ["value", "book", "cell_count"] []) (gITi : mg "is_tie" = some (.ref fITi)) : FnOk P w K mg base CX0 4 f fd ["ties", "book", "cell_count"] (spFNT C CB) := by
  refine F.ok scFNT (fun vs H Q E h => ?_) (fun cdv A outer s H vs Q E hr h => ?_)
  · obtain ⟨N, a, xs, ds, b, bks, n, rfl, _⟩ := h
    rfl
  · obtain ⟨N, a, xs, ds, b, bks, n, rfl, ht, p, l2, bk, q⟩ := h
    refine ⟨_, (pss_cons (ps_if (pt_not (pt_val (pe_call GIQ (hr.mono (by decide)) (by rfl) gIQ kIQ bIQ .nil pass0 (pa_cons (pv 0) pa_nil))))
      (pss_one (ps_ret pe_int)) pss_nil)
      (pss_cons (ps_for PassesOwn.never rfl (pi_enumT (by rfl) B.enumerate (pa_cons (pv 0) pa_nil)) (pg_tup (by rfl) (pgs_cons (pg_name (i := 3) scFNT.nd rfl (.inl rfl)) (pgs_cons (pg_name (i := 4) scFNT.nd rfl (.inl rfl)) pgs_nil)))
      (pss_one (ps_if (pt_not (pt_val (pe_call GITi (hr.mono (by decide)) (by rfl) gITi kITi bITi .nil pass0 (pa_cons (pv 4) (pa_cons (pv 1) (pa_cons (pv 2) pa_nil))))))
      (pss_one (ps_ret (pv 3))) pss_nil)))
      (pss_one (ps_ret pe_non)))), ?_⟩
    have lx := dv_len p
    refine q_seq (q_if ?_)
    refine ⟨.ref a, rfl, N, .ref a, .tuple ds, rfl, .tup ht p, fun H1 s1 => ⟨true, rfl, ?_⟩⟩
    refine q_next ?_
    dsimp only
    refine q_seq ?_
    have ht1 := rd_same s1 ht
    refine ⟨.ref a, rfl, a, xs, rfl, .inl ht1, for_enumT (K := K) (a := a) (xs := xs) (fun i σ H' => Same H1 H' ∧ (∃ x3 x4 : Option V, σ = [some (.ref a), some (.ref b), some (.int n), x3, x4]) ∧ ∀ d ∈ ds.take i, tieD bks n d = true) ⟨Same.refl _, ⟨none, none, rfl⟩, fun d m => by cases m⟩ (fun i σ H' _ hP => .inl (rd_same hP.1 ht1)) (fun i x σ H' T1 hx hP nT => ?_) (fun σ H' hP => ?_)⟩
    · obtain ⟨s', ⟨x3, x4, rfl⟩, al⟩ := hP
      have st := same_upd (o := .tup [.int (i : Nat), x]) nT
      have s2 := (s1.trans s').trans st
      have il : i < xs.length := (List.getElem?_eq_some_iff.mp hx).1
      obtain ⟨e, he, dx⟩ := dv_at (p.same s2) hx
      refine ⟨T1, _, rfl, tl upd_same, rfl, _, _, rfl, _, _, rfl, rfl, ?_⟩
      refine q_if ?_
      refine ⟨x, rfl, .ref b, rfl, .int n, rfl, N, x, e, b, bks, n, rfl, dx, bk.same s2, fun H2 s3 => ⟨_, rfl, ?_⟩⟩
      cases et : tieD bks n e with
      | false =>
        rw [if_pos (show (!false) = true from rfl)]
        refine q_ret ?_
        refine ⟨.int (i : Nat), rfl, ?_⟩
        have z : badAt bks n ds = some i := by
          unfold badAt
          rw [List.findIdx?_eq_some_iff_getElem]
          refine ⟨by omega, ?_, fun j hj => ?_⟩
          · have : ds[i] = e := by
              have := List.getElem?_eq_getElem (show i < ds.length by omega)
              rw [he] at this
              exact (Option.some.inj this).symm
            rw [this, et]
            rfl
          · rw [al ds[j] (List.mem_take_iff_getElem.mpr ⟨j, by omega, rfl⟩)]
            decide
        have y := q H2 (s2.trans s3)
        rw [z] at y
        exact y
      | true =>
        refine q_next ?_
        refine ⟨s'.trans (st.trans s3), ⟨_, _, rfl⟩, fun d m => ?_⟩
        rw [List.take_add_one, he] at m
        rcases List.mem_append.mp m with m | m
        · exact al d m
        · rw [List.mem_singleton.mp m]
          exact et
    · obtain ⟨s', ⟨x3, x4, rfl⟩, al⟩ := hP
      rw [lx, List.take_length] at al
      dsimp only
      refine q_ret ?_
      have z : badAt bks n ds = none := by
        unfold badAt
        rw [List.findIdx?_eq_none_iff]
        exact fun d m => by rw [al d m]; rfl
      have y := q H' (s1.trans s')
      rw [z] at y
      exact y
/-- the making of a puzzle that is one -/
def spPZI (C CB CP : Addr) : Sp := fun vs H Q _ => ∃ (z dx b a : Addr) (as : List Addr) (bks : List Pd) (n : Nat) (ts : List Tie), vs = [.ref z, .ref b, .int n, .ref a] ∧ H z = some (.ins CP dx []) ∧ BkAt C CB H b bks ∧ Rd H a (.tup (as.map V.ref)) ∧ TisAt H as ts ∧ (∀ t ∈ ts, tieOk bks n t) ∧ ts.length ≤ 200 ∧
  ∀ H', (∀ c o, c ≠ z → H c = some o → H' c = some o) → PzAt C CB CP H' z bks n ts → Q .non H'
theorem tis_dv {N : Addr → Prop} {H : Hp} {as : List Addr} {ts : List Tie} (x : TisAt H as ts) : DvAll N H (as.map V.ref) (ts.map encTie) := by
  induction x with
  | nil => exact .nil
  | cons e _ ih => exact .cons e.dv ih
theorem bad_none {bks : List Pd} {n : Int} {ts : List Tie} (h : ∀ t ∈ ts, tieOk bks n t) : badAt bks n (ts.map encTie) = none := by
  unfold badAt
  rw [List.findIdx?_eq_none_iff]
  intro d m
  obtain ⟨t, mt, rfl⟩ := List.mem_map.mp m
  rw [tie_ok (h t mt)]
  rfl
theorem ok_PZI0 {f C CB CP : Addr} {fd : FuncData} (F : Fun K "__init__" "Puzzle.__init__" sPZI f fd) (B : Bt mg) (TB : Bc K mg CB) (eB : Pe K CB) (TP : Pzc K mg CP) (n1 : C ≠ CP) (n2 : CB ≠ CP) {fINu : Addr} {fdINu : FuncData} (GINu : FnOk P w K mg base CX0 2 fINu fdINu ["value"] spINu) (kINu : PySem.W.keepIn K (.ref fINu) = true) (bINu : Binds K fdINu ["value"] []) (gINu : mg "is_number" = some (.ref fINu)) {fFNT : Addr} {fdFNT : FuncData} (GFNT : FnOk P w K mg base CX0 4 fFNT fdFNT ["ties", "book", "cell_count"] (spFNT C CB)) (kFNT : PySem.W.keepIn K (.ref fFNT) = true) (bFNT : Binds K fdFNT ["ties", "book", "cell_count"] []) (gFNT : mg "_first_that_is_no_tie" = some (.ref fFNT)) : FnOk P w K mg base CX0 5 f fd ["self", "book", "cell_count", "ties"] (spPZI C CB CP) := by
  refine F.ok scPZI (fun vs H Q E h => ?_) (fun cdv A outer s H vs Q E hr h => ?_)
  · obtain ⟨z, dx, b, a, as, bks, n, ts, rfl, _⟩ := h
    rfl
  · obtain ⟨z, dx, b, a, as, bks, n, ts, rfl, hz, bk, ha, ti, ok, l2, q⟩ := h
    refine ⟨_, (pss_cons (ps_if (pt_not (pt_val (pe_callB call_isi (by rfl) B.isinstance (by decide +kernel) (pa_cons (pv 1) (pa_cons (pe_glob (v := .ref CB) (by rfl) TB.g rfl) pa_nil)))))
      (pss_one ps_never) pss_nil)
      (pss_cons (ps_if (pt_not (pt_val (pe_call GINu (hr.mono (by decide)) (by rfl) gINu kINu bINu .nil pass0 (pa_cons (pv 2) pa_nil))))
      (pss_one ps_never) pss_nil)
      (pss_cons (ps_set (i := 4) scPZI.nd rfl (.inl rfl) (pe_call GFNT (hr.mono (by decide)) (by rfl) gFNT kFNT bFNT .nil pass0 (pa_cons (pv 3) (pa_cons (pv 1) (pa_cons (pv 2) pa_nil)))))
      (pss_cons (ps_if (pt_cmpR op_notN (pv 4) pe_non (nomark _))
      (pss_one ps_never) pss_nil)
      (pss_cons (ps_fld (pv 0) (pv 1) rfl)
      (pss_cons (ps_fld (pv 0) (pv 2) rfl)
      (pss_one (ps_fld (pv 0) (pe_callTy call_tuple_of (by rfl) B.tuple (by decide +kernel) (pa_cons (pv 3) pa_nil)) rfl)))))))), ?_⟩
    obtain ⟨dxb, tb, ps, hb, hps, pa, b1, b6⟩ := id bk
    refine q_seq (q_if ?_)
    refine ⟨.ref b, rfl, .ref b, .ref CB, _, _, true, rfl, .own CB, .base (.ins hb TB.cl eB.ha eB.hn eB.ht eB.hm), kit_self, true, rfl, ?_⟩
    refine q_next ?_
    dsimp only
    refine q_seq (q_if ?_)
    refine ⟨.int n, rfl, fun _ => True, .int n, .int n, rfl, .int _, numD (.int (n : Int)), rfl, ?_⟩
    rw [show numD (.int (n : Int)) = true from decide_eq_true (Int.natCast_nonneg n)]
    refine q_next ?_
    dsimp only
    refine q_seq (q_set ?_)
    refine ⟨.ref a, rfl, .ref b, rfl, .int n, rfl, fun _ => True, a, _, _, b, bks, n, rfl, ha, tis_dv ti, by rw [List.length_map]; exact l2, bk, fun H1 s1 => ?_⟩
    rw [bad_none ok]
    dsimp only
    refine q_seq (q_if ?_)
    refine ⟨.non, rfl, rfl, _, rfl, ?_⟩
    rw [decide_eq_true (rfl : V.non = V.non)]
    refine q_next ?_
    dsimp only
    have hz1 := s1 _ _ hz
    have na : a ≠ z := fun e => by
      subst e
      rcases ha with h | ⟨o, h⟩ <;> rw [hz] at h <;> cases h
    refine q_seq ⟨.ref b, rfl, .ref z, rfl, z, CP, dx, [], rfl, hz1, TP.cl, TP.nB, by show 0 < 1000; decide, ?_⟩
    dsimp only
    refine q_seq ⟨.int n, rfl, .ref z, rfl, z, CP, dx, _, rfl, upd_same, TP.cl, TP.nC, by show 1 < 1000; decide, ?_⟩
    dsimp only
    have rdz : ∀ {H2 : Hp} {o : HO} {c : Addr} {xs : List V}, c ≠ z → Rd H2 c (.tup xs) → Rd (upd H2 z o) c (.tup xs) := fun nc r => by
      rcases r with r | ⟨o, r⟩
      · exact .inl (by rw [upd_ne nc]; exact r)
      · exact .inr ⟨o, by rw [upd_ne nc]; exact r⟩
    have ha1 := rd_same s1 ha
    refine ⟨.ref a, rfl, a, _, rfl, .inr ⟨.inl (rdz na (rdz na ha1)), .ref z, rfl, z, CP, dx, _, rfl, upd_same, TP.cl, TP.nT, by show 2 < 1000; decide, ?_⟩⟩
    have kz : ∀ {o1 o2 o3 : HO} (c : Addr) (o : HO), c ≠ z → H c = some o → upd (upd (upd H1 z o1) z o2) z o3 c = some o := fun c o nc e => by
      rw [upd_ne nc, upd_ne nc, upd_ne nc]
      exact s1 _ _ e
    have nz : ∀ {c : Addr} {o : HO}, H c = some o → (∀ C dx fs, o = .ins C dx fs → C ≠ CP) → c ≠ z := fun {c o} e h e2 => by
      subst e2
      rw [hz] at e
      cases e
      exact h CP dx [] rfl rfl
    refine q _ (fun c o nc e => kz c o nc e) ⟨dx, b, a, as, by rw [upd_same, zf_put], ⟨dxb, tb, ps, kz _ _ (nz hb (fun _ _ _ e => by cases e; exact n2)) hb, kz _ _ (nz hps (fun _ _ _ e => by cases e)) hps, ?_, b1, b6⟩, rdz na (rdz na (rdz na ha1)), ?_, ok, l2⟩
    · clear q
      have go : ∀ {ps : List Addr} {bks : List Pd}, PrsAt C H ps bks → ∀ {o1 o2 o3 : HO}, PrsAt C (upd (upd (upd H1 z o1) z o2) z o3) ps bks := fun x => by
        intro o1 o2 o3
        induction x with
        | nil => exact .nil
        | cons e _ ih =>
          obtain ⟨dp, tp, g1, g2, g3⟩ := e
          exact .cons ⟨dp, tp, kz _ _ (nz g1 (fun _ _ _ e => by cases e; exact n1)) g1, kz _ _ (nz g2 (fun _ _ _ e => by cases e)) g2, g3⟩ ih
      exact go pa
    · have go : ∀ {as : List Addr} {ts : List Tie}, TisAt H as ts → ∀ {o1 o2 o3 : HO}, TisAt (upd (upd (upd H1 z o1) z o2) z o3) as ts := fun x => by
        intro o1 o2 o3
        induction x with
        | nil => exact .nil
        | cons e _ ih =>
          obtain ⟨c, g1, g2⟩ := e
          have nr : ∀ {c : Addr} {xs : List V}, Rd H c (.tup xs) → c ≠ z := fun r e2 => by
            subst e2
            rcases r with r | ⟨o, r⟩ <;> rw [hz] at r <;> cases r
          exact .cons ⟨c, rdz (nr g1) (rdz (nr g1) (rdz (nr g1) (rd_same s1 g1))), rdz (nr g2) (rdz (nr g2) (rdz (nr g2) (rd_same s1 g2)))⟩ ih
      exact go ti
end
end CP

namespace CP
open PySem PySem.Spec PyProof.Rows L2 Ek CC CS
def rowD (n : Int) : PyData → Bool
  | .tuple ds => decide (((ds.length : Nat) : Int) = n) && ds.all (belD 2)
  | _ => false
theorem row_no {n : Int} {d : PyData} (h : isTupD d = false) : rowD n d = false := by cases d <;> first | rfl | cases h
/-- what a tie adds -/
def costT (bks : List Pd) (r : List Int) (t : Tie) : Int := t.2.2 * costL (bks.getD t.1 (0, [])).2 (t.2.1.map fun c => r.getD c.toNat 0)
def totM (bks : List Pd) (ts : List Tie) (r : List Int) : Int := (ts.map (costT bks r)).sum
theorem tot_take {bks : List Pd} {ts : List Tie} {r : List Int} {i : Nat} {t : Tie} (h : ts[i]? = some t) : totM bks (ts.take (i + 1)) r = totM bks (ts.take i) r + costT bks r t := by
  unfold totM
  rw [List.take_add_one, h, List.map_append, List.sum_append]
  simp
/-- a row as it stands: the filling's values at cells -/
theorem row_get {r cs : List Int} {n : Nat} (hb : Bits r) (hl : r.length = n) (hc : ∀ c ∈ cs, 0 ≤ c ∧ c < (n : Int)) : Bits (cs.map fun c => r.getD c.toNat 0) := fun b m => by
  obtain ⟨c, mc, rfl⟩ := List.mem_map.mp m
  have z := hc c mc
  rw [List.getD_eq_getElem?_getD, List.getElem?_eq_getElem (show c.toNat < r.length by omega)]
  exact hb _ (List.getElem_mem _)
theorem tis_at {H : Hp} {as : List Addr} {ts : List Tie} {i : Nat} {x : V} (ti : TisAt H as ts) (hx : (as.map V.ref)[i]? = some x) : ∃ a t, x = .ref a ∧ ts[i]? = some t ∧ TiAt H a t := by
  have l := paired_len ti
  have il : i < ts.length := by
    have := (List.getElem?_eq_some_iff.mp hx).1
    rw [List.length_map] at this
    omega
  obtain ⟨a, ha, h⟩ := paired_get ti (List.getElem?_eq_getElem il)
  rw [List.getElem?_map, ha] at hx
  exact ⟨a, _, (Option.some.inj hx).symm, List.getElem?_eq_getElem il, h⟩
theorem prs_at {C : Addr} {H : Hp} {ps : List Addr} {bks : List Pd} {i : Nat} (pa : PrsAt C H ps bks) (il : i < bks.length) : ∃ p, (ps.map V.ref)[i]? = some (.ref p) ∧ PrAt C H p (bks.getD i (0, [])).1 (bks.getD i (0, [])).2 := by
  obtain ⟨p, hp, h⟩ := paired_get pa (List.getElem?_eq_getElem il)
  have e : bks.getD i (0, []) = bks[i] := by
    rw [List.getD_eq_getElem?_getD, List.getElem?_eq_getElem il]
    rfl
  rw [e]
  exact ⟨p, by rw [List.getElem?_map, hp]; rfl, h⟩
section
variable {P : Program} {w : World} {K : PySem.W.Frag} {mg : Str → Option Value} {base : Heap}
def spRNL (K : PySem.W.Frag) : Sp := fun vs H Q _ => ∃ (a : Addr) (bs : List Int), vs = [.ref a] ∧ SqL K H a (bs.map V.int) ∧ Q (.int (num bs)) H
theorem ok_RNL {f : Addr} {fd : FuncData} (F : Fun K "row_number" "row_number" sRN f fd) : FnOk P w K mg base CX0 1 f fd ["row"] (spRNL K) := by
  refine F.ok scRN (fun vs H Q E h => ?_) (fun cdv A outer s H vs Q E hr h => ?_)
  · obtain ⟨a, bs, rfl, _⟩ := h
    rfl
  · obtain ⟨a, bs, rfl, hS, q⟩ := h
    refine ⟨_, (pss_cons (ps_set (i := 1) scRN.nd rfl (.inl rfl) pe_int)
      (pss_cons (ps_for PassesOwn.never rfl (pi_list (pv 0)) (pg_name (i := 2) scRN.nd rfl (.inl rfl))
      (pss_one (ps_set (i := 1) scRN.nd rfl (.inl rfl) (pe_op op_add (pe_op op_mul pe_int (pv 1)) (pv 2)))))
      (pss_one (ps_ret (pv 1))))), ?_⟩
    refine q_seq (q_setc ?_)
    dsimp only
    refine q_seq ?_
    refine ⟨.ref a, rfl, a, rfl, ⟨_, hS⟩, for_list (K := K) (a := a) (xs := bs.map V.int) (fun i σ H' => ∃ v : Option V, σ = [some (.ref a), some (.int (num (bs.take i))), v] ∧ H' = H) ⟨none, rfl, rfl⟩ (fun i σ H' _ hP => by obtain ⟨v, _, rfl⟩ := hP; exact hS) (fun i x σ H' hx hP => ?_) (fun σ H' hP => ?_)⟩
    · obtain ⟨v, rfl, rfl⟩ := hP
      obtain ⟨b, rfl, e⟩ := int_at hx
      refine q_set ?_
      refine ⟨_, rfl, _, _, rfl, rfl, .inl ⟨by decide, by decide⟩, _, rfl, _, _, rfl, rfl, some (.int b), ?_, rfl⟩
      rw [num_take e]
      rfl
    · obtain ⟨v, rfl, rfl⟩ := hP
      dsimp only
      refine q_ret ⟨_, rfl, ?_⟩
      rw [List.length_map, List.take_length]
      exact q
def spIVD : Sp := fun vs H Q _ => ∃ (N : Addr → Prop) (v : V) (d : PyData), vs = [v] ∧ Dv N H v d ∧ Q (.bl (belD 2 d)) H
theorem ok_IVD {f : Addr} {fd : FuncData} (F : Fun K "is_value" "is_value" sIV f fd) {fINB : Addr} {fdINB : FuncData} (GINB : FnOk P w K mg base CX0 2 fINB fdINB ["value", "limit"] spINB) (kINB : PySem.W.keepIn K (.ref fINB) = true) (bINB : Binds K fdINB ["value", "limit"] []) (gINB : mg "is_number_below" = some (.ref fINB)) : FnOk P w K mg base CX0 3 f fd ["value"] spIVD := by
  refine F.ok scIV (fun vs H Q E h => ?_) (fun cdv A outer s H vs Q E hr h => ?_)
  · obtain ⟨N, v, d, rfl, _⟩ := h
    rfl
  · obtain ⟨N, v, d, rfl, dv, q⟩ := h
    refine ⟨_, (pss_one (ps_ret (pe_call GINB (hr.mono (by decide)) (by rfl) gINB kINB bINB .nil pass0 (pa_cons (pv 0) (pa_cons pe_int pa_nil))))), ?_⟩
    refine q_ret ?_
    exact ⟨v, rfl, N, v, d, 2, rfl, dv, q⟩
def spIRD : Sp := fun vs H Q _ => ∃ (N : Addr → Prop) (v : V) (d : PyData) (n : Int), vs = [v, .int n] ∧ Dv N H v d ∧ (∀ ds, d = .tuple ds → ds.length ≤ 200) ∧ ∀ H', Same H H' → Q (.bl (rowD n d)) H'
theorem ok_IRD {f : Addr} {fd : FuncData} (F : Fun K "is_row" "is_row" sIR f fd) (B : Bt mg) {fIV : Addr} {fdIV : FuncData} (GIV : FnOk P w K mg base CX0 3 fIV fdIV ["value"] spIVD) (kIV : PySem.W.keepIn K (.ref fIV) = true) (bIV : Binds K fdIV ["value"] []) (gIV : mg "is_value" = some (.ref fIV)) : FnOk P w K mg base CX0 4 f fd ["value", "size"] spIRD := by
  refine F.ok scIR (fun vs H Q E h => ?_) (fun cdv A outer s H vs Q E hr h => ?_)
  · obtain ⟨N, v, d, n, rfl, _⟩ := h
    rfl
  · obtain ⟨N, v, d, n, rfl, dv, l2, q⟩ := h
    refine ⟨_, (pss_one (ps_ret (pe_and (pe_callB call_isi (by rfl) B.isinstance (by decide +kernel) (pa_cons (pv 0) (pa_cons (pe_bltn (v := .ty "tuple") (by rfl) B.tuple (by decide +kernel) rfl) pa_nil))) (pe_and (pe_cmpR op_eq (pe_callB call_len_seq (by rfl) B.len PySem.boot_len (pa_cons (pv 0) pa_nil)) (pv 1) (nomark _)) (pe_one (pe_callB (cr_all rfl) (by rfl) B.all (by decide +kernel) (pa_cons (pe_lc (own := [("member", 2)]) (g := gName 2) (tt := tYes) rfl scIR.nd (pi_tup (pv 0)) (blkOk_by (N := NIR) (sc := defScope sIR) (by decide +kernel)) (fun _ _ _ _ _ => pg_name (i := 2) scIR.nd rfl (Or.inl rfl)) (fun _ _ _ _ _ => pts_nil) (fun _ _ _ _ _ => (pe_call GIV (hr.mono (by decide)) (by rfl) gIV kIV bIV .nil pass0 (pa_cons (pv 2) pa_nil)))) pa_nil))))))), ?_⟩
    obtain ⟨ty, hty, k1, k2, k3⟩ := ty_of (K := K) dv
    refine q_ret ?_
    refine ⟨v, rfl, v, _, ty, _, isTupD d, rfl, .ty _, hty, k1, _, rfl, ?_⟩
    cases tt : isTupD d with
    | false =>
      have z := q H (Same.refl H)
      rw [row_no tt] at z
      exact z
    | true =>
      obtain ⟨a, xs, ds, rfl, ht, rfl, p⟩ := tup_dv dv tt
      have lx := dv_len p
      have l3 := l2 ds rfl
      refine ⟨.ref a, rfl, a, xs, rfl, .inr ht, .int n, rfl, rfl, _, rfl, ?_⟩
      rw [dInt]
      have er : rowD n (.tuple ds) = (decide (((ds.length : Nat) : Int) = n) && ds.all (belD 2)) := rfl
      rw [er, ← lx] at q
      cases c : decide (((xs.length : Nat) : Int) = n) with
      | false => rw [c] at q; exact q H (Same.refl H)
      | true =>
        rw [c, Bool.true_and] at q
        refine ⟨.ref a, rfl, a, rfl, ⟨_, ht⟩, fun D nD => lc_tup (K := K) (a := a) (xs := xs) (fun i H' => Same H H' ∧ H' D = some (.lst (((ds.take i).map (belD 2)).map V.bl))) ⟨same_upd nD, upd_same⟩ (fun i H' _ hP => sqT_same hP.1 ht) (fun i x H' hx hP => ?_) (fun H' hP => ?_)⟩
        · obtain ⟨s', hD⟩ := hP
          have il : i < xs.length := (List.getElem?_eq_some_iff.mp hx).1
          obtain ⟨e, he, dx⟩ := dv_at (p.same s') hx
          refine ⟨rfl, x, rfl, N, x, e, rfl, dx, _, hD, ?_, fun c o e => ?_, ?_⟩
          · rw [List.length_map, List.length_map, List.length_take]
            exact small1000 (by omega)
          · rw [upd_ne (ne_of_none e nD)]
            exact s' _ _ e
          · rw [upd_same, List.take_add_one, he, List.map_append, List.map_append]
            rfl
        · obtain ⟨s', hD⟩ := hP
          rw [lx, List.take_length] at hD
          refine ⟨D, _, rfl, sl hD, ?_⟩
          rw [show (ds.map (belD 2)).all id = ds.all (belD 2) by rw [List.all_map]; rfl]
          exact q H' s'
def spIFi (CP : Addr) : Sp := fun vs H Q _ => ∃ (C CB z : Addr) (bks : List Pd) (n : Nat) (ts : List Tie) (N : Addr → Prop) (v : V) (d : PyData), vs = [.ref z, v] ∧ PzAt C CB CP H z bks n ts ∧ Dv N H v d ∧ (∀ ds, d = .tuple ds → ds.length ≤ 200) ∧ ∀ H', Same H H' → Q (.bl (rowD n d)) H'
/-- a filling as data -/
theorem row_dv {N : Addr → Prop} {H : Hp} {a : Addr} {bs : List Int} (h : Rd H a (.tup (bs.map V.int))) : Dv N H (.ref a) (.tuple (bs.map .int)) := by
  have go : ∀ cs : List Int, DvAll N H (cs.map V.int) (cs.map .int) := fun cs => by
    induction cs with
    | nil => exact .nil
    | cons c cs ih => exact .cons (.int c) ih
  exact .tup h (go _)
theorem row_good {bs : List Int} {n : Nat} (hb : Bits bs) (hl : bs.length = n) : rowD n (.tuple (bs.map .int)) = true := by
  show (decide ((((bs.map PyData.int).length : Nat) : Int) = n) && (bs.map PyData.int).all (belD 2)) = true
  rw [decide_eq_true (by rw [List.length_map]; omega), Bool.true_and, List.all_map]
  exact List.all_eq_true.mpr fun b m => by
    show (decide (0 ≤ b) && decide (b < 2)) = true
    rcases hb b m with rfl | rfl <;> rfl
theorem bits_of {N : Addr → Prop} {H : Hp} {v : V} {d : PyData} {n : Int} (x : Dv N H v d) (e : rowD n d = true) : ∃ a bs, v = .ref a ∧ Rd H a (.tup (bs.map V.int)) ∧ d = .tuple (bs.map .int) ∧ Bits bs ∧ ((bs.length : Nat) : Int) = n := by
  cases x with
  | tup h p =>
    have e2 : (decide _ && _) = true := e
    rw [Bool.and_eq_true, decide_eq_true_iff] at e2
    obtain ⟨cs, rfl, rfl, b⟩ := ints_of p e2.2
    refine ⟨_, cs, rfl, h, rfl, fun c m => by have := b c m; omega, ?_⟩
    have := e2.1
    rwa [List.length_map] at this
  | _ => cases e
theorem map_int_inj : ∀ {a b : List Int}, a.map PyData.int = b.map PyData.int → a = b
  | [], [], _ => rfl
  | [], _ :: _, h => by cases h
  | _ :: _, [], h => by cases h
  | x :: a, y :: b, h => by
    rw [List.map_cons, List.map_cons] at h
    injection h with h1 h2
    injection h1 with h1
    rw [h1, map_int_inj h2]
def spToO (C CB CP CF : Addr) : Sp := fun vs H Q E => ∃ (z : Addr) (bks : List Pd) (n : Nat) (ts : List Tie) (N : Addr → Prop) (v : V) (d : PyData), vs = [.ref z, v] ∧ PzAt C CB CP H z bks n ts ∧ Dv N H v d ∧ (∀ ds, d = .tuple ds → ds.length ≤ 200) ∧
  (rowD n d = false → ∀ x H', Same H H' → H' x = some (.xd [("value", v)]) → E (.ref CF) (some x) H') ∧
  (∀ bs, d = .tuple (bs.map .int) → Bits bs → bs.length = n → n ≤ 200 ∧ (∀ t ∈ ts, t.2.2 < 2 ^ 64) ∧ ∀ H', Same H H' → Q (.int (totM bks ts bs)) H')
theorem toO_good {C CB CP CF z r : Addr} {bks : List Pd} {n : Nat} {ts : List Tie} {bs : List Int} {H : Hp} {Q : VK} {E : XK} (pz : PzAt C CB CP H z bks n ts) (hr : Rd H r (.tup (bs.map V.int))) (hb : Bits bs) (hl : bs.length = n) (n2 : n ≤ 200) (tb : ∀ t ∈ ts, t.2.2 < 2 ^ 64) (q : ∀ H', Same H H' → Q (.int (totM bks ts bs)) H') : spToO C CB CP CF [.ref z, .ref r] H Q E :=
  ⟨z, bks, n, ts, fun _ => True, .ref r, _, rfl, pz, row_dv hr, fun ds e => by cases e; rw [List.length_map]; omega, fun e => (by rw [row_good hb hl] at e; cases e), fun bs' e _ _ => by
    injection e with e
    rw [← map_int_inj e]
    exact ⟨n2, tb, q⟩⟩
end
end CP

namespace CP
open PySem PySem.Spec PyProof.Rows L2 Ek CC CS
theorem sl_S {K : PySem.W.Frag} {H : Hp} {a : Addr} {xs ys : List V} {lo hi : Option Int} {Q : VK} (ha : SqT K H a xs) (e : cutV xs lo hi = ys) (k : ∀ t H', Same H H' → SqT K H' t ys → Q (.ref t) H') : rSlA K (.ref a) lo hi H Q := by
  refine ⟨a, xs, rfl, ha, fun ⟨z1, z2⟩ => ?_, fun _ p np => k p _ (same_upd np) (tl (by rw [upd_same, e]))⟩
  refine k a H (Same.refl H) ?_
  rw [← e]
  unfold cutV
  rw [z1, z2, Nat.sub_zero, List.drop_zero, List.take_length]
  exact ha
theorem lc_zipT2 {K : PySem.W.Frag} {a b : Addr} {xs ys : List V} {n : Nat} {g : TG} {tt : TT} {te : TE} {vs : List Nat} {σ : L2.St} {H1 : Hp} {D : Addr} {Qd : Hp → Prop} (nx : n ≤ xs.length) (ny : n ≤ ys.length) (ne : xs.length ≤ n ∨ ys.length ≤ n) (Pv : Nat → Hp → Prop) (h0 : Pv 0 (upd H1 D (.lst []))) (hl : ∀ i H, i ≤ n → Pv i H → SqT K H a xs ∧ SqT K H b ys)
    (hs : ∀ i x y H T, i < n → xs[i]? = some x → ys[i]? = some y → Pv i H → H T = none → g (.ref T) (wipe σ vs) (upd H T (.tup [x, y])) fun σ2 H2 => wipe σ2 vs = wipe σ vs ∧ tt σ2 H2 fun b H3 =>
      if b = true then te σ2 H3 fun y H4 => ∃ acc, H4 D = some (.lst acc) ∧ acc.length < sizeLine ∧ Pv (i + 1) (upd H4 D (.lst (acc ++ [y]))) else Pv (i + 1) H3) (hd : ∀ H, Pv n H → Qd H) :
    ∃ W : Nat → Nat → Hp → Prop, (∃ m, W 0 m (upd H1 D (.lst []))) ∧ ∀ i m H, W i m H →
      ((RZ.ItzT K a b).stop i H ∧ Qd H) ∨ ((RZ.ItzT K a b).go i H ∧ ∃ Nx : Hp → Prop, (∀ H', Nx H' → ∃ m', m' < m ∧ W (i + 1) m' H') ∧ ∀ x H', (RZ.ItzT K a b).yld i H x H' → g x (wipe σ vs) H' fun σ2 H2 => wipe σ2 vs = wipe σ vs ∧ tt σ2 H2 fun b H3 =>
        if b = true then te σ2 H3 fun y H4 => ∃ acc, H4 D = some (.lst acc) ∧ acc.length < sizeLine ∧ Nx (upd H4 D (.lst (acc ++ [y]))) else Nx H3) := by
  refine ⟨fun i m H => i + m = n ∧ Pv i H, ⟨n, by omega, h0⟩, fun i m H ⟨em, p⟩ => ?_⟩
  obtain ⟨q1, q2⟩ := hl i H (by omega) p
  by_cases lt : i < n
  · refine .inr ⟨⟨xs, ys, xs[i], ys[i], q1, q2, List.getElem?_eq_getElem (by omega), List.getElem?_eq_getElem (by omega)⟩, Pv (i + 1), fun H' p' => ⟨m - 1, by omega, by omega, p'⟩, fun x H' y => ?_⟩
    obtain ⟨T, x1, y1, rfl, nT, rfl, gx, gy⟩ := y
    exact hs i x1 y1 H T lt (gx xs q1) (gy ys q2) p nT
  · obtain rfl : i = n := by omega
    exact .inl ⟨⟨xs, ys, q1, q2, ne⟩, hd H p⟩

def riseI (xs : List Int) : Bool := (xs.zip (xs.drop 1)).all fun p => decide (p.1 < p.2)
def pairD (n : Int) : PyData → Bool
  | .tuple [a, b] => belD n a && belD 2 b
  | _ => false
def keyD : PyData → Int
  | .tuple [.int a, _] => a
  | _ => 0
def startD (n : Int) : PyData → Bool
  | .tuple ds => ds.all (pairD n) && riseI (ds.map keyD)
  | _ => false
theorem start_no {n : Int} {d : PyData} (h : isTupD d = false) : startD n d = false := by cases d <;> first | rfl | cases h
theorem pair_no {n : Int} {d : PyData} (h : isTupD d = false) : pairD n d = false := by cases d <;> first | rfl | cases h
/-- a written empty tuple -/
def KT (K : PySem.W.Frag) (a : Addr) : Prop := ∃ o its m, K.lookup a = some o ∧ o.cls = .type "tuple" ∧ o.data = .seq its m ∧ its.size ≤ sizeLine ∧ its.toList = []
/-- any value, or the written empty tuple -/
def Sv (K : PySem.W.Frag) (N : Addr → Prop) (H : Hp) (v : V) (d : PyData) : Prop := Dv N H v d ∨ (d = .tuple [] ∧ ∃ a, v = .ref a ∧ KT K a)
theorem Sv.same {K : PySem.W.Frag} {N : Addr → Prop} {H H' : Hp} (s : Same H H') {v : V} {d : PyData} (x : Sv K N H v d) : Sv K N H' v d := x.imp (fun y => y.same s) id
theorem kt_sq {K : PySem.W.Frag} {H : Hp} {a : Addr} (x : KT K a) : SqT K H a [] := by
  obtain ⟨o, its, m, h1, h2, h3, h4, h5⟩ := x
  exact .inr ⟨o, its, m, h1, h2, h3, h4, by rw [h5]; exact .nil⟩
theorem sv_ty {K : PySem.W.Frag} {N : Addr → Prop} {H : Hp} {v : V} {d : PyData} (x : Sv K N H v d) : ∃ t, TyX K H v t ∧ PySem.W.kitOne K t (.type "tuple") = some (isTupD d) := by
  rcases x with x | ⟨rfl, a, rfl, o, its, m, h1, h2, _⟩
  · obtain ⟨t, h1, h2, _⟩ := ty_of (K := K) x
    exact ⟨t, h1, h2⟩
  · exact ⟨_, .kTuple h1 h2, kit_ty (r := true) (by decide +kernel)⟩
theorem sv_tup {K : PySem.W.Frag} {N : Addr → Prop} {H : Hp} {v : V} {d : PyData} (x : Sv K N H v d) (e : isTupD d = true) : ∃ (a : Addr) (xs : List V) (ds : List PyData), v = .ref a ∧ SqT K H a xs ∧ d = .tuple ds ∧ DvAll N H xs ds := by
  rcases x with x | ⟨rfl, a, rfl, k⟩
  · exact tup_dv x e
  · exact ⟨a, [], [], rfl, kt_sq k, rfl, .nil⟩
/-- a start as it stands -/
def encSt (st : List (Int × Int)) : PyData := .tuple (st.map fun c => .tuple [.int c.1, .int c.2])
abbrev PrsT (H : Hp) (ps : List Addr) (st : List (Int × Int)) : Prop := Paired (fun p (c : Int × Int) => Rd H p (.tup [.int c.1, .int c.2])) ps st
theorem PrsT.same {H H' : Hp} {ps : List Addr} {st : List (Int × Int)} (s : Same H H') (x : PrsT H ps st) : PrsT H' ps st := by
  induction x with
  | nil => exact .nil
  | cons e _ ih => exact .cons (rd_same s e) ih
def StAt (K : PySem.W.Frag) (H : Hp) (v : V) (st : List (Int × Int)) : Prop := ∃ a ps, v = .ref a ∧ SqT K H a (ps.map V.ref) ∧ PrsT H ps st
theorem StAt.same {K : PySem.W.Frag} {H H' : Hp} {v : V} {st : List (Int × Int)} (s : Same H H') (x : StAt K H v st) : StAt K H' v st := by
  obtain ⟨a, ps, h1, h2, h3⟩ := x
  exact ⟨a, ps, h1, sqT_same s h2, h3.same s⟩
def stOk (n : Int) (st : List (Int × Int)) : Prop := (∀ c ∈ st, (0 ≤ c.1 ∧ c.1 < n) ∧ (c.2 = 0 ∨ c.2 = 1)) ∧ riseI (st.map (·.1)) = true
theorem pairs_dv {N : Addr → Prop} {H : Hp} {n : Int} : ∀ {xs : List V} {ds : List PyData}, DvAll N H xs ds → ds.all (pairD n) = true → ∃ ps st, xs = ps.map V.ref ∧ ds = st.map (fun c : Int × Int => .tuple [.int c.1, .int c.2]) ∧ PrsT H ps st ∧ (∀ c ∈ st, (0 ≤ c.1 ∧ c.1 < n) ∧ (c.2 = 0 ∨ c.2 = 1)) ∧ ds.map keyD = st.map (·.1)
  | _, _, .nil, _ => ⟨[], [], rfl, rfl, .nil, ⟨(fun _ h => nomatch h), rfl⟩⟩
  | _, _, .cons h t, e => by
    rw [List.all_cons, Bool.and_eq_true] at e
    obtain ⟨ps, st, rfl, rfl, pt, b, ke⟩ := pairs_dv t e.2
    have e1 := e.1
    cases h with
    | tup h p =>
      cases p with
      | nil => cases e1
      | cons h0 p =>
        cases p with
        | nil => cases e1
        | cons h1 p =>
          cases p with
          | cons _ _ => cases e1
          | nil =>
            rename_i a v0 d0 v1 d1
            have e2 : (belD n d0 && belD 2 d1) = true := e1
            rw [Bool.and_eq_true] at e2
            obtain ⟨i0, rfl, rfl⟩ := int_dv h0 (by cases d0 <;> first | rfl | cases e2.1)
            obtain ⟨i1, rfl, rfl⟩ := int_dv h1 (by cases d1 <;> first | rfl | cases e2.2)
            have z0 : (decide (0 ≤ i0) && decide (i0 < n)) = true := e2.1
            have z1 : (decide (0 ≤ i1) && decide (i1 < 2)) = true := e2.2
            simp only [Bool.and_eq_true, decide_eq_true_iff] at z0 z1
            exact ⟨a :: ps, (i0, i1) :: st, rfl, rfl, .cons h pt, fun c m => by
              rcases List.mem_cons.mp m with rfl | m
              · exact ⟨z0, by show i1 = 0 ∨ i1 = 1; omega⟩
              · exact b c m, by rw [List.map_cons, List.map_cons, ke]; rfl⟩
    | _ => cases e1
theorem start_of {K : PySem.W.Frag} {N : Addr → Prop} {H : Hp} {v : V} {d : PyData} {n : Int} (x : Sv K N H v d) (e : startD n d = true) : ∃ st, StAt K H v st ∧ stOk n st ∧ d = encSt st := by
  have et : isTupD d = true := by cases d <;> first | rfl | cases e
  obtain ⟨a, xs, ds, rfl, ht, rfl, p⟩ := sv_tup x et
  have e2 : (ds.all (pairD n) && riseI (ds.map keyD)) = true := e
  rw [Bool.and_eq_true] at e2
  obtain ⟨ps, st, rfl, rfl, pt, b, ke⟩ := pairs_dv p e2.1
  exact ⟨st, ⟨a, ps, rfl, ht, pt⟩, ⟨b, by rw [← ke]; exact e2.2⟩, rfl⟩
section
variable {P : Program} {w : World} {K : PySem.W.Frag} {mg : Str → Option Value} {base : Heap}
def spIPa : Sp := fun vs H Q _ => ∃ (N : Addr → Prop) (v : V) (d : PyData) (n : Int), vs = [v, .int n] ∧ Dv N H v d ∧ Q (.bl (pairD n d)) H
theorem ok_IPa {f : Addr} {fd : FuncData} (F : Fun K "_is_pair" "_is_pair" sIPa f fd) (B : Bt mg) {fINB : Addr} {fdINB : FuncData} (GINB : FnOk P w K mg base CX0 2 fINB fdINB ["value", "limit"] spINB) (kINB : PySem.W.keepIn K (.ref fINB) = true) (bINB : Binds K fdINB ["value", "limit"] []) (gINB : mg "is_number_below" = some (.ref fINB)) {fIV : Addr} {fdIV : FuncData} (GIV : FnOk P w K mg base CX0 3 fIV fdIV ["value"] spIVD) (kIV : PySem.W.keepIn K (.ref fIV) = true) (bIV : Binds K fdIV ["value"] []) (gIV : mg "is_value" = some (.ref fIV)) : FnOk P w K mg base CX0 4 f fd ["value", "cell_count"] spIPa := by
  refine F.ok scIPa (fun vs H Q E h => ?_) (fun cdv A outer s H vs Q E hr h => ?_)
  · obtain ⟨N, v, d, n, rfl, _⟩ := h
    rfl
  · obtain ⟨N, v, d, n, rfl, dv, q⟩ := h
    refine ⟨_, (pss_one (ps_ret (pe_and (pe_callB call_isi (by rfl) B.isinstance (by decide +kernel) (pa_cons (pv 0) (pa_cons (pe_bltn (v := .ty "tuple") (by rfl) B.tuple (by decide +kernel) rfl) pa_nil))) (pe_and (pe_cmpR op_eq (pe_callB call_len_seq (by rfl) B.len PySem.boot_len (pa_cons (pv 0) pa_nil)) pe_int (nomark _)) (pe_and (pe_call GINB (hr.mono (by decide)) (by rfl) gINB kINB bINB .nil pass0 (pa_cons (pe_ix ix_tup (pv 0) pe_int (fun _ _ => rfl)) (pa_cons (pv 1) pa_nil))) (pe_one (pe_call GIV (hr.mono (by decide)) (by rfl) gIV kIV bIV .nil pass0 (pa_cons (pe_ix ix_tup (pv 0) pe_int (fun _ _ => rfl)) pa_nil)))))))), ?_⟩
    obtain ⟨ty, hty, k1, k2, k3⟩ := ty_of (K := K) dv
    refine q_ret ?_
    refine ⟨v, rfl, v, _, ty, _, isTupD d, rfl, .ty _, hty, k1, _, rfl, ?_⟩
    cases tt : isTupD d with
    | false =>
      rw [pair_no tt] at q
      exact q
    | true =>
      obtain ⟨a, xs, ds, rfl, ht, rfl, p⟩ := tup_dv dv tt
      have lx := dv_len p
      refine ⟨.ref a, rfl, a, xs, rfl, .inr ht, rfl, _, rfl, ?_⟩
      rw [dInt]
      by_cases c : ds.length = 2
      · rw [decide_eq_true (show ((xs.length : Nat) : Int) = 2 by omega)]
        cases p with
        | nil => cases c
        | @cons x0 d0 xs ds v0 p =>
        cases p with
        | nil => cases c
        | @cons x1 d1 xs ds v1 p =>
        cases p with
        | cons _ _ => simp at c
        | nil =>
        have q' : Q (.bl (belD n d0 && belD 2 d1)) H := q
        refine ⟨.ref a, rfl, a, _, 0, x0, rfl, rfl, ht, at_z (j := 0) rfl rfl, .int n, rfl, N, x0, d0, n, rfl, v0, _, rfl, ?_⟩
        cases e0 : belD n d0 with
        | false => rw [e0] at q'; exact q'
        | true =>
          rw [e0, Bool.true_and] at q'
          exact ⟨.ref a, rfl, a, _, 1, x1, rfl, rfl, ht, at_z (j := 1) rfl rfl, N, x1, d1, rfl, v1, q'⟩
      · rw [decide_eq_false (show ¬ ((xs.length : Nat) : Int) = 2 by omega)]
        have z : pairD n (.tuple ds) = false := by
          match ds, c with
          | [], _ => rfl
          | [a], _ => rfl
          | [a, b], h => exact absurd rfl h
          | a :: b :: c :: l, _ => rfl
        rw [z] at q
        exact q
def spISt (K : PySem.W.Frag) (CP : Addr) : Sp := fun vs H Q _ => ∃ (C CB z : Addr) (bks : List Pd) (n : Nat) (ts : List Tie) (N : Addr → Prop) (v : V) (d : PyData), vs = [.ref z, v] ∧ PzAt C CB CP H z bks n ts ∧ Sv K N H v d ∧ (∀ ds, d = .tuple ds → ds.length ≤ 200) ∧ ∀ H', Same H H' → Q (.bl (startD n d)) H'
theorem ok_ISt {f CP : Addr} {fd : FuncData} (F : Fun K "is_start" "is_start" sISt f fd) (B : Bt mg) (TP : Pzc K mg CP) {fIPa : Addr} {fdIPa : FuncData} (GIPa : FnOk P w K mg base CX0 4 fIPa fdIPa ["value", "cell_count"] spIPa) (kIPa : PySem.W.keepIn K (.ref fIPa) = true) (bIPa : Binds K fdIPa ["value", "cell_count"] []) (gIPa : mg "_is_pair" = some (.ref fIPa)) : FnOk P w K mg base CX0 5 f fd ["puzzle", "value"] (spISt K CP) := by
  refine F.ok scISt (fun vs H Q E h => ?_) (fun cdv A outer s H vs Q E hr h => ?_)
  · obtain ⟨C, CB, z, bks, n, ts, N, v, d, rfl, _⟩ := h
    rfl
  · obtain ⟨C, CB, z, bks, n, ts, N, v, d, rfl, pz, sv, l2, q⟩ := h
    obtain ⟨dx, b, t, as, hz, bk, ht0, ti, ok, lt⟩ := id pz
    refine ⟨_, (pss_cons (ps_if (PW.pt (pw_or (pt_not (pt_val (pe_callB call_isi (by rfl) B.isinstance (by decide +kernel) (pa_cons (pv 1) (pa_cons (pe_bltn (v := .ty "tuple") (by rfl) B.tuple (by decide +kernel) rfl) pa_nil))))) (pw_or1 (pt_not (pt_val (pe_callB (cr_all rfl) (by rfl) B.all (by decide +kernel) (pa_cons (pe_lc (own := [("pair", 4)]) (g := gName 4) (tt := tYes) rfl scISt.nd (pi_tup (pv 1)) (blkOk_by (N := NISt) (sc := defScope sISt) (by decide +kernel)) (fun _ _ _ _ _ => pg_name (i := 4) scISt.nd rfl (Or.inl rfl)) (fun _ _ _ _ _ => pts_nil) (fun _ _ _ _ _ => (pe_call GIPa (hr.mono (by decide)) (by rfl) gIPa kIPa bIPa .nil pass0 (pa_cons (pv 4) (pa_cons (pe_fldk K rfl (pv 0)) pa_nil))))) pa_nil)))))))
      (pss_one (ps_ret pe_bl)) pss_nil)
      (pss_one (ps_ret (pe_callB (cr_all rfl) (by rfl) B.all (by decide +kernel) (pa_cons (pe_lc (own := [("one", 2), ("other", 3)]) (tt := tYes) rfl scISt.nd (RZ.pi_zipA (by rfl) B.zip (pa_cons (pv 1) (pa_cons (pe_slice sl_tupA (pv 1) (po_some pe_int) po_none) pa_nil))) (blkOk_by (N := NISt) (sc := defScope sISt) (by decide +kernel)) (fun _ _ _ _ _ => (pg_tupk (n := 2) K rfl rfl (pgs_cons (pg_name (i := 2) scISt.nd rfl (Or.inl rfl)) (pgs_cons (pg_name (i := 3) scISt.nd rfl (Or.inl rfl)) pgs_nil)))) (fun _ _ _ _ _ => pts_nil) (fun _ _ _ _ _ => (pe_cmpR op_lt (pe_ix (ixt_k K rfl) (pv 2) pe_int (fun _ _ => rfl)) (pe_ix (ixt_k K rfl) (pv 3) pe_int (fun _ _ => rfl)) (nomark _)))) pa_nil))))), ?_⟩
    obtain ⟨ty, hty, k1⟩ := sv_ty sv
    refine q_seq (q_if ?_)
    refine ⟨v, rfl, v, _, ty, _, isTupD d, rfl, .ty _, hty, k1, ?_⟩
    cases tt : isTupD d with
    | false =>
      refine ⟨false, rfl, ?_⟩
      have z := q H (Same.refl H)
      rw [start_no tt] at z
      exact z
    | true =>
      refine ⟨true, rfl, ?_⟩
      obtain ⟨a, xs, ds, rfl, ht, rfl, p⟩ := sv_tup sv tt
      have lx := dv_len p
      have l3 := l2 ds rfl
      refine ⟨.ref a, rfl, a, rfl, ⟨_, ht⟩, fun D nD => lc_tup (K := K) (a := a) (xs := xs) (fun i H' => Same H H' ∧ H' D = some (.lst (((ds.take i).map (pairD n)).map V.bl))) ⟨same_upd nD, upd_same⟩ (fun i H' _ hP => sqT_same hP.1 ht) (fun i x H' hx hP => ?_) (fun H' hP => ?_)⟩
      · obtain ⟨s', hD⟩ := hP
        have il : i < xs.length := (List.getElem?_eq_some_iff.mp hx).1
        obtain ⟨e, he, dxx⟩ := dv_at (p.same s') hx
        refine ⟨rfl, x, rfl, .ref z, rfl, z, CP, dx, _, .int n, rfl, s' _ _ hz, TP.cl, TP.nC, zf_cells _ _ _, N, x, e, n, rfl, dxx, _, hD, ?_, fun c o e => ?_, ?_⟩
        · rw [List.length_map, List.length_map, List.length_take]
          exact small1000 (by omega)
        · rw [upd_ne (ne_of_none e nD)]
          exact s' _ _ e
        · rw [upd_same, List.take_add_one, he, List.map_append, List.map_append]
          rfl
      · obtain ⟨s', hD⟩ := hP
        rw [lx, List.take_length] at hD
        refine ⟨D, _, rfl, sl hD, _, rfl, ?_⟩
        rw [show (ds.map (pairD n)).all id = ds.all (pairD n) by rw [List.all_map]; rfl]
        have q' : ∀ H', Same H H' → Q (.bl (ds.all (pairD n) && riseI (ds.map keyD))) H' := q
        clear q
        cases al : ds.all (pairD n) with
        | false => rw [al] at q'; exact q' H' s'
        | true =>
          rw [al, Bool.true_and] at q'
          obtain ⟨ps, st, rfl, rfl, pt, bs, ke⟩ := pairs_dv p al
          rw [ke] at q'
          have lp := paired_len pt
          rw [List.length_map] at l3
          refine q_next ?_
          dsimp only
          refine q_ret ?_
          have ht1 := sqT_same s' ht
          refine ⟨.ref a, rfl, .ref a, rfl, ⟨1, rfl, CS.noPart (sl_S (ys := (ps.map V.ref).drop 1) ht1 (CS.cut_lo1 _ 0) fun t2 H1 s1 ht2 => ⟨a, t2, _, _, rfl, .inr ⟨sqT_same s1 ht1, ht2, fun D nD => ?_⟩⟩)⟩⟩
          have lz : (st.zip (st.drop 1)).length = st.length - 1 := by rw [List.length_zip, List.length_drop]; omega
          refine lc_zipT2 (K := K) (a := a) (b := t2) (xs := ps.map V.ref) (ys := (ps.map V.ref).drop 1) (n := st.length - 1) (by rw [List.length_map]; omega) (by rw [List.length_drop, List.length_map]; omega) (.inr (by rw [List.length_drop, List.length_map]; omega)) (fun i H2 => Same H1 H2 ∧ H2 D = some (.lst ((((st.zip (st.drop 1)).take i).map fun p => decide (p.1.1 < p.2.1)).map V.bl))) ⟨same_upd nD, upd_same⟩ (fun i H2 _ hP => ⟨sqT_same (s1.trans hP.1) ht1, sqT_same hP.1 ht2⟩) (fun i x y H2 T2 il hx hy hP nT => ?_) (fun H2 hP => ?_)
          · obtain ⟨s2, hD⟩ := hP
            have st2 := same_upd (o := .tup [x, y]) nT
            have pt2 := pt.same ((s'.trans s1).trans (s2.trans st2))
            obtain ⟨a1, ha1, hr1⟩ := paired_get pt2 (List.getElem?_eq_getElem (show i < st.length by omega))
            obtain ⟨a2, ha2, hr2⟩ := paired_get pt2 (List.getElem?_eq_getElem (show i + 1 < st.length by omega))
            rw [List.getElem?_map, ha1] at hx
            rw [List.getElem?_drop, Nat.add_comm, List.getElem?_map, ha2] at hy
            obtain rfl : x = .ref a1 := (Option.some.inj hx).symm
            obtain rfl : y = .ref a2 := (Option.some.inj hy).symm
            have hzz : (st.zip (st.drop 1))[i]? = some (st[i], st[i + 1]) := List.getElem?_zip_eq_some.mpr ⟨List.getElem?_eq_getElem (by omega), by rw [List.getElem?_drop, Nat.add_comm]; exact List.getElem?_eq_getElem (by omega)⟩
            refine ⟨T2, _, rfl, tl upd_same, rfl, _, _, rfl, _, _, rfl, rfl, ?_⟩
            refine ⟨rfl, .ref a1, rfl, a1, _, 0, _, rfl, rfl, .inl hr1, at_z (j := 0) rfl rfl, .ref a2, rfl, a2, _, 0, _, rfl, rfl, .inl hr2, at_z (j := 0) rfl rfl, _, _, rfl, rfl, _, st2 _ _ hD, ?_, fun c o e => ?_, ?_⟩
            · rw [List.length_map, List.length_map, List.length_take]
              exact small1000 (by omega)
            · rw [upd_ne (ne_of_none e nD)]
              exact st2 _ _ (s2 _ _ e)
            · rw [upd_same, List.take_add_one, hzz, List.map_append, List.map_append]
              rfl
          · obtain ⟨s2, hD⟩ := hP
            rw [← lz, List.take_length] at hD
            refine ⟨D, _, rfl, sl hD, ?_⟩
            have er : (((st.zip (st.drop 1)).map fun p => decide (p.1.1 < p.2.1)).all id) = riseI (st.map (·.1)) := by
              unfold riseI
              rw [← List.map_drop, List.zip_map, List.all_map, List.all_map]
              rfl
            rw [er]
            exact q' _ ((s'.trans s1).trans s2)
end
end CP

namespace CP
open PySem PySem.Spec PyProof.Rows L2 Ek CC CS
section
variable {P : Program} {w : World} {K : PySem.W.Frag} {mg : Str → Option Value} {base : Heap}
def spDBk : Sp := fun vs H Q _ => ∃ (h dr : Addr), vs = [.ref h] ∧ Hdd H h dr ∧ ∀ L ps bks H', Kp h H H' → Hdd H' h dr → H L = none → H' L = some (.lst (ps.map V.ref)) → LPs H' ps bks → 1 ≤ bks.length → bks.length ≤ 3 → Q (.ref L) H'
theorem ok_placeL {f : Addr} {fd : FuncData} (F : Fun K "_law_at" "_law_at" sPlace f fd) : FnOk P w K mg base CX0 1 f fd ["row"] (spRNL K) := by
  refine F.ok scPlace (fun vs H Q E h => ?_) (fun cdv A outer s H vs Q E hr h => ?_)
  · obtain ⟨a, bs, rfl, _⟩ := h
    rfl
  · obtain ⟨a, bs, rfl, hS, q⟩ := h
    refine ⟨_, (pss_cons (ps_set (i := 1) scPlace.nd rfl (.inl rfl) pe_int)
      (pss_cons (ps_for PassesOwn.never rfl (pi_list (pv 0)) (pg_name (i := 2) scPlace.nd rfl (.inl rfl))
      (pss_one (ps_set (i := 1) scPlace.nd rfl (.inl rfl) (pe_op op_add (pe_op op_mul pe_int (pv 1)) (pv 2)))))
      (pss_one (ps_ret (pv 1))))), ?_⟩
    refine q_seq (q_setc ?_)
    dsimp only
    refine q_seq ?_
    refine ⟨.ref a, rfl, a, rfl, ⟨_, hS⟩, for_list (K := K) (a := a) (xs := bs.map V.int) (fun i σ H' => ∃ v : Option V, σ = [some (.ref a), some (.int (num (bs.take i))), v] ∧ H' = H) ⟨none, rfl, rfl⟩ (fun i σ H' _ hP => by obtain ⟨v, _, rfl⟩ := hP; exact hS) (fun i x σ H' hx hP => ?_) (fun σ H' hP => ?_)⟩
    · obtain ⟨v, rfl, rfl⟩ := hP
      obtain ⟨b, rfl, e⟩ := int_at hx
      refine q_set ?_
      refine ⟨_, rfl, _, _, rfl, rfl, .inl ⟨by decide, by decide⟩, _, rfl, _, _, rfl, rfl, some (.int b), ?_, rfl⟩
      rw [num_take e]
      rfl
    · obtain ⟨v, rfl, rfl⟩ := hP
      dsimp only
      refine q_ret ⟨_, rfl, ?_⟩
      rw [List.length_map, List.take_length]
      exact q
def spCostL : Sp := fun vs H Q _ => ∃ (q r : Addr) (z : Pd) (bs : List Int), vs = [.ref q, .ref r] ∧ LPr H q z ∧ H r = some (.lst (bs.map V.int)) ∧ Bits bs ∧ bs.length = z.1 ∧ Q (.int (costL z.2 bs)) H
theorem lps_at {H : Hp} {ps : List Addr} {bks : List Pd} {i : Nat} (pa : LPs H ps bks) (il : i < bks.length) : ∃ p, (ps.map V.ref)[i]? = some (.ref p) ∧ LPr H p (bks.getD i (0, [])) := by
  obtain ⟨p, hp, h⟩ := paired_get pa (List.getElem?_eq_getElem il)
  have e : bks.getD i (0, []) = bks[i] := by
    rw [List.getD_eq_getElem?_getD, List.getElem?_eq_getElem il]
    rfl
  rw [e]
  exact ⟨p, by rw [List.getElem?_map, hp]; rfl, h⟩
/-- a tie as the law draws it -/
def tieB (bks : List Pd) (n : Int) (t : Tie) : Prop := tieOk bks n t ∧ t.2.2 ≤ 1000
def spDTi : Sp := fun vs H Q _ => ∃ (h dr L : Addr) (ps : List Addr) (bks : List Pd) (n m : Nat), vs = [.ref h, .ref L, .int n, .int m] ∧ Hdd H h dr ∧ H L = some (.lst (ps.map V.ref)) ∧ LPs H ps bks ∧ 1 ≤ bks.length ∧ m ≤ 50 ∧ ∀ t as ts H', Kp h H H' → Hdd H' h dr → H' t = some (.tup (as.map V.ref)) → TisAt H' as ts → (∀ x ∈ ts, tieB bks n x) → ts.length ≤ m → Q (.ref t) H'
end
end CP

namespace CP
open PySem PySem.Spec PyProof.Rows L2 Ek CC CS
theorem cr_mink {X : Cx} (K : PySem.W.Frag) (hK : X.K = K) (hc : X.calm = true) : CallR X (.builtin "min") (rMin K) := hK ▸ cr_min hc
theorem rise_cons {a b : Int} {l : List Int} : riseI (a :: b :: l) = (decide (a < b) && riseI (b :: l)) := rfl
theorem rise_pw : ∀ {xs : List Int}, riseI xs = true → xs.Pairwise (· < ·)
  | [], _ => .nil
  | [a], _ => .cons (fun _ h => nomatch h) .nil
  | a :: b :: l, h => by
    rw [rise_cons, Bool.and_eq_true, decide_eq_true_iff] at h
    have p := rise_pw h.2
    refine .cons (fun x m => ?_) p
    rcases List.mem_cons.mp m with rfl | m
    · exact h.1
    · exact Int.lt_trans h.1 ((List.pairwise_cons.mp p).1 x m)
theorem pw_rise : ∀ {xs : List Int}, xs.Pairwise (· < ·) → riseI xs = true
  | [], _ => rfl
  | [a], _ => rfl
  | a :: b :: l, h => by
    obtain ⟨h1, h2⟩ := List.pairwise_cons.mp h
    rw [rise_cons, Bool.and_eq_true, decide_eq_true_iff]
    exact ⟨h1 b List.mem_cons_self, pw_rise h2⟩
def keepsM (st : List (Int × Int)) (r : List Int) : Bool := st.all fun c => decide (r.getD c.1.toNat 0 = c.2)
section
variable {P : Program} {w : World} {K : PySem.W.Frag} {mg : Str → Option Value} {base : Heap}
def spLTo : Sp := fun vs H Q _ => ∃ (L t r : Addr) (ps as : List Addr) (bks : List Pd) (ts : List Tie) (n : Nat) (bs : List Int), vs = [.ref L, .ref t, .ref r] ∧ H L = some (.lst (ps.map V.ref)) ∧ LPs H ps bks ∧ Rd H t (.tup (as.map V.ref)) ∧ TisAt H as ts ∧ (∀ x ∈ ts, tieB bks n x) ∧ Rd H r (.tup (bs.map V.int)) ∧ Bits bs ∧ bs.length = n ∧ ∀ H', Same H H' → Q (.int (totM bks ts bs)) H'
def spLKe (K : PySem.W.Frag) : Sp := fun vs H Q _ => ∃ (r : Addr) (v : V) (bs : List Int) (n : Nat) (st : List (Int × Int)), vs = [.ref r, v] ∧ Rd H r (.tup (bs.map V.int)) ∧ bs.length = n ∧ StAt K H v st ∧ stOk n st ∧ st.length ≤ 200 ∧ ∀ H', Same H H' → Q (.bl (keepsM st bs)) H'
def spDSt : Sp := fun vs H Q _ => ∃ (h dr : Addr) (n : Nat) (m : Int), vs = [.ref h, .int n, .int m] ∧ Hdd H h dr ∧ n ≤ 100 ∧ ∀ a ps st H', Kp h H H' → Hdd H' h dr → (∃ o : Obj, o.dict = none ∧ H' a = some (.frz o (.tup (ps.map V.ref)))) → PrsT H' ps st → stOk n st → st.length ≤ n → Q (.ref a) H'
theorem PrsT.kp {h dr : Addr} {H H' : Hp} {ps : List Addr} {st : List (Int × Int)} (hd : Hdd H h dr) (kp : Kp h H H') (x : PrsT H ps st) : PrsT H' ps st := by
  induction x with
  | nil => exact .nil
  | cons e _ ih => exact .cons (rd_kp hd kp e) ih
theorem PrsT.updL {H : Hp} {D : Addr} {ps : List Addr} {st : List (Int × Int)} {ys : List V} {o : HO} (e : H D = some (.lst ys)) (x : PrsT H ps st) : PrsT (upd H D o) ps st := by
  induction x with
  | nil => exact .nil
  | cons e2 _ ih => exact .cons (rd_updL e e2) ih
end
end CP

namespace CP
open PySem PySem.Spec PyProof.Rows L2 Ek CC CS
def fixV (st : List (Int × Int)) (c : Int) : Option Int := st.foldl (fun o p => if c = p.1 then some p.2 else o) none
theorem fix_take {st : List (Int × Int)} {i : Nat} {p : Int × Int} (h : st[i]? = some p) (c : Int) : fixV (st.take (i + 1)) c = if c = p.1 then some p.2 else fixV (st.take i) c := by
  unfold fixV
  rw [List.take_add_one, h, List.foldl_append]
  rfl
def valsAt (st : List (Int × Int)) (c : Int) : List Int := match fixV st c with
  | some v => [v]
  | none => [0, 1]
def fillR (st : List (Int × Int)) : Nat → List (List Int)
  | 0 => [[]]
  | n + 1 => (fillR st n).flatMap fun r => (valsAt st n).map fun v => r ++ [v]
theorem vals_len {st : List (Int × Int)} {c : Int} : (valsAt st c).length ≤ 2 := by
  unfold valsAt
  cases fixV st c with
  | none => exact Nat.le_refl 2
  | some v => exact Nat.le_succ 1
theorem fill_len (st : List (Int × Int)) : ∀ n, (fillR st n).length ≤ 2 ^ n
  | 0 => Nat.le_refl _
  | n + 1 => by
    have h := fill_len st n
    have go : ∀ l : List (List Int), (l.flatMap fun r => (valsAt st n).map fun v => r ++ [v]).length ≤ 2 * l.length := fun l => by
      induction l with
      | nil => exact Nat.le_refl _
      | cons x l ih =>
        rw [List.flatMap_cons, List.length_append, List.length_map, List.length_cons]
        have := vals_len (st := st) (c := n)
        omega
    have := go (fillR st n)
    show ((fillR st n).flatMap _).length ≤ 2 ^ (n + 1)
    rw [Nat.pow_succ]
    omega
theorem fill_row (st : List (Int × Int)) : ∀ n, ∀ r ∈ fillR st n, r.length = n
  | 0, r, h => by rw [List.mem_singleton.mp h]; rfl
  | n + 1, r, h => by
    obtain ⟨x, hx, hr⟩ := List.mem_flatMap.mp h
    obtain ⟨v, _, rfl⟩ := List.mem_map.mp hr
    rw [List.length_append, fill_row st n x hx]
    rfl
def growR (st : List (Int × Int)) (i : Int) (r : List Int) : List (List Int) := (valsAt st i).map fun v => r ++ [v]
theorem flat2 (st : List (Int × Int)) (i : Int) : ∀ l : List (List Int), (l.flatMap (growR st i)).length ≤ 2 * l.length
  | [] => Nat.le_refl _
  | x :: l => by
    rw [List.flatMap_cons, List.length_append, List.length_cons]
    have h := flat2 st i l
    have h2 : (growR st i x).length ≤ 2 := by
      unfold growR
      rw [List.length_map]
      exact vals_len
    omega
/-- a dict of the fixed cells -/
def FxAt (H : Hp) (D : Addr) (st : List (Int × Int)) : Prop := ∃ kvs : List (L2.Key × V), H D = some (.dK kvs) ∧ kvs.length ≤ st.length ∧ ∀ c : Int, valV kvs (Sum.inl c) = (fixV st c).map V.int
theorem FxAt.same {H H' : Hp} {D : Addr} {st : List (Int × Int)} (s : Same H H') (x : FxAt H D st) : FxAt H' D st := by
  obtain ⟨kvs, h1, h2⟩ := x
  exact ⟨kvs, s _ _ h1, h2⟩
theorem FxAt.get {H : Hp} {D : Addr} {st : List (Int × Int)} (x : FxAt H D st) (c : Int) : DGet H D (.int c) ((fixV st c).map V.int) := by
  obtain ⟨kvs, h1, _, h2⟩ := x
  rw [← h2]
  exact DGet.k (k := Sum.inl c) h1
/-- {cell: value for cell, value in start} -/
theorem fixed_dict {K : PySem.W.Frag} {i j : Nat} {sa : Addr} {ps : List Addr} {st : List (Int × Int)} {H : Hp} {D : Addr} {σ : L2.St} {Fin : Hp → Prop} (ha : SqT K H sa (ps.map V.ref)) (pt : PrsT H ps st) (lst : st.length ≤ 200) (nD : H D = none) (hi : i < σ.length) (hj : j < σ.length) (ij : i ≠ j)
    (q : ∀ H', Same H H' → FxAt H' D st → Fin H') : ∃ W : Nat → Nat → Hp → Prop, (∃ m, W 0 m (upd H D (.dK []))) ∧ ∀ i1 m H1, W i1 m H1 →
      ((Itt K sa).stop i1 H1 ∧ Fin H1) ∨ ((Itt K sa).go i1 H1 ∧ ∃ Nx : Hp → Prop, (∀ H', Nx H' → ∃ m', m' < m ∧ W (i1 + 1) m' H') ∧ ∀ x H', (Itt K sa).yld i1 H1 x H' → gTup K 2 (gCons (gName i) (gCons (gName j) gNil)) x (wipe σ [i, j]) H' fun σ2 H2 => wipe σ2 [i, j] = wipe σ [i, j] ∧ tYes σ2 H2 fun b H3 =>
        if b = true then tVar i σ2 H3 fun y H4 => tVar j σ2 H4 fun z H5 => ∃ kvs k, y = kV k ∧ H5 D = some (.dK kvs) ∧ kvs.length < sizeLine ∧ Nx (upd H5 D (.dK (putK kvs k z))) else Nx H3) := by
  refine dc_tup (K := K) (a := sa) (xs := ps.map V.ref) (fun n H' => Same H H' ∧ FxAt H' D (st.take n)) ⟨same_upd nD, [], upd_same, Nat.le_refl _, fun c => rfl⟩ (fun n H' _ hP => sqT_same hP.1 ha) (fun n x H' hx hP => ?_) (fun H' hP => ?_)
  · obtain ⟨s', kvs, hD, lk, hk⟩ := hP
    have ln : n < st.length := by
      have := (List.getElem?_eq_some_iff.mp hx).1
      rw [List.length_map, paired_len pt] at this
      exact this
    obtain ⟨p, hp, hr⟩ := paired_get (pt.same s') (List.getElem?_eq_getElem ln)
    rw [List.getElem?_map, hp] at hx
    obtain rfl : x = .ref p := (Option.some.inj hx).symm
    have hst : st[n]? = some st[n] := List.getElem?_eq_getElem ln
    generalize st[n] = c at hr hst
    have lw : (wipe σ [i, j]).length = σ.length := by simp [wipe]
    refine ⟨p, _, rfl, .inl hr, rfl, _, _, rfl, _, _, rfl, rfl, ?_⟩
    have e1 : (((wipe σ [i, j]).set i (some (.int c.1))).set j (some (.int c.2)))[i]? = some (some (.int c.1)) := by
      rw [List.getElem?_set_ne (fun z => ij z.symm), List.getElem?_set_self (by rw [lw]; exact hi)]
    have e2 : (((wipe σ [i, j]).set i (some (.int c.1))).set j (some (.int c.2)))[j]? = some (some (.int c.2)) := by
      rw [List.getElem?_set_self (by rw [List.length_set, lw]; exact hj)]
    refine ⟨by
      simp [wipe]
      rw [List.set_comm _ _ ij, List.set_set, List.set_set], .int c.1, e1, .int c.2, e2, kvs, Sum.inl c.1, rfl, hD, by rw [List.length_take] at lk; exact small1000 (by omega), fun b o e => ?_, _, upd_same, ?_, fun x => ?_⟩
    · rw [upd_ne (ne_of_none e nD)]
      exact s' _ _ e
    · have := length_putK kvs (Sum.inl c.1) (V.int c.2)
      rw [List.length_take] at lk ⊢
      omega
    · rw [valV_put, hk, fix_take hst]
      by_cases z : x = c.1
      · rw [if_pos z, if_pos (by rw [z])]
        rfl
      · rw [if_neg z, if_neg (fun y => z (Sum.inl.inj y))]
  · obtain ⟨s', fx⟩ := hP
    rw [List.length_map, paired_len pt, List.take_length] at fx
    exact q H' s' fx
end CP

namespace CP
open PySem PySem.Spec PyProof.Rows L2 Ek CC CS
def linF (f : List Nat → Int) (L : Mp) : Int := (L.map fun q => q.2 * f q.1).sum

theorem lin_app {f : List Nat → Int} {A B : Mp} : linF f (A ++ B) = linF f A + linF f B := by
  unfold linF
  rw [List.map_append, List.sum_append]

theorem lin_cons {f : List Nat → Int} {q : List Nat × Int} {L : Mp} : linF f (q :: L) = q.2 * f q.1 + linF f L := by
  unfold linF
  rw [List.map_cons, List.sum_cons]

theorem lin_perm {f : List Nat → Int} {A B : Mp} (h : A.Perm B) : linF f A = linF f B := by
  induction h with
  | nil => rfl
  | cons x _ ih => rw [lin_cons, lin_cons, ih]
  | swap x y l => rw [lin_cons, lin_cons, lin_cons, lin_cons]; omega
  | trans _ _ a b => exact a.trans b

theorem lin_put {f : List Nat → Int} {l : List Nat} {v : Int} : ∀ {m : Mp}, (m.map (·.1)).Nodup → linF f (putM m l (getM m l + v)) = linF f m + v * f l := by
  intro m nd
  by_cases c : (m.any fun p => decide (p.1 = l)) = true
  · have e : putM m l (getM m l + v) = m.map fun p => if p.1 = l then (p.1, getM m l + v) else p := by unfold putM; rw [if_pos c]
    rw [e]
    have g : ∀ p ∈ m, p.1 = l → p.2 = getM m l := fun p hp h => by rw [← h, getM_mem nd hp]
    generalize getM m l = u at g ⊢
    clear e
    induction m with
    | nil => simp at c
    | cons p m ih =>
      rw [List.map_cons, List.nodup_cons] at nd
      rw [List.map_cons, lin_cons, lin_cons]
      by_cases h : p.1 = l
      · have e2 : (m.map fun p => if p.1 = l then (p.1, u + v) else p) = m := by
          have : ∀ q ∈ m, (fun p : List Nat × Int => if p.1 = l then (p.1, u + v) else p) q = id q := fun q hq => by
            show (if q.1 = l then (q.1, u + v) else q) = q
            rw [if_neg fun z => nd.1 (List.mem_map.mpr ⟨q, hq, by rw [z, h]⟩)]
          rw [List.map_congr_left this, List.map_id]
        rw [e2, if_pos h, g p List.mem_cons_self h, h]
        simp only
        rw [Int.add_mul]
        omega
      · rw [if_neg h]
        have c2 : (m.any fun p => decide (p.1 = l)) = true := by
          rw [List.any_cons, decide_eq_false h, Bool.false_or] at c
          exact c
        rw [ih nd.2 c2 fun q hq => g q (List.mem_cons_of_mem _ hq)]
        omega
  · have e : putM m l (getM m l + v) = m ++ [(l, getM m l + v)] := by unfold putM; rw [if_neg c]
    have z : getM m l = 0 := getM_none fun h => c (any_mem.mpr h)
    rw [e, lin_app, z]
    show _ + ((0 + v) * f l + 0) = _
    rw [Int.zero_add, Int.add_zero]

theorem lin_acc {f : List Nat → Int} : ∀ {A m : Mp}, (m.map (·.1)).Nodup → linF f (accM m A) = linF f m + linF f A
  | [], m, _ => by show linF f m = linF f m + 0; omega
  | q :: A, m, nd => by
    show linF f (accM (putM m q.1 (getM m q.1 + q.2)) A) = _
    rw [lin_acc (putM_nodup nd), lin_put nd, lin_cons]
    omega

theorem lin_nz {f : List Nat → Int} : ∀ {m : Mp}, linF f (m.filter fun p => decide (p.2 ≠ 0)) = linF f m
  | [] => rfl
  | q :: m => by
    by_cases c : q.2 = 0
    · rw [List.filter_cons_of_neg (by simpa using c), lin_cons, lin_nz, c]
      omega
    · rw [List.filter_cons_of_pos (by simpa using c), lin_cons, lin_cons, lin_nz]


/-! ### what a start leaves of letters -/
abbrev Stt := List (Int × Int)
def okc (st : Stt) (cs : List Int) : Bool := cs.all fun c => decide ((fixV st c).getD 1 ≠ 0)
def leftM (n : Nat) (st : Stt) (cs : List Int) : List Nat := (List.range n).filter fun (k : Nat) => decide ((k : Int) ∈ cs) && (fixV st k).isNone
def cellsOf (cs : List Int) (l : List Nat) : List Int := l.map fun x => cs.getD x 0
theorem pw_eq {xs ys : List Int} (u : xs.Pairwise (· < ·)) (u' : ys.Pairwise (· < ·)) (h : ∀ k, k ∈ xs ↔ k ∈ ys) : xs = ys := by
  have nd : ∀ {L : List Int}, L.Pairwise (· < ·) → L.Nodup := fun {L} u => u.imp fun {p q} h e => by rw [e] at h; exact Int.lt_irrefl _ h
  have pm : xs.Perm ys := (List.perm_ext_iff_of_nodup (nd u) (nd u')).mpr h
  exact pm.eq_of_pairwise (le := fun (p q : Int) => p < q) (fun a b _ _ h1 h2 => absurd (Int.lt_trans h1 h2) (Int.lt_irrefl _)) u u'
theorem left_mem {n : Nat} {st : Stt} {cs : List Int} {k : Nat} : k ∈ leftM n st cs ↔ k < n ∧ (k : Int) ∈ cs ∧ fixV st k = none := by
  unfold leftM
  rw [List.mem_filter, List.mem_range, Bool.and_eq_true, decide_eq_true_iff, Option.isNone_iff_eq_none]
theorem left_pw {n : Nat} {st : Stt} {cs : List Int} : ((leftM n st cs).map fun (k : Nat) => (k : Int)).Pairwise (· < ·) := by
  have r : (List.range n).Pairwise (· < ·) := List.pairwise_lt_range
  exact List.pairwise_map.mpr ((r.sublist List.filter_sublist).imp fun {a b} h => by omega)
theorem left_ints {n : Nat} {st : Stt} {cs : List Int} (bd : ∀ c ∈ cs, 0 ≤ c ∧ c < (n : Int)) (k : Int) : k ∈ (leftM n st cs).map (fun (k : Nat) => (k : Int)) ↔ k ∈ cs ∧ fixV st k = none := by
  rw [List.mem_map]
  constructor
  · rintro ⟨j, hj, rfl⟩
    obtain ⟨_, h1, h2⟩ := left_mem.mp hj
    exact ⟨h1, h2⟩
  · rintro ⟨h1, h2⟩
    obtain ⟨b0, b1⟩ := bd k h1
    have e : ((k.toNat : Nat) : Int) = k := by omega
    exact ⟨k.toNat, left_mem.mpr ⟨by omega, by rw [e]; exact h1, by rw [e]; exact h2⟩, e⟩
theorem left_eq {n : Nat} {st : Stt} {cs ns : List Int} (pw : ns.Pairwise (· < ·)) (mem : ∀ k, k ∈ ns ↔ k ∈ cs ∧ fixV st k = none) (bd : ∀ c ∈ cs, 0 ≤ c ∧ c < (n : Int)) : ns.map V.int = lV (leftM n st cs) := by
  have e : ns = (leftM n st cs).map fun (k : Nat) => (k : Int) := pw_eq pw left_pw fun k => by rw [mem, left_ints bd]
  rw [e, List.map_map]
  rfl
theorem sub_len : ∀ {xs ys : List Int}, xs.Nodup → (∀ x ∈ xs, x ∈ ys) → xs.length ≤ ys.length
  | [], _, _, _ => Nat.zero_le _
  | x :: xs, ys, nd, h => by
    obtain ⟨nx, nd⟩ := List.nodup_cons.mp nd
    have hx : x ∈ ys := h x List.mem_cons_self
    have i := sub_len (xs := xs) (ys := ys.erase x) nd fun y hy => (List.mem_erase_of_ne fun e => nx (by rw [← e]; exact hy)).mpr (h y (List.mem_cons_of_mem _ hy))
    rw [List.length_erase_of_mem hx] at i
    have p : 0 < ys.length := List.length_pos_of_mem hx
    rw [List.length_cons]
    omega
theorem left_len {n : Nat} {st : Stt} {cs : List Int} : (leftM n st cs).length ≤ cs.length := by
  have h := sub_len (xs := (leftM n st cs).map fun (k : Nat) => (k : Int)) (ys := cs) (left_pw.imp fun {p q} h e => by rw [e] at h; exact Int.lt_irrefl _ h) fun x hx => by
    obtain ⟨j, hj, rfl⟩ := List.mem_map.mp hx
    exact (left_mem.mp hj).2.1
  rwa [List.length_map] at h
/-! ### what a puzzle's ties add -/
def addsT (n : Nat) (st : Stt) (S : Mp) (t : Tie) : Mp := (S.filter fun q => okc st (cellsOf t.2.1 q.1)).map fun q => (leftM n st (cellsOf t.2.1 q.1), t.2.2 * q.2)
theorem addsT_nil {n : Nat} {st : Stt} {t : Tie} : addsT n st [] t = [] := rfl
theorem addsT_app {n : Nat} {st : Stt} {A B : Mp} {t : Tie} : addsT n st (A ++ B) t = addsT n st A t ++ addsT n st B t := by
  unfold addsT
  rw [List.filter_append, List.map_append]
theorem addsT_one {n : Nat} {st : Stt} {q : List Nat × Int} {t : Tie} : addsT n st [q] t = if okc st (cellsOf t.2.1 q.1) = true then [(leftM n st (cellsOf t.2.1 q.1), t.2.2 * q.2)] else [] := by
  unfold addsT
  by_cases c : okc st (cellsOf t.2.1 q.1) = true
  · rw [if_pos c, List.filter_cons_of_pos (p := fun q : List Nat × Int => okc st (cellsOf t.2.1 q.1)) (a := q) c]; rfl
  · rw [if_neg c, List.filter_cons_of_neg (p := fun q : List Nat × Int => okc st (cellsOf t.2.1 q.1)) (a := q) c]; rfl
theorem addsT_take {n : Nat} {st : Stt} {S : Mp} {t : Tie} {i : Nat} {q : List Nat × Int} (h : S[i]? = some q) : addsT n st (S.take (i + 1)) t = addsT n st (S.take i) t ++ if okc st (cellsOf t.2.1 q.1) = true then [(leftM n st (cellsOf t.2.1 q.1), t.2.2 * q.2)] else [] := by
  rw [List.take_add_one, h, addsT_app]
  show _ ++ addsT n st [q] t = _
  rw [addsT_one]
theorem addsT_len {n : Nat} {st : Stt} {S : Mp} {t : Tie} : (addsT n st S t).length ≤ S.length := by
  unfold addsT
  rw [List.length_map]
  exact List.length_filter_le _ _
theorem accM_app {m A B : Mp} : accM m (A ++ B) = accM (accM m A) B := by
  unfold accM
  rw [List.foldl_append]
theorem valL_perm {A B : Mp} {k : List Nat} (p : A.Perm B) : valL A k = valL B k := by
  unfold valL
  exact sum_perm ((p.filter _).map _)
theorem addsT_perm {n : Nat} {st : Stt} {A B : Mp} {t : Tie} (p : A.Perm B) : (addsT n st A t).Perm (addsT n st B t) := by
  unfold addsT
  exact (p.filter _).map _
theorem addsT_nz {n : Nat} {st : Stt} {t : Tie} {k : List Nat} : ∀ {M : Mp}, valL (addsT n st (M.filter fun p => decide (p.2 ≠ 0)) t) k = valL (addsT n st M t) k
  | [] => rfl
  | q :: M => by
    have e : addsT n st (q :: M) t = addsT n st [q] t ++ addsT n st M t := addsT_app (A := [q])
    rw [e, valL_app, ← addsT_nz (M := M)]
    by_cases c : q.2 = 0
    · rw [List.filter_cons_of_neg (by simpa using c), addsT_one, c]
      split
      · rw [valL_cons]
        simp [valL]
      · simp [valL]
    · rw [List.filter_cons_of_pos (by simpa using c)]
      have e2 : addsT n st (q :: M.filter fun p => decide (p.2 ≠ 0)) t = addsT n st [q] t ++ addsT n st (M.filter fun p => decide (p.2 ≠ 0)) t := addsT_app (A := [q])
      rw [e2, valL_app]
open Classical in
noncomputable def ownOf (z : Pd) : Mp := if h : ∃ L, Own z.1 z.2 L then h.choose else []
theorem own_is {z : Pd} {L : Mp} (k3 : z.1 ≤ 3) (o : Own z.1 z.2 L) : ownOf z = L := by
  have h : ∃ L, Own z.1 z.2 L := ⟨L, o⟩
  unfold ownOf
  rw [dif_pos h]
  exact Own.eq k3 h.choose_spec o
/-- each price of a book has a sum -/
def Bown (bks : List Pd) : Prop := ∀ z ∈ bks, z.1 ≤ 3 ∧ Own z.1 z.2 (ownOf z)
abbrev bkI (bks : List Pd) (t : Tie) : Pd := bks.getD t.1 (0, [])
noncomputable def addsP (n : Nat) (st : Stt) (bks : List Pd) (ts : List Tie) : Mp := ts.flatMap fun t => addsT n st (ownOf (bkI bks t)) t
noncomputable def addsL (n : Nat) (st : Stt) (bks : List Pd) (ts : List Tie) : Mp := ts.flatMap fun t => addsT n st (gM (bkI bks t).1 (ownOf (bkI bks t))) t
theorem flat_take {f : Tie → Mp} {ts : List Tie} {i : Nat} {t : Tie} (h : ts[i]? = some t) : (ts.take (i + 1)).flatMap f = (ts.take i).flatMap f ++ f t := by
  rw [List.take_add_one, h, List.flatMap_append]
  show _ ++ (f t ++ []) = _
  rw [List.append_nil]
theorem bk_mem {bks : List Pd} {n : Int} {t : Tie} (h : tieOk bks n t) : bkI bks t ∈ bks := by
  unfold bkI
  rw [List.getD_eq_getElem?_getD, List.getElem?_eq_getElem h.1]
  exact List.getElem_mem _
theorem own_perm {k : Nat} {ms : List Int} {L : Mp} (k3 : k ≤ 3) (o : Own k ms L) : L.Perm ((gM k L).filter fun p => decide (p.2 ≠ 0)) := gM_perm k3 o.ok o.up o.nz
theorem val_same {n : Nat} {m : Int} {st : Stt} {bks : List Pd} {k : List Nat} (bo : Bown bks) : ∀ {ts : List Tie}, (∀ t ∈ ts, tieOk bks m t) → valL (addsP n st bks ts) k = valL (addsL n st bks ts) k
  | [], _ => rfl
  | t :: ts, h => by
    obtain ⟨k3, o⟩ := bo _ (bk_mem (h t List.mem_cons_self))
    have e1 : addsP n st bks (t :: ts) = addsT n st (ownOf (bkI bks t)) t ++ addsP n st bks ts := rfl
    have e2 : addsL n st bks (t :: ts) = addsT n st (gM (bkI bks t).1 (ownOf (bkI bks t))) t ++ addsL n st bks ts := rfl
    rw [e1, e2, valL_app, valL_app, val_same bo fun x hx => h x (List.mem_cons_of_mem _ hx), valL_perm (addsT_perm (own_perm k3 o)), addsT_nz]
/-- the sum that the adds make -/
def SumIs (A L : Mp) : Prop := Up L ∧ ∀ p, p ∈ L ↔ p.2 = valL A p.1 ∧ p.2 ≠ 0
theorem SumIs.eq {A B L M : Mp} (v : ∀ k, valL A k = valL B k) (a : SumIs A L) (b : SumIs B M) : L = M := up_eq a.1 b.1 fun p => by rw [a.2, b.2, v]
theorem acc_nd {A : Mp} : ((accM [] A).map (·.1)).Nodup := accM_nodup (m := []) List.nodup_nil
theorem acc_get {A : Mp} {k : List Nat} : getM (accM [] A) k = valL A k := by
  rw [get_acc (m := []) List.nodup_nil]
  show getM [] k + _ = _
  rw [show getM [] k = 0 from rfl, Int.zero_add]
theorem sum_is1 {A L : Mp} (up : Up L) (mem : ∀ p, p ∈ L ↔ p ∈ accM [] A ∧ p.2 ≠ 0) : SumIs A L := ⟨up, fun p => by rw [mem, mem_iff_get acc_nd, acc_get]⟩
theorem sum_is2 {A L : Mp} (up : Up L) (pm : L.Perm ((accM [] A).filter fun p => decide (p.2 ≠ 0))) : SumIs A L := sum_is1 up fun p => by rw [pm.mem_iff, List.mem_filter, decide_eq_true_iff]
/-! ### worths -/
theorem worth_lin {L : Mp} {bs : List Int} : worthM L bs = linF (fun l => if onR bs l = true then 1 else 0) L := by
  induction L with
  | nil => rfl
  | cons q L ih =>
    have e : worthM (q :: L) bs = worthM [(q.1, q.2)] bs + worthM L bs := worth_app (L := [q])
    rw [e, worth_one, lin_cons, ih]
    split <;> simp
theorem worth_acc {A : Mp} {bs : List Int} : worthM (accM [] A) bs = worthM A bs := by
  rw [worth_lin, worth_lin, lin_acc (m := []) List.nodup_nil]
  show 0 + _ = _
  rw [Int.zero_add]
theorem onR_iff {bs : List Int} {l : List Nat} : onR bs l = true ↔ ∀ x ∈ l, bs.getD x 0 = 1 := by
  unfold onR
  rw [List.all_eq_true]
  exact ⟨fun h x hx => of_decide_eq_true (h x hx), fun h x hx => decide_eq_true (h x hx)⟩
theorem okc_iff {st : Stt} {cs : List Int} : okc st cs = true ↔ ∀ c ∈ cs, (fixV st c).getD 1 ≠ 0 := by
  unfold okc
  rw [List.all_eq_true]
  exact ⟨fun h x hx => of_decide_eq_true (h x hx), fun h x hx => decide_eq_true (h x hx)⟩
/-- a row that keeps the start -/
def Keeps (st : Stt) (bs : List Int) : Prop := ∀ c v, fixV st c = some v → bs.getD c.toNat 0 = v ∧ (v = 0 ∨ v = 1)
theorem key_on {n : Nat} {st : Stt} {bs cs : List Int} {l : List Nat} (kp : Keeps st bs) (lt : ∀ x ∈ l, x < cs.length) (bd : ∀ c ∈ cs, 0 ≤ c ∧ c < (n : Int)) : (okc st (cellsOf cs l) = true ∧ onR bs (leftM n st (cellsOf cs l)) = true) ↔ onR (cs.map fun c => bs.getD c.toNat 0) l = true := by
  have at_ : ∀ x ∈ l, ∃ c, cs[x]? = some c ∧ cs.getD x 0 = c ∧ c ∈ cs ∧ (cs.map fun c => bs.getD c.toNat 0).getD x 0 = bs.getD c.toNat 0 := fun x hx => by
    have h := List.getElem?_eq_getElem (lt x hx)
    refine ⟨_, h, ?_, List.getElem_mem _, ?_⟩
    · rw [List.getD_eq_getElem?_getD, h]; rfl
    · rw [List.getD_eq_getElem?_getD (l := cs.map _), List.getElem?_map, h]; rfl
  rw [okc_iff, onR_iff, onR_iff]
  constructor
  · rintro ⟨h1, h2⟩ x hx
    obtain ⟨c, e1, e2, mc, e3⟩ := at_ x hx
    have mm : c ∈ cellsOf cs l := List.mem_map.mpr ⟨x, hx, e2⟩
    rw [e3]
    cases f : fixV st c with
    | none =>
      obtain ⟨b0, b1⟩ := bd c mc
      have e : ((c.toNat : Nat) : Int) = c := by omega
      exact h2 c.toNat (left_mem.mpr ⟨by omega, by rw [e]; exact mm, by rw [e]; exact f⟩)
    | some v =>
      have z := h1 c mm
      rw [f] at z
      obtain ⟨k1, k2⟩ := kp c v f
      have z' : v ≠ 0 := z
      omega
  · intro h
    refine ⟨fun c hc => ?_, fun k hk => ?_⟩
    · obtain ⟨x, hx, rfl⟩ := List.mem_map.mp hc
      obtain ⟨c, e1, e2, mc, e3⟩ := at_ x hx
      have z := h x hx
      rw [e3] at z
      rw [e2]
      cases f : fixV st c with
      | none => exact Int.one_ne_zero
      | some v =>
        obtain ⟨k1, k2⟩ := kp c v f
        show v ≠ 0
        omega
    · obtain ⟨_, h1, _⟩ := left_mem.mp hk
      obtain ⟨x, hx, e⟩ := List.mem_map.mp h1
      obtain ⟨c, e1, e2, mc, e3⟩ := at_ x hx
      have z := h x hx
      rw [e3] at z
      have ec : c = (k : Int) := by rw [← e2]; exact e
      rw [ec] at z
      simpa using z
theorem worth_adds {n : Nat} {st : Stt} {bs : List Int} {t : Tie} (kp : Keeps st bs) (bd : ∀ c ∈ t.2.1, 0 ≤ c ∧ c < (n : Int)) : ∀ {S : Mp}, (∀ q ∈ S, ∀ x ∈ q.1, x < t.2.1.length) → worthM (addsT n st S t) bs = t.2.2 * worthM S (t.2.1.map fun c => bs.getD c.toNat 0)
  | [], _ => by show (0 : Int) = _ * 0; rw [Int.mul_zero]
  | q :: S, h => by
    have e : addsT n st (q :: S) t = addsT n st [q] t ++ addsT n st S t := addsT_app (A := [q])
    have e2 : worthM (q :: S) (t.2.1.map fun c => bs.getD c.toNat 0) = worthM [(q.1, q.2)] (t.2.1.map fun c => bs.getD c.toNat 0) + worthM S (t.2.1.map fun c => bs.getD c.toNat 0) := worth_app (L := [q])
    rw [e, worth_app, e2, Int.mul_add, worth_adds kp bd fun x hx => h x (List.mem_cons_of_mem _ hx), addsT_one, worth_one]
    have k := key_on (n := n) kp (h q List.mem_cons_self) bd
    by_cases c : okc st (cellsOf t.2.1 q.1) = true
    · rw [if_pos c, worth_one]
      by_cases d : onR bs (leftM n st (cellsOf t.2.1 q.1)) = true
      · rw [if_pos d, if_pos (k.mp ⟨c, d⟩)]
      · rw [if_neg d, if_neg fun z => d (k.mpr z).2, Int.mul_zero]
    · rw [if_neg c, if_neg fun z => c (k.mpr z).1, Int.mul_zero]
      rfl
end CP

namespace CP
open PySem PySem.Spec PyProof.Rows L2 Ek CC CS

theorem sc_get {o : Option Int} {d z : Int} : scal ((o.map V.int).getD (.int d)) (.int z) = true := by cases o <;> rfl
theorem dGet {o : Option Int} {d z : Int} : decide ((o.map V.int).getD (.int d) = .int z) = decide (o.getD d = z) := by
  cases o <;> exact CS.dInt
theorem FxAt.isD {H : Hp} {D : Addr} {st : Stt} (x : FxAt H D st) : IsD H D := by
  obtain ⟨kvs, h1, _⟩ := x
  exact .inl ⟨kvs, .inl h1⟩
theorem any_okc {st : Stt} {cv : List Int} : (cv.map fun c => decide ((fixV st c).getD 1 = 0)).any id = !okc st cv := by
  rw [List.any_map]
  unfold okc
  rw [List.not_all_eq_any_not]
  congr 1
  funext c
  show decide _ = !decide _
  simp
theorem cells_take {cs : List Int} {l : List Nat} {i x : Nat} (h : l[i]? = some x) : cellsOf cs (l.take (i + 1)) = cellsOf cs (l.take i) ++ [cs.getD x 0] := by
  unfold cellsOf
  rw [List.take_add_one, h, List.map_append]
  rfl
section
variable {P : Program} {w : World} {K : PySem.W.Frag} {mg : Str → Option Value} {base : Heap}
def spLLe (K : PySem.W.Frag) : Sp := fun vs H Q _ => ∃ (b c D : Addr) (l : List Nat) (cs : List Int) (st : Stt) (n : Nat), vs = [.ref b, .ref c, .ref D] ∧ SqT K H b (lV l) ∧ Rd H c (.tup (cs.map V.int)) ∧ (∀ x ∈ l, x < cs.length) ∧ l.length ≤ 3 ∧ (∀ x ∈ cs, 0 ≤ x ∧ x < (n : Int)) ∧ FxAt H D st ∧
  (okc st (cellsOf cs l) = false → ∀ H', Same H H' → Q .non H') ∧ (okc st (cellsOf cs l) = true → ∀ H' t, Same H H' → H' t = some (.tup (lV (leftM n st (cellsOf cs l)))) → Q (.ref t) H')
theorem ok_LLe {f : Addr} {fd : FuncData} (F : Fun K "_letters_left" "_letters_left" sLLe f fd) (B : Bt mg) : FnOk P w K mg base CX0 3 f fd ["letters", "cells", "fixed"] (spLLe K) := by
  refine F.ok scLLe (fun vs H Q E h => ?_) (fun cdv A outer s H vs Q E hr h => ?_)
  · obtain ⟨b, c, D, l, cs, st, n, rfl, _⟩ := h
    rfl
  · obtain ⟨b, c, D, l, cs, st, n, rfl, hb, hc, lt, l3, bd, fx, q0, q1⟩ := h
    refine ⟨_, (pss_cons (ps_setLc (i := 3) (own := [("letter", 4)]) (g := gName 4) (tt := tYes) rfl scLLe.nd rfl rfl (sw_true rfl rfl rfl (by decide +kernel)) (pi_tup (pv 0)) (blkOk_by (N := NLLe) (sc := defScope sLLe) (by decide +kernel)) (fun _ _ _ _ _ => pg_name (i := 4) scLLe.nd rfl (Or.inl rfl)) (fun _ _ _ _ _ => pts_nil) (fun _ _ _ _ _ => (pe_ix (ixt_k K rfl) (pv 1) (pv 4) (fun _ _ => rfl))))
      (pss_cons (ps_if (pt_val (pe_callB (cr_any rfl) (by rfl) B.any (by decide +kernel) (pa_cons (pe_lc (own := [("cell", 5)]) (g := gName 5) (tt := tYes) rfl scLLe.nd (pi_list (pv 3)) (blkOk_by (N := NLLe) (sc := defScope sLLe) (by decide +kernel)) (fun _ _ _ _ _ => pg_name (i := 5) scLLe.nd rfl (Or.inl rfl)) (fun _ _ _ _ _ => pts_nil) (fun _ _ _ _ _ => (pe_cmpR op_eq (pe_dget2 (ru1 hr) (pv 2) (pv 5) pe_int ⟨rfl, rfl, rfl, rfl⟩) pe_int (nomark _)))) pa_nil)))
      (pss_one (ps_ret pe_non)) pss_nil)
      (pss_one (ps_ret (pe_callTy call_tuple_of (by rfl) B.tuple (by decide +kernel) (pa_cons (pe_callB (cr_sortedSet rfl) (by rfl) B.sorted (by decide +kernel) (pa_cons (pe_callTy (call_setI rfl) (by rfl) B.set (by decide +kernel) (pa_cons (pe_lc (own := [("cell", 5)]) (g := gName 5) rfl scLLe.nd (pi_list (pv 3)) (blkOk_by (N := NLLe) (sc := defScope sLLe) (by decide +kernel)) (fun _ _ _ _ _ => pg_name (i := 5) scLLe.nd rfl (Or.inl rfl)) (fun _ _ _ _ _ => pts_one (pt_cmp (pc_dnotin (ru1 hr) (pv 5) (pv 2)))) (fun _ _ _ _ _ => (pv 5))) pa_nil)) pa_nil)) pa_nil)))))), ?_⟩
    refine q_seq (q_set ?_)
    refine ⟨.ref b, rfl, b, rfl, ⟨_, hb⟩, fun F nF => lc_tup (K := K) (a := b) (xs := lV l) (fun i H' => Same H H' ∧ H' F = some (.lst ((cellsOf cs (l.take i)).map V.int))) ⟨same_upd nF, upd_same⟩ (fun i H' _ hP => CS.sqT_same hP.1 hb) (fun i x H' hx hP => ?_) (fun H' hP => ?_)⟩
    · obtain ⟨s', hF⟩ := hP
      obtain ⟨y, hy, rfl⟩ := lV_at hx
      have yl := lt y (List.mem_of_getElem? hy)
      refine ⟨rfl, .ref c, rfl, .int (y : Nat), rfl, c, _, (y : Int), .int (cs.getD y 0), rfl, rfl, .inl (rd_same s' hc), at_z (j := y) rfl ?_, _, hF, ?_, fun a o e => ?_, ?_⟩
      · rw [List.getElem?_map, List.getD_eq_getElem?_getD, List.getElem?_eq_getElem yl]
        rfl
      · rw [List.length_map, cellsOf, List.length_map, List.length_take]
        exact small1000 (by omega)
      · rw [upd_ne (ne_of_none e nF)]
        exact s' _ _ e
      · rw [upd_same, cells_take hy, List.map_append]
        rfl
    obtain ⟨s1, hF⟩ := hP
    rw [show (lV l).length = l.length from List.length_map .., List.take_length] at hF
    have fx1 := fx.same s1
    have hb1 := CS.sqT_same s1 hb
    have lc : (cellsOf cs l).length = l.length := List.length_map ..
    have bc : ∀ c ∈ cellsOf cs l, 0 ≤ c ∧ c < (n : Int) := fun c hc => by
      obtain ⟨x, hx, rfl⟩ := List.mem_map.mp hc
      have h := List.getElem?_eq_getElem (lt x hx)
      rw [List.getD_eq_getElem?_getD, h]
      exact bd _ (List.getElem_mem _)
    generalize cellsOf cs l = cv at hF lc bc q0 q1
    dsimp only
    refine q_seq (q_if ?_)
    refine ⟨.ref F, rfl, F, rfl, ⟨_, sl hF⟩, fun D2 nD2 => lc_list (K := K) (a := F) (xs := cv.map V.int) (fun i H2 => Same H' H2 ∧ H2 D2 = some (.lst (((cv.take i).map fun c => decide ((fixV st c).getD 1 = 0)).map V.bl))) ⟨same_upd nD2, upd_same⟩ (fun i H2 _ hP => sl (hP.1 _ _ hF)) (fun i x H2 hx hP => ?_) (fun H2 hP => ?_)⟩
    · obtain ⟨s2, hD2⟩ := hP
      obtain ⟨cc, rfl, hcc⟩ := int_at hx
      have fx2 := fx1.same s2
      refine ⟨rfl, .ref D, rfl, D, rfl, fx2.isD, .int cc, rfl, _, fx2.get cc, sc_get, _, hD2, ?_, fun a o e => ?_, ?_⟩
      · rw [List.length_map, List.length_map, List.length_take]
        exact small1000 (by omega)
      · rw [upd_ne (ne_of_none e nD2)]
        exact s2 _ _ e
      · rw [upd_same, dGet, List.take_add_one, hcc, List.map_append, List.map_append]
        rfl
    obtain ⟨s2, hD2⟩ := hP
    rw [List.length_map, List.take_length] at hD2
    refine ⟨D2, _, rfl, sl hD2, _, rfl, ?_⟩
    rw [any_okc]
    have hF2 := s2 _ _ hF
    have fx2 := fx1.same s2
    have s12 := s1.trans s2
    cases ec : okc st cv with
    | false =>
      rw [show (!false) = true from rfl]
      dsimp only
      rw [if_pos rfl]
      refine q_ret ?_
      exact q0 ec H2 s12
    | true =>
    refine q_next ?_
    have q1 := q1 ec
    dsimp only
    refine q_ret ?_
    refine ⟨.ref F, rfl, F, rfl, ⟨_, sl hF2⟩, fun D3 nD3 => lc_list (K := K) (a := F) (xs := cv.map V.int) (fun i H3 => Same H2 H3 ∧ H3 D3 = some (.lst (((cv.take i).filter fun c => (fixV st c).isNone).map V.int))) ⟨same_upd nD3, upd_same⟩ (fun i H3 _ hP => sl (hP.1 _ _ hF2)) (fun i x H3 hx hP => ?_) (fun H3 hP => ?_)⟩
    · obtain ⟨s3, hD3⟩ := hP
      obtain ⟨cc, rfl, hcc⟩ := int_at hx
      have fx3 := fx2.same s3
      have et : (cv.take (i + 1)).filter (fun c => (fixV st c).isNone) = (cv.take i).filter (fun c => (fixV st c).isNone) ++ if (fixV st cc).isNone = true then [cc] else [] := by
        rw [List.take_add_one, hcc, List.filter_append]
        congr 1
        by_cases z : (fixV st cc).isNone = true
        · rw [if_pos z]
          exact List.filter_cons_of_pos (p := fun c => (fixV st c).isNone) (a := cc) z
        · rw [if_neg z]
          exact List.filter_cons_of_neg (p := fun c => (fixV st c).isNone) (a := cc) z
      refine ⟨rfl, .int cc, rfl, .ref D, rfl, D, _, rfl, fx3.get cc, _, rfl, ?_⟩
      cases ef : fixV st cc with
      | none =>
        rw [ef, if_pos (show (none : Option Int).isNone = true from rfl)] at et
        refine ⟨.int cc, rfl, _, hD3, ?_, fun a o e => ?_, ?_⟩
        · rw [List.length_map]
          have := List.length_filter_le (fun c => (fixV st c).isNone) (cv.take i)
          rw [List.length_take] at this
          exact small1000 (by omega)
        · rw [upd_ne (ne_of_none e nD3)]
          exact s3 _ _ e
        · rw [upd_same, et, List.map_append]
          rfl
      | some v =>
        rw [ef, if_neg (show ¬(some v : Option Int).isNone = true by simp), List.append_nil] at et
        show Same H2 H3 ∧ _
        rw [et]
        exact ⟨s3, hD3⟩
    obtain ⟨s3, hD3⟩ := hP
    rw [List.length_map, List.take_length] at hD3
    have lf := List.length_filter_le (fun c => (fixV st c).isNone) cv
    refine ⟨D3, _, rfl, sl hD3, by omega, fun p so np hso => ?_⟩
    obtain ⟨cN, lcN, rfl⟩ := hso
    refine ⟨p, _, cN, rfl, upd_same, by omega, fun ns p2 pw mem len np2 => ?_⟩
    refine ⟨p2, _, rfl, .inl ⟨sl upd_same, fun t nt => ?_⟩⟩
    have em : ns.map V.int = lV (leftM n st cv) := left_eq pw (fun k => by
      rw [mem, decide_eq_true_iff, List.mem_filter, Option.isNone_iff_eq_none]) bc
    refine q1 _ t (s12.trans (s3.trans ((same_upd np).trans ((same_upd np2).trans (same_upd nt))))) ?_
    rw [upd_same, em]
end
end CP

namespace CP
open PySem PySem.Spec PyProof.Rows L2 Ek CC CS

theorem own_len {k : Nat} {ms : List Int} {L : Mp} (k3 : k ≤ 3) (o : Own k ms L) : L.length ≤ 8 := by
  have l8 := rows8 k3
  rw [(own_perm k3 o).length_eq]
  have := List.length_filter_le (fun p : List Nat × Int => decide (p.2 ≠ 0)) (gM k L)
  rw [show (gM k L).length = (rowsOf k).length from List.length_map ..] at this
  omega
theorem adds_len {n : Nat} {m : Int} {st : Stt} {bks : List Pd} (bo : Bown bks) : ∀ {ts : List Tie}, (∀ t ∈ ts, tieOk bks m t) → (addsP n st bks ts).length ≤ 8 * ts.length
  | [], _ => Nat.le_refl 0
  | t :: ts, h => by
    obtain ⟨k3, o⟩ := bo _ (bk_mem (h t List.mem_cons_self))
    have e1 : addsP n st bks (t :: ts) = addsT n st (ownOf (bkI bks t)) t ++ addsP n st bks ts := rfl
    have i := adds_len (n := n) (st := st) bo (ts := ts) fun x hx => h x (List.mem_cons_of_mem _ hx)
    have j := addsT_len (n := n) (st := st) (S := ownOf (bkI bks t)) (t := t)
    have l := own_len k3 o
    rw [e1, List.length_append, List.length_cons]
    omega
/-- a price's sum, as it stands -/
def SmAt (H : Hp) (p : Addr) (z : Pd) : Prop := ∃ ps, H p = some (.tup (ps.map V.ref)) ∧ MbT H ps (ownOf z)
theorem SmAt.same {H H' : Hp} {p : Addr} {z : Pd} (s : Same H H') (x : SmAt H p z) : SmAt H' p z := by
  obtain ⟨ps, h1, h2⟩ := x
  exact ⟨ps, s _ _ h1, h2.same s⟩
theorem SmAt.updL {H : Hp} {p D : Addr} {z : Pd} {xs : List V} {o : HO} (e : H D = some (.lst xs)) (x : SmAt H p z) : SmAt (upd H D o) p z := by
  obtain ⟨ps, h1, h2⟩ := x
  exact ⟨ps, by rw [upd_ne (ne_of h1 e (by intro z; cases z))]; exact h1, h2.updL e⟩
abbrev SmsAt (H : Hp) (qs : List Addr) (bks : List Pd) : Prop := Paired (SmAt H) qs bks
theorem SmsAt.same {H H' : Hp} {qs : List Addr} {bks : List Pd} (s : Same H H') (x : SmsAt H qs bks) : SmsAt H' qs bks := by
  induction x with
  | nil => exact .nil
  | cons e _ ih => exact .cons (e.same s) ih
theorem SmsAt.updL {H : Hp} {D : Addr} {qs : List Addr} {bks : List Pd} {xs : List V} {o : HO} (e : H D = some (.lst xs)) (x : SmsAt H qs bks) : SmsAt (upd H D o) qs bks := by
  induction x with
  | nil => exact .nil
  | cons h _ ih => exact .cons (h.updL e) ih
section
variable {P : Program} {w : World} {K : PySem.W.Frag} {mg : Str → Option Value} {base : Heap}
def spSmO (K : PySem.W.Frag) (C CB CP CT : Addr) : Sp := fun vs H Q E => ∃ (z : Addr) (bks : List Pd) (n : Nat) (ts : List Tie) (N : Addr → Prop) (v : V) (d : PyData), vs = [.ref z, v] ∧ PzAt C CB CP H z bks n ts ∧ ts.length ≤ 20 ∧ (∀ t ∈ ts, t.2.2 < 2 ^ 64) ∧ Sv K N H v d ∧ (∀ ds, d = .tuple ds → ds.length ≤ 200) ∧
  (startD n d = false → ∀ x H', Same H H' → H' x = some (.xd [("value", v)]) → E (.ref CT) (some x) H') ∧
  (∀ st, d = encSt st → stOk n st → ∀ H' t ps L, Same H H' → H' t = some (.tup (ps.map V.ref)) → MbT H' ps L → SumIs (addsP n st bks ts) L → Bown bks → Q (.ref t) H')
theorem ok_SmO {f fX C CB CP CT : Addr} {fd fdX : FuncData} {aE : Addr} (F : FunD K "sum_of" "sum_of" (defArgs sSmO) (defBody sSmO) (defScope sSmO) [V.ref aE] [] f fd) (B : Bt mg) (T : Pc K mg C) (TB : Bc K mg CB) (TP : Pzc K mg CP) (XSt : Xc K mg "InvalidStart" "value" CT) (XSti : PySem.W.findIn K (.ref CT) "__init__" = some (some (.ref fX))) (XStt : PySem.W.typeIn K (.ref fX) = some (.type "function")) (XStG : FnOk P w K mg base CX0 1 fX fdX ["self", "value"] (spXf K "value")) (XStb : Binds K fdX ["self", "value"] []) {fISt : Addr} {fdISt : FuncData} (GISt : FnOk P w K mg base CX0 5 fISt fdISt ["puzzle", "value"] (spISt K CP)) (kISt : PySem.W.keepIn K (.ref fISt) = true) (bISt : Binds K fdISt ["puzzle", "value"] []) (gISt : mg "is_start" = some (.ref fISt)) {fSOP : Addr} {fdSOP : FuncData} (GSOP : FnOk P w K mg base CX0 6 fSOP fdSOP ["price"] (spSOP C)) (kSOP : PySem.W.keepIn K (.ref fSOP) = true) (bSOP : Binds K fdSOP ["price"] []) (gSOP : mg "sum_of_price" = some (.ref fSOP)) {fLLe : Addr} {fdLLe : FuncData} (GLLe : FnOk P w K mg base CX0 3 fLLe fdLLe ["letters", "cells", "fixed"] (spLLe K)) (kLLe : PySem.W.keepIn K (.ref fLLe) = true) (bLLe : Binds K fdLLe ["letters", "cells", "fixed"] []) (gLLe : mg "_letters_left" = some (.ref fLLe)) {fAT : Addr} {fdAT : FuncData} (GAT : FnOk P w K mg base CX0 1 fAT fdAT ["numbers", "letters", "number"] spAT) (kAT : PySem.W.keepIn K (.ref fAT) = true) (bAT : Binds K fdAT ["numbers", "letters", "number"] []) (gAT : mg "add_to" = some (.ref fAT)) {fSFr : Addr} {fdSFr : FuncData} (GSFr : FnOk P w K mg base CX0 1 fSFr fdSFr ["numbers"] spSFr) (kSFr : PySem.W.keepIn K (.ref fSFr) = true) (bSFr : Binds K fdSFr ["numbers"] []) (gSFr : mg "sum_from" = some (.ref fSFr)) : FnOk P w K mg base (L2.CX P w) 7 f fd ["puzzle", "start"] (spSmO K C CB CP CT) := by
  refine F.ok (CX := L2.CX P w) scSmO (fun vs H Q E h => ?_) (fun cdv A outer s H vs Q E hr h => ?_)
  · obtain ⟨z, bks, n, ts, N, v, d, rfl, _⟩ := h
    rfl
  · obtain ⟨z, bks, n, ts, N, v, d, rfl, pz, l20, tb, sv, l200, qe, q⟩ := h
    obtain ⟨dx, b, t, as, hz, bk, ht0, ti, ok, lt⟩ := id pz
    refine ⟨_, (pss_cons (ps_if (pt_not (pt_val (pe_call GISt (hr.mono (by decide)) (by rfl) gISt kISt bISt .nil pass0 (pa_cons (pv 0) (pa_cons (pv 1) pa_nil)))))
      (pss_one (ps_raise rfl (takes_of rfl rfl rfl rfl) (pmk_oex (CX := CX0) XSt.o XSti XStt XStG (hr.mono (by decide)) XStb .nil pass0 (by rfl) XSt.g (pa_cons (pv 1) pa_nil)))) pss_nil)
      (pss_cons (ps_setDc (i := 2) (own := [("cell", 11), ("value", 12)]) (tt := tYes) rfl scSmO.nd rfl rfl (sw_dc rfl rfl rfl (by decide +kernel)) (pi_tup (pv 1)) (blkOk_by (N := NSmO) (sc := defScope sSmO) (by decide +kernel)) (fun _ _ _ _ _ => (pg_tupk (n := 2) K rfl rfl (pgs_cons (pg_name (i := 11) scSmO.nd rfl (.inl rfl)) (pgs_cons (pg_name (i := 12) scSmO.nd rfl (.inl rfl)) pgs_nil)))) (fun _ _ _ _ _ => pts_nil) (fun _ _ _ _ _ => (pv 11)) (fun _ _ _ _ _ => (pv 12)))
      (pss_cons (ps_setLc (i := 4) (own := [("price", 3)]) (g := gName 3) (tt := tYes) rfl scSmO.nd rfl rfl (sw_true rfl rfl rfl (by decide +kernel)) (pi_tup (pe_fld (pe_fld (pv 0) rfl) rfl)) (blkOk_by (N := NSmO) (sc := defScope sSmO) (by decide +kernel)) (fun _ _ _ _ _ => pg_name (i := 3) scSmO.nd rfl (Or.inl rfl)) (fun _ _ _ _ _ => pts_nil) (fun _ _ _ _ _ => (pe_call GSOP (hr.mono (by decide)) (by rfl) gSOP kSOP bSOP .nil pass0 (pa_cons (pv 3) pa_nil))))
      (pss_cons (ps_set (i := 5) scSmO.nd rfl (.inl rfl) pe_dnewT)
      (pss_cons (ps_for (passes_of rfl) rfl (pi_tup (pe_fld (pv 0) rfl)) (pg_tup (by rfl) (pgs_cons (pg_name (i := 3) scSmO.nd rfl (.inl rfl)) (pgs_cons (pg_name (i := 6) scSmO.nd rfl (.inl rfl)) (pgs_cons (pg_name (i := 7) scSmO.nd rfl (.inl rfl)) pgs_nil))))
      (pss_one (ps_for (passes_of rfl) rfl (pi_tup (pe_ix ix_list (pv 4) (pv 3) (fun _ _ => rfl))) (pg_tup (by rfl) (pgs_cons (pg_name (i := 8) scSmO.nd rfl (.inl rfl)) (pgs_cons (pg_name (i := 9) scSmO.nd rfl (.inl rfl)) pgs_nil)))
      (pss_cons (ps_set (i := 10) scSmO.nd rfl (.inl rfl) (pe_call GLLe (hr.mono (by decide)) (by rfl) gLLe kLLe bLLe .nil pass0 (pa_cons (pv 8) (pa_cons (pv 6) (pa_cons (pv 2) pa_nil)))))
      (pss_one (ps_if (pt_cmpR op_notN (pv 10) pe_non (nomark _))
      (pss_one (ps_expr (pe_call GAT (hr.mono (by decide)) (by rfl) gAT kAT bAT .nil pass0 (pa_cons (pv 5) (pa_cons (pv 10) (pa_cons (pe_op op_mul (pv 7) (pv 9)) pa_nil)))))) pss_nil))))))
      (pss_one (ps_ret (pe_call GSFr (hr.mono (by decide)) (by rfl) gSFr kSFr bSFr .nil pass0 (pa_cons (pv 5) pa_nil))))))))), ?_⟩
    refine q_seq (q_if ?_)
    refine ⟨.ref z, rfl, v, rfl, C, CB, z, bks, n, ts, N, v, d, rfl, pz, sv, l200, fun H1 s1 => ⟨_, rfl, ?_⟩⟩
    cases es : startD n d with
    | false => exact ⟨v, rfl, by show 1 ≤ 1000; decide, raise_end XSt.o XSt.no fun x H' s' nd hd => qe es x H' (s1.trans s') hd⟩
    | true =>
    obtain ⟨st, sa, so, ed⟩ := start_of sv es
    have q := q st ed so
    have lst : st.length ≤ 200 := by
      have := l200 _ ed
      rwa [List.length_map] at this
    refine q_next ?_
    dsimp only
    obtain ⟨sx, sps, rfl, hsx, pt⟩ := sa.same s1
    -- fixed
    refine q_seq (q_set ?_)
    refine ⟨.ref sx, rfl, sx, rfl, ⟨_, hsx⟩, fun F nF => ?_⟩
    refine fixed_dict (σ := L2.start NSmO [V.ref z, V.ref sx]) (i := 11) (j := 12) hsx pt lst nF (show 11 < 13 by decide) (show 12 < 13 by decide) (by decide) fun H2 s2 fx => ?_
    have s12 := s1.trans s2
    dsimp only
    -- by_price
    obtain ⟨dxb, tb0, ps, hb, hps, pa, b1, b6⟩ := bk.same s12
    have lp := paired_len pa
    refine q_seq (q_set ?_)
    refine ⟨.ref z, rfl, z, CP, dx, _, .ref b, rfl, s12 _ _ hz, TP.cl, TP.nB, zf_book _ _ _, b, CB, dxb, _, .ref tb0, rfl, hb, TB.cl, TB.nP, bk_fld, tb0, rfl, ⟨_, tl hps⟩, fun D nD => lc_tup (K := K) (a := tb0) (xs := ps.map V.ref) (fun i H' => Same H2 H' ∧ (∀ z ∈ bks.take i, z.1 ≤ 3 ∧ Own z.1 z.2 (ownOf z)) ∧ ∃ qs : List Addr, H' D = some (.lst (qs.map V.ref)) ∧ SmsAt H' qs (bks.take i)) ⟨same_upd nD, (fun _ m => nomatch m), [], upd_same, .nil⟩ (fun i H' _ hP => tl (hP.1 _ _ hps)) (fun i x H' hx hP => ?_) (fun H' hP => ?_)⟩
    · obtain ⟨s', bo, qs, hD, sm⟩ := hP
      have il : i < bks.length := by
        have := (List.getElem?_eq_some_iff.mp hx).1
        rw [List.length_map] at this
        omega
      obtain ⟨p, hp, pr⟩ := paired_get (PrsAt.same s' pa) (List.getElem?_eq_getElem il)
      rw [List.getElem?_map, hp] at hx
      obtain rfl : x = .ref p := (Option.some.inj hx).symm
      have hbk : bks[i]? = some bks[i] := List.getElem?_eq_getElem il
      generalize bks[i] = zz at pr hbk
      have k3 : zz.1 ≤ 3 := by
        obtain ⟨_, _, _, _, _, h3, _⟩ := pr
        exact h3
      refine ⟨rfl, .ref p, rfl, p, zz.1, zz.2, rfl, pr, fun H3 tt pps L s3 htt mb up nz okm ww => ?_⟩
      have own : Own zz.1 zz.2 L := ⟨okm, up, nz, ww⟩
      have eL := own_is k3 own
      have hD3 := s3 _ _ hD
      have lq := paired_len sm
      refine ⟨_, hD3, ?_, fun a o e => ?_, fun y hy => ?_, qs ++ [tt], ?_, ?_⟩
      · rw [List.length_map, lq, List.length_take]
        exact small1000 (by omega)
      · rw [upd_ne (ne_of_none e nD)]
        exact s3 _ _ (s' _ _ e)
      · rw [List.take_add_one, hbk] at hy
        rcases List.mem_append.mp hy with m | m
        · exact bo y m
        · rw [List.mem_singleton.mp (show y ∈ [zz] from m), eL]
          exact ⟨k3, own⟩
      · rw [upd_same, List.map_append]
        rfl
      · rw [List.take_add_one, hbk]
        exact paired_app (SmsAt.updL hD3 (sm.same s3)) (.cons (SmAt.updL hD3 ⟨pps, htt, by rw [eL]; exact mb⟩) .nil)
    obtain ⟨s3, bo, qs, hD, sm⟩ := hP
    rw [show (ps.map V.ref).length = bks.length by rw [List.length_map, lp], List.take_length] at bo sm
    have bo : Bown bks := bo
    have fx3 := fx.same s3
    have ht3 := rd_same (s12.trans s3) ht0
    have ti3 := ti.same (s12.trans s3)
    have hz3 := (s12.trans s3) _ _ hz
    have lqs := paired_len sm
    dsimp only
    -- numbers
    refine q_seq (q_set (fun d nd => ?_))
    have sd := same_upd (o := .dT []) nd
    have hd : (upd H' d (.dT [])) d = some (.dT (dV [])) := upd_same
    generalize upd H' d (.dT []) = H4 at sd hd ⊢
    dsimp only
    refine q_seq ?_
    refine ⟨.ref z, rfl, z, CP, dx, _, .ref t, rfl, sd _ _ hz3, TP.cl, TP.nT, zf_ties _ _ _, t, rfl, ⟨_, .inl (rd_same sd ht3)⟩, for_tup (K := K) (a := t) (xs := as.map V.ref) (fun i σ H5 => Same H' H5 ∧ H5 d = some (.dT (dV (accM [] (addsP n st bks (ts.take i))))) ∧ ∃ x3 x6 x7 x8 x9 x10 : Option V, σ = [some (.ref z), some (.ref sx), some (.ref F), x3, some (.ref D), some (.ref d), x6, x7, x8, x9, x10, none, none]) ⟨sd, hd, none, none, none, none, none, none, rfl⟩ (fun i σ H5 _ hP => .inl (rd_same hP.1 ht3)) (fun i x σ H5 hx hP => ?_) (fun σ H5 hP => ?_)⟩
    · obtain ⟨s5, hd5, x3, x6, x7, x8, x9, x10, rfl⟩ := hP
      obtain ⟨a, tie, rfl, het, ⟨c, hc1, hc2⟩⟩ := tis_at ti3 hx
      have mtie := List.mem_of_getElem? het
      obtain ⟨o1, o2, o3, o4⟩ := ok tie mtie
      have tb1 := tb tie mtie
      obtain ⟨k3, own⟩ := bo _ (bk_mem (ok tie mtie))
      have l8 := own_len k3 own
      have eb : bks[tie.1]? = some (bkI bks tie) := by
        unfold bkI
        rw [List.getD_eq_getElem?_getD, List.getElem?_eq_getElem o1]
        rfl
      obtain ⟨tp, htp, pps, htp0, mb⟩ := paired_get sm eb
      have htp1 := s5 _ _ htp0
      have inL := fun (q : List Nat × Int) (hq : q ∈ ownOf (bkI bks tie)) => below ⟨(bkI bks tie).1, by omega⟩ q.1 (own.ok.1 q hq)
      have in3 := fun (q : List Nat × Int) (hq : q ∈ ownOf (bkI bks tie)) => len3s ⟨(bkI bks tie).1, by omega⟩ q.1 (own.ok.1 q hq)
      have o2' : tie.2.1.length = (bkI bks tie).1 := o2
      have lad : (addsP n st bks (ts.take i)).length ≤ 8 * (ts.take i).length := adds_len bo fun x hx => ok x (List.mem_of_mem_take hx)
      have il : i < ts.length := (List.getElem?_eq_some_iff.mp het).1
      have lti : (ts.take i).length = i := by rw [List.length_take]; omega
      have ead : addsP n st bks (ts.take (i + 1)) = addsP n st bks (ts.take i) ++ addsT n st (ownOf (bkI bks tie)) tie := flat_take het
      generalize addsP n st bks (ts.take i) = A at hd5 lad ead
      generalize ownOf (bkI bks tie) = S at l8 mb inL in3 ead
      refine ⟨a, _, rfl, .inl (rd_same s5 hc1), rfl, _, _, rfl, _, _, rfl, _, _, rfl, rfl, ?_⟩
      dsimp only
      refine ⟨.ref D, rfl, .int tie.1, rfl, D, _, _, .ref tp, rfl, rfl, sl (s5 _ _ hD), at_z (j := tie.1) rfl (by rw [List.getElem?_map, htp]; rfl), tp, rfl, ⟨_, tl htp1⟩, for_tup (K := K) (a := tp) (xs := pps.map V.ref) (fun j σ H6 => Same H' H6 ∧ H6 d = some (.dT (dV (accM [] (A ++ addsT n st (S.take j) tie)))) ∧ ∃ x8 x9 x10 : Option V, σ = [some (.ref z), some (.ref sx), some (.ref F), some (.int tie.1), some (.ref D), some (.ref d), some (.ref c), some (.int tie.2.2), x8, x9, x10, none, none]) ⟨s5, by rw [List.take_zero, addsT_nil, List.append_nil]; exact hd5, x8, x9, x10, rfl⟩ (fun j σ H6 _ hP => ?_) (fun j x σ H6 hx6 hP => ?_) (fun σ H6 hP => ?_)⟩
      · exact tl (hP.1 _ _ htp0)
      · obtain ⟨s6, hd6, x8, x9, x10, rfl⟩ := hP
        obtain ⟨p, qq, bq, rfl, hq, hp, hbq⟩ := mbt_at (mb.same s6) hx6
        have q3 := in3 qq (List.mem_of_getElem? hq)
        have qb := inL qq (List.mem_of_getElem? hq)
        have eat := addsT_take (n := n) (st := st) (t := tie) hq
        have la := accM_len (m := []) (L := A ++ addsT n st (S.take j) tie)
        have la2 := addsT_len (n := n) (st := st) (S := S.take j) (t := tie)
        rw [List.length_nil, Nat.zero_add, List.length_append] at la
        rw [List.length_take] at la2
        obtain ⟨l, nn⟩ := qq
        simp only at q3 qb eat hp hbq
        refine ⟨p, _, rfl, tl hp, rfl, _, _, rfl, _, _, rfl, rfl, ?_⟩
        dsimp only
        refine q_seq (q_set ?_)
        refine ⟨.ref bq, rfl, .ref c, rfl, .ref F, rfl, bq, c, F, l, tie.2.1, st, n, rfl, tl hbq, rd_same s6 hc2, (fun x hx => by have := qb x hx; omega), q3, o3, fx3.same s6, fun eo H7 s7 => ?_, fun eo H7 tl7 s7 htl => ?_⟩
        · rw [if_neg (by rw [eo]; decide), List.append_nil] at eat
          dsimp only
          refine q_if ?_
          refine ⟨.non, rfl, rfl, _, rfl, ?_⟩
          rw [decide_eq_true (rfl : V.non = V.non)]
          refine q_next ?_
          refine ⟨s6.trans s7, ?_, some (.ref bq), some (.int nn), some .non, rfl⟩
          rw [eat]
          exact s7 _ _ hd6
        · rw [if_pos eo] at eat
          dsimp only
          refine q_if ?_
          refine ⟨.ref tl7, rfl, rfl, _, rfl, ?_⟩
          rw [decide_eq_false (show V.ref tl7 ≠ V.non by intro z; cases z)]
          refine ⟨.ref d, rfl, .ref tl7, rfl, .int tie.2.2, rfl, .int nn, rfl, _, _, rfl, rfl, .inl ⟨by omega, by omega⟩, d, tl7, _, leftM n st (cellsOf tie.2.1 l), _, rfl, s7 _ _ hd6, by rw [kV_kI]; exact htl, by omega, ?_⟩
          refine ⟨fun b o e => ?_, ?_, some (.ref bq), some (.int nn), some (.ref tl7), rfl⟩
          · rw [upd_ne (ne_of_none e nd)]
            exact s7 _ _ (s6 _ _ e)
          · rw [upd_same, eat, ← List.append_assoc, accM_app (A := A ++ _)]
            rfl
      · obtain ⟨s6, hd6, x8, x9, x10, rfl⟩ := hP
        rw [List.length_map, paired_len mb, List.take_length, ← ead] at hd6
        exact ⟨s6, hd6, _, _, _, _, _, _, rfl⟩
    · obtain ⟨s5, hd5, x3, x6, x7, x8, x9, x10, rfl⟩ := hP
      rw [List.length_map, paired_len ti, List.take_length] at hd5
      have lad : (addsP n st bks ts).length ≤ 8 * ts.length := adds_len bo ok
      have la := accM_len (m := []) (L := addsP n st bks ts)
      rw [List.length_nil, Nat.zero_add] at la
      dsimp only
      refine q_ret ?_
      refine ⟨.ref d, rfl, d, _, rfl, hd5, by omega, acc_nd, fun H6 tr pr L s6 htr mb up mem lL => ?_⟩
      exact q H6 tr pr L (s12.trans (s3.trans (s5.trans s6))) htr mb (sum_is1 up mem) bo
end
end CP

namespace CP
open PySem PySem.Spec PyProof.Rows L2 Ek CC CS
/-! ### the worths of all rows at once -/
def chkA : Bool := (List.range 256).all fun i => (List.range 8).all fun p => (decide (Builtin.bitAnd (i : Nat) ((1 : Int) * 2 ^ p) = 0) == !i.testBit p) && (!i.testBit p || (decide (Builtin.bitXor (i : Nat) ((1 : Int) * 2 ^ p) = ((i - 2 ^ p : Nat) : Int)) && (decide (2 ^ p ≤ i) && (List.range 8).all fun q => (i - 2 ^ p).testBit q == (i.testBit q && decide (q ≠ p)))))
theorem chkA_ok : chkA = true := by decide +kernel
theorem bit_and {i p : Nat} (hi : i < 256) (hp : p < 8) : decide (Builtin.bitAnd (i : Nat) ((1 : Int) * 2 ^ p) = 0) = !i.testBit p := by
  have a := List.all_eq_true.mp (List.all_eq_true.mp chkA_ok i (List.mem_range.mpr hi)) p (List.mem_range.mpr hp)
  rw [Bool.and_eq_true] at a
  exact eq_of_beq a.1
theorem bit_set {i p : Nat} (hi : i < 256) (hp : p < 8) (h : i.testBit p = true) : Builtin.bitXor (i : Nat) ((1 : Int) * 2 ^ p) = ((i - 2 ^ p : Nat) : Int) ∧ 2 ^ p ≤ i ∧ ∀ q, q < 8 → (i - 2 ^ p).testBit q = (i.testBit q && decide (q ≠ p)) := by
  have a := List.all_eq_true.mp (List.all_eq_true.mp chkA_ok i (List.mem_range.mpr hi)) p (List.mem_range.mpr hp)
  rw [h, Bool.and_eq_true] at a
  have b := a.2
  simp only [Bool.not_true, Bool.false_or, Bool.and_eq_true, decide_eq_true_iff] at b
  exact ⟨b.1, b.2.1, fun q hq => eq_of_beq (List.all_eq_true.mp b.2.2 q (List.mem_range.mpr hq))⟩
/-- the letter of a place -/
abbrev letP (fs : List Nat) (q : Nat) : Nat := fs.getD (fs.length - 1 - q) 0
def code (fs S : List Nat) : Nat := (S.map fun x => 2 ^ (fs.length - 1 - fs.idxOf x)).sum
theorem code_nil {S : List Nat} (h : ∀ x ∈ S, x ∈ ([] : List Nat)) : code [] S = 0 := by
  cases S with
  | nil => rfl
  | cons x S => cases h x List.mem_cons_self
theorem code_snoc {fs : List Nat} {y : Nat} (ny : y ∉ fs) : ∀ {S : List Nat}, S.Nodup → (∀ x ∈ S, x ∈ fs ++ [y]) → code (fs ++ [y]) S = 2 * code fs (S.filter fun x => decide (x ≠ y)) + if y ∈ S then 1 else 0
  | [], _, _ => rfl
  | x :: S, nd, h => by
    obtain ⟨nx, nd⟩ := List.nodup_cons.mp nd
    have ih := code_snoc ny (S := S) nd fun z hz => h z (List.mem_cons_of_mem _ hz)
    have e1 : code (fs ++ [y]) (x :: S) = 2 ^ ((fs ++ [y]).length - 1 - (fs ++ [y]).idxOf x) + code (fs ++ [y]) S := rfl
    rw [e1, ih, List.length_append, List.length_singleton]
    by_cases c : x = y
    · subst c
      rw [List.filter_cons_of_neg (by simp), if_neg nx, if_pos List.mem_cons_self, List.idxOf_append, if_neg ny, List.idxOf_cons_self]
      simp only [Nat.add_sub_cancel, Nat.zero_add, Nat.sub_self, Nat.add_zero]
      omega
    · have mx : x ∈ fs := by
        rcases List.mem_append.mp (h x List.mem_cons_self) with m | m
        · exact m
        · exact absurd (List.mem_singleton.mp m) c
      have lt := List.idxOf_lt_length_of_mem mx
      have e2 : code fs (x :: S.filter fun x => decide (x ≠ y)) = 2 ^ (fs.length - 1 - fs.idxOf x) + code fs (S.filter fun x => decide (x ≠ y)) := rfl
      have e3 : (y ∈ x :: S) = (y ∈ S) := propext ⟨fun m => (List.mem_cons.mp m).elim (fun e => absurd e.symm c) id, List.mem_cons_of_mem _⟩
      rw [List.filter_cons_of_pos (by simpa using c), e2, List.idxOf_append, if_pos mx]
      simp only [e3]
      have e4 : fs.length + 1 - 1 - fs.idxOf x = (fs.length - 1 - fs.idxOf x) + 1 := by omega
      rw [e4, Nat.pow_succ]
      omega
theorem list_snoc {α : Type} : ∀ {l : List α}, l ≠ [] → ∃ a x, l = a ++ [x]
  | l, h => ⟨l.dropLast, l.getLast h, (List.dropLast_concat_getLast h).symm⟩
theorem code_bits : ∀ (n : Nat) {fs S : List Nat}, fs.length = n → fs.Nodup → S.Nodup → (∀ x ∈ S, x ∈ fs) → code fs S < 2 ^ n ∧ ∀ q, q < n → (code fs S).testBit q = decide (letP fs q ∈ S)
  | 0, fs, S, l, _, _, h => by
    obtain rfl : fs = [] := List.length_eq_zero_iff.mp l
    rw [code_nil h]
    exact ⟨by decide, fun q hq => absurd hq (Nat.not_lt_zero _)⟩
  | n + 1, fs, S, l, nf, ns, h => by
    obtain ⟨gs, y, rfl⟩ := list_snoc (l := fs) (fun e => by rw [e] at l; cases l)
    rw [List.length_append, List.length_singleton] at l
    have lg : gs.length = n := by omega
    have nd := List.nodup_append.mp nf
    have ny : y ∉ gs := fun m => nd.2.2 y m y (List.mem_singleton.mpr rfl) rfl
    have hS : ∀ x ∈ S.filter (fun x => decide (x ≠ y)), x ∈ gs := fun x hx => by
      obtain ⟨h1, h2⟩ := List.mem_filter.mp hx
      rcases List.mem_append.mp (h x h1) with m | m
      · exact m
      · exact absurd (List.mem_singleton.mp m) (by simpa using h2)
    obtain ⟨i1, i2⟩ := code_bits n lg nd.1 (ns.filter _) hS
    rw [code_snoc ny ns h]
    have p2 : 2 ^ (n + 1) = 2 * 2 ^ n := by rw [Nat.pow_succ]; omega
    have hb : (if y ∈ S then 1 else 0) ≤ 1 := by split <;> omega
    refine ⟨by omega, fun q hq => ?_⟩
    cases q with
    | zero =>
      have e : letP (gs ++ [y]) 0 = y := by
        unfold letP
        rw [List.length_append, List.length_singleton, List.getD_eq_getElem?_getD, show gs.length + 1 - 1 - 0 = gs.length by omega, List.getElem?_append_right (Nat.le_refl _), Nat.sub_self]
        rfl
      rw [e, Nat.testBit_zero]
      by_cases c : y ∈ S
      · rw [if_pos c, decide_eq_true c]
        exact decide_eq_true (by omega)
      · rw [if_neg c, decide_eq_false c]
        exact decide_eq_false (by omega)
    | succ q =>
      have e : letP (gs ++ [y]) (q + 1) = letP gs q := by
        unfold letP
        rw [List.length_append, List.length_singleton, List.getD_eq_getElem?_getD, List.getD_eq_getElem?_getD, show gs.length + 1 - 1 - (q + 1) = gs.length - 1 - q by omega, List.getElem?_append_left (by omega)]
      have nq : letP gs q ≠ y := fun z => by
        have hlt : gs.length - 1 - q < gs.length := by omega
        have e2 : letP gs q = gs[gs.length - 1 - q] := by
          unfold letP
          rw [List.getD_eq_getElem?_getD, List.getElem?_eq_getElem hlt]
          rfl
        exact ny (by rw [← z, e2]; exact List.getElem_mem _)
      rw [e, Nat.testBit_succ, show (2 * code gs (S.filter fun x => decide (x ≠ y)) + if y ∈ S then 1 else 0) / 2 = code gs (S.filter fun x => decide (x ≠ y)) by omega, i2 q (by omega), decide_eq_decide, List.mem_filter]
      exact ⟨fun m => m.1, fun m => ⟨m, by simpa using nq⟩⟩
/-- a member that agrees with a row, the first places of it only as a part -/
def agr (fs : List Nat) (p i : Nat) (S : List Nat) : Bool := (List.range fs.length).all fun q => if q < p then !decide (letP fs q ∈ S) || i.testBit q else decide (letP fs q ∈ S) == i.testBit q
theorem agr_iff {fs : List Nat} {p i : Nat} {S : List Nat} : agr fs p i S = true ↔ ∀ q, q < fs.length → if q < p then (letP fs q ∈ S → i.testBit q = true) else decide (letP fs q ∈ S) = i.testBit q := by
  unfold agr
  rw [List.all_eq_true]
  refine ⟨fun h q hq => ?_, fun h q hq => ?_⟩
  · have z := h q (List.mem_range.mpr hq)
    split at z
    · rename_i c
      rw [if_pos c]
      intro m
      rw [decide_eq_true m] at z
      simpa using z
    · rename_i c
      rw [if_neg c]
      exact eq_of_beq z
  · have z := h q (List.mem_range.mp hq)
    split
    · rename_i c
      rw [if_pos c] at z
      by_cases m : letP fs q ∈ S
      · rw [z m]; simp
      · rw [decide_eq_false m]; rfl
    · rename_i c
      rw [if_neg c] at z
      rw [z]
      exact beq_self_eq_true _
theorem agr0 {fs S : List Nat} {i : Nat} (nf : fs.Nodup) (ns : S.Nodup) (h : ∀ x ∈ S, x ∈ fs) (hi : i < 2 ^ fs.length) : agr fs 0 i S = decide (code fs S = i) := by
  obtain ⟨c1, c2⟩ := code_bits fs.length rfl nf ns h
  rw [Bool.eq_iff_iff, agr_iff, decide_eq_true_iff]
  constructor
  · intro a
    refine Nat.eq_of_testBit_eq fun q => ?_
    by_cases hq : q < fs.length
    · have z := a q hq
      rw [if_neg (Nat.not_lt_zero _)] at z
      rw [c2 q hq, z]
    · rw [Nat.testBit_lt_two_pow (Nat.lt_of_lt_of_le c1 (Nat.pow_le_pow_right (by decide) (by omega))), Nat.testBit_lt_two_pow (Nat.lt_of_lt_of_le hi (Nat.pow_le_pow_right (by decide) (by omega)))]
  · rintro rfl q hq
    rw [if_neg (Nat.not_lt_zero _), c2 q hq]
theorem agr_clear {fs S : List Nat} {p i : Nat} (hp : p < fs.length) (h : i.testBit p = false) : agr fs (p + 1) i S = agr fs p i S := by
  rw [Bool.eq_iff_iff, agr_iff, agr_iff]
  refine forall_congr' fun q => forall_congr' fun hq => ?_
  by_cases c : q = p
  · subst c
    rw [if_pos (Nat.lt_succ_self _), if_neg (Nat.lt_irrefl _), h]
    by_cases m : letP fs q ∈ S <;> simp [m]
  · by_cases d : q < p
    · rw [if_pos d, if_pos (by omega)]
    · rw [if_neg d, if_neg (by omega)]
theorem agr_set {fs S : List Nat} {p i : Nat} (n8 : fs.length ≤ 8) (hi : i < 256) (hp : p < fs.length) (h : i.testBit p = true) : (if agr fs (p + 1) i S = true then (1 : Int) else 0) = (if agr fs p i S = true then 1 else 0) + if agr fs p (i - 2 ^ p) S = true then 1 else 0 := by
  obtain ⟨_, _, b⟩ := bit_set hi (show p < 8 by omega) h
  have rest : ∀ (u : Bool), (agr fs p (if u then i else i - 2 ^ p) S = true ↔ agr fs (p + 1) i S = true ∧ decide (letP fs p ∈ S) = u) := fun u => by
    rw [agr_iff, agr_iff]
    constructor
    · intro a
      refine ⟨fun q hq => ?_, ?_⟩
      · have z := a q hq
        by_cases c : q = p
        · subst c
          rw [if_pos (Nat.lt_succ_self _)]
          exact fun _ => h
        · have eb : (if u = true then i else i - 2 ^ p).testBit q = i.testBit q := by
            cases u with
            | true => rfl
            | false =>
              show (i - 2 ^ p).testBit q = _
              rw [b q (by omega), decide_eq_true c, Bool.and_true]
          rw [eb] at z
          by_cases d : q < p
          · rw [if_pos d] at z; rw [if_pos (by omega)]; exact z
          · rw [if_neg d] at z; rw [if_neg (by omega)]; exact z
      · have z := a p hp
        rw [if_neg (Nat.lt_irrefl _)] at z
        rw [z]
        cases u with
        | true => exact h
        | false =>
          show (i - 2 ^ p).testBit p = false
          rw [b p (by omega)]
          simp
    · rintro ⟨a, eu⟩ q hq
      have z := a q hq
      by_cases c : q = p
      · subst c
        rw [if_neg (Nat.lt_irrefl _), eu]
        cases u with
        | true => exact h.symm
        | false =>
          show false = (i - 2 ^ q).testBit q
          rw [b q (by omega)]
          simp
      · have eb : (if u = true then i else i - 2 ^ p).testBit q = i.testBit q := by
          cases u with
          | true => rfl
          | false =>
            show (i - 2 ^ p).testBit q = _
            rw [b q (by omega), decide_eq_true c, Bool.and_true]
        rw [eb]
        by_cases d : q < p
        · rw [if_pos (by omega)] at z; rw [if_pos d]; exact z
        · rw [if_neg (by omega)] at z; rw [if_neg d]; exact z
  have r1 : agr fs p i S = true ↔ agr fs (p + 1) i S = true ∧ decide (letP fs p ∈ S) = true := rest true
  have r0 : agr fs p (i - 2 ^ p) S = true ↔ agr fs (p + 1) i S = true ∧ decide (letP fs p ∈ S) = false := rest false
  by_cases a : agr fs (p + 1) i S = true
  · by_cases m : letP fs p ∈ S
    · rw [if_pos a, if_pos (r1.mpr ⟨a, decide_eq_true m⟩), if_neg fun z => by have e := (r0.mp z).2; rw [decide_eq_true m] at e; cases e]
      rfl
    · rw [if_pos a, if_neg fun z => absurd (of_decide_eq_true (r1.mp z).2) m, if_pos (r0.mpr ⟨a, decide_eq_false m⟩)]
      rfl
  · rw [if_neg a, if_neg fun z => a (r1.mp z).1, if_neg fun z => a (r0.mp z).1]
    rfl
/-- what stands at a row after some places -/
def wB (fs : List Nat) (M : Mp) (p i : Nat) : Int := linF (fun S => if agr fs p i S = true then 1 else 0) M
theorem wB_clear {fs : List Nat} {M : Mp} {p i : Nat} (hp : p < fs.length) (h : i.testBit p = false) : wB fs M (p + 1) i = wB fs M p i := by
  unfold wB
  congr 1
  funext S
  rw [agr_clear hp h]
theorem wB_set {fs : List Nat} {M : Mp} {p i : Nat} (n8 : fs.length ≤ 8) (hi : i < 256) (hp : p < fs.length) (h : i.testBit p = true) : wB fs M (p + 1) i = wB fs M p i + wB fs M p (i - 2 ^ p) := by
  unfold wB
  induction M with
  | nil => rfl
  | cons q M ih =>
    rw [lin_cons, lin_cons, lin_cons, ih, agr_set n8 hi hp h, Int.mul_add]
    omega
end CP

namespace CP
open PySem PySem.Spec PyProof.Rows L2 Ek CC CS
theorem dc_enumR {K : PySem.W.Frag} {a : Addr} {xs : List V} {g : TG} {tt : TT} {tk tv : TE} {vs : List Nat} {σ : L2.St} {H1 : Hp} {D : Addr} {Qd : Hp → Prop} (Pv : Nat → Hp → Prop) (h0 : Pv 0 (upd H1 D (.dK []))) (hl : ∀ i H, i ≤ xs.length → Pv i H → SqT K H a xs)
    (hs : ∀ i x H T, i < xs.length → xs[xs.length - 1 - i]? = some x → Pv i H → H T = none → g (.ref T) (wipe σ vs) (upd H T (.tup [.int (i : Nat), x])) fun σ2 H2 => wipe σ2 vs = wipe σ vs ∧ tt σ2 H2 fun b H3 =>
      if b = true then tk σ2 H3 fun y H4 => tv σ2 H4 fun z H5 => ∃ kvs k, y = kV k ∧ H5 D = some (.dK kvs) ∧ kvs.length < sizeLine ∧ Pv (i + 1) (upd H5 D (.dK (putK kvs k z))) else Pv (i + 1) H3) (hd : ∀ H, Pv xs.length H → Qd H) :
    ∃ W : Nat → Nat → Hp → Prop, (∃ m, W 0 m (upd H1 D (.dK []))) ∧ ∀ i m H, W i m H →
      ((IteR K a xs.length).stop i H ∧ Qd H) ∨ ((IteR K a xs.length).go i H ∧ ∃ Nx : Hp → Prop, (∀ H', Nx H' → ∃ m', m' < m ∧ W (i + 1) m' H') ∧ ∀ x H', (IteR K a xs.length).yld i H x H' → g x (wipe σ vs) H' fun σ2 H2 => wipe σ2 vs = wipe σ vs ∧ tt σ2 H2 fun b H3 =>
        if b = true then tk σ2 H3 fun y H4 => tv σ2 H4 fun z H5 => ∃ kvs k, y = kV k ∧ H5 D = some (.dK kvs) ∧ kvs.length < sizeLine ∧ Nx (upd H5 D (.dK (putK kvs k z))) else Nx H3) := by
  refine ⟨fun i m H => i + m = xs.length ∧ Pv i H, ⟨xs.length, by omega, h0⟩, fun i m H ⟨em, p⟩ => ?_⟩
  have q1 := hl i H (by omega) p
  by_cases lt : i < xs.length
  · have hx : xs[xs.length - 1 - i]? = some xs[xs.length - 1 - i] := List.getElem?_eq_getElem (by omega)
    refine .inr ⟨⟨xs, _, q1, rfl, lt, hx⟩, Pv (i + 1), fun H' p' => ⟨m - 1, by omega, by omega, p'⟩, fun x H' y => ?_⟩
    obtain ⟨T, x1, rfl, nT, rfl, gx⟩ := y
    exact hs i x1 H T lt (gx xs q1) p nT
  · obtain rfl : i = xs.length := by omega
    exact .inl ⟨⟨xs, q1, rfl, rfl⟩, hd H p⟩
/-- the bits of the letters -/
def bitK (fs : List Nat) (i : Nat) : List (L2.Key × V) := (List.range i).map fun p => ((Sum.inl ((letP fs p : Nat) : Int) : L2.Key), V.int ((2 ^ p : Nat) : Int))
theorem letP_at {fs : List Nat} {q : Nat} (h : q < fs.length) : fs[fs.length - 1 - q]? = some (letP fs q) := by
  have hlt : fs.length - 1 - q < fs.length := by omega
  unfold letP
  rw [List.getD_eq_getElem?_getD, List.getElem?_eq_getElem hlt]
  rfl
theorem letP_inj {fs : List Nat} (nf : fs.Nodup) {p q : Nat} (hp : p < fs.length) (hq : q < fs.length) (e : letP fs p = letP fs q) : p = q := by
  have a := letP_at hp
  have b := letP_at hq
  rw [e] at a
  obtain ⟨h1, e1⟩ := List.getElem?_eq_some_iff.mp a
  obtain ⟨h2, e2⟩ := List.getElem?_eq_some_iff.mp b
  have ee := e1.trans e2.symm
  rcases Nat.lt_trichotomy (fs.length - 1 - p) (fs.length - 1 - q) with c | c | c
  · exact absurd ee (List.pairwise_iff_getElem.mp nf _ _ h1 h2 c)
  · omega
  · exact absurd ee.symm (List.pairwise_iff_getElem.mp nf _ _ h2 h1 c)
theorem bit_put {fs : List Nat} (nf : fs.Nodup) {i : Nat} (hi : i < fs.length) : putK (bitK fs i) (Sum.inl ((letP fs i : Nat) : Int) : L2.Key) (V.int ((2 ^ i : Nat) : Int)) = bitK fs (i + 1) := by
  unfold putK
  have e : ((bitK fs i).any fun kv => decide (kv.1 = (Sum.inl ((letP fs i : Nat) : Int) : L2.Key))) = false := by
    rw [List.any_eq_false]
    intro kv m
    obtain ⟨p, hp, rfl⟩ := List.mem_map.mp m
    have hp' := List.mem_range.mp hp
    intro z
    have z2 := Sum.inl.inj (of_decide_eq_true z)
    have := letP_inj nf (show p < fs.length by omega) hi (by omega)
    omega
  rw [e, if_neg (by decide)]
  unfold bitK
  rw [List.range_succ, List.map_append]
  rfl
theorem bit_get {fs : List Nat} (nf : fs.Nodup) {q : Nat} : ∀ {i : Nat}, q < i → i ≤ fs.length → valV (bitK fs i) (Sum.inl ((letP fs q : Nat) : Int)) = some (V.int ((2 ^ q : Nat) : Int))
  | 0, h, _ => absurd h (Nat.not_lt_zero _)
  | i + 1, h, hi => by
    rw [← bit_put nf (show i < fs.length by omega), valV_put]
    by_cases c : q = i
    · rw [if_pos (by rw [c]), c]
    · rw [if_neg fun z => c (letP_inj nf (by omega) (by omega) (by have := Sum.inl.inj z; omega)), bit_get nf (by omega) (by omega)]
theorem letP_idx {fs : List Nat} {x : Nat} (h : x ∈ fs) : fs.length - 1 - fs.idxOf x < fs.length ∧ letP fs (fs.length - 1 - fs.idxOf x) = x := by
  have lt := List.idxOf_lt_length_of_mem h
  refine ⟨by omega, ?_⟩
  unfold letP
  rw [show fs.length - 1 - (fs.length - 1 - fs.idxOf x) = fs.idxOf x by omega, List.getD_eq_getElem?_getD, List.getElem?_eq_getElem lt]
  exact List.getElem_idxOf lt
/-- the list of all rows after some places, the rows before j of one place more -/
def mid (fs : List Nat) (M : Mp) (p j : Nat) : List Int := (List.range (2 ^ fs.length)).map fun i => if i < j then wB fs M (p + 1) i else wB fs M p i
theorem mid_len {fs : List Nat} {M : Mp} {p j : Nat} : (mid fs M p j).length = 2 ^ fs.length := by rw [mid, List.length_map, List.length_range]
theorem mid_at {fs : List Nat} {M : Mp} {p j i : Nat} (hi : i < 2 ^ fs.length) : (mid fs M p j)[i]? = some (if i < j then wB fs M (p + 1) i else wB fs M p i) := by
  rw [mid, List.getElem?_map, List.getElem?_range hi]
  rfl
theorem mid_next {fs : List Nat} {M : Mp} {p j : Nat} (hj : j < 2 ^ fs.length) : (mid fs M p j).set j (wB fs M (p + 1) j) = mid fs M p (j + 1) := by
  refine List.ext_getElem? fun i => ?_
  rw [List.getElem?_set, mid_len]
  by_cases hi : i < 2 ^ fs.length
  · rw [mid_at hi, mid_at hi]
    by_cases c : j = i
    · subst c
      rw [if_pos rfl, if_pos hj, if_pos (Nat.lt_succ_self _)]
    · rw [if_neg c]
      by_cases d : i < j
      · rw [if_pos d, if_pos (by omega)]
      · rw [if_neg d, if_neg (by omega)]
  · by_cases c : j = i
    · omega
    · rw [if_neg c, List.getElem?_eq_none (by rw [mid_len]; omega), List.getElem?_eq_none (by rw [mid_len]; omega)]
theorem mid_same {fs : List Nat} {M : Mp} {p j : Nat} (hp : p < fs.length) (h : j.testBit p = false) : mid fs M p (j + 1) = mid fs M p j := by
  unfold mid
  refine List.map_congr_left fun i _ => ?_
  by_cases c : i = j
  · subst c
    rw [if_pos (Nat.lt_succ_self _), if_neg (Nat.lt_irrefl _), wB_clear hp h]
  · by_cases d : i < j
    · rw [if_pos d, if_pos (by omega)]
    · rw [if_neg d, if_neg (by omega)]
theorem mid_end {fs : List Nat} {M : Mp} {p : Nat} : mid fs M p (2 ^ fs.length) = mid fs M (p + 1) 0 := by
  unfold mid
  refine List.map_congr_left fun i hi => ?_
  rw [if_pos (List.mem_range.mp hi), if_neg (Nat.not_lt_zero _)]
/-- the numbers of the members, each at its own row -/
def ini (fs : List Nat) (M : Mp) : List Int := (List.range (2 ^ fs.length)).map fun i => linF (fun S => if code fs S = i then 1 else 0) M
theorem ini_nil {fs : List Nat} : ini fs [] = List.replicate (2 ^ fs.length) 0 := by
  unfold ini
  rw [show (fun i => linF (fun S => if code fs S = i then (1 : Int) else 0) []) = fun _ => (0 : Int) from rfl, List.map_const', List.length_range]
theorem ini_at {fs : List Nat} {M : Mp} {i : Nat} (hi : i < 2 ^ fs.length) : (ini fs M)[i]? = some (linF (fun S => if code fs S = i then 1 else 0) M) := by
  rw [ini, List.getElem?_map, List.getElem?_range hi]
  rfl
theorem ini_add {fs : List Nat} {M : Mp} {q : List Nat × Int} (hc : code fs q.1 < 2 ^ fs.length) : (ini fs M).set (code fs q.1) (linF (fun S => if code fs S = code fs q.1 then 1 else 0) M + q.2) = ini fs (M ++ [q]) := by
  refine List.ext_getElem? fun i => ?_
  have li : (ini fs M).length = 2 ^ fs.length := by rw [ini, List.length_map, List.length_range]
  have ll : (ini fs (M ++ [q])).length = 2 ^ fs.length := by rw [ini, List.length_map, List.length_range]
  have one : ∀ (f : List Nat → Int), linF f [q] = q.2 * f q.1 := fun f => by rw [lin_cons]; show _ + 0 = _; omega
  rw [List.getElem?_set, li]
  by_cases hi : i < 2 ^ fs.length
  · rw [ini_at hi, ini_at hi, lin_app, one]
    by_cases c : code fs q.1 = i
    · subst c
      rw [if_pos rfl, if_pos hc, if_pos rfl, Int.mul_one]
    · rw [if_neg c, if_neg c, Int.mul_zero, Int.add_zero]
  · by_cases c : code fs q.1 = i
    · omega
    · rw [if_neg c, List.getElem?_eq_none (by omega), List.getElem?_eq_none (by omega)]
theorem ini_mid {fs : List Nat} {M : Mp} (nf : fs.Nodup) (h : ∀ q ∈ M, q.1.Nodup ∧ ∀ x ∈ q.1, x ∈ fs) : ini fs M = mid fs M 0 0 := by
  unfold ini mid
  refine List.map_congr_left fun i hi => ?_
  rw [if_neg (Nat.not_lt_zero _)]
  unfold wB linF
  congr 1
  refine List.map_congr_left fun q hq => ?_
  obtain ⟨h1, h2⟩ := h q hq
  show q.2 * (if code fs q.1 = i then (1 : Int) else 0) = q.2 * (if agr fs 0 i q.1 = true then (1 : Int) else 0)
  rw [agr0 nf h1 h2 (List.mem_range.mp hi)]
  by_cases c : code fs q.1 = i
  · rw [if_pos c, if_pos (decide_eq_true c)]
  · rw [if_neg c, if_neg (by simpa using c)]
end CP

namespace CP
open PySem PySem.Spec PyProof.Rows L2 Ek CC CS
theorem pow_i {i : Nat} : (1 : Int) * 2 ^ ((i : Int).toNat) = ((2 ^ i : Nat) : Int) := by
  rw [Int.toNat_natCast, Int.one_mul]
  exact (Int.natCast_pow 2 i).symm
theorem sum_cast {l : List Nat} : (l.map fun (n : Nat) => (n : Int)).sum = ((l.sum : Nat) : Int) := by
  induction l with
  | nil => rfl
  | cons x l ih => rw [List.map_cons, List.sum_cons, List.sum_cons, ih]; omega
theorem ixN_nat {n j : Nat} (h : j < n) : ixN n (j : Int) = some j := by
  unfold ixN
  rw [if_pos (by omega), if_pos (by omega), Int.toNat_natCast]
theorem pow256 {n : Nat} (h : n ≤ 8) : 2 ^ n ≤ 256 := Nat.le_trans (Nat.pow_le_pow_right (by decide) h) (by decide)
theorem bit_x {fs : List Nat} (nf : fs.Nodup) {x : Nat} (h : x ∈ fs) : valV (bitK fs fs.length) (Sum.inl ((x : Nat) : Int)) = some (V.int ((2 ^ (fs.length - 1 - fs.idxOf x) : Nat) : Int)) := by
  obtain ⟨h1, h2⟩ := letP_idx h
  have z := bit_get nf h1 (Nat.le_refl _)
  rw [h2] at z
  exact z
theorem bit_and2 {i p : Nat} (hi : i < 256) (hp : p < 8) : decide (V.int (Builtin.bitAnd ((0 : Int) + (i : Nat)) ((2 ^ p : Nat) : Int)) = V.int 0) = !i.testBit p := by
  rw [CS.dInt, ← bit_and hi hp, Int.zero_add, ← pow_i, Int.toNat_natCast]
theorem bit_xor2 {i p : Nat} (hi : i < 256) (hp : p < 8) (h : i.testBit p = true) : Builtin.bitXor ((0 : Int) + (i : Nat)) ((2 ^ p : Nat) : Int) = ((i - 2 ^ p : Nat) : Int) := by
  rw [Int.zero_add, ← pow_i, Int.toNat_natCast]
  exact (bit_set hi hp h).1
theorem mid_all {fs : List Nat} {M : Mp} {p : Nat} : mid fs M p 0 = (List.range (2 ^ fs.length)).map (wB fs M p) := by
  unfold mid
  refine List.map_congr_left fun i _ => ?_
  rw [if_neg (Nat.not_lt_zero _)]
section
variable {P : Program} {w : World} {K : PySem.W.Frag} {mg : Str → Option Value} {base : Heap}
def spWrs (K : PySem.W.Frag) : Sp := fun vs H Q _ => ∃ (t l : Addr) (ps : List Addr) (M : Mp) (fs : List Nat), vs = [.ref t, .ref l] ∧ SqT K H t (ps.map V.ref) ∧ MbT H ps M ∧ SqT K H l (lV fs) ∧ fs.Nodup ∧ fs.length ≤ 8 ∧ (∀ q ∈ M, q.1.Nodup ∧ ∀ x ∈ q.1, x ∈ fs) ∧
  ∀ H' a, Same H H' → H a = none → H' a = some (.lst (((List.range (2 ^ fs.length)).map (wB fs M fs.length)).map V.int)) → Q (.ref a) H'
theorem ok_Wrs {f : Addr} {fd : FuncData} (F : Fun K "worths" "worths" sWrs f fd) (B : Bt mg) : FnOk P w K mg base CX0 1 f fd ["told", "letters"] (spWrs K) := by
  refine F.ok scWrs (fun vs H Q E h => ?_) (fun cdv A outer s H vs Q E hr h => ?_)
  · obtain ⟨t, l, ps, M, fs, rfl, _⟩ := h
    rfl
  · obtain ⟨t, l, ps, M, fs, rfl, ht, mb, hl, nf, n8, hM, q⟩ := h
    refine ⟨_, (pss_cons (ps_set (i := 2) scWrs.nd rfl (.inr rfl) (pe_dc (own := [("place", 9), ("letter", 8)]) (tt := tYes) rfl scWrs.nd (pi_enumR (by rfl) B.enumerate (by rfl) B.reversed (pv 1)) (blkOk_by (N := NWrs) (sc := defScope sWrs) (by decide +kernel)) (fun _ _ _ _ _ => (pg_tupk (n := 2) K rfl rfl (pgs_cons (pg_name (i := 9) scWrs.nd rfl (.inl rfl)) (pgs_cons (pg_name (i := 8) scWrs.nd rfl (.inl rfl)) pgs_nil)))) (fun _ _ _ _ _ => pts_nil) (fun _ _ _ _ _ => (pv 8)) (fun _ _ _ _ _ => (pe_op op_shl pe_int (pv 9)))))
      (pss_cons (ps_set (i := 3) scWrs.nd rfl (.inl rfl) (pe_op op_rep (pe_lst (pa_cons pe_int pa_nil)) (pe_op op_shl pe_int (pe_callB call_len_seq (by rfl) B.len PySem.boot_len (pa_cons (pv 1) pa_nil)))))
      (pss_cons (ps_for PassesOwn.never rfl (pi_tup (pv 0)) (pg_tup (by rfl) (pgs_cons (pg_name (i := 4) scWrs.nd rfl (.inl rfl)) (pgs_cons (pg_name (i := 5) scWrs.nd rfl (.inl rfl)) pgs_nil)))
      (pss_one (ps_augS (pv 3) (pe_callB (cr_sum rfl) (by rfl) B.sum (by decide +kernel) (pa_cons (pe_lc (own := [("letter", 8)]) (g := gName 8) (tt := tYes) rfl scWrs.nd (pi_tup (pv 4)) (blkOk_by (N := NWrs) (sc := defScope sWrs) (by decide +kernel)) (fun _ _ _ _ _ => pg_name (i := 8) scWrs.nd rfl (Or.inl rfl)) (fun _ _ _ _ _ => pts_nil) (fun _ _ _ _ _ => (pe_dget (ru1 hr) (pv 2) (pv 8) (fun _ _ => rfl)))) pa_nil)) get_list (pv 5) ip_add set_list)))
      (pss_cons (ps_for PassesOwn.never rfl (pi_list (pe_callTy (call_list_valsK rfl) (by rfl) B.list (by decide +kernel) (pa_cons (pe_bm0 PySem.F.plainAttrs_dict PySem.F.slot_dict_values PySem.F.type_dict_values mt_valsK (pv 2)) pa_nil))) (pg_name (i := 6) scWrs.nd rfl (.inl rfl))
      (pss_one (ps_for PassesOwn.never rfl (pi_range1 rfl B.range (pa_cons (pe_callB call_len_seq (by rfl) B.len PySem.boot_len (pa_cons (pv 3) pa_nil)) pa_nil)) (pg_name (i := 7) scWrs.nd rfl (.inl rfl))
      (pss_one (ps_if (pt_cmpR op_ne (pe_op op_and (pv 7) (pv 6)) pe_int (nomark _))
      (pss_one (ps_augS (pv 3) (pv 7) get_list (pe_ix ix_list (pv 3) (pe_op op_xor (pv 7) (pv 6)) (fun _ _ => rfl)) ip_add set_list)) pss_nil)))))
      (pss_one (ps_ret (pv 3))))))), ?_⟩
    have p256 := pow256 n8
    have ll : (lV fs).length = fs.length := List.length_map ..
    -- bits
    refine q_seq (q_set ?_)
    refine ⟨.ref l, rfl, l, lV fs, rfl, hl, fun D nD => ?_⟩
    refine dc_enumR (K := K) (a := l) (xs := lV fs) (fun i H' => Same H H' ∧ H' D = some (.dK (bitK fs i))) ⟨same_upd nD, upd_same⟩ (fun i H' _ hP => CS.sqT_same hP.1 hl) (fun i x H' T il hx hP nT => ?_) (fun H1 hP => ?_)
    · obtain ⟨s', hD⟩ := hP
      rw [ll] at il hx
      rw [List.getElem?_map, letP_at il] at hx
      obtain rfl : x = .int ((letP fs i : Nat) : Int) := (Option.some.inj hx).symm
      have sT := same_upd (o := .tup [.int (i : Nat), .int ((letP fs i : Nat) : Int)]) nT
      refine ⟨T, _, rfl, tl upd_same, rfl, _, _, rfl, _, _, rfl, rfl, ?_⟩
      refine ⟨rfl, .int ((letP fs i : Nat) : Int), rfl, .int (i : Nat), rfl, 1, (i : Nat), rfl, rfl, ⟨by omega, by omega, by decide⟩, bitK fs i, Sum.inl ((letP fs i : Nat) : Int), rfl, sT _ _ hD, ?_, fun b o e => ?_, ?_⟩
      · rw [bitK, List.length_map, List.length_range]
        exact small1000 (by omega)
      · rw [upd_ne (ne_of_none e nD)]
        exact sT _ _ (s' _ _ e)
      · rw [upd_same, show (fun i j : Int => V.int (i * 2 ^ j.toNat)) 1 ((i : Nat) : Int) = V.int (1 * 2 ^ ((i : Nat) : Int).toNat) from rfl, pow_i, bit_put nf il]
    obtain ⟨s1, hD⟩ := hP
    rw [ll] at hD
    have hl1 := CS.sqT_same s1 hl
    have ht1 := CS.sqT_same s1 ht
    have mb1 := mb.same s1
    dsimp only
    -- found
    refine q_seq (q_set ?_)
    refine ⟨by show 1 ≤ sizeLine; decide, fun t0 nt0 => ?_⟩
    have s0 := same_upd (o := .lst [V.int 0]) nt0
    refine ⟨.ref l, rfl, l, lV fs, rfl, .inr (CS.sqT_same s0 hl1), ?_⟩
    rw [ll]
    refine ⟨1, (fs.length : Nat), rfl, rfl, ⟨by omega, by omega, by decide⟩, t0, _, [V.int 0], rfl, rfl, upd_same, ?_, ?_, ?_, fun a na => ?_⟩
    · rw [pow_i]; exact Int.le_trans (by decide) (Int.natCast_nonneg _)
    · rw [pow_i]
      have z : ((2 ^ fs.length : Nat) : Int) ≤ 256 := by exact_mod_cast p256
      exact Int.lt_of_le_of_lt z (by decide)
    · rw [pow_i, Int.toNat_natCast]
      show 1 * 2 ^ fs.length ≤ sizeLine
      rw [sizeLine_eq]
      omega
    rw [pow_i, Int.toNat_natCast]
    have ef : (List.replicate (2 ^ fs.length) [V.int 0]).flatten = (ini fs []).map V.int := by
      rw [ini_nil, List.map_replicate]
      generalize 2 ^ fs.length = m
      induction m with
      | zero => rfl
      | succ m ih => rw [List.replicate_succ, List.replicate_succ, List.flatten_cons, ih]; rfl
    rw [ef]
    have s2 := s0.trans (same_upd (o := .lst ((ini fs []).map V.int)) na)
    have ha : (upd (upd H1 t0 (.lst [V.int 0])) a (.lst ((ini fs []).map V.int))) a = some (.lst ((ini fs []).map V.int)) := upd_same
    have na1 : H1 a = none := by
      cases e : H1 a with
      | none => rfl
      | some o => rw [s0 _ _ e] at na; cases na
    have naH : H a = none := by
      cases e : H a with
      | none => rfl
      | some o => rw [s1 _ _ e] at na1; cases na1
    generalize upd (upd H1 t0 (.lst [V.int 0])) a (.lst ((ini fs []).map V.int)) = H2 at s2 ha ⊢
    dsimp only
    -- the members
    refine q_seq ?_
    refine ⟨.ref t, rfl, t, rfl, ⟨_, CS.sqT_same s2 ht1⟩, for_tup (K := K) (a := t) (xs := ps.map V.ref) (fun i σ H' => Same H1 H' ∧ H' a = some (.lst ((ini fs (M.take i)).map V.int)) ∧ ∃ x4 x5 : Option V, σ = [some (.ref t), some (.ref l), some (.ref D), some (.ref a), x4, x5, none, none, none, none]) ⟨s2, ha, none, none, rfl⟩ (fun i σ H' _ hP => CS.sqT_same hP.1 ht1) (fun i x σ H' hx hP => ?_) (fun σ H' hP => ?_)⟩
    · obtain ⟨s', ha', x4, x5, rfl⟩ := hP
      obtain ⟨p, qq, b, rfl, hq, hp, hb⟩ := mbt_at (mb1.same s') hx
      obtain ⟨q1, q2⟩ := hM qq (List.mem_of_getElem? hq)
      obtain ⟨c1, _⟩ := code_bits fs.length rfl nf q1 q2
      refine ⟨p, _, rfl, tl hp, rfl, _, _, rfl, _, _, rfl, rfl, ?_⟩
      refine ⟨.ref a, rfl, .ref b, rfl, b, rfl, ⟨_, tl hb⟩, fun D2 nD2 => lc_tup (K := K) (a := b) (xs := lV qq.1) (fun k H2 => Same H' H2 ∧ H2 D2 = some (.lst ((((qq.1.take k).map fun x => 2 ^ (fs.length - 1 - fs.idxOf x)).map fun (n : Nat) => (n : Int)).map V.int))) ⟨same_upd nD2, upd_same⟩ (fun k H2 _ hR => tl (hR.1 _ _ hb)) (fun k y H2 hy hR => ?_) (fun H2 hR => ?_)⟩
      · obtain ⟨s3, hD2⟩ := hR
        obtain ⟨x, hx2, rfl⟩ := lV_at hy
        have mx := q2 x (List.mem_of_getElem? hx2)
        have hD3 := s3 _ _ (s' _ _ hD)
        have g : DGet H2 D (.int (x : Nat)) (some (V.int ((2 ^ (fs.length - 1 - fs.idxOf x) : Nat) : Int))) := by
          have z := DGet.k (k := Sum.inl ((x : Nat) : Int)) hD3
          rw [bit_x nf mx] at z
          exact z
        have kl : k < qq.1.length := (List.getElem?_eq_some_iff.mp hx2).1
        have ql : qq.1.length ≤ fs.length := sub_len (xs := qq.1.map fun (n : Nat) => (n : Int)) (ys := fs.map fun (n : Nat) => (n : Int)) (List.pairwise_map.mpr (q1.imp fun {a b} h e => h (by omega))) (fun z hz => by
          obtain ⟨y, hy, rfl⟩ := List.mem_map.mp hz
          exact List.mem_map.mpr ⟨y, q2 y hy, rfl⟩) |> fun z => by rwa [List.length_map, List.length_map] at z
        refine ⟨rfl, .ref D, rfl, .int (x : Nat), rfl, D, _, rfl, g, _, hD2, ?_, fun c o e => ?_, ?_⟩
        · rw [List.length_map, List.length_map, List.length_map, List.length_take]
          exact small1000 (by omega)
        · rw [upd_ne (ne_of_none e nD2)]
          exact s3 _ _ e
        · rw [upd_same, List.take_add_one, hx2, List.map_append, List.map_append, List.map_append]
          rfl
      · obtain ⟨s3, hD2⟩ := hR
        rw [show (lV qq.1).length = qq.1.length from List.length_map .., List.take_length] at hD2
        have ha3 := s3 _ _ ha'
        have lini : ((ini fs (M.take i)).map V.int).length = 2 ^ fs.length := by rw [List.length_map, ini, List.length_map, List.length_range]
        refine ⟨D2, _, rfl, sl hD2, a, _, _, code fs qq.1, _, rfl, rfl, sum_cast, ha3, by rw [List.getElem?_map, ini_at c1]; rfl, .int qq.2, rfl, _, _, rfl, rfl, a, _, _, code fs qq.1, rfl, rfl, ha3, by rw [sum_cast, lini]; exact ixN_nat c1, ?_⟩
        refine ⟨fun c o e => ?_, ?_, _, _, rfl⟩
        · rw [upd_ne (ne_of_none e na1)]
          exact s3 _ _ (s' _ _ e)
        · rw [upd_same, List.take_add_one, hq]
          show some (HO.lst (((ini fs (M.take i)).map V.int).set (code fs qq.1) (V.int (_ + qq.2)))) = some (HO.lst ((ini fs (M.take i ++ [qq])).map V.int))
          rw [← List.map_set, ini_add c1]
    · obtain ⟨s', ha', x4, x5, rfl⟩ := hP
      rw [List.length_map, paired_len mb1, List.take_length, ini_mid nf hM] at ha'
      have hD' := s' _ _ hD
      dsimp only
      refine q_seq ?_
      refine ⟨.ref D, rfl, .inr (.inr (.inl ⟨rfl, .inl ⟨_, hD'⟩⟩)), D, _, rfl, rfl, hD', fun p np => ?_⟩
      have sp := same_upd (o := viewO "dict_values" p D) np
      refine ⟨p, D, _, rfl, upd_same, sp _ _ hD', fun b nb => ⟨b, rfl, ⟨_, sl upd_same⟩, ?_⟩⟩
      have nba : b ≠ a := Ne.symm (ne_of_none (sp _ _ ha') nb)
      have sb := same_upd (o := .lst ((bitK fs fs.length).map (·.2))) nb
      have hb : (upd (upd H' p (viewO "dict_values" p D)) b (.lst ((bitK fs fs.length).map (·.2)))) b = some (.lst ((bitK fs fs.length).map (·.2))) := upd_same
      have s4 := sp.trans sb
      generalize upd (upd H' p (viewO "dict_values" p D)) b (.lst ((bitK fs fs.length).map (·.2))) = H4 at s4 hb ⊢
      have ha4 := s4 _ _ ha'
      have lb : ((bitK fs fs.length).map (·.2)).length = fs.length := by rw [List.length_map, bitK, List.length_map, List.length_range]
      refine for_list (K := K) (a := b) (xs := (bitK fs fs.length).map (·.2)) (fun k σ H5 => (∀ c o, c ≠ a → H4 c = some o → H5 c = some o) ∧ H5 a = some (.lst ((mid fs M k 0).map V.int)) ∧ ∃ x4 x5 x6 x7 : Option V, σ = [some (.ref t), some (.ref l), some (.ref D), some (.ref a), x4, x5, x6, x7, none, none]) ⟨fun _ _ _ e => e, ha4, x4, x5, none, none, rfl⟩ (fun k σ H5 _ hP => sl (hP.1 _ _ nba hb)) (fun k x σ H5 hx hP => ?_) (fun σ H5 hP => ?_)
      · obtain ⟨k5, ha5, x4, x5, x6, x7, rfl⟩ := hP
        have kn : k < fs.length := by
          have := (List.getElem?_eq_some_iff.mp hx).1
          omega
        have hx2 : x = .int ((2 ^ k : Nat) : Int) := by
          rw [List.getElem?_map, bitK, List.getElem?_map, List.getElem?_range kn] at hx
          exact (Option.some.inj hx).symm
        subst hx2
        have lm : ((mid fs M k 0).map V.int).length = 2 ^ fs.length := by rw [List.length_map, mid_len]
        refine ⟨.ref a, rfl, a, _, rfl, .inl (sl ha5), ?_⟩
        rw [lm]
        refine ⟨((2 ^ fs.length : Nat) : Int), rfl, Int.le_trans (by decide) (Int.natCast_nonneg _), Int.lt_of_le_of_lt (show ((2 ^ fs.length : Nat) : Int) ≤ 256 by exact_mod_cast p256) (by decide), for_range (lo := 0) (n := 2 ^ fs.length) (fun j σ H6 => (∀ c o, c ≠ a → H4 c = some o → H6 c = some o) ∧ H6 a = some (.lst ((mid fs M k j).map V.int)) ∧ ∃ x7 : Option V, σ = [some (.ref t), some (.ref l), some (.ref D), some (.ref a), x4, x5, some (.int ((2 ^ k : Nat) : Int)), x7, none, none]) ⟨k5, ha5, x7, rfl⟩ (fun j σ H6 hj hP => ?_) (fun σ H6 hP => ?_)⟩
        · obtain ⟨k6, ha6, x7, rfl⟩ := hP
          have j8 : j < 256 := Nat.lt_of_lt_of_le hj p256
          have k8 : k < 8 := by omega
          refine q_if ?_
          refine ⟨.int (0 + (j : Int)), rfl, .int ((2 ^ k : Nat) : Int), rfl, _, _, rfl, rfl, rfl, _, rfl, ?_⟩
          rw [bit_and2 j8 k8, Bool.not_not]
          cases tb : j.testBit k with
          | false =>
            refine q_next ?_
            exact ⟨k6, by rw [mid_same kn tb]; exact ha6, _, rfl⟩
          | true =>
            obtain ⟨_, pj, bt⟩ := bit_set j8 k8 tb
            have lt : j - 2 ^ k < j := by have := Nat.two_pow_pos k; omega
            have lm6 : ((mid fs M k j).map V.int).length = 2 ^ fs.length := by rw [List.length_map, mid_len]
            have clr : (j - 2 ^ k).testBit k = false := by rw [bt k k8]; simp
            refine ⟨.ref a, rfl, .int (0 + (j : Int)), rfl, a, _, _, j, _, rfl, rfl, Int.zero_add _, ha6, by rw [List.getElem?_map, mid_at hj, if_neg (Nat.lt_irrefl _)]; rfl, ?_⟩
            refine ⟨.ref a, rfl, .int (0 + (j : Int)), rfl, .int ((2 ^ k : Nat) : Int), rfl, _, _, rfl, rfl, a, _, _, .int (wB fs M k (j - 2 ^ k)), rfl, rfl, sl ha6, at_z (j := j - 2 ^ k) (bit_xor2 j8 k8 tb) (by rw [List.getElem?_map, mid_at (by omega), if_pos lt, wB_clear kn clr]; rfl), _, _, rfl, rfl, a, _, _, j, rfl, rfl, ha6, by rw [lm6, Int.zero_add]; exact ixN_nat hj, ?_⟩
            refine ⟨fun c o nc e => ?_, ?_, _, rfl⟩
            · rw [upd_ne nc]
              exact k6 c o nc e
            · rw [upd_same, ← List.map_set]
              show some (HO.lst (List.map V.int ((mid fs M k j).set j (wB fs M k j + wB fs M k (j - 2 ^ k))))) = _
              rw [← wB_set n8 j8 kn tb, mid_next hj]
        · obtain ⟨k6, ha6, x7, rfl⟩ := hP
          rw [mid_end] at ha6
          exact ⟨k6, ha6, _, _, _, _, rfl⟩
      · obtain ⟨k5, ha5, x4, x5, x6, x7, rfl⟩ := hP
        rw [lb, mid_all] at ha5
        dsimp only
        refine q_ret ?_
        refine ⟨.ref a, rfl, q H5 a (fun c o e => k5 _ _ (ne_of_none e naH) (s4 _ _ (s' _ _ (s1 _ _ e)))) naH ha5⟩
end
end CP

namespace CP
open PySem PySem.Spec PyProof.Rows L2 Ek CC CS
theorem fix_mem {st : List (Int × Int)} {c v : Int} (h : fixV st c = some v) : (c, v) ∈ st := by
  have go : ∀ (l : List (Int × Int)) (o : Option Int), l.foldl (fun o p => if c = p.1 then some p.2 else o) o = some v → o = some v ∨ (c, v) ∈ l := by
    intro l
    induction l with
    | nil => intro o e; exact .inl e
    | cons p l ih =>
      intro o e
      rcases ih _ e with e2 | e2
      · dsimp only at e2
        by_cases z : c = p.1
        · rw [if_pos z] at e2
          refine .inr ?_
          rw [z, ← Option.some.inj e2]
          exact List.mem_cons_self
        · rw [if_neg z] at e2
          exact .inl e2
      · exact .inr (List.mem_cons_of_mem _ e2)
  rcases go st none h with e | e
  · cases e
  · exact e
theorem fix_some {st : List (Int × Int)} {c : Int} (h : fixV st c = none) : ∀ p ∈ st, p.1 ≠ c := by
  have go : ∀ (l : List (Int × Int)) (o : Option Int), l.foldl (fun o p => if c = p.1 then some p.2 else o) o = none → o = none ∧ ∀ p ∈ l, p.1 ≠ c := by
    intro l
    induction l with
    | nil => intro o e; exact ⟨e, fun _ m => nomatch m⟩
    | cons p l ih =>
      intro o e
      obtain ⟨e1, e2⟩ := ih _ e
      dsimp only at e1
      by_cases z : c = p.1
      · rw [if_pos z] at e1
        cases e1
      · rw [if_neg z] at e1
        refine ⟨e1, fun q mq => ?_⟩
        rcases List.mem_cons.mp mq with rfl | mq
        · exact fun y => z y.symm
        · exact e2 q mq
  exact (go st none h).2

theorem op_notin_seqk {X : Cx} (K : PySem.W.Frag) (hK : X.K = K) : OpR X (compareOp .NotIn) (rIn K true) := by
  subst hK
  exact op_notIn_seq
theorem op_in_seqk {X : Cx} (K : PySem.W.Frag) (hK : X.K = K) : OpR X (compareOp .In) (rIn K false) := by
  subst hK
  exact op_in_seq
theorem in_ints {x : Int} {l : List Int} : inV (.int x) (l.map V.int) = decide (x ∈ l) := by
  induction l with
  | nil => simp [inV]
  | cons y l ih =>
    have e : inV (.int x) ((y :: l).map V.int) = (eqV (.int y) (.int x) || inV (.int x) (l.map V.int)) := by
      simp only [inV, List.map_cons, List.any_cons]
    rw [e, ih]
    have e2 : eqV (.int y) (.int x) = decide (x = y) := by
      show (y == x) = decide (x = y)
      by_cases c : x = y
      · rw [c]; simp
      · rw [decide_eq_false c]
        exact beq_eq_false_iff_ne.mpr fun z => c z.symm
    rw [e2]
    by_cases c : x = y <;> simp [c]
theorem flat_ints {l : List Int} : (l.map V.int).all flatV = true := by
  rw [List.all_eq_true]
  intro x m
  obtain ⟨w, _, rfl⟩ := List.mem_map.mp m
  rfl
theorem fix_none {st : Stt} {c : Int} : fixV st c = none ↔ c ∉ st.map (·.1) := by
  constructor
  · intro h m
    obtain ⟨p, mp, e⟩ := List.mem_map.mp m
    exact fix_some h p mp e
  · intro h
    cases e : fixV st c with
    | none => rfl
    | some v => exact absurd (List.mem_map.mpr ⟨_, fix_mem e, rfl⟩) h
/-- the cells that a start leaves free -/
def freeL (n : Nat) (st : Stt) : List Nat := (List.range n).filter fun (k : Nat) => (fixV st k).isNone
theorem free_mem {n : Nat} {st : Stt} {k : Nat} : k ∈ freeL n st ↔ k < n ∧ fixV st k = none := by
  unfold freeL
  rw [List.mem_filter, List.mem_range, Option.isNone_iff_eq_none]
theorem free_nd {n : Nat} {st : Stt} : (freeL n st).Nodup := List.nodup_range.filter _
theorem free_len {n : Nat} {st : Stt} : (freeL n st).length ≤ n := by
  have := List.length_filter_le (fun (k : Nat) => (fixV st k).isNone) (List.range n)
  rw [List.length_range] at this
  exact this
def intsB (ds : List PyData) : Bool := ds.all fun d => isIntD d
/-- cells that a price may be written for -/
def cellsD (fs : List Nat) : PyData → Bool
  | .tuple ds => (decide (1 ≤ ds.length) && decide (ds.length ≤ 3)) && ((ds.all fun d => isIntD d && decide (intOf d ∈ fs.map fun (n : Nat) => (n : Int))) && decide (ds.map intOf).Nodup)
  | _ => false
theorem cells_no {fs : List Nat} {d : PyData} (h : isTupD d = false) : cellsD fs d = false := by cases d <;> first | rfl | cases h
theorem nodup_by {ks ns : List Int} (nk : ks.Nodup) (h : ∀ k, k ∈ ns ↔ k ∈ ks) : decide (((ks.length : Nat) : Int) = ((ns.length : Nat) : Int)) = decide ns.Nodup := by
  rw [decide_eq_decide]
  constructor
  · intro e
    have less : ∀ {l : List Int}, ¬l.Nodup → ∃ l' : List Int, l'.length < l.length ∧ ∀ x ∈ l, x ∈ l' := fun {l} => by
      induction l with
      | nil => intro h; exact absurd List.nodup_nil h
      | cons x l ih =>
        intro h
        by_cases c : x ∈ l
        · exact ⟨l, Nat.lt_succ_self _, fun y hy => (List.mem_cons.mp hy).elim (fun e => by rw [e]; exact c) id⟩
        · obtain ⟨l', h1, h2⟩ := ih fun z => h (List.nodup_cons.mpr ⟨c, z⟩)
          refine ⟨x :: l', by rw [List.length_cons, List.length_cons]; omega, fun y hy => ?_⟩
          rcases List.mem_cons.mp hy with rfl | m
          · exact List.mem_cons_self
          · exact List.mem_cons_of_mem _ (h2 y m)
    by_cases c : ns.Nodup
    · exact c
    · obtain ⟨l', h1, h2⟩ := less c
      have := sub_len nk fun x hx => h2 x ((h x).mpr hx)
      omega
  · intro nd
    have a := sub_len nk fun x hx => (h x).mpr hx
    have b := sub_len nd fun x hx => (h x).mp hx
    omega
section
variable {P : Program} {w : World} {K : PySem.W.Frag} {mg : Str → Option Value} {base : Heap}
def spRO8 : Sp := fun vs H Q _ => ∃ n : Nat, vs = [.int n] ∧ n ≤ 8 ∧ ∀ H' p rs, Same H H' → H p = none → H' p = some (.tup (rs.map V.ref)) → Rws H' rs (rowsOf n) → Q (.ref p) H'
theorem ok_RO8 {f : Addr} {fd : FuncData} (F : Fun K "rows_of" "rows_of" sRO f fd) (B : Bt mg) : FnOk P w K mg base CX0 1 f fd ["size"] spRO8 := by
  refine F.ok scRO (fun vs H Q E h => ?_) (fun cdv A outer s H vs Q E hr h => ?_)
  · obtain ⟨n, rfl, _⟩ := h
    rfl
  · obtain ⟨n, rfl, hn, q⟩ := h
    refine ⟨_, pss_cons (ps_set (i := 1) scRO.nd rfl (.inl rfl) (pe_lst (pa_cons (pe_tup pa_nil) pa_nil)))
      (pss_cons (ps_for PassesOwn.never rfl (pi_range1 rfl B.range (pa_cons (pv 0) pa_nil)) (pg_name (i := 2) scRO.nd rfl (.inl rfl))
        (pss_one (ps_setLc2 (i := 1) (own := [("row", 3), ("value", 4)]) (vs1 := [4]) (g := gName 3) (g1 := gName 4) (tt := tYes) (tt1 := tYes) rfl scRO.nd rfl rfl (sw_true rfl rfl rfl (by decide +kernel)) (pi_list (pv 1)) (blkOk_by (N := NRO) (sc := defScope sRO) (by decide +kernel)) (by decide)
          (fun _ _ _ _ _ => pg_name (i := 3) scRO.nd rfl (Or.inl rfl)) (fun _ _ _ _ _ => pts_nil) (fun _ _ _ _ _ => pi_tupk K rfl (pe_tup (pa_cons pe_int (pa_cons pe_int pa_nil)))) (fun _ _ _ _ _ => pg_name (i := 4) scRO.nd rfl (Or.inl rfl)) (fun _ _ _ _ _ => pts_nil)
          (fun _ _ _ _ _ => pe_op (op_catAk K rfl) (pv 3) (pe_tup (pa_cons (pv 4) pa_nil))))))
      (pss_one (ps_ret (pe_callTy call_tuple_of (by rfl) B.tuple (by decide +kernel) (pa_cons (pv 1) pa_nil))))), ?_⟩
    refine q_seq (q_set ?_)
    refine ⟨Nat.zero_le _, fun t0 nt0 => ⟨by show 1 ≤ sizeLine; decide, fun L0 nL0 => ?_⟩⟩
    have s0 : Same H (upd (upd H t0 (.tup [])) L0 (.lst [.ref t0])) := (same_upd nt0).trans (same_upd nL0)
    have e0 : (upd (upd H t0 (.tup [])) L0 (.lst [.ref t0])) t0 = some (.tup []) := same_upd nL0 _ _ upd_same
    dsimp only
    refine q_seq ?_
    refine ⟨_, rfl, n, rfl, by omega, by omega, for_range (lo := 0) (n := n) (fun i σ H' => ∃ (L : Addr) (u : Option V) (rs : List Addr), σ = [some (.int n), some (.ref L), u, none, none] ∧ Same H H' ∧ H' L = some (.lst (rs.map V.ref)) ∧ Rws H' rs (rowsOf i))
      ⟨L0, none, [t0], rfl, s0, upd_same, .cons e0 .nil⟩ (fun i σ H1 hi hP => ?_) (fun σ H1 hP => ?_)⟩
    · obtain ⟨L, u, rs, rfl, s1, hL, rw1⟩ := hP
      refine q_set ?_
      have len1 : rs.length = (rowsOf i).length := paired_len rw1
      have lim : (rowsOf i).length ≤ 256 := by
        rw [rows_len]
        exact Nat.le_trans (Nat.pow_le_pow_right (by decide) (show i ≤ 8 by omega)) (by decide)
      refine ⟨.ref L, rfl, L, rfl, ⟨_, sl hL⟩, fun D nD => lp_list (K := K) (a := L) (xs := rs.map V.ref) (fun j H2 => Same H1 H2 ∧ ∃ rs2 : List Addr, H2 D = some (.lst (rs2.map V.ref)) ∧ Rws H2 rs2 (((rowsOf i).take j).flatMap fun r => [r ++ [0], r ++ [1]]))
        ⟨same_upd nD, [], upd_same, .nil⟩ (fun j H2 _ hQ => sl (hQ.1 _ _ hL)) (fun j x H2 hx hQ => ?_) (fun H2 hQ => ?_)⟩
      · obtain ⟨s2, rs2, hD, rw2⟩ := hQ
        obtain ⟨r, bs, rfl, hbs, hr⟩ : ∃ r bs, x = V.ref r ∧ (rowsOf i)[j]? = some bs ∧ H1 r = some (.tup (bs.map V.int)) := by
          rw [List.getElem?_map] at hx
          cases e : rs[j]? with
          | none => rw [e] at hx; cases hx
          | some r =>
            rw [e] at hx
            have hj : j < (rowsOf i).length := by
              rw [← len1]
              exact (List.getElem?_eq_some_iff.mp e).1
            obtain ⟨y, hy, hz⟩ := paired_get rw1 (List.getElem?_eq_getElem hj)
            rw [e] at hy
            cases hy
            exact ⟨r, _, (Option.some.inj hx).symm, List.getElem?_eq_getElem hj, hz⟩
        have l2 : rs2.length ≤ 512 := by
          have z := paired_len rw2
          have h2 : ∀ l : List (List Int), (l.flatMap fun r => [r ++ [0], r ++ [1]]).length = 2 * l.length := fun l => by
            induction l with
            | nil => rfl
            | cons x l ih => rw [List.flatMap_cons, List.length_append, ih, List.length_cons, List.length_cons, List.length_cons, List.length_nil]; omega
          rw [h2, List.length_take] at z
          omega
        have lb : bs.length ≤ 8 := by
          rw [row_len i bs (List.mem_of_getElem? hbs)]
          omega
        refine ⟨rfl, by show 2 ≤ sizeLine; decide, fun tp ntp => ⟨tp, rfl, ⟨_, tl upd_same⟩, lp_tup (K := K) (a := tp) (xs := [.int 0, .int 1]) (fun k H3 => Same H1 H3 ∧ H3 tp = some (.tup [.int 0, .int 1]) ∧ ∃ rs3 : List Addr, H3 D = some (.lst (rs3.map V.ref)) ∧ rs3.length = rs2.length + k ∧ Rws H3 rs3 ((((rowsOf i).take j).flatMap fun r => [r ++ [0], r ++ [1]]) ++ ([bs ++ [0], bs ++ [1]].take k)))
          ⟨s2.trans (same_upd ntp), upd_same, rs2, same_upd ntp _ _ hD, rfl, by rw [List.take_zero, List.append_nil]; exact rw2.same (same_upd ntp)⟩ (fun k H3 _ hR => tl hR.2.1) (fun k y H3 hy hR => ?_) (fun H3 hR => ?_)⟩⟩
        · obtain ⟨s3, htp, rs3, hD3, l3, rw3⟩ := hR
          obtain ⟨b, rfl, hb⟩ : ∃ b : Int, y = .int b ∧ [bs ++ [0], bs ++ [1]][k]? = some (bs ++ [b]) := by
            match k, hy with
            | 0, hy => exact ⟨0, (Option.some.inj hy).symm, rfl⟩
            | 1, hy => exact ⟨1, (Option.some.inj hy).symm, rfl⟩
            | k + 2, hy => simp at hy
          have hk : k < 2 := (List.getElem?_eq_some_iff.mp hy).1
          -- what is laid at t: the new row
          have fin : ∀ (H4 : Hp) (t : Addr), Same H3 H4 → H4 t = some (.tup ((bs ++ [b]).map V.int)) → ∃ acc, H4 D = some (.lst acc) ∧ acc.length < sizeLine ∧ Same H1 (upd H4 D (.lst (acc ++ [.ref t]))) ∧ (upd H4 D (.lst (acc ++ [.ref t]))) tp = some (.tup [.int 0, .int 1]) ∧
              ∃ rs3 : List Addr, (upd H4 D (.lst (acc ++ [.ref t]))) D = some (.lst (rs3.map V.ref)) ∧ rs3.length = rs2.length + (k + 1) ∧ Rws (upd H4 D (.lst (acc ++ [.ref t]))) rs3 ((((rowsOf i).take j).flatMap fun r => [r ++ [0], r ++ [1]]) ++ ([bs ++ [0], bs ++ [1]].take (k + 1))) := fun H4 t s4 ht => by
            have hD4 := s4 _ _ hD3
            refine ⟨_, hD4, by rw [List.length_map]; exact small1000 (by omega), fun c o e => ?_, ?_, rs3 ++ [t], by rw [upd_same, List.map_append]; rfl, by rw [List.length_append, l3]; rfl, ?_⟩
            · rw [upd_ne (ne_of_none e nD)]
              exact s4 _ _ (s3 _ _ e)
            · have htp4 := s4 _ _ htp
              rw [upd_ne (ne_of htp4 hD4 (by intro z; cases z))]
              exact htp4
            · rw [List.take_add_one, hb, ← List.append_assoc]
              exact Rws.updL hD4 (paired_app (rw3.same s4) (.cons ht .nil))
          refine ⟨rfl, .ref r, rfl, .int b, rfl, by show 1 ≤ sizeLine; decide, fun t1 nt1 => ?_⟩
          refine ⟨r, t1, bs.map V.int, [.int b], rfl, rfl, tl (same_upd nt1 _ _ (s3 _ _ hr)), tl upd_same, ?_, fun z => ?_, (fun _ z => absurd z (List.cons_ne_nil _ _)), fun _ _ p np => ?_⟩
          · rw [List.length_map]
            exact Nat.le_of_lt (small1000 (by show bs.length + 1 ≤ 1000; omega))
          · have zb : bs = [] := by
              cases bs with
              | nil => rfl
              | cons c d => cases z
            subst zb
            exact fin _ t1 (same_upd nt1) upd_same
          · exact fin _ p ((same_upd nt1).trans (same_upd np)) (by rw [upd_same, List.map_append]; rfl)
        · obtain ⟨s3, htp, rs3, hD3, l3, rw3⟩ := hR
          refine ⟨s3, rs3, hD3, ?_⟩
          rw [take_flat _ hbs]
          exact rw3
      · obtain ⟨s2, rs2, hD, rw2⟩ := hQ
        refine ⟨D, _, rs2, rfl, s1.trans s2, hD, ?_⟩
        rw [List.length_map, len1, List.take_length] at rw2
        exact rw2
    · obtain ⟨L, u, rs, rfl, s1, hL, rw1⟩ := hP
      dsimp only
      refine q_ret ⟨.ref L, rfl, L, _, rfl, .inl ⟨sl hL, fun p np => q _ p rs (s1.trans (same_upd np)) (s1.free np) upd_same (rw1.same (same_upd np))⟩⟩
def spFrC (K : PySem.W.Frag) (CP : Addr) : Sp := fun vs H Q _ => ∃ (C CB z : Addr) (bks : List Pd) (n : Nat) (ts : List Tie) (v : V) (st : Stt), vs = [.ref z, v] ∧ PzAt C CB CP H z bks n ts ∧ n ≤ 9 ∧ StAt K H v st ∧ st.length ≤ 200 ∧ ∀ H' t o, Same H H' → o.dict = none → H' t = some (.frz o (.tup (lV (freeL n st)))) → Q (.ref t) H'
theorem ok_FrC {f CP : Addr} {fd : FuncData} (F : Fun K "free_cells" "free_cells" sFrC f fd) (B : Bt mg) (TP : Pzc K mg CP) : FnOk P w K mg base CX0 1 f fd ["puzzle", "start"] (spFrC K CP) := by
  refine F.ok scFrC (fun vs H Q E h => ?_) (fun cdv A outer s H vs Q E hr h => ?_)
  · obtain ⟨C, CB, z, bks, n, ts, v, st, rfl, _⟩ := h
    rfl
  · obtain ⟨C, CB, z, bks, n, ts, v, st, rfl, pz, n9, ⟨sx, sps, rfl, hs, pt⟩, ls, q⟩ := h
    obtain ⟨dx, b, t, as, hz, bk, ht0, ti, ok, lt⟩ := id pz
    refine ⟨_, (pss_cons (ps_set (i := 2) scFrC.nd rfl (.inr rfl) (pe_lc (own := [("cell", 3), ("_", 4)]) (tt := tYes) rfl scFrC.nd (pi_tup (pv 1)) (blkOk_by (N := NFrC) (sc := defScope sFrC) (by decide +kernel)) (fun _ _ _ _ _ => (pg_tupk (n := 2) K rfl rfl (pgs_cons (pg_name (i := 3) scFrC.nd rfl (Or.inl rfl)) (pgs_cons (pg_name (i := 4) scFrC.nd rfl (Or.inl rfl)) pgs_nil)))) (fun _ _ _ _ _ => pts_nil) (fun _ _ _ _ _ => (pv 3))))
      (pss_one (ps_ret (pe_callTy call_tupleF (by rfl) B.tuple (by decide +kernel) (pa_cons (pe_lc (own := [("cell", 3)]) (g := gName 3) rfl scFrC.nd (pi_range1 rfl B.range (pa_cons (pe_fld (pv 0) rfl) pa_nil)) (blkOk_by (N := NFrC) (sc := defScope sFrC) (by decide +kernel)) (fun _ _ _ _ _ => pg_name (i := 3) scFrC.nd rfl (Or.inl rfl)) (fun _ _ _ _ _ => pts_one (pt_cmpR (op_notin_seqk K rfl) (pv 3) (pv 2) (by with_unfolding_all rfl))) (fun _ _ _ _ _ => (pv 3))) pa_nil))))), ?_⟩
    refine q_seq (q_set ?_)
    refine ⟨.ref sx, rfl, sx, rfl, ⟨_, hs⟩, fun D nD => lc_tup (K := K) (a := sx) (xs := sps.map V.ref) (fun i H' => Same H H' ∧ H' D = some (.lst (((st.take i).map (·.1)).map V.int))) ⟨same_upd nD, upd_same⟩ (fun i H' _ hP => CS.sqT_same hP.1 hs) (fun i x H' hx hP => ?_) (fun H' hP => ?_)⟩
    · obtain ⟨s', hD⟩ := hP
      have ln : i < st.length := by
        have := (List.getElem?_eq_some_iff.mp hx).1
        rw [List.length_map, paired_len pt] at this
        exact this
      obtain ⟨p, hp, hp1⟩ := paired_get (pt.same s') (List.getElem?_eq_getElem ln)
      rw [List.getElem?_map, hp] at hx
      obtain rfl : x = .ref p := (Option.some.inj hx).symm
      have hst : st[i]? = some st[i] := List.getElem?_eq_getElem ln
      generalize st[i] = c at hp1 hst
      refine ⟨p, _, rfl, .inl hp1, rfl, _, _, rfl, _, _, rfl, rfl, ?_⟩
      refine ⟨rfl, .int c.1, rfl, _, hD, ?_, fun b o e => ?_, ?_⟩
      · rw [List.length_map, List.length_map, List.length_take]
        exact small1000 (by omega)
      · rw [upd_ne (ne_of_none e nD)]
        exact s' _ _ e
      · rw [upd_same, List.take_add_one, hst, List.map_append, List.map_append]
        rfl
    obtain ⟨s1, hD⟩ := hP
    rw [List.length_map, paired_len pt, List.take_length] at hD
    dsimp only
    refine q_ret ?_
    refine ⟨.ref z, rfl, z, CP, dx, _, .int n, rfl, s1 _ _ hz, TP.cl, TP.nC, zf_cells _ _ _, n, rfl, by omega, by omega, fun D2 nD2 => lc_range (lo := 0) (n := n) (fun i H2 => Same H' H2 ∧ H2 D2 = some (.lst (lV (freeL i st)))) ⟨same_upd nD2, upd_same⟩ (fun i H2 hi hQ => ?_) (fun H2 hQ => ?_)⟩
    · obtain ⟨s2, hD2⟩ := hQ
      have ef : freeL (i + 1) st = freeL i st ++ if (fixV st (i : Int)).isNone = true then [i] else [] := by
        unfold freeL
        rw [List.range_succ, List.filter_append]
        congr 1
        by_cases c : (fixV st (i : Int)).isNone = true
        · rw [if_pos c]
          exact List.filter_cons_of_pos (p := fun (k : Nat) => (fixV st k).isNone) c
        · rw [if_neg c]
          exact List.filter_cons_of_neg (p := fun (k : Nat) => (fixV st k).isNone) c
      refine ⟨rfl, .int (0 + (i : Int)), rfl, .ref D, rfl, D, _, rfl, .inl (sl (s2 _ _ hD)), rfl, flat_ints, ?_⟩
      rw [if_pos rfl, in_ints, Int.zero_add]
      refine ⟨_, rfl, ?_⟩
      have eb : (!decide ((i : Int) ∈ st.map (·.1))) = (fixV st (i : Int)).isNone := by
        rw [Bool.eq_iff_iff, Bool.not_eq_true', decide_eq_false_iff_not, Option.isNone_iff_eq_none, fix_none]
      rw [eb]
      have li : (freeL i st).length ≤ i := free_len
      cases ec : (fixV st (i : Int)).isNone with
      | false =>
        rw [ec, if_neg (by decide), List.append_nil] at ef
        show Same H' H2 ∧ _
        rw [ef]
        exact ⟨s2, hD2⟩
      | true =>
        rw [ec, if_pos rfl] at ef
        refine ⟨.int (i : Int), rfl, _, hD2, ?_, fun c o e => ?_, ?_⟩
        · rw [List.length_map]
          exact small1000 (by omega)
        · rw [upd_ne (ne_of_none e nD2)]
          exact s2 _ _ e
        · rw [upd_same, ef, lV, lV, List.map_append]
          rfl
    · obtain ⟨s2, hD2⟩ := hQ
      refine ⟨D2, _, rfl, sl hD2, fun l o od nl => ?_⟩
      exact q _ l o (s1.trans (s2.trans (same_upd nl))) od upd_same
end
end CP

namespace CP
open PySem PySem.Spec PyProof.Rows L2 Ek CC CS
theorem ints_all {N : Addr → Prop} {H : Hp} : ∀ {xs : List V} {ds : List PyData}, DvAll N H xs ds → (ds.all fun d => isIntD d) = true → ∃ ns : List Int, xs = ns.map V.int ∧ ds = ns.map .int
  | _, _, .nil, _ => ⟨[], rfl, rfl⟩
  | _, _, .cons h t, e => by
    rw [List.all_cons, Bool.and_eq_true] at e
    obtain ⟨ns, rfl, rfl⟩ := ints_all t e.2
    obtain ⟨i, rfl, rfl⟩ := int_dv h e.1
    exact ⟨i :: ns, rfl, rfl⟩
theorem int_of {ns : List Int} : (ns.map PyData.int).map intOf = ns := by
  rw [List.map_map]
  exact List.map_id' ns
section
variable {P : Program} {w : World} {K : PySem.W.Frag} {mg : Str → Option Value} {base : Heap}
def spArC (K : PySem.W.Frag) : Sp := fun vs H Q _ => ∃ (N : Addr → Prop) (v : V) (d : PyData) (f : Addr) (fs : List Nat), vs = [v, .ref f] ∧ Dv N H v d ∧ (∀ ds, d = .tuple ds → ds.length ≤ 200) ∧ SqT K H f (lV fs) ∧ ∀ H', Same H H' → Q (.bl (cellsD fs d)) H'
theorem ok_ArC {f : Addr} {fd : FuncData} (F : Fun K "_are_cells" "_are_cells" sArC f fd) (B : Bt mg) {fIsI : Addr} {fdIsI : FuncData} (GIsI : FnOk P w K mg base CX0 1 fIsI fdIsI ["value"] spIsI) (kIsI : PySem.W.keepIn K (.ref fIsI) = true) (bIsI : Binds K fdIsI ["value"] []) (gIsI : mg "is_integer" = some (.ref fIsI)) {tk : Tok} (gMC : mg "MOST_CELLS" = some (.int 3 tk)) : FnOk P w K mg base CX0 2 f fd ["value", "free"] (spArC K) := by
  refine F.ok scArC (fun vs H Q E h => ?_) (fun cdv A outer s H vs Q E hr h => ?_)
  · obtain ⟨N, v, d, f, fs, rfl, _⟩ := h
    rfl
  · obtain ⟨N, v, d, ff, fs, rfl, dv, l200, hf, q⟩ := h
    refine ⟨_, (pss_cons (ps_if (PW.pt (pw_or (pt_not (pt_val (pe_callB call_isi (by rfl) B.isinstance (by decide +kernel) (pa_cons (pv 0) (pa_cons (pe_bltn (v := .ty "tuple") (by rfl) B.tuple (by decide +kernel) rfl) pa_nil))))) (pw_or1 (pt_not (pt_chain op_le op_le pe_int (pe_callB call_len_seq (by rfl) B.len PySem.boot_len (pa_cons (pv 0) pa_nil)) (pe_glob (v := .int 3) (by rfl) gMC ⟨_, rfl⟩))))))
      (pss_one (ps_ret pe_bl)) pss_nil)
      (pss_one (ps_ret (pe_and (pe_callB (cr_all rfl) (by rfl) B.all (by decide +kernel) (pa_cons (pe_lc (own := [("cell", 2)]) (g := gName 2) (tt := tYes) rfl scArC.nd (pi_tup (pv 0)) (blkOk_by (N := NArC) (sc := defScope sArC) (by decide +kernel)) (fun _ _ _ _ _ => pg_name (i := 2) scArC.nd rfl (Or.inl rfl)) (fun _ _ _ _ _ => pts_nil) (fun _ _ _ _ _ => (pe_and (pe_call GIsI (hr.mono (by decide)) (by rfl) gIsI kIsI bIsI .nil pass0 (pa_cons (pv 2) pa_nil)) (pe_one (pe_cmpR (op_in_seqk K rfl) (pv 2) (pv 1) (by with_unfolding_all rfl)))))) pa_nil)) (pe_one (pe_cmpR op_eq (pe_callB call_lenSet (by rfl) B.len PySem.boot_len (pa_cons (pe_callTy (call_setT rfl) (by rfl) B.set (by decide +kernel) (pa_cons (pv 0) pa_nil)) pa_nil)) (pe_callB call_len_seq (by rfl) B.len PySem.boot_len (pa_cons (pv 0) pa_nil)) (nomark _))))))), ?_⟩
    obtain ⟨ty, hty, k1, k2, k3⟩ := ty_of (K := K) dv
    have no : cellsD fs d = false → Q (.bl false) H := fun z => by
      have y := q H (Same.refl H)
      rw [z] at y
      exact y
    refine q_seq (q_if ?_)
    refine ⟨v, rfl, v, _, ty, _, isTupD d, rfl, .ty _, hty, k1, ?_⟩
    cases tt : isTupD d with
    | false => exact ⟨false, rfl, no (cells_no tt)⟩
    | true =>
      refine ⟨true, rfl, ?_⟩
      obtain ⟨a, xs, ds, rfl, ht, rfl, p⟩ := tup_dv dv tt
      have lx := dv_len p
      have l2 := l200 ds rfl
      refine ⟨.ref a, rfl, a, xs, rfl, .inr ht, ?_⟩
      have e1 : decide ((1 : Int) ≤ ((xs.length : Nat) : Int)) = decide (1 ≤ ds.length) := by rw [decide_eq_decide]; omega
      have e3 : decide (((xs.length : Nat) : Int) ≤ 3) = decide (ds.length ≤ 3) := by rw [decide_eq_decide]; omega
      have fsI : lV fs = (fs.map fun (n : Nat) => (n : Int)).map V.int := by rw [List.map_map]; rfl
      refine ⟨_, _, rfl, rfl, _, rfl, ?_⟩
      rw [e1]
      rcases Nat.lt_or_ge ds.length 1 with c1 | c1
      · have c1 : ¬1 ≤ ds.length := by omega
        rw [decide_eq_false c1, if_neg (by decide)]
        exact ⟨false, rfl, no (by show ((decide (1 ≤ ds.length) && decide (ds.length ≤ 3)) && _) = false; rw [decide_eq_false c1]; rfl)⟩
      have c1 : 1 ≤ ds.length := c1
      rw [decide_eq_true c1, if_pos rfl]
      refine ⟨_, _, rfl, rfl, _, rfl, ?_⟩
      rw [e3]
      rcases Nat.lt_or_ge 3 ds.length with c3 | c3
      · have c3 : ¬ds.length ≤ 3 := by omega
        rw [decide_eq_false c3]
        dsimp only
        rw [show (!false) = true from rfl, if_pos rfl]
        refine q_ret ?_
        exact no (by show ((decide (1 ≤ ds.length) && decide (ds.length ≤ 3)) && _) = false; rw [decide_eq_false c3, Bool.and_false]; rfl)
      have c3 : ds.length ≤ 3 := c3
      rw [decide_eq_true c3]
      have eC : cellsD fs (.tuple ds) = ((ds.all fun d => isIntD d && decide (intOf d ∈ fs.map fun (n : Nat) => (n : Int))) && decide (ds.map intOf).Nodup) := by
        show ((decide (1 ≤ ds.length) && decide (ds.length ≤ 3)) && _) = _
        rw [decide_eq_true c1, decide_eq_true c3, Bool.true_and, Bool.true_and]
      rw [eC] at no q
      generalize hF : (fun d => isIntD d && decide (intOf d ∈ fs.map fun (n : Nat) => (n : Int))) = F1 at no q
      refine q_next ?_
      dsimp only
      refine q_ret ?_
      refine ⟨.ref a, rfl, a, rfl, ⟨_, ht⟩, fun D nD => lc_tup (K := K) (a := a) (xs := xs) (fun i H' => Same H H' ∧ H' D = some (.lst (((ds.take i).map F1).map V.bl))) ⟨same_upd nD, upd_same⟩ (fun i H' _ hP => CS.sqT_same hP.1 ht) (fun i x H' hx hP => ?_) (fun H' hP => ?_)⟩
      · obtain ⟨s', hD⟩ := hP
        obtain ⟨dd, hdd, dx⟩ := dv_at (p.same s') hx
        have il : i < ds.length := (List.getElem?_eq_some_iff.mp hdd).1
        have fin : ∀ b, F1 dd = b → ∃ acc, H' D = some (.lst acc) ∧ acc.length < sizeLine ∧ Same H (upd H' D (.lst (acc ++ [V.bl b]))) ∧ (upd H' D (.lst (acc ++ [V.bl b]))) D = some (.lst (((ds.take (i + 1)).map F1).map V.bl)) := fun b eb => by
          refine ⟨_, hD, ?_, fun c o e => ?_, ?_⟩
          · rw [List.length_map, List.length_map, List.length_take]
            exact small1000 (by omega)
          · rw [upd_ne (ne_of_none e nD)]
            exact s' _ _ e
          · rw [upd_same, List.take_add_one, hdd, List.map_append, List.map_append, ← eb]
            rfl
        refine ⟨rfl, x, rfl, N, x, dd, rfl, dx, _, rfl, ?_⟩
        cases ei : isIntD dd with
        | false => exact fin false (by rw [← hF]; show (isIntD dd && _) = false; rw [ei]; rfl)
        | true =>
          obtain ⟨k, rfl, rfl⟩ := int_dv dx ei
          refine ⟨.int k, rfl, .ref ff, rfl, ff, _, rfl, .inr (CS.sqT_same s' hf), rfl, (by rw [fsI]; exact flat_ints), ?_⟩
          rw [if_neg (by decide), fsI, in_ints]
          exact fin _ (by rw [← hF]; rfl)
      · obtain ⟨s', hD⟩ := hP
        rw [List.take_of_length_le (show ds.length ≤ xs.length by omega)] at hD
        refine ⟨D, _, rfl, sl hD, _, rfl, ?_⟩
        have ea : (ds.map F1).all id = ds.all F1 := by rw [List.all_map]; rfl
        rw [ea]
        cases eb : ds.all F1 with
        | false =>
          have z := q H' s'
          rw [eb] at z
          exact z
        | true =>
          rw [eb, Bool.true_and] at q
          have ai : (ds.all fun d => isIntD d) = true := by
            rw [List.all_eq_true] at eb ⊢
            intro d hd
            have z := eb d hd
            rw [← hF, Bool.and_eq_true] at z
            exact z.1
          obtain ⟨ns, rfl, rfl⟩ := ints_all p ai
          rw [int_of] at q
          have ht' := CS.sqT_same s' ht
          rw [if_pos rfl]
          refine ⟨.ref a, rfl, a, ns, rfl, ht', by rw [List.length_map] at l2; omega, fun pp so np hso => ?_⟩
          obtain ⟨cN, lcN, rfl⟩ := hso
          refine ⟨pp, _, cN, rfl, upd_same, fun ks nk hk lk => ?_⟩
          refine ⟨.ref a, rfl, a, _, rfl, .inr (CS.sqT_same (same_upd np) ht'), rfl, ?_⟩
          rw [CS.dInt, List.length_map, ← lk, nodup_by nk fun k => by rw [← hk, decide_eq_true_iff]]
          exact q _ (s'.trans (same_upd np))
end
end CP

namespace CP
open PySem PySem.Spec PyProof.Rows L2 Ek CC CS
theorem rows_mem2 : ∀ {n : Nat} {r : List Int}, Bits r → r.length = n → r ∈ rowsOf n
  | 0, [], _, _ => List.mem_cons_self
  | 0, _ :: _, _, h => by simp at h
  | n + 1, r, hb, hl => by
    have ne : r ≠ [] := fun e => by rw [e] at hl; simp at hl
    have e := List.dropLast_concat_getLast ne
    have lb : r.dropLast.length = n := by rw [List.length_dropLast]; omega
    have m := rows_mem2 (n := n) (r := r.dropLast) (fun x mx => hb x (List.dropLast_subset _ mx)) lb
    have bl := hb _ (List.getLast_mem ne)
    show r ∈ (rowsOf n).flatMap fun r => [r ++ [0], r ++ [1]]
    refine List.mem_flatMap.mpr ⟨_, m, ?_⟩
    rcases bl with b | b <;> rw [b] at e
    · rw [← e, List.dropLast_concat]; exact List.mem_cons_self
    · rw [← e, List.dropLast_concat]; exact List.mem_cons_of_mem _ List.mem_cons_self
theorem start_good {n : Nat} {st : List (Int × Int)} (so : stOk n st) : startD n (encSt st) = true := by
  show ((st.map fun c => PyData.tuple [.int c.1, .int c.2]).all (pairD n) && riseI ((st.map fun c => PyData.tuple [.int c.1, .int c.2]).map keyD)) = true
  rw [Bool.and_eq_true, List.map_map]
  refine ⟨?_, so.2⟩
  rw [List.all_map]
  exact List.all_eq_true.mpr fun c mc => by
    have z := so.1 c mc
    show ((decide (0 ≤ c.1) && decide (c.1 < (n : Int))) && (decide (0 ≤ c.2) && decide (c.2 < 2))) = true
    rw [decide_eq_true z.1.1, decide_eq_true z.1.2, decide_eq_true (show 0 ≤ c.2 by omega), decide_eq_true (show c.2 < 2 by omega)]
    rfl
def encPr (c : Int × Int) : PyData := .tuple [.int c.1, .int c.2]
theorem prs_dv {N : Addr → Prop} {H : Hp} {ps : List Addr} {st : List (Int × Int)} (x : PrsT H ps st) : DvAll N H (ps.map V.ref) (st.map encPr) := by
  induction x with
  | nil => exact .nil
  | cons e _ ih => exact .cons (.tup e (.cons (.int _) (.cons (.int _) .nil))) ih
theorem pairs_inj : ∀ {a b : List (Int × Int)}, a.map encPr = b.map encPr → a = b
  | [], [], _ => rfl
  | [], _ :: _, h => by cases h
  | _ :: _, [], h => by cases h
  | (x1, x2) :: a, (y1, y2) :: b, h => by
    rw [List.map_cons, List.map_cons] at h
    injection h with h1 h2
    unfold encPr at h1
    injection h1 with h1
    injection h1 with h3 h4
    injection h4 with h4 _
    injection h3 with h3
    injection h4 with h4
    have h3 : x1 = y1 := h3
    have h4 : x2 = y2 := h4
    rw [h3, h4, pairs_inj h2]
theorem encSt_inj {a b : List (Int × Int)} (h : encSt a = encSt b) : a = b := by
  unfold encSt at h
  injection h with h
  exact pairs_inj h
theorem st_dv {N : Addr → Prop} {H : Hp} {s : Addr} {ps : List Addr} {st : List (Int × Int)} (h : Rd H s (.tup (ps.map V.ref))) (pt : PrsT H ps st) : Dv N H (.ref s) (encSt st) := .tup h (prs_dv pt)
theorem sum_perm2 {A M : Mp} (s : SumIs A M) : M.Perm ((accM [] A).filter fun p => decide (p.2 ≠ 0)) := perm_of s.1 acc_nd fun p => by rw [s.2, mem_iff_get acc_nd, acc_get]
theorem sum_worth {A M : Mp} {bs : List Int} (s : SumIs A M) : worthM M bs = worthM A bs := by
  rw [worth_perm (sum_perm2 s), worth_nz, worth_acc]
theorem gM_in {k : Nat} {L : Mp} {p : List Nat × Int} (hp : p ∈ gM k L) : p.1.length ≤ k ∧ ∀ x ∈ p.1, x < k := by
  obtain ⟨r, _, rfl⟩ := List.mem_map.mp hp
  exact ⟨ones_le, fun x hx => List.mem_range.mp (List.mem_filter.mp hx).1⟩
theorem keeps_of {n : Int} {st : Stt} {bs : List Int} (so : stOk n st) (h : keepsM st bs = true) : Keeps st bs := fun c v e => by
  have m := fix_mem e
  exact ⟨of_decide_eq_true (List.all_eq_true.mp h _ m), (so.1 _ m).2⟩
theorem adds_worth {n : Nat} {st : Stt} {bks : List Pd} {bs : List Int} (bo : Bown bks) (kp : Keeps st bs) (hb : Bits bs) (hl : bs.length = n) : ∀ {ts : List Tie}, (∀ t ∈ ts, tieOk bks n t) → worthM (addsL n st bks ts) bs = totM bks ts bs
  | [], _ => rfl
  | t :: ts, h => by
    have ok := h t List.mem_cons_self
    obtain ⟨k3, own⟩ := bo _ (bk_mem ok)
    have e1 : addsL n st bks (t :: ts) = addsT n st (gM (bkI bks t).1 (ownOf (bkI bks t))) t ++ addsL n st bks ts := rfl
    have e2 : totM bks (t :: ts) bs = costT bks bs t + totM bks ts bs := rfl
    obtain ⟨o1, o2, o3, o4⟩ := ok
    have o2' : t.2.1.length = (bkI bks t).1 := o2
    have bg := row_get hb hl o3
    have lg : (t.2.1.map fun c => bs.getD c.toNat 0).length = (bkI bks t).1 := by rw [List.length_map]; exact o2'
    have mr := rows_mem2 bg lg
    rw [e1, worth_app, e2, adds_worth bo kp hb hl fun x hx => h x (List.mem_cons_of_mem _ hx), worth_adds (n := n) kp o3 (fun q hq x hx => by have := (gM_in hq).2 x hx; omega), ← worth_nz (m := gM _ _), ← worth_perm (own_perm k3 own), own.w _ mr]
    rfl

theorem adds_key {n : Nat} {st : Stt} {bks : List Pd} {ts : List Tie} {q : List Nat × Int} (h : q ∈ addsP n st bks ts) : ∃ cv, q.1 = leftM n st cv := by
  obtain ⟨t, mt, hq⟩ := List.mem_flatMap.mp h
  obtain ⟨p, mp, e⟩ := List.mem_map.mp hq
  exact ⟨_, by rw [← e]⟩
theorem val_zero {A : Mp} {k : List Nat} (h : ∀ q ∈ A, q.1 ≠ k) : valL A k = 0 := by
  unfold valL
  rw [List.filter_eq_nil_iff.mpr fun q hq => by simpa using h q hq]
  rfl
theorem sum_key {A M : Mp} (s : SumIs A M) {p : List Nat × Int} (hp : p ∈ M) : ∃ q ∈ A, q.1 = p.1 := by
  obtain ⟨e, z⟩ := (s.2 p).mp hp
  by_cases c : ∃ q ∈ A, q.1 = p.1
  · exact c
  · exfalso
    refine z (e.trans (val_zero fun q hq h => c ⟨q, hq, h⟩))
/-- the members of a puzzle's sum hold free cells only, each once -/
theorem sum_free {n : Nat} {st : Stt} {bks : List Pd} {ts : List Tie} {M : Mp} (s : SumIs (addsP n st bks ts) M) : ∀ q ∈ M, q.1.Nodup ∧ ∀ x ∈ q.1, x ∈ freeL n st := fun q hq => by
  obtain ⟨p, hp, e⟩ := sum_key s hq
  obtain ⟨cv, ec⟩ := adds_key hp
  rw [← e, ec]
  exact ⟨List.nodup_range.filter _, fun x hx => by
    obtain ⟨h1, _, h3⟩ := left_mem.mp hx
    exact free_mem.mpr ⟨h1, h3⟩⟩
/-- the bits of a row's number -/
theorem row_bit : ∀ {n i : Nat} {r : List Int}, (rowsOf n)[i]? = some r → ∀ k, k < n → r.getD k 0 = if i.testBit (n - 1 - k) = true then 1 else 0
  | 0, _, _, _, k, hk => absurd hk (Nat.not_lt_zero _)
  | n + 1, i, r, h, k, hk => by
    have two : ∀ (l : List (List Int)) (i : Nat), (l.flatMap fun r => [r ++ [0], r ++ [1]])[i]? = (l[i / 2]?).map fun r => r ++ [if i % 2 = 1 then (1 : Int) else 0] := fun l => by
      induction l with
      | nil => intro i; rfl
      | cons x l ih =>
        intro i
        rw [List.flatMap_cons]
        match i with
        | 0 => rfl
        | 1 => rfl
        | i + 2 =>
          rw [show (i + 2) / 2 = i / 2 + 1 by omega, show (i + 2) % 2 = i % 2 by omega]
          show (l.flatMap fun r => [r ++ [0], r ++ [1]])[i]? = _
          rw [ih i]
          rfl
    have h' : ((rowsOf n).flatMap fun r => [r ++ [0], r ++ [1]])[i]? = some r := h
    rw [two] at h'
    obtain ⟨s, hs, rfl⟩ := Option.map_eq_some_iff.mp h'
    have ls := row_len n s (List.mem_of_getElem? hs)
    by_cases c : k < n
    · rw [List.getD_eq_getElem?_getD, List.getElem?_append_left (by omega), ← List.getD_eq_getElem?_getD, row_bit hs k c, show n + 1 - 1 - k = (n - 1 - k) + 1 by omega, Nat.testBit_succ]
    · obtain rfl : k = n := by omega
      rw [List.getD_eq_getElem?_getD, List.getElem?_append_right (by omega), show k - s.length = 0 by omega, show k + 1 - 1 - k = 0 by omega, Nat.testBit_zero]
      show (if i % 2 = 1 then (1 : Int) else 0) = _
      by_cases d : i % 2 = 1
      · rw [if_pos d, if_pos (decide_eq_true d)]
      · rw [if_neg d, if_neg (by simpa using d)]
/-- a filling from a row of the free cells -/
def fillF (n : Nat) (st : Stt) (r : List Int) : List Int := (List.range n).map fun (k : Nat) => match fixV st k with
  | some v => v
  | none => r.getD ((freeL n st).idxOf k) 0
theorem fillF_len {n : Nat} {st : Stt} {r : List Int} : (fillF n st r).length = n := by rw [fillF, List.length_map, List.length_range]
theorem fillF_at {n : Nat} {st : Stt} {r : List Int} {k : Nat} (hk : k < n) : (fillF n st r).getD k 0 = match fixV st k with
  | some v => v
  | none => r.getD ((freeL n st).idxOf k) 0 := by
  unfold fillF
  rw [List.getD_eq_getElem?_getD, List.getElem?_map, List.getElem?_range hk]
  rfl
theorem fillF_free {n : Nat} {st : Stt} {r : List Int} {k : Nat} (hk : k ∈ freeL n st) : (fillF n st r).getD k 0 = r.getD ((freeL n st).idxOf k) 0 := by
  obtain ⟨h1, h2⟩ := free_mem.mp hk
  rw [fillF_at h1, h2]
theorem fillF_bits {n : Nat} {st : Stt} {r : List Int} (so : stOk n st) (hb : Bits r) : Bits (fillF n st r) := fun x hx => by
  obtain ⟨k, _, rfl⟩ := List.mem_map.mp hx
  cases e : fixV st (k : Int) with
  | some v => exact (so.1 _ (fix_mem e)).2
  | none =>
    show r.getD _ 0 = 0 ∨ r.getD _ 0 = 1
    rw [List.getD_eq_getElem?_getD]
    cases e2 : r[(freeL n st).idxOf k]? with
    | none => exact .inl rfl
    | some x => exact hb x (List.mem_of_getElem? e2)
theorem fix_of {n : Int} {st : Stt} (so : stOk n st) {p : Int × Int} (h : p ∈ st) : fixV st p.1 = some p.2 := by
  cases e : fixV st p.1 with
  | none => exact absurd (List.mem_map.mpr ⟨p, h, rfl⟩) (fix_none.mp e)
  | some v =>
    have m := fix_mem e
    have pw := rise_pw so.2
    have inj : ∀ {l : Stt}, (l.map (·.1)).Pairwise (· < ·) → ∀ a ∈ l, ∀ b ∈ l, a.1 = b.1 → a = b := fun {l} => by
      induction l with
      | nil => intro _ a ha; cases ha
      | cons x l ih =>
        intro h a ha b hb e
        rw [List.map_cons, List.pairwise_cons] at h
        rcases List.mem_cons.mp ha with ea | ha <;> rcases List.mem_cons.mp hb with eb | hb
        · rw [ea, eb]
        · have z := h.1 b.1 (List.mem_map.mpr ⟨b, hb, rfl⟩); rw [ea] at e; omega
        · have z := h.1 a.1 (List.mem_map.mpr ⟨a, ha, rfl⟩); rw [eb] at e; omega
        · exact ih h.2 a ha b hb e
    have := inj pw _ m _ h rfl
    rw [← this]
theorem fillF_keeps {n : Nat} {st : Stt} {r : List Int} (so : stOk n st) : keepsM st (fillF n st r) = true := by
  unfold keepsM
  rw [List.all_eq_true]
  intro c mc
  refine decide_eq_true ?_
  have cb := (so.1 c mc).1
  have e : ((c.1.toNat : Nat) : Int) = c.1 := by omega
  rw [fillF_at (show c.1.toNat < n by omega), e, fix_of so mc]
/-- a filling that keeps the start comes from its free cells -/
theorem fillF_of {n : Nat} {st : Stt} {bs : List Int} (so : stOk n st) (hl : bs.length = n) (k : keepsM st bs = true) : fillF n st ((freeL n st).map fun x => bs.getD x 0) = bs := by
  refine List.ext_getElem? fun i => ?_
  by_cases hi : i < n
  · have a : (fillF n st ((freeL n st).map fun x => bs.getD x 0))[i]? = some ((fillF n st ((freeL n st).map fun x => bs.getD x 0)).getD i 0) := by
      rw [List.getD_eq_getElem?_getD, List.getElem?_eq_getElem (by rw [fillF_len]; exact hi)]
      rfl
    have b : bs[i]? = some (bs.getD i 0) := by
      rw [List.getD_eq_getElem?_getD, List.getElem?_eq_getElem (by omega)]
      rfl
    rw [a, b, fillF_at hi]
    cases e : fixV st (i : Int) with
    | some v =>
      have kp := keeps_of so k
      obtain ⟨h1, _⟩ := kp _ _ e
      rw [Int.toNat_natCast] at h1
      rw [h1]
    | none =>
      have m : i ∈ freeL n st := free_mem.mpr ⟨hi, e⟩
      have lt := List.idxOf_lt_length_of_mem m
      show some (((freeL n st).map fun x => bs.getD x 0).getD ((freeL n st).idxOf i) 0) = _
      rw [List.getD_eq_getElem?_getD (l := (freeL n st).map _), List.getElem?_map, List.getElem?_eq_getElem lt, List.getElem_idxOf lt]
      rfl
  · rw [List.getElem?_eq_none (by rw [fillF_len]; omega), List.getElem?_eq_none (by omega)]
/-- what stands at a row is the total of its filling -/
theorem row_total {n i : Nat} {st : Stt} {bks : List Pd} {ts : List Tie} {M : Mp} {r : List Int} (so : stOk n st) (bo : Bown bks) (ok : ∀ x ∈ ts, tieOk bks n x) (s : SumIs (addsP n st bks ts) M) (hr : (rowsOf (freeL n st).length)[i]? = some r) : wB (freeL n st) M (freeL n st).length i = totM bks ts (fillF n st r) := by
  have lr := row_len _ r (List.mem_of_getElem? hr)
  have s2 : SumIs (addsL n st bks ts) M := ⟨s.1, fun p => by rw [s.2, val_same bo ok]⟩
  have kp := keeps_of so (fillF_keeps (r := r) so)
  rw [← adds_worth bo kp (fillF_bits so (bits_rows _ r (List.mem_of_getElem? hr))) fillF_len ok, ← sum_worth s2, worth_lin]
  unfold wB linF
  congr 1
  refine List.map_congr_left fun q hq => ?_
  obtain ⟨_, qf⟩ := sum_free s q hq
  show q.2 * (if agr (freeL n st) (freeL n st).length i q.1 = true then (1 : Int) else 0) = q.2 * (if onR (fillF n st r) q.1 = true then (1 : Int) else 0)
  have e : agr (freeL n st) (freeL n st).length i q.1 = onR (fillF n st r) q.1 := by
    rw [Bool.eq_iff_iff, agr_iff, onR_iff]
    have at_ : ∀ x ∈ q.1, ((fillF n st r).getD x 0 = 1 ↔ i.testBit ((freeL n st).length - 1 - (freeL n st).idxOf x) = true) := fun x hx => by
      have lt := List.idxOf_lt_length_of_mem (qf x hx)
      rw [fillF_free (qf x hx), row_bit hr _ lt]
      cases i.testBit ((freeL n st).length - 1 - (freeL n st).idxOf x) <;> simp
    constructor
    · intro h x hx
      obtain ⟨h1, h2⟩ := letP_idx (qf x hx)
      have z := h _ h1
      rw [if_pos h1, h2] at z
      exact (at_ x hx).mpr (z hx)
    · intro h p hp
      rw [if_pos hp]
      intro m
      have z := (at_ _ m).mp (h _ m)
      have z2 := letP_idx (qf _ m)
      rw [letP_inj free_nd z2.1 hp z2.2] at z
      exact z
  rw [e]
/-! ### the least of some -/
def Least (S : Int → Prop) (m : Int) : Prop := S m ∧ ∀ y, S y → m ≤ y
theorem Least.eq {S : Int → Prop} {a b : Int} (x : Least S a) (y : Least S b) : a = b := Int.le_antisymm (x.2 _ y.1) (y.2 _ x.1)
def lstM (l : List Int) : Option Int := l.foldl (fun o x => some (min x (o.getD x))) none
theorem lst_snoc {l : List Int} {x : Int} : lstM (l ++ [x]) = some (min x ((lstM l).getD x)) := by
  unfold lstM
  rw [List.foldl_append]
  rfl
theorem lst_least : ∀ (n : Nat) (l : List Int), l.length = n → l ≠ [] → ∃ m, lstM l = some m ∧ Least (· ∈ l) m
  | 0, l, h, ne => absurd (List.length_eq_zero_iff.mp h) ne
  | n + 1, l, h, ne => by
    obtain ⟨a, x, rfl⟩ := list_snoc ne
    rw [List.length_append, List.length_singleton] at h
    rw [lst_snoc]
    by_cases c : a = []
    · subst c
      refine ⟨_, rfl, ?_⟩
      show Least _ (min x x)
      rw [Int.min_self]
      exact ⟨List.mem_append_right _ List.mem_cons_self, fun y hy => by
        rcases List.mem_append.mp hy with m | m
        · cases m
        · rw [List.mem_singleton.mp m]; exact Int.le_refl _⟩
    · obtain ⟨m, e, h1, h2⟩ := lst_least n a (by omega) c
      rw [e]
      refine ⟨_, rfl, ?_, fun y hy => ?_⟩
      · show min x m ∈ a ++ [x]
        rcases Int.le_total x m with d | d
        · rw [Int.min_eq_left d]; exact List.mem_append_right _ List.mem_cons_self
        · rw [Int.min_eq_right d]; exact List.mem_append_left _ h1
      · show min x m ≤ y
        rcases List.mem_append.mp hy with z | z
        · exact Int.le_trans (Int.min_le_right _ _) (h2 y z)
        · rw [List.mem_singleton.mp z]; exact Int.min_le_left _ _
/-- totals of the fillings that keep the start and give the cells v -/
def wrS (n : Nat) (st : Stt) (bks : List Pd) (ts : List Tie) (cs : List Int) (v : List Int) (y : Int) : Prop := ∃ bs ∈ rowsOf n, keepsM st bs = true ∧ (cs.map fun c => bs.getD c.toNat 0) = v ∧ y = totM bks ts bs
def WrIs (n : Nat) (st : Stt) (bks : List Pd) (ts : List Tie) (cs ms : List Int) : Prop := ms.length = 2 ^ cs.length ∧ ∀ (j : Nat) (v : List Int), (rowsOf cs.length)[j]? = some v → ∃ m : Int, ms[j]? = some m ∧ Least (wrS n st bks ts cs v) m
theorem WrIs.eq {n : Nat} {st : Stt} {bks : List Pd} {ts : List Tie} {cs a b : List Int} (x : WrIs n st bks ts cs a) (y : WrIs n st bks ts cs b) : a = b := by
  refine List.ext_getElem? fun j => ?_
  by_cases h : j < 2 ^ cs.length
  · have lt : j < (rowsOf cs.length).length := by rw [rows_len]; exact h
    have hv := List.getElem?_eq_getElem lt
    obtain ⟨m, e1, l1⟩ := x.2 j _ hv
    obtain ⟨k, e2, l2⟩ := y.2 j _ hv
    rw [e1, e2, l1.eq l2]
  · rw [List.getElem?_eq_none (by rw [x.1]; omega), List.getElem?_eq_none (by rw [y.1]; omega)]
end CP

namespace CP
open PySem PySem.Spec PyProof.Rows L2 Ek CC CS

theorem for_zipM {p q : Bool} {K : PySem.W.Frag} {a b : Addr} {xs ys : List V} {n : Nat} {g : TG} {tb : TS} {D : Ends} {σ : L2.St} {H : Hp} (nx : n ≤ xs.length) (ny : n ≤ ys.length) (ne : xs.length ≤ n ∨ ys.length ≤ n) (Pv : Nat → L2.St → Hp → Prop) (h0 : Pv 0 σ H) (hl : ∀ i σ H, i ≤ n → Pv i σ H → SqB p K H a xs ∧ SqB q K H b ys)
    (hs : ∀ i x y σ H T, i < n → xs[i]? = some x → ys[i]? = some y → Pv i σ H → H T = none → g (.ref T) σ (upd H T (.tup [x, y])) fun σ2 H2 => tb { D with nx := Pv (i + 1), ct := Pv (i + 1), bk := D.nx } σ2 H2) (hd : ∀ σ H, Pv n σ H → D.nx σ H) :
    ∃ W : Nat → Nat → L2.St → Hp → Prop, (∃ m, W 0 m σ H) ∧ ∀ i m σ H, W i m σ H →
      ((ItzM p q K a b).stop i H ∧ D.nx σ H) ∨ ((ItzM p q K a b).go i H ∧ ∃ N : L2.St → Hp → Prop, (∀ σ' H', N σ' H' → ∃ m', m' < m ∧ W (i + 1) m' σ' H') ∧ ∀ x H', (ItzM p q K a b).yld i H x H' → g x σ H' fun σ2 H2 => tb { D with nx := N, ct := N, bk := D.nx } σ2 H2) := by
  refine ⟨fun i m σ H => i + m = n ∧ Pv i σ H, ⟨n, by omega, h0⟩, fun i m σ H ⟨em, pv⟩ => ?_⟩
  obtain ⟨q1, q2⟩ := hl i σ H (by omega) pv
  by_cases lt : i < n
  · refine .inr ⟨⟨xs, ys, xs[i], ys[i], q1, q2, List.getElem?_eq_getElem (by omega), List.getElem?_eq_getElem (by omega)⟩, Pv (i + 1), fun σ' H' p' => ⟨m - 1, by omega, by omega, p'⟩, fun x H' y => ?_⟩
    obtain ⟨T, x1, y1, rfl, nT, rfl, gx, gy⟩ := y
    exact hs i x1 y1 σ H T lt (gx xs q1) (gy ys q2) pv nT
  · obtain rfl : i = n := by omega
    exact .inl ⟨⟨xs, ys, q1, q2, ne⟩, hd σ H pv⟩
/-- a dict of least numbers, its keys rows -/
def FmAt (H : Hp) (d : Addr) (f : List Int → Option Int) (b : Nat) : Prop := ∃ kvs : List (List L2.Key × V), H d = some (.dT kvs) ∧ kvs.length ≤ b ∧ ∀ v : List Int, valV kvs (v.map Sum.inl) = (f v).map V.int
theorem kv_ints {v : List Int} : (v.map (Sum.inl : Int → L2.Key)).map kV = v.map V.int := by
  rw [List.map_map]
  rfl
theorem inl_inj : ∀ {a b : List Int}, a.map (Sum.inl : Int → L2.Key) = b.map Sum.inl → a = b
  | [], [], _ => rfl
  | [], _ :: _, h => by cases h
  | _ :: _, [], h => by cases h
  | x :: a, y :: b, h => by
    rw [List.map_cons, List.map_cons] at h
    injection h with h1 h2
    rw [Sum.inl.inj h1, inl_inj h2]
theorem getV {o : Option Int} {x : Int} : (o.map V.int).getD (V.int x) = V.int (o.getD x) := by cases o <;> rfl
theorem FmAt.get {H : Hp} {d a : Addr} {f : List Int → Option Int} {b : Nat} {v : List Int} (x : FmAt H d f b) (ha : H a = some (.tup (v.map V.int))) : DGet H d (.ref a) ((f v).map V.int) := by
  obtain ⟨kvs, h1, _, h3⟩ := x
  rw [← h3]
  exact DGet.t (k := v.map Sum.inl) h1 (by rw [kv_ints]; exact ha)
theorem FmAt.isD {H : Hp} {d : Addr} {f : List Int → Option Int} {b : Nat} (x : FmAt H d f b) : IsD H d := by
  obtain ⟨kvs, h1, _⟩ := x
  exact isD_dT h1
/-- a key put -/
theorem FmAt.put {H : Hp} {d a : Addr} {f : List Int → Option Int} {b : Nat} {v : List Int} {n : Int} (x : FmAt H d f b) (hb : b ≤ 900) (ha : H a = some (.tup (v.map V.int))) : ∃ H', DPut H d (.ref a) (.int n) H' ∧ (∀ c o, c ≠ d → H c = some o → H' c = some o) ∧ FmAt H' d (fun u => if u = v then some n else f u) (b + 1) := by
  obtain ⟨kvs, h1, h2, h3⟩ := x
  refine ⟨upd H d (.dT (putK kvs (v.map Sum.inl) (.int n))), .inr ⟨kvs, v.map Sum.inl, a, h1, rfl, by rw [kv_ints]; exact ha, small1000 (by omega), rfl⟩, fun c o nc e => by rw [upd_ne nc]; exact e, _, upd_same, ?_, fun u => ?_⟩
  · have := length_putK kvs (v.map Sum.inl) (V.int n)
    omega
  · rw [valV_put, h3]
    show _ = Option.map V.int (if u = v then some n else f u)
    by_cases c : u = v
    · rw [if_pos (by rw [c]), if_pos c]
      rfl
    · rw [if_neg fun z => c (inl_inj z), if_neg c]
/-- cells that may be, as numbers -/
theorem cells_at {fs : List Nat} {cs : List Int} (h : cellsD fs (.tuple (cs.map .int)) = true) : 1 ≤ cs.length ∧ cs.length ≤ 3 ∧ (∀ c ∈ cs, c ∈ fs.map fun (n : Nat) => (n : Int)) ∧ cs.Nodup := by
  have e : ((decide (1 ≤ (cs.map PyData.int).length) && decide ((cs.map PyData.int).length ≤ 3)) && (((cs.map PyData.int).all fun d => isIntD d && decide (intOf d ∈ fs.map fun (n : Nat) => (n : Int))) && decide ((cs.map PyData.int).map intOf).Nodup)) = true := h
  rw [int_of, List.length_map] at e
  simp only [Bool.and_eq_true, decide_eq_true_iff] at e
  refine ⟨e.1.1, e.1.2, fun c hc => ?_, e.2.2⟩
  have z := List.all_eq_true.mp e.2.1 (.int c) (List.mem_map.mpr ⟨c, hc, rfl⟩)
  rw [Bool.and_eq_true] at z
  exact of_decide_eq_true z.2
theorem cells_data {N : Addr → Prop} {H : Hp} {v : V} {d : PyData} {fs : List Nat} (x : Dv N H v d) (h : cellsD fs d = true) : ∃ (a : Addr) (cs : List Int), v = .ref a ∧ d = .tuple (cs.map .int) ∧ Rd H a (.tup (cs.map V.int)) := by
  have et : isTupD d = true := by cases d <;> first | rfl | cases h
  cases x with
  | @tup a xs ds hr p =>
    have e : ((decide (1 ≤ ds.length) && decide (ds.length ≤ 3)) && ((ds.all fun d => isIntD d && decide (intOf d ∈ fs.map fun (n : Nat) => (n : Int))) && decide (ds.map intOf).Nodup)) = true := h
    simp only [Bool.and_eq_true] at e
    obtain ⟨ns, rfl, rfl⟩ := ints_all p (by
      rw [List.all_eq_true]
      intro d hd
      have z := List.all_eq_true.mp e.2.1 d hd
      rw [Bool.and_eq_true] at z
      exact z.1)
    exact ⟨_, ns, rfl, rfl, hr⟩
  | _ => cases et
/-- a row's part at some places -/
abbrev prj (fs : List Nat) (cs r : List Int) : List Int := cs.map fun c => r.getD ((fs.map fun (n : Nat) => (n : Int)).idxOf c) 0
theorem idx_cast {fs : List Nat} {k : Nat} : (fs.map fun (n : Nat) => (n : Int)).idxOf (k : Int) = fs.idxOf k := by
  induction fs with
  | nil => rfl
  | cons x fs ih =>
    rw [List.map_cons, List.idxOf_cons, List.idxOf_cons, ih]
    by_cases c : x = k
    · rw [c]; simp
    · have c2 : ((x : Int) == (k : Int)) = false := beq_eq_false_iff_ne.mpr (by omega)
      have c3 : (x == k) = false := beq_eq_false_iff_ne.mpr c
      rw [c2, c3]
theorem prj_fill {n : Nat} {st : Stt} {cs r : List Int} (hc : ∀ c ∈ cs, c ∈ (freeL n st).map fun (n : Nat) => (n : Int)) : prj (freeL n st) cs r = cs.map fun c => (fillF n st r).getD c.toNat 0 := by
  refine List.map_congr_left fun c mc => ?_
  obtain ⟨k, mk, rfl⟩ := List.mem_map.mp (hc c mc)
  rw [idx_cast, Int.toNat_natCast, fillF_free mk]
/-- the numbers of the rows so far with the part v -/
def parW (fs : List Nat) (cs : List Int) (M : Mp) (i : Nat) (v : List Int) : List Int := ((List.range i).filter fun j => decide (prj fs cs ((rowsOf fs.length).getD j []) = v)).map (wB fs M fs.length)
theorem par_next {fs : List Nat} {cs : List Int} {M : Mp} {i : Nat} {r : List Int} (hr : (rowsOf fs.length)[i]? = some r) (v : List Int) : lstM (parW fs cs M (i + 1) v) = if v = prj fs cs r then some (min (wB fs M fs.length i) ((lstM (parW fs cs M i v)).getD (wB fs M fs.length i))) else lstM (parW fs cs M i v) := by
  have e : (rowsOf fs.length).getD i [] = r := by rw [List.getD_eq_getElem?_getD, hr]; rfl
  unfold parW
  rw [List.range_succ, List.filter_append, List.map_append]
  by_cases c : v = prj fs cs r
  · rw [if_pos c, List.filter_cons_of_pos (by rw [e]; exact decide_eq_true c.symm)]
    exact lst_snoc
  · rw [if_neg c, List.filter_cons_of_neg (by rw [e]; exact fun z => c (of_decide_eq_true z).symm)]
    rw [List.filter_nil, List.map_nil, List.append_nil]
theorem par_least {n : Nat} {st : Stt} {bks : List Pd} {ts : List Tie} {M : Mp} {cs v : List Int} (so : stOk n st) (bo : Bown bks) (ok : ∀ x ∈ ts, tieOk bks n x) (s : SumIs (addsP n st bks ts) M) (hc : ∀ c ∈ cs, c ∈ (freeL n st).map fun (n : Nat) => (n : Int)) (nd : cs.Nodup) (hv : v ∈ rowsOf cs.length) :
    ∃ m, lstM (parW (freeL n st) cs M (2 ^ (freeL n st).length) v) = some m ∧ Least (wrS n st bks ts cs v) m := by
  have lv := row_len _ v hv
  have bv := bits_rows _ v hv
  have mem : ∀ y, y ∈ parW (freeL n st) cs M (2 ^ (freeL n st).length) v ↔ wrS n st bks ts cs v y := fun y => by
    unfold parW wrS
    rw [List.mem_map]
    constructor
    · rintro ⟨j, hj, rfl⟩
      obtain ⟨h1, h2⟩ := List.mem_filter.mp hj
      have lt : j < (rowsOf (freeL n st).length).length := by rw [rows_len]; exact List.mem_range.mp h1
      have hr : (rowsOf (freeL n st).length)[j]? = some (rowsOf (freeL n st).length)[j] := List.getElem?_eq_getElem lt
      have e : (rowsOf (freeL n st).length).getD j [] = (rowsOf (freeL n st).length)[j] := by rw [List.getD_eq_getElem?_getD, hr]; rfl
      rw [e, decide_eq_true_iff] at h2
      generalize (rowsOf (freeL n st).length)[j] = r at hr h2
      refine ⟨fillF n st r, rows_mem2 (fillF_bits so (bits_rows _ r (List.mem_of_getElem? hr))) fillF_len, fillF_keeps so, ?_, row_total so bo ok s hr⟩
      rw [← prj_fill hc]
      exact h2
    · rintro ⟨bs, mb, kb, ev, rfl⟩
      have lb := row_len n bs mb
      have bb := bits_rows n bs mb
      have ef := fillF_of so lb kb
      have mr : ((freeL n st).map fun x => bs.getD x 0) ∈ rowsOf (freeL n st).length := rows_mem2 (fun x hx => by
        obtain ⟨k, mk, rfl⟩ := List.mem_map.mp hx
        rw [List.getD_eq_getElem?_getD]
        cases e2 : bs[k]? with
        | none => exact .inl rfl
        | some x => exact bb x (List.mem_of_getElem? e2)) (List.length_map ..)
      generalize ((freeL n st).map fun x => bs.getD x 0) = r at ef mr
      obtain ⟨j, hj⟩ := List.getElem?_of_mem mr
      refine ⟨j, List.mem_filter.mpr ⟨List.mem_range.mpr (by rw [← rows_len]; exact (List.getElem?_eq_some_iff.mp hj).1), decide_eq_true ?_⟩, ?_⟩
      · rw [show (rowsOf (freeL n st).length).getD j [] = r by rw [List.getD_eq_getElem?_getD, hj]; rfl, prj_fill hc, ef]
        exact ev
      · rw [row_total so bo ok s hj, ef]
  have ne : parW (freeL n st) cs M (2 ^ (freeL n st).length) v ≠ [] := by
    -- a row with this part
    have some_row : ∃ bs ∈ rowsOf n, keepsM st bs = true ∧ (cs.map fun c => bs.getD c.toNat 0) = v := by
      refine ⟨fillF n st ((freeL n st).map fun (k : Nat) => v.getD (cs.idxOf (k : Int)) 0), rows_mem2 (fillF_bits so fun x hx => ?_) fillF_len, fillF_keeps so, ?_⟩
      · obtain ⟨k, mk, rfl⟩ := List.mem_map.mp hx
        rw [List.getD_eq_getElem?_getD]
        cases e2 : v[cs.idxOf (k : Int)]? with
        | none => exact .inl rfl
        | some x => exact bv x (List.mem_of_getElem? e2)
      · refine List.ext_getElem? fun i => ?_
        by_cases hi : i < cs.length
        · have hci : cs[i]? = some cs[i] := List.getElem?_eq_getElem hi
          have hvi : v[i]? = some v[i] := List.getElem?_eq_getElem (by omega)
          rw [List.getElem?_map, hci, hvi]
          obtain ⟨k, mk, ek⟩ := List.mem_map.mp (hc cs[i] (List.getElem_mem _))
          have ek' : (k : Int) = cs[i] := ek
          show some ((fillF n st _).getD cs[i].toNat 0) = some v[i]
          rw [← ek', Int.toNat_natCast, fillF_free mk]
          have lt := List.idxOf_lt_length_of_mem mk
          rw [List.getD_eq_getElem?_getD (l := (freeL n st).map _), List.getElem?_map, List.getElem?_eq_getElem lt, List.getElem_idxOf lt]
          show some (v.getD (cs.idxOf (k : Int)) 0) = _
          have ei : cs.idxOf (k : Int) = i := by
            rw [ek']
            exact List.Nodup.idxOf_getElem nd i hi
          rw [ei, List.getD_eq_getElem?_getD, hvi]
          rfl
        · rw [List.getElem?_eq_none (by rw [List.length_map]; omega), List.getElem?_eq_none (by omega)]
    obtain ⟨bs, h1, h2, h3⟩ := some_row
    exact List.ne_nil_of_mem ((mem _).mpr ⟨bs, h1, h2, h3, rfl⟩)
  obtain ⟨m, e, l1, l2⟩ := lst_least _ _ rfl ne
  exact ⟨m, e, (mem m).mp l1, fun y hy => l2 y ((mem y).mpr hy)⟩
end CP

namespace CP
open PySem PySem.Spec PyProof.Rows L2 Ek CC CS
section
variable {P : Program} {w : World} {K : PySem.W.Frag} {mg : Str → Option Value} {base : Heap}
theorem ok_XCe {f : Addr} {fd : FuncData} (F : Fun K "__init__" "InvalidCells.__init__" sXCe f fd) : FnOk P w K mg base CX0 1 f fd ["self", "value"] (spXf K "value") := by
  refine F.ok scXCe (fun vs H Q E h => ?_) (fun cdv A outer s H vs Q E hr h => ?_)
  · obtain ⟨a, C, y, rfl, _⟩ := h
    rfl
  · obtain ⟨a, C, y, rfl, T, hno, ha, q⟩ := h
    exact ⟨_, pss_one (ps_ost (pv 0) (pv 1)), y, rfl, .ref a, rfl, a, C, rfl, T, hno, .inl ⟨ha, fun d nd ne => q d _ (x1_end nd ne).1 nd ne upd_same (by rw [upd_ne ne, upd_same])⟩⟩
def spWrP (K : PySem.W.Frag) (C CB CP CT CX : Addr) : Sp := fun vs H Q E => ∃ (z : Addr) (bks : List Pd) (n : Nat) (ts : List Tie) (N N2 : Addr → Prop) (vc v : V) (dc d : PyData), vs = [.ref z, vc, v] ∧ PzAt C CB CP H z bks n ts ∧ n ≤ 8 ∧ ts.length ≤ 20 ∧ (∀ t ∈ ts, t.2.2 < 2 ^ 64) ∧ Dv N H vc dc ∧ (∀ ds, dc = .tuple ds → ds.length ≤ 200) ∧ Sv K N2 H v d ∧ (∀ ds, d = .tuple ds → ds.length ≤ 200) ∧
  (startD n d = false → ∀ x H', Same H H' → H' x = some (.xd [("value", v)]) → E (.ref CT) (some x) H') ∧
  (∀ st, d = encSt st → stOk n st → (cellsD (freeL n st) dc = false → ∀ x H', Same H H' → H' x = some (.xd [("value", vc)]) → E (.ref CX) (some x) H') ∧
    (∀ cs : List Int, dc = .tuple (cs.map .int) → cellsD (freeL n st) dc = true → ∀ H' x ms, Same H H' → PrAt C H' x cs.length ms → WrIs n st bks ts cs ms → Q (.ref x) H'))
theorem ok_WrP {f fX C CB CP CT CX fPI : Addr} {fd fdX fdPI : FuncData} {aE : Addr} (F : FunD K "written_price" "written_price" (defArgs sWrP) (defBody sWrP) (defScope sWrP) [V.ref aE] [] f fd) (B : Bt mg) (T : Pc K mg C) (TP : Pzc K mg CP) (XCe : Xc K mg "InvalidCells" "value" CX) (XCei : PySem.W.findIn K (.ref CX) "__init__" = some (some (.ref fX))) (XCet : PySem.W.typeIn K (.ref fX) = some (.type "function")) (XCeG : FnOk P w K mg base CX0 1 fX fdX ["self", "value"] (spXf K "value")) (XCeb : Binds K fdX ["self", "value"] [])
    {fSmO : Addr} {fdSmO : FuncData} (GSmO : FnOk P w K mg base (L2.CX P w) 7 fSmO fdSmO ["puzzle", "start"] (spSmO K C CB CP CT)) (kSmO : PySem.W.keepIn K (.ref fSmO) = true) (bSmO : Binds K fdSmO ["puzzle", "start"] []) (gSmO : mg "sum_of" = some (.ref fSmO)) {fFrC : Addr} {fdFrC : FuncData} (GFrC : FnOk P w K mg base CX0 1 fFrC fdFrC ["puzzle", "start"] (spFrC K CP)) (kFrC : PySem.W.keepIn K (.ref fFrC) = true) (bFrC : Binds K fdFrC ["puzzle", "start"] []) (gFrC : mg "free_cells" = some (.ref fFrC)) {fArC : Addr} {fdArC : FuncData} (GArC : FnOk P w K mg base CX0 2 fArC fdArC ["value", "free"] (spArC K)) (kArC : PySem.W.keepIn K (.ref fArC) = true) (bArC : Binds K fdArC ["value", "free"] []) (gArC : mg "_are_cells" = some (.ref fArC)) {fRO : Addr} {fdRO : FuncData} (GRO : FnOk P w K mg base CX0 1 fRO fdRO ["size"] spRO8) (kRO : PySem.W.keepIn K (.ref fRO) = true) (bRO : Binds K fdRO ["size"] []) (gRO : mg "rows_of" = some (.ref fRO)) {fWrs : Addr} {fdWrs : FuncData} (GWrs : FnOk P w K mg base CX0 1 fWrs fdWrs ["told", "letters"] (spWrs K)) (kWrs : PySem.W.keepIn K (.ref fWrs) = true) (bWrs : Binds K fdWrs ["told", "letters"] []) (gWrs : mg "worths" = some (.ref fWrs)) (M : Mk K C fPI) (GPI : FnOk P w K mg base CX0 3 fPI fdPI ["self", "size", "amounts"] (spPI0 C)) (bPI : Binds K fdPI ["self", "size", "amounts"] []) : FnOk P w K mg base (L2.CX P w) 8 f fd ["puzzle", "cells", "start"] (spWrP K C CB CP CT CX) := by
  refine F.ok (CX := L2.CX P w) scWrP (fun vs H Q E h => ?_) (fun cdv A outer s H vs Q E hr h => ?_)
  · obtain ⟨z, bks, n, ts, N, N2, vc, v, dc, d, rfl, _⟩ := h
    rfl
  · obtain ⟨z, bks, n, ts, N, N2, vc, v, dc, d, rfl, pz, n8, l20, tb, dvc, lc200, sv, l200, qe, q⟩ := h
    obtain ⟨dx, b, t, as, hz, bk, ht0, ti, ok, lt⟩ := id pz
    refine ⟨_, (pss_cons (ps_set (i := 3) scWrP.nd rfl (.inl rfl) (pe_call GSmO (hr.mono (by decide)) (by rfl) gSmO kSmO bSmO .nil (passes_call (takes_of rfl rfl rfl rfl) (fun _ _ _ _ z => z)) (pa_cons (pv 0) (pa_cons (pv 2) pa_nil))))
      (pss_cons (ps_set (i := 4) scWrP.nd rfl (.inr rfl) (pe_call GFrC (hr.mono (by decide)) (by rfl) gFrC kFrC bFrC .nil pass0 (pa_cons (pv 0) (pa_cons (pv 2) pa_nil))))
      (pss_cons (ps_if (pt_not (pt_val (pe_call GArC (hr.mono (by decide)) (by rfl) gArC kArC bArC .nil pass0 (pa_cons (pv 1) (pa_cons (pv 4) pa_nil)))))
      (pss_one (ps_raise rfl (takes_of rfl rfl rfl rfl) (pmk_oex (CX := CX0) XCe.o XCei XCet XCeG (hr.mono (by decide)) XCeb .nil pass0 (by rfl) XCe.g (pa_cons (pv 1) pa_nil)))) pss_nil)
      (pss_cons (ps_setLc (i := 5) (own := [("cell", 10)]) (g := gName 10) (tt := tYes) rfl scWrP.nd rfl rfl (sw_true rfl rfl rfl (by decide +kernel)) (pi_tup (pv 1)) (blkOk_by (N := NWrP) (sc := defScope sWrP) (by decide +kernel)) (fun _ _ _ _ _ => pg_name (i := 10) scWrP.nd rfl (Or.inl rfl)) (fun _ _ _ _ _ => pts_nil) (fun _ _ _ _ _ => (pe_bmF PySem.F.plainAttrs_tuple PySem.F.slot_tuple_index PySem.F.type_tuple_index (mt_indexF K rfl) (pv 4) (pa_cons (pv 10) pa_nil))))
      (pss_cons (ps_set (i := 6) scWrP.nd rfl (.inr rfl) pe_dnewT)
      (pss_cons (ps_for (passes_of rfl) rfl (pi_zipM true false (by rfl) B.zip (pa_cons (pe_call GRO (hr.mono (by decide)) (by rfl) gRO kRO bRO .nil pass0 (pa_cons (pe_callB call_len_seq (by rfl) B.len PySem.boot_len (pa_cons (pv 4) pa_nil)) pa_nil)) (pa_cons (pe_call GWrs (hr.mono (by decide)) (by rfl) gWrs kWrs bWrs .nil pass0 (pa_cons (pv 3) (pa_cons (pv 4) pa_nil))) pa_nil))) (pg_tup (by rfl) (pgs_cons (pg_name (i := 7) scWrP.nd rfl (.inr rfl)) (pgs_cons (pg_name (i := 8) scWrP.nd rfl (.inl rfl)) pgs_nil)))
      (pss_cons (ps_set (i := 9) scWrP.nd rfl (.inl rfl) (pe_callTy call_tuple_of (by rfl) B.tuple (by decide +kernel) (pa_cons (pe_lc (own := [("place", 11)]) (g := gName 11) (tt := tYes) rfl scWrP.nd (pi_list (pv 5)) (blkOk_by (N := NWrP) (sc := defScope sWrP) (by decide +kernel)) (fun _ _ _ _ _ => pg_name (i := 11) scWrP.nd rfl (Or.inl rfl)) (fun _ _ _ _ _ => pts_nil) (fun _ _ _ _ _ => (pe_ix (ixt_k K rfl) (pv 7) (pv 11) (fun _ _ => rfl)))) pa_nil)))
      (pss_one (ps_dput (ru1 hr) (pv 6) (pv 9) (pe_callB (call_min2 rfl) (by rfl) B.min (by decide +kernel) (pa_cons (pv 8) (pa_cons (pe_dget2 (ru1 hr) (pv 6) (pv 9) (pv 8) ⟨rfl, rfl, rfl, rfl⟩) pa_nil))) rfl))))
      (pss_one (ps_ret (pe_make M GPI (hr.mono (by decide)) (by rfl) T.g bPI .nil pass0 (pa_cons (pe_callB call_len_seq (by rfl) B.len PySem.boot_len (pa_cons (pv 1) pa_nil)) (pa_cons (pe_lc (own := [("values", 9)]) (g := gName 9) (tt := tYes) rfl scWrP.nd (pi_tup (pe_call GRO (hr.mono (by decide)) (by rfl) gRO kRO bRO .nil pass0 (pa_cons (pe_callB call_len_seq (by rfl) B.len PySem.boot_len (pa_cons (pv 1) pa_nil)) pa_nil))) (blkOk_by (N := NWrP) (sc := defScope sWrP) (by decide +kernel)) (fun _ _ _ _ _ => pg_name (i := 9) scWrP.nd rfl (Or.inl rfl)) (fun _ _ _ _ _ => pts_nil) (fun _ _ _ _ _ => (pe_dget (ru1 hr) (pv 6) (pv 9) (fun _ _ => rfl)))) pa_nil))))))))))), ?_⟩
    -- told
    refine q_seq (q_set ?_)
    refine ⟨.ref z, rfl, v, rfl, z, bks, n, ts, N2, v, d, rfl, pz, l20, tb, sv, l200, fun es x H' s' hx => qe es x H' s' hx, fun st ed so H1 tt pps Mm s1 htt mb isM bo => ?_⟩
    obtain ⟨q0, q1⟩ := q st ed so
    obtain ⟨st', sa, so', ed'⟩ := start_of sv (by rw [ed]; exact start_good so)
    obtain rfl : st = st' := encSt_inj (ed.symm.trans ed')
    have ls : st.length ≤ 200 := by
      have := l200 _ ed
      rwa [List.length_map] at this
    dsimp only
    -- free
    refine q_seq (q_set ?_)
    refine ⟨.ref z, rfl, v, rfl, C, CB, z, bks, n, ts, v, st, rfl, pz.same s1, by omega, sa.same s1, ls, fun H2 fr o s2 od hf => ?_⟩
    have s12 := s1.trans s2
    have m8 : (freeL n st).length ≤ 8 := Nat.le_trans free_len n8
    dsimp only
    refine q_seq (q_if ?_)
    refine ⟨vc, rfl, .ref fr, rfl, N, vc, dc, fr, freeL n st, rfl, dvc.same s12, lc200, .inl (.inr ⟨o, hf⟩), fun H3 s3 => ⟨_, rfl, ?_⟩⟩
    have s13 := s12.trans s3
    cases ec : cellsD (freeL n st) dc with
    | false => exact ⟨vc, rfl, by show 1 ≤ 1000; decide, raise_end XCe.o XCe.no fun x H' s' nd hd => q0 ec x H' (s13.trans s') hd⟩
    | true =>
    obtain ⟨ca, cs, rfl, rfl, hca⟩ := cells_data (dvc.same s13) ec
    obtain ⟨k1, k3, hc, ndc⟩ := cells_at ec
    have q1 := q1 cs rfl ec
    refine q_next ?_
    dsimp only
    -- places
    have hf3 := s3 _ _ hf
    have fsI : lV (freeL n st) = ((freeL n st).map fun (n : Nat) => (n : Int)).map V.int := by rw [List.map_map]; rfl
    have hf3' : SqT K H3 fr (((freeL n st).map fun (n : Nat) => (n : Int)).map V.int) := by rw [← fsI]; exact .inl (.inr ⟨o, hf3⟩)
    refine q_seq (q_set ?_)
    refine ⟨.ref ca, rfl, ca, rfl, ⟨_, .inl hca⟩, fun D nD => lc_tup (K := K) (a := ca) (xs := cs.map V.int) (fun i H' => Same H3 H' ∧ H' D = some (.lst (((cs.take i).map fun c => ((((freeL n st).map fun (n : Nat) => (n : Int)).idxOf c : Nat) : Int)).map V.int))) ⟨same_upd nD, upd_same⟩ (fun i H' _ hP => .inl (rd_same hP.1 hca)) (fun i x H' hx hP => ?_) (fun H4 hP => ?_)⟩
    · obtain ⟨s', hD⟩ := hP
      obtain ⟨c, rfl, hcc⟩ := int_at hx
      refine ⟨rfl, .ref fr, rfl, ⟨fr, o, _, rfl, od, s' _ _ hf3⟩, .int c, rfl, fr, _, c, rfl, rfl, CS.sqT_same s' hf3', hc c (List.mem_of_getElem? hcc), _, hD, ?_, fun b o e => ?_, ?_⟩
      · rw [List.length_map, List.length_map, List.length_take]
        exact small1000 (by omega)
      · rw [upd_ne (ne_of_none e nD)]
        exact s' _ _ e
      · rw [upd_same, List.take_add_one, hcc, List.map_append, List.map_append]
        rfl
    obtain ⟨s4, hD⟩ := hP
    rw [List.length_map, List.take_length] at hD
    have s14 := s13.trans s4
    have hca4 := rd_same s4 hca
    have hf4 := s4 _ _ hf3
    have htt4 := (s2.trans (s3.trans s4)) _ _ htt
    have mb4 := mb.same (s2.trans (s3.trans s4))
    dsimp only
    -- least
    refine q_seq (q_set (fun dd ndd => ?_))
    have sd := same_upd (o := .dT []) ndd
    have hdd : FmAt (upd H4 dd (.dT [])) dd (fun v => lstM (parW (freeL n st) cs Mm 0 v)) 0 := ⟨[], upd_same, Nat.le_refl 0, fun v => rfl⟩
    generalize upd H4 dd (.dT []) = H5 at sd hdd ⊢
    dsimp only
    refine q_seq ?_
    have lfr : (lV (freeL n st)).length = (freeL n st).length := List.length_map ..
    refine ⟨.ref fr, rfl, fr, lV (freeL n st), rfl, .inr (.inl (.inr ⟨o, sd _ _ hf4⟩)), ?_⟩
    rw [lfr]
    refine ⟨(freeL n st).length, rfl, m8, fun H6 R rs s6 nR hR rwR => ?_⟩
    have s46 := sd.trans s6
    refine ⟨.ref tt, rfl, .ref fr, rfl, tt, fr, pps, Mm, freeL n st, rfl, .inl (.inl (s46 _ _ htt4)), mb4.same s46, .inl (.inr ⟨o, s46 _ _ hf4⟩), free_nd, m8, sum_free isM, fun H7 wa s7 nwa hwa => ?_⟩
    have s47 := s46.trans s7
    have p256 := pow256 m8
    have hR7 := s7 _ _ hR
    have rw7 := rwR.same s7
    have lR : (rs.map V.ref).length = 2 ^ (freeL n st).length := by rw [List.length_map, paired_len rwR, rows_len]
    have lW : (((List.range (2 ^ (freeL n st).length)).map (wB (freeL n st) Mm (freeL n st).length)).map V.int).length = 2 ^ (freeL n st).length := by rw [List.length_map, List.length_map, List.length_range]
    have hdd7 : FmAt H7 dd (fun v => lstM (parW (freeL n st) cs Mm 0 v)) 0 := by
      obtain ⟨kvs, h1, h2⟩ := hdd
      exact ⟨kvs, s7 _ _ (s6 _ _ h1), h2⟩
    have ndR : R ≠ dd := fun e => by
      obtain ⟨kvs, h1, _⟩ := hdd
      rw [e] at nR
      rw [h1] at nR
      cases nR
    have nW : wa ≠ dd := fun e => by
      obtain ⟨kvs, h1, _⟩ := hdd
      rw [e] at nwa
      rw [s6 _ _ h1] at nwa
      cases nwa
    refine ⟨R, wa, rs.map V.ref, _, rfl, tl hR7, sl hwa, for_zipM (p := true) (q := false) (K := K) (a := R) (b := wa) (xs := rs.map V.ref) (ys := ((List.range (2 ^ (freeL n st).length)).map (wB (freeL n st) Mm (freeL n st).length)).map V.int) (n := 2 ^ (freeL n st).length) (by omega) (by omega) (.inl (by omega))
      (fun i σ H' => (∀ c o, c ≠ dd → H7 c = some o → H' c = some o) ∧ FmAt H' dd (fun v => lstM (parW (freeL n st) cs Mm i v)) i ∧ ∃ x7 x8 x9 : Option V, σ = [some (.ref z), some (.ref ca), some v, some (.ref tt), some (.ref fr), some (.ref D), some (.ref dd), x7, x8, x9, none, none]) ⟨fun _ _ _ e => e, hdd7, none, none, none, rfl⟩ (fun i σ H' _ hP => ⟨tl (hP.1 _ _ ndR hR7), sl (hP.1 _ _ nW hwa)⟩) (fun i x y σ H' T il hx hy hP nT => ?_) (fun σ H' hP => ?_)⟩
    · obtain ⟨k7, fm, x7, x8, x9, rfl⟩ := hP
      obtain ⟨r, bs, rfl, hbs, hr7⟩ := rws_at rw7 hx
      rw [List.getElem?_map, List.getElem?_map, List.getElem?_range il] at hy
      obtain rfl : y = .int (wB (freeL n st) Mm (freeL n st).length i) := (Option.some.inj hy).symm
      have lbs := row_len _ bs (List.mem_of_getElem? hbs)
      have sT := same_upd (o := .tup [V.ref r, .int (wB (freeL n st) Mm (freeL n st).length i)]) nT
      have hdT : H' T = none := nT
      obtain ⟨kvs0, hk0, _, _⟩ := id fm
      have nhd : ∀ {c : Addr} {o : HO}, H7 c = some o → (∀ kvs, o ≠ .dT kvs) → c ≠ dd := fun e h z => by
        obtain ⟨kvs, h1, _⟩ := hdd7
        rw [z, h1] at e
        exact h kvs (Option.some.inj e).symm
      have hrT := sT _ _ (k7 _ _ (nhd hr7 (fun _ z => by cases z)) hr7)
      have hD7 := s47 _ _ hD
      have hDT := sT _ _ (k7 _ _ (nhd hD7 (fun _ z => by cases z)) hD7)
      have fmT : FmAt (upd H' T (.tup [V.ref r, .int (wB (freeL n st) Mm (freeL n st).length i)])) dd (fun v => lstM (parW (freeL n st) cs Mm i v)) i := by
        obtain ⟨kvs, h1, h2⟩ := fm
        exact ⟨kvs, sT _ _ h1, h2⟩
      have hTT : (upd H' T (.tup [V.ref r, .int (wB (freeL n st) Mm (freeL n st).length i)])) T = some (.tup [V.ref r, .int (wB (freeL n st) Mm (freeL n st).length i)]) := upd_same
      generalize upd H' T (.tup [V.ref r, .int (wB (freeL n st) Mm (freeL n st).length i)]) = HT at sT hrT hDT fmT hTT ⊢
      refine ⟨T, _, rfl, tl hTT, rfl, _, _, rfl, _, _, rfl, rfl, ?_⟩
      dsimp only
      refine q_seq (q_set ?_)
      refine ⟨.ref D, rfl, D, rfl, ⟨_, sl hDT⟩, fun D2 nD2 => lc_list (K := K) (a := D) (xs := (cs.map fun c => ((((freeL n st).map fun (n : Nat) => (n : Int)).idxOf c : Nat) : Int)).map V.int) (fun k H2 => Same HT H2 ∧ H2 D2 = some (.lst ((prj (freeL n st) (cs.take k) bs).map V.int))) ⟨same_upd nD2, upd_same⟩ (fun k H2 _ hQ => sl (hQ.1 _ _ hDT)) (fun k y H2 hy hQ => ?_) (fun H2 hQ => ?_)⟩
      · obtain ⟨s2', hD2⟩ := hQ
        obtain ⟨pl, rfl, hpl⟩ := int_at hy
        rw [List.getElem?_map] at hpl
        obtain ⟨c, hcc, rfl⟩ := Option.map_eq_some_iff.mp hpl
        have mc := hc c (List.mem_of_getElem? hcc)
        have lti := List.idxOf_lt_length_of_mem mc
        rw [List.length_map] at lti
        refine ⟨rfl, .ref r, rfl, .int _, rfl, r, _, _, .int (bs.getD (((freeL n st).map fun (n : Nat) => (n : Int)).idxOf c) 0), rfl, rfl, tl (s2' _ _ hrT), at_z (j := ((freeL n st).map fun (n : Nat) => (n : Int)).idxOf c) rfl ?_, _, hD2, ?_, fun b o e => ?_, ?_⟩
        · rw [List.getElem?_map, List.getD_eq_getElem?_getD, List.getElem?_eq_getElem (show _ < bs.length by omega)]
          rfl
        · rw [List.length_map, List.length_map, List.length_take]
          exact small1000 (by omega)
        · rw [upd_ne (ne_of_none e nD2)]
          exact s2' _ _ e
        · rw [upd_same, List.take_add_one, hcc]
          unfold prj
          rw [List.map_append, List.map_append]
          rfl
      · obtain ⟨s2', hD2⟩ := hQ
        rw [List.length_map, List.length_map, List.take_length] at hD2
        refine ⟨D2, _, rfl, .inl ⟨sl hD2, fun l nl => ?_⟩⟩
        have sl2 := same_upd (o := .tup ((prj (freeL n st) cs bs).map V.int)) nl
        have hl2 : (upd H2 l (.tup ((prj (freeL n st) cs bs).map V.int))) l = some (.tup ((prj (freeL n st) cs bs).map V.int)) := upd_same
        generalize upd H2 l (.tup ((prj (freeL n st) cs bs).map V.int)) = HL at sl2 hl2 ⊢
        have sTL := s2'.trans sl2
        have fmL : FmAt HL dd (fun v => lstM (parW (freeL n st) cs Mm i v)) i := by
          obtain ⟨kvs, h1, h2⟩ := fmT
          exact ⟨kvs, sTL _ _ h1, h2⟩
        have emin : ∀ i j : Int, (if j < i then j else i) = min i j := fun i j => by split <;> omega
        obtain ⟨HP, dp, kp, fmP⟩ := fmL.put (n := if ((lstM (parW (freeL n st) cs Mm i (prj (freeL n st) cs bs))).getD (wB (freeL n st) Mm (freeL n st).length i)) < wB (freeL n st) Mm (freeL n st).length i then ((lstM (parW (freeL n st) cs Mm i (prj (freeL n st) cs bs))).getD (wB (freeL n st) Mm (freeL n st).length i)) else wB (freeL n st) Mm (freeL n st).length i) (by omega) hl2
        dsimp only
        refine ⟨.int _, rfl, .ref dd, rfl, dd, rfl, fmL.isD, .ref l, rfl, .int _, rfl, _, fmL.get hl2, wB (freeL n st) Mm (freeL n st).length i, _, by rw [getV], .ref dd, rfl, .ref l, rfl, dd, HP, rfl, dp, ?_⟩
        refine ⟨fun c o nc e => kp _ _ nc (sTL _ _ (sT _ _ (k7 c o nc e))), ?_, _, _, _, rfl⟩
        have ef : (fun v => lstM (parW (freeL n st) cs Mm (i + 1) v)) = fun u => if u = prj (freeL n st) cs bs then some (min (wB (freeL n st) Mm (freeL n st).length i) ((lstM (parW (freeL n st) cs Mm i (prj (freeL n st) cs bs))).getD (wB (freeL n st) Mm (freeL n st).length i))) else lstM (parW (freeL n st) cs Mm i u) := by
          funext u
          rw [par_next hbs u]
          by_cases c : u = prj (freeL n st) cs bs
          · rw [if_pos c, if_pos c, c]
          · rw [if_neg c, if_neg c]
        rw [ef]
        rw [emin] at fmP
        exact fmP
    · obtain ⟨k7, fm, x7, x8, x9, rfl⟩ := hP
      dsimp only
      refine q_ret ?_
      have hfin : ∀ {c : Addr} {o : HO}, H7 c = some o → (∀ kvs, o ≠ .dT kvs) → H' c = some o := fun {c o} e h => k7 c o (fun z => by
        obtain ⟨kvs, h1, _⟩ := hdd7
        rw [z, h1] at e
        exact h kvs (Option.some.inj e).symm) e
      have hca7 := rd_same s47 hca4
      have hca' : Rd H' ca (.tup (cs.map V.int)) := by
        rcases hca7 with e | ⟨o, e⟩
        · exact .inl (hfin e (fun _ z => by cases z))
        · exact .inr ⟨o, hfin e (fun _ z => by cases z)⟩
      have lc : (cs.map V.int).length = cs.length := List.length_map ..
      refine ⟨.ref ca, rfl, ca, _, rfl, .inr (.inl hca'), ?_⟩
      refine ⟨.ref ca, rfl, ca, _, rfl, .inr (.inl hca'), ?_⟩
      rw [lc]
      refine ⟨cs.length, rfl, by omega, fun H8 R2 rs2 s8 nR2 hR2 rw8 => ⟨R2, rfl, ⟨_, tl hR2⟩, fun D3 nD3 => lc_tup (K := K) (a := R2) (xs := rs2.map V.ref) (fun i H9 => Same H8 H9 ∧ ∃ ms : List Int, H9 D3 = some (.lst (ms.map V.int)) ∧ ms.length = i ∧ ∀ (j : Nat) (v : List Int), j < i → (rowsOf cs.length)[j]? = some v → ∃ m : Int, ms[j]? = some m ∧ Least (wrS n st bks ts cs v) m) ⟨same_upd nD3, [], upd_same, rfl, fun j v h => absurd h (Nat.not_lt_zero _)⟩ (fun i H9 _ hQ => tl (hQ.1 _ _ hR2)) (fun i x H9 hx hQ => ?_) (fun H9 hQ => ?_)⟩⟩
      · obtain ⟨s9, ms, hD3, lms, hms⟩ := hQ
        obtain ⟨r, bs, rfl, hbs, hr9⟩ := rws_at (rw8.same s9) hx
        obtain ⟨m, em, lm⟩ := par_least so bo ok isM hc ndc (List.mem_of_getElem? hbs)
        have fm9 : FmAt H9 dd (fun v => lstM (parW (freeL n st) cs Mm (2 ^ (freeL n st).length) v)) (2 ^ (freeL n st).length) := by
          obtain ⟨kvs, h1, h2⟩ := fm
          exact ⟨kvs, s9 _ _ (s8 _ _ h1), h2⟩
        have g : DGet H9 dd (.ref r) (some (V.int m)) := by
          have z := fm9.get hr9
          rw [em] at z
          exact z
        have i8 : i < 8 := Nat.lt_of_lt_of_le (List.getElem?_eq_some_iff.mp hbs).1 (rows8 k3)
        refine ⟨rfl, .ref dd, rfl, .ref r, rfl, dd, _, rfl, g, _, hD3, ?_, fun b o e => ?_, ms ++ [m], ?_, ?_, fun j v hj hv => ?_⟩
        · rw [List.length_map]
          exact small1000 (by omega)
        · rw [upd_ne (ne_of_none e nD3)]
          exact s9 _ _ e
        · rw [upd_same, List.map_append]
          rfl
        · rw [List.length_append, lms]
          rfl
        · by_cases c : j = i
          · subst c
            rw [hbs] at hv
            obtain rfl := Option.some.inj hv
            exact ⟨m, by rw [← lms, List.getElem?_append_right (Nat.le_refl _), Nat.sub_self]; rfl, lm⟩
          · obtain ⟨m2, e2, l2⟩ := hms j v (by omega) hv
            exact ⟨m2, by rw [List.getElem?_append_left (by omega)]; exact e2, l2⟩
      · obtain ⟨s9, ms, hD3, lms, hms⟩ := hQ
        have lr : (rs2.map V.ref).length = 2 ^ cs.length := by rw [List.length_map, paired_len rw8, rows_len]
        rw [lr] at lms hms
        have wi : WrIs n st bks ts cs ms := ⟨lms, fun j v hv => hms j v (by have := (List.getElem?_eq_some_iff.mp hv).1; rwa [rows_len] at this) hv⟩
        exact fun x dx2 nx ndx _ => pr_made nx ndx (small_am k3 lms (.inl hD3)) k1 k3 lms ⟨D3, rfl, .inl hD3⟩ fun HF sF pr' => q1 HF x ms (fun c o e => sF _ _ (s9 _ _ (s8 _ _ (k7 _ _ (ne_of_none ((s13.trans s4) _ _ e) ndd) (s47 _ _ ((s13.trans s4) _ _ e)))))) pr' wi
end
end CP

namespace CP
open PySem PySem.Spec PyProof.Rows L2 Ek CC CS
section
variable {P : Program} {w : World} {K : PySem.W.Frag} {mg : Str → Option Value} {base : Heap}
theorem ok_LTo {f : Addr} {fd : FuncData} (F : Fun K "_law_total" "_law_total" sLTo f fd) {fPlace : Addr} {fdPlace : FuncData} (GPlace : FnOk P w K mg base CX0 1 fPlace fdPlace ["row"] (spRNL K)) (kPlace : PySem.W.keepIn K (.ref fPlace) = true) (bPlace : Binds K fdPlace ["row"] []) (gPlace : mg "_law_at" = some (.ref fPlace)) : FnOk P w K mg base CX0 3 f fd ["book", "ties", "filling"] spLTo := by
  refine F.ok scLTo (fun vs H Q E h => ?_) (fun cdv A outer s H vs Q E hr h => ?_)
  · obtain ⟨L, t, r, ps, as, bks, ts, n, bs, rfl, _⟩ := h
    rfl
  · obtain ⟨L, t, r, ps, as, bks, ts, n, bs, rfl, hL, lps, ht, ti, tb, hr0, hb, hl, q⟩ := h
    refine ⟨_, (pss_cons (ps_set (i := 3) scLTo.nd rfl (.inl rfl) pe_int)
      (pss_cons (ps_for PassesOwn.never rfl (pi_tup (pv 1)) (pg_tup (by rfl) (pgs_cons (pg_name (i := 4) scLTo.nd rfl (.inl rfl)) (pgs_cons (pg_name (i := 5) scLTo.nd rfl (.inl rfl)) (pgs_cons (pg_name (i := 6) scLTo.nd rfl (.inl rfl)) pgs_nil))))
      (pss_one (ps_set (i := 3) scLTo.nd rfl (.inl rfl) (pe_op op_add (pv 3) (pe_op op_mul (pv 6) (pe_ix ix_tup (pe_ix ix_tup (pe_ix ix_list (pv 0) (pv 4) (fun _ _ => rfl)) pe_int (fun _ _ => rfl)) (pe_call GPlace (hr.mono (by decide)) (by rfl) gPlace kPlace bPlace .nil pass0 (pa_cons (pe_lc (own := [("cell", 7)]) (g := gName 7) (tt := tYes) rfl scLTo.nd (pi_tup (pv 5)) (blkOk_by (N := NLTo) (sc := defScope sLTo) (by decide +kernel)) (fun _ _ _ _ _ => pg_name (i := 7) scLTo.nd rfl (Or.inl rfl)) (fun _ _ _ _ _ => pts_nil) (fun _ _ _ _ _ => (pe_ix (ixt_k K rfl) (pv 2) (pv 7) (fun _ _ => rfl)))) pa_nil)) (fun _ _ => rfl)))))))
      (pss_one (ps_ret (pv 3))))), ?_⟩
    refine q_seq (q_setc ?_)
    dsimp only
    refine q_seq ?_
    refine ⟨.ref t, rfl, t, rfl, ⟨_, .inl ht⟩, for_tup (K := K) (a := t) (xs := as.map V.ref) (fun i σ H' => Same H H' ∧ ∃ x4 x5 x6 x7 : Option V, σ = [some (.ref L), some (.ref t), some (.ref r), some (.int (totM bks (ts.take i) bs)), x4, x5, x6, x7]) ⟨Same.refl _, none, none, none, none, rfl⟩ (fun i σ H' _ hP => .inl (rd_same hP.1 ht)) (fun i x σ H' hx hP => ?_) (fun σ H' hP => ?_)⟩
    · obtain ⟨s', x4, x5, x6, x7, rfl⟩ := hP
      obtain ⟨a, tie, rfl, het, ⟨c, hc1, hc2⟩⟩ := tis_at (ti.same s') hx
      obtain ⟨⟨o1, o2, o3, o4⟩, o5⟩ := tb tie (List.mem_of_getElem? het)
      obtain ⟨p, hp, lp⟩ := lps_at (LPs.same s' lps) o1
      obtain ⟨tq, hq1, hq2, k1, k3, hlm, _⟩ := id lp
      refine ⟨a, _, rfl, .inl hc1, rfl, _, _, rfl, _, _, rfl, _, _, rfl, rfl, ?_⟩
      refine q_set ?_
      refine ⟨_, rfl, .int tie.2.2, rfl, .ref L, rfl, .int tie.1, rfl, L, _, _, .ref p, rfl, rfl, sl (s' _ _ hL), at_z (j := tie.1) rfl hp, p, _, _, .ref tq, rfl, rfl, tl hq1, at_z (j := 1) rfl rfl, ?_⟩
      refine ⟨.ref c, rfl, c, rfl, ⟨_, .inl hc2⟩, fun D nD => lc_tup (K := K) (a := c) (xs := tie.2.1.map V.int) (fun j H2 => Same H' H2 ∧ H2 D = some (.lst (((tie.2.1.take j).map fun c => bs.getD c.toNat 0).map V.int))) ⟨same_upd nD, upd_same⟩ (fun j H2 _ hQ => .inl (rd_same hQ.1 hc2)) (fun j y H2 hy hQ => ?_) (fun H2 hQ => ?_)⟩
      · obtain ⟨s3, hD⟩ := hQ
        obtain ⟨cv, rfl, hcv⟩ := int_at hy
        have cb := o3 cv (List.mem_of_getElem? hcv)
        refine ⟨rfl, .ref r, rfl, .int cv, rfl, r, _, cv, .int (bs.getD cv.toNat 0), rfl, rfl, .inl (rd_same s3 (rd_same s' hr0)), at_z (j := cv.toNat) (by omega) ?_, _, hD, ?_, fun b o e => ?_, ?_⟩
        · rw [List.getElem?_map, List.getD_eq_getElem?_getD, List.getElem?_eq_getElem (show cv.toNat < bs.length by omega)]
          rfl
        · rw [List.length_map, List.length_map, List.length_take]
          exact small1000 (by omega)
        · rw [upd_ne (ne_of_none e nD)]
          exact s3 _ _ e
        · rw [upd_same, List.take_add_one, hcv, List.map_append, List.map_append]
          rfl
      · obtain ⟨s3, hD⟩ := hQ
        rw [List.length_map, List.take_length] at hD
        have bg := row_get hb hl o3
        have lg : (tie.2.1.map fun c => bs.getD c.toNat 0).length = (bks.getD tie.1 (0, [])).1 := by rw [List.length_map]; exact o2
        obtain ⟨e1, e2⟩ := cost_at bg lg k3 hlm
        refine ⟨D, _, rfl, sl hD, tq, _, _, _, rfl, rfl, tl (s3 _ _ hq2), at_z e1 e2, _, _, rfl, rfl, .inl ⟨by omega, by omega⟩, _, _, rfl, rfl, ?_⟩
        refine ⟨s'.trans s3, some (.int tie.1), some (.ref c), some (.int tie.2.2), x7, ?_⟩
        rw [tot_take het]
        rfl
    · obtain ⟨s', x4, x5, x6, x7, rfl⟩ := hP
      rw [List.length_map, paired_len ti, List.take_length]
      dsimp only
      refine q_ret ?_
      exact ⟨_, rfl, q H' s'⟩
theorem keeps_len {st : Stt} {bs : List Int} : decide ((((st.filter fun c => decide (bs.getD c.1.toNat 0 ≠ c.2)).length : Nat) : Int) = 0) = keepsM st bs := by
  rw [Bool.eq_iff_iff, decide_eq_true_iff]
  unfold keepsM
  rw [List.all_eq_true]
  constructor
  · intro h c mc
    have e : st.filter (fun c => decide (bs.getD c.1.toNat 0 ≠ c.2)) = [] := List.length_eq_zero_iff.mp (by omega)
    have z := List.filter_eq_nil_iff.mp e c mc
    simpa using z
  · intro h
    have e : st.filter (fun c => decide (bs.getD c.1.toNat 0 ≠ c.2)) = [] := List.filter_eq_nil_iff.mpr fun c mc => by
      have z := of_decide_eq_true (h c mc)
      simpa using z
    rw [e]
    rfl
theorem ok_LKe {f : Addr} {fd : FuncData} (F : Fun K "_law_keeps" "_law_keeps" sLKe f fd) (B : Bt mg) : FnOk P w K mg base CX0 1 f fd ["filling", "start"] (spLKe K) := by
  refine F.ok scLKe (fun vs H Q E h => ?_) (fun cdv A outer s H vs Q E hr h => ?_)
  · obtain ⟨r, v, bs, n, st, rfl, _⟩ := h
    rfl
  · obtain ⟨r, v, bs, n, st, rfl, hr0, hl, ⟨a, ps, rfl, ha, pt⟩, so, l2, q⟩ := h
    refine ⟨_, (pss_one (ps_ret (pe_cmpR op_eq (pe_callB call_len_seq (by rfl) B.len PySem.boot_len (pa_cons (pe_lc (own := [("cell", 2), ("value", 3)]) rfl scLKe.nd (pi_tup (pv 1)) (blkOk_by (N := NLKe) (sc := defScope sLKe) (by decide +kernel)) (fun _ _ _ _ _ => (pg_tupk (n := 2) K rfl rfl (pgs_cons (pg_name (i := 2) scLKe.nd rfl (Or.inl rfl)) (pgs_cons (pg_name (i := 3) scLKe.nd rfl (Or.inl rfl)) pgs_nil)))) (fun _ _ _ _ _ => pts_one (pt_cmpR op_ne (pe_ix (ixt_k K rfl) (pv 0) (pv 2) (fun _ _ => rfl)) (pv 3) (nomark _))) (fun _ _ _ _ _ => (pv 2))) pa_nil)) pe_int (nomark _)))), ?_⟩
    refine q_ret ?_
    refine ⟨.ref a, rfl, a, rfl, ⟨_, ha⟩, fun D nD => lc_tup (K := K) (a := a) (xs := ps.map V.ref) (fun i H' => Same H H' ∧ H' D = some (.lst ((((st.take i).filter fun c => decide (bs.getD c.1.toNat 0 ≠ c.2)).map (·.1)).map V.int))) ⟨same_upd nD, upd_same⟩ (fun i H' _ hP => CS.sqT_same hP.1 ha) (fun i x H' hx hP => ?_) (fun H' hP => ?_)⟩
    · obtain ⟨s', hD⟩ := hP
      have ln : i < st.length := by
        have := (List.getElem?_eq_some_iff.mp hx).1
        rw [List.length_map, paired_len pt] at this
        exact this
      obtain ⟨p, hp, hp1⟩ := paired_get (pt.same s') (List.getElem?_eq_getElem ln)
      rw [List.getElem?_map, hp] at hx
      obtain rfl : x = .ref p := (Option.some.inj hx).symm
      have hst : st[i]? = some st[i] := List.getElem?_eq_getElem ln
      generalize st[i] = c at hp1 hst
      have cb := (so.1 c (List.mem_of_getElem? hst)).1
      have et : (st.take (i + 1)).filter (fun c => decide (bs.getD c.1.toNat 0 ≠ c.2)) = (st.take i).filter (fun c => decide (bs.getD c.1.toNat 0 ≠ c.2)) ++ if bs.getD c.1.toNat 0 = c.2 then [] else [c] := by
        rw [List.take_add_one, hst, List.filter_append]
        congr 1
        by_cases z : bs.getD c.1.toNat 0 = c.2
        · rw [if_pos z]
          exact List.filter_cons_of_neg (p := fun (c : Int × Int) => decide (bs.getD c.1.toNat 0 ≠ c.2)) (a := c) (by simpa using z)
        · rw [if_neg z]
          exact List.filter_cons_of_pos (p := fun (c : Int × Int) => decide (bs.getD c.1.toNat 0 ≠ c.2)) (a := c) (by simpa using z)
      refine ⟨p, _, rfl, .inl hp1, rfl, _, _, rfl, _, _, rfl, rfl, ?_⟩
      refine ⟨rfl, .ref r, rfl, .int c.1, rfl, r, _, c.1, .int (bs.getD c.1.toNat 0), rfl, rfl, .inl (rd_same s' hr0), at_z (j := c.1.toNat) (by omega) ?_, .int c.2, rfl, rfl, _, rfl, ?_⟩
      · rw [List.getElem?_map, List.getD_eq_getElem?_getD, List.getElem?_eq_getElem (show c.1.toNat < bs.length by omega)]
        rfl
      rw [CS.dInt]
      by_cases z : bs.getD c.1.toNat 0 = c.2
      · rw [if_pos z, List.append_nil] at et
        rw [decide_eq_true z]
        show Same H H' ∧ _
        rw [et]
        exact ⟨s', hD⟩
      · rw [if_neg z] at et
        rw [decide_eq_false z]
        refine ⟨.int c.1, rfl, _, hD, ?_, fun b o e => ?_, ?_⟩
        · rw [List.length_map, List.length_map]
          have := List.length_filter_le (fun c => decide (bs.getD c.1.toNat 0 ≠ c.2)) (st.take i)
          rw [List.length_take] at this
          exact small1000 (by omega)
        · rw [upd_ne (ne_of_none e nD)]
          exact s' _ _ e
        · rw [upd_same, et, List.map_append, List.map_append]
          rfl
    · obtain ⟨s', hD⟩ := hP
      rw [List.length_map, paired_len pt, List.take_length] at hD
      refine ⟨D, _, rfl, .inl (sl hD), rfl, ?_⟩
      rw [CS.dInt, List.length_map, List.length_map, keeps_len]
      exact q H' s'
end
end CP

namespace CP
open PySem PySem.Spec PyProof.Rows L2 Ek CC CS
/-- fillings and their totals -/
abbrev TotAt (bks : List Pd) (ts : List Tie) (H : Hp) (es : List Addr) (l : List (List Int)) : Prop := Paired (fun p (bs : List Int) => ∃ r, H p = some (.tup [.ref r, .int (totM bks ts bs)]) ∧ H r = some (.tup (bs.map V.int))) es l
theorem TotAt.same {bks : List Pd} {ts : List Tie} {H H' : Hp} {es : List Addr} {l : List (List Int)} (s : Same H H') (x : TotAt bks ts H es l) : TotAt bks ts H' es l := by
  induction x with
  | nil => exact .nil
  | cons e _ ih =>
    obtain ⟨r, h1, h2⟩ := e
    exact .cons ⟨r, s _ _ h1, s _ _ h2⟩ ih
theorem TotAt.updL {bks : List Pd} {ts : List Tie} {H : Hp} {D : Addr} {es : List Addr} {l : List (List Int)} {xs : List V} {o : HO} (e : H D = some (.lst xs)) (x : TotAt bks ts H es l) : TotAt bks ts (upd H D o) es l := by
  induction x with
  | nil => exact .nil
  | cons h _ ih =>
    obtain ⟨r, h1, h2⟩ := h
    exact .cons ⟨r, by rw [upd_ne (ne_of h1 e (by intro z; cases z))]; exact h1, by rw [upd_ne (ne_of h2 e (by intro z; cases z))]; exact h2⟩ ih
section
variable {P : Program} {w : World} {K : PySem.W.Frag} {mg : Str → Option Value} {base : Heap}
def spLTs (K : PySem.W.Frag) : Sp := fun vs H Q _ => ∃ (L t : Addr) (v : V) (ps as : List Addr) (bks : List Pd) (ts : List Tie) (n : Nat) (st : Stt), vs = [.ref L, .int n, .ref t, v] ∧ H L = some (.lst (ps.map V.ref)) ∧ LPs H ps bks ∧ n ≤ 8 ∧ Rd H t (.tup (as.map V.ref)) ∧ TisAt H as ts ∧ (∀ x ∈ ts, tieB bks n x) ∧ StAt K H v st ∧ stOk n st ∧ st.length ≤ 200 ∧
  ∀ H' F es, Same H H' → H' F = some (.lst (es.map V.ref)) → TotAt bks ts H' es ((rowsOf n).filter (keepsM st)) → Q (.ref F) H'
theorem ok_LTs {f : Addr} {fd : FuncData} (F : Fun K "_law_totals" "_law_totals" sLTs f fd) {fEvery : Addr} {fdEvery : FuncData} (GEvery : FnOk P w K mg base CX0 1 fEvery fdEvery ["many"] spEv) (kEvery : PySem.W.keepIn K (.ref fEvery) = true) (bEvery : Binds K fdEvery ["many"] []) (gEvery : mg "_law_rows" = some (.ref fEvery)) {fLKe : Addr} {fdLKe : FuncData} (GLKe : FnOk P w K mg base CX0 1 fLKe fdLKe ["filling", "start"] (spLKe K)) (kLKe : PySem.W.keepIn K (.ref fLKe) = true) (bLKe : Binds K fdLKe ["filling", "start"] []) (gLKe : mg "_law_keeps" = some (.ref fLKe)) {fLTo : Addr} {fdLTo : FuncData} (GLTo : FnOk P w K mg base CX0 3 fLTo fdLTo ["book", "ties", "filling"] spLTo) (kLTo : PySem.W.keepIn K (.ref fLTo) = true) (bLTo : Binds K fdLTo ["book", "ties", "filling"] []) (gLTo : mg "_law_total" = some (.ref fLTo)) : FnOk P w K mg base CX0 4 f fd ["book", "cells", "ties", "start"] (spLTs K) := by
  refine F.ok scLTs (fun vs H Q E h => ?_) (fun cdv A outer s H vs Q E hr h => ?_)
  · obtain ⟨L, t, v, ps, as, bks, ts, n, st, rfl, _⟩ := h
    rfl
  · obtain ⟨L, t, v, ps, as, bks, ts, n, st, rfl, hL, lps, n6, ht, ti, tb, sa, so, ls, q⟩ := h
    refine ⟨_, (pss_cons (ps_set (i := 4) scLTs.nd rfl (.inl rfl) (pe_lst pa_nil))
      (pss_cons (ps_for PassesOwn.never rfl (pi_list (pe_call GEvery (hr.mono (by decide)) (by rfl) gEvery kEvery bEvery .nil pass0 (pa_cons (pv 1) pa_nil))) (pg_name (i := 5) scLTs.nd rfl (.inl rfl))
      (pss_one (ps_if (pt_val (pe_call GLKe (hr.mono (by decide)) (by rfl) gLKe kLKe bLKe .nil pass0 (pa_cons (pv 5) (pa_cons (pv 3) pa_nil))))
      (pss_one (ps_expr (pe_bm PySem.F.plainAttrs_list PySem.F.slot_list_append PySem.F.type_list_append mt_append (pv 4) (pa_cons (pe_tup (pa_cons (pv 5) (pa_cons (pe_call GLTo (hr.mono (by decide)) (by rfl) gLTo kLTo bLTo .nil pass0 (pa_cons (pv 0) (pa_cons (pv 2) (pa_cons (pv 5) pa_nil)))) pa_nil))) pa_nil)))) pss_nil)))
      (pss_one (ps_ret (pv 4))))), ?_⟩
    refine q_seq (q_set ⟨Nat.zero_le _, fun F nF => ?_⟩)
    have sF := same_upd (o := .lst []) nF
    have hF0 : (upd H F (.lst [])) F = some (.lst []) := upd_same
    generalize upd H F (.lst []) = H0 at sF hF0 ⊢
    dsimp only
    refine q_seq ?_
    refine ⟨.int n, rfl, n, rfl, n6, fun H1 M rs s1 nM hM rw1 => ⟨M, rfl, ⟨_, sl hM⟩, for_list (K := K) (a := M) (xs := rs.map V.ref) (fun i σ H' => (∀ c o, c ≠ F → H1 c = some o → H' c = some o) ∧ (∃ es : List Addr, H' F = some (.lst (es.map V.ref)) ∧ TotAt bks ts H' es (((rowsOf n).take i).filter (keepsM st))) ∧ ∃ x5 : Option V, σ = [some (.ref L), some (.int n), some (.ref t), some v, some (.ref F), x5]) ⟨fun _ _ _ e => e, ⟨[], s1 _ _ hF0, .nil⟩, none, rfl⟩ (fun i σ H' _ hP => ?_) (fun i x σ H' hx hP => ?_) (fun σ H' hP => ?_)⟩⟩
    · exact sl (hP.1 _ _ (fun z => by rw [z, hF0] at nM; cases nM) hM)
    · obtain ⟨k', ⟨es, hF, ta⟩, x5, rfl⟩ := hP
      have sH : Same H H' := fun c o e => k' _ _ (ne_of_none e nF) (s1 _ _ (sF _ _ e))
      obtain ⟨r, bs, rfl, hbs, hr1⟩ := rws_at rw1 hx
      have mbs := List.mem_of_getElem? hbs
      have bbs := bits_rows n bs mbs
      have lbs := row_len n bs mbs
      have hr' := k' _ _ (ne_of hr1 (s1 _ _ hF0) (by intro z; cases z)) hr1
      have il : i < (rowsOf n).length := (List.getElem?_eq_some_iff.mp hbs).1
      have l64 := rows32 n6
      have et : ((rowsOf n).take (i + 1)).filter (keepsM st) = ((rowsOf n).take i).filter (keepsM st) ++ (if keepsM st bs = true then [bs] else []) := by
        rw [List.take_add_one, hbs, List.filter_append]
        congr 1
        by_cases c : keepsM st bs = true
        · rw [if_pos c]
          exact List.filter_cons_of_pos c
        · rw [if_neg c]
          exact List.filter_cons_of_neg c
      have le := paired_len ta
      have lf := List.length_filter_le (keepsM st) ((rowsOf n).take i)
      rw [List.length_take] at lf
      refine q_if ?_
      refine ⟨.ref r, rfl, v, rfl, r, v, bs, n, st, rfl, .inl hr', lbs, sa.same sH, so, ls, fun H2 s2 => ⟨_, rfl, ?_⟩⟩
      have hF2 := s2 _ _ hF
      have sH2 := sH.trans s2
      refine ite2 (fun c => ?_) (fun c => ?_)
      · rw [if_pos c] at et
        refine ⟨.ref F, rfl, .inl ⟨rfl, _, .inl (.inl hF2)⟩, .ref r, rfl, .ref L, rfl, .ref t, rfl, .ref r, rfl, L, t, r, ps, as, bks, ts, n, bs, rfl, sH2 _ _ hL, LPs.same sH2 lps, rd_same sH2 ht, ti.same sH2, tb, .inl (s2 _ _ hr'), bbs, lbs, fun H3 s3 => ⟨by show 2 ≤ sizeLine; decide, fun T nT => ?_⟩⟩
        have sT := same_upd (o := .tup [V.ref r, .int (totM bks ts bs)]) nT
        have s23 := s2.trans (s3.trans sT)
        have hFT := s23 _ _ hF
        refine ⟨F, _, _, rfl, rfl, hFT, by rw [List.length_map]; exact small1000 (by omega), fun c o nc e => ?_, ⟨es ++ [T], by rw [upd_same, List.map_append]; rfl, ?_⟩, _, rfl⟩
        · rw [upd_ne nc]
          exact s23 _ _ (k' c o nc e)
        · rw [et]
          exact TotAt.updL hFT (paired_app (ta.same s23) (.cons ⟨r, upd_same, s23 _ _ hr'⟩ .nil))
      · rw [if_neg c, List.append_nil] at et
        refine q_next ?_
        exact ⟨fun c o nc e => s2 _ _ (k' c o nc e), ⟨es, hF2, by rw [et]; exact ta.same s2⟩, _, rfl⟩
    · obtain ⟨k', ⟨es, hF, ta⟩, x5, rfl⟩ := hP
      rw [List.length_map, paired_len rw1, List.take_length] at ta
      dsimp only
      refine q_ret ?_
      exact ⟨.ref F, rfl, q H' F es (fun c o e => k' _ _ (ne_of_none e nF) (s1 _ _ (sF _ _ e))) hF ta⟩
end
end CP

namespace CP
open PySem PySem.Spec PyProof.Rows L2 Ek CC CS
section
variable {P : Program} {w : World} {K : PySem.W.Frag} {mg : Str → Option Value} {base : Heap}
def spAm3 : Sp := fun vs H Q _ => ∃ (h dr : Addr), vs = [.ref h] ∧ Hdd H h dr ∧ ∀ i H', Kp h H H' → Hdd H' h dr → -1000 ≤ i → i ≤ 1000 → Q (.int i) H'
theorem ok_Am3 {f : Addr} {fd : FuncData} (F : Fun K "_law_amount" "_law_amount" sAm3 f fd) {fTake : Addr} {fdTake : FuncData} (GTake : FnOk P w K mg base CX0 1 fTake fdTake ["hand", "many"] spTake) (kTake : PySem.W.keepIn K (.ref fTake) = true) (bTake : Binds K fdTake ["hand", "many"] []) (gTake : mg "_law_take" = some (.ref fTake)) : FnOk P w K mg base CX0 2 f fd ["hand"] spAm3 := by
  refine F.ok scAm3 (fun vs H Q E h => ?_) (fun cdv A outer s H vs Q E hr h => ?_)
  · obtain ⟨h, dr, rfl, _⟩ := h
    rfl
  · obtain ⟨h, dr, rfl, hd, q⟩ := h
    refine ⟨_, (pss_one (ps_ret (pe_ix ix_list (pe_lst (pa_cons (pe_op op_sub (pe_call GTake (hr.mono (by decide)) (by rfl) gTake kTake bTake .nil pass0 (pa_cons (pv 0) (pa_cons pe_int pa_nil))) pe_int) (pa_cons (pe_op op_sub (pe_call GTake (hr.mono (by decide)) (by rfl) gTake kTake bTake .nil pass0 (pa_cons (pv 0) (pa_cons pe_int pa_nil))) pe_int) (pa_cons (pe_op op_sub (pe_call GTake (hr.mono (by decide)) (by rfl) gTake kTake bTake .nil pass0 (pa_cons (pv 0) (pa_cons pe_int pa_nil))) pe_int) pa_nil)))) (pe_call GTake (hr.mono (by decide)) (by rfl) gTake kTake bTake .nil pass0 (pa_cons (pv 0) (pa_cons pe_int pa_nil))) (fun _ _ => rfl)))), ?_⟩
    refine q_ret ?_
    refine ⟨.ref h, rfl, h, dr, 5, rfl, hd, by decide, fun a H1 a0 a1 e1 hd1 => ⟨_, _, rfl, rfl, .ref h, rfl, h, dr, 5, rfl, hd1, by decide, fun b H2 b0 b1 e2 hd2 => ⟨_, _, rfl, rfl, .ref h, rfl, h, dr, 199, rfl, hd2, by decide, fun c H3 c0 c1 e3 hd3 => ⟨_, _, rfl, rfl, by show 3 ≤ sizeLine; decide, fun X nX => ?_⟩⟩⟩⟩
    have sX := same_upd (o := .lst [.int (a - 2), .int (b - 2), .int (c - 99)]) nX
    refine ⟨.ref h, rfl, h, dr, 3, rfl, hd3.same sX, by decide, fun k H4 k0 k1 e4 hd4 => ?_⟩
    have hX4 : H4 X = some (.lst [.int (a - 2), .int (b - 2), .int (c - 99)]) := (e4 X (hd3.ne nX)).trans upd_same
    have kp : Kp h H H4 := (Kp.eq e1).trans ((Kp.eq e2).trans ((Kp.eq e3).trans ((Kp.of sX).trans (Kp.eq e4))))
    obtain ⟨j, v, rfl, hj, v0, v1⟩ : ∃ (j : Nat) (v : Int), k = (j : Int) ∧ [V.int (a - 2), .int (b - 2), .int (c - 99)][j]? = some (.int v) ∧ -1000 ≤ v ∧ v ≤ 1000 := by
      rcases (show k = 0 ∨ k = 1 ∨ k = 2 by omega) with rfl | rfl | rfl
      · exact ⟨0, a - 2, rfl, rfl, by omega, by omega⟩
      · exact ⟨1, b - 2, rfl, rfl, by omega, by omega⟩
      · exact ⟨2, c - 99, rfl, rfl, by omega, by omega⟩
    exact ⟨X, _, _, .int v, rfl, rfl, sl hX4, at_z (j := j) rfl hj, q v H4 kp hd4 v0 v1⟩
def spLSt : Sp := fun vs H Q _ => ∃ (h dr : Addr) (n : Nat) (m : Int), vs = [.ref h, .int n, .int m] ∧ Hdd H h dr ∧ n ≤ 100 ∧ 1 ≤ m ∧ m ≤ 1000 ∧ ∀ a ps st H', Kp h H H' → Hdd H' h dr → (∃ o : Obj, o.dict = none ∧ H' a = some (.frz o (.tup (ps.map V.ref)))) → PrsT H' ps st → stOk n st → st.length ≤ n → Q (.ref a) H'
theorem ok_LSt {f : Addr} {fd : FuncData} (F : Fun K "_law_start" "_law_start" sLSt f fd) (B : Bt mg) {fTake : Addr} {fdTake : FuncData} (GTake : FnOk P w K mg base CX0 1 fTake fdTake ["hand", "many"] spTake) (kTake : PySem.W.keepIn K (.ref fTake) = true) (bTake : Binds K fdTake ["hand", "many"] []) (gTake : mg "_law_take" = some (.ref fTake)) : FnOk P w K mg base CX0 2 f fd ["hand", "cells", "share"] spLSt := by
  refine F.ok scLSt (fun vs H Q E h => ?_) (fun cdv A outer s H vs Q E hr h => ?_)
  · obtain ⟨h, dr, n, m, rfl, _⟩ := h
    rfl
  · obtain ⟨h, dr, n, m, rfl, hd, n100, m1, m1000, q⟩ := h
    refine ⟨_, (pss_cons (ps_set (i := 3) scLSt.nd rfl (.inl rfl) (pe_lst pa_nil))
      (pss_cons (ps_for PassesOwn.never rfl (pi_range1 rfl B.range (pa_cons (pv 1) pa_nil)) (pg_name (i := 4) scLSt.nd rfl (.inl rfl))
      (pss_one (ps_if (pt_cmpR op_eq (pe_call GTake (hr.mono (by decide)) (by rfl) gTake kTake bTake .nil pass0 (pa_cons (pv 0) (pa_cons (pv 2) pa_nil))) pe_int (nomark _))
      (pss_one (ps_expr (pe_bm PySem.F.plainAttrs_list PySem.F.slot_list_append PySem.F.type_list_append mt_append (pv 3) (pa_cons (pe_tup (pa_cons (pv 4) (pa_cons (pe_call GTake (hr.mono (by decide)) (by rfl) gTake kTake bTake .nil pass0 (pa_cons (pv 0) (pa_cons pe_int pa_nil))) pa_nil))) pa_nil)))) pss_nil)))
      (pss_one (ps_ret (pe_callTy call_tupleF (by rfl) B.tuple (by decide +kernel) (pa_cons (pv 3) pa_nil)))))), ?_⟩
    refine q_seq (q_set ⟨Nat.zero_le _, fun T nT => ?_⟩)
    have sT := same_upd (o := .lst []) nT
    have nTh : T ≠ h := hd.ne nT
    have nTd : T ≠ dr := hd.ned nT
    dsimp only
    refine q_seq ?_
    refine ⟨.int n, rfl, (n : Int), rfl, by omega, by omega, for_range (lo := 0) (n := n) (fun i σ H' => Kp h H H' ∧ Hdd H' h dr ∧ (∃ (ps : List Addr) (st : List (Int × Int)), H' T = some (.lst (ps.map V.ref)) ∧ PrsT H' ps st ∧ (∀ c ∈ st, (0 ≤ c.1 ∧ c.1 < (i : Int)) ∧ (c.2 = 0 ∨ c.2 = 1)) ∧ (st.map (·.1)).Pairwise (· < ·) ∧ st.length ≤ i) ∧ ∃ x4 : Option V, σ = [some (.ref h), some (.int n), some (.int m), some (.ref T), x4])
      ⟨Kp.of sT, hd.same sT, ⟨[], [], upd_same, .nil, fun _ z => (by cases z), .nil, Nat.le_refl _⟩, none, rfl⟩ (fun i σ H3 hi hP => ?_) (fun σ H3 hP => ?_)⟩
    · obtain ⟨kp3, hd3, ⟨ps, st, hT, pt, cb, pw, lt⟩, x4, rfl⟩ := hP
      have lps := paired_len pt
      refine q_if ?_
      refine ⟨.ref h, rfl, .int m, rfl, h, dr, m, rfl, hd3, by omega, fun r1 H4 a0 a1 e4 hd4 => ⟨rfl, _, rfl, ?_⟩⟩
      have kp4 : Kp h H3 H4 := Kp.eq e4
      have hT4 := kp4 T _ nTh hT
      have stay : Kp h H H4 ∧ Hdd H4 h dr ∧ (∃ (ps : List Addr) (st : List (Int × Int)), H4 T = some (.lst (ps.map V.ref)) ∧ PrsT H4 ps st ∧ (∀ c ∈ st, (0 ≤ c.1 ∧ c.1 < ((i + 1 : Nat) : Int)) ∧ (c.2 = 0 ∨ c.2 = 1)) ∧ (st.map (·.1)).Pairwise (· < ·) ∧ st.length ≤ i + 1) ∧ ∃ x4 : Option V, [some (V.ref h), some (.int n), some (.int m), some (.ref T), some (.int (0 + (i : Int)))] = [some (.ref h), some (.int n), some (.int m), some (.ref T), x4] :=
        ⟨kp3.trans kp4, hd4, ⟨ps, st, hT4, pt.kp hd3 kp4, fun c mc => ⟨⟨(cb c mc).1.1, by have := (cb c mc).1.2; omega⟩, (cb c mc).2⟩, pw, by omega⟩, _, rfl⟩
      refine ite2 (fun c1 => ?_) (fun c1 => ?_)
      · have c2 : True := trivial
        · refine ⟨.ref T, rfl, .inl ⟨rfl, _, .inl (.inl hT4)⟩, .int (0 + (i : Int)), rfl, .ref h, rfl, h, dr, 2, rfl, hd4, by decide, fun r2 H5 b0 b1 e5 hd5 => ⟨by show 2 ≤ sizeLine; decide, fun tA ntA => ?_⟩⟩
          have s6 := same_upd (o := .tup [.int (0 + (i : Int)), .int r2]) ntA
          have kp6 : Kp h H3 (upd H5 tA (.tup [.int (0 + (i : Int)), .int r2])) := kp4.trans ((Kp.eq e5).trans (Kp.of s6))
          have hT6 := kp6 T _ nTh hT
          have ez : (0 : Int) + (i : Int) = (i : Int) := by omega
          refine ⟨T, _, _, rfl, rfl, hT6, by rw [List.length_map]; exact small1000 (by omega), fun b o nb e => ?_, (hd5.same s6).upd nTh nTd, ⟨ps ++ [tA], st ++ [((i : Int), r2)], by rw [upd_same, List.map_append]; rfl, PrsT.updL hT6 (paired_app (pt.kp hd3 kp6) (.cons (.inl (by rw [upd_same, ez])) .nil)), fun c mc => ?_, ?_, by rw [List.length_append]; show st.length + 1 ≤ i + 1; omega⟩, _, rfl⟩
          · rw [upd_ne (ne_of_none e nT)]
            exact (kp3.trans kp6) b o nb e
          · rcases List.mem_append.mp mc with mc | mc
            · exact ⟨⟨(cb c mc).1.1, by have := (cb c mc).1.2; omega⟩, (cb c mc).2⟩
            · rw [List.mem_singleton.mp mc]
              exact ⟨⟨by show (0 : Int) ≤ (i : Int); omega, by show (i : Int) < ((i + 1 : Nat) : Int); omega⟩, by show r2 = 0 ∨ r2 = 1; omega⟩
          · rw [List.map_append, List.pairwise_append]
            refine ⟨pw, .cons (fun _ h => nomatch h) .nil, fun x mx y my => ?_⟩
            rw [List.map_cons, List.map_nil] at my
            rw [List.mem_singleton.mp my]
            obtain ⟨c, mc, rfl⟩ := List.mem_map.mp mx
            exact (cb c mc).1.2
      · exact stay
    · obtain ⟨kp3, hd3, ⟨ps, st, hT, pt, cb, pw, lt⟩, x4, rfl⟩ := hP
      dsimp only
      refine q_ret ?_
      refine ⟨.ref T, rfl, T, _, rfl, sl hT, fun t o od nt => ?_⟩
      have st' := same_upd (o := .frz o (.tup (ps.map V.ref))) nt
      exact q t ps st _ (kp3.trans (Kp.of st')) (hd3.same st') ⟨o, od, upd_same⟩ (pt.same st') ⟨cb, pw_rise pw⟩ lt
def spLTi : Sp := fun vs H Q _ => ∃ (h dr L : Addr) (ps : List Addr) (bks : List Pd) (n m : Nat), vs = [.ref h, .ref L, .int n, .int m] ∧ Hdd H h dr ∧ H L = some (.lst (ps.map V.ref)) ∧ LPs H ps bks ∧ 1 ≤ bks.length ∧ 1 ≤ n ∧ m ≤ 50 ∧ ∀ t as ts H', Kp h H H' → Hdd H' h dr → H' t = some (.tup (as.map V.ref)) → TisAt H' as ts → (∀ x ∈ ts, tieB bks n x) → ts.length ≤ m → Q (.ref t) H'
theorem ok_LTi {f : Addr} {fd : FuncData} (F : Fun K "_law_ties" "_law_ties" sLTi f fd) (B : Bt mg) {fTake : Addr} {fdTake : FuncData} (GTake : FnOk P w K mg base CX0 1 fTake fdTake ["hand", "many"] spTake) (kTake : PySem.W.keepIn K (.ref fTake) = true) (bTake : Binds K fdTake ["hand", "many"] []) (gTake : mg "_law_take" = some (.ref fTake)) : FnOk P w K mg base CX0 2 f fd ["hand", "book", "cells", "many"] spLTi := by
  refine F.ok scLTi (fun vs H Q E h => ?_) (fun cdv A outer s H vs Q E hr h => ?_)
  · obtain ⟨h, dr, L, ps, bks, n, m, rfl, _⟩ := h
    rfl
  · obtain ⟨h, dr, L, ps, bks, n, m, rfl, hd, hL, lps, b1, n1, m50, q⟩ := h
    refine ⟨_, (pss_cons (ps_set (i := 4) scLTi.nd rfl (.inl rfl) (pe_lst pa_nil))
      (pss_cons (ps_for PassesOwn.never rfl (pi_range1 rfl B.range (pa_cons (pv 3) pa_nil)) (pg_name (i := 5) scLTi.nd rfl (.inl rfl))
      (pss_cons (ps_set (i := 6) scLTi.nd rfl (.inl rfl) (pe_call GTake (hr.mono (by decide)) (by rfl) gTake kTake bTake .nil pass0 (pa_cons (pv 0) (pa_cons (pe_callB call_len_seq (by rfl) B.len PySem.boot_len (pa_cons (pv 1) pa_nil)) pa_nil))))
      (pss_cons (ps_set (i := 7) scLTi.nd rfl (.inl rfl) (pe_callTy call_tuple_of (by rfl) B.tuple (by decide +kernel) (pa_cons (pe_lc (own := [("place", 8)]) (g := gName 8) (tt := tYes) rfl scLTi.nd (pi_range1 rfl B.range (pa_cons (pe_ix ix_tup (pe_ix ix_list (pv 1) (pv 6) (fun _ _ => rfl)) pe_int (fun _ _ => rfl)) pa_nil)) (blkOk_by (N := NLTi) (sc := defScope sLTi) (by decide +kernel)) (fun _ _ _ _ _ => pg_name (i := 8) scLTi.nd rfl (Or.inl rfl)) (fun _ _ _ _ _ => pts_nil) (fun _ _ _ _ _ => (pe_call GTake (hr.mono (by decide)) (by rfl) gTake kTake bTake .nil pass0 (pa_cons (pv 0) (pa_cons (pv 2) pa_nil))))) pa_nil)))
      (pss_one (ps_expr (pe_bm PySem.F.plainAttrs_list PySem.F.slot_list_append PySem.F.type_list_append mt_append (pv 4) (pa_cons (pe_tup (pa_cons (pv 6) (pa_cons (pv 7) (pa_cons (pe_ix ix_list (pe_lst (pa_cons pe_int (pa_cons pe_int (pa_cons pe_int (pa_cons (pe_op op_add pe_int (pe_call GTake (hr.mono (by decide)) (by rfl) gTake kTake bTake .nil pass0 (pa_cons (pv 0) (pa_cons pe_int pa_nil)))) pa_nil))))) (pe_call GTake (hr.mono (by decide)) (by rfl) gTake kTake bTake .nil pass0 (pa_cons (pv 0) (pa_cons pe_int pa_nil))) (fun _ _ => rfl)) pa_nil)))) pa_nil)))))))
      (pss_one (ps_ret (pe_callTy call_tuple_of (by rfl) B.tuple (by decide +kernel) (pa_cons (pv 4) pa_nil)))))), ?_⟩
    have lp := paired_len lps
    refine q_seq (q_set ⟨Nat.zero_le _, fun T nT => ?_⟩)
    have sT := same_upd (o := .lst []) nT
    have nTh : T ≠ h := hd.ne nT
    have nTd : T ≠ dr := hd.ned nT
    dsimp only
    refine q_seq ?_
    refine ⟨.int m, rfl, (m : Int), rfl, by omega, by omega, for_range (lo := 0) (n := m) (fun i σ H' => Kp h H H' ∧ Hdd H' h dr ∧ (∃ (as : List Addr) (ts : List Tie), H' T = some (.lst (as.map V.ref)) ∧ TisAt H' as ts ∧ (∀ x ∈ ts, tieB bks n x) ∧ ts.length = i) ∧ ∃ x5 x6 x7 : Option V, σ = [some (.ref h), some (.ref L), some (.int n), some (.int m), some (.ref T), x5, x6, x7, none])
      ⟨Kp.of sT, hd.same sT, ⟨[], [], upd_same, .nil, fun _ z => (by cases z), rfl⟩, none, none, none, rfl⟩ (fun i σ H3 hi hP => ?_) (fun σ H3 hP => ?_)⟩
    · obtain ⟨kp3, hd3, ⟨as, ts, hT, ti, tb, lt⟩, x5, x6, x7, rfl⟩ := hP
      have hL3 := kp3 _ _ (hd.ns hL (ref_hand (h := h))) hL
      have lps3 := LPs.kp hd kp3 lps
      have lat := paired_len ti
      refine q_seq (q_set ?_)
      refine ⟨.ref h, rfl, .ref L, rfl, L, _, rfl, .inl (sl hL3), h, dr, _, rfl, hd3, by rw [List.length_map]; omega, fun rp H4 a0 a1 e4 hd4 => ?_⟩
      obtain ⟨p, rfl⟩ : ∃ p : Nat, rp = (p : Int) := ⟨rp.toNat, by omega⟩
      have pl : p < bks.length := by
        rw [List.length_map] at a1
        omega
      have kp4 := kp3.trans (Kp.eq e4)
      have hL4 := kp4 _ _ (hd.ns hL (ref_hand (h := h))) hL
      have lps4 := LPs.kp hd kp4 lps
      obtain ⟨q1, hq1, tq, hq2, hq3, k1, k3, hlm, _⟩ := lps_at lps4 pl
      dsimp only
      refine q_seq (q_set ?_)
      refine ⟨.ref L, rfl, .int p, rfl, L, _, _, .ref q1, rfl, rfl, sl hL4, at_z (j := p) rfl hq1, q1, _, _, .int (bks.getD p (0, [])).1, rfl, rfl, tl hq2, at_z (j := 0) rfl rfl, ((bks.getD p (0, [])).1 : Int), rfl, by omega, by omega, fun D nD => ?_⟩
      have nDh := hd4.ne nD
      refine lc_range (lo := 0) (n := (bks.getD p (0, [])).1) (fun j H8 => Kp h H4 H8 ∧ Hdd H8 h dr ∧ ∃ cs : List Int, H8 D = some (.lst (cs.map V.int)) ∧ cs.length = j ∧ ∀ c ∈ cs, 0 ≤ c ∧ c < (n : Int)) ⟨Kp.of (same_upd nD), hd4.same (same_upd nD), [], upd_same, rfl, fun _ z => by cases z⟩ (fun j H8 hj hQ => ?_) (fun H8 hQ => ?_)
      · obtain ⟨kp8, hd8, cs, hD, lc, bc⟩ := hQ
        refine ⟨rfl, .ref h, rfl, .int n, rfl, h, dr, n, rfl, hd8, by omega, fun r H9 r0 r1 e9 hd9 => ?_⟩
        have hD9 : H9 D = _ := (e9 D nDh).trans hD
        refine ⟨_, hD9, by rw [List.length_map]; exact small1000 (by omega), fun b o nb e => ?_, hd9.upd nDh (hd4.ned nD), cs ++ [r], by rw [upd_same, List.map_append]; rfl, by rw [List.length_append, lc]; rfl, fun c mc => ?_⟩
        · rw [upd_ne (ne_of_none e nD), e9 b nb]
          exact kp8 b o nb e
        · rcases List.mem_append.mp mc with mc | mc
          · exact bc c mc
          · rw [List.mem_singleton.mp mc]
            exact ⟨r0, r1⟩
      · obtain ⟨kp8, hd8, cs, hD, lc, bc⟩ := hQ
        refine ⟨D, _, rfl, .inl ⟨sl hD, fun cA ncA => ?_⟩⟩
        have s9 := same_upd (o := .tup (cs.map V.int)) ncA
        have hcA : (upd H8 cA (.tup (cs.map V.int))) cA = some (.tup (cs.map V.int)) := upd_same
        have hd9 := hd8.same s9
        have kp9 := kp8.trans (Kp.of s9)
        generalize upd H8 cA (.tup (cs.map V.int)) = H9 at s9 hcA hd9 kp9 ⊢
        have hT9 := ((Kp.eq e4).trans kp9) T _ nTh hT
        dsimp only
        refine ⟨.ref T, rfl, .inl ⟨rfl, _, .inl (.inl hT9)⟩, .int p, rfl, .ref cA, rfl, .ref h, rfl, h, dr, 50, rfl, hd9, by decide, fun v1 H10 b0 b1 e10 hd10 => ⟨_, _, rfl, rfl, by show 4 ≤ sizeLine; decide, fun X nX => ?_⟩⟩
        have sX := same_upd (o := .lst [V.int 1, .int 1, .int 2, .int (1 + v1)]) nX
        refine ⟨.ref h, rfl, h, dr, 4, rfl, hd10.same sX, by decide, fun v2 H11 c0 c1 e11 hd11 => ?_⟩
        have hX : H11 X = some (.lst [V.int 1, .int 1, .int 2, .int (1 + v1)]) := (e11 X (hd10.ne nX)).trans upd_same
        obtain ⟨j, tm, rfl, hj, t1, t2⟩ : ∃ (j : Nat) (tm : Int), v2 = (j : Int) ∧ [V.int 1, .int 1, .int 2, .int (1 + v1)][j]? = some (.int tm) ∧ 1 ≤ tm ∧ tm ≤ 1000 := by
          rcases (show v2 = 0 ∨ v2 = 1 ∨ v2 = 2 ∨ v2 = 3 by omega) with rfl | rfl | rfl | rfl
          · exact ⟨0, 1, rfl, rfl, by omega, by omega⟩
          · exact ⟨1, 1, rfl, rfl, by omega, by omega⟩
          · exact ⟨2, 2, rfl, rfl, by omega, by omega⟩
          · exact ⟨3, 1 + v1, rfl, rfl, by omega, by omega⟩
        refine ⟨X, _, _, .int tm, rfl, rfl, sl hX, at_z (j := j) rfl hj, by show 3 ≤ sizeLine; decide, fun tA ntA => ?_⟩
        have s12 := same_upd (o := .tup [.int p, .ref cA, .int tm]) ntA
        have kp12 : Kp h H9 (upd H11 tA (.tup [.int p, .ref cA, .int tm])) := (Kp.eq e10).trans ((Kp.of sX).trans ((Kp.eq e11).trans (Kp.of s12)))
        have kpA : Kp h H3 (upd H11 tA (.tup [.int p, .ref cA, .int tm])) := ((Kp.eq e4).trans kp9).trans kp12
        have hd12 := hd11.same s12
        have hT12 := kp12 T _ nTh hT9
        have hc12 := kp12 cA _ (hd9.ns hcA (fun _ _ z => by cases z)) hcA
        refine ⟨T, _, _, rfl, rfl, hT12, by rw [List.length_map]; exact small1000 (by omega), fun b o nb e => ?_, hd12.upd nTh nTd, ⟨as ++ [tA], ts ++ [(p, cs, tm)], by rw [upd_same, List.map_append]; rfl, TisAt.updL hT12 (paired_app (ti.kp hd3 kpA) (.cons ⟨cA, .inl upd_same, .inl hc12⟩ .nil)), fun x mx => ?_, by rw [List.length_append, lt]; rfl⟩, _, _, _, rfl⟩
        · rw [upd_ne (ne_of_none e nT)]
          exact (kp3.trans kpA) b o nb e
        · rcases List.mem_append.mp mx with mx | mx
          · exact tb x mx
          · rw [List.mem_singleton.mp mx]
            exact ⟨⟨pl, lc, bc, t1⟩, t2⟩
    · obtain ⟨kp3, hd3, ⟨as, ts, hT, ti, tb, lt⟩, x5, x6, x7, rfl⟩ := hP
      dsimp only
      refine q_ret ?_
      refine ⟨.ref T, rfl, T, _, rfl, .inl ⟨sl hT, fun t nt => ?_⟩⟩
      have st := same_upd (o := .tup (as.map V.ref)) nt
      exact q t as ts _ (kp3.trans (Kp.of st)) (hd3.same st) upd_same (ti.same st) tb (by omega)
end
end CP

namespace CP
open PySem PySem.Spec PyProof.Rows L2 Ek CC CS
theorem fix_merge (c : Int) : ∀ (st : Stt) (acc : List (L2.Key × V)) (o : Option Int), valV acc (Sum.inl c) = o.map V.int → valV (mergeK acc (st.map fun p => ((Sum.inl p.1 : L2.Key), V.int p.2))) (Sum.inl c) = (st.foldl (fun o p => if c = p.1 then some p.2 else o) o).map V.int
  | [], acc, o, h => h
  | p :: st, acc, o, h => by
    refine fix_merge c st (putK acc (Sum.inl p.1) (V.int p.2)) (if c = p.1 then some p.2 else o) ?_
    rw [valV_put]
    by_cases z : c = p.1
    · rw [if_pos z, if_pos (by rw [z])]
      rfl
    · rw [if_neg z, if_neg fun y => z (Sum.inl.inj y)]
      exact h
theorem start_key {H : Hp} {K : PySem.W.Frag} {ps : List Addr} {st : Stt} (x : PrsT H ps st) : Paired (fun p (kv : L2.Key × V) => SqT K H p [kV kv.1, kv.2]) ps (st.map fun p => ((Sum.inl p.1 : L2.Key), V.int p.2)) := by
  induction x with
  | nil => exact .nil
  | cons e _ ih => exact .cons (.inl e) ih

abbrev freeI (n : Nat) (st : Stt) : List Int := (freeL n st).map fun (k : Nat) => (k : Int)
theorem freeI_next {i : Nat} {st : Stt} : freeI (i + 1) st = freeI i st ++ if (fixV st (i : Int)).isNone = true then [(i : Int)] else [] := by
  unfold freeI freeL
  rw [List.range_succ, List.filter_append, List.map_append]
  congr 1
  by_cases c : (fixV st (i : Int)).isNone = true
  · rw [if_pos c, List.filter_cons_of_pos (p := fun (k : Nat) => (fixV st k).isNone) c]
    rfl
  · rw [if_neg c, List.filter_cons_of_neg (p := fun (k : Nat) => (fixV st k).isNone) c]
    rfl
theorem perm_erase {α : Type} : ∀ {l : List α} {j : Nat} {y : α}, l[j]? = some y → (y :: l.eraseIdx j).Perm l
  | [], _, _, h => by cases h
  | x :: l, 0, y, h => by
    cases h
    exact List.Perm.refl _
  | x :: l, j + 1, y, h => by
    have i := perm_erase (l := l) (j := j) (y := y) h
    exact (List.Perm.swap x y _).trans (List.Perm.cons x i)
theorem map_er {α β : Type} {f : α → β} : ∀ {l : List α} {j : Nat}, (l.map f).eraseIdx j = (l.eraseIdx j).map f
  | [], _ => rfl
  | _ :: _, 0 => rfl
  | x :: l, j + 1 => congrArg (f x :: ·) (map_er (l := l) (j := j))
section
variable {P : Program} {w : World} {K : PySem.W.Frag} {mg : Str → Option Value} {base : Heap}
def spLFr (K : PySem.W.Frag) : Sp := fun vs H Q _ => ∃ (h dr s : Addr) (o : Obj) (sps : List Addr) (n m : Nat) (st : Stt), vs = [.ref h, .int n, .ref s, .int m] ∧ Hdd H h dr ∧ o.dict = none ∧ H s = some (.frz o (.tup (sps.map V.ref))) ∧ PrsT H sps st ∧ st.length ≤ 200 ∧ n ≤ 9 ∧ m ≤ 9 ∧
  ∀ (t : Addr) (cs : List Int) (H' : Hp), Kp h H H' → Hdd H' h dr → H' t = some (.tup (cs.map V.int)) → cs.Nodup → (∀ c ∈ cs, c ∈ freeI n st) → cs.length = min m (freeI n st).length → Q (.ref t) H'
theorem ok_LFr {f : Addr} {fd : FuncData} (F : Fun K "_law_free" "_law_free" sLFr f fd) (B : Bt mg) {fTake : Addr} {fdTake : FuncData} (GTake : FnOk P w K mg base CX0 1 fTake fdTake ["hand", "many"] spTake) (kTake : PySem.W.keepIn K (.ref fTake) = true) (bTake : Binds K fdTake ["hand", "many"] []) (gTake : mg "_law_take" = some (.ref fTake)) : FnOk P w K mg base CX0 2 f fd ["hand", "cells", "start", "many"] (spLFr K) := by
  refine F.ok scLFr (fun vs H Q E h => ?_) (fun cdv A outer s H vs Q E hr h => ?_)
  · obtain ⟨h, dr, s, o, sps, n, m, st, rfl, _⟩ := h
    rfl
  · obtain ⟨h, dr, s, o, sps, n, m, st, rfl, hd, od, hs, pt, ls, n9, m9, q⟩ := h
    refine ⟨_, (pss_cons (ps_setLc (i := 4) (own := [("cell", 7)]) (g := gName 7) rfl scLFr.nd rfl rfl (sw_true rfl rfl rfl (by decide +kernel)) (pi_range1 rfl B.range (pa_cons (pv 1) pa_nil)) (blkOk_by (N := NLFr) (sc := defScope sLFr) (by decide +kernel)) (fun _ _ _ _ _ => pg_name (i := 7) scLFr.nd rfl (Or.inl rfl)) (fun _ _ _ _ _ => pts_one (pt_cmp (pc_dnotin (ru1 hr) (pv 7) (pe_callTy (call_dictKFk K rfl rfl) (by rfl) B.dict (by decide +kernel) (pa_cons (pv 2) pa_nil))))) (fun _ _ _ _ _ => (pv 7)))
      (pss_cons (ps_set (i := 5) scLFr.nd rfl (.inl rfl) (pe_lst pa_nil))
      (pss_cons (ps_for PassesOwn.never rfl (pi_range1 rfl B.range (pa_cons (pv 3) pa_nil)) (pg_name (i := 6) scLFr.nd rfl (.inl rfl))
      (pss_one (ps_if (pt_cmpR op_gt (pe_callB call_len_seq (by rfl) B.len PySem.boot_len (pa_cons (pv 4) pa_nil)) pe_int (nomark _))
      (pss_one (ps_expr (pe_bm PySem.F.plainAttrs_list PySem.F.slot_list_append PySem.F.type_list_append mt_append (pv 5) (pa_cons (pe_bm PySem.F.plainAttrs_list PySem.F.slot_list_pop PySem.F.type_list_pop mt_popAt (pv 4) (pa_cons (pe_call GTake (hr.mono (by decide)) (by rfl) gTake kTake bTake .nil pass0 (pa_cons (pv 0) (pa_cons (pe_callB call_len_seq (by rfl) B.len PySem.boot_len (pa_cons (pv 4) pa_nil)) pa_nil))) pa_nil)) pa_nil)))) pss_nil)))
      (pss_one (ps_ret (pe_callTy call_tuple_of (by rfl) B.tuple (by decide +kernel) (pa_cons (pv 5) pa_nil))))))), ?_⟩
    refine q_seq (q_set ?_)
    refine ⟨.int n, rfl, (n : Int), rfl, by omega, by omega, fun D nD => lc_range (lo := 0) (n := n) (fun i H' => Same H H' ∧ H' D = some (.lst ((freeI i st).map V.int))) ⟨same_upd nD, upd_same⟩ (fun i H2 hi hQ => ?_) (fun H2 hQ => ?_)⟩
    · obtain ⟨s2, hD⟩ := hQ
      refine ⟨rfl, .int (0 + (i : Int)), rfl, .ref s, rfl, s, o, sps, _, rfl, od, s2 _ _ hs, start_key (pt.same s2), fun F nF => ?_⟩
      have sF := same_upd (o := .dK (mergeK [] (st.map fun p => ((Sum.inl p.1 : L2.Key), V.int p.2)))) nF
      have fx : FxAt (upd H2 F (.dK (mergeK [] (st.map fun p => ((Sum.inl p.1 : L2.Key), V.int p.2))))) F st := by
        refine ⟨_, upd_same, ?_, fun c => fix_merge c st [] none rfl⟩
        have := length_mergeK (st.map fun p => ((Sum.inl p.1 : L2.Key), V.int p.2)) []
        rwa [List.length_nil, Nat.zero_add, List.length_map] at this
      generalize upd H2 F (.dK (mergeK [] (st.map fun p => ((Sum.inl p.1 : L2.Key), V.int p.2)))) = H3 at sF fx ⊢
      have s3 := s2.trans sF
      have hD3 := sF _ _ hD
      have g := fx.get (0 + (i : Int))
      refine ⟨F, _, rfl, g, _, rfl, ?_⟩
      have ef := freeI_next (i := i) (st := st)
      have li : (freeI i st).length ≤ i := by rw [List.length_map]; exact free_len
      have ez : (0 : Int) + (i : Int) = (i : Int) := Int.zero_add _
      rw [ez]
      cases e : fixV st (i : Int) with
      | none =>
        rw [e, if_pos (show (none : Option Int).isNone = true from rfl)] at ef
        refine ⟨.int (i : Int), rfl, _, hD3, ?_, fun c o e => ?_, ?_⟩
        · rw [List.length_map]
          exact small1000 (by omega)
        · rw [upd_ne (ne_of_none e nD)]
          exact s3 _ _ e
        · rw [upd_same, ef, List.map_append]
          rfl
      | some v =>
        rw [e, if_neg (show ¬(some v : Option Int).isNone = true by simp), List.append_nil] at ef
        show Same H H3 ∧ _
        rw [ef]
        exact ⟨s3, hD3⟩
    obtain ⟨s1, hD⟩ := hQ
    have hd1 := hd.same s1
    have nDh : D ≠ h := hd.ne nD
    have nDd : D ≠ dr := hd.ned nD
    dsimp only
    refine q_seq (q_set ⟨Nat.zero_le _, fun G nG => ?_⟩)
    have sG := same_upd (o := .lst []) nG
    have nGh : G ≠ h := hd1.ne nG
    have nGd : G ≠ dr := hd1.ned nG
    have nGD : G ≠ D := Ne.symm (ne_of_none hD nG)
    have nGH : H G = none := by
      cases e9 : H G with
      | none => rfl
      | some o => rw [s1 _ _ e9] at nG; cases nG
    dsimp only
    refine q_seq ?_
    refine ⟨.int m, rfl, (m : Int), rfl, by omega, by omega, for_range (lo := 0) (n := m) (fun i σ H' => Kp h H H' ∧ Hdd H' h dr ∧ (∃ fr cs : List Int, H' D = some (.lst (fr.map V.int)) ∧ H' G = some (.lst (cs.map V.int)) ∧ (cs ++ fr).Perm (freeI n st) ∧ cs.length = min i (freeI n st).length) ∧ ∃ x6 : Option V, σ = [some (.ref h), some (.int n), some (.ref s), some (.int m), some (.ref D), some (.ref G), x6, none])
      ⟨Kp.of (s1.trans sG), hd1.same sG, ⟨freeI n st, [], sG _ _ hD, upd_same, List.Perm.refl _, by simp⟩, none, rfl⟩ (fun i σ H3 hi hP => ?_) (fun σ H3 hP => ?_)⟩
    · obtain ⟨kp3, hd3, ⟨fr, cs, hD3, hG3, pm, lc⟩, x6, rfl⟩ := hP
      have lF : (freeI n st).length = (freeL n st).length := List.length_map ..
      have lf := pm.length_eq
      rw [List.length_append] at lf
      have l9 : (freeI n st).length ≤ 9 := by rw [List.length_map]; exact Nat.le_trans free_len n9
      refine q_if ?_
      refine ⟨.ref D, rfl, D, _, rfl, .inl (sl hD3), _, _, rfl, rfl, _, rfl, ?_⟩
      rw [List.length_map]
      refine ite2 (fun c => ?_) (fun c => ?_)
      · have c0 : 0 < fr.length := by
          have z := of_decide_eq_true c
          rw [List.length_map] at z
          omega
        refine ⟨.ref G, rfl, .inl ⟨rfl, _, .inl (.inl hG3)⟩, .ref D, rfl, .inl ⟨rfl, _, .inl (.inl hD3)⟩, .ref h, rfl, .ref D, rfl, D, _, rfl, .inl (sl hD3), h, dr, _, rfl, hd3, by rw [List.length_map]; omega, fun r H4 r0 r1 e4 hd4 => ?_⟩
        rw [List.length_map] at r1
        obtain ⟨j, rfl⟩ : ∃ k : Nat, r = (k : Int) := ⟨r.toNat, by omega⟩
        have hj : fr[j]? = some fr[j] := List.getElem?_eq_getElem (show j < fr.length by omega)
        generalize fr[j] = y at hj
        have pe := perm_erase hj
        have hD4 := (e4 D nDh).trans hD3
        have hG4 := (e4 G nGh).trans hG3
        refine ⟨D, _, (j : Int), j, .int y, rfl, rfl, hD4, by omega, by omega, by rw [List.length_map]; exact seqIndex_of (by omega) (by omega), by rw [List.getElem?_map, hj]; rfl, ?_⟩
        have eE : (fr.map V.int).eraseIdx j = (fr.eraseIdx j).map V.int := map_er
        rw [eE]
        have hG5 : (upd H4 D (.lst ((fr.eraseIdx j).map V.int))) G = some (.lst (cs.map V.int)) := by rw [upd_ne nGD]; exact hG4
        refine ⟨G, _, _, rfl, rfl, hG5, by rw [List.length_map]; exact small1000 (by omega), fun b o nb e => ?_, (hd4.upd nDh nDd).upd nGh nGd, ⟨fr.eraseIdx j, cs ++ [y], by rw [upd_ne (Ne.symm nGD), upd_same], by rw [upd_same, List.map_append]; rfl, ?_, ?_⟩, _, rfl⟩
        · rw [upd_ne (ne_of_none e nGH), upd_ne (ne_of_none e nD), e4 b nb]
          exact kp3 b o nb e
        · rw [List.append_assoc]
          exact (List.Perm.append_left cs pe).trans pm
        · rw [List.length_append, List.length_singleton]
          omega
      · have c0 : fr.length = 0 := by
          by_cases z : 0 < fr.length
          · exact absurd (decide_eq_true (show (0 : Int) < (((fr.map V.int).length : Nat) : Int) by rw [List.length_map]; omega)) c
          · omega
        refine q_next ?_
        exact ⟨kp3, hd3, ⟨fr, cs, hD3, hG3, pm, by omega⟩, _, rfl⟩
    · obtain ⟨kp3, hd3, ⟨fr, cs, hD3, hG3, pm, lc⟩, x6, rfl⟩ := hP
      dsimp only
      refine q_ret ?_
      refine ⟨.ref G, rfl, G, _, rfl, .inl ⟨sl hG3, fun t nt => ?_⟩⟩
      have st' := same_upd (o := .tup (cs.map V.int)) nt
      have fnd : (freeI n st).Nodup := List.pairwise_map.mpr (free_nd.imp fun {a b} h e => h (by omega))
      exact q t cs _ (kp3.trans (Kp.of st')) (hd3.same st') upd_same ((List.nodup_append.mp (pm.nodup_iff.mpr fnd)).1) (fun c mc => pm.mem_iff.mp (List.mem_append_left _ mc)) lc
end
end CP

namespace CP
open PySem PySem.Spec PyProof.Rows L2 Ek CC CS
/-! ### kinds of costs, over rows -/
def andR (a b : List Int) : List Int := List.zipWith (fun x y => x * y) a b
def orR (a b : List Int) : List Int := List.zipWith (fun x y => if y > x then y else x) a b
def leR (a b : List Int) : Prop := ∀ i : Nat, a.getD i 0 ≤ b.getD i 0
def KB2 (n : Nat) (c : List Int → Int) : Prop := ∀ a ∈ rowsOf n, ∀ b ∈ rowsOf n, c (andR a b) + c (orR a b) ≤ c a + c b
def KR2 (n : Nat) (c : List Int → Int) : Prop := ∀ a ∈ rowsOf n, ∀ b ∈ rowsOf n, leR a b → c a ≤ c b
def KF2 (n : Nat) (c : List Int → Int) : Prop := ∀ a ∈ rowsOf n, ∀ b ∈ rowsOf n, leR a b → c b ≤ c a
def K12 (n : Nat) (v : Int) (c : List Int → Int) : Prop := ∀ r ∈ rowsOf n, c (List.replicate n v) ≤ c r
def KdR (w : Str) (n : Nat) (c : List Int → Int) : Prop := (w = "all no" → K12 n 0 c) ∧ (w = "all yes" → K12 n 1 c) ∧ (w = "bent" → KB2 n c) ∧ (w = "rising" → KR2 n c) ∧ (w = "falling" → KF2 n c)
theorem bitR_get {r : List Int} (h : Bits r) (i : Nat) : r.getD i 0 = 0 ∨ r.getD i 0 = 1 := by
  rw [List.getD_eq_getElem?_getD]
  cases e : r[i]? with
  | none => exact .inl rfl
  | some x => exact h x (List.mem_of_getElem? e)
theorem and_get {a b : List Int} (l : a.length = b.length) (i : Nat) : (andR a b).getD i 0 = a.getD i 0 * b.getD i 0 := by
  unfold andR
  rw [List.getD_eq_getElem?_getD, List.getD_eq_getElem?_getD, List.getD_eq_getElem?_getD, List.getElem?_zipWith]
  by_cases h : i < a.length
  · rw [List.getElem?_eq_getElem h, List.getElem?_eq_getElem (show i < b.length by omega)]
    rfl
  · rw [List.getElem?_eq_none (by omega), List.getElem?_eq_none (show b.length ≤ i by omega)]
    rfl
theorem or_get {a b : List Int} (l : a.length = b.length) (i : Nat) : (orR a b).getD i 0 = if b.getD i 0 > a.getD i 0 then b.getD i 0 else a.getD i 0 := by
  unfold orR
  rw [List.getD_eq_getElem?_getD, List.getD_eq_getElem?_getD, List.getD_eq_getElem?_getD, List.getElem?_zipWith]
  by_cases h : i < a.length
  · rw [List.getElem?_eq_getElem h, List.getElem?_eq_getElem (show i < b.length by omega)]
    rfl
  · rw [List.getElem?_eq_none (by omega), List.getElem?_eq_none (show b.length ≤ i by omega)]
    rfl
theorem and_len {a b : List Int} (l : a.length = b.length) : (andR a b).length = a.length := by
  unfold andR
  rw [List.length_zipWith]
  omega
theorem or_len {a b : List Int} (l : a.length = b.length) : (orR a b).length = a.length := by
  unfold orR
  rw [List.length_zipWith]
  omega
theorem bits_by {r : List Int} (h : ∀ i, r.getD i 0 = 0 ∨ r.getD i 0 = 1) : Bits r := fun x m => by
  obtain ⟨i, hi⟩ := List.getElem?_of_mem m
  have := h i
  rw [List.getD_eq_getElem?_getD, hi] at this
  exact this
theorem and_row {n : Nat} {a b : List Int} (ha : a ∈ rowsOf n) (hb : b ∈ rowsOf n) : andR a b ∈ rowsOf n := by
  have la := row_len n a ha
  have lb := row_len n b hb
  refine rows_mem2 (bits_by fun i => ?_) (by rw [and_len (by omega)]; exact la)
  rw [and_get (by omega)]
  rcases bitR_get (bits_rows n a ha) i with h | h <;> rcases bitR_get (bits_rows n b hb) i with k | k <;> rw [h, k] <;> decide
theorem or_row {n : Nat} {a b : List Int} (ha : a ∈ rowsOf n) (hb : b ∈ rowsOf n) : orR a b ∈ rowsOf n := by
  have la := row_len n a ha
  have lb := row_len n b hb
  refine rows_mem2 (bits_by fun i => ?_) (by rw [or_len (by omega)]; exact la)
  rw [or_get (by omega)]
  rcases bitR_get (bits_rows n a ha) i with h | h <;> rcases bitR_get (bits_rows n b hb) i with k | k <;> rw [h, k] <;> decide
abbrev prjT (cs : List Int) (r : List Int) : List Int := cs.map fun c => r.getD c.toNat 0
theorem prj_len {cs r : List Int} : (prjT cs r).length = cs.length := List.length_map ..
theorem prj_row {cs r : List Int} (h : Bits r) : prjT cs r ∈ rowsOf cs.length := rows_mem2 (fun x m => by
  obtain ⟨c, _, rfl⟩ := List.mem_map.mp m
  exact bitR_get h _) prj_len
theorem prj_and {cs a b : List Int} (l : a.length = b.length) : prjT cs (andR a b) = andR (prjT cs a) (prjT cs b) := by
  induction cs with
  | nil => rfl
  | cons c cs ih =>
    show (andR a b).getD c.toNat 0 :: prjT cs (andR a b) = (a.getD c.toNat 0 * b.getD c.toNat 0) :: andR (prjT cs a) (prjT cs b)
    rw [ih, and_get l]
theorem prj_or {cs a b : List Int} (l : a.length = b.length) : prjT cs (orR a b) = orR (prjT cs a) (prjT cs b) := by
  induction cs with
  | nil => rfl
  | cons c cs ih =>
    show (orR a b).getD c.toNat 0 :: prjT cs (orR a b) = (if b.getD c.toNat 0 > a.getD c.toNat 0 then b.getD c.toNat 0 else a.getD c.toNat 0) :: orR (prjT cs a) (prjT cs b)
    rw [ih, or_get l]
theorem prj_le {cs a b : List Int} (h : leR a b) : leR (prjT cs a) (prjT cs b) := fun i => by
  rw [List.getD_eq_getElem?_getD, List.getD_eq_getElem?_getD, List.getElem?_map, List.getElem?_map]
  cases cs[i]? with
  | none => exact Int.le_refl _
  | some c => exact h _
theorem prj_const {n : Nat} {cs : List Int} {v : Int} (h : ∀ c ∈ cs, 0 ≤ c ∧ c < (n : Int)) : prjT cs (List.replicate n v) = List.replicate cs.length v := by
  induction cs with
  | nil => rfl
  | cons c cs ih =>
    show (List.replicate n v).getD c.toNat 0 :: prjT cs (List.replicate n v) = v :: List.replicate cs.length v
    have hc := h c List.mem_cons_self
    rw [ih fun x m => h x (List.mem_cons_of_mem _ m), List.getD_eq_getElem?_getD, List.getElem?_replicate, if_pos (by omega)]
    rfl
/-- what is so of all prices is so of the totals -/
theorem tie_in {bks : List Pd} {n : Nat} {t : Tie} (ok : tieOk bks n t) : ∃ z ∈ bks, bks.getD t.1 (0, []) = z ∧ t.2.1.length = z.1 := by
  obtain ⟨o1, o2, _⟩ := ok
  refine ⟨bks[t.1], List.getElem_mem _, ?_, ?_⟩
  · rw [List.getD_eq_getElem?_getD, List.getElem?_eq_getElem o1]
    rfl
  · rw [o2, List.getD_eq_getElem?_getD, List.getElem?_eq_getElem o1]
    rfl
theorem tot_kd {w : Str} {bks : List Pd} {n : Nat} (hk : ∀ z ∈ bks, KdR w z.1 (costL z.2)) : ∀ {ts : List Tie}, (∀ t ∈ ts, tieOk bks n t) → KdR w n (totM bks ts)
  | [], _ => ⟨fun _ _ _ => Int.le_refl _, fun _ _ _ => Int.le_refl _, fun _ _ _ _ _ => Int.le_refl _, fun _ _ _ _ _ _ => Int.le_refl _, fun _ _ _ _ _ _ => Int.le_refl _⟩
  | t :: ts, ok => by
    obtain ⟨i1, i2, i3, i4, i5⟩ := tot_kd hk (ts := ts) fun x m => ok x (List.mem_cons_of_mem _ m)
    have ot := ok t List.mem_cons_self
    obtain ⟨z, mz, ez, lz⟩ := tie_in ot
    obtain ⟨k1, k2, k3, k4, k5⟩ := hk z mz
    have e : ∀ r, totM bks (t :: ts) r = t.2.2 * costL z.2 (prjT t.2.1 r) + totM bks ts r := fun r => by
      show costT bks r t + totM bks ts r = _
      unfold costT
      rw [ez]
    have t0 : 0 ≤ t.2.2 := by have := ot.2.2.2; omega
    have mul : ∀ {x y : Int}, x ≤ y → t.2.2 * x ≤ t.2.2 * y := fun h => Int.mul_le_mul_of_nonneg_left h t0
    have pr : ∀ r ∈ rowsOf n, prjT t.2.1 r ∈ rowsOf z.1 := fun r m => by
      rw [← lz]
      exact prj_row (bits_rows n r m)
    refine ⟨fun h r m => ?_, fun h r m => ?_, fun h a ma b mb => ?_, fun h a ma b mb l => ?_, fun h a ma b mb l => ?_⟩
    · rw [e, e, prj_const ot.2.2.1, lz]
      exact Int.add_le_add (mul (k1 h _ (pr r m))) (i1 h r m)
    · rw [e, e, prj_const ot.2.2.1, lz]
      exact Int.add_le_add (mul (k2 h _ (pr r m))) (i2 h r m)
    · have l : a.length = b.length := (row_len n a ma).trans (row_len n b mb).symm
      rw [e, e, e, e, prj_and l, prj_or l]
      have h1 := mul (k3 h _ (pr a ma) _ (pr b mb))
      rw [Int.mul_add, Int.mul_add] at h1
      have h2 := i3 h a ma b mb
      omega
    · rw [e, e]
      exact Int.add_le_add (mul (k4 h _ (pr a ma) _ (pr b mb) (prj_le l))) (i4 h a ma b mb l)
    · rw [e, e]
      exact Int.add_le_add (mul (k5 h _ (pr a ma) _ (pr b mb) (prj_le l))) (i5 h a ma b mb l)
/-- the amount of a row -/
theorem wr_at {n : Nat} {st : Stt} {bks : List Pd} {ts : List Tie} {cs ms v : List Int} (c3 : cs.length ≤ 3) (wi : WrIs n st bks ts cs ms) (hv : v ∈ rowsOf cs.length) : Least (wrS n st bks ts cs v) (costL ms v) := by
  obtain ⟨j, hj⟩ := List.getElem?_of_mem hv
  obtain ⟨m, e, l⟩ := wi.2 j v hj
  have en := rows_num c3 hj
  have : costL ms v = m := by
    unfold costL
    rw [en, Int.toNat_natCast, List.getD_eq_getElem?_getD, e]
    rfl
  rw [this]
  exact l
theorem keeps_iff {st : Stt} {r : List Int} : keepsM st r = true ↔ ∀ c ∈ st, r.getD c.1.toNat 0 = c.2 := by
  unfold keepsM
  rw [List.all_eq_true]
  exact ⟨fun h c m => of_decide_eq_true (h c m), fun h c m => decide_eq_true (h c m)⟩
theorem keeps_and {st : Stt} {a b : List Int} {n : Int} (so : stOk n st) (l : a.length = b.length) (ha : keepsM st a = true) (hb : keepsM st b = true) : keepsM st (andR a b) = true := by
  rw [keeps_iff] at *
  intro c m
  rw [and_get l, ha c m, hb c m]
  rcases (so.1 c m).2 with h | h <;> rw [h] <;> rfl
theorem keeps_or {st : Stt} {a b : List Int} (l : a.length = b.length) (ha : keepsM st a = true) (hb : keepsM st b = true) : keepsM st (orR a b) = true := by
  rw [keeps_iff] at *
  intro c m
  rw [or_get l, ha c m, hb c m, if_neg (Int.lt_irrefl _)]
/-- the row with other values at the cells -/
def atCs (cs v r : List Int) (n : Nat) : List Int := (List.range n).map fun (k : Nat) => if (k : Int) ∈ cs then v.getD (cs.idxOf (k : Int)) 0 else r.getD k 0
theorem atCs_get {cs v r : List Int} {n k : Nat} (h : k < n) : (atCs cs v r n).getD k 0 = if (k : Int) ∈ cs then v.getD (cs.idxOf (k : Int)) 0 else r.getD k 0 := by
  unfold atCs
  rw [List.getD_eq_getElem?_getD, List.getElem?_map, List.getElem?_range h]
  rfl
theorem atCs_row {cs v r : List Int} {n : Nat} (hv : Bits v) (hr : Bits r) : atCs cs v r n ∈ rowsOf n := rows_mem2 (fun x m => by
  obtain ⟨k, _, rfl⟩ := List.mem_map.mp m
  by_cases c : (k : Int) ∈ cs
  · rw [if_pos c]; exact bitR_get hv _
  · rw [if_neg c]; exact bitR_get hr _) (by rw [atCs, List.length_map, List.length_range])
theorem atCs_prj {cs v r : List Int} {n : Nat} (nd : cs.Nodup) (hc : ∀ c ∈ cs, 0 ≤ c ∧ c < (n : Int)) (lv : v.length = cs.length) : prjT cs (atCs cs v r n) = v := by
  refine List.ext_getElem? fun i => ?_
  rw [List.getElem?_map]
  by_cases h : i < cs.length
  · have g : cs[i]? = some cs[i] := List.getElem?_eq_getElem h
    have b := hc _ (List.getElem_mem h)
    have e : ((cs[i].toNat : Nat) : Int) = cs[i] := Int.toNat_of_nonneg b.1
    rw [g]
    show some ((atCs cs v r n).getD cs[i].toNat 0) = _
    rw [atCs_get (by omega), e, if_pos (List.getElem_mem h), List.Nodup.idxOf_getElem nd i h, List.getD_eq_getElem?_getD, List.getElem?_eq_getElem (by omega)]
    rfl
  · rw [List.getElem?_eq_none (by omega), List.getElem?_eq_none (by omega)]
    rfl
theorem atCs_keeps {cs v r : List Int} {st : Stt} {n : Nat} (so : stOk n st) (cf : ∀ c ∈ cs, c ∈ freeI n st) (h : keepsM st r = true) : keepsM st (atCs cs v r n) = true := by
  rw [keeps_iff] at *
  intro c m
  have b := (so.1 c m).1
  have e : ((c.1.toNat : Nat) : Int) = c.1 := Int.toNat_of_nonneg b.1
  rw [atCs_get (by omega), e, if_neg fun mc => by
    obtain ⟨k, mk, ek⟩ := List.mem_map.mp (cf _ mc)
    have z := (free_mem.mp mk).2
    rw [ek] at z
    exact fix_none.mp z (List.mem_map.mpr ⟨c, m, rfl⟩)]
  exact h c m
theorem atCs_le {cs u v r : List Int} {n : Nat} (lr : r.length = n) (pr : prjT cs r = v) (h : leR u v) : leR (atCs cs u r n) r := fun k => by
  by_cases hk : k < n
  · rw [atCs_get hk]
    by_cases c : (k : Int) ∈ cs
    · rw [if_pos c]
      have lt := List.idxOf_lt_length_of_mem c
      have e : v.getD (cs.idxOf (k : Int)) 0 = r.getD k 0 := by
        rw [← pr, List.getD_eq_getElem?_getD, List.getElem?_map, List.getElem?_eq_getElem lt, List.getElem_idxOf lt]
        show r.getD ((k : Int).toNat) 0 = _
        rw [Int.toNat_natCast]
      rw [← e]
      exact h _
    · rw [if_neg c]
      exact Int.le_refl _
  · rw [List.getD_eq_getElem?_getD, List.getElem?_eq_none (by rw [atCs, List.length_map, List.length_range]; omega), List.getD_eq_getElem?_getD, List.getElem?_eq_none (by omega)]
    exact Int.le_refl _
theorem atCs_ge {cs u v r : List Int} {n : Nat} (lr : r.length = n) (pr : prjT cs r = v) (h : leR v u) : leR r (atCs cs u r n) := fun k => by
  by_cases hk : k < n
  · rw [atCs_get hk]
    by_cases c : (k : Int) ∈ cs
    · rw [if_pos c]
      have lt := List.idxOf_lt_length_of_mem c
      have e : v.getD (cs.idxOf (k : Int)) 0 = r.getD k 0 := by
        rw [← pr, List.getD_eq_getElem?_getD, List.getElem?_map, List.getElem?_eq_getElem lt, List.getElem_idxOf lt]
        show r.getD ((k : Int).toNat) 0 = _
        rw [Int.toNat_natCast]
      rw [← e]
      exact h _
    · rw [if_neg c]
      exact Int.le_refl _
  · rw [List.getD_eq_getElem?_getD, List.getElem?_eq_none (by omega), List.getD_eq_getElem?_getD, List.getElem?_eq_none (by rw [atCs, List.length_map, List.length_range]; omega)]
    exact Int.le_refl _
theorem wr_kd {w : Str} {n : Nat} {st : Stt} {bks : List Pd} {ts : List Tie} {cs ms : List Int} (so : stOk n st) (c3 : cs.length ≤ 3) (nd : cs.Nodup) (cf : ∀ c ∈ cs, c ∈ freeI n st) (s0 : w = "all no" ∨ w = "all yes" → st = []) (hk : KdR w n (totM bks ts)) (wi : WrIs n st bks ts cs ms) : KdR w cs.length (costL ms) := by
  obtain ⟨k1, k2, k3, k4, k5⟩ := hk
  have hc : ∀ c ∈ cs, 0 ≤ c ∧ c < (n : Int) := fun c m => by
    obtain ⟨k, mk, rfl⟩ := List.mem_map.mp (cf c m)
    have := (free_mem.mp mk).1
    omega
  have cst : ∀ v : Int, v = 0 ∨ v = 1 → List.replicate cs.length v ∈ rowsOf cs.length := fun v hv => rows_mem2 (fun x m => by rw [List.eq_of_mem_replicate m]; exact hv) List.length_replicate
  have cst2 : ∀ v : Int, v = 0 ∨ v = 1 → List.replicate n v ∈ rowsOf n := fun v hv => rows_mem2 (fun x m => by rw [List.eq_of_mem_replicate m]; exact hv) List.length_replicate
  refine ⟨fun h r m => ?_, fun h r m => ?_, fun h a ma b mb => ?_, fun h a ma b mb l => ?_, fun h a ma b mb l => ?_⟩
  · obtain rfl := s0 (.inl h)
    obtain ⟨bs, b1, b2, b3, b4⟩ := (wr_at c3 wi m).1
    rw [b4]
    refine Int.le_trans ((wr_at c3 wi (cst 0 (.inl rfl))).2 _ ⟨_, cst2 0 (.inl rfl), rfl, prj_const hc, rfl⟩) (k1 h bs b1)
  · obtain rfl := s0 (.inr h)
    obtain ⟨bs, b1, b2, b3, b4⟩ := (wr_at c3 wi m).1
    rw [b4]
    refine Int.le_trans ((wr_at c3 wi (cst 1 (.inr rfl))).2 _ ⟨_, cst2 1 (.inr rfl), rfl, prj_const hc, rfl⟩) (k2 h bs b1)
  · obtain ⟨x, x1, x2, x3, x4⟩ := (wr_at c3 wi ma).1
    obtain ⟨y, y1, y2, y3, y4⟩ := (wr_at c3 wi mb).1
    have l : x.length = y.length := (row_len n x x1).trans (row_len n y y1).symm
    have h1 := (wr_at c3 wi (and_row ma mb)).2 _ ⟨_, and_row x1 y1, keeps_and so l x2 y2, (prj_and l).trans (by rw [show prjT cs x = a from x3, show prjT cs y = b from y3]), rfl⟩
    have h2 := (wr_at c3 wi (or_row ma mb)).2 _ ⟨_, or_row x1 y1, keeps_or l x2 y2, (prj_or l).trans (by rw [show prjT cs x = a from x3, show prjT cs y = b from y3]), rfl⟩
    have h3 := k3 h x x1 y y1
    rw [x4, y4]
    omega
  · obtain ⟨y, y1, y2, y3, y4⟩ := (wr_at c3 wi mb).1
    rw [y4]
    refine Int.le_trans ((wr_at c3 wi ma).2 _ ⟨_, atCs_row (bits_rows _ a ma) (bits_rows n y y1), atCs_keeps so cf y2, atCs_prj nd hc (row_len _ a ma), rfl⟩) (k4 h _ (atCs_row (bits_rows _ a ma) (bits_rows n y y1)) y y1 (atCs_le (row_len n y y1) y3 l))
  · obtain ⟨x, x1, x2, x3, x4⟩ := (wr_at c3 wi ma).1
    rw [x4]
    refine Int.le_trans ((wr_at c3 wi mb).2 _ ⟨_, atCs_row (bits_rows _ b mb) (bits_rows n x x1), atCs_keeps so cf x2, atCs_prj nd hc (row_len _ b mb), rfl⟩) (k5 h x x1 _ (atCs_row (bits_rows _ b mb) (bits_rows n x x1)) (atCs_ge (row_len n x x1) x3 l))
end CP

namespace CP
open PySem PySem.Spec PyProof.Rows L2 Ek CC CS
def kindsW : List Str := ["all no", "all yes", "bent", "rising", "falling"]
theorem w5 {wd : Str} (m : wd ∈ kindsW) : wd = "all no" ∨ wd = "all yes" ∨ wd = "bent" ∨ wd = "rising" ∨ wd = "falling" := by
  simpa [kindsW] using m
theorem words_apart : ¬ ("all no" : Str) = "all yes" ∧ ¬ ("all no" : Str) = "bent" ∧ ¬ ("all no" : Str) = "rising" ∧ ¬ ("all no" : Str) = "falling" ∧ ¬ ("all yes" : Str) = "bent" ∧ ¬ ("all yes" : Str) = "rising" ∧ ¬ ("all yes" : Str) = "falling" ∧ ¬ ("bent" : Str) = "rising" ∧ ¬ ("bent" : Str) = "falling" ∧ ¬ ("rising" : Str) = "falling" := by decide +kernel
theorem zip_take {f : Int → Int → Int} {xs ys : List Int} {i : Nat} {x y : Int} (hx : xs[i]? = some x) (hy : ys[i]? = some y) : (List.zipWith f xs ys).take (i + 1) = (List.zipWith f xs ys).take i ++ [f x y] := by
  rw [List.take_add_one, List.getElem?_zipWith, hx, hy]
  rfl
theorem rep_row {k : Nat} {v : Int} (hv : v = 0 ∨ v = 1) : List.replicate k v ∈ rowsOf k := rows_mem2 (fun x m => by rw [List.eq_of_mem_replicate m]; exact hv) List.length_replicate
theorem rep_num : ∀ k : Fin 4, num (List.replicate k.1 0) = 0 ∧ num (List.replicate k.1 1) = 2 ^ k.1 - 1 := by decide +kernel
theorem at_m1 {α : Type} {xs : List α} {v : α} (pos : 0 < xs.length) (h : xs[xs.length - 1]? = some v) : atI xs (-1) = some v := by
  unfold atI ixN
  rw [if_neg (by decide), if_pos (by omega)]
  show xs[((-1 : Int) + (xs.length : Nat)).toNat]? = _ 
  rw [show ((-1 : Int) + (xs.length : Nat)).toNat = xs.length - 1 by omega]
  exact h
theorem all_cost {k : Nat} {ms : List Int} (k3 : k ≤ 3) (lm : ms.length = 2 ^ k) {x : Int} (h : x ∈ ms) : ∃ r ∈ rowsOf k, x = costL ms r := by
  obtain ⟨j, hj⟩ := List.getElem?_of_mem h
  have jl : j < (rowsOf k).length := by rw [rows_len, ← lm]; exact (List.getElem?_eq_some_iff.mp hj).1
  refine ⟨(rowsOf k)[j], List.getElem_mem _, ?_⟩
  have en := rows_num k3 (List.getElem?_eq_getElem jl)
  unfold costL
  rw [en, Int.toNat_natCast, List.getD_eq_getElem?_getD, hj]
  rfl
theorem cost_0 {k : Nat} {ms : List Int} (k3 : k ≤ 3) (lm : ms.length = 2 ^ k) : ms[0]? = some (costL ms (List.replicate k 0)) := by
  have e := (rep_num ⟨k, by omega⟩).1
  simp only at e
  have p := Nat.two_pow_pos k
  unfold costL
  rw [e, List.getD_eq_getElem?_getD]
  show ms[0]? = some (ms[0]?.getD 0)
  rw [List.getElem?_eq_getElem (by omega)]
  rfl
theorem cost_1 {k : Nat} {ms : List Int} (k3 : k ≤ 3) (lm : ms.length = 2 ^ k) : ms[ms.length - 1]? = some (costL ms (List.replicate k 1)) := by
  have e := (rep_num ⟨k, by omega⟩).2
  simp only at e
  have p := Nat.two_pow_pos k
  have c : (((2 ^ k : Nat) : Int)) = (2 : Int) ^ k := by norm_cast
  unfold costL
  rw [e, List.getD_eq_getElem?_getD, show ((2 : Int) ^ k - 1).toNat = ms.length - 1 by rw [← c]; omega]
  rw [List.getElem?_eq_getElem (by omega)]
  rfl
theorem or_le {n : Nat} {a b : List Int} (ha : a ∈ rowsOf n) (hb : b ∈ rowsOf n) (h : orR a b = b) : leR a b := fun i => by
  have l : a.length = b.length := (row_len n a ha).trans (row_len n b hb).symm
  have z := or_get l i
  rw [h] at z
  split at z <;> omega
section
variable {P : Program} {w : World} {K : PySem.W.Frag} {mg : Str → Option Value} {base : Heap}
def spLIs (K : PySem.W.Frag) : Sp := fun vs H Q _ => ∃ (p t : Addr) (k : Nat) (wd : Str) (ms : List Int), vs = [.ref p, .str wd] ∧ H p = some (.tup [.int k, .ref t]) ∧ H t = some (.tup (ms.map V.int)) ∧ wd ∈ kindsW ∧ 1 ≤ k ∧ k ≤ 3 ∧ ms.length = 2 ^ k ∧ KdR wd k (costL ms) ∧ ∀ H', Same H H' → Q (.bl true) H'
theorem ok_LIs {f : Addr} {fd : FuncData} (F : Fun K "_law_is" "_law_is" sLIs f fd) (B : Bt mg) {fEvery : Addr} {fdEvery : FuncData} (GEvery : FnOk P w K mg base CX0 1 fEvery fdEvery ["many"] spEv) (kEvery : PySem.W.keepIn K (.ref fEvery) = true) (bEvery : Binds K fdEvery ["many"] []) (gEvery : mg "_law_rows" = some (.ref fEvery)) {fPlace : Addr} {fdPlace : FuncData} (GPlace : FnOk P w K mg base CX0 1 fPlace fdPlace ["row"] (spRNL K)) (kPlace : PySem.W.keepIn K (.ref fPlace) = true) (bPlace : Binds K fdPlace ["row"] []) (gPlace : mg "_law_at" = some (.ref fPlace)) : FnOk P w K mg base CX0 2 f fd ["price", "word"] (spLIs K) := by
  refine F.ok scLIs (fun vs H Q E h => ?_) (fun cdv A outer s H vs Q E hr h => ?_)
  · obtain ⟨p, t, k, wd, ms, rfl, _⟩ := h
    rfl
  · obtain ⟨p, t, k, wd, ms, rfl, hp, ht, mw, k1, k3, lm, kd, q⟩ := h
    refine ⟨_, (pss_cons (ps_asg (pv 0) (pg_tup (by rfl) (pgs_cons (pg_name (i := 2) scLIs.nd rfl (.inl rfl)) (pgs_cons (pg_name (i := 3) scLIs.nd rfl (.inl rfl)) pgs_nil))))
      (pss_cons (ps_set (i := 4) scLIs.nd rfl (.inl rfl) (pe_call GEvery (hr.mono (by decide)) (by rfl) gEvery kEvery bEvery .nil pass0 (pa_cons (pv 2) pa_nil)))
      (pss_cons (ps_if (pt_cmpR op_eq (pv 1) pe_str (nomark _))
      (pss_one (ps_ret (pe_cmpR op_eq (pe_callB (cr_min rfl) (by rfl) B.min (by decide +kernel) (pa_cons (pe_lc (own := [("one", 9)]) (g := gName 9) (tt := tYes) rfl scLIs.nd (pi_tup (pv 3)) (blkOk_by (N := NLIs) (sc := defScope sLIs) (by decide +kernel)) (fun _ _ _ _ _ => pg_name (i := 9) scLIs.nd rfl (Or.inl rfl)) (fun _ _ _ _ _ => pts_nil) (fun _ _ _ _ _ => (pe_callTy call_int1 (by rfl) B.int (by decide +kernel) (pa_cons (pv 9) pa_nil)))) pa_nil)) (pe_ix ix_tup (pv 3) pe_int (fun _ _ => rfl)) (nomark _)))) pss_nil)
      (pss_cons (ps_if (pt_cmpR op_eq (pv 1) pe_str (nomark _))
      (pss_one (ps_ret (pe_cmpR op_eq (pe_callB (cr_min rfl) (by rfl) B.min (by decide +kernel) (pa_cons (pe_lc (own := [("one", 9)]) (g := gName 9) (tt := tYes) rfl scLIs.nd (pi_tup (pv 3)) (blkOk_by (N := NLIs) (sc := defScope sLIs) (by decide +kernel)) (fun _ _ _ _ _ => pg_name (i := 9) scLIs.nd rfl (Or.inl rfl)) (fun _ _ _ _ _ => pts_nil) (fun _ _ _ _ _ => (pe_callTy call_int1 (by rfl) B.int (by decide +kernel) (pa_cons (pv 9) pa_nil)))) pa_nil)) (pe_ix ix_tup (pv 3) (pe_un un_neg pe_int) (fun _ _ => rfl)) (nomark _)))) pss_nil)
      (pss_cons (ps_for PassesOwn.never rfl (pi_range1 rfl B.range (pa_cons (pe_callB call_len_seq (by rfl) B.len PySem.boot_len (pa_cons (pv 4) pa_nil)) pa_nil)) (pg_name (i := 5) scLIs.nd rfl (.inl rfl))
      (pss_one (ps_for PassesOwn.never rfl (pi_range2 rfl B.range (pa_cons (pe_op op_add (pv 5) pe_int) (pa_cons (pe_callB call_len_seq (by rfl) B.len PySem.boot_len (pa_cons (pv 4) pa_nil)) pa_nil))) (pg_name (i := 6) scLIs.nd rfl (.inl rfl))
      (pss_cons (ps_set (i := 7) scLIs.nd rfl (.inl rfl) (pe_call GPlace (hr.mono (by decide)) (by rfl) gPlace kPlace bPlace .nil pass0 (pa_cons (pe_lc (own := [("x", 10), ("y", 11)]) (tt := tYes) rfl scLIs.nd (RZ.pi_zipA (by rfl) B.zip (pa_cons (pe_ix ix_list (pv 4) (pv 5) (fun _ _ => rfl)) (pa_cons (pe_ix ix_list (pv 4) (pv 6) (fun _ _ => rfl)) pa_nil))) (blkOk_by (N := NLIs) (sc := defScope sLIs) (by decide +kernel)) (fun _ _ _ _ _ => (pg_tupk (n := 2) K rfl rfl (pgs_cons (pg_name (i := 10) scLIs.nd rfl (Or.inl rfl)) (pgs_cons (pg_name (i := 11) scLIs.nd rfl (Or.inl rfl)) pgs_nil)))) (fun _ _ _ _ _ => pts_nil) (fun _ _ _ _ _ => (pe_op op_mul (pv 10) (pv 11)))) pa_nil)))
      (pss_cons (ps_set (i := 8) scLIs.nd rfl (.inl rfl) (pe_call GPlace (hr.mono (by decide)) (by rfl) gPlace kPlace bPlace .nil pass0 (pa_cons (pe_lc (own := [("x", 10), ("y", 11)]) (tt := tYes) rfl scLIs.nd (RZ.pi_zipA (by rfl) B.zip (pa_cons (pe_ix ix_list (pv 4) (pv 5) (fun _ _ => rfl)) (pa_cons (pe_ix ix_list (pv 4) (pv 6) (fun _ _ => rfl)) pa_nil))) (blkOk_by (N := NLIs) (sc := defScope sLIs) (by decide +kernel)) (fun _ _ _ _ _ => (pg_tupk (n := 2) K rfl rfl (pgs_cons (pg_name (i := 10) scLIs.nd rfl (Or.inl rfl)) (pgs_cons (pg_name (i := 11) scLIs.nd rfl (Or.inl rfl)) pgs_nil)))) (fun _ _ _ _ _ => pts_nil) (fun _ _ _ _ _ => (pe_callB (call_max2 rfl) (by rfl) B.max (by decide +kernel) (pa_cons (pe_callTy call_int1 (by rfl) B.int (by decide +kernel) (pa_cons (pv 10) pa_nil)) (pa_cons (pe_callTy call_int1 (by rfl) B.int (by decide +kernel) (pa_cons (pv 11) pa_nil)) pa_nil))))) pa_nil)))
      (pss_cons (ps_if (PW.pt (pw_and (pt_cmpR op_eq (pv 1) pe_str (nomark _)) (pw_and1 (pt_cmpR op_gt (pe_op op_add (pe_ix ix_tup (pv 3) (pv 7) (fun _ _ => rfl)) (pe_ix ix_tup (pv 3) (pv 8) (fun _ _ => rfl))) (pe_op op_add (pe_ix ix_tup (pv 3) (pv 5) (fun _ _ => rfl)) (pe_ix ix_tup (pv 3) (pv 6) (fun _ _ => rfl))) (nomark _)))))
      (pss_one (ps_ret pe_bl)) pss_nil)
      (pss_cons (ps_if (PW.pt (pw_and (pt_cmpR op_eq (pv 1) pe_str (nomark _)) (pw_and (pt_cmpR op_eq (pv 8) (pv 6) (nomark _)) (pw_and1 (pt_cmpR op_lt (pe_ix ix_tup (pv 3) (pv 6) (fun _ _ => rfl)) (pe_ix ix_tup (pv 3) (pv 5) (fun _ _ => rfl)) (nomark _))))))
      (pss_one (ps_ret pe_bl)) pss_nil)
      (pss_one (ps_if (PW.pt (pw_and (pt_cmpR op_eq (pv 1) pe_str (nomark _)) (pw_and (pt_cmpR op_eq (pv 8) (pv 6) (nomark _)) (pw_and1 (pt_cmpR op_gt (pe_ix ix_tup (pv 3) (pv 6) (fun _ _ => rfl)) (pe_ix ix_tup (pv 3) (pv 5) (fun _ _ => rfl)) (nomark _))))))
      (pss_one (ps_ret pe_bl)) pss_nil)))))))))
      (pss_one (ps_ret pe_bl))))))), ?_⟩
    obtain ⟨a1, a2, a3, a4, a5, a6, a7, a8, a9, a10⟩ := words_apart
    have lmV : (ms.map V.int).length = ms.length := List.length_map ..
    have p2 := Nat.two_pow_pos k
    refine q_seq ?_
    refine ⟨.ref p, rfl, p, _, rfl, tl hp, rfl, _, _, rfl, _, _, rfl, rfl, ?_⟩
    dsimp only
    refine q_seq (q_set ?_)
    refine ⟨.int k, rfl, k, rfl, by omega, fun H1 R rs s1 nR hR rw1 => ?_⟩
    have ht1 := s1 _ _ ht
    dsimp only
    refine q_seq (q_if ?_)
    refine ⟨.str wd, rfl, rfl, _, rfl, ?_⟩
    dsimp only
    rw [dStr]
    refine ite2 (fun e => ?_) (fun e => ?_)
    · obtain rfl := of_decide_eq_true e
      refine q_ret ?_
      refine ⟨.ref t, rfl, t, rfl, ⟨_, tl ht1⟩, fun D nD => lc_tup (K := K) (a := t) (xs := ms.map V.int) (fun i H' => Same H1 H' ∧ H' D = some (.lst ((ms.take i).map V.int))) ⟨same_upd nD, upd_same⟩ (fun i H' _ hP => tl (hP.1 _ _ ht1)) (fun i x H' hx hP => ?_) (fun H' hP => ?_)⟩
      · obtain ⟨s', hD⟩ := hP
        obtain ⟨y, rfl, hy⟩ := int_at hx
        refine ⟨rfl, .int y, rfl, .inl ⟨y, rfl, _, hD, ?_, fun b o e => ?_, ?_⟩⟩
        · rw [List.length_map, List.length_take]
          have : ms.length ≤ 8 := by rw [lm]; have : k = 1 ∨ k = 2 ∨ k = 3 := by omega
                                     rcases this with rfl | rfl | rfl <;> decide
          exact small1000 (by omega)
        · rw [upd_ne (ne_of_none e nD)]
          exact s' _ _ e
        · rw [upd_same, List.take_add_one, hy, List.map_append]
          rfl
      · obtain ⟨s', hD⟩ := hP
        rw [lmV, List.take_length] at hD
        refine ⟨D, ms, rfl, sl hD, by omega, fun m mm ml => ?_⟩
        refine ⟨.ref t, rfl, t, _, 0, .int (costL ms (List.replicate k 0)), rfl, rfl, tl (s' _ _ ht1), at_z (j := 0) rfl (by rw [List.getElem?_map, cost_0 k3 lm]; rfl), rfl, ?_⟩
        have em : m = costL ms (List.replicate k 0) := by
          obtain ⟨r, mr, er⟩ := all_cost k3 lm mm
          have h1 := kd.1 rfl r mr
          have h2 := ml _ (List.mem_of_getElem? (cost_0 k3 lm))
          omega
        rw [em, decide_eq_true rfl]
        exact q _ (s1.trans s')
    have n1 : ¬ wd = "all no" := fun z => e (decide_eq_true z)
    refine q_next ?_
    dsimp only
    refine q_seq (q_if ?_)
    refine ⟨.str wd, rfl, rfl, _, rfl, ?_⟩
    dsimp only
    rw [dStr]
    refine ite2 (fun e => ?_) (fun e => ?_)
    · obtain rfl := of_decide_eq_true e
      refine q_ret ?_
      refine ⟨.ref t, rfl, t, rfl, ⟨_, tl ht1⟩, fun D nD => lc_tup (K := K) (a := t) (xs := ms.map V.int) (fun i H' => Same H1 H' ∧ H' D = some (.lst ((ms.take i).map V.int))) ⟨same_upd nD, upd_same⟩ (fun i H' _ hP => tl (hP.1 _ _ ht1)) (fun i x H' hx hP => ?_) (fun H' hP => ?_)⟩
      · obtain ⟨s', hD⟩ := hP
        obtain ⟨y, rfl, hy⟩ := int_at hx
        refine ⟨rfl, .int y, rfl, .inl ⟨y, rfl, _, hD, ?_, fun b o e => ?_, ?_⟩⟩
        · rw [List.length_map, List.length_take]
          have : ms.length ≤ 8 := by rw [lm]; have : k = 1 ∨ k = 2 ∨ k = 3 := by omega
                                     rcases this with rfl | rfl | rfl <;> decide
          exact small1000 (by omega)
        · rw [upd_ne (ne_of_none e nD)]
          exact s' _ _ e
        · rw [upd_same, List.take_add_one, hy, List.map_append]
          rfl
      · obtain ⟨s', hD⟩ := hP
        rw [lmV, List.take_length] at hD
        refine ⟨D, ms, rfl, sl hD, by omega, fun m mm ml => ?_⟩
        refine ⟨.ref t, rfl, 1, rfl, t, _, -1, .int (costL ms (List.replicate k 1)), rfl, rfl, tl (s' _ _ ht1), at_m1 (by omega) (by rw [List.getElem?_map, lmV, cost_1 k3 lm]; rfl), rfl, ?_⟩
        have em : m = costL ms (List.replicate k 1) := by
          obtain ⟨r, mr, er⟩ := all_cost k3 lm mm
          have h1 := kd.2.1 rfl r mr
          have h2 := ml _ (List.mem_of_getElem? (cost_1 k3 lm))
          omega
        rw [em, decide_eq_true rfl]
        exact q _ (s1.trans s')
    have n2 : ¬ wd = "all yes" := fun z => e (decide_eq_true z)
    refine q_next ?_
    dsimp only
    refine q_seq ?_
    refine ⟨.ref R, rfl, R, _, rfl, .inl (sl hR), ?_⟩
    have lR : (rs.map V.ref).length = 2 ^ k := by rw [List.length_map, paired_len rw1, rows_len]
    rw [lR]
    have p8 : 2 ^ k ≤ 8 := by
      have : k = 1 ∨ k = 2 ∨ k = 3 := by omega
      rcases this with rfl | rfl | rfl <;> decide
    refine ⟨((2 ^ k : Nat) : Int), rfl, by omega, by omega, for_range (lo := 0) (n := 2 ^ k) (fun i σ H' => Same H1 H' ∧ ∃ x5 x6 x7 x8 : Option V, σ = [some (.ref p), some (.str wd), some (.int k), some (.ref t), some (.ref R), x5, x6, x7, x8, none, none, none]) ⟨Same.refl _, none, none, none, none, rfl⟩ (fun i σ H2 hi hP => ?_) (fun σ H2 hP => ?_)⟩
    · obtain ⟨s2, x5, x6, x7, x8, rfl⟩ := hP
      refine ⟨.int (0 + (i : Int)), rfl, _, _, rfl, rfl, .ref R, rfl, R, _, rfl, .inl (sl (s2 _ _ hR)), ?_⟩
      rw [lR]
      refine ⟨(0 + (i : Int)) + 1, ((2 ^ k : Nat) : Int), rfl, by omega, for_range (lo := (0 + (i : Int)) + 1) (n := _) (fun j σ H' => Same H1 H' ∧ ∃ x6 x7 x8 : Option V, σ = [some (.ref p), some (.str wd), some (.int k), some (.ref t), some (.ref R), some (.int (0 + (i : Int))), x6, x7, x8, none, none, none]) ⟨s2, x6, x7, x8, rfl⟩ (fun j σ H3 hj hQ => ?_) (fun σ H3 hQ => ?_)⟩
      · obtain ⟨s3, x6, x7, x8, rfl⟩ := hQ
        obtain ⟨j', ej, jl⟩ : ∃ j' : Nat, 0 + (i : Int) + 1 + (j : Int) = (j' : Int) ∧ j' < 2 ^ k := ⟨i + 1 + j, by omega, by omega⟩
        rw [ej]
        have il : i < (rowsOf k).length := by rw [rows_len]; exact hi
        have jl' : j' < (rowsOf k).length := by rw [rows_len]; exact jl
        have gi : (rowsOf k)[i]? = some (rowsOf k)[i] := List.getElem?_eq_getElem il
        have gj : (rowsOf k)[j']? = some (rowsOf k)[j'] := List.getElem?_eq_getElem jl'
        generalize (rowsOf k)[i] = ri at gi
        generalize (rowsOf k)[j'] = rj at gj
        obtain ⟨pi, hpi, hri⟩ := rws_get (rw1.same s3) gi
        obtain ⟨pj, hpj, hrj⟩ := rws_get (rw1.same s3) gj
        have mi := List.mem_of_getElem? gi
        have mj := List.mem_of_getElem? gj
        have li := row_len k ri mi
        have lj := row_len k rj mj
        -- both
        refine q_seq (q_set ?_)
        refine ⟨.ref R, rfl, .int _, rfl, R, _, _, .ref pi, rfl, rfl, sl (s3 _ _ hR), at_z (j := i) (Int.zero_add _) hpi, .ref R, rfl, .int _, rfl, R, _, _, .ref pj, rfl, rfl, sl (s3 _ _ hR), at_z (j := j') rfl hpj, pi, pj, ri.map V.int, rj.map V.int, rfl, .inr ⟨tl hri, tl hrj, fun D nD => lc_zipT (K := K) (a := pi) (b := pj) (xs := ri.map V.int) (ys := rj.map V.int) (fun i G => Same H3 G ∧ G D = some (.lst (((andR ri rj).take i).map V.int))) ⟨same_upd nD, upd_same⟩ (fun i G _ hP => ⟨tl (hP.1 _ _ hri), tl (hP.1 _ _ hrj)⟩) (by rw [List.length_map, List.length_map, li, lj]) (fun i x y G T hx hy hP nT => ?_) (fun H4 hP => ?_)⟩⟩
        · obtain ⟨s', hD⟩ := hP
          obtain ⟨n, rfl, ex⟩ := int_at hx
          obtain ⟨m, rfl, ey⟩ := int_at hy
          refine ⟨T, _, rfl, tl upd_same, rfl, _, _, rfl, _, _, rfl, rfl, ?_⟩
          have hD2 := same_upd (o := .tup [.int n, .int m]) nT _ _ hD
          have nb := bits_rows k ri mi n (List.mem_of_getElem? ex)
          refine ⟨rfl, .int n, rfl, .int m, rfl, _, _, rfl, rfl, .inl (by omega), _, hD2, ?_, fun b o z => ?_, ?_⟩
          · have l4 := and_len (li.trans lj.symm)
            rw [List.length_map, List.length_take]
            exact small1000 (by omega)
          · rw [upd_ne (ne_of_none z nD)]
            exact same_upd nT _ _ (s' _ _ z)
          · rw [upd_same, show (andR ri rj).take (i + 1) = _ from zip_take ex ey, List.map_append]
            rfl
        obtain ⟨sA, hD⟩ := hP
        have lA : (andR ri rj).length = k := (and_len (li.trans lj.symm)).trans li
        rw [List.length_map, li, ← lA, List.take_length] at hD
        refine ⟨D, andR ri rj, rfl, sl hD, ?_⟩
        have s4 := s3.trans sA
        replace hri := sA _ _ hri
        replace hrj := sA _ _ hrj
        dsimp only
        refine q_seq (q_set ?_)
        refine ⟨.ref R, rfl, .int _, rfl, R, _, _, .ref pi, rfl, rfl, sl (s4 _ _ hR), at_z (j := i) (Int.zero_add _) hpi, .ref R, rfl, .int _, rfl, R, _, _, .ref pj, rfl, rfl, sl (s4 _ _ hR), at_z (j := j') rfl hpj, pi, pj, ri.map V.int, rj.map V.int, rfl, .inr ⟨tl hri, tl hrj, fun D nD => lc_zipT (K := K) (a := pi) (b := pj) (xs := ri.map V.int) (ys := rj.map V.int) (fun i G => Same H4 G ∧ G D = some (.lst (((orR ri rj).take i).map V.int))) ⟨same_upd nD, upd_same⟩ (fun i G _ hP => ⟨tl (hP.1 _ _ hri), tl (hP.1 _ _ hrj)⟩) (by rw [List.length_map, List.length_map, li, lj]) (fun i x y G T hx hy hP nT => ?_) (fun H5 hP => ?_)⟩⟩
        · obtain ⟨s', hD⟩ := hP
          obtain ⟨n, rfl, ex⟩ := int_at hx
          obtain ⟨m, rfl, ey⟩ := int_at hy
          refine ⟨T, _, rfl, tl upd_same, rfl, _, _, rfl, _, _, rfl, rfl, ?_⟩
          have hD2 := same_upd (o := .tup [.int n, .int m]) nT _ _ hD
          have nb := bits_rows k ri mi n (List.mem_of_getElem? ex)
          refine ⟨rfl, .int n, rfl, .inl ⟨n, rfl, .int m, rfl, .inl ⟨m, rfl, n, m, rfl, _, hD2, ?_, fun b o z => ?_, ?_⟩⟩⟩
          · have l4 := or_len (li.trans lj.symm)
            rw [List.length_map, List.length_take]
            exact small1000 (by omega)
          · rw [upd_ne (ne_of_none z nD)]
            exact same_upd nT _ _ (s' _ _ z)
          · rw [upd_same, show (orR ri rj).take (i + 1) = _ from zip_take ex ey, List.map_append]
            rfl
        obtain ⟨sB, hD2⟩ := hP
        have lB : (orR ri rj).length = k := (or_len (li.trans lj.symm)).trans li
        rw [List.length_map, li, ← lB, List.take_length] at hD2
        refine ⟨_, orR ri rj, rfl, sl hD2, ?_⟩
        have s5 := s4.trans sB
        have ma := and_row mi mj
        have mo := or_row mi mj
        have ht5 := s5 _ _ ht1
        obtain ⟨na, ga⟩ := cost_at (bits_rows k _ ma) lA k3 lm
        obtain ⟨no, go⟩ := cost_at (bits_rows k _ mo) lB k3 lm
        have ei := rows_num k3 gi
        have ej2 := rows_num k3 gj
        obtain ⟨_, gci⟩ := cost_at (bits_rows k _ mi) li k3 lm
        obtain ⟨_, gcj⟩ := cost_at (bits_rows k _ mj) lj k3 lm
        rw [ei, Int.toNat_natCast] at gci
        rw [ej2, Int.toNat_natCast] at gcj
        dsimp only
        have tk := tl (K := K) ht5
        refine q_seqJ (fun σ G => σ = [some (.ref p), some (.str wd), some (.int k), some (.ref t), some (.ref R), some (.int (0 + (i : Int))), some (.int j'), some (.int (num (andR ri rj))), some (.int (num (orR ri rj))), none, none, none] ∧ G = H5) (fun σ' HJ hJ => ?_) (fun key => ?_)
        rotate_left
        · refine q_if ?_
          refine ⟨.str wd, rfl, rfl, _, rfl, ?_⟩
          try dsimp only
          rw [dStr]
          by_cases wb : wd = "bent"
          · rw [decide_eq_true wb, if_pos rfl]
            refine ⟨.ref t, rfl, .int _, rfl, t, _, _, .int (costL ms (andR ri rj)), rfl, rfl, tk, at_z (j := (num (andR ri rj)).toNat) na ga, .ref t, rfl, .int _, rfl, t, _, _, .int (costL ms (orR ri rj)), rfl, rfl, tk, at_z (j := (num (orR ri rj)).toNat) no go, _, _, rfl, rfl, .ref t, rfl, .int _, rfl, t, _, _, .int (costL ms ri), rfl, rfl, tk, at_z (j := i) (Int.zero_add _) gci, .ref t, rfl, .int _, rfl, t, _, _, .int (costL ms rj), rfl, rfl, tk, at_z (j := j') rfl gcj, _, _, rfl, rfl, _, _, rfl, rfl, _, rfl, ?_⟩
            rw [decide_eq_false (by have := kd.2.2.1 wb ri mi rj mj; omega)]
            try dsimp only
            rw [if_neg (by decide)]
            refine q_next ?_
            exact key _ _ ⟨rfl, rfl⟩
          · rw [decide_eq_false wb, if_neg (by decide)]
            try dsimp only
            rw [if_neg (by decide)]
            refine q_next ?_
            exact key _ _ ⟨rfl, rfl⟩
        obtain ⟨rfl, eJ⟩ := hJ
        rw [eJ]
        refine q_seqJ (fun σ G => σ = [some (.ref p), some (.str wd), some (.int k), some (.ref t), some (.ref R), some (.int (0 + (i : Int))), some (.int j'), some (.int (num (andR ri rj))), some (.int (num (orR ri rj))), none, none, none] ∧ G = H5) (fun σ' HJ hJ => ?_) (fun key => ?_)
        rotate_left
        · refine q_if ?_
          refine ⟨.str wd, rfl, rfl, _, rfl, ?_⟩
          try dsimp only
          rw [dStr]
          by_cases wb : wd = "rising"
          · rw [decide_eq_true wb, if_pos rfl]
            refine ⟨.int _, rfl, .int _, rfl, rfl, _, rfl, ?_⟩
            rw [dInt2]
            try dsimp only
            by_cases ej3 : num (orR ri rj) = (j' : Int)
            · rw [decide_eq_true ej3, if_pos rfl]
              refine ⟨.ref t, rfl, .int _, rfl, t, _, _, .int (costL ms rj), rfl, rfl, tk, at_z (j := j') rfl gcj, .ref t, rfl, .int _, rfl, t, _, _, .int (costL ms ri), rfl, rfl, tk, at_z (j := i) (Int.zero_add _) gci, _, _, rfl, rfl, _, rfl, ?_⟩
              have eo : orR ri rj = rj := by
                obtain ⟨q1, hq1⟩ := List.getElem?_of_mem mo
                have := rows_num k3 hq1
                have e2 : q1 = j' := by omega
                rw [e2, gj] at hq1
                exact (Option.some.inj hq1).symm
              have := kd.2.2.2.1 wb ri mi rj mj (or_le mi mj eo)
              rw [decide_eq_false (by omega)]
              try dsimp only
              rw [if_neg (by decide)]
              refine q_next ?_
              exact key _ _ ⟨rfl, rfl⟩
            rw [decide_eq_false ej3, if_neg (by decide)]
            try dsimp only
            rw [if_neg (by decide)]
            refine q_next ?_
            exact key _ _ ⟨rfl, rfl⟩
          · rw [decide_eq_false wb, if_neg (by decide)]
            try dsimp only
            rw [if_neg (by decide)]
            refine q_next ?_
            exact key _ _ ⟨rfl, rfl⟩
        obtain ⟨rfl, eJ2⟩ := hJ
        rw [eJ2]
        refine q_if ?_
        refine ⟨.str wd, rfl, rfl, _, rfl, ?_⟩
        try dsimp only
        rw [dStr]
        by_cases wb : wd = "falling"
        · rw [decide_eq_true wb, if_pos rfl]
          refine ⟨.int _, rfl, .int _, rfl, rfl, _, rfl, ?_⟩
          rw [dInt2]
          try dsimp only
          by_cases ej3 : num (orR ri rj) = (j' : Int)
          · rw [decide_eq_true ej3, if_pos rfl]
            refine ⟨.ref t, rfl, .int _, rfl, t, _, _, .int (costL ms rj), rfl, rfl, tk, at_z (j := j') rfl gcj, .ref t, rfl, .int _, rfl, t, _, _, .int (costL ms ri), rfl, rfl, tk, at_z (j := i) (Int.zero_add _) gci, _, _, rfl, rfl, _, rfl, ?_⟩
            have eo : orR ri rj = rj := by
              obtain ⟨q1, hq1⟩ := List.getElem?_of_mem mo
              have := rows_num k3 hq1
              have e2 : q1 = j' := by omega
              rw [e2, gj] at hq1
              exact (Option.some.inj hq1).symm
            have := kd.2.2.2.2 wb ri mi rj mj (or_le mi mj eo)
            rw [decide_eq_false (by omega)]
            try dsimp only
            rw [if_neg (by decide)]
            refine q_next ?_
            exact ⟨s5, _, _, _, rfl⟩
          rw [decide_eq_false ej3, if_neg (by decide)]
          try dsimp only
          rw [if_neg (by decide)]
          refine q_next ?_
          exact ⟨s5, _, _, _, rfl⟩
        · rw [decide_eq_false wb, if_neg (by decide)]
          try dsimp only
          rw [if_neg (by decide)]
          refine q_next ?_
          exact ⟨s5, _, _, _, rfl⟩
      · obtain ⟨s3, x6, x7, x8, rfl⟩ := hQ
        exact ⟨s3, _, _, _, _, rfl⟩
    · obtain ⟨s2, x5, x6, x7, x8, rfl⟩ := hP
      dsimp only
      refine q_ret ?_
      exact q _ (s1.trans s2)
end
end CP

namespace CP
open PySem PySem.Spec PyProof.Rows L2 Ek CC CS
/-- the cost of a row, as it is built -/
def bentV (k : Nat) (b : Int) (ss : List Int) (p0 p1 p2 t : Int) (r : List Int) : Int :=
  let m := b + (List.zipWith (fun x y => x * y) ss r).sum
  let m := if 1 < k then m + p0 * r.getD 0 0 * r.getD 1 0 else m
  if 2 < k then m + p1 * r.getD 0 0 * r.getD 2 0 + p2 * r.getD 1 0 * r.getD 2 0 + t * r.getD 0 0 * r.getD 1 0 * r.getD 2 0 else m
theorem len2 {l : List Int} (h : l.length = 2) : ∃ a b, l = [a, b] := by
  match l, h with
  | [a, b], _ => exact ⟨a, b, rfl⟩
theorem len3 {l : List Int} (h : l.length = 3) : ∃ a b c, l = [a, b, c] := by
  match l, h with
  | [a, b, c], _ => exact ⟨a, b, c, rfl⟩
theorem rows1 : rowsOf 1 = [[0], [1]] := by decide +kernel
theorem rows2 : rowsOf 2 = [[0, 0], [0, 1], [1, 0], [1, 1]] := by decide +kernel
theorem rows3 : rowsOf 3 = [[0, 0, 0], [0, 0, 1], [0, 1, 0], [0, 1, 1], [1, 0, 0], [1, 0, 1], [1, 1, 0], [1, 1, 1]] := by decide +kernel
theorem bent_kb {k : Nat} {b : Int} {ss : List Int} {p0 p1 p2 t : Int} (k1 : 1 ≤ k) (k3 : k ≤ 3) (ls : ss.length = k) (h0 : p0 ≤ 0 ∧ p0 + t ≤ 0) (h1 : p1 ≤ 0 ∧ p1 + t ≤ 0) (h2 : p2 ≤ 0 ∧ p2 + t ≤ 0) : KB2 k (bentV k b ss p0 p1 p2 t) := by
  intro x hx y hy
  rcases (show k = 1 ∨ k = 2 ∨ k = 3 by omega) with rfl | rfl | rfl
  · obtain ⟨s, rfl⟩ : ∃ s, ss = [s] := List.length_eq_one_iff.mp ls
    rw [rows1] at hx hy
    simp only [List.mem_cons, List.not_mem_nil, or_false] at hx hy
    rcases hx with rfl | rfl <;> rcases hy with rfl | rfl <;> simp [bentV, andR, orR] <;> omega
  · obtain ⟨s, u, rfl⟩ : ∃ s u, ss = [s, u] := len2 ls
    rw [rows2] at hx hy
    simp only [List.mem_cons, List.not_mem_nil, or_false] at hx hy
    rcases hx with rfl | rfl | rfl | rfl <;> rcases hy with rfl | rfl | rfl | rfl <;> simp [bentV, andR, orR] <;> omega
  · obtain ⟨s, u, v, rfl⟩ : ∃ s u v, ss = [s, u, v] := len3 ls
    rw [rows3] at hx hy
    simp only [List.mem_cons, List.not_mem_nil, or_false] at hx hy
    rcases hx with rfl | rfl | rfl | rfl | rfl | rfl | rfl | rfl <;> rcases hy with rfl | rfl | rfl | rfl | rfl | rfl | rfl | rfl <;> simp [bentV, andR, orR] <;> omega
theorem bent_bd {k : Nat} {b : Int} {ss : List Int} {p0 p1 p2 t : Int} (k1 : 1 ≤ k) (k3 : k ≤ 3) (ls : ss.length = k) (hb : -1000 ≤ b ∧ b ≤ 1000) (hs : ∀ s ∈ ss, -1000 ≤ s ∧ s ≤ 1000) (h0 : -3000 ≤ p0 ∧ p0 ≤ 3000) (h1 : -3000 ≤ p1 ∧ p1 ≤ 3000) (h2 : -3000 ≤ p2 ∧ p2 ≤ 3000) (ht : -1000 ≤ t ∧ t ≤ 1000) : ∀ r ∈ rowsOf k, -100000 ≤ bentV k b ss p0 p1 p2 t r ∧ bentV k b ss p0 p1 p2 t r ≤ 100000 := by
  intro x hx
  rcases (show k = 1 ∨ k = 2 ∨ k = 3 by omega) with rfl | rfl | rfl
  · obtain ⟨s, rfl⟩ : ∃ s, ss = [s] := List.length_eq_one_iff.mp ls
    have hs1 := hs s (by simp)
    rw [rows1] at hx
    simp only [List.mem_cons, List.not_mem_nil, or_false] at hx
    rcases hx with rfl | rfl <;> simp [bentV] <;> omega
  · obtain ⟨s, u, rfl⟩ : ∃ s u, ss = [s, u] := len2 ls
    have hs1 := hs s (by simp)
    have hs2 := hs u (by simp)
    rw [rows2] at hx
    simp only [List.mem_cons, List.not_mem_nil, or_false] at hx
    rcases hx with rfl | rfl | rfl | rfl <;> simp [bentV] <;> omega
  · obtain ⟨s, u, v, rfl⟩ : ∃ s u v, ss = [s, u, v] := len3 ls
    have hs1 := hs s (by simp)
    have hs2 := hs u (by simp)
    have hs3 := hs v (by simp)
    rw [rows3] at hx
    simp only [List.mem_cons, List.not_mem_nil, or_false] at hx
    rcases hx with rfl | rfl | rfl | rfl | rfl | rfl | rfl | rfl <;> simp [bentV] <;> omega
theorem cost_map {k : Nat} {f : List Int → Int} (k3 : k ≤ 3) {r : List Int} (hr : r ∈ rowsOf k) : costL ((rowsOf k).map f) r = f r := by
  obtain ⟨j, hj⟩ := List.getElem?_of_mem hr
  unfold costL
  rw [rows_num k3 hj, Int.toNat_natCast, List.getD_eq_getElem?_getD, List.getElem?_map, hj]
  rfl
theorem kb_map {k : Nat} {f : List Int → Int} (k3 : k ≤ 3) (h : KB2 k f) : KdR "bent" k (costL ((rowsOf k).map f)) := by
  obtain ⟨a1, a2, a3, a4, a5, a6, a7, a8, a9, a10⟩ := words_apart
  refine ⟨fun e => absurd e.symm a2, fun e => absurd e.symm a5, fun _ a ma b mb => ?_, fun e => absurd e a8, fun e => absurd e a9⟩
  rw [cost_map k3 ma, cost_map k3 mb, cost_map k3 (and_row ma mb), cost_map k3 (or_row ma mb)]
  exact h a ma b mb
section
variable {P : Program} {w : World} {K : PySem.W.Frag} {mg : Str → Option Value} {base : Heap}
def spLBn (K : PySem.W.Frag) : Sp := fun vs H Q _ => ∃ (h dr : Addr) (k : Nat), vs = [.ref h, .int k] ∧ Hdd H h dr ∧ 1 ≤ k ∧ k ≤ 3 ∧ ∀ p z H', Kp h H H' → Hdd H' h dr → LPr H' p z → KdR "bent" z.1 (costL z.2) → Q (.ref p) H'
theorem ok_LBn {f : Addr} {fd : FuncData} (F : Fun K "_law_bent" "_law_bent" sLBn f fd) (B : Bt mg) {fTake : Addr} {fdTake : FuncData} (GTake : FnOk P w K mg base CX0 1 fTake fdTake ["hand", "many"] spTake) (kTake : PySem.W.keepIn K (.ref fTake) = true) (bTake : Binds K fdTake ["hand", "many"] []) (gTake : mg "_law_take" = some (.ref fTake)) {fEvery : Addr} {fdEvery : FuncData} (GEvery : FnOk P w K mg base CX0 1 fEvery fdEvery ["many"] spEv) (kEvery : PySem.W.keepIn K (.ref fEvery) = true) (bEvery : Binds K fdEvery ["many"] []) (gEvery : mg "_law_rows" = some (.ref fEvery)) {fAm3 : Addr} {fdAm3 : FuncData} (GAm3 : FnOk P w K mg base CX0 2 fAm3 fdAm3 ["hand"] spAm3) (kAm3 : PySem.W.keepIn K (.ref fAm3) = true) (bAm3 : Binds K fdAm3 ["hand"] []) (gAm3 : mg "_law_amount" = some (.ref fAm3)) : FnOk P w K mg base CX0 3 f fd ["hand", "size"] (spLBn K) := by
  refine F.ok scLBn (fun vs H Q E h => ?_) (fun cdv A outer s H vs Q E hr h => ?_)
  · obtain ⟨h, dr, k, rfl, _⟩ := h
    rfl
  · obtain ⟨h, dr, k, rfl, hd, k1, k3, q⟩ := h
    refine ⟨_, (pss_cons (ps_set (i := 2) scLBn.nd rfl (.inl rfl) (pe_call GAm3 (hr.mono (by decide)) (by rfl) gAm3 kAm3 bAm3 .nil pass0 (pa_cons (pv 0) pa_nil)))
      (pss_cons (ps_setLc (i := 3) (own := [("k", 9)]) (g := gName 9) (tt := tYes) rfl scLBn.nd rfl rfl (sw_true rfl rfl rfl (by decide +kernel)) (pi_range1 rfl B.range (pa_cons (pv 1) pa_nil)) (blkOk_by (N := NLBn) (sc := defScope sLBn) (by decide +kernel)) (fun _ _ _ _ _ => pg_name (i := 9) scLBn.nd rfl (Or.inl rfl)) (fun _ _ _ _ _ => pts_nil) (fun _ _ _ _ _ => (pe_call GAm3 (hr.mono (by decide)) (by rfl) gAm3 kAm3 bAm3 .nil pass0 (pa_cons (pv 0) pa_nil))))
      (pss_cons (ps_set (i := 4) scLBn.nd rfl (.inr rfl) (pe_op op_mul (pe_call GAm3 (hr.mono (by decide)) (by rfl) gAm3 kAm3 bAm3 .nil pass0 (pa_cons (pv 0) pa_nil)) (pe_callTy call_int1 (by rfl) B.int (by decide +kernel) (pa_cons (pe_cmpR op_eq (pv 1) pe_int (nomark _)) pa_nil))))
      (pss_cons (ps_set (i := 5) scLBn.nd rfl (.inl rfl) (pe_lst pa_nil))
      (pss_cons (ps_setLc (i := 6) (own := [("k", 9)]) (g := gName 9) (tt := tYes) rfl scLBn.nd rfl rfl (sw_true rfl rfl rfl (by decide +kernel)) (pi_range1 rfl B.range (pa_cons pe_int pa_nil)) (blkOk_by (N := NLBn) (sc := defScope sLBn) (by decide +kernel)) (fun _ _ _ _ _ => pg_name (i := 9) scLBn.nd rfl (Or.inl rfl)) (fun _ _ _ _ _ => pts_nil) (fun _ _ _ _ _ => (pe_op op_sub (pe_un un_neg (pe_callB (call_max2 rfl) (by rfl) B.max (by decide +kernel) (pa_cons (pe_callTy call_int1 (by rfl) B.int (by decide +kernel) (pa_cons (pv 4) pa_nil)) (pa_cons pe_int pa_nil)))) (pe_call GTake (hr.mono (by decide)) (by rfl) gTake kTake bTake .nil pass0 (pa_cons (pv 0) (pa_cons pe_int pa_nil))))))
      (pss_cons (ps_for PassesOwn.never rfl (pi_list (pe_call GEvery (hr.mono (by decide)) (by rfl) gEvery kEvery bEvery .nil pass0 (pa_cons (pv 1) pa_nil))) (pg_name (i := 7) scLBn.nd rfl (.inl rfl))
      (pss_cons (ps_set (i := 8) scLBn.nd rfl (.inl rfl) (pe_op op_add (pv 2) (pe_callB (cr_sum rfl) (by rfl) B.sum (by decide +kernel) (pa_cons (pe_lc (own := [("x", 10), ("y", 11)]) (tt := tYes) rfl scLBn.nd (pi_zipM false true (by rfl) B.zip (pa_cons (pv 3) (pa_cons (pv 7) pa_nil))) (blkOk_by (N := NLBn) (sc := defScope sLBn) (by decide +kernel)) (fun _ _ _ _ _ => (pg_tupk (n := 2) K rfl rfl (pgs_cons (pg_name (i := 10) scLBn.nd rfl (Or.inl rfl)) (pgs_cons (pg_name (i := 11) scLBn.nd rfl (Or.inl rfl)) pgs_nil)))) (fun _ _ _ _ _ => pts_nil) (fun _ _ _ _ _ => (pe_op op_mul (pv 10) (pv 11)))) pa_nil))))
      (pss_cons (ps_if (pt_cmpR op_gt (pv 1) pe_int (nomark _))
      (pss_one (ps_set (i := 8) scLBn.nd rfl (.inl rfl) (pe_op op_add (pv 8) (pe_op op_mul (pe_op op_mul (pe_ix ix_list (pv 6) pe_int (fun _ _ => rfl)) (pe_ix ix_tup (pv 7) pe_int (fun _ _ => rfl))) (pe_ix ix_tup (pv 7) pe_int (fun _ _ => rfl)))))) pss_nil)
      (pss_cons (ps_if (pt_cmpR op_gt (pv 1) pe_int (nomark _))
      (pss_one (ps_set (i := 8) scLBn.nd rfl (.inl rfl) (pe_op op_add (pe_op op_add (pe_op op_add (pv 8) (pe_op op_mul (pe_op op_mul (pe_ix ix_list (pv 6) pe_int (fun _ _ => rfl)) (pe_ix ix_tup (pv 7) pe_int (fun _ _ => rfl))) (pe_ix ix_tup (pv 7) pe_int (fun _ _ => rfl)))) (pe_op op_mul (pe_op op_mul (pe_ix ix_list (pv 6) pe_int (fun _ _ => rfl)) (pe_ix ix_tup (pv 7) pe_int (fun _ _ => rfl))) (pe_ix ix_tup (pv 7) pe_int (fun _ _ => rfl)))) (pe_op op_mul (pe_op op_mul (pe_op op_mul (pv 4) (pe_ix ix_tup (pv 7) pe_int (fun _ _ => rfl))) (pe_ix ix_tup (pv 7) pe_int (fun _ _ => rfl))) (pe_ix ix_tup (pv 7) pe_int (fun _ _ => rfl)))))) pss_nil)
      (pss_one (ps_expr (pe_bm PySem.F.plainAttrs_list PySem.F.slot_list_append PySem.F.type_list_append mt_append (pv 5) (pa_cons (pv 8) pa_nil))))))))
      (pss_one (ps_ret (pe_tup (pa_cons (pv 1) (pa_cons (pe_callTy call_tuple_of (by rfl) B.tuple (by decide +kernel) (pa_cons (pv 5) pa_nil)) pa_nil))))))))))), ?_⟩
    -- base
    refine q_seq (q_set ?_)
    refine ⟨.ref h, rfl, h, dr, rfl, hd, fun b H1 kp1 hd1 b0 b1 => ?_⟩
    try dsimp only
    -- singles
    refine q_seq (q_set ?_)
    refine ⟨.int k, rfl, (k : Int), rfl, by omega, by omega, fun D nD => lc_range (lo := 0) (n := k) (fun i H' => Kp h H H' ∧ Hdd H' h dr ∧ ∃ ss : List Int, H' D = some (.lst (ss.map V.int)) ∧ ss.length = i ∧ ∀ s ∈ ss, -1000 ≤ s ∧ s ≤ 1000) ⟨kp1.trans (Kp.of (same_upd nD)), hd1.same (same_upd nD), [], upd_same, rfl, fun _ m => nomatch m⟩ (fun i H' hi hP => ?_) (fun H2 hP => ?_)⟩
    · obtain ⟨kp', hd', ss, hD, ls, bs⟩ := hP
      have nDh := hd1.ne nD
      have nDd := hd1.ned nD
      refine ⟨rfl, .ref h, rfl, h, dr, rfl, hd', fun v H3 kp3 hd3 v0 v1 => ?_⟩
      have hD3 := kp3 _ _ nDh hD
      refine ⟨_, hD3, by rw [List.length_map]; exact small1000 (by omega), fun c o nc e => ?_, hd3.upd nDh nDd, ss ++ [v], by rw [upd_same, List.map_append]; rfl, by rw [List.length_append, ls]; rfl, fun s ms => ?_⟩
      · rw [upd_ne (ne_of_none e (by
          cases e9 : H D with
          | none => rfl
          | some o => rw [kp1 D o nDh e9] at nD; cases nD))]
        exact (kp'.trans kp3) c o nc e
      · rcases List.mem_append.mp ms with m | m
        · exact bs s m
        · rw [List.mem_singleton.mp m]
          exact ⟨v0, v1⟩
    obtain ⟨kp2, hd2, ss, hS, ls, bs⟩ := hP
    have nSh := hd1.ne nD
    try dsimp only
    -- triple
    refine q_seq (q_set ?_)
    refine ⟨.ref h, rfl, h, dr, rfl, hd2, fun t0 H3 kp3 hd3 t1 t2 => ?_⟩
    have hS3 := kp3 _ _ nSh hS
    refine ⟨.int k, rfl, rfl, .inr ⟨_, rfl, ?_⟩⟩
    refine ⟨t0, _, rfl, rfl, .inl (by omega), ?_⟩
    obtain ⟨t, et, tb⟩ : ∃ t : Int, t0 * (if decide (V.int (k : Int) = V.int 3) = true then 1 else 0) = t ∧ (-1000 ≤ t ∧ t ≤ 1000) := by
      refine ⟨_, rfl, ?_⟩
      split
      · omega
      · omega
    dsimp only
    rw [et]
    try dsimp only
    -- amounts
    refine q_seq (q_set ⟨Nat.zero_le _, fun A0 nA => ?_⟩)
    have sA := same_upd (o := .lst []) nA
    have hA0 : (upd H3 A0 (.lst [])) A0 = some (.lst []) := upd_same
    have nAh := hd3.ne nA
    have nAd := hd3.ned nA
    have hd4 := hd3.same sA
    have hS4 := sA _ _ hS3
    have nAS : A0 ≠ D := Ne.symm (ne_of_none hS3 nA)
    have kp4 : Kp h H (upd H3 A0 (.lst [])) := (kp2.trans kp3).trans (Kp.of sA)
    have nA0 : H A0 = none := by
      cases e9 : H A0 with
      | none => rfl
      | some o => rw [(kp2.trans kp3) A0 o nAh e9] at nA; cases nA
    generalize upd H3 A0 (.lst []) = H4 at hA0 hd4 hS4 kp4 ⊢
    try dsimp only
    -- pairs
    refine q_seq (q_set ?_)
    refine ⟨3, rfl, by decide, by decide, fun G nG => lc_range (lo := 0) (n := 3) (fun i H' => Kp h H4 H' ∧ Hdd H' h dr ∧ ∃ ps : List Int, H' G = some (.lst (ps.map V.int)) ∧ ps.length = i ∧ ∀ s ∈ ps, -3000 ≤ s ∧ s ≤ 0 ∧ s + t ≤ 0) ⟨Kp.of (same_upd nG), hd4.same (same_upd nG), [], upd_same, rfl, fun _ m => nomatch m⟩ (fun i H' hi hP => ?_) (fun H5 hP => ?_)⟩
    · obtain ⟨kp', hd', ps, hG, lp, bp⟩ := hP
      have nGh := hd4.ne nG
      have nGd := hd4.ned nG
      refine ⟨rfl, .int t, rfl, .inl ⟨t, rfl, t, 0, rfl, _, rfl, .ref h, rfl, h, dr, 4, rfl, hd', by decide, fun r H3' r0 r1 e3 hd3' => ?_⟩⟩
      have k3' := Kp.eq e3
      have hG3 := k3' _ _ nGh hG
      refine ⟨_, _, rfl, rfl, _, hG3, by rw [List.length_map]; exact small1000 (by omega), fun c o nc e => ?_, hd3'.upd nGh nGd, ps ++ [-(if 0 > t then 0 else t) - r], by rw [upd_same, List.map_append]; rfl, by rw [List.length_append, lp]; rfl, fun s ms => ?_⟩
      · rw [upd_ne (ne_of_none e nG)]
        exact (kp'.trans k3') c o nc e
      · rcases List.mem_append.mp ms with m | m
        · exact bp s m
        · rw [List.mem_singleton.mp m]
          split <;> omega
    obtain ⟨kp5, hd5, ps, hG, lp, bp⟩ := hP
    have nGh := hd4.ne nG
    obtain ⟨p0, p1, p2, rfl⟩ := len3 lp
    have c0 := bp p0 (by simp)
    have c1 := bp p1 (by simp)
    have c2 := bp p2 (by simp)
    have hS5 := kp5 _ _ nSh hS4
    have hA5 := kp5 _ _ nAh hA0
    have kpz := kp4.trans kp5
    have nAG : A0 ≠ G := ne_of_none hA0 nG
    try dsimp only
    refine q_seq ?_
    refine ⟨.int k, rfl, k, rfl, by omega, fun H6 R rs s6 nR hR rw6 => ?_⟩
    have hS6 := s6 _ _ hS5
    have hA6 := s6 _ _ hA5
    have hG6 := s6 _ _ hG
    have nRA : R ≠ A0 := Ne.symm (ne_of_none hA5 nR)
    have r8 := rows8 k3
    have lR := paired_len rw6
    refine ⟨R, rfl, ⟨_, sl hR⟩, for_list (K := K) (a := R) (xs := rs.map V.ref) (fun i σ G' => (∀ c o, c ≠ A0 → H6 c = some o → G' c = some o) ∧ G' A0 = some (.lst ((((rowsOf k).take i).map (bentV k b ss p0 p1 p2 t)).map V.int)) ∧ ∃ x7 x8 : Option V, σ = [some (.ref h), some (.int k), some (.int b), some (.ref D), some (.int t), some (.ref A0), some (.ref G), x7, x8, none, none, none]) ⟨fun _ _ _ e => e, hA6, none, none, rfl⟩ (fun i σ G' _ hP => sl (hP.1 _ _ nRA hR)) (fun i x σ G' hx hP => ?_) (fun σ G' hP => ?_)⟩
    · obtain ⟨kG, hA, x7, x8, rfl⟩ := hP
      obtain ⟨r, bs, rfl, hbs, hr6⟩ := rws_at rw6 hx
      have mbs := List.mem_of_getElem? hbs
      have lbs := row_len k bs mbs
      have bbs := bits_rows k bs mbs
      have il : i < 8 := Nat.lt_of_lt_of_le (List.getElem?_eq_some_iff.mp hbs).1 r8
      have hrG := kG _ _ (ne_of hr6 hA6 (by intro z; cases z)) hr6
      have hSG := kG _ _ (Ne.symm nAS) hS6
      have hGG := kG _ _ (Ne.symm nAG) hG6
      have lss : (ss.map V.int).length = k := by rw [List.length_map]; exact ls
      have lbV : (bs.map V.int).length = k := by rw [List.length_map]; exact lbs
      have lz : (List.zipWith (fun x y : Int => x * y) ss bs).length = k := by rw [List.length_zipWith]; omega
      refine q_seq (q_set ?_)
      refine ⟨.int b, rfl, .ref D, rfl, .ref r, rfl, D, r, ss.map V.int, bs.map V.int, rfl, sl hSG, tl hrG, fun Z nZ => lc_zipM (p := false) (q := true) (K := K) (a := D) (b := r) (xs := ss.map V.int) (ys := bs.map V.int) (n := k) (by omega) (by omega) (.inl (by omega)) (fun j G2 => Same G' G2 ∧ G2 Z = some (.lst (((List.zipWith (fun x y : Int => x * y) ss bs).take j).map V.int))) ⟨same_upd nZ, upd_same⟩ (fun j G2 _ hQ => ⟨sl (hQ.1 _ _ hSG), tl (hQ.1 _ _ hrG)⟩) (fun j x y G2 T jl hx hy hQ nT => ?_) (fun G2 hQ => ?_)⟩
      · obtain ⟨s', hZ⟩ := hQ
        obtain ⟨n, rfl, ex⟩ := int_at hx
        obtain ⟨m, rfl, ey⟩ := int_at hy
        refine ⟨T, _, rfl, tl upd_same, rfl, _, _, rfl, _, _, rfl, rfl, ?_⟩
        have hZ2 := same_upd (o := .tup [.int n, .int m]) nT _ _ hZ
        have mb := bbs m (List.mem_of_getElem? ey)
        refine ⟨rfl, .int n, rfl, .int m, rfl, _, _, rfl, rfl, .inr (by omega), _, hZ2, ?_, fun c o z => ?_, ?_⟩
        · rw [List.length_map, List.length_take]
          exact small1000 (by omega)
        · rw [upd_ne (ne_of_none z nZ)]
          exact same_upd nT _ _ (s' _ _ z)
        · rw [upd_same, zip_take ex ey, List.map_append]
          rfl
      obtain ⟨s2, hZ⟩ := hQ
      rw [← lz, List.take_length] at hZ
      refine ⟨Z, _, rfl, sl hZ, _, _, rfl, rfl, ?_⟩
      have hr2 := s2 _ _ hrG
      have hG2 := s2 _ _ hGG
      have hA2 := s2 _ _ hA
      have g : ∀ j : Nat, j < k → atI (bs.map V.int) (j : Int) = some (.int (bs.getD j 0)) := fun j hj => at_z (j := j) rfl (by rw [List.getElem?_map, List.getD_eq_getElem?_getD, List.getElem?_eq_getElem (show j < bs.length by omega)]; rfl)
      have x0 := bitR_get bbs 0
      have x1 := bitR_get bbs 1
      have x2 := bitR_get bbs 2
      generalize ex0 : bs.getD 0 0 = v0 at x0
      generalize ex1 : bs.getD 1 0 = v1 at x1
      generalize ex2 : bs.getD 2 0 = v2 at x2
      try dsimp only
      refine q_seqJ (fun σ G3 => σ = [some (.ref h), some (.int k), some (.int b), some (.ref D), some (.int t), some (.ref A0), some (.ref G), some (.ref r), some (.int (if 1 < k then b + (List.zipWith (fun x y : Int => x * y) ss bs).sum + p0 * v0 * v1 else b + (List.zipWith (fun x y : Int => x * y) ss bs).sum)), none, none, none] ∧ G3 = G2) (fun σ' G3 hJ => ?_) (fun key => ?_)
      rotate_left
      · refine q_if ?_
        refine ⟨.int k, rfl, _, _, rfl, rfl, _, rfl, ?_⟩
        refine ite2 (fun c => ?_) (fun c => ?_)
        · have c : 1 < k := by have := of_decide_eq_true c; omega
          refine q_set ?_
          refine ⟨.int _, rfl, .ref G, rfl, G, _, 0, .int p0, rfl, rfl, sl hG2, rfl, .ref r, rfl, r, _, 0, .int v0, rfl, rfl, tl hr2, by rw [← ex0]; exact g 0 (by omega), _, _, rfl, rfl, .inr (by omega), .ref r, rfl, r, _, 1, .int v1, rfl, rfl, tl hr2, by rw [← ex1]; exact g 1 (by omega), _, _, rfl, rfl, .inr (by omega), _, _, rfl, rfl, ?_⟩
          refine key _ _ ⟨?_, rfl⟩
          rw [if_pos c]
          rfl
        · have c : ¬ 1 < k := fun z => c (decide_eq_true (by omega))
          refine q_next ?_
          refine key _ _ ⟨?_, rfl⟩
          rw [if_neg c]
          rfl
      obtain ⟨rfl, rfl⟩ := hJ
      refine q_seqJ (fun σ G3' => σ = [some (.ref h), some (.int k), some (.int b), some (.ref D), some (.int t), some (.ref A0), some (.ref G), some (.ref r), some (.int (bentV k b ss p0 p1 p2 t bs)), none, none, none] ∧ G3' = G3) (fun σ' G3' hJ => ?_) (fun key => ?_)
      rotate_left
      · refine q_if ?_
        refine ⟨.int k, rfl, _, _, rfl, rfl, _, rfl, ?_⟩
        refine ite2 (fun c => ?_) (fun c => ?_)
        · have c : 2 < k := by have := of_decide_eq_true c; omega
          refine q_set ?_
          refine ⟨.int _, rfl, .ref G, rfl, G, _, 1, .int p1, rfl, rfl, sl hG2, rfl, .ref r, rfl, r, _, 0, .int v0, rfl, rfl, tl hr2, by rw [← ex0]; exact g 0 (by omega), _, _, rfl, rfl, .inr (by omega), .ref r, rfl, r, _, 2, .int v2, rfl, rfl, tl hr2, by rw [← ex2]; exact g 2 (by omega), _, _, rfl, rfl, .inr (by omega), _, _, rfl, rfl,
            .ref G, rfl, G, _, 2, .int p2, rfl, rfl, sl hG2, rfl, .ref r, rfl, r, _, 1, .int v1, rfl, rfl, tl hr2, by rw [← ex1]; exact g 1 (by omega), _, _, rfl, rfl, .inr (by omega), .ref r, rfl, r, _, 2, .int v2, rfl, rfl, tl hr2, by rw [← ex2]; exact g 2 (by omega), _, _, rfl, rfl, .inr (by omega), _, _, rfl, rfl,
            .int t, rfl, .ref r, rfl, r, _, 0, .int v0, rfl, rfl, tl hr2, by rw [← ex0]; exact g 0 (by omega), _, _, rfl, rfl, .inr (by omega), .ref r, rfl, r, _, 1, .int v1, rfl, rfl, tl hr2, by rw [← ex1]; exact g 1 (by omega), _, _, rfl, rfl, .inr (by omega), .ref r, rfl, r, _, 2, .int v2, rfl, rfl, tl hr2, by rw [← ex2]; exact g 2 (by omega), _, _, rfl, rfl, .inr (by omega), _, _, rfl, rfl, ?_⟩
          refine key _ _ ⟨?_, rfl⟩
          unfold bentV
          rw [if_pos c, if_pos (show 1 < k by omega), if_pos (show 1 < k by omega), ex0, ex1, ex2]
          rfl
        · have c : ¬ 2 < k := fun z => c (decide_eq_true (by omega))
          refine q_next ?_
          refine key _ _ ⟨?_, rfl⟩
          unfold bentV
          rw [if_neg c, ex0, ex1]
      obtain ⟨rfl, rfl⟩ := hJ
      refine ⟨.ref A0, rfl, .inl ⟨rfl, _, .inl (.inl hA2)⟩, .int _, rfl, A0, _, _, rfl, rfl, hA2, by rw [List.length_map, List.length_map, List.length_take]; exact small1000 (by omega), fun c o nc e => ?_, ?_, _, _, rfl⟩
      · rw [upd_ne nc]
        exact s2 _ _ (kG _ _ nc e)
      · rw [upd_same, List.take_add_one, hbs, List.map_append, List.map_append]
        rfl
    · obtain ⟨kG, hA, x7, x8, rfl⟩ := hP
      have e1 : (rowsOf k).take (rs.map V.ref).length = rowsOf k := by rw [List.length_map, lR, List.take_length]
      rw [e1] at hA
      try dsimp only
      refine q_ret ?_
      refine ⟨.int k, rfl, .ref A0, rfl, A0, _, rfl, .inl ⟨sl hA, fun l nl => ⟨by show 2 ≤ sizeLine; decide, fun p np => ?_⟩⟩⟩
      have sl1 := same_upd (o := .tup (((rowsOf k).map (bentV k b ss p0 p1 p2 t)).map V.int)) nl
      have sp := same_upd (o := .tup [V.int k, .ref l]) np
      have kpF : Kp h H G' := fun c o nc e => kG _ _ (ne_of_none e nA0) (s6 _ _ (kpz c o nc e))
      have hdF : Hdd G' h dr := by
        obtain ⟨ds, tt, g1, g2, g3, g4⟩ := hd5.same s6
        exact ⟨ds, tt, kG _ _ (Ne.symm nAh) g1, kG _ _ (Ne.symm nAd) g2, g3, g4⟩
      refine q p (k, (rowsOf k).map (bentV k b ss p0 p1 p2 t)) _ (kpF.trans ((Kp.of sl1).trans (Kp.of sp))) ((hdF.same sl1).same sp) ⟨l, upd_same, sp _ _ upd_same, k1, k3, by rw [List.length_map, rows_len], fun x mx => ?_⟩ (kb_map k3 (bent_kb k1 k3 ls ⟨c0.2.1, c0.2.2⟩ ⟨c1.2.1, c1.2.2⟩ ⟨c2.2.1, c2.2.2⟩))
      obtain ⟨r, mr, rfl⟩ := List.mem_map.mp mx
      have := bent_bd (p0 := p0) (p1 := p1) (p2 := p2) k1 k3 ls ⟨b0, b1⟩ bs (by omega) (by omega) (by omega) tb r mr
      omega
end
end CP

namespace CP
open PySem PySem.Spec PyProof.Rows L2 Ek CC CS
/-- at how many places a row is above another -/
abbrev undL (a b : List Int) : List Bool := List.zipWith (fun x y : Int => decide (y < x)) a b
def undC (a b : List Int) : Nat := (undL a b).count true
theorem und_le {a b : List Int} (h : leR a b) (l : a.length = b.length) : undC a b = 0 := by
  unfold undC
  rw [List.count_eq_zero]
  intro m
  obtain ⟨i, hi⟩ := List.getElem?_of_mem m
  rw [List.getElem?_zipWith] at hi
  have z := h i
  rw [List.getD_eq_getElem?_getD, List.getD_eq_getElem?_getD] at z
  cases ea : a[i]? with
  | none => rw [ea] at hi; cases hi
  | some x =>
    cases eb : b[i]? with
    | none => rw [ea, eb] at hi; cases hi
    | some y =>
      rw [ea, eb] at hi z
      have := of_decide_eq_true (Option.some.inj hi)
      have z : x ≤ y := z
      omega
theorem und_lt0 : ∀ k : Fin 4, ∀ i j : Fin 8, ((rowsOf k.1)[i.1]?).all (fun a => ((rowsOf k.1)[j.1]?).all fun b => !decide (undC a b = 0) || decide (i.1 ≤ j.1)) = true := by decide +kernel
theorem und_lt {k i j : Nat} {a b : List Int} (k3 : k ≤ 3) (ha : (rowsOf k)[i]? = some a) (hb : (rowsOf k)[j]? = some b) (h : undC a b = 0) : i ≤ j := by
  have r8 := rows8 k3
  have hi := (List.getElem?_eq_some_iff.mp ha).1
  have hj := (List.getElem?_eq_some_iff.mp hb).1
  have z := und_lt0 ⟨k, by omega⟩ ⟨i, by omega⟩ ⟨j, by omega⟩
  simp only [ha, hb, Option.all_some, h, decide_true, Bool.not_true, Bool.false_or, decide_eq_true_iff] at z
  exact z
abbrev rw_ (k i : Nat) : List Int := (rowsOf k).getD i []
theorem rw_at {k i : Nat} {a : List Int} (h : (rowsOf k)[i]? = some a) : rw_ k i = a := by
  unfold rw_
  rw [List.getD_eq_getElem?_getD, h]
  rfl
/-- the amounts, made of a kind step by step -/
structure Kst (wd : Str) (k J I : Nat) (ms : List Int) : Prop where
  len : ms.length = 2 ^ k
  bd : ∀ x ∈ ms, -2000 ≤ x ∧ x ≤ 2000
  an : wd = "all no" → ∀ x ∈ ms, ms.getD 0 0 ≤ x
  ay : wd = "all yes" → ∀ x ∈ ms, ms.getD (2 ^ k - 1) 0 ≤ x
  ri : wd = "rising" → ∀ i j, i < j → j < 2 ^ k → (j < J ∨ (j = J ∧ i < I)) → undC (rw_ k i) (rw_ k j) = 0 → ms.getD i 0 ≤ ms.getD j 0
  fa : wd = "falling" → ∀ i j, i < j → j < 2 ^ k → (j < J ∨ (j = J ∧ i < I)) → undC (rw_ k i) (rw_ k j) = 0 → ms.getD j 0 ≤ ms.getD i 0
theorem getD_set {ms : List Int} {J i : Nat} {v : Int} (h : J < ms.length) : (ms.set J v).getD i 0 = if i = J then v else ms.getD i 0 := by
  rw [List.getD_eq_getElem?_getD, List.getElem?_set, List.getD_eq_getElem?_getD]
  by_cases c : J = i
  · subst c
    rw [if_pos rfl, if_pos rfl, if_pos h]
    rfl
  · rw [if_neg c, if_neg (Ne.symm c)]
theorem getD_mem {ms : List Int} {i : Nat} (h : i < ms.length) : ms.getD i 0 ∈ ms := by
  rw [List.getD_eq_getElem?_getD, List.getElem?_eq_getElem h]
  exact List.getElem_mem h
theorem Kst.skip {wd : Str} {k J I : Nat} {ms : List Int} (x : Kst wd k J I ms) (h : (wd = "rising" ∨ wd = "falling") → ¬ undC (rw_ k I) (rw_ k J) = 0) : Kst wd k J (I + 1) ms := by
  refine ⟨x.len, x.bd, x.an, x.ay, fun e i j ij jl c u => ?_, fun e i j ij jl c u => ?_⟩
  · by_cases z : j = J ∧ i = I
    · obtain ⟨rfl, rfl⟩ := z
      exact absurd u (h (.inl e))
    · exact x.ri e i j ij jl (by omega) u
  · by_cases z : j = J ∧ i = I
    · obtain ⟨rfl, rfl⟩ := z
      exact absurd u (h (.inr e))
    · exact x.fa e i j ij jl (by omega) u
theorem Kst.rise {wd : Str} {k J I : Nat} {ms : List Int} {v : Int} (x : Kst wd k J I ms) (IJ : I < J) (Jl : J < 2 ^ k) (e : wd = "rising") (hv : v = if ms.getD I 0 > ms.getD J 0 then ms.getD I 0 else ms.getD J 0) : Kst wd k J (I + 1) (ms.set J v) := by
  obtain ⟨a1, a2, a3, a4, a5, a6, a7, a8, a9, a10⟩ := words_apart
  have Jm : J < ms.length := by rw [x.len]; exact Jl
  have mJ := x.bd _ (getD_mem Jm)
  have mI := x.bd _ (getD_mem (show I < ms.length by omega))
  refine ⟨by rw [List.length_set]; exact x.len, fun y my => ?_, fun z => absurd (z.symm.trans e) a3, fun z => absurd (z.symm.trans e) a6, fun _ i j ij jl c u => ?_, fun z => absurd (e.symm.trans z) a10⟩
  · rcases List.mem_or_eq_of_mem_set my with m | rfl
    · exact x.bd y m
    · rw [hv]; split <;> omega
  · rw [getD_set Jm, getD_set Jm, if_neg (show ¬ i = J by omega)]
    by_cases z : j = J
    · subst z
      rw [if_pos rfl, hv]
      by_cases zi : i = I
      · subst zi
        split <;> omega
      · have := x.ri e i j ij jl (by omega) u
        split <;> omega
    · rw [if_neg z]
      exact x.ri e i j ij jl (by omega) u
theorem Kst.fall {wd : Str} {k J I : Nat} {ms : List Int} {v : Int} (x : Kst wd k J I ms) (IJ : I < J) (Jl : J < 2 ^ k) (e : wd = "falling") (hv : v = if ms.getD I 0 < ms.getD J 0 then ms.getD I 0 else ms.getD J 0) : Kst wd k J (I + 1) (ms.set J v) := by
  obtain ⟨a1, a2, a3, a4, a5, a6, a7, a8, a9, a10⟩ := words_apart
  have Jm : J < ms.length := by rw [x.len]; exact Jl
  have mJ := x.bd _ (getD_mem Jm)
  have mI := x.bd _ (getD_mem (show I < ms.length by omega))
  refine ⟨by rw [List.length_set]; exact x.len, fun y my => ?_, fun z => absurd (z.symm.trans e) a4, fun z => absurd (z.symm.trans e) a7, fun z => absurd (z.symm.trans e) a10, fun _ i j ij jl c u => ?_⟩
  · rcases List.mem_or_eq_of_mem_set my with m | rfl
    · exact x.bd y m
    · rw [hv]; split <;> omega
  · rw [getD_set Jm, getD_set Jm, if_neg (show ¬ i = J by omega)]
    by_cases z : j = J
    · subst z
      rw [if_pos rfl, hv]
      by_cases zi : i = I
      · subst zi
        split <;> omega
      · have := x.fa e i j ij jl (by omega) u
        split <;> omega
    · rw [if_neg z]
      exact x.fa e i j ij jl (by omega) u
theorem Kst.next {wd : Str} {k J : Nat} {ms : List Int} (x : Kst wd k J J ms) : Kst wd k (J + 1) 0 ms :=
  ⟨x.len, x.bd, x.an, x.ay, fun e i j ij jl c u => x.ri e i j ij jl (by omega) u, fun e i j ij jl c u => x.fa e i j ij jl (by omega) u⟩
theorem cost_i {k i : Nat} {ms r : List Int} (k3 : k ≤ 3) (h : (rowsOf k)[i]? = some r) : costL ms r = ms.getD i 0 := by
  unfold costL
  rw [rows_num k3 h, Int.toNat_natCast]
theorem kst_kd {wd : Str} {k : Nat} {ms : List Int} (nb : ¬ wd = "bent") (k3 : k ≤ 3) (x : Kst wd k (2 ^ k) 0 ms) : KdR wd k (costL ms) := by
  have p := Nat.two_pow_pos k
  have c0 := cost_0 k3 x.len
  have c1 := cost_1 k3 x.len
  have el : ms.length - 1 = 2 ^ k - 1 := by rw [x.len]
  refine ⟨fun e r m => ?_, fun e r m => ?_, fun e => absurd e nb, fun e a ma b mb l => ?_, fun e a ma b mb l => ?_⟩
  · obtain ⟨j, hj⟩ := List.getElem?_of_mem m
    have jl : j < ms.length := by rw [x.len, ← rows_len]; exact (List.getElem?_eq_some_iff.mp hj).1
    have := x.an e _ (getD_mem jl)
    rw [cost_i k3 hj]
    rw [List.getD_eq_getElem?_getD, c0] at this
    exact this
  · obtain ⟨j, hj⟩ := List.getElem?_of_mem m
    have jl : j < ms.length := by rw [x.len, ← rows_len]; exact (List.getElem?_eq_some_iff.mp hj).1
    have := x.ay e _ (getD_mem jl)
    rw [cost_i k3 hj]
    rw [← el, List.getD_eq_getElem?_getD, c1] at this
    exact this
  · obtain ⟨i, hi⟩ := List.getElem?_of_mem ma
    obtain ⟨j, hj⟩ := List.getElem?_of_mem mb
    have u := und_le l ((row_len k a ma).trans (row_len k b mb).symm)
    have ij := und_lt k3 hi hj u
    have jl : j < 2 ^ k := by rw [← rows_len]; exact (List.getElem?_eq_some_iff.mp hj).1
    rw [cost_i k3 hi, cost_i k3 hj]
    by_cases z : i = j
    · rw [z]; exact Int.le_refl _
    · exact x.ri e i j (by omega) jl (.inl jl) (by rw [rw_at hi, rw_at hj]; exact u)
  · obtain ⟨i, hi⟩ := List.getElem?_of_mem ma
    obtain ⟨j, hj⟩ := List.getElem?_of_mem mb
    have u := und_le l ((row_len k a ma).trans (row_len k b mb).symm)
    have ij := und_lt k3 hi hj u
    have jl : j < 2 ^ k := by rw [← rows_len]; exact (List.getElem?_eq_some_iff.mp hj).1
    rw [cost_i k3 hi, cost_i k3 hj]
    by_cases z : i = j
    · rw [z]; exact Int.le_refl _
    · exact x.fa e i j (by omega) jl (.inl jl) (by rw [rw_at hi, rw_at hj]; exact u)
section
variable {P : Program} {w : World} {K : PySem.W.Frag} {mg : Str → Option Value} {base : Heap}
def spLKp (K : PySem.W.Frag) : Sp := fun vs H Q _ => ∃ (h dr : Addr) (wd : Str), vs = [.ref h, .str wd] ∧ Hdd H h dr ∧ wd ∈ kindsW ∧ ∀ p z H', Kp h H H' → Hdd H' h dr → LPr H' p z → KdR wd z.1 (costL z.2) → Q (.ref p) H'
theorem ok_LKp {f : Addr} {fd : FuncData} (F : Fun K "_law_kind_price" "_law_kind_price" sLKp f fd) (B : Bt mg) {fTake : Addr} {fdTake : FuncData} (GTake : FnOk P w K mg base CX0 1 fTake fdTake ["hand", "many"] spTake) (kTake : PySem.W.keepIn K (.ref fTake) = true) (bTake : Binds K fdTake ["hand", "many"] []) (gTake : mg "_law_take" = some (.ref fTake)) {fEvery : Addr} {fdEvery : FuncData} (GEvery : FnOk P w K mg base CX0 1 fEvery fdEvery ["many"] spEv) (kEvery : PySem.W.keepIn K (.ref fEvery) = true) (bEvery : Binds K fdEvery ["many"] []) (gEvery : mg "_law_rows" = some (.ref fEvery)) {fAm3 : Addr} {fdAm3 : FuncData} (GAm3 : FnOk P w K mg base CX0 2 fAm3 fdAm3 ["hand"] spAm3) (kAm3 : PySem.W.keepIn K (.ref fAm3) = true) (bAm3 : Binds K fdAm3 ["hand"] []) (gAm3 : mg "_law_amount" = some (.ref fAm3)) {fLBn : Addr} {fdLBn : FuncData} (GLBn : FnOk P w K mg base CX0 3 fLBn fdLBn ["hand", "size"] (spLBn K)) (kLBn : PySem.W.keepIn K (.ref fLBn) = true) (bLBn : Binds K fdLBn ["hand", "size"] []) (gLBn : mg "_law_bent" = some (.ref fLBn)) : FnOk P w K mg base CX0 4 f fd ["hand", "word"] (spLKp K) := by
  refine F.ok scLKp (fun vs H Q E h => ?_) (fun cdv A outer s H vs Q E hr h => ?_)
  · obtain ⟨h, dr, wd, rfl, _⟩ := h
    rfl
  · obtain ⟨h, dr, wd, rfl, hd, mw, q⟩ := h
    refine ⟨_, (pss_cons (ps_set (i := 2) scLKp.nd rfl (.inl rfl) (pe_ix ix_list (pe_lst (pa_cons pe_int (pa_cons pe_int (pa_cons pe_int (pa_cons pe_int pa_nil))))) (pe_call GTake (hr.mono (by decide)) (by rfl) gTake kTake bTake .nil pass0 (pa_cons (pv 0) (pa_cons pe_int pa_nil))) (fun _ _ => rfl)))
      (pss_cons (ps_if (pt_cmpR op_eq (pv 1) pe_str (nomark _))
      (pss_one (ps_ret (pe_call GLBn (hr.mono (by decide)) (by rfl) gLBn kLBn bLBn .nil pass0 (pa_cons (pv 0) (pa_cons (pv 2) pa_nil))))) pss_nil)
      (pss_cons (ps_set (i := 3) scLKp.nd rfl (.inl rfl) (pe_call GEvery (hr.mono (by decide)) (by rfl) gEvery kEvery bEvery .nil pass0 (pa_cons (pv 2) pa_nil)))
      (pss_cons (ps_setLc (i := 4) (own := [("row", 9)]) (g := gName 9) (tt := tYes) rfl scLKp.nd rfl rfl (sw_true rfl rfl rfl (by decide +kernel)) (pi_list (pv 3)) (blkOk_by (N := NLKp) (sc := defScope sLKp) (by decide +kernel)) (fun _ _ _ _ _ => pg_name (i := 9) scLKp.nd rfl (Or.inl rfl)) (fun _ _ _ _ _ => pts_nil) (fun _ _ _ _ _ => (pe_call GAm3 (hr.mono (by decide)) (by rfl) gAm3 kAm3 bAm3 .nil pass0 (pa_cons (pv 0) pa_nil))))
      (pss_cons (ps_set (i := 5) scLKp.nd rfl (.inl rfl) (pe_op op_sub (pe_callB (cr_min rfl) (by rfl) B.min (by decide +kernel) (pa_cons (pe_lc (own := [("one", 10)]) (g := gName 10) (tt := tYes) rfl scLKp.nd (pi_list (pv 4)) (blkOk_by (N := NLKp) (sc := defScope sLKp) (by decide +kernel)) (fun _ _ _ _ _ => pg_name (i := 10) scLKp.nd rfl (Or.inl rfl)) (fun _ _ _ _ _ => pts_nil) (fun _ _ _ _ _ => (pe_callTy call_int1 (by rfl) B.int (by decide +kernel) (pa_cons (pv 10) pa_nil)))) pa_nil)) (pe_call GTake (hr.mono (by decide)) (by rfl) gTake kTake bTake .nil pass0 (pa_cons (pv 0) (pa_cons pe_int pa_nil)))))
      (pss_cons (ps_if (pt_cmpR op_eq (pv 1) pe_str (nomark _))
      (pss_one (ps_asg (pv 5) (pg_sub (pv 4) pe_int set_list))) pss_nil)
      (pss_cons (ps_if (pt_cmpR op_eq (pv 1) pe_str (nomark _))
      (pss_one (ps_asg (pv 5) (pg_sub (pv 4) (pe_un un_neg pe_int) set_list))) pss_nil)
      (pss_cons (ps_for PassesOwn.never rfl (pi_range1 rfl B.range (pa_cons (pe_callB call_len_seq (by rfl) B.len PySem.boot_len (pa_cons (pv 3) pa_nil)) pa_nil)) (pg_name (i := 6) scLKp.nd rfl (.inl rfl))
      (pss_one (ps_for PassesOwn.never rfl (pi_range1 rfl B.range (pa_cons (pv 6) pa_nil)) (pg_name (i := 7) scLKp.nd rfl (.inl rfl))
      (pss_cons (ps_set (i := 8) scLKp.nd rfl (.inl rfl) (pe_cmpR op_eq (pe_callB call_len_seq (by rfl) B.len PySem.boot_len (pa_cons (pe_lc (own := [("x", 11), ("y", 12)]) rfl scLKp.nd (RZ.pi_zipA (by rfl) B.zip (pa_cons (pe_ix ix_list (pv 3) (pv 7) (fun _ _ => rfl)) (pa_cons (pe_ix ix_list (pv 3) (pv 6) (fun _ _ => rfl)) pa_nil))) (blkOk_by (N := NLKp) (sc := defScope sLKp) (by decide +kernel)) (fun _ _ _ _ _ => (pg_tupk (n := 2) K rfl rfl (pgs_cons (pg_name (i := 11) scLKp.nd rfl (Or.inl rfl)) (pgs_cons (pg_name (i := 12) scLKp.nd rfl (Or.inl rfl)) pgs_nil)))) (fun _ _ _ _ _ => pts_one (pt_cmpR op_gt (pv 11) (pv 12) (nomark _))) (fun _ _ _ _ _ => pe_int)) pa_nil)) pe_int (nomark _)))
      (pss_cons (ps_if (PW.pt (pw_and (pt_val (pv 8)) (pw_and1 (pt_cmpR op_eq (pv 1) pe_str (nomark _)))))
      (pss_one (ps_asg (pe_callB (call_max2 rfl) (by rfl) B.max (by decide +kernel) (pa_cons (pe_callTy call_int1 (by rfl) B.int (by decide +kernel) (pa_cons (pe_ix ix_list (pv 4) (pv 6) (fun _ _ => rfl)) pa_nil)) (pa_cons (pe_callTy call_int1 (by rfl) B.int (by decide +kernel) (pa_cons (pe_ix ix_list (pv 4) (pv 7) (fun _ _ => rfl)) pa_nil)) pa_nil))) (pg_sub (pv 4) (pv 6) set_list))) pss_nil)
      (pss_one (ps_if (PW.pt (pw_and (pt_val (pv 8)) (pw_and1 (pt_cmpR op_eq (pv 1) pe_str (nomark _)))))
      (pss_one (ps_asg (pe_callB (call_min2 rfl) (by rfl) B.min (by decide +kernel) (pa_cons (pe_callTy call_int1 (by rfl) B.int (by decide +kernel) (pa_cons (pe_ix ix_list (pv 4) (pv 6) (fun _ _ => rfl)) pa_nil)) (pa_cons (pe_callTy call_int1 (by rfl) B.int (by decide +kernel) (pa_cons (pe_ix ix_list (pv 4) (pv 7) (fun _ _ => rfl)) pa_nil)) pa_nil))) (pg_sub (pv 4) (pv 6) set_list))) pss_nil)))))))
      (pss_one (ps_ret (pe_tup (pa_cons (pv 2) (pa_cons (pe_callTy call_tuple_of (by rfl) B.tuple (by decide +kernel) (pa_cons (pv 4) pa_nil)) pa_nil))))))))))))), ?_⟩
    -- size
    refine q_seq (q_set ?_)
    refine ⟨by show 4 ≤ sizeLine; decide, fun X nX => ?_⟩
    have sX := same_upd (o := .lst [V.int 1, .int 2, .int 3, .int 3]) nX
    have nXh := hd.ne nX
    refine ⟨.ref h, rfl, h, dr, 4, rfl, hd.same sX, by decide, fun r0 H1 a0 a1 e1 hd1 => ?_⟩
    obtain ⟨k, j0, ej0, hj0, k1, k3⟩ : ∃ (k j : Nat), r0 = (j : Int) ∧ [V.int 1, .int 2, .int 3, .int 3][j]? = some (.int k) ∧ 1 ≤ k ∧ k ≤ 3 := by
      rcases (show r0 = 0 ∨ r0 = 1 ∨ r0 = 2 ∨ r0 = 3 by omega) with rfl | rfl | rfl | rfl
      · exact ⟨1, 0, rfl, rfl, by decide, by decide⟩
      · exact ⟨2, 1, rfl, rfl, by decide, by decide⟩
      · exact ⟨3, 2, rfl, rfl, by decide, by decide⟩
      · exact ⟨3, 3, rfl, rfl, by decide, by decide⟩
    have hX1 := (e1 X nXh).trans (upd_same (H := H) (o := .lst [V.int 1, .int 2, .int 3, .int 3]))
    have kp1 : Kp h H H1 := (Kp.of sX).trans (Kp.eq e1)
    refine ⟨X, _, _, _, rfl, rfl, sl hX1, at_z (j := j0) ej0 hj0, ?_⟩
    clear hX1 nXh sX nX e1
    try dsimp only
    have p2 := Nat.two_pow_pos k
    have p8 : 2 ^ k ≤ 8 := by
      rcases (show k = 1 ∨ k = 2 ∨ k = 3 by omega) with rfl | rfl | rfl <;> decide
    -- bent
    refine q_seq (q_if ?_)
    refine ⟨.str wd, rfl, rfl, _, rfl, ?_⟩
    try dsimp only
    rw [dStr]
    refine ite2 (fun e => ?_) (fun e => ?_)
    · obtain rfl := of_decide_eq_true e
      refine q_ret ?_
      exact ⟨.ref h, rfl, .int k, rfl, h, dr, k, rfl, hd1, k1, k3, fun p z H' kp' hd' lp kd => q p z H' (kp1.trans kp') hd' lp kd⟩
    have nb : ¬ wd = "bent" := fun z => e (decide_eq_true z)
    refine q_next ?_
    try dsimp only
    -- rows
    refine q_seq (q_set ?_)
    refine ⟨.int k, rfl, k, rfl, by omega, fun H2 R rs s2 nR hR rw2 => ?_⟩
    have hd2 := hd1.same s2
    have kp2 := kp1.trans (Kp.of s2)
    have lR : (rs.map V.ref).length = 2 ^ k := by rw [List.length_map, paired_len rw2, rows_len]
    try dsimp only
    -- amounts
    refine q_seq (q_set ?_)
    refine ⟨.ref R, rfl, R, rfl, ⟨_, sl hR⟩, fun D nD => lc_list (K := K) (a := R) (xs := rs.map V.ref) (fun i H' => Kp h H2 H' ∧ Hdd H' h dr ∧ ∃ ms : List Int, H' D = some (.lst (ms.map V.int)) ∧ ms.length = i ∧ ∀ s ∈ ms, -1000 ≤ s ∧ s ≤ 1000) ⟨Kp.of (same_upd nD), hd2.same (same_upd nD), [], upd_same, rfl, fun _ m => nomatch m⟩ (fun i H' _ hP => ?_) (fun i x H' hx hP => ?_) (fun H3 hP => ?_)⟩
    · exact sl (hP.1 _ _ (hd2.ns hR (ref_hand (h := h))) hR)
    · obtain ⟨kp', hd', ms, hD, lm, bm⟩ := hP
      have nDh := hd2.ne nD
      have nDd := hd2.ned nD
      have il : i < 8 := by
        have := (List.getElem?_eq_some_iff.mp hx).1
        omega
      refine ⟨rfl, .ref h, rfl, h, dr, rfl, hd', fun v H3 kp3 hd3 v0 v1 => ?_⟩
      have hD3 := kp3 _ _ nDh hD
      refine ⟨_, hD3, by rw [List.length_map]; exact small1000 (by omega), fun c o nc e => ?_, hd3.upd nDh nDd, ms ++ [v], by rw [upd_same, List.map_append]; rfl, by rw [List.length_append, lm]; rfl, fun s mm => ?_⟩
      · rw [upd_ne (ne_of_none e nD)]
        exact (kp'.trans kp3) c o nc e
      · rcases List.mem_append.mp mm with m | m
        · exact bm s m
        · rw [List.mem_singleton.mp m]
          exact ⟨v0, v1⟩
    obtain ⟨kp3, hd3, ms, hD, lm, bm⟩ := hP
    have nDh := hd2.ne nD
    have nDd := hd2.ned nD
    rw [lR] at lm
    have nDH : H D = none := by
      cases e9 : H D with
      | none => rfl
      | some o => rw [kp2 D o nDh e9] at nD; cases nD
    have hR3 := kp3 _ _ (hd2.ns hR (ref_hand (h := h))) hR
    try dsimp only
    -- least
    refine q_seq (q_set ?_)
    refine ⟨.ref D, rfl, D, rfl, ⟨_, sl hD⟩, fun Z nZ => lc_list (K := K) (a := D) (xs := ms.map V.int) (fun i G => Same H3 G ∧ G Z = some (.lst ((ms.take i).map V.int))) ⟨same_upd nZ, upd_same⟩ (fun i G _ hP => sl (hP.1 _ _ hD)) (fun i x G hx hP => ?_) (fun H4 hP => ?_)⟩
    · obtain ⟨s', hZ⟩ := hP
      obtain ⟨y, rfl, hy⟩ := int_at hx
      refine ⟨rfl, .int y, rfl, .inl ⟨y, rfl, _, hZ, ?_, fun b o e => ?_, ?_⟩⟩
      · rw [List.length_map, List.length_take]
        exact small1000 (by omega)
      · rw [upd_ne (ne_of_none e nZ)]
        exact s' _ _ e
      · rw [upd_same, List.take_add_one, hy, List.map_append]
        rfl
    obtain ⟨s4, hZ⟩ := hP
    rw [List.length_map, List.take_length] at hZ
    refine ⟨Z, ms, rfl, sl hZ, by omega, fun m mm ml => ?_⟩
    refine ⟨.ref h, rfl, h, dr, 2, rfl, hd3.same s4, by decide, fun r H5 r0 r1 e5 hd5 => ⟨_, _, rfl, rfl, ?_⟩⟩
    have kp5 : Kp h H2 H5 := kp3.trans ((Kp.of s4).trans (Kp.eq e5))
    have hD5 := (Kp.eq e5) _ _ nDh (s4 _ _ hD)
    have bl := bm m mm
    obtain ⟨lst, el, l0, l1, l2⟩ : ∃ l : Int, m - r = l ∧ -2000 ≤ l ∧ l ≤ 2000 ∧ ∀ y ∈ ms, l ≤ y := ⟨_, rfl, by omega, by omega, fun y my => by have := ml y my; omega⟩
    dsimp only
    rw [el]
    clear s4 hZ hd3 kp3 hD e5 nZ
    have upk : ∀ {G : Hp} {xs : List V}, Kp h H2 G → Kp h H2 (upd G D (.lst xs)) := fun kp c o nc e => by
      rw [upd_ne (ne_of_none e nD)]
      exact kp c o nc e
    -- all no
    refine q_seqJ (fun σ G => σ = [some (.ref h), some (.str wd), some (.int k), some (.ref R), some (.ref D), some (.int lst), none, none, none, none, none, none, none] ∧ Kp h H2 G ∧ Hdd G h dr ∧ ∃ ms1 : List Int, G D = some (.lst (ms1.map V.int)) ∧ ms1.length = 2 ^ k ∧ (∀ x ∈ ms1, -2000 ≤ x ∧ x ≤ 2000) ∧ (wd = "all no" → ∀ x ∈ ms1, ms1.getD 0 0 ≤ x) ∧ (¬ wd = "all no" → ∀ x ∈ ms1, lst ≤ x)) (fun σ' G hJ => ?_) (fun key => ?_)
    rotate_left
    · refine q_if ?_
      refine ⟨.str wd, rfl, rfl, _, rfl, ?_⟩
      try dsimp only
      rw [dStr]
      refine ite2 (fun c => ?_) (fun c => ?_)
      · have c := of_decide_eq_true c
        refine ⟨.int lst, rfl, .ref D, rfl, D, _, _, 0, rfl, rfl, hD5, by rw [List.length_map, lm]; exact ixN_nat (by omega), ?_⟩
        refine key _ _ ⟨rfl, upk kp5, hd5.upd nDh nDd, ms.set 0 lst, by rw [upd_same, List.map_set], by rw [List.length_set]; exact lm, fun x mx => ?_, fun _ x mx => ?_, fun z => absurd c z⟩
        · rcases List.mem_or_eq_of_mem_set mx with mx | rfl
          · have := bm x mx; omega
          · exact ⟨l0, l1⟩
        · rw [getD_set (by omega), if_pos rfl]
          rcases List.mem_or_eq_of_mem_set mx with mx | rfl
          · exact l2 x mx
          · exact Int.le_refl _
      · have c : ¬ wd = "all no" := fun z => c (decide_eq_true z)
        refine q_next ?_
        exact key _ _ ⟨rfl, kp5, hd5, ms, hD5, lm, fun x mx => by have := bm x mx; omega, fun z => absurd z c, fun _ => l2⟩
    obtain ⟨rfl, kp6, hd6, ms1, hD6, lm1, bd1, an1, ls1⟩ := hJ
    clear hD5 hd5 kp5
    -- all yes
    refine q_seqJ (fun σ G => σ = [some (.ref h), some (.str wd), some (.int k), some (.ref R), some (.ref D), some (.int lst), none, none, none, none, none, none, none] ∧ Kp h H2 G ∧ Hdd G h dr ∧ ∃ ms1 : List Int, G D = some (.lst (ms1.map V.int)) ∧ Kst wd k 0 0 ms1) (fun σ' G hJ => ?_) (fun key => ?_)
    rotate_left
    · refine q_if ?_
      refine ⟨.str wd, rfl, rfl, _, rfl, ?_⟩
      try dsimp only
      rw [dStr]
      have nw : ∀ {P : Prop}, P → P := fun x => x
      refine ite2 (fun c => ?_) (fun c => ?_)
      · have c := of_decide_eq_true c
        obtain ⟨a1, _⟩ := words_apart
        have na : ¬ wd = "all no" := fun z => a1 (z.symm.trans c)
        refine ⟨.int lst, rfl, .ref D, rfl, 1, rfl, D, _, _, 2 ^ k - 1, rfl, rfl, hD6, ?_, ?_⟩
        · rw [List.length_map, lm1]
          unfold ixN
          rw [if_neg (by decide), if_pos (by omega)]
          show some (((-1 : Int) + ((2 ^ k : Nat) : Int)).toNat) = _
          rw [show ((-1 : Int) + ((2 ^ k : Nat) : Int)).toNat = 2 ^ k - 1 by omega]
        refine key _ _ ⟨rfl, upk kp6, hd6.upd nDh nDd, ms1.set (2 ^ k - 1) lst, by rw [upd_same, List.map_set], ⟨by rw [List.length_set]; exact lm1, fun x mx => ?_, fun z => absurd z na, fun _ x mx => ?_, fun e i j ij jl c => by omega, fun e i j ij jl c => by omega⟩⟩
        · rcases List.mem_or_eq_of_mem_set mx with mx | rfl
          · exact bd1 x mx
          · exact ⟨l0, l1⟩
        · rw [getD_set (by omega), if_pos rfl]
          rcases List.mem_or_eq_of_mem_set mx with mx | rfl
          · exact ls1 na x mx
          · exact Int.le_refl _
      · have c : ¬ wd = "all yes" := fun z => c (decide_eq_true z)
        refine q_next ?_
        exact key _ _ ⟨rfl, kp6, hd6, ms1, hD6, ⟨lm1, bd1, an1, fun z => absurd z c, fun e i j ij jl c => by omega, fun e i j ij jl c => by omega⟩⟩
    obtain ⟨rfl, kp7, hd7, ms2, hD7, ks⟩ := hJ
    clear hD6 hd6 kp6 lm1 bd1 an1 ls1 ms1 l0 l1 l2 el bm lm mm ml bl
    have hRn := hd2.ns hR (ref_hand (h := h))
    refine q_seq ?_
    refine ⟨.ref R, rfl, R, _, rfl, .inl (sl (kp7 _ _ hRn hR)), ?_⟩
    rw [lR]
    refine ⟨((2 ^ k : Nat) : Int), rfl, by omega, by omega, for_range (lo := 0) (n := 2 ^ k) (fun J σ G => Kp h H2 G ∧ Hdd G h dr ∧ (∃ ms1 : List Int, G D = some (.lst (ms1.map V.int)) ∧ Kst wd k J 0 ms1) ∧ ∃ x6 x7 x8 : Option V, σ = [some (.ref h), some (.str wd), some (.int k), some (.ref R), some (.ref D), some (.int lst), x6, x7, x8, none, none, none, none]) ⟨kp7, hd7, ⟨ms2, hD7, ks⟩, none, none, none, rfl⟩ (fun J σ G hJ hP => ?_) (fun σ G hP => ?_)⟩
    · obtain ⟨kpG, hdG, ⟨ms1, hDG, ks1⟩, x6, x7, x8, rfl⟩ := hP
      refine ⟨.int (0 + (J : Int)), rfl, (0 + (J : Int)), rfl, by omega, by omega, ?_⟩
      rw [show (0 + (J : Int)).toNat = J by omega]
      refine for_range (lo := 0) (n := J) (fun I σ G => Kp h H2 G ∧ Hdd G h dr ∧ (∃ ms1 : List Int, G D = some (.lst (ms1.map V.int)) ∧ Kst wd k J I ms1) ∧ ∃ x7 x8 : Option V, σ = [some (.ref h), some (.str wd), some (.int k), some (.ref R), some (.ref D), some (.int lst), some (.int (0 + (J : Int))), x7, x8, none, none, none, none]) ⟨kpG, hdG, ⟨ms1, hDG, ks1⟩, x7, x8, rfl⟩ (fun I σ G2 hI hQ => ?_) (fun σ G2 hQ => ?_)
      · obtain ⟨kp8, hd8, ⟨ms3, hD8, ks3⟩, x7, x8, rfl⟩ := hQ
        have Il : I < 2 ^ k := by omega
        have iR : I < (rowsOf k).length := by rw [rows_len]; exact Il
        have jR : J < (rowsOf k).length := by rw [rows_len]; exact hJ
        have gi : (rowsOf k)[I]? = some (rowsOf k)[I] := List.getElem?_eq_getElem iR
        have gj : (rowsOf k)[J]? = some (rowsOf k)[J] := List.getElem?_eq_getElem jR
        generalize (rowsOf k)[I] = ri at gi
        generalize (rowsOf k)[J] = rj at gj
        have rw8 := Rws.kp hd2 kp8 rw2
        have hR8 := kp8 _ _ hRn hR
        obtain ⟨pi, hpi, hri⟩ := rws_get rw8 gi
        obtain ⟨pj, hpj, hrj⟩ := rws_get rw8 gj
        have li := row_len k ri (List.mem_of_getElem? gi)
        have lj := row_len k rj (List.mem_of_getElem? gj)
        have lu : (undL ri rj).length = k := by rw [List.length_zipWith]; omega
        refine q_seq (q_set ?_)
        refine ⟨.ref R, rfl, .int _, rfl, R, _, _, .ref pi, rfl, rfl, sl hR8, at_z (j := I) (Int.zero_add _) hpi, .ref R, rfl, .int _, rfl, R, _, _, .ref pj, rfl, rfl, sl hR8, at_z (j := J) (Int.zero_add _) hpj, pi, pj, ri.map V.int, rj.map V.int, rfl, .inr ⟨tl hri, tl hrj, fun Z nZ => lc_zipT (K := K) (a := pi) (b := pj) (xs := ri.map V.int) (ys := rj.map V.int) (fun i G3 => Same G2 G3 ∧ G3 Z = some (.lst (List.replicate (((undL ri rj).take i).count true) (V.int 1)))) ⟨same_upd nZ, upd_same⟩ (fun i G3 _ hP => ⟨tl (hP.1 _ _ hri), tl (hP.1 _ _ hrj)⟩) (by rw [List.length_map, List.length_map, li, lj]) (fun i x y G3 T hx hy hP nT => ?_) (fun G3 hP => ?_)⟩⟩
        · obtain ⟨s', hZ⟩ := hP
          obtain ⟨n, rfl, ex⟩ := int_at hx
          obtain ⟨m, rfl, ey⟩ := int_at hy
          refine ⟨T, _, rfl, tl upd_same, rfl, _, _, rfl, _, _, rfl, rfl, ?_⟩
          have hZ2 := same_upd (o := .tup [.int n, .int m]) nT _ _ hZ
          have et : (undL ri rj).take (i + 1) = (undL ri rj).take i ++ [decide (m < n)] := by
            rw [List.take_add_one, List.getElem?_zipWith, ex, ey]
            rfl
          refine ⟨rfl, .int n, rfl, .int m, rfl, _, _, rfl, rfl, _, rfl, ?_⟩
          dsimp only
          by_cases c : m < n
          · rw [if_pos (decide_eq_true c)]
            rw [decide_eq_true c] at et
            have lc : ((undL ri rj).take i).count true ≤ 100 := by
              have := List.count_le_length (a := true) (l := (undL ri rj).take i)
              rw [List.length_take] at this
              omega
            refine ⟨_, hZ2, by rw [List.length_replicate]; exact small1000 (by omega), fun b o z => ?_, ?_⟩
            · rw [upd_ne (ne_of_none z nZ)]
              exact same_upd nT _ _ (s' _ _ z)
            · rw [upd_same, et, List.count_append, List.count_singleton_self, List.replicate_succ']
          · rw [if_neg (fun z => c (of_decide_eq_true z))]
            rw [decide_eq_false c] at et
            refine ⟨fun b o z => same_upd nT _ _ (s' _ _ z), ?_⟩
            rw [et, List.count_append, show List.count true [false] = 0 from rfl, Nat.add_zero]
            exact hZ2
        obtain ⟨s9, hZ⟩ := hP
        rw [List.length_map, li, ← lu, List.take_length] at hZ
        refine ⟨Z, _, rfl, .inl (sl hZ), rfl, ?_⟩
        rw [List.length_replicate]
        have eu : decide (V.int (((undL ri rj).count true : Nat) : Int) = V.int 0) = decide (undC ri rj = 0) := by
          rw [dInt2]
          unfold undC
          exact decide_eq_decide.mpr (by omega)
        dsimp only
        rw [eu]
        have kp9 := kp8.trans (Kp.of s9)
        have hd9 := hd8.same s9
        have hD9 := s9 _ _ hD8
        have ru : undC (rw_ k I) (rw_ k J) = undC ri rj := by rw [rw_at gi, rw_at gj]
        have lm3 := ks3.len
        have at3 : ∀ {z : Int} {q : Nat}, z = (q : Int) → q < 2 ^ k → atI (ms3.map V.int) z = some (.int (ms3.getD q 0)) := fun e hq => at_z (j := _) e (by rw [List.getElem?_map, List.getD_eq_getElem?_getD, List.getElem?_eq_getElem (by omega)]; rfl)
        obtain ⟨a1, a2, a3, a4, a5, a6, a7, a8, a9, a10⟩ := words_apart
        have fin : ∀ (G4 : Hp) (ms4 : List Int), Kp h H2 G4 → Hdd G4 h dr → G4 D = some (.lst (ms4.map V.int)) → Kst wd k J (I + 1) ms4 → (Kp h H2 G4 ∧ Hdd G4 h dr ∧ (∃ ms1 : List Int, G4 D = some (.lst (ms1.map V.int)) ∧ Kst wd k J (I + 1) ms1) ∧ ∃ x7 x8 : Option V, [some (V.ref h), some (.str wd), some (.int k), some (.ref R), some (.ref D), some (.int lst), some (.int (0 + (J : Int))), some (.int (0 + (I : Int))), some (.bl (decide (undC ri rj = 0))), none, none, none, none] = [some (.ref h), some (.str wd), some (.int k), some (.ref R), some (.ref D), some (.int lst), some (.int (0 + (J : Int))), x7, x8, none, none, none, none]) := fun G4 ms4 a b c d => ⟨a, b, ⟨ms4, c, d⟩, _, _, rfl⟩
        refine q_seqJ (fun σ G => σ = [some (.ref h), some (.str wd), some (.int k), some (.ref R), some (.ref D), some (.int lst), some (.int (0 + (J : Int))), some (.int (0 + (I : Int))), some (.bl (decide (undC ri rj = 0))), none, none, none, none] ∧ Kp h H2 G ∧ Hdd G h dr ∧ ((wd = "rising" ∧ ∃ ms4 : List Int, G D = some (.lst (ms4.map V.int)) ∧ Kst wd k J (I + 1) ms4) ∨ (¬ wd = "rising" ∧ G D = some (.lst (ms3.map V.int))))) (fun σ' G hJJ => ?_) (fun key => ?_)
        rotate_left
        · refine q_if ?_
          refine ⟨.bl _, rfl, _, rfl, ?_⟩
          by_cases u : undC ri rj = 0
          · dsimp only
            rw [if_pos (decide_eq_true u)]
            refine ⟨.str wd, rfl, rfl, _, rfl, ?_⟩
            try dsimp only
            rw [dStr]
            refine ite2 (fun c => ?_) (fun c => ?_)
            · have c := of_decide_eq_true c
              refine ⟨.ref D, rfl, .int _, rfl, D, _, _, .int (ms3.getD J 0), rfl, rfl, sl hD9, at3 (Int.zero_add _) hJ, .inl ⟨_, rfl, .ref D, rfl, .int _, rfl, D, _, _, .int (ms3.getD I 0), rfl, rfl, sl hD9, at3 (Int.zero_add _) Il, .inl ⟨_, rfl, _, _, rfl, .ref D, rfl, .int _, rfl, D, _, _, J, rfl, rfl, hD9, by rw [List.length_map, Int.zero_add]; exact ixN_nat (by omega), ?_⟩⟩⟩
              refine key _ _ ⟨rfl, upk kp9, hd9.upd nDh nDd, .inl ⟨c, _, by rw [upd_same, List.map_set], ks3.rise hI hJ c rfl⟩⟩
            · have c : ¬ wd = "rising" := fun z => c (decide_eq_true z)
              refine q_next ?_
              exact key _ _ ⟨rfl, kp9, hd9, .inr ⟨c, hD9⟩⟩
          · dsimp only
            rw [if_neg (fun z => u (of_decide_eq_true z))]
            try dsimp only
            rw [if_neg (by decide)]
            refine q_next ?_
            refine key _ _ ⟨rfl, kp9, hd9, ?_⟩
            by_cases c : wd = "rising"
            · exact .inl ⟨c, ms3, hD9, ks3.skip (fun _ => by rw [ru]; exact u)⟩
            · exact .inr ⟨c, hD9⟩
        obtain ⟨rfl, kp10, hd10, hor⟩ := hJJ
        refine q_if ?_
        refine ⟨.bl _, rfl, _, rfl, ?_⟩
        by_cases u : undC ri rj = 0
        · dsimp only
          rw [if_pos (decide_eq_true u)]
          refine ⟨.str wd, rfl, rfl, _, rfl, ?_⟩
          try dsimp only
          rw [dStr]
          refine ite2 (fun c => ?_) (fun c => ?_)
          · have c := of_decide_eq_true c
            rcases hor with ⟨wr, _⟩ | ⟨wr, hD10⟩
            · exact absurd (wr.symm.trans c) a10
            refine ⟨.ref D, rfl, .int _, rfl, D, _, _, .int (ms3.getD J 0), rfl, rfl, sl hD10, at3 (Int.zero_add _) hJ, .inl ⟨_, rfl, .ref D, rfl, .int _, rfl, D, _, _, .int (ms3.getD I 0), rfl, rfl, sl hD10, at3 (Int.zero_add _) Il, .inl ⟨_, rfl, _, _, rfl, .ref D, rfl, .int _, rfl, D, _, _, J, rfl, rfl, hD10, by rw [List.length_map, Int.zero_add]; exact ixN_nat (by omega), ?_⟩⟩⟩
            exact fin _ _ (upk kp10) (hd10.upd nDh nDd) (by rw [upd_same, List.map_set]) (ks3.fall hI hJ c rfl)
          · have c : ¬ wd = "falling" := fun z => c (decide_eq_true z)
            refine q_next ?_
            rcases hor with ⟨wr, ms4, h4, k4⟩ | ⟨wr, hD10⟩
            · exact fin _ _ kp10 hd10 h4 k4
            · exact fin _ _ kp10 hd10 hD10 (ks3.skip (fun z => z.elim (fun z => absurd z wr) (fun z => absurd z c)))
        · dsimp only
          rw [if_neg (fun z => u (of_decide_eq_true z))]
          try dsimp only
          rw [if_neg (by decide)]
          refine q_next ?_
          rcases hor with ⟨wr, ms4, h4, k4⟩ | ⟨wr, hD10⟩
          · exact fin _ _ kp10 hd10 h4 k4
          · exact fin _ _ kp10 hd10 hD10 (ks3.skip (fun _ => by rw [ru]; exact u))
      · obtain ⟨kp8, hd8, ⟨ms3, hD8, ks3⟩, x7, x8, rfl⟩ := hQ
        exact ⟨kp8, hd8, ⟨ms3, hD8, ks3.next⟩, _, _, _, rfl⟩
    · obtain ⟨kpG, hdG, ⟨ms1, hDG, ks1⟩, x6, x7, x8, rfl⟩ := hP
      try dsimp only
      refine q_ret ?_
      refine ⟨.int k, rfl, .ref D, rfl, D, _, rfl, .inl ⟨sl hDG, fun l nl => ⟨by show 2 ≤ sizeLine; decide, fun p np => ?_⟩⟩⟩
      have sl1 := same_upd (o := .tup (ms1.map V.int)) nl
      have sp := same_upd (o := .tup [V.int k, .ref l]) np
      refine q p (k, ms1) _ ((kp2.trans kpG).trans ((Kp.of sl1).trans (Kp.of sp))) ((hdG.same sl1).same sp) ⟨l, upd_same, sp _ _ upd_same, k1, k3, ks1.len, fun x mx => ?_⟩ (kst_kd nb k3 ks1)
      have := ks1.bd x mx
      omega
end
end CP

namespace CP
open PySem PySem.Spec PyProof.Rows L2 Ek CC CS
theorem cut_to {xs : List V} {j : Nat} (h : j ≤ xs.length) : cutV xs none (some (j : Int)) = xs.take j := by
  have e : HT.sIx xs.length xs.length (some (j : Int)) = j := by
    rw [HT.sIx_nat]
    omega
  unfold cutV
  rw [e]
  rfl
theorem cut_from {xs : List V} {j : Nat} (h : j ≤ xs.length) : cutV xs (some (j : Int)) none = xs.drop j := by
  have e : HT.sIx xs.length 0 (some (j : Int)) = j := by
    rw [HT.sIx_nat]
    omega
  unfold cutV
  rw [e]
  show (xs.drop j).take (xs.length - j) = _
  rw [← List.length_drop, List.take_length]
theorem ints_dv {N : Addr → Prop} {H : Hp} : ∀ {cs : List Int}, DvAll N H (cs.map V.int) (cs.map .int)
  | [] => .nil
  | c :: cs => .cons (.int c) ints_dv
theorem lps_bd {H : Hp} {ps : List Addr} {bks : List Pd} (x : LPs H ps bks) : ∀ z ∈ bks, 1 ≤ z.1 ∧ z.1 ≤ 3 ∧ z.2.length = 2 ^ z.1 ∧ Bd (-1000000000) 1000000000 z.2 := by
  induction x with
  | nil => exact fun _ m => nomatch m
  | cons e _ ih =>
    obtain ⟨t, _, _, h⟩ := e
    intro z m
    rcases List.mem_cons.mp m with rfl | m
    · exact h
    · exact ih z m
theorem cost_bd {ms bs : List Int} {lo hi : Int} (h : Bd lo hi ms) (l0 : lo ≤ 0) (h0 : 0 ≤ hi) : lo ≤ costL ms bs ∧ costL ms bs ≤ hi := by
  unfold costL
  rw [List.getD_eq_getElem?_getD]
  cases e : ms[(num bs).toNat]? with
  | none => exact ⟨l0, h0⟩
  | some x => exact h x (List.mem_of_getElem? e)
theorem tot_bd {bks : List Pd} {n : Int} {r : List Int} (hz : ∀ z ∈ bks, Bd (-1000000000) 1000000000 z.2) : ∀ {ts : List Tie}, (∀ t ∈ ts, tieB bks n t) → -((ts.length : Nat) : Int) * 1000000000000 ≤ totM bks ts r ∧ totM bks ts r ≤ ((ts.length : Nat) : Int) * 1000000000000
  | [], _ => ⟨Int.le_refl 0, Int.le_refl 0⟩
  | t :: ts, h => by
    obtain ⟨i1, i2⟩ := tot_bd (r := r) hz (ts := ts) fun x m => h x (List.mem_cons_of_mem _ m)
    obtain ⟨⟨o1, _, _, o4⟩, o5⟩ := h t List.mem_cons_self
    have hb : Bd (-1000000000) 1000000000 (bks.getD t.1 (0, [])).2 := by
      rw [List.getD_eq_getElem?_getD, List.getElem?_eq_getElem o1]
      exact hz _ (List.getElem_mem _)
    obtain ⟨c1, c2⟩ := cost_bd (bs := t.2.1.map fun c => r.getD c.toNat 0) hb (by decide) (by decide)
    have e : totM bks (t :: ts) r = costT bks r t + totM bks ts r := rfl
    have m1 : -1000000000000 ≤ costT bks r t ∧ costT bks r t ≤ 1000000000000 := by
      unfold costT
      generalize costL (bks.getD t.1 (0, [])).2 (t.2.1.map fun c => r.getD c.toNat 0) = c at c1 c2
      have a1 : t.2.2 * c ≤ t.2.2 * 1000000000 := Int.mul_le_mul_of_nonneg_left c2 (by omega)
      have a2 : t.2.2 * (-1000000000) ≤ t.2.2 * c := Int.mul_le_mul_of_nonneg_left c1 (by omega)
      omega
    rw [e, List.length_cons]
    omega
structure Lx (C CB CP h dr L t z : Addr) (ps as : List Addr) (bks : List Pd) (n : Nat) (ts : List Tie) (H : Hp) : Prop where
  hd : Hdd H h dr
  hL : H L = some (.lst (ps.map V.ref))
  lps : LPs H ps bks
  ht : Rd H t (.tup (as.map V.ref))
  ti : TisAt H as ts
  pz : PzAt C CB CP H z bks n ts
section
variable {C CB CP h dr L t z : Addr} {ps as : List Addr} {bks : List Pd} {n : Nat} {ts : List Tie} {H H' : Hp}
theorem Lx.go (X : Lx C CB CP h dr L t z ps as bks n ts H) (kp : Kp h H H') (hd' : Hdd H' h dr) : Lx C CB CP h dr L t z ps as bks n ts H' :=
  ⟨hd', kp _ _ (X.hd.ns X.hL (ref_hand (h := h))) X.hL, LPs.kp X.hd kp X.lps, rd_kp X.hd kp X.ht, X.ti.kp X.hd kp, X.pz.kp X.hd kp⟩
theorem Lx.same (X : Lx C CB CP h dr L t z ps as bks n ts H) (s : Same H H') : Lx C CB CP h dr L t z ps as bks n ts H' := X.go (Kp.of s) (X.hd.same s)
theorem Lx.wd (X : Lx C CB CP h dr L t z ps as bks n ts H) : Wd h dr (fun b => b ≠ h) H H := Wd.start X.hd (fun a e => X.hd.ne e) (fun z => z rfl)
end
theorem some_row {n : Nat} {st : Stt} {cs v : List Int} (so : stOk n st) (hc : ∀ c ∈ cs, c ∈ (freeL n st).map fun (n : Nat) => (n : Int)) (nd : cs.Nodup) (hv : v ∈ rowsOf cs.length) : ∃ bs ∈ rowsOf n, keepsM st bs = true ∧ (cs.map fun c => bs.getD c.toNat 0) = v := by
  have lv := row_len _ v hv
  have bv := bits_rows _ v hv
  refine ⟨fillF n st ((freeL n st).map fun (k : Nat) => v.getD (cs.idxOf (k : Int)) 0), rows_mem2 (fillF_bits so fun x hx => ?_) fillF_len, fillF_keeps so, ?_⟩
  · obtain ⟨k, mk, rfl⟩ := List.mem_map.mp hx
    rw [List.getD_eq_getElem?_getD]
    cases e2 : v[cs.idxOf (k : Int)]? with
    | none => exact .inl rfl
    | some x => exact bv x (List.mem_of_getElem? e2)
  · refine List.ext_getElem? fun i => ?_
    by_cases hi : i < cs.length
    · have hci : cs[i]? = some cs[i] := List.getElem?_eq_getElem hi
      have hvi : v[i]? = some v[i] := List.getElem?_eq_getElem (by omega)
      rw [List.getElem?_map, hci, hvi]
      obtain ⟨k, mk, ek⟩ := List.mem_map.mp (hc cs[i] (List.getElem_mem _))
      have ek' : (k : Int) = cs[i] := ek
      show some ((fillF n st _).getD cs[i].toNat 0) = some v[i]
      rw [← ek', Int.toNat_natCast, fillF_free mk]
      have lt := List.idxOf_lt_length_of_mem mk
      rw [List.getD_eq_getElem?_getD (l := (freeL n st).map _), List.getElem?_map, List.getElem?_eq_getElem lt, List.getElem_idxOf lt]
      show some (v.getD (cs.idxOf (k : Int)) 0) = _
      have ei : cs.idxOf (k : Int) = i := by
        rw [ek']
        exact List.Nodup.idxOf_getElem nd i hi
      rw [ei, List.getD_eq_getElem?_getD, hvi]
      rfl
    · rw [List.getElem?_eq_none (by rw [List.length_map]; omega), List.getElem?_eq_none (by omega)]
theorem rise_all : ∀ {a : Int} {l : List Int}, riseI (a :: l) = true → riseI l = true ∧ ∀ x ∈ l, a < x
  | a, [], _ => ⟨rfl, fun _ m => nomatch m⟩
  | a, b :: l, h => by
    have z : (decide (a < b) && riseI (b :: l)) = true := h
    rw [Bool.and_eq_true, decide_eq_true_iff] at z
    refine ⟨z.2, fun x m => ?_⟩
    rcases List.mem_cons.mp m with rfl | m
    · exact z.1
    · exact Int.lt_trans z.1 ((rise_all z.2).2 x m)
theorem rise_tail {c : Int × Int} {st : Stt} {n : Int} (so : stOk n (c :: st)) : stOk n st ∧ fixV st c.1 = none := by
  obtain ⟨r1, r2⟩ := rise_all (a := c.1) (l := st.map fun (x : Int × Int) => x.1) so.2
  refine ⟨⟨fun x m => so.1 x (List.mem_cons_of_mem _ m), r1⟩, fix_none.mpr fun m => ?_⟩
  exact absurd (r2 _ m) (Int.lt_irrefl _)
/-- a start and the cells that are asked -/
structure Ms (n : Nat) (sA t1 : Addr) (oS : Obj) (sps : List Addr) (st : Stt) (cs : List Int) (H : Hp) : Prop where
  od : oS.dict = none
  hs : H sA = some (.frz oS (.tup (sps.map V.ref)))
  pt : PrsT H sps st
  so : stOk n st
  ls : st.length ≤ n
  ht : H t1 = some (.tup (cs.map V.int))
  nd : cs.Nodup
  cf : ∀ c ∈ cs, c ∈ freeI n st
  c1 : 1 ≤ cs.length
  c3 : cs.length ≤ 3
theorem Ms.go {n : Nat} {sA t1 h dr : Addr} {oS : Obj} {sps : List Addr} {st : Stt} {cs : List Int} {H H' : Hp} (X : Ms n sA t1 oS sps st cs H) (hd : Hdd H h dr) (kp : Kp h H H') : Ms n sA t1 oS sps st cs H' :=
  ⟨X.od, kp _ _ (hd.ns X.hs (fun _ _ z => by cases z)) X.hs, X.pt.kp hd kp, X.so, X.ls, kp _ _ (hd.ns X.ht (fun _ _ z => by cases z)) X.ht, X.nd, X.cf, X.c1, X.c3⟩
theorem Ms.same {n : Nat} {sA t1 : Addr} {oS : Obj} {sps : List Addr} {st : Stt} {cs : List Int} {H H' : Hp} (X : Ms n sA t1 oS sps st cs H) (s : Same H H') : Ms n sA t1 oS sps st cs H' :=
  ⟨X.od, s _ _ X.hs, X.pt.same s, X.so, X.ls, s _ _ X.ht, X.nd, X.cf, X.c1, X.c3⟩
theorem cells_yes {n : Nat} {st : Stt} {cs : List Int} (c1 : 1 ≤ cs.length) (c3 : cs.length ≤ 3) (cf : ∀ c ∈ cs, c ∈ freeI n st) (nd : cs.Nodup) : cellsD (freeL n st) (.tuple (cs.map .int)) = true := by
  show ((decide (1 ≤ (cs.map PyData.int).length) && decide ((cs.map PyData.int).length ≤ 3)) && (((cs.map PyData.int).all fun d => isIntD d && decide (intOf d ∈ (freeL n st).map fun (n : Nat) => (n : Int))) && decide ((cs.map PyData.int).map intOf).Nodup)) = true
  rw [List.length_map, decide_eq_true c1, decide_eq_true c3, int_of, decide_eq_true nd, List.all_map]
  rw [show (cs.all ((fun d => isIntD d && decide (intOf d ∈ (freeL n st).map fun (n : Nat) => (n : Int))) ∘ PyData.int)) = true from List.all_eq_true.mpr fun c mc => by
    show (true && decide (c ∈ freeI n st)) = true
    rw [decide_eq_true (cf c mc)]
    rfl]
  rfl

/-- a dict of values of cells -/
def FiAt (H : Hp) (d : Addr) (f : Int → Option Int) (b : Nat) : Prop := ∃ kvs : List (L2.Key × V), H d = some (.dK kvs) ∧ kvs.length ≤ b ∧ ∀ c : Int, valV kvs (Sum.inl c) = (f c).map V.int
theorem FiAt.same {H H' : Hp} {d : Addr} {f : Int → Option Int} {b : Nat} (s : Same H H') (x : FiAt H d f b) : FiAt H' d f b := by
  obtain ⟨kvs, h1, h2⟩ := x
  exact ⟨kvs, s _ _ h1, h2⟩
theorem FiAt.get {H : Hp} {d : Addr} {f : Int → Option Int} {b : Nat} (x : FiAt H d f b) (c : Int) : DGet H d (.int c) ((f c).map V.int) := by
  obtain ⟨kvs, h1, _, h2⟩ := x
  rw [← h2]
  exact DGet.k (k := Sum.inl c) h1
theorem FiAt.isD {H : Hp} {d : Addr} {f : Int → Option Int} {b : Nat} (x : FiAt H d f b) : IsD H d := by
  obtain ⟨kvs, h1, _⟩ := x
  exact .inl ⟨kvs, .inl h1⟩
theorem FiAt.put {H : Hp} {d : Addr} {f : Int → Option Int} {b : Nat} {c v : Int} (x : FiAt H d f b) (hb : b ≤ 900) : ∃ H', DPut H d (.int c) (.int v) H' ∧ (∀ a o, a ≠ d → H a = some o → H' a = some o) ∧ FiAt H' d (fun u => if u = c then some v else f u) (b + 1) := by
  obtain ⟨kvs, h1, h2, h3⟩ := x
  refine ⟨_, DPut.k (k := Sum.inl c) h1 (small1000 (by omega)), fun a o na e => by rw [upd_ne na]; exact e, ⟨_, upd_same, ?_, fun u => ?_⟩⟩
  · have := length_putK kvs (Sum.inl c) (V.int v)
    omega
  · rw [valV_put]
    by_cases z : u = c
    · rw [if_pos (by rw [z])]
      show _ = Option.map V.int (if u = c then some v else f u)
      rw [if_pos z]
      rfl
    · rw [if_neg fun y => z (Sum.inl.inj y)]
      show _ = Option.map V.int (if u = c then some v else f u)
      rw [if_neg z]
      exact h3 u
/-- the values told of the cells below n, as a start -/
def stF (n : Nat) (f : Int → Option Int) : Stt := (List.range n).filterMap fun (k : Nat) => (f k).map fun v => ((k : Int), v)
theorem stF_next {n : Nat} {f : Int → Option Int} : stF (n + 1) f = stF n f ++ (match f n with | some v => [((n : Int), v)] | none => []) := by
  unfold stF
  rw [List.range_succ, List.filterMap_append]
  congr 1
  rw [List.filterMap_cons]
  cases f (n : Int) <;> rfl
theorem stF_mem {n : Nat} {f : Int → Option Int} {c : Int × Int} : c ∈ stF n f ↔ ∃ k : Nat, k < n ∧ c.1 = (k : Int) ∧ f k = some c.2 := by
  unfold stF
  rw [List.mem_filterMap]
  constructor
  · rintro ⟨k, hk, e⟩
    cases ef : f (k : Int) with
    | none => rw [ef] at e; cases e
    | some v =>
      rw [ef] at e
      obtain rfl := (Option.some.inj e).symm
      exact ⟨k, List.mem_range.mp hk, rfl, ef⟩
  · rintro ⟨k, hk, e1, e2⟩
    refine ⟨k, List.mem_range.mpr hk, ?_⟩
    rw [e2]
    show some ((k : Int), c.2) = some c
    rw [← e1]
theorem stF_len {n : Nat} {f : Int → Option Int} : (stF n f).length ≤ n := by
  have := List.length_filterMap_le (fun (k : Nat) => (f k).map fun v => ((k : Int), v)) (List.range n)
  rw [List.length_range] at this
  exact this
theorem riseI_snoc : ∀ {l : List Int} {x : Int}, riseI l = true → (∀ y ∈ l, y < x) → riseI (l ++ [x]) = true
  | [], _, _, _ => rfl
  | [a], x, _, h => by
    show (decide (a < x) && true) = true
    rw [decide_eq_true (h a (by simp))]
    rfl
  | a :: b :: l, x, r, h => by
    have z : (decide (a < b) && riseI (b :: l)) = true := r
    rw [Bool.and_eq_true] at z
    show (decide (a < b) && riseI ((b :: l) ++ [x])) = true
    rw [z.1, riseI_snoc z.2 fun y m => h y (List.mem_cons_of_mem _ m)]
    rfl
theorem stF_ok {n : Nat} {f : Int → Option Int} (hb : ∀ c v, f c = some v → v = 0 ∨ v = 1) : stOk n (stF n f) := by
  refine ⟨fun c m => ?_, ?_⟩
  · obtain ⟨k, hk, e1, e2⟩ := stF_mem.mp m
    exact ⟨by omega, hb _ _ e2⟩
  · induction n with
    | zero => rfl
    | succ n ih =>
      rw [stF_next, List.map_append]
      cases ef : f (n : Int) with
      | none =>
        show riseI ((stF n f).map _ ++ []) = true
        rw [List.append_nil]
        exact ih
      | some v =>
        refine riseI_snoc ih fun y my => ?_
        obtain ⟨c, mc, rfl⟩ := List.mem_map.mp my
        obtain ⟨k, hk, e1, e2⟩ := stF_mem.mp mc
        show c.1 < (n : Int)
        omega
/-- the start with the cells at these values -/
def wthF (st : Stt) (cs v : List Int) (c : Int) : Option Int := if c ∈ cs then some (v.getD (cs.idxOf c) 0) else fixV st c
theorem wth_keeps {n : Nat} {st : Stt} {cs v r : List Int} (so : stOk n st) (nd : cs.Nodup) (cf : ∀ c ∈ cs, c ∈ freeI n st) (lv : v.length = cs.length) : keepsM (stF n (wthF st cs v)) r = true ↔ keepsM st r = true ∧ prjT cs r = v := by
  rw [keeps_iff, keeps_iff]
  have nf : ∀ c ∈ cs, fixV st c = none := fun c m => by
    obtain ⟨k, mk, e⟩ := List.mem_map.mp (cf c m)
    have e : (k : Int) = c := e
    rw [← e]
    exact (free_mem.mp mk).2
  constructor
  · intro h
    refine ⟨fun c m => ?_, ?_⟩
    · have b := (so.1 c m).1
      refine h c (stF_mem.mpr ⟨c.1.toNat, by omega, by omega, ?_⟩)
      rw [Int.toNat_of_nonneg b.1]
      unfold wthF
      rw [if_neg fun mc => fix_none.mp (nf _ mc) (List.mem_map.mpr ⟨c, m, rfl⟩)]
      exact fix_of so m
    · refine List.ext_getElem? fun i => ?_
      rw [List.getElem?_map]
      by_cases hi : i < cs.length
      · have g : cs[i]? = some cs[i] := List.getElem?_eq_getElem hi
        have mc := List.getElem_mem hi
        obtain ⟨k, mk, e⟩ := List.mem_map.mp (cf _ mc)
        have e : (k : Int) = cs[i] := e
        have z := h (cs[i], v.getD (cs.idxOf cs[i]) 0) (stF_mem.mpr ⟨k, (free_mem.mp mk).1, e.symm, by rw [e]; unfold wthF; rw [if_pos mc]⟩)
        rw [g]
        show some (r.getD cs[i].toNat 0) = _
        rw [show r.getD cs[i].toNat 0 = _ from z, List.Nodup.idxOf_getElem nd i hi, List.getD_eq_getElem?_getD, List.getElem?_eq_getElem (by omega)]
        rfl
      · rw [List.getElem?_eq_none (by omega), List.getElem?_eq_none (by omega)]
        rfl
  · rintro ⟨h1, h2⟩ c m
    obtain ⟨k, hk, e1, e2⟩ := stF_mem.mp m
    unfold wthF at e2
    by_cases mc : (k : Int) ∈ cs
    · rw [if_pos mc] at e2
      have lt := List.idxOf_lt_length_of_mem mc
      have e := Option.some.inj e2
      rw [e1, Int.toNat_natCast, ← e, ← h2, List.getD_eq_getElem?_getD (l := prjT cs r), List.getElem?_map, List.getElem?_eq_getElem lt, List.getElem_idxOf lt]
      rfl
    · rw [if_neg mc] at e2
      have := h1 _ (fix_mem e2)
      rw [e1]
      exact this
section
variable {P : Program} {w : World} {K : PySem.W.Frag} {mg : Str → Option Value} {base : Heap}
theorem ok_placeT {f : Addr} {fd : FuncData} (F : Fun K "_law_at" "_law_at" sPlace f fd) : FnOk P w K mg base CX0 1 f fd ["row"] (spRN K) := by
  refine F.ok scPlace (fun vs H Q E h => ?_) (fun cdv A outer s H vs Q E hr h => ?_)
  · obtain ⟨a, bs, rfl, _⟩ := h
    rfl
  · obtain ⟨a, bs, rfl, hS, q⟩ := h
    refine ⟨_, (pss_cons (ps_set (i := 1) scPlace.nd rfl (.inl rfl) pe_int)
      (pss_cons (ps_for PassesOwn.never rfl (pi_tup (pv 0)) (pg_name (i := 2) scPlace.nd rfl (.inl rfl))
      (pss_one (ps_set (i := 1) scPlace.nd rfl (.inl rfl) (pe_op op_add (pe_op op_mul pe_int (pv 1)) (pv 2)))))
      (pss_one (ps_ret (pv 1))))), ?_⟩
    refine q_seq (q_setc ?_)
    dsimp only
    refine q_seq ?_
    refine ⟨.ref a, rfl, a, rfl, ⟨_, hS⟩, for_tup (K := K) (a := a) (xs := bs.map V.int) (fun i σ H' => ∃ v : Option V, σ = [some (.ref a), some (.int (num (bs.take i))), v] ∧ H' = H) ⟨none, rfl, rfl⟩ (fun i σ H' _ hP => by obtain ⟨v, _, rfl⟩ := hP; exact hS) (fun i x σ H' hx hP => ?_) (fun σ H' hP => ?_)⟩
    · obtain ⟨v, rfl, rfl⟩ := hP
      obtain ⟨b, rfl, e⟩ := int_at hx
      refine q_set ?_
      refine ⟨_, rfl, _, _, rfl, rfl, .inl ⟨by decide, by decide⟩, _, rfl, _, _, rfl, rfl, some (.int b), ?_, rfl⟩
      rw [num_take e]
      rfl
    · obtain ⟨v, rfl, rfl⟩ := hP
      dsimp only
      refine q_ret ⟨_, rfl, ?_⟩
      rw [List.length_map, List.take_length]
      exact q
end
theorem inW {wd : Str} (m : wd ∈ kindsW) : inV (.str wd) [V.str "all no", .str "all yes"] = decide (wd = "all no" ∨ wd = "all yes") := by
  rcases w5 m with rfl | rfl | rfl | rfl | rfl <;> decide +kernel
def spLaw (K : PySem.W.Frag) : Sp := fun vs H Q _ => ∃ (a : Addr) (ns : List Int), vs = [.ref a] ∧ SqL K H a (ns.map V.int) ∧ ns.length ≤ 63 ∧ ∀ H', Q (.bl true) H'
section
variable {P : Program} {w : World} {K : PySem.W.Frag} {mg : Str → Option Value} {base : Heap}
theorem ok_law {f C CB CP CT CX fPZI : Addr} {fd fdPZI : FuncData} (F : Fun K "law" "law" sLaw f fd) (B : Bt mg) (T : Pc K mg C) (eC : Pe K C) (TB : Bc K mg CB) (TP : Pzc K mg CP) {fDraws : Addr} {fdDraws : FuncData} (GDraws : FnOk P w K mg base CX0 1 fDraws fdDraws ["script", "many"] (spDraws K)) (kDraws : PySem.W.keepIn K (.ref fDraws) = true) (bDraws : Binds K fdDraws ["script", "many"] []) (gDraws : mg "_law_draws" = some (.ref fDraws)) {fTake : Addr} {fdTake : FuncData} (GTake : FnOk P w K mg base CX0 1 fTake fdTake ["hand", "many"] spTake) (kTake : PySem.W.keepIn K (.ref fTake) = true) (bTake : Binds K fdTake ["hand", "many"] []) (gTake : mg "_law_take" = some (.ref fTake)) {fLKp : Addr} {fdLKp : FuncData} (GLKp : FnOk P w K mg base CX0 4 fLKp fdLKp ["hand", "word"] (spLKp K)) (kLKp : PySem.W.keepIn K (.ref fLKp) = true) (bLKp : Binds K fdLKp ["hand", "word"] []) (gLKp : mg "_law_kind_price" = some (.ref fLKp)) {fLTi : Addr} {fdLTi : FuncData} (GLTi : FnOk P w K mg base CX0 2 fLTi fdLTi ["hand", "book", "cells", "many"] spLTi) (kLTi : PySem.W.keepIn K (.ref fLTi) = true) (bLTi : Binds K fdLTi ["hand", "book", "cells", "many"] []) (gLTi : mg "_law_ties" = some (.ref fLTi)) {fLB : Addr} {fdLB : FuncData} (GLB : FnOk P w K mg base CX0 5 fLB fdLB ["book"] (spLB C CB)) (kLB : PySem.W.keepIn K (.ref fLB) = true) (bLB : Binds K fdLB ["book"] []) (gLB : mg "_law_made_book" = some (.ref fLB)) (MP : Mk K CP fPZI) (GPZI : FnOk P w K mg base CX0 5 fPZI fdPZI ["self", "book", "cell_count", "ties"] (spPZI C CB CP)) (bPZI : Binds K fdPZI ["self", "book", "cell_count", "ties"] [])
    {fLSt : Addr} {fdLSt : FuncData} (GLSt : FnOk P w K mg base CX0 2 fLSt fdLSt ["hand", "cells", "share"] spLSt) (kLSt : PySem.W.keepIn K (.ref fLSt) = true) (bLSt : Binds K fdLSt ["hand", "cells", "share"] []) (gLSt : mg "_law_start" = some (.ref fLSt)) {fLFr : Addr} {fdLFr : FuncData} (GLFr : FnOk P w K mg base CX0 2 fLFr fdLFr ["hand", "cells", "start", "many"] (spLFr K)) (kLFr : PySem.W.keepIn K (.ref fLFr) = true) (bLFr : Binds K fdLFr ["hand", "cells", "start", "many"] []) (gLFr : mg "_law_free" = some (.ref fLFr)) {fLTs : Addr} {fdLTs : FuncData} (GLTs : FnOk P w K mg base CX0 4 fLTs fdLTs ["book", "cells", "ties", "start"] (spLTs K)) (kLTs : PySem.W.keepIn K (.ref fLTs) = true) (bLTs : Binds K fdLTs ["book", "cells", "ties", "start"] []) (gLTs : mg "_law_totals" = some (.ref fLTs)) {fLIs : Addr} {fdLIs : FuncData} (GLIs : FnOk P w K mg base CX0 2 fLIs fdLIs ["price", "word"] (spLIs K)) (kLIs : PySem.W.keepIn K (.ref fLIs) = true) (bLIs : Binds K fdLIs ["price", "word"] []) (gLIs : mg "_law_is" = some (.ref fLIs)) {fPlace : Addr} {fdPlace : FuncData} (GPlace : FnOk P w K mg base CX0 1 fPlace fdPlace ["row"] (spRNL K)) (kPlace : PySem.W.keepIn K (.ref fPlace) = true) (bPlace : Binds K fdPlace ["row"] []) (gPlace : mg "_law_at" = some (.ref fPlace)) (GPlaceT : FnOk P w K mg base CX0 1 fPlace fdPlace ["row"] (spRN K))
    {fWrP : Addr} {fdWrP : FuncData} (GWrP : FnOk P w K mg base (L2.CX P w) 8 fWrP fdWrP ["puzzle", "cells", "start"] (spWrP K C CB CP CT CX)) (kWrP : PySem.W.keepIn K (.ref fWrP) = true) (bWrP : Binds K fdWrP ["puzzle", "cells", "start"] []) (gWrP : mg "written_price" = some (.ref fWrP)) : FnG P w K mg base CX0 10 f fd ["script"] (spLaw K) := by
  refine okG F scLaw (fun vs H Q E h => ?_) (fun cdv A outer s H vs Q E hr gd h => ?_)
  · obtain ⟨a, ns, rfl, _⟩ := h
    rfl
  · obtain ⟨a, ns, rfl, hS, hlen, q⟩ := h
    refine ⟨_, (pss_cons (ps_set (i := 1) scLaw.nd rfl (.inr rfl) (pe_lst (pa_cons (pe_call GDraws (hr.mono (by decide)) (by rfl) gDraws kDraws bDraws .nil pass0 (pa_cons (pv 0) (pa_cons pe_int pa_nil))) (pa_cons pe_int pa_nil))))
      (pss_cons (ps_set (i := 2) scLaw.nd rfl (.inr rfl) (pe_ix ix_list (pe_lst (pa_cons pe_str (pa_cons pe_str (pa_cons pe_str (pa_cons pe_str (pa_cons pe_str pa_nil)))))) (pe_call GTake (hr.mono (by decide)) (by rfl) gTake kTake bTake .nil pass0 (pa_cons (pv 1) (pa_cons pe_int pa_nil))) (fun _ _ => rfl)))
      (pss_cons (ps_setLc (i := 3) (own := [("k", 16)]) (g := gName 16) (tt := tYes) rfl scLaw.nd rfl rfl (sw_true rfl rfl rfl (by decide +kernel)) (pi_range1 rfl B.range (pa_cons (pe_op op_add pe_int (pe_call GTake (hr.mono (by decide)) (by rfl) gTake kTake bTake .nil pass0 (pa_cons (pv 1) (pa_cons pe_int pa_nil)))) pa_nil)) (blkOk_by (N := NLaw) (sc := defScope sLaw) (by decide +kernel)) (fun _ _ _ _ _ => pg_name (i := 16) scLaw.nd rfl (Or.inl rfl)) (fun _ _ _ _ _ => pts_nil) (fun _ _ _ _ _ => (pe_call GLKp (hr.mono (by decide)) (by rfl) gLKp kLKp bLKp .nil pass0 (pa_cons (pv 1) (pa_cons (pv 2) pa_nil)))))
      (pss_cons (ps_set (i := 4) scLaw.nd rfl (.inl rfl) (pe_op op_add pe_int (pe_call GTake (hr.mono (by decide)) (by rfl) gTake kTake bTake .nil pass0 (pa_cons (pv 1) (pa_cons pe_int pa_nil)))))
      (pss_cons (ps_set (i := 5) scLaw.nd rfl (.inl rfl) (pe_call GLTi (hr.mono (by decide)) (by rfl) gLTi kLTi bLTi .nil pass0 (pa_cons (pv 1) (pa_cons (pv 3) (pa_cons (pv 4) (pa_cons (pe_op op_add pe_int (pe_call GTake (hr.mono (by decide)) (by rfl) gTake kTake bTake .nil pass0 (pa_cons (pv 1) (pa_cons pe_int pa_nil)))) pa_nil))))))
      (pss_cons (ps_set (i := 6) scLaw.nd rfl (.inl rfl) (pe_make MP GPZI (hr.mono (by decide)) (by rfl) TP.g bPZI .nil pass0 (pa_cons (pe_call GLB (hr.mono (by decide)) (by rfl) gLB kLB bLB .nil pass0 (pa_cons (pv 3) pa_nil)) (pa_cons (pv 4) (pa_cons (pv 5) pa_nil)))))
      (pss_cons (ps_set (i := 7) scLaw.nd rfl (.inl rfl) (pe_tupF pa_nil))
      (pss_cons (ps_if (PW.pt (pw_and (pt_cmpR (op_notin_seqk K rfl) (pv 2) (pe_lst (pa_cons pe_str (pa_cons pe_str pa_nil))) (by with_unfolding_all rfl)) (pw_and1 (pt_cmpR op_gt (pe_call GTake (hr.mono (by decide)) (by rfl) gTake kTake bTake .nil pass0 (pa_cons (pv 1) (pa_cons pe_int pa_nil))) pe_int (nomark _)))))
      (pss_one (ps_set (i := 7) scLaw.nd rfl (.inl rfl) (pe_call GLSt (hr.mono (by decide)) (by rfl) gLSt kLSt bLSt .nil pass0 (pa_cons (pv 1) (pa_cons (pv 4) (pa_cons pe_int pa_nil)))))) pss_nil)
      (pss_cons (ps_set (i := 8) scLaw.nd rfl (.inl rfl) (pe_call GLFr (hr.mono (by decide)) (by rfl) gLFr kLFr bLFr .nil pass0 (pa_cons (pv 1) (pa_cons (pv 4) (pa_cons (pv 7) (pa_cons (pe_op op_add pe_int (pe_call GTake (hr.mono (by decide)) (by rfl) gTake kTake bTake .nil pass0 (pa_cons (pv 1) (pa_cons pe_int pa_nil)))) pa_nil))))))
      (pss_cons (ps_if (pt_cmpR op_eq (pe_callB call_len_seq (by rfl) B.len PySem.boot_len (pa_cons (pv 8) pa_nil)) pe_int (nomark _))
      (pss_cons (ps_set (i := 7) scLaw.nd rfl (.inl rfl) (pe_slice sl_tupF (pv 7) (po_some pe_int) po_none))
      (pss_one (ps_set (i := 8) scLaw.nd rfl (.inl rfl) (pe_call GLFr (hr.mono (by decide)) (by rfl) gLFr kLFr bLFr .nil pass0 (pa_cons (pv 1) (pa_cons (pv 4) (pa_cons (pv 7) (pa_cons pe_int pa_nil)))))))) pss_nil)
      (pss_cons (ps_set (i := 9) scLaw.nd rfl (.inl rfl) (pe_call GWrP (hr.mono (by decide)) (by rfl) gWrP kWrP bWrP .nil passE0 (pa_cons (pv 6) (pa_cons (pv 8) (pa_cons (pv 7) pa_nil)))))
      (pss_cons (ps_if (PW.pt (pw_or (pt_not (pt_val (pe_callB call_isi (by rfl) B.isinstance (by decide +kernel) (pa_cons (pv 9) (pa_cons (pe_glob (v := .ref C) (by rfl) T.g rfl) pa_nil))))) (pw_or (pt_cmpR op_ne (pe_fld (pv 9) rfl) (pe_callB call_len_seq (by rfl) B.len PySem.boot_len (pa_cons (pv 8) pa_nil)) (nomark _)) (pw_or1 (pt_not (pt_val (pe_call GLIs (hr.mono (by decide)) (by rfl) gLIs kLIs bLIs .nil pass0 (pa_cons (pe_tup (pa_cons (pe_fld (pv 9) rfl) (pa_cons (pe_fld (pv 9) rfl) pa_nil))) (pa_cons (pv 2) pa_nil)))))))))
      (pss_one (ps_ret pe_bl)) pss_nil)
      (pss_cons (ps_set (i := 11) scLaw.nd rfl (.inl rfl) (pe_callTy call_tuple_of (by rfl) B.tuple (by decide +kernel) (pa_cons (pe_lc (own := [("cell", 10)]) (g := gName 10) (tt := tYes) rfl scLaw.nd (pi_tup (pv 8)) (blkOk_by (N := NLaw) (sc := defScope sLaw) (by decide +kernel)) (fun _ _ _ _ _ => pg_name (i := 10) scLaw.nd rfl (Or.inl rfl)) (fun _ _ _ _ _ => pts_nil) (fun _ _ _ _ _ => (pe_call GTake (hr.mono (by decide)) (by rfl) gTake kTake bTake .nil pass0 (pa_cons (pv 1) (pa_cons pe_int pa_nil))))) pa_nil)))
      (pss_cons (ps_set (i := 12) scLaw.nd rfl (.inr rfl) (pe_callTy (call_dictKF rfl) (by rfl) B.dict (by decide +kernel) (pa_cons (pv 7) pa_nil)))
      (pss_cons (ps_for PassesOwn.never rfl (RZ.pi_zipA (by rfl) B.zip (pa_cons (pv 8) (pa_cons (pv 11) pa_nil))) (pg_tup (by rfl) (pgs_cons (pg_name (i := 10) scLaw.nd rfl (.inl rfl)) (pgs_cons (pg_name (i := 13) scLaw.nd rfl (.inl rfl)) pgs_nil)))
      (pss_one (ps_dput (ru1 hr) (pv 12) (pv 10) (pv 13) rfl)))
      (pss_cons (ps_set (i := 14) scLaw.nd rfl (.inl rfl) (pe_callTy call_tuple_of (by rfl) B.tuple (by decide +kernel) (pa_cons (pe_lc (own := [("cell", 10)]) (g := gName 10) rfl scLaw.nd (pi_range1 rfl B.range (pa_cons (pv 4) pa_nil)) (blkOk_by (N := NLaw) (sc := defScope sLaw) (by decide +kernel)) (fun _ _ _ _ _ => pg_name (i := 10) scLaw.nd rfl (Or.inl rfl)) (fun _ _ _ _ _ => pts_one (pt_cmp (pc_din (ru1 hr) (pv 10) (pv 12)))) (fun _ _ _ _ _ => (pe_tup (pa_cons (pv 10) (pa_cons (pe_dget (ru1 hr) (pv 12) (pv 10) (fun _ _ => rfl)) pa_nil))))) pa_nil)))
      (pss_cons (ps_set (i := 15) scLaw.nd rfl (.inl rfl) (pe_callB (cr_min rfl) (by rfl) B.min (by decide +kernel) (pa_cons (pe_lc (own := [("filling", 17), ("total", 18)]) (tt := tYes) rfl scLaw.nd (pi_list (pe_call GLTs (hr.mono (by decide)) (by rfl) gLTs kLTs bLTs .nil pass0 (pa_cons (pv 3) (pa_cons (pv 4) (pa_cons (pv 5) (pa_cons (pv 14) pa_nil)))))) (blkOk_by (N := NLaw) (sc := defScope sLaw) (by decide +kernel)) (fun _ _ _ _ _ => (pg_tupk (n := 2) K rfl rfl (pgs_cons (pg_name (i := 17) scLaw.nd rfl (Or.inl rfl)) (pgs_cons (pg_name (i := 18) scLaw.nd rfl (Or.inl rfl)) pgs_nil)))) (fun _ _ _ _ _ => pts_nil) (fun _ _ _ _ _ => (pe_callTy call_int1 (by rfl) B.int (by decide +kernel) (pa_cons (pv 18) pa_nil)))) pa_nil)))
      (pss_one (ps_ret (pe_cmpR op_eq (pe_callB (call_reprA gd hr.units) (by rfl) B.repr (by decide +kernel) (pa_cons (pe_ix ix_tup (pe_fld (pv 9) rfl) (pe_call GPlaceT (hr.mono (by decide)) (by rfl) gPlace kPlace bPlace .nil pass0 (pa_cons (pv 11) pa_nil)) (fun _ _ => rfl)) pa_nil)) (pe_callB (call_reprA gd hr.units) (by rfl) B.repr (by decide +kernel) (pa_cons (pv 15) pa_nil)) (nomark _))))))))))))))))))))), ?_⟩
    -- hand
    refine q_seq (q_set ?_)
    refine ⟨.ref a, rfl, a, ns, 260, rfl, hS, by omega, by decide, fun H1 dr ds s1 np1 hp1 hl1 h01 => ⟨by show 2 ≤ sizeLine; decide, fun h nL => ?_⟩⟩
    have hd1 : Hdd (upd H1 h (.lst [.ref dr, .int 0])) h dr := ⟨ds, 0, upd_same, by rw [upd_ne (ne_of_none hp1 nL)]; exact hp1, ne_of_none hp1 nL, h01⟩
    generalize upd H1 h (.lst [.ref dr, .int 0]) = H2 at hd1 ⊢
    try dsimp only
    -- word
    refine q_seq (q_set ?_)
    refine ⟨by show 5 ≤ sizeLine; decide, fun X nX => ?_⟩
    have sX := same_upd (o := .lst [V.str "all no", .str "all yes", .str "bent", .str "rising", .str "falling"]) nX
    have nXh := hd1.ne nX
    refine ⟨.ref h, rfl, h, dr, 5, rfl, hd1.same sX, by decide, fun r0 H3 a0 a1 e3 hd3 => ?_⟩
    obtain ⟨wd, j0, ej0, hj0, mw⟩ : ∃ (wd : Str) (j : Nat), r0 = (j : Int) ∧ [V.str "all no", .str "all yes", .str "bent", .str "rising", .str "falling"][j]? = some (.str wd) ∧ wd ∈ kindsW := by
      rcases (show r0 = 0 ∨ r0 = 1 ∨ r0 = 2 ∨ r0 = 3 ∨ r0 = 4 by omega) with rfl | rfl | rfl | rfl | rfl
      · exact ⟨_, 0, rfl, rfl, by simp [kindsW]⟩
      · exact ⟨_, 1, rfl, rfl, by simp [kindsW]⟩
      · exact ⟨_, 2, rfl, rfl, by simp [kindsW]⟩
      · exact ⟨_, 3, rfl, rfl, by simp [kindsW]⟩
      · exact ⟨_, 4, rfl, rfl, by simp [kindsW]⟩
    have hX3 := (e3 X nXh).trans (upd_same (H := H2) (o := .lst [V.str "all no", .str "all yes", .str "bent", .str "rising", .str "falling"]))
    refine ⟨X, _, _, _, rfl, rfl, sl hX3, at_z (j := j0) ej0 hj0, ?_⟩
    clear hX3 nXh sX nX e3 hd1 ej0 hj0
    try dsimp only
    -- book
    refine q_seq (q_set ?_)
    refine ⟨.ref h, rfl, h, dr, 3, rfl, hd3, by decide, fun r H4 r0 r1 e4 hd4 => ?_⟩
    obtain ⟨m, rfl⟩ : ∃ k : Nat, r = (k : Int) := ⟨r.toNat, by omega⟩
    refine ⟨_, _, rfl, rfl, ((1 + m : Nat) : Int), by show [V.int (1 + (m : Int))] = [V.int ((1 + m : Nat) : Int)]; rw [Int.natCast_add]; rfl, by omega, by omega, fun L nL => ?_⟩
    refine lc_range (lo := 0) (n := 1 + m) (fun j H8 => Hdd H8 h dr ∧ (∀ c o, c ≠ h → H4 c = some o → H8 c = some o) ∧ ∃ (ps : List Addr) (bks : List Pd), H8 L = some (.lst (ps.map V.ref)) ∧ LPs H8 ps bks ∧ bks.length = j ∧ ∀ z ∈ bks, KdR wd z.1 (costL z.2)) ⟨hd4.same (same_upd nL), Kp.of (same_upd nL), [], [], upd_same, .nil, rfl, fun _ m => nomatch m⟩ (fun j H8 hj hQ => ?_) (fun H5 hQ => ?_)
    · obtain ⟨hd8, kp8, ps, bks, hD, lps, lb, kds⟩ := hQ
      refine ⟨rfl, .ref h, rfl, .str wd, rfl, h, dr, wd, rfl, hd8, mw, fun p z H9 kp9 hd9 lp kd => ?_⟩
      have hD9 := kp9 L _ (hd4.ne nL) hD
      have lenp := paired_len lps
      refine ⟨_, hD9, by rw [List.length_map]; exact small1000 (by omega), hd9.upd (hd4.ne nL) (hd4.ned nL), fun b o nb e => ?_, ps ++ [p], bks ++ [z], by rw [upd_same, List.map_append]; rfl, LPs.updL hD9 (paired_app (LPs.kp hd8 kp9 lps) (.cons lp .nil)), by rw [List.length_append, lb]; rfl, fun y my => ?_⟩
      · rw [upd_ne (ne_of_none e nL)]
        exact kp9 b o nb (kp8 b o nb e)
      · rcases List.mem_append.mp my with m | m
        · exact kds y m
        · rw [List.mem_singleton.mp m]
          exact kd
    obtain ⟨hd5, _, ps, bks, hL, lps, lb, kds⟩ := hQ
    have b1 : 1 ≤ bks.length := by omega
    have b3 : bks.length ≤ 3 := by omega
    clear hd4 hd3 e4 nL
    have hbd := lps_bd lps
    have hz : ∀ z ∈ bks, Bd (-1000000000) 1000000000 z.2 := fun z m => (hbd z m).2.2.2
    try dsimp only
    -- cells
    refine q_seq (q_set ?_)
    refine ⟨.ref h, rfl, h, dr, 6, rfl, hd5, by decide, fun rc H6 c0 c1 e6 hd6 => ⟨_, _, rfl, rfl, ?_⟩⟩
    have kp6 := Kp.eq e6
    obtain ⟨n, en, n3, n8⟩ : ∃ k : Nat, 3 + rc = (k : Int) ∧ 3 ≤ k ∧ k ≤ 8 := ⟨(3 + rc).toNat, by omega, by omega, by omega⟩
    try dsimp only
    rw [en]
    have hL6 := kp6 _ _ (hd5.ns hL (ref_hand (h := h))) hL
    have lps6 := LPs.kp hd5 kp6 lps
    clear hL lps e6 hd5 kp6
    -- ties
    refine q_seq (q_set ?_)
    refine ⟨.ref h, rfl, .ref L, rfl, .int n, rfl, .ref h, rfl, h, dr, 6, rfl, hd6, by decide, fun rm H7 m0 m1 e7 hd7 => ⟨_, _, rfl, rfl, ?_⟩⟩
    obtain ⟨m', em, m6⟩ : ∃ k : Nat, 1 + rm = (k : Int) ∧ k ≤ 6 := ⟨(1 + rm).toNat, by omega, by omega⟩
    have kp7 := Kp.eq e7
    have hL7 := kp7 _ _ (hd6.ns hL6 (ref_hand (h := h))) hL6
    have lps7 := LPs.kp hd6 kp7 lps6
    refine ⟨h, dr, L, ps, bks, n, m', by dsimp only; rw [em]; rfl, hd7, hL7, lps7, b1, by omega, by omega, fun t as ts H8 kp8 hd8 ht ti tb lm => ?_⟩
    have l6 : ts.length ≤ 6 := by omega
    have hL8 := kp8 _ _ (hd7.ns hL7 (ref_hand (h := h))) hL7
    have lps8 := LPs.kp hd7 kp8 lps7
    have ok5 : ∀ x ∈ ts, tieOk bks n x := fun x m => (tb x m).1
    have t64 : ∀ x ∈ ts, x.2.2 < 2 ^ 64 := fun x m => by have := (tb x m).2; omega
    clear hL6 lps6 hd6 kp7 hd7 hL7 lps7 e7
    try dsimp only
    -- puzzle
    refine q_seq (q_set ?_)
    refine ⟨.ref L, rfl, L, ps, bks, rfl, hL8, lps8, b1, by omega, fun H9 b s9 bk => ⟨.int n, rfl, .ref t, rfl, fun z dx nz ndx ez => ?_⟩⟩
    have m6 := made_am (C := CP) nz ndx
    refine ⟨z, dx, b, t, as, bks, n, ts, rfl, upd_same, bk.same m6, .inl (m6 _ _ (s9 _ _ ht)), (ti.same s9).same m6, ok5, by omega, fun HA kk pz => ⟨rfl, ?_⟩⟩
    have s8A : Same H8 HA := s9.trans (made_same nz ndx kk)
    have X0 : Lx C CB CP h dr L t z ps as bks n ts HA := ⟨hd8.same s8A, s8A _ _ hL8, LPs.same s8A lps8, .inl (s8A _ _ ht), ti.same s8A, pz⟩
    clear hL8 lps8 hd8 ht ti s8A m6 s9 kk bk pz kp8
    try dsimp only
    -- start
    refine q_seq (q_set ?_)
    refine ⟨Nat.zero_le _, fun s0 o0 od0 ns0 => ?_⟩
    have ss0 := same_upd (o := .frz o0 (.tup [])) ns0
    have hs0 : (upd HA s0 (.frz o0 (.tup []))) s0 = some (.frz o0 (.tup [])) := upd_same
    have X1 := X0.same ss0
    generalize upd HA s0 (.frz o0 (.tup [])) = HB at hs0 X1 ⊢
    clear X0 ss0
    have so0 : stOk n [] := ⟨(fun _ m => nomatch m), rfl⟩
    try dsimp only
    refine q_seqJ (fun σ G => ∃ (sA : Addr) (oS : Obj) (sps : List Addr) (st : Stt), σ = [some (.ref a), some (.ref h), some (.str wd), some (.ref L), some (.int n), some (.ref t), some (.ref z), some (.ref sA), none, none, none, none, none, none, none, none, none, none, none] ∧ Lx C CB CP h dr L t z ps as bks n ts G ∧ oS.dict = none ∧ G sA = some (.frz oS (.tup (sps.map V.ref))) ∧ PrsT G sps st ∧ stOk n st ∧ st.length ≤ n ∧ (wd = "all no" ∨ wd = "all yes" → st = [])) (fun σ' HC hJ => ?_) (fun key => ?_)
    rotate_left
    · refine q_if ?_
      refine ⟨.str wd, rfl, by show 2 ≤ sizeLine; decide, fun X nX => ?_⟩
      have sX := same_upd (o := .lst [V.str "all no", .str "all yes"]) nX
      have X2 := X1.same sX
      have hs1 := sX _ _ hs0
      refine ⟨X, _, rfl, .inl (sl upd_same), rfl, rfl, _, rfl, ?_⟩
      rw [if_pos rfl, inW mw]
      by_cases c : wd = "all no" ∨ wd = "all yes"
      · rw [decide_eq_true c]
        try dsimp only
        rw [if_neg (by decide), if_neg (by decide)]
        refine q_next ?_
        exact key _ _ ⟨s0, o0, [], [], rfl, X2, od0, hs1, .nil, so0, Nat.zero_le _, fun _ => rfl⟩
      · rw [decide_eq_false c]
        try dsimp only
        rw [if_pos (by decide)]
        refine ⟨.ref h, rfl, h, dr, 3, rfl, X2.hd, by decide, fun r HD r0 r1 eD hdD => ⟨_, _, rfl, rfl, _, rfl, ?_⟩⟩
        have X3 := X2.go (Kp.eq eD) hdD
        refine ite2 (fun c2 => ?_) (fun c2 => ?_)
        · refine q_set ?_
          refine ⟨.ref h, rfl, .int n, rfl, h, dr, n, 3, rfl, X3.hd, by omega, by decide, by decide, fun sA sps st HE kpE hdE hsA pt so ls => ?_⟩
          obtain ⟨oS, odS, hsA⟩ := hsA
          exact key _ _ ⟨sA, oS, sps, st, rfl, X3.go kpE hdE, odS, hsA, pt, so, ls, fun z => absurd z c⟩
        · refine q_next ?_
          exact key _ _ ⟨s0, o0, [], [], rfl, X3, od0, (Kp.eq eD) _ _ (X2.hd.ns hs1 (fun _ _ z => by cases z)) hs1, .nil, so0, Nat.zero_le _, fun _ => rfl⟩
    obtain ⟨sA, oS, sps, st, rfl, X2, odS, hsA, pt, so, ls, wst⟩ := hJ
    clear X1 hs0
    -- places
    refine q_seq (q_set ?_)
    refine ⟨.ref h, rfl, .int n, rfl, .ref sA, rfl, .ref h, rfl, h, dr, 3, rfl, X2.hd, by decide, fun rk HE k0 k1 eE hdE => ⟨_, _, rfl, rfl, ?_⟩⟩
    obtain ⟨k, ek, k1', k3⟩ : ∃ k : Nat, 1 + rk = (k : Int) ∧ 1 ≤ k ∧ k ≤ 3 := ⟨(1 + rk).toNat, by omega, by omega, by omega⟩
    have X3 := X2.go (Kp.eq eE) hdE
    have hsA3 := (Kp.eq eE) _ _ (X2.hd.ns hsA (fun _ _ z => by cases z)) hsA
    have pt3 := pt.kp X2.hd (Kp.eq eE)
    refine ⟨h, dr, sA, oS, sps, n, k, st, by dsimp only; rw [ek]; rfl, X3.hd, odS, hsA3, pt3, by omega, by omega, by omega, fun t1 cs HF kpF hdF ht1 nd cf lc => ?_⟩
    have X4 := X3.go kpF hdF
    have hsA4 := kpF _ _ (X3.hd.ns hsA3 (fun _ _ z => by cases z)) hsA3
    have pt4 := pt3.kp X3.hd kpF
    clear X2 X3 hsA hsA3 pt pt3 kpF hdF hdE eE
    try dsimp only
    refine q_seqJ (fun σ H' => ∃ (sA t1 : Addr) (oS : Obj) (sps : List Addr) (st : Stt) (cs : List Int), σ = [some (.ref a), some (.ref h), some (.str wd), some (.ref L), some (.int n), some (.ref t), some (.ref z), some (.ref sA), some (.ref t1), none, none, none, none, none, none, none, none, none, none] ∧ Lx C CB CP h dr L t z ps as bks n ts H' ∧ Ms n sA t1 oS sps st cs H' ∧ (wd = "all no" ∨ wd = "all yes" → st = [])) (fun σ' H' hJ => ?_) (fun key => ?_)
    rotate_left
    · refine q_if ?_
      refine ⟨.ref t1, rfl, t1, _, rfl, .inr (tl ht1), rfl, _, rfl, ?_⟩
      rw [List.length_map]
      refine ite2 (fun c0 => ?_) (fun c0 => ?_)
      · have l0 : cs.length = 0 := by have := V.int.inj (of_decide_eq_true c0); omega
        have lf0 : (freeL n st).length = 0 := by rw [List.length_map] at lc; omega
        cases st with
        | nil =>
          exfalso
          have : 0 ∈ freeL n [] := free_mem.mpr ⟨by omega, rfl⟩
          have := List.length_pos_of_mem this
          omega
        | cons c st' =>
        cases pt4 with
        | cons hp pt5 =>
        rename_i p0 sps'
        obtain ⟨so', fx'⟩ := rise_tail so
        refine q_seq (q_set ?_)
        refine ⟨.ref sA, rfl, 1, rfl, ?_⟩
        dsimp only [tNoPart]
        refine ⟨sA, _, rfl, .inl (.inr ⟨oS, hsA4⟩), fun zz => ?_, fun _ p o odp np => ?_⟩
        · exfalso
          have z1 := zz.1
          rw [show (1 : Int) = ((1 : Nat) : Int) from rfl, HT.sIx_nat, List.length_map, List.length_cons] at z1
          omega
        rw [show cutV ((p0 :: sps').map V.ref) (some 1) none = sps'.map V.ref from cut_from (j := 1) (by rw [List.length_map, List.length_cons]; omega)]
        have sP := same_upd (o := .frz o (.tup (sps'.map V.ref))) np
        have hP : (upd HF p (.frz o (.tup (sps'.map V.ref)))) p = some (.frz o (.tup (sps'.map V.ref))) := upd_same
        have X5 := X4.same sP
        have pt6 : PrsT _ sps' st' := PrsT.same sP pt5
        generalize upd HF p (.frz o (.tup (sps'.map V.ref))) = HG at sP hP X5 pt6 ⊢
        have ls' : st'.length ≤ n := by rw [List.length_cons] at ls; omega
        try dsimp only
        refine q_set ?_
        refine ⟨.ref h, rfl, .int n, rfl, .ref p, rfl, h, dr, p, o, sps', n, 1, st', rfl, X5.hd, odp, hP, pt6, by omega, by omega, by omega, fun t2 cs2 HI kpI hdI ht2 nd2 cf2 lc2 => ?_⟩
        have cz := so.1 c List.mem_cons_self
        have mem : c.1 ∈ freeI n st' := List.mem_map.mpr ⟨c.1.toNat, free_mem.mpr ⟨by omega, by rw [Int.toNat_of_nonneg cz.1.1]; exact fx'⟩, Int.toNat_of_nonneg cz.1.1⟩
        have lp := List.length_pos_of_mem mem
        exact key _ _ ⟨p, t2, o, sps', st', cs2, rfl, X5.go kpI hdI, ⟨odp, kpI _ _ (X5.hd.ns hP (fun _ _ z => by cases z)) hP, pt6.kp X5.hd kpI, so', ls', ht2, nd2, cf2, by omega, by omega⟩, fun z => nomatch wst z⟩
      · have l0 : 1 ≤ cs.length := by
          rcases Nat.eq_zero_or_pos cs.length with z | z
          · exact absurd (decide_eq_true (show V.int ((cs.length : Nat) : Int) = V.int 0 by rw [z]; rfl)) c0
          · exact z
        refine q_next ?_
        exact key _ _ ⟨sA, t1, oS, sps, st, cs, rfl, X4, ⟨odS, hsA4, pt4, so, ls, ht1, nd, cf, l0, by omega⟩, wst⟩
    clear X4 hsA4 pt4 so ls odS ht1 nd cf lc wst
    obtain ⟨sA, t1, oS, sps, st, cs, rfl, X1, M1, wst⟩ := hJ
    -- price
    refine q_seq (q_set ?_)
    have cz := cells_yes M1.c1 M1.c3 M1.cf M1.nd
    refine ⟨.ref z, rfl, .ref t1, rfl, .ref sA, rfl, z, bks, n, ts, fun _ => True, fun _ => True, .ref t1, .ref sA, .tuple (cs.map .int), encSt st, rfl, X1.pz, by omega, by omega, t64, .tup (.inl M1.ht) ints_dv, fun ds e => by cases e; rw [List.length_map]; have := M1.c3; omega, .inl (st_dv (.inr ⟨oS, M1.hs⟩) M1.pt), fun ds e => by cases e; rw [List.length_map]; have := M1.ls; omega, fun e => by rw [start_good M1.so] at e; (cases e), fun st2 e so2 => ?_⟩
    obtain rfl := encSt_inj e
    refine ⟨fun e => by rw [cz] at e; (cases e), fun cs2 e2 _ HH x ms sH pr wi => ?_⟩
    obtain rfl : cs = cs2 := by
      have y := congrArg (List.map intOf) (PyData.tuple.inj e2)
      rw [int_of, int_of] at y
      exact y
    have X2 := X1.same sH
    have M2 := M1.same sH
    have kd := wr_kd M1.so M1.c3 M1.nd M1.cf wst (tot_kd kds ok5) wi
    clear X1 M1 e so2 e2
    obtain ⟨dx1, tt1, hx1, htt1, p1, p3, lms⟩ := id pr
    try dsimp only
    refine q_seq (q_if ?_)
    refine ⟨.ref x, rfl, .ref x, .ref C, _, _, true, rfl, .own C, .base (ty_pr T eC pr), kit_self, true, rfl, ?_⟩
    dsimp only
    rw [if_neg (by decide)]
    refine ⟨.ref x, rfl, x, C, dx1, _, _, rfl, hx1, T.cl, T.nS, pf_size _ _, .ref t1, rfl, t1, _, rfl, .inr (tl M2.ht), rfl, _, rfl, ?_⟩
    rw [List.length_map, decide_eq_true rfl]
    dsimp only
    rw [if_neg (by decide)]
    refine ⟨.ref x, rfl, x, C, dx1, _, _, rfl, hx1, T.cl, T.nS, pf_size _ _, .ref x, rfl, x, C, dx1, _, _, rfl, hx1, T.cl, T.nA, pf_am _ _, by show 2 ≤ sizeLine; decide, fun p np => ?_⟩
    have sP := same_upd (o := .tup [V.int cs.length, .ref tt1]) np
    refine ⟨.str wd, rfl, p, tt1, cs.length, wd, ms, rfl, upd_same, sP _ _ htt1, mw, p1, p3, lms, kd, fun H3 s3 => ⟨true, rfl, ?_⟩⟩
    dsimp only
    rw [if_neg (by decide)]
    refine q_next ?_
    have s23 := sP.trans s3
    have X3 := X2.same s23
    have M3 := M2.same s23
    have hx3 := s23 _ _ hx1
    have htt3 := s23 _ _ htt1
    clear X2 M2 hx1 htt1 sP s3 s23 pr np
    try dsimp only
    -- row
    refine q_seq (q_set ?_)
    have lcs : (cs.map V.int).length = cs.length := List.length_map ..
    have c3 := M3.c3
    refine ⟨.ref t1, rfl, t1, rfl, ⟨_, tl M3.ht⟩, fun D nD => lc_tup (K := K) (a := t1) (xs := cs.map V.int) (fun i G => Kp h H3 G ∧ Hdd G h dr ∧ ∃ v : List Int, G D = some (.lst (v.map V.int)) ∧ v.length = i ∧ Bits v) ⟨Kp.of (same_upd nD), X3.hd.same (same_upd nD), [], upd_same, rfl, fun _ m => nomatch m⟩ (fun i G _ hP => ?_) (fun i x G hx hP => ?_) (fun H4 hP => ?_)⟩
    · exact tl (hP.1 _ _ (X3.hd.ns M3.ht (fun _ _ z => by cases z)) M3.ht)
    · obtain ⟨kp', hd', v, hD, lv, bv⟩ := hP
      have nDh := X3.hd.ne nD
      have nDd := X3.hd.ned nD
      have il := (List.getElem?_eq_some_iff.mp hx).1
      obtain ⟨cx, rfl, _⟩ := int_at hx
      refine ⟨rfl, .ref h, rfl, h, dr, 2, rfl, hd', by decide, fun r G2 r0 r1 e2 hd2 => ?_⟩
      have k2 := Kp.eq e2
      have hD2 := k2 _ _ nDh hD
      refine ⟨_, hD2, by rw [List.length_map]; exact small1000 (by omega), fun c o nc e => ?_, hd2.upd nDh nDd, v ++ [r], by rw [upd_same, List.map_append]; rfl, by rw [List.length_append, lv]; rfl, fun y my => ?_⟩
      · rw [upd_ne (ne_of_none e nD)]
        exact (kp'.trans k2) c o nc e
      · rcases List.mem_append.mp my with m | m
        · exact bv y m
        · rw [List.mem_singleton.mp m]
          omega
    obtain ⟨kp4, hd4, v, hD, lv, bv⟩ := hP
    rw [lcs] at lv
    refine ⟨D, _, rfl, .inl ⟨sl hD, fun l nl => ?_⟩⟩
    have sL := same_upd (o := .tup (v.map V.int)) nl
    have hl : (upd H4 l (.tup (v.map V.int))) l = some (.tup (v.map V.int)) := upd_same
    have X4 := (X3.go kp4 hd4).same sL
    have M4 := (M3.go X3.hd kp4).same sL
    have hx4 := sL _ _ (kp4 _ _ (X3.hd.ns hx3 (fun _ _ z => by cases z)) hx3)
    have htt4 := sL _ _ (kp4 _ _ (X3.hd.ns htt3 (fun _ _ z => by cases z)) htt3)
    generalize upd H4 l (.tup (v.map V.int)) = H5 at hl X4 M4 hx4 htt4 ⊢
    clear X3 M3 hx3 htt3 hD sL kp4 hd4 nD
    try dsimp only
    -- told
    refine q_seq (q_set ?_)
    refine ⟨.ref sA, rfl, sA, oS, sps, _, rfl, M4.od, M4.hs, start_key M4.pt, fun F nF => ?_⟩
    have sF := same_upd (o := .dK (mergeK [] (st.map fun p => ((Sum.inl p.1 : L2.Key), V.int p.2)))) nF
    have fx : FiAt (upd H5 F (.dK (mergeK [] (st.map fun p => ((Sum.inl p.1 : L2.Key), V.int p.2))))) F (fixV st) 100 := by
      refine ⟨_, upd_same, ?_, fun c => fix_merge c st [] none rfl⟩
      have := length_mergeK (st.map fun p => ((Sum.inl p.1 : L2.Key), V.int p.2)) []
      rw [List.length_nil, Nat.zero_add, List.length_map] at this
      have := M4.ls
      omega
    have X5 := X4.same sF
    have M5 := M4.same sF
    have hx5 := sF _ _ hx4
    have htt5 := sF _ _ htt4
    have hl5 := sF _ _ hl
    generalize upd H5 F (.dK (mergeK [] (st.map fun p => ((Sum.inl p.1 : L2.Key), V.int p.2)))) = H6 at fx X5 M5 hx5 htt5 hl5 sF ⊢
    try dsimp only
    refine q_seq ?_
    have fnd : ∀ {a : Addr} {o : HO}, H6 a = some o → (∀ kvs, o ≠ .dK kvs) → a ≠ F := fun e n z => by
      obtain ⟨kvs, h1, _⟩ := fx
      rw [z, h1] at e
      exact n kvs (Option.some.inj e).symm
    refine ⟨.ref t1, rfl, .ref l, rfl, t1, l, cs.map V.int, v.map V.int, rfl, .inr ⟨tl M5.ht, tl hl5, RZ.for_zipT (K := K) (a := t1) (b := l) (xs := cs.map V.int) (ys := v.map V.int) (by rw [lcs, List.length_map, lv]) (fun i σ G => (∀ c o, c ≠ F → H6 c = some o → G c = some o) ∧ FiAt G F (fun c => if c ∈ cs.take i then some (v.getD (cs.idxOf c) 0) else fixV st c) (100 + i) ∧ ∃ x10 x13 : Option V, σ = [some (.ref a), some (.ref h), some (.str wd), some (.ref L), some (.int n), some (.ref t), some (.ref z), some (.ref sA), some (.ref t1), some (.ref x), x10, some (.ref l), some (.ref F), x13, none, none, none, none, none]) ⟨fun _ _ _ e => e, fx, none, none, rfl⟩ (fun i σ G hP => ⟨tl (hP.1 _ _ (fnd M5.ht (fun _ z => by cases z)) M5.ht), tl (hP.1 _ _ (fnd hl5 (fun _ z => by cases z)) hl5)⟩) (fun i x y T σ G hx hy hP nT => ?_) (fun σ G hP => ?_)⟩⟩
    · obtain ⟨kG, fG, x10, x13, rfl⟩ := hP
      obtain ⟨c, rfl, hc⟩ := int_at hx
      obtain ⟨vi, rfl, hv⟩ := int_at hy
      have sT := same_upd (o := .tup [V.int c, .int vi]) nT
      have fT := fG.same sT
      refine ⟨T, _, rfl, tl upd_same, rfl, _, _, rfl, _, _, rfl, rfl, ?_⟩
      have il : i < cs.length := (List.getElem?_eq_some_iff.mp hc).1
      obtain ⟨HP, dp, kp, fP⟩ := fT.put (c := c) (v := vi) (by omega)
      refine ⟨.int vi, rfl, .ref F, rfl, .int c, rfl, F, HP, rfl, dp, fun a o na e => kp a o na (sT _ _ (kG a o na e)), ?_, _, _, rfl⟩
      have ef : (fun u => if u = c then some vi else if u ∈ cs.take i then some (v.getD (cs.idxOf u) 0) else fixV st u) = fun u => if u ∈ cs.take (i + 1) then some (v.getD (cs.idxOf u) 0) else fixV st u := by
        funext u
        have et : cs.take (i + 1) = cs.take i ++ [c] := by rw [List.take_add_one, hc]; rfl
        rw [et]
        by_cases z : u = c
        · subst z
          have ei : cs.idxOf u = i := by
            have := List.Nodup.idxOf_getElem M5.nd i il
            rw [(List.getElem?_eq_some_iff.mp hc).2] at this
            exact this
          rw [if_pos rfl, if_pos (List.mem_append_right _ (List.mem_singleton.mpr rfl)), ei, List.getD_eq_getElem?_getD, hv]
          rfl
        · rw [if_neg z]
          by_cases mm : u ∈ cs.take i
          · rw [if_pos mm, if_pos (List.mem_append_left _ mm)]
          · rw [if_neg mm, if_neg (fun y => (List.mem_append.mp y).elim mm (fun y => z (List.mem_singleton.mp y)))]
      rw [← ef]
      exact fP
    obtain ⟨kG, fG, x10, x13, rfl⟩ := hP
    rw [lcs, List.take_length] at fG
    have fW : FiAt G F (wthF st cs v) (100 + cs.length) := fG
    have gof : ∀ {a : Addr} {o : HO}, H6 a = some o → (∀ kvs, o ≠ .dK kvs) → G a = some o := fun e n => kG _ _ (fnd e n) e
    have s5G : Same H5 G := fun c o e => kG c o (ne_of_none e nF) (sF c o e)
    have X6 := X4.same s5G
    have M6 := M4.same s5G
    clear X4 M4 hx4 htt4 hl sF nF
    have hx6 := gof hx5 (fun _ z => by cases z)
    have htt6 := gof htt5 (fun _ z => by cases z)
    have hl6 := gof hl5 (fun _ z => by cases z)
    clear X5 M5 hx5 htt5 hl5 fx fG kG fnd gof
    try dsimp only
    -- most
    refine q_seq (q_set ?_)
    refine ⟨.int n, rfl, (n : Int), rfl, by omega, by omega, fun D nD => lc_range (lo := 0) (n := n) (fun i G2 => Same G G2 ∧ ∃ mps : List Addr, G2 D = some (.lst (mps.map V.ref)) ∧ PrsT G2 mps (stF i (wthF st cs v))) ⟨same_upd nD, [], upd_same, .nil⟩ (fun i G2 hi hP => ?_) (fun G2 hP => ?_)⟩
    · obtain ⟨s', mps, hD, mpt⟩ := hP
      have f2 := fW.same s'
      have lps := paired_len mpt
      have ll := stF_len (n := i) (f := wthF st cs v)
      have en := stF_next (n := i) (f := wthF st cs v)
      refine ⟨rfl, .int (0 + (i : Int)), rfl, .ref F, rfl, F, _, rfl, f2.get _, _, rfl, ?_⟩
      rw [Int.zero_add]
      cases e : wthF st cs v (i : Int) with
      | none =>
        rw [e] at en
        have en : stF (i + 1) (wthF st cs v) = stF i (wthF st cs v) := by rw [en]; exact List.append_nil _
        show Same G G2 ∧ _
        rw [en]
        exact ⟨s', mps, hD, mpt⟩
      | some y =>
        rw [e] at en
        refine ⟨.int (i : Int), rfl, .ref F, rfl, .int (i : Int), rfl, F, .int y, rfl, ?_, by show 2 ≤ sizeLine; decide, fun p np => ?_⟩
        · have g := f2.get (i : Int)
          rw [e] at g
          exact g
        · have sp := same_upd (o := .tup [V.int i, .int y]) np
          have hD2 := sp _ _ hD
          refine ⟨_, hD2, by rw [List.length_map]; exact small1000 (by omega), fun c o e => ?_, mps ++ [p], by rw [upd_same, List.map_append]; rfl, ?_⟩
          · rw [upd_ne (ne_of_none e nD)]
            exact sp _ _ (s' _ _ e)
          · rw [en]
            exact PrsT.updL hD2 (paired_app (mpt.same sp) (.cons (.inl upd_same) .nil))
    obtain ⟨s7, mps, hD, mpt⟩ := hP
    refine ⟨D, _, rfl, .inl ⟨sl hD, fun mt nmt => ?_⟩⟩
    have sM := same_upd (o := .tup (mps.map V.ref)) nmt
    have hmt : (upd G2 mt (.tup (mps.map V.ref))) mt = some (.tup (mps.map V.ref)) := upd_same
    have X7 := (X6.same s7).same sM
    have M7 := (M6.same s7).same sM
    have hx7 := sM _ _ (s7 _ _ hx6)
    have htt7 := sM _ _ (s7 _ _ htt6)
    have hl7 := sM _ _ (s7 _ _ hl6)
    have mpt7 := mpt.same sM
    generalize upd G2 mt (.tup (mps.map V.ref)) = G3 at hmt X7 M7 hx7 htt7 hl7 mpt7 ⊢
    clear X6 M6 hx6 htt6 hl6 fW mpt sM s7 hD nD
    have bv2 : ∀ c y, wthF st cs v c = some y → y = 0 ∨ y = 1 := fun c y e => by
      unfold wthF at e
      split at e
      · rw [← Option.some.inj e]
        exact bitR_get bv _
      · exact (M7.so.1 _ (fix_mem e)).2
    have so2 := stF_ok (n := n) bv2
    have ll := stF_len (n := n) (f := wthF st cs v)
    try dsimp only
    -- due
    refine q_seq (q_set ?_)
    refine ⟨.ref L, rfl, .int n, rfl, .ref t, rfl, .ref mt, rfl, L, t, .ref mt, ps, as, bks, ts, n, _, rfl, X7.hL, X7.lps, n8, X7.ht, X7.ti, tb, ⟨mt, mps, rfl, tl hmt, mpt7⟩, so2, by omega, fun HG FT es sG hFT ta => ?_⟩
    have lta := paired_len ta
    have lrow : ((rowsOf n).filter (keepsM (stF n (wthF st cs v)))).length ≤ 256 := by
      have := List.length_filter_le (keepsM (stF n (wthF st cs v))) (rowsOf n)
      have := rows32 (n := n) n8
      omega
    generalize er : (rowsOf n).filter (keepsM (stF n (wthF st cs v))) = rws at ta lta lrow
    refine ⟨FT, rfl, ⟨_, sl hFT⟩, fun D2 nD2 => lc_list (K := K) (a := FT) (xs := es.map V.ref) (fun i G4 => Same HG G4 ∧ G4 D2 = some (.lst (((rws.take i).map (totM bks ts)).map V.int))) ⟨same_upd nD2, upd_same⟩ (fun i G4 _ hP => sl (hP.1 _ _ hFT)) (fun i y G4 hy hP => ?_) (fun G4 hP => ?_)⟩
    · obtain ⟨s', hD⟩ := hP
      have kl : i < rws.length := by
        have := (List.getElem?_eq_some_iff.mp hy).1
        rw [List.length_map, lta] at this
        exact this
      obtain ⟨p, hp, rr, hp1, hp2⟩ := paired_get (ta.same s') (List.getElem?_eq_getElem kl)
      rw [List.getElem?_map, hp] at hy
      obtain rfl : y = .ref p := (Option.some.inj hy).symm
      have hlk : rws[i]? = some rws[i] := List.getElem?_eq_getElem kl
      generalize rws[i] = bs at hp1 hp2 hlk
      refine ⟨p, _, rfl, tl hp1, rfl, _, _, rfl, _, _, rfl, rfl, ?_⟩
      refine ⟨rfl, .int _, rfl, .inl ⟨_, rfl, _, hD, ?_, fun b o e => ?_, ?_⟩⟩
      · rw [List.length_map, List.length_map, List.length_take]
        exact small1000 (by omega)
      · rw [upd_ne (ne_of_none e nD2)]
        exact s' _ _ e
      · rw [upd_same, List.take_add_one, hlk, List.map_append, List.map_append]
        rfl
    obtain ⟨s9, hD⟩ := hP
    rw [List.length_map, lta, List.take_length] at hD
    have lv3 : v ∈ rowsOf cs.length := rows_mem2 bv lv
    have mem : ∀ {bs : List Int}, bs ∈ rws ↔ bs ∈ rowsOf n ∧ keepsM st bs = true ∧ prjT cs bs = v := fun {bs} => by
      rw [← er, List.mem_filter, wth_keeps M7.so M7.nd M7.cf lv]
    have pos : 0 < rws.length := by
      obtain ⟨bs, q1, q2, q3⟩ := some_row M7.so M7.cf M7.nd lv3
      exact List.length_pos_of_mem (mem.mpr ⟨q1, q2, q3⟩)
    refine ⟨D2, _, rfl, sl hD, by rw [List.length_map]; exact pos, fun m mm ml => ?_⟩
    have X8 := (X7.same sG).same s9
    have hx8 := s9 _ _ (sG _ _ hx7)
    have htt8 := s9 _ _ (sG _ _ htt7)
    have hl8 := s9 _ _ (sG _ _ hl7)
    have em : costL ms v = m := by
      refine (wr_at c3 wi lv3).eq ⟨?_, fun y hy => ?_⟩
      · obtain ⟨bs, mb, rfl⟩ := List.mem_map.mp mm
        obtain ⟨q1, q2, q3⟩ := mem.mp mb
        exact ⟨bs, q1, q2, q3, rfl⟩
      · obtain ⟨bs, q1, q2, q3, rfl⟩ := hy
        exact ml _ (List.mem_map.mpr ⟨bs, mem.mpr ⟨q1, q2, q3⟩, rfl⟩)
    have okm : Okd (.int m) := by
      obtain ⟨bs, mb, rfl⟩ := List.mem_map.mp mm
      obtain ⟨b1, b2⟩ := tot_bd (n := n) (r := bs) hz tb
      exact (Sm.intW (by omega)).okd (by decide) (by decide)
    try dsimp only
    refine q_ret ?_
    obtain ⟨nv, gv⟩ := cost_at bv lv c3 lms
    refine ⟨.ref x, rfl, x, C, dx1, _, _, rfl, hx8, T.cl, T.nA, pf_am _ _, .ref l, rfl, l, v, rfl, tl hl8, tt1, _, num v, .int (costL ms v), rfl, rfl, tl htt8, at_z (j := (num v).toNat) nv gv, _, .int (costL ms v), rfl, .int _, by rw [em]; exact okm, .int m, rfl, _, .int m, rfl, .int _, okm, rfl, ?_⟩
    rw [em, decide_eq_true rfl]
    exact q _
end
end CP

namespace CC
open PySem PySem.Spec PyProof.Rows L2 Ek CS CP
abbrev VE : List Value := [.type "ValueError", .type "Exception", .type "BaseException", .type "object"]
section
variable {K : PySem.W.Frag} {C pe : Addr} {nm q : Str} {N : Addr} {bs : List Value} {sn : List Str} {su : List Value} {ab : Bool} {co : Option Bool} {dd : Option Addr} {k0 k1 k2 k3 k5 : Option Value}
theorem cls_of (h : K.lookup C = some (excClassObj nm q C N bs (.ref pe :: VE) true sn su ab co dd k0 k1 k2 k3 k5 "ValueError.__new__")) : PySem.W.clsIn K C = some { name := nm, bases := bs, mro := .ref C :: .ref pe :: VE, ns := N, qualname := q, hasDict := true, slotNames := sn, subclasses := su, abstract := ab, collection := co, hasDel := false } := by
  unfold PySem.W.clsIn
  rw [h] <;> rfl
theorem mro_of (h : K.lookup C = some (excClassObj nm q C N bs (.ref pe :: VE) true sn su ab co dd k0 k1 k2 k3 k5 "ValueError.__new__")) (b : Value) : PySem.W.mroIn K C b = some ((.ref C :: .ref pe :: VE : List Value).contains b) := by
  unfold PySem.W.mroIn
  rw [cls_of h] <;> rfl
theorem exc_of (h : K.lookup C = some (excClassObj nm q C N bs (.ref pe :: VE) true sn su ab co dd k0 k1 k2 k3 k5 "ValueError.__new__")) : PySem.W.subIn K (.ref C) (.type "BaseException") = some true := by
  show PySem.W.mroIn K C _ = _
  rw [mro_of h]
  rfl
theorem hd_of (h : K.lookup C = some (excClassObj nm q C N bs (.ref pe :: VE) true sn su ab co dd k0 k1 k2 k3 k5 "ValueError.__new__")) : PySem.W.hasDictIn K C = true := by
  unfold PySem.W.hasDictIn
  rw [cls_of h] <;> rfl
theorem kit_pe (h : K.lookup C = some (excClassObj nm q C N bs (.ref pe :: VE) true sn su ab co dd k0 k1 k2 k3 k5 "ValueError.__new__")) (hD : (PySem.W.clsIn K pe).isSome = true) (tD : PySem.W.typeIn K (.ref pe) = some (.type "type")) (e : C ≠ pe) : PySem.W.kitOne K (.ref C) (.ref pe) = some true := by
  unfold PySem.W.kitOne
  rw [if_neg (by simpa using e)]
  show (if ((PySem.W.clsIn K pe).isSome && PySem.W.typeIn K (.ref pe) == some (.type "type")) = true then PySem.W.subIn K (.ref C) (.ref pe) else none) = _
  rw [if_pos (by rw [hD, tD]; rfl)]
  show PySem.W.mroIn K C _ = _
  rw [mro_of h]
  simp [List.contains_cons]
/-- an error's class is named by its own clause -/
theorem exm_own (h : K.lookup C = some (excClassObj nm q C N bs (.ref pe :: VE) true sn su ab co dd k0 k1 k2 k3 k5 "ValueError.__new__")) (ty : PySem.W.typeIn K (.ref C) = some (.type "type")) : PySem.W.exmOne K (.ref C) (.ref C) = some true := by
  have a := exc_of h
  have b : PySem.W.subIn K (.ref C) (.ref C) = some true := by
    show PySem.W.mroIn K C _ = _
    rw [mro_of h]
    simp [List.contains_cons]
  have c : (PySem.W.clsIn K C).isSome = true := by
    rw [cls_of h]
    rfl
  unfold PySem.W.exmOne
  simp [a, b, c, ty, PySem.W.kitCls]
theorem exm_not {D : Addr} (h : K.lookup C = some (excClassObj nm q C N bs (.ref pe :: VE) true sn su ab co dd k0 k1 k2 k3 k5 "ValueError.__new__")) (c : (PySem.W.clsIn K D).isSome = true) (ty : PySem.W.typeIn K (.ref D) = some (.type "type")) (ne : C ≠ D) (np : D ≠ pe) (sD : PySem.W.subIn K (.ref D) (.type "BaseException") = some true) : PySem.W.exmOne K (.ref C) (.ref D) = some false := by
  have a := exc_of h
  have b : PySem.W.subIn K (.ref C) (.ref D) = some false := by
    show PySem.W.mroIn K C _ = _
    rw [mro_of h]
    simp [List.contains_cons, np, Ne.symm ne, ne]
  unfold PySem.W.exmOne
  simp [a, b, c, ty, sD, PySem.W.kitCls]
end
theorem all_mk {l : PySem.W.OpenLaw} {w : World} {K : PySem.W.Frag} {h : Heap} {mg : Str → Option Value} {fa pe CT CX C CB CP   fXSt fXCe fPI fPC fBI fBL fII fINu fIB fIV fIS fIQ fIR fRO fRN fAA fAR fITi fFNT fIPa fISt fFrC fSFr fAT fWAt fSOP fLLe fSmO fWrs fArC fWrP fDraws fTake fEvery fPlace fAm3 fLTi fLB fLTo fLKe fLTs fLSt fLFr fLIs fLBn fLKp fLaw : Addr} (X : K.In h) (G : h.Ns mainGlobals mg) (hfa : mg "law" = some (.ref fa))
    {nmCT qCT : Str} {NCT : Addr} {bsCT : List Value} {snCT : List Str} {suCT : List Value} {abCT : Bool} {coCT : Option Bool} {ddCT : Option Addr} {kaCT kbCT kcCT kdCT keCT : Option Value}
    {odXSt anXSt : Option Addr} {slXSt : Array (Option Value)} {ocXSt kVXSt dcXSt pmXSt cdXSt ctXSt : Value}
    {nmCX qCX : Str} {NCX : Addr} {bsCX : List Value} {snCX : List Str} {suCX : List Value} {abCX : Bool} {coCX : Option Bool} {ddCX : Option Addr} {kaCX kbCX kcCX kdCX keCX : Option Value}
    {odXCe anXCe : Option Addr} {slXCe : Array (Option Value)} {ocXCe kVXCe dcXCe pmXCe cdXCe ctXCe : Value}
    {odPI anPI : Option Addr} {slPI : Array (Option Value)} {ocPI kVPI dcPI pmPI cdPI ctPI : Value}
    {odPC anPC : Option Addr} {slPC : Array (Option Value)} {ocPC kVPC dcPC pmPC cdPC ctPC : Value}
    {odBI anBI : Option Addr} {slBI : Array (Option Value)} {ocBI kVBI dcBI pmBI cdBI ctBI : Value}
    {odBL anBL : Option Addr} {slBL : Array (Option Value)} {ocBL kVBL dcBL pmBL cdBL ctBL : Value}
    {odPZI anPZI : Option Addr} {slPZI : Array (Option Value)} {ocPZI kVPZI dcPZI pmPZI cdPZI ctPZI : Value}
    {odII anII : Option Addr} {slII : Array (Option Value)} {ocII kVII dcII pmII cdII ctII : Value}
    {odINu anINu : Option Addr} {slINu : Array (Option Value)} {ocINu kVINu dcINu pmINu cdINu ctINu : Value}
    {odIB anIB : Option Addr} {slIB : Array (Option Value)} {ocIB kVIB dcIB pmIB cdIB ctIB : Value}
    {odIV anIV : Option Addr} {slIV : Array (Option Value)} {ocIV kVIV dcIV pmIV cdIV ctIV : Value}
    {odIS anIS : Option Addr} {slIS : Array (Option Value)} {ocIS kVIS dcIS pmIS cdIS ctIS : Value}
    {odIQ anIQ : Option Addr} {slIQ : Array (Option Value)} {ocIQ kVIQ dcIQ pmIQ cdIQ ctIQ : Value}
    {odIR anIR : Option Addr} {slIR : Array (Option Value)} {ocIR kVIR dcIR pmIR cdIR ctIR : Value}
    {odRO anRO : Option Addr} {slRO : Array (Option Value)} {ocRO kVRO dcRO pmRO cdRO ctRO : Value}
    {odRN anRN : Option Addr} {slRN : Array (Option Value)} {ocRN kVRN dcRN pmRN cdRN ctRN : Value}
    {odAA anAA : Option Addr} {slAA : Array (Option Value)} {ocAA kVAA dcAA pmAA cdAA ctAA : Value}
    {odAR anAR : Option Addr} {slAR : Array (Option Value)} {ocAR kVAR dcAR pmAR cdAR ctAR : Value}
    {odITi anITi : Option Addr} {slITi : Array (Option Value)} {ocITi kVITi dcITi pmITi cdITi ctITi : Value}
    {odFNT anFNT : Option Addr} {slFNT : Array (Option Value)} {ocFNT kVFNT dcFNT pmFNT cdFNT ctFNT : Value}
    {odIPa anIPa : Option Addr} {slIPa : Array (Option Value)} {ocIPa kVIPa dcIPa pmIPa cdIPa ctIPa : Value}
    {odISt anISt : Option Addr} {slISt : Array (Option Value)} {ocISt kVISt dcISt pmISt cdISt ctISt : Value}
    {odFrC anFrC : Option Addr} {slFrC : Array (Option Value)} {ocFrC kVFrC dcFrC pmFrC cdFrC ctFrC : Value}
    {odSFr anSFr : Option Addr} {slSFr : Array (Option Value)} {ocSFr kVSFr dcSFr pmSFr cdSFr ctSFr : Value}
    {odAT anAT : Option Addr} {slAT : Array (Option Value)} {ocAT kVAT dcAT pmAT cdAT ctAT : Value}
    {odWAt anWAt : Option Addr} {slWAt : Array (Option Value)} {ocWAt kVWAt dcWAt pmWAt cdWAt ctWAt : Value}
    {odSOP anSOP : Option Addr} {slSOP : Array (Option Value)} {ocSOP kVSOP dcSOP pmSOP cdSOP ctSOP : Value}
    {odLLe anLLe : Option Addr} {slLLe : Array (Option Value)} {ocLLe kVLLe dcLLe pmLLe cdLLe ctLLe : Value}
    {odSmO anSmO ddTSmO ddESmO : Option Addr} {slSmO ssTSmO ssESmO : Array (Option Value)} {dTSmO aESmO : Addr} {nTSmO nESmO : Nat} {ocSmO kVSmO dcSmO pmSmO cdSmO ctSmO : Value}
    {odWrs anWrs : Option Addr} {slWrs : Array (Option Value)} {ocWrs kVWrs dcWrs pmWrs cdWrs ctWrs : Value}
    {odArC anArC : Option Addr} {slArC : Array (Option Value)} {ocArC kVArC dcArC pmArC cdArC ctArC : Value}
    {odWrP anWrP ddTWrP ddEWrP : Option Addr} {slWrP ssTWrP ssEWrP : Array (Option Value)} {dTWrP aEWrP : Addr} {nTWrP nEWrP : Nat} {ocWrP kVWrP dcWrP pmWrP cdWrP ctWrP : Value}
    {odDraws anDraws : Option Addr} {slDraws : Array (Option Value)} {ocDraws kVDraws dcDraws pmDraws cdDraws ctDraws : Value}
    {odTake anTake : Option Addr} {slTake : Array (Option Value)} {ocTake kVTake dcTake pmTake cdTake ctTake : Value}
    {odEvery anEvery : Option Addr} {slEvery : Array (Option Value)} {ocEvery kVEvery dcEvery pmEvery cdEvery ctEvery : Value}
    {odPlace anPlace : Option Addr} {slPlace : Array (Option Value)} {ocPlace kVPlace dcPlace pmPlace cdPlace ctPlace : Value}
    {odAm3 anAm3 : Option Addr} {slAm3 : Array (Option Value)} {ocAm3 kVAm3 dcAm3 pmAm3 cdAm3 ctAm3 : Value}
    {odLTi anLTi : Option Addr} {slLTi : Array (Option Value)} {ocLTi kVLTi dcLTi pmLTi cdLTi ctLTi : Value}
    {odLB anLB : Option Addr} {slLB : Array (Option Value)} {ocLB kVLB dcLB pmLB cdLB ctLB : Value}
    {odLTo anLTo : Option Addr} {slLTo : Array (Option Value)} {ocLTo kVLTo dcLTo pmLTo cdLTo ctLTo : Value}
    {odLKe anLKe : Option Addr} {slLKe : Array (Option Value)} {ocLKe kVLKe dcLKe pmLKe cdLKe ctLKe : Value}
    {odLTs anLTs : Option Addr} {slLTs : Array (Option Value)} {ocLTs kVLTs dcLTs pmLTs cdLTs ctLTs : Value}
    {odLSt anLSt : Option Addr} {slLSt : Array (Option Value)} {ocLSt kVLSt dcLSt pmLSt cdLSt ctLSt : Value}
    {odLFr anLFr : Option Addr} {slLFr : Array (Option Value)} {ocLFr kVLFr dcLFr pmLFr cdLFr ctLFr : Value}
    {odLIs anLIs : Option Addr} {slLIs : Array (Option Value)} {ocLIs kVLIs dcLIs pmLIs cdLIs ctLIs : Value}
    {odLBn anLBn : Option Addr} {slLBn : Array (Option Value)} {ocLBn kVLBn dcLBn pmLBn cdLBn ctLBn : Value}
    {odLKp anLKp : Option Addr} {slLKp : Array (Option Value)} {ocLKp kVLKp dcLKp pmLKp cdLKp ctLKp : Value}
    {odLaw anLaw : Option Addr} {slLaw : Array (Option Value)} {ocLaw kVLaw dcLaw pmLaw cdLaw ctLaw : Value}
    {tkMC : Tok}
    (aCT : PySem.W.nsIn K mainGlobals "InvalidStart" = some (some (.ref CT)))
    (xLCT : K.lookup CT = some (excClassObj nmCT qCT CT NCT bsCT (.ref pe :: VE) true snCT suCT abCT coCT ddCT kaCT kbCT kcCT kdCT keCT "ValueError.__new__"))
    (saCT : PySem.W.findIn K (.ref CT) "__setattr__" = some (some (.builtin "object.__setattr__")))
    (gaCT : PySem.W.findIn K (.ref CT) "__getattribute__" = some (some (.builtin "BaseException.__getattribute__")))
    (ggCT : PySem.W.findIn K (.ref CT) "__getattr__" = some none)
    (caCT : PySem.W.findIn K (.ref CT) "__class__" = some (some (.builtin "object.__class__")))
    (tyCT : PySem.W.typeIn K (.ref CT) = some (.type "type"))
    (kpCT : PySem.W.keepIn K (.ref CT) = true)
    (noCT : PySem.W.findIn K (.ref CT) "value" = some none)
    (inCT : PySem.W.findIn K (.ref CT) "__init__" = some (some (.ref fXSt)))
    (itCT : PySem.W.typeIn K (.ref fXSt) = some (.type "function"))
    (lXSt : K.lookup fXSt = some ⟨ocXSt, odXSt, .func (PySem.W.fnOf "__init__" "InvalidStart.__init__" (defArgs sXSt) (defBody sXSt) (defScope sXSt) .none kVXSt dcXSt pmXSt anXSt cdXSt ctXSt), slXSt⟩)
    (cXSt : PySem.W.codeIn K cdXSt "InvalidStart.__init__" = true)
    (kkXSt : PySem.W.keepIn K (.ref fXSt) = true)
    (aCX : PySem.W.nsIn K mainGlobals "InvalidCells" = some (some (.ref CX)))
    (xLCX : K.lookup CX = some (excClassObj nmCX qCX CX NCX bsCX (.ref pe :: VE) true snCX suCX abCX coCX ddCX kaCX kbCX kcCX kdCX keCX "ValueError.__new__"))
    (saCX : PySem.W.findIn K (.ref CX) "__setattr__" = some (some (.builtin "object.__setattr__")))
    (gaCX : PySem.W.findIn K (.ref CX) "__getattribute__" = some (some (.builtin "BaseException.__getattribute__")))
    (ggCX : PySem.W.findIn K (.ref CX) "__getattr__" = some none)
    (caCX : PySem.W.findIn K (.ref CX) "__class__" = some (some (.builtin "object.__class__")))
    (tyCX : PySem.W.typeIn K (.ref CX) = some (.type "type"))
    (kpCX : PySem.W.keepIn K (.ref CX) = true)
    (noCX : PySem.W.findIn K (.ref CX) "value" = some none)
    (inCX : PySem.W.findIn K (.ref CX) "__init__" = some (some (.ref fXCe)))
    (itCX : PySem.W.typeIn K (.ref fXCe) = some (.type "function"))
    (lXCe : K.lookup fXCe = some ⟨ocXCe, odXCe, .func (PySem.W.fnOf "__init__" "InvalidCells.__init__" (defArgs sXCe) (defBody sXCe) (defScope sXCe) .none kVXCe dcXCe pmXCe anXCe cdXCe ctXCe), slXCe⟩)
    (cXCe : PySem.W.codeIn K cdXCe "InvalidCells.__init__" = true)
    (kkXCe : PySem.W.keepIn K (.ref fXCe) = true)
    (aCl : PySem.W.nsIn K mainGlobals "Price" = some (some (.ref C)))
    (pgC : PySem.W.plainGet K C Str.empty = true)
    (hdC : PySem.W.hasDictIn K C = true)
    (poC : PySem.W.plainOver K C = true)
    (saC : PySem.W.findIn K (.ref C) "__setattr__" = some (some (.builtin "object.__setattr__")))
    (mkC : PySem.W.makesIn K C = true)
    (kpC : PySem.W.keepIn K (.ref C) = true)
    (nSC : PySem.W.findIn K (.ref C) "size" = some none)
    (nAC : PySem.W.findIn K (.ref C) "amounts" = some none)
    (aCBl : PySem.W.nsIn K mainGlobals "Book" = some (some (.ref CB)))
    (pgCB : PySem.W.plainGet K CB Str.empty = true)
    (hdCB : PySem.W.hasDictIn K CB = true)
    (poCB : PySem.W.plainOver K CB = true)
    (saCB : PySem.W.findIn K (.ref CB) "__setattr__" = some (some (.builtin "object.__setattr__")))
    (mkCB : PySem.W.makesIn K CB = true)
    (kpCB : PySem.W.keepIn K (.ref CB) = true)
    (nPCB : PySem.W.findIn K (.ref CB) "prices" = some none)
    (aCPl : PySem.W.nsIn K mainGlobals "Puzzle" = some (some (.ref CP)))
    (pgCP : PySem.W.plainGet K CP Str.empty = true)
    (hdCP : PySem.W.hasDictIn K CP = true)
    (poCP : PySem.W.plainOver K CP = true)
    (saCP : PySem.W.findIn K (.ref CP) "__setattr__" = some (some (.builtin "object.__setattr__")))
    (mkCP : PySem.W.makesIn K CP = true)
    (kpCP : PySem.W.keepIn K (.ref CP) = true)
    (nBCP : PySem.W.findIn K (.ref CP) "book" = some none)
    (nCCP : PySem.W.findIn K (.ref CP) "cell_count" = some none)
    (nTCP : PySem.W.findIn K (.ref CP) "ties" = some none)
    (caCB : PySem.W.findIn K (.ref CB) "__class__" = some (some (.builtin "object.__class__")))
    (moCB : PySem.W.mroIn K CB (.type "object") = some true)
    (ktCB : PySem.W.kitOne K (.type "tuple") (.ref CB) = some false)
    (caC : PySem.W.findIn K (.ref C) "__class__" = some (some (.builtin "object.__class__")))
    (moC : PySem.W.mroIn K C (.type "object") = some true)
    (ktC : PySem.W.kitOne K (.type "tuple") (.ref C) = some false)
    (inPI : PySem.W.findIn K (.ref C) "__init__" = some (some (.ref fPI)))
    (fnPI : PySem.W.isFn K (.ref fPI) = true)
    (lPI : K.lookup fPI = some ⟨ocPI, odPI, .func (PySem.W.fnOf "__init__" "Price.__init__" (defArgs sPI) (defBody sPI) (defScope sPI) .none kVPI dcPI pmPI anPI cdPI ctPI), slPI⟩)
    (cPI : PySem.W.codeIn K cdPI "Price.__init__" = true)
    (kkPI : PySem.W.keepIn K (.ref fPI) = true)
    (inPC : PySem.W.findIn K (.ref C) "cost" = some (some (.ref fPC)))
    (fnPC : PySem.W.isFn K (.ref fPC) = true)
    (lPC : K.lookup fPC = some ⟨ocPC, odPC, .func (PySem.W.fnOf "cost" "Price.cost" (defArgs sPC) (defBody sPC) (defScope sPC) .none kVPC dcPC pmPC anPC cdPC ctPC), slPC⟩)
    (cPC : PySem.W.codeIn K cdPC "Price.cost" = true)
    (kkPC : PySem.W.keepIn K (.ref fPC) = true)
    (inBI : PySem.W.findIn K (.ref CB) "__init__" = some (some (.ref fBI)))
    (fnBI : PySem.W.isFn K (.ref fBI) = true)
    (lBI : K.lookup fBI = some ⟨ocBI, odBI, .func (PySem.W.fnOf "__init__" "Book.__init__" (defArgs sBI) (defBody sBI) (defScope sBI) .none kVBI dcBI pmBI anBI cdBI ctBI), slBI⟩)
    (cBI : PySem.W.codeIn K cdBI "Book.__init__" = true)
    (kkBI : PySem.W.keepIn K (.ref fBI) = true)
    (inBL : PySem.W.findIn K (.ref CB) "__len__" = some (some (.ref fBL)))
    (fnBL : PySem.W.isFn K (.ref fBL) = true)
    (lBL : K.lookup fBL = some ⟨ocBL, odBL, .func (PySem.W.fnOf "__len__" "Book.__len__" (defArgs sBL) (defBody sBL) (defScope sBL) .none kVBL dcBL pmBL anBL cdBL ctBL), slBL⟩)
    (cBL : PySem.W.codeIn K cdBL "Book.__len__" = true)
    (kkBL : PySem.W.keepIn K (.ref fBL) = true)
    (inPZI : PySem.W.findIn K (.ref CP) "__init__" = some (some (.ref fPZI)))
    (fnPZI : PySem.W.isFn K (.ref fPZI) = true)
    (lPZI : K.lookup fPZI = some ⟨ocPZI, odPZI, .func (PySem.W.fnOf "__init__" "Puzzle.__init__" (defArgs sPZI) (defBody sPZI) (defScope sPZI) .none kVPZI dcPZI pmPZI anPZI cdPZI ctPZI), slPZI⟩)
    (cPZI : PySem.W.codeIn K cdPZI "Puzzle.__init__" = true)
    (kkPZI : PySem.W.keepIn K (.ref fPZI) = true)
    (aII : PySem.W.nsIn K mainGlobals "is_integer" = some (some (.ref fII)))
    (lII : K.lookup fII = some ⟨ocII, odII, .func (PySem.W.fnOf "is_integer" "is_integer" (defArgs sII) (defBody sII) (defScope sII) .none kVII dcII pmII anII cdII ctII), slII⟩)
    (cII : PySem.W.codeIn K cdII "is_integer" = true)
    (kkII : PySem.W.keepIn K (.ref fII) = true)
    (aINu : PySem.W.nsIn K mainGlobals "is_number" = some (some (.ref fINu)))
    (lINu : K.lookup fINu = some ⟨ocINu, odINu, .func (PySem.W.fnOf "is_number" "is_number" (defArgs sINu) (defBody sINu) (defScope sINu) .none kVINu dcINu pmINu anINu cdINu ctINu), slINu⟩)
    (cINu : PySem.W.codeIn K cdINu "is_number" = true)
    (kkINu : PySem.W.keepIn K (.ref fINu) = true)
    (aIB : PySem.W.nsIn K mainGlobals "is_number_below" = some (some (.ref fIB)))
    (lIB : K.lookup fIB = some ⟨ocIB, odIB, .func (PySem.W.fnOf "is_number_below" "is_number_below" (defArgs sIB) (defBody sIB) (defScope sIB) .none kVIB dcIB pmIB anIB cdIB ctIB), slIB⟩)
    (cIB : PySem.W.codeIn K cdIB "is_number_below" = true)
    (kkIB : PySem.W.keepIn K (.ref fIB) = true)
    (aIV : PySem.W.nsIn K mainGlobals "is_value" = some (some (.ref fIV)))
    (lIV : K.lookup fIV = some ⟨ocIV, odIV, .func (PySem.W.fnOf "is_value" "is_value" (defArgs sIV) (defBody sIV) (defScope sIV) .none kVIV dcIV pmIV anIV cdIV ctIV), slIV⟩)
    (cIV : PySem.W.codeIn K cdIV "is_value" = true)
    (kkIV : PySem.W.keepIn K (.ref fIV) = true)
    (aIS : PySem.W.nsIn K mainGlobals "is_size" = some (some (.ref fIS)))
    (lIS : K.lookup fIS = some ⟨ocIS, odIS, .func (PySem.W.fnOf "is_size" "is_size" (defArgs sIS) (defBody sIS) (defScope sIS) .none kVIS dcIS pmIS anIS cdIS ctIS), slIS⟩)
    (cIS : PySem.W.codeIn K cdIS "is_size" = true)
    (kkIS : PySem.W.keepIn K (.ref fIS) = true)
    (aIQ : PySem.W.nsIn K mainGlobals "is_sequence" = some (some (.ref fIQ)))
    (lIQ : K.lookup fIQ = some ⟨ocIQ, odIQ, .func (PySem.W.fnOf "is_sequence" "is_sequence" (defArgs sIQ) (defBody sIQ) (defScope sIQ) .none kVIQ dcIQ pmIQ anIQ cdIQ ctIQ), slIQ⟩)
    (cIQ : PySem.W.codeIn K cdIQ "is_sequence" = true)
    (kkIQ : PySem.W.keepIn K (.ref fIQ) = true)
    (aIR : PySem.W.nsIn K mainGlobals "is_row" = some (some (.ref fIR)))
    (lIR : K.lookup fIR = some ⟨ocIR, odIR, .func (PySem.W.fnOf "is_row" "is_row" (defArgs sIR) (defBody sIR) (defScope sIR) .none kVIR dcIR pmIR anIR cdIR ctIR), slIR⟩)
    (cIR : PySem.W.codeIn K cdIR "is_row" = true)
    (kkIR : PySem.W.keepIn K (.ref fIR) = true)
    (aRO : PySem.W.nsIn K mainGlobals "rows_of" = some (some (.ref fRO)))
    (lRO : K.lookup fRO = some ⟨ocRO, odRO, .func (PySem.W.fnOf "rows_of" "rows_of" (defArgs sRO) (defBody sRO) (defScope sRO) .none kVRO dcRO pmRO anRO cdRO ctRO), slRO⟩)
    (cRO : PySem.W.codeIn K cdRO "rows_of" = true)
    (kkRO : PySem.W.keepIn K (.ref fRO) = true)
    (aRN : PySem.W.nsIn K mainGlobals "row_number" = some (some (.ref fRN)))
    (lRN : K.lookup fRN = some ⟨ocRN, odRN, .func (PySem.W.fnOf "row_number" "row_number" (defArgs sRN) (defBody sRN) (defScope sRN) .none kVRN dcRN pmRN anRN cdRN ctRN), slRN⟩)
    (cRN : PySem.W.codeIn K cdRN "row_number" = true)
    (kkRN : PySem.W.keepIn K (.ref fRN) = true)
    (aAA : PySem.W.nsIn K mainGlobals "_are_amounts" = some (some (.ref fAA)))
    (lAA : K.lookup fAA = some ⟨ocAA, odAA, .func (PySem.W.fnOf "_are_amounts" "_are_amounts" (defArgs sAA) (defBody sAA) (defScope sAA) .none kVAA dcAA pmAA anAA cdAA ctAA), slAA⟩)
    (cAA : PySem.W.codeIn K cdAA "_are_amounts" = true)
    (kkAA : PySem.W.keepIn K (.ref fAA) = true)
    (aAR : PySem.W.nsIn K mainGlobals "_are_prices" = some (some (.ref fAR)))
    (lAR : K.lookup fAR = some ⟨ocAR, odAR, .func (PySem.W.fnOf "_are_prices" "_are_prices" (defArgs sAR) (defBody sAR) (defScope sAR) .none kVAR dcAR pmAR anAR cdAR ctAR), slAR⟩)
    (cAR : PySem.W.codeIn K cdAR "_are_prices" = true)
    (kkAR : PySem.W.keepIn K (.ref fAR) = true)
    (aITi : PySem.W.nsIn K mainGlobals "is_tie" = some (some (.ref fITi)))
    (lITi : K.lookup fITi = some ⟨ocITi, odITi, .func (PySem.W.fnOf "is_tie" "is_tie" (defArgs sITi) (defBody sITi) (defScope sITi) .none kVITi dcITi pmITi anITi cdITi ctITi), slITi⟩)
    (cITi : PySem.W.codeIn K cdITi "is_tie" = true)
    (kkITi : PySem.W.keepIn K (.ref fITi) = true)
    (aFNT : PySem.W.nsIn K mainGlobals "_first_that_is_no_tie" = some (some (.ref fFNT)))
    (lFNT : K.lookup fFNT = some ⟨ocFNT, odFNT, .func (PySem.W.fnOf "_first_that_is_no_tie" "_first_that_is_no_tie" (defArgs sFNT) (defBody sFNT) (defScope sFNT) .none kVFNT dcFNT pmFNT anFNT cdFNT ctFNT), slFNT⟩)
    (cFNT : PySem.W.codeIn K cdFNT "_first_that_is_no_tie" = true)
    (kkFNT : PySem.W.keepIn K (.ref fFNT) = true)
    (aIPa : PySem.W.nsIn K mainGlobals "_is_pair" = some (some (.ref fIPa)))
    (lIPa : K.lookup fIPa = some ⟨ocIPa, odIPa, .func (PySem.W.fnOf "_is_pair" "_is_pair" (defArgs sIPa) (defBody sIPa) (defScope sIPa) .none kVIPa dcIPa pmIPa anIPa cdIPa ctIPa), slIPa⟩)
    (cIPa : PySem.W.codeIn K cdIPa "_is_pair" = true)
    (kkIPa : PySem.W.keepIn K (.ref fIPa) = true)
    (aISt : PySem.W.nsIn K mainGlobals "is_start" = some (some (.ref fISt)))
    (lISt : K.lookup fISt = some ⟨ocISt, odISt, .func (PySem.W.fnOf "is_start" "is_start" (defArgs sISt) (defBody sISt) (defScope sISt) .none kVISt dcISt pmISt anISt cdISt ctISt), slISt⟩)
    (cISt : PySem.W.codeIn K cdISt "is_start" = true)
    (kkISt : PySem.W.keepIn K (.ref fISt) = true)
    (aFrC : PySem.W.nsIn K mainGlobals "free_cells" = some (some (.ref fFrC)))
    (lFrC : K.lookup fFrC = some ⟨ocFrC, odFrC, .func (PySem.W.fnOf "free_cells" "free_cells" (defArgs sFrC) (defBody sFrC) (defScope sFrC) .none kVFrC dcFrC pmFrC anFrC cdFrC ctFrC), slFrC⟩)
    (cFrC : PySem.W.codeIn K cdFrC "free_cells" = true)
    (kkFrC : PySem.W.keepIn K (.ref fFrC) = true)
    (aSFr : PySem.W.nsIn K mainGlobals "sum_from" = some (some (.ref fSFr)))
    (lSFr : K.lookup fSFr = some ⟨ocSFr, odSFr, .func (PySem.W.fnOf "sum_from" "sum_from" (defArgs sSFr) (defBody sSFr) (defScope sSFr) .none kVSFr dcSFr pmSFr anSFr cdSFr ctSFr), slSFr⟩)
    (cSFr : PySem.W.codeIn K cdSFr "sum_from" = true)
    (kkSFr : PySem.W.keepIn K (.ref fSFr) = true)
    (aAT : PySem.W.nsIn K mainGlobals "add_to" = some (some (.ref fAT)))
    (lAT : K.lookup fAT = some ⟨ocAT, odAT, .func (PySem.W.fnOf "add_to" "add_to" (defArgs sAT) (defBody sAT) (defScope sAT) .none kVAT dcAT pmAT anAT cdAT ctAT), slAT⟩)
    (cAT : PySem.W.codeIn K cdAT "add_to" = true)
    (kkAT : PySem.W.keepIn K (.ref fAT) = true)
    (aWAt : PySem.W.nsIn K mainGlobals "worth_at" = some (some (.ref fWAt)))
    (lWAt : K.lookup fWAt = some ⟨ocWAt, odWAt, .func (PySem.W.fnOf "worth_at" "worth_at" (defArgs sWAt) (defBody sWAt) (defScope sWAt) .none kVWAt dcWAt pmWAt anWAt cdWAt ctWAt), slWAt⟩)
    (cWAt : PySem.W.codeIn K cdWAt "worth_at" = true)
    (kkWAt : PySem.W.keepIn K (.ref fWAt) = true)
    (aSOP : PySem.W.nsIn K mainGlobals "sum_of_price" = some (some (.ref fSOP)))
    (lSOP : K.lookup fSOP = some ⟨ocSOP, odSOP, .func (PySem.W.fnOf "sum_of_price" "sum_of_price" (defArgs sSOP) (defBody sSOP) (defScope sSOP) .none kVSOP dcSOP pmSOP anSOP cdSOP ctSOP), slSOP⟩)
    (cSOP : PySem.W.codeIn K cdSOP "sum_of_price" = true)
    (kkSOP : PySem.W.keepIn K (.ref fSOP) = true)
    (aLLe : PySem.W.nsIn K mainGlobals "_letters_left" = some (some (.ref fLLe)))
    (lLLe : K.lookup fLLe = some ⟨ocLLe, odLLe, .func (PySem.W.fnOf "_letters_left" "_letters_left" (defArgs sLLe) (defBody sLLe) (defScope sLLe) .none kVLLe dcLLe pmLLe anLLe cdLLe ctLLe), slLLe⟩)
    (cLLe : PySem.W.codeIn K cdLLe "_letters_left" = true)
    (kkLLe : PySem.W.keepIn K (.ref fLLe) = true)
    (aSmO : PySem.W.nsIn K mainGlobals "sum_of" = some (some (.ref fSmO)))
    (lSmO : K.lookup fSmO = some ⟨ocSmO, odSmO, .func (PySem.W.fnOf "sum_of" "sum_of" (defArgs sSmO) (defBody sSmO) (defScope sSmO) (.ref dTSmO) kVSmO dcSmO pmSmO anSmO cdSmO ctSmO), slSmO⟩)
    (cSmO : PySem.W.codeIn K cdSmO "sum_of" = true)
    (kkSmO : PySem.W.keepIn K (.ref fSmO) = true)
    (tTSmO : K.lookup dTSmO = some { cls := .type "tuple", dict := ddTSmO, data := .seq [Value.ref aESmO].toArray nTSmO, slots := ssTSmO })
    (tESmO : K.lookup aESmO = some { cls := .type "tuple", dict := ddESmO, data := .seq ([] : List Value).toArray nESmO, slots := ssESmO })
    (aWrs : PySem.W.nsIn K mainGlobals "worths" = some (some (.ref fWrs)))
    (lWrs : K.lookup fWrs = some ⟨ocWrs, odWrs, .func (PySem.W.fnOf "worths" "worths" (defArgs sWrs) (defBody sWrs) (defScope sWrs) .none kVWrs dcWrs pmWrs anWrs cdWrs ctWrs), slWrs⟩)
    (cWrs : PySem.W.codeIn K cdWrs "worths" = true)
    (kkWrs : PySem.W.keepIn K (.ref fWrs) = true)
    (aArC : PySem.W.nsIn K mainGlobals "_are_cells" = some (some (.ref fArC)))
    (lArC : K.lookup fArC = some ⟨ocArC, odArC, .func (PySem.W.fnOf "_are_cells" "_are_cells" (defArgs sArC) (defBody sArC) (defScope sArC) .none kVArC dcArC pmArC anArC cdArC ctArC), slArC⟩)
    (cArC : PySem.W.codeIn K cdArC "_are_cells" = true)
    (kkArC : PySem.W.keepIn K (.ref fArC) = true)
    (aWrP : PySem.W.nsIn K mainGlobals "written_price" = some (some (.ref fWrP)))
    (lWrP : K.lookup fWrP = some ⟨ocWrP, odWrP, .func (PySem.W.fnOf "written_price" "written_price" (defArgs sWrP) (defBody sWrP) (defScope sWrP) (.ref dTWrP) kVWrP dcWrP pmWrP anWrP cdWrP ctWrP), slWrP⟩)
    (cWrP : PySem.W.codeIn K cdWrP "written_price" = true)
    (kkWrP : PySem.W.keepIn K (.ref fWrP) = true)
    (tTWrP : K.lookup dTWrP = some { cls := .type "tuple", dict := ddTWrP, data := .seq [Value.ref aEWrP].toArray nTWrP, slots := ssTWrP })
    (tEWrP : K.lookup aEWrP = some { cls := .type "tuple", dict := ddEWrP, data := .seq ([] : List Value).toArray nEWrP, slots := ssEWrP })
    (aDraws : PySem.W.nsIn K mainGlobals "_law_draws" = some (some (.ref fDraws)))
    (lDraws : K.lookup fDraws = some ⟨ocDraws, odDraws, .func (PySem.W.fnOf "_law_draws" "_law_draws" (defArgs sDraws) (defBody sDraws) (defScope sDraws) .none kVDraws dcDraws pmDraws anDraws cdDraws ctDraws), slDraws⟩)
    (cDraws : PySem.W.codeIn K cdDraws "_law_draws" = true)
    (kkDraws : PySem.W.keepIn K (.ref fDraws) = true)
    (aTake : PySem.W.nsIn K mainGlobals "_law_take" = some (some (.ref fTake)))
    (lTake : K.lookup fTake = some ⟨ocTake, odTake, .func (PySem.W.fnOf "_law_take" "_law_take" (defArgs sTake) (defBody sTake) (defScope sTake) .none kVTake dcTake pmTake anTake cdTake ctTake), slTake⟩)
    (cTake : PySem.W.codeIn K cdTake "_law_take" = true)
    (kkTake : PySem.W.keepIn K (.ref fTake) = true)
    (aEvery : PySem.W.nsIn K mainGlobals "_law_rows" = some (some (.ref fEvery)))
    (lEvery : K.lookup fEvery = some ⟨ocEvery, odEvery, .func (PySem.W.fnOf "_law_rows" "_law_rows" (defArgs sEvery) (defBody sEvery) (defScope sEvery) .none kVEvery dcEvery pmEvery anEvery cdEvery ctEvery), slEvery⟩)
    (cEvery : PySem.W.codeIn K cdEvery "_law_rows" = true)
    (kkEvery : PySem.W.keepIn K (.ref fEvery) = true)
    (aPlace : PySem.W.nsIn K mainGlobals "_law_at" = some (some (.ref fPlace)))
    (lPlace : K.lookup fPlace = some ⟨ocPlace, odPlace, .func (PySem.W.fnOf "_law_at" "_law_at" (defArgs sPlace) (defBody sPlace) (defScope sPlace) .none kVPlace dcPlace pmPlace anPlace cdPlace ctPlace), slPlace⟩)
    (cPlace : PySem.W.codeIn K cdPlace "_law_at" = true)
    (kkPlace : PySem.W.keepIn K (.ref fPlace) = true)
    (aAm3 : PySem.W.nsIn K mainGlobals "_law_amount" = some (some (.ref fAm3)))
    (lAm3 : K.lookup fAm3 = some ⟨ocAm3, odAm3, .func (PySem.W.fnOf "_law_amount" "_law_amount" (defArgs sAm3) (defBody sAm3) (defScope sAm3) .none kVAm3 dcAm3 pmAm3 anAm3 cdAm3 ctAm3), slAm3⟩)
    (cAm3 : PySem.W.codeIn K cdAm3 "_law_amount" = true)
    (kkAm3 : PySem.W.keepIn K (.ref fAm3) = true)
    (aLTi : PySem.W.nsIn K mainGlobals "_law_ties" = some (some (.ref fLTi)))
    (lLTi : K.lookup fLTi = some ⟨ocLTi, odLTi, .func (PySem.W.fnOf "_law_ties" "_law_ties" (defArgs sLTi) (defBody sLTi) (defScope sLTi) .none kVLTi dcLTi pmLTi anLTi cdLTi ctLTi), slLTi⟩)
    (cLTi : PySem.W.codeIn K cdLTi "_law_ties" = true)
    (kkLTi : PySem.W.keepIn K (.ref fLTi) = true)
    (aLB : PySem.W.nsIn K mainGlobals "_law_made_book" = some (some (.ref fLB)))
    (lLB : K.lookup fLB = some ⟨ocLB, odLB, .func (PySem.W.fnOf "_law_made_book" "_law_made_book" (defArgs sLB) (defBody sLB) (defScope sLB) .none kVLB dcLB pmLB anLB cdLB ctLB), slLB⟩)
    (cLB : PySem.W.codeIn K cdLB "_law_made_book" = true)
    (kkLB : PySem.W.keepIn K (.ref fLB) = true)
    (aLTo : PySem.W.nsIn K mainGlobals "_law_total" = some (some (.ref fLTo)))
    (lLTo : K.lookup fLTo = some ⟨ocLTo, odLTo, .func (PySem.W.fnOf "_law_total" "_law_total" (defArgs sLTo) (defBody sLTo) (defScope sLTo) .none kVLTo dcLTo pmLTo anLTo cdLTo ctLTo), slLTo⟩)
    (cLTo : PySem.W.codeIn K cdLTo "_law_total" = true)
    (kkLTo : PySem.W.keepIn K (.ref fLTo) = true)
    (aLKe : PySem.W.nsIn K mainGlobals "_law_keeps" = some (some (.ref fLKe)))
    (lLKe : K.lookup fLKe = some ⟨ocLKe, odLKe, .func (PySem.W.fnOf "_law_keeps" "_law_keeps" (defArgs sLKe) (defBody sLKe) (defScope sLKe) .none kVLKe dcLKe pmLKe anLKe cdLKe ctLKe), slLKe⟩)
    (cLKe : PySem.W.codeIn K cdLKe "_law_keeps" = true)
    (kkLKe : PySem.W.keepIn K (.ref fLKe) = true)
    (aLTs : PySem.W.nsIn K mainGlobals "_law_totals" = some (some (.ref fLTs)))
    (lLTs : K.lookup fLTs = some ⟨ocLTs, odLTs, .func (PySem.W.fnOf "_law_totals" "_law_totals" (defArgs sLTs) (defBody sLTs) (defScope sLTs) .none kVLTs dcLTs pmLTs anLTs cdLTs ctLTs), slLTs⟩)
    (cLTs : PySem.W.codeIn K cdLTs "_law_totals" = true)
    (kkLTs : PySem.W.keepIn K (.ref fLTs) = true)
    (aLSt : PySem.W.nsIn K mainGlobals "_law_start" = some (some (.ref fLSt)))
    (lLSt : K.lookup fLSt = some ⟨ocLSt, odLSt, .func (PySem.W.fnOf "_law_start" "_law_start" (defArgs sLSt) (defBody sLSt) (defScope sLSt) .none kVLSt dcLSt pmLSt anLSt cdLSt ctLSt), slLSt⟩)
    (cLSt : PySem.W.codeIn K cdLSt "_law_start" = true)
    (kkLSt : PySem.W.keepIn K (.ref fLSt) = true)
    (aLFr : PySem.W.nsIn K mainGlobals "_law_free" = some (some (.ref fLFr)))
    (lLFr : K.lookup fLFr = some ⟨ocLFr, odLFr, .func (PySem.W.fnOf "_law_free" "_law_free" (defArgs sLFr) (defBody sLFr) (defScope sLFr) .none kVLFr dcLFr pmLFr anLFr cdLFr ctLFr), slLFr⟩)
    (cLFr : PySem.W.codeIn K cdLFr "_law_free" = true)
    (kkLFr : PySem.W.keepIn K (.ref fLFr) = true)
    (aLIs : PySem.W.nsIn K mainGlobals "_law_is" = some (some (.ref fLIs)))
    (lLIs : K.lookup fLIs = some ⟨ocLIs, odLIs, .func (PySem.W.fnOf "_law_is" "_law_is" (defArgs sLIs) (defBody sLIs) (defScope sLIs) .none kVLIs dcLIs pmLIs anLIs cdLIs ctLIs), slLIs⟩)
    (cLIs : PySem.W.codeIn K cdLIs "_law_is" = true)
    (kkLIs : PySem.W.keepIn K (.ref fLIs) = true)
    (aLBn : PySem.W.nsIn K mainGlobals "_law_bent" = some (some (.ref fLBn)))
    (lLBn : K.lookup fLBn = some ⟨ocLBn, odLBn, .func (PySem.W.fnOf "_law_bent" "_law_bent" (defArgs sLBn) (defBody sLBn) (defScope sLBn) .none kVLBn dcLBn pmLBn anLBn cdLBn ctLBn), slLBn⟩)
    (cLBn : PySem.W.codeIn K cdLBn "_law_bent" = true)
    (kkLBn : PySem.W.keepIn K (.ref fLBn) = true)
    (aLKp : PySem.W.nsIn K mainGlobals "_law_kind_price" = some (some (.ref fLKp)))
    (lLKp : K.lookup fLKp = some ⟨ocLKp, odLKp, .func (PySem.W.fnOf "_law_kind_price" "_law_kind_price" (defArgs sLKp) (defBody sLKp) (defScope sLKp) .none kVLKp dcLKp pmLKp anLKp cdLKp ctLKp), slLKp⟩)
    (cLKp : PySem.W.codeIn K cdLKp "_law_kind_price" = true)
    (kkLKp : PySem.W.keepIn K (.ref fLKp) = true)
    (aLaw : PySem.W.nsIn K mainGlobals "law" = some (some (.ref fLaw)))
    (lLaw : K.lookup fLaw = some ⟨ocLaw, odLaw, .func (PySem.W.fnOf "law" "law" (defArgs sLaw) (defBody sLaw) (defScope sLaw) .none kVLaw dcLaw pmLaw anLaw cdLaw ctLaw), slLaw⟩)
    (cLaw : PySem.W.codeIn K cdLaw "law" = true)
    (kkLaw : PySem.W.keepIn K (.ref fLaw) = true)
    (aPE2 : PySem.W.nsIn K mainGlobals "PriceError" = some (some (.ref pe)))
    (hn : PySem.W.specialIn K (.builtin "object.__class__") "__get__" = some (some (.builtin "getset_descriptor.__get__")))
    (ht : PySem.W.takesIn K (.builtin "object.__class__") = some true)
    (cPE2 : (PySem.W.clsIn K pe).isSome = true)
    (tPE2 : PySem.W.typeIn K (.ref pe) = some (.type "type"))
    (aMC : PySem.W.nsIn K mainGlobals "MOST_CELLS" = some (some (.int 3 tkMC)))
    (zlen : PySem.W.nsIn K mainGlobals "len" = some none)
    (zint : PySem.W.nsIn K mainGlobals "int" = some none)
    (zabs : PySem.W.nsIn K mainGlobals "abs" = some none)
    (zrange : PySem.W.nsIn K mainGlobals "range" = some none)
    (zisinstance : PySem.W.nsIn K mainGlobals "isinstance" = some none)
    (zbool : PySem.W.nsIn K mainGlobals "bool" = some none)
    (zlist : PySem.W.nsIn K mainGlobals "list" = some none)
    (ztuple : PySem.W.nsIn K mainGlobals "tuple" = some none)
    (zall : PySem.W.nsIn K mainGlobals "all" = some none)
    (zmin : PySem.W.nsIn K mainGlobals "min" = some none)
    (zmax : PySem.W.nsIn K mainGlobals "max" = some none)
    (zsum : PySem.W.nsIn K mainGlobals "sum" = some none)
    (zrepr : PySem.W.nsIn K mainGlobals "repr" = some none)
    (zzip : PySem.W.nsIn K mainGlobals "zip" = some none)
    (zenumerate : PySem.W.nsIn K mainGlobals "enumerate" = some none)
    (zsorted : PySem.W.nsIn K mainGlobals "sorted" = some none)
    (zdict : PySem.W.nsIn K mainGlobals "dict" = some none)
    (zset : PySem.W.nsIn K mainGlobals "set" = some none)
    (zany : PySem.W.nsIn K mainGlobals "any" = some none)
    (zreversed : PySem.W.nsIn K mainGlobals "reversed" = some none)
    (neS : CT ≠ pe)
    (neC : CX ≠ pe)
    (neB : C ≠ CB)
    (nePC : C ≠ CP)
    (nePB : CB ≠ CP)
    : ∃ fd : FuncData, (∀ (s : Shared) (v : Value), BindsTo s fd ⟨[v], []⟩ [("script", v)]) ∧ ∀ base : Heap, K.In base → base.Ns mainGlobals mg → FnG l.prog w K mg base CX0 10 fa fd ["script"] (spLaw K) := by
  have e := hfa.symm.trans (PySem.W.mg_of X G aLaw)
  cases e
  have FXSt := fun_mk (st := sXSt) lXSt cXSt kkXSt
  have bXSt := FXSt.binds (ps := ["self", "value"]) fun _ _ _ _ _ _ us hl => match us, hl with | [_, _], _ => rfl
  have oCT : OexC K CT := ⟨⟨_, _, _, _, _, _, _, _, _, _, _, _, _, _, _, xLCT, rfl⟩, saCT, exc_of xLCT, tyCT, kpCT⟩
  have xCT : ExcC K CT := ⟨gaCT, ggCT, exc_of xLCT, hd_of xLCT, caCT, hn, ht, by rw [mro_of xLCT]; rfl⟩
  have ECT : Xe K CT pe := ⟨exm_own xLCT tyCT, kit_pe xLCT cPE2 tPE2 neS⟩
  have XCT : Xc K mg "InvalidStart" "value" CT := ⟨PySem.W.mg_of X G aCT, oCT, ⟨gaCT, ggCT, exc_of xLCT, hd_of xLCT⟩, xCT, noCT⟩
  have FXCe := fun_mk (st := sXCe) lXCe cXCe kkXCe
  have bXCe := FXCe.binds (ps := ["self", "value"]) fun _ _ _ _ _ _ us hl => match us, hl with | [_, _], _ => rfl
  have oCX : OexC K CX := ⟨⟨_, _, _, _, _, _, _, _, _, _, _, _, _, _, _, xLCX, rfl⟩, saCX, exc_of xLCX, tyCX, kpCX⟩
  have xCX : ExcC K CX := ⟨gaCX, ggCX, exc_of xLCX, hd_of xLCX, caCX, hn, ht, by rw [mro_of xLCX]; rfl⟩
  have ECX : Xe K CX pe := ⟨exm_own xLCX tyCX, kit_pe xLCX cPE2 tPE2 neC⟩
  have XCX : Xc K mg "InvalidCells" "value" CX := ⟨PySem.W.mg_of X G aCX, oCX, ⟨gaCX, ggCX, exc_of xLCX, hd_of xLCX⟩, xCX, noCX⟩
  have FPI := fun_mk (st := sPI) lPI cPI kkPI
  have bPI := FPI.binds (ps := ["self", "size", "amounts"]) fun _ _ _ _ _ _ us hl => match us, hl with | [_, _, _], _ => rfl
  have mPI : Meth K C "__init__" fPI := ⟨inPI, fnPI, kkPI⟩
  have FPC := fun_mk (st := sPC) lPC cPC kkPC
  have bPC := FPC.binds (ps := ["self", "row"]) fun _ _ _ _ _ _ us hl => match us, hl with | [_, _], _ => rfl
  have mPC : Meth K C "cost" fPC := ⟨inPC, fnPC, kkPC⟩
  have FBI := fun_mk (st := sBI) lBI cBI kkBI
  have bBI := FBI.binds (ps := ["self", "prices"]) fun _ _ _ _ _ _ us hl => match us, hl with | [_, _], _ => rfl
  have mBI : Meth K CB "__init__" fBI := ⟨inBI, fnBI, kkBI⟩
  have FBL := fun_mk (st := sBL) lBL cBL kkBL
  have bBL := FBL.binds (ps := ["self"]) fun _ _ _ _ _ _ us hl => match us, hl with | [_], _ => rfl
  have mBL : Meth K CB "__len__" fBL := ⟨inBL, fnBL, kkBL⟩
  have FPZI := fun_mk (st := sPZI) lPZI cPZI kkPZI
  have bPZI := FPZI.binds (ps := ["self", "book", "cell_count", "ties"]) fun _ _ _ _ _ _ us hl => match us, hl with | [_, _, _, _], _ => rfl
  have mPZI : Meth K CP "__init__" fPZI := ⟨inPZI, fnPZI, kkPZI⟩
  have FII := fun_mk (st := sII) lII cII kkII
  have bII := FII.binds (ps := ["value"]) fun _ _ _ _ _ _ us hl => match us, hl with | [_], _ => rfl
  have gII : mg "is_integer" = some (.ref fII) := PySem.W.mg_of X G aII
  have FINu := fun_mk (st := sINu) lINu cINu kkINu
  have bINu := FINu.binds (ps := ["value"]) fun _ _ _ _ _ _ us hl => match us, hl with | [_], _ => rfl
  have gINu : mg "is_number" = some (.ref fINu) := PySem.W.mg_of X G aINu
  have FIB := fun_mk (st := sIB) lIB cIB kkIB
  have bIB := FIB.binds (ps := ["value", "limit"]) fun _ _ _ _ _ _ us hl => match us, hl with | [_, _], _ => rfl
  have gIB : mg "is_number_below" = some (.ref fIB) := PySem.W.mg_of X G aIB
  have FIV := fun_mk (st := sIV) lIV cIV kkIV
  have bIV := FIV.binds (ps := ["value"]) fun _ _ _ _ _ _ us hl => match us, hl with | [_], _ => rfl
  have gIV : mg "is_value" = some (.ref fIV) := PySem.W.mg_of X G aIV
  have FIS := fun_mk (st := sIS) lIS cIS kkIS
  have bIS := FIS.binds (ps := ["value"]) fun _ _ _ _ _ _ us hl => match us, hl with | [_], _ => rfl
  have gIS : mg "is_size" = some (.ref fIS) := PySem.W.mg_of X G aIS
  have FIQ := fun_mk (st := sIQ) lIQ cIQ kkIQ
  have bIQ := FIQ.binds (ps := ["value"]) fun _ _ _ _ _ _ us hl => match us, hl with | [_], _ => rfl
  have gIQ : mg "is_sequence" = some (.ref fIQ) := PySem.W.mg_of X G aIQ
  have FIR := fun_mk (st := sIR) lIR cIR kkIR
  have bIR := FIR.binds (ps := ["value", "size"]) fun _ _ _ _ _ _ us hl => match us, hl with | [_, _], _ => rfl
  have gIR : mg "is_row" = some (.ref fIR) := PySem.W.mg_of X G aIR
  have FRO := fun_mk (st := sRO) lRO cRO kkRO
  have bRO := FRO.binds (ps := ["size"]) fun _ _ _ _ _ _ us hl => match us, hl with | [_], _ => rfl
  have gRO : mg "rows_of" = some (.ref fRO) := PySem.W.mg_of X G aRO
  have FRN := fun_mk (st := sRN) lRN cRN kkRN
  have bRN := FRN.binds (ps := ["row"]) fun _ _ _ _ _ _ us hl => match us, hl with | [_], _ => rfl
  have gRN : mg "row_number" = some (.ref fRN) := PySem.W.mg_of X G aRN
  have FAA := fun_mk (st := sAA) lAA cAA kkAA
  have bAA := FAA.binds (ps := ["value", "size"]) fun _ _ _ _ _ _ us hl => match us, hl with | [_, _], _ => rfl
  have gAA : mg "_are_amounts" = some (.ref fAA) := PySem.W.mg_of X G aAA
  have FAR := fun_mk (st := sAR) lAR cAR kkAR
  have bAR := FAR.binds (ps := ["value"]) fun _ _ _ _ _ _ us hl => match us, hl with | [_], _ => rfl
  have gAR : mg "_are_prices" = some (.ref fAR) := PySem.W.mg_of X G aAR
  have FITi := fun_mk (st := sITi) lITi cITi kkITi
  have bITi := FITi.binds (ps := ["value", "book", "cell_count"]) fun _ _ _ _ _ _ us hl => match us, hl with | [_, _, _], _ => rfl
  have gITi : mg "is_tie" = some (.ref fITi) := PySem.W.mg_of X G aITi
  have FFNT := fun_mk (st := sFNT) lFNT cFNT kkFNT
  have bFNT := FFNT.binds (ps := ["ties", "book", "cell_count"]) fun _ _ _ _ _ _ us hl => match us, hl with | [_, _, _], _ => rfl
  have gFNT : mg "_first_that_is_no_tie" = some (.ref fFNT) := PySem.W.mg_of X G aFNT
  have FIPa := fun_mk (st := sIPa) lIPa cIPa kkIPa
  have bIPa := FIPa.binds (ps := ["value", "cell_count"]) fun _ _ _ _ _ _ us hl => match us, hl with | [_, _], _ => rfl
  have gIPa : mg "_is_pair" = some (.ref fIPa) := PySem.W.mg_of X G aIPa
  have FISt := fun_mk (st := sISt) lISt cISt kkISt
  have bISt := FISt.binds (ps := ["puzzle", "value"]) fun _ _ _ _ _ _ us hl => match us, hl with | [_, _], _ => rfl
  have gISt : mg "is_start" = some (.ref fISt) := PySem.W.mg_of X G aISt
  have FFrC := fun_mk (st := sFrC) lFrC cFrC kkFrC
  have bFrC := FFrC.binds (ps := ["puzzle", "start"]) fun _ _ _ _ _ _ us hl => match us, hl with | [_, _], _ => rfl
  have gFrC : mg "free_cells" = some (.ref fFrC) := PySem.W.mg_of X G aFrC
  have FSFr := fun_mk (st := sSFr) lSFr cSFr kkSFr
  have bSFr := FSFr.binds (ps := ["numbers"]) fun _ _ _ _ _ _ us hl => match us, hl with | [_], _ => rfl
  have gSFr : mg "sum_from" = some (.ref fSFr) := PySem.W.mg_of X G aSFr
  have FAT := fun_mk (st := sAT) lAT cAT kkAT
  have bAT := FAT.binds (ps := ["numbers", "letters", "number"]) fun _ _ _ _ _ _ us hl => match us, hl with | [_, _, _], _ => rfl
  have gAT : mg "add_to" = some (.ref fAT) := PySem.W.mg_of X G aAT
  have FWAt := fun_mk (st := sWAt) lWAt cWAt kkWAt
  have bWAt := FWAt.binds (ps := ["told", "row"]) fun _ _ _ _ _ _ us hl => match us, hl with | [_, _], _ => rfl
  have gWAt : mg "worth_at" = some (.ref fWAt) := PySem.W.mg_of X G aWAt
  have FSOP := fun_mk (st := sSOP) lSOP cSOP kkSOP
  have bSOP := FSOP.binds (ps := ["price"]) fun _ _ _ _ _ _ us hl => match us, hl with | [_], _ => rfl
  have gSOP : mg "sum_of_price" = some (.ref fSOP) := PySem.W.mg_of X G aSOP
  have FLLe := fun_mk (st := sLLe) lLLe cLLe kkLLe
  have bLLe := FLLe.binds (ps := ["letters", "cells", "fixed"]) fun _ _ _ _ _ _ us hl => match us, hl with | [_, _, _], _ => rfl
  have gLLe : mg "_letters_left" = some (.ref fLLe) := PySem.W.mg_of X G aLLe
  have DSmO : FunD K "sum_of" "sum_of" (defArgs sSmO) (defBody sSmO) (defScope sSmO) [V.ref aESmO] [] fSmO _ := ⟨⟨_, _, _, _, _, _, _, _, _, _, rfl, lSmO, cSmO, .inr ⟨List.cons_ne_nil _ _, dTSmO, _, [Value.ref aESmO], _, rfl, tTSmO, rfl, .cons rfl .nil⟩, .inl rfl⟩, kkSmO⟩
  obtain ⟨esSmO, veSmO, bSmO⟩ := FunD.binds1 (ps := ["puzzle", "start"]) DSmO 2 1 (List.cons_ne_nil _ _) rfl (fun T kV doc pm an cdv ct us its h1 h2 => match us, its, h1, h2 with | [_, _], [_], _, _ => ⟨_, rfl, rfl⟩)
  cases veSmO
  obtain ⟨dsSmO, vdSmO, b1SmO⟩ := FunD.binds1 (ps := ["puzzle", "start"]) DSmO 1 0 (List.cons_ne_nil _ _) rfl (fun T kV doc pm an cdv ct us its h1 h2 => match us, its, h1, h2 with | [_], [_], _, _ => ⟨_, rfl, rfl⟩)
  obtain ⟨itsSmO, kbSmO⟩ := FunD.kbindsD (ps := ["puzzle", "start"]) DSmO 0 ["puzzle", "start"] (fun us ds ws => us ++ ws) (List.cons_ne_nil _ _) (fun r1 r2 r3 => r1.append r3) (fun T kV doc pm an cdv ct us its ws h1 h2 h3 => match us, its, ws, h1, h2, h3 with | [], [_], [_, _], _, _, _ => ⟨_, rfl, rfl⟩)
  have kwSmO : ∀ (s : Shared) (ws : List Value), K.In s.heap → ws.length = (["puzzle", "start"] : List Str).length → BindsTo s _ ⟨[], (["puzzle", "start"] : List Str).zip ws⟩ ((["puzzle", "start"] : List Str).zip ws) := fun s ws X hl => kbSmO.to s [] ws X rfl hl
  have kESmO : KT K aESmO := ⟨_, _, _, tESmO, rfl, rfl, Nat.zero_le _, rfl⟩
  have gSmO : mg "sum_of" = some (.ref fSmO) := PySem.W.mg_of X G aSmO
  have FWrs := fun_mk (st := sWrs) lWrs cWrs kkWrs
  have bWrs := FWrs.binds (ps := ["told", "letters"]) fun _ _ _ _ _ _ us hl => match us, hl with | [_, _], _ => rfl
  have gWrs : mg "worths" = some (.ref fWrs) := PySem.W.mg_of X G aWrs
  have FArC := fun_mk (st := sArC) lArC cArC kkArC
  have bArC := FArC.binds (ps := ["value", "free"]) fun _ _ _ _ _ _ us hl => match us, hl with | [_, _], _ => rfl
  have gArC : mg "_are_cells" = some (.ref fArC) := PySem.W.mg_of X G aArC
  have DWrP : FunD K "written_price" "written_price" (defArgs sWrP) (defBody sWrP) (defScope sWrP) [V.ref aEWrP] [] fWrP _ := ⟨⟨_, _, _, _, _, _, _, _, _, _, rfl, lWrP, cWrP, .inr ⟨List.cons_ne_nil _ _, dTWrP, _, [Value.ref aEWrP], _, rfl, tTWrP, rfl, .cons rfl .nil⟩, .inl rfl⟩, kkWrP⟩
  obtain ⟨esWrP, veWrP, bWrP⟩ := FunD.binds1 (ps := ["puzzle", "cells", "start"]) DWrP 3 1 (List.cons_ne_nil _ _) rfl (fun T kV doc pm an cdv ct us its h1 h2 => match us, its, h1, h2 with | [_, _, _], [_], _, _ => ⟨_, rfl, rfl⟩)
  cases veWrP
  obtain ⟨dsWrP, vdWrP, b1WrP⟩ := FunD.binds1 (ps := ["puzzle", "cells", "start"]) DWrP 2 0 (List.cons_ne_nil _ _) rfl (fun T kV doc pm an cdv ct us its h1 h2 => match us, its, h1, h2 with | [_, _], [_], _, _ => ⟨_, rfl, rfl⟩)
  obtain ⟨itsWrP, kbWrP⟩ := FunD.kbindsD (ps := ["puzzle", "cells", "start"]) DWrP 0 ["puzzle", "cells", "start"] (fun us ds ws => us ++ ws) (List.cons_ne_nil _ _) (fun r1 r2 r3 => r1.append r3) (fun T kV doc pm an cdv ct us its ws h1 h2 h3 => match us, its, ws, h1, h2, h3 with | [], [_], [_, _, _], _, _, _ => ⟨_, rfl, rfl⟩)
  have kwWrP : ∀ (s : Shared) (ws : List Value), K.In s.heap → ws.length = (["puzzle", "cells", "start"] : List Str).length → BindsTo s _ ⟨[], (["puzzle", "cells", "start"] : List Str).zip ws⟩ ((["puzzle", "cells", "start"] : List Str).zip ws) := fun s ws X hl => kbWrP.to s [] ws X rfl hl
  have kEWrP : KT K aEWrP := ⟨_, _, _, tEWrP, rfl, rfl, Nat.zero_le _, rfl⟩
  have gWrP : mg "written_price" = some (.ref fWrP) := PySem.W.mg_of X G aWrP
  have FDraws := fun_mk (st := sDraws) lDraws cDraws kkDraws
  have bDraws := FDraws.binds (ps := ["script", "many"]) fun _ _ _ _ _ _ us hl => match us, hl with | [_, _], _ => rfl
  have gDraws : mg "_law_draws" = some (.ref fDraws) := PySem.W.mg_of X G aDraws
  have FTake := fun_mk (st := sTake) lTake cTake kkTake
  have bTake := FTake.binds (ps := ["hand", "many"]) fun _ _ _ _ _ _ us hl => match us, hl with | [_, _], _ => rfl
  have gTake : mg "_law_take" = some (.ref fTake) := PySem.W.mg_of X G aTake
  have FEvery := fun_mk (st := sEvery) lEvery cEvery kkEvery
  have bEvery := FEvery.binds (ps := ["many"]) fun _ _ _ _ _ _ us hl => match us, hl with | [_], _ => rfl
  have gEvery : mg "_law_rows" = some (.ref fEvery) := PySem.W.mg_of X G aEvery
  have FPlace := fun_mk (st := sPlace) lPlace cPlace kkPlace
  have bPlace := FPlace.binds (ps := ["row"]) fun _ _ _ _ _ _ us hl => match us, hl with | [_], _ => rfl
  have gPlace : mg "_law_at" = some (.ref fPlace) := PySem.W.mg_of X G aPlace
  have FAm3 := fun_mk (st := sAm3) lAm3 cAm3 kkAm3
  have bAm3 := FAm3.binds (ps := ["hand"]) fun _ _ _ _ _ _ us hl => match us, hl with | [_], _ => rfl
  have gAm3 : mg "_law_amount" = some (.ref fAm3) := PySem.W.mg_of X G aAm3
  have FLTi := fun_mk (st := sLTi) lLTi cLTi kkLTi
  have bLTi := FLTi.binds (ps := ["hand", "book", "cells", "many"]) fun _ _ _ _ _ _ us hl => match us, hl with | [_, _, _, _], _ => rfl
  have gLTi : mg "_law_ties" = some (.ref fLTi) := PySem.W.mg_of X G aLTi
  have FLB := fun_mk (st := sLB) lLB cLB kkLB
  have bLB := FLB.binds (ps := ["book"]) fun _ _ _ _ _ _ us hl => match us, hl with | [_], _ => rfl
  have gLB : mg "_law_made_book" = some (.ref fLB) := PySem.W.mg_of X G aLB
  have FLTo := fun_mk (st := sLTo) lLTo cLTo kkLTo
  have bLTo := FLTo.binds (ps := ["book", "ties", "filling"]) fun _ _ _ _ _ _ us hl => match us, hl with | [_, _, _], _ => rfl
  have gLTo : mg "_law_total" = some (.ref fLTo) := PySem.W.mg_of X G aLTo
  have FLKe := fun_mk (st := sLKe) lLKe cLKe kkLKe
  have bLKe := FLKe.binds (ps := ["filling", "start"]) fun _ _ _ _ _ _ us hl => match us, hl with | [_, _], _ => rfl
  have gLKe : mg "_law_keeps" = some (.ref fLKe) := PySem.W.mg_of X G aLKe
  have FLTs := fun_mk (st := sLTs) lLTs cLTs kkLTs
  have bLTs := FLTs.binds (ps := ["book", "cells", "ties", "start"]) fun _ _ _ _ _ _ us hl => match us, hl with | [_, _, _, _], _ => rfl
  have gLTs : mg "_law_totals" = some (.ref fLTs) := PySem.W.mg_of X G aLTs
  have FLSt := fun_mk (st := sLSt) lLSt cLSt kkLSt
  have bLSt := FLSt.binds (ps := ["hand", "cells", "share"]) fun _ _ _ _ _ _ us hl => match us, hl with | [_, _, _], _ => rfl
  have gLSt : mg "_law_start" = some (.ref fLSt) := PySem.W.mg_of X G aLSt
  have FLFr := fun_mk (st := sLFr) lLFr cLFr kkLFr
  have bLFr := FLFr.binds (ps := ["hand", "cells", "start", "many"]) fun _ _ _ _ _ _ us hl => match us, hl with | [_, _, _, _], _ => rfl
  have gLFr : mg "_law_free" = some (.ref fLFr) := PySem.W.mg_of X G aLFr
  have FLIs := fun_mk (st := sLIs) lLIs cLIs kkLIs
  have bLIs := FLIs.binds (ps := ["price", "word"]) fun _ _ _ _ _ _ us hl => match us, hl with | [_, _], _ => rfl
  have gLIs : mg "_law_is" = some (.ref fLIs) := PySem.W.mg_of X G aLIs
  have FLBn := fun_mk (st := sLBn) lLBn cLBn kkLBn
  have bLBn := FLBn.binds (ps := ["hand", "size"]) fun _ _ _ _ _ _ us hl => match us, hl with | [_, _], _ => rfl
  have gLBn : mg "_law_bent" = some (.ref fLBn) := PySem.W.mg_of X G aLBn
  have FLKp := fun_mk (st := sLKp) lLKp cLKp kkLKp
  have bLKp := FLKp.binds (ps := ["hand", "word"]) fun _ _ _ _ _ _ us hl => match us, hl with | [_, _], _ => rfl
  have gLKp : mg "_law_kind_price" = some (.ref fLKp) := PySem.W.mg_of X G aLKp
  have FLaw := fun_mk (st := sLaw) lLaw cLaw kkLaw
  have bLaw := FLaw.binds (ps := ["script"]) fun _ _ _ _ _ _ us hl => match us, hl with | [_], _ => rfl
  have B : Bt mg := ⟨PySem.W.mg_none_of X G zlen, PySem.W.mg_none_of X G zint, PySem.W.mg_none_of X G zabs, PySem.W.mg_none_of X G zrange, PySem.W.mg_none_of X G zisinstance, PySem.W.mg_none_of X G zbool, PySem.W.mg_none_of X G zlist, PySem.W.mg_none_of X G ztuple, PySem.W.mg_none_of X G zall, PySem.W.mg_none_of X G zmin, PySem.W.mg_none_of X G zmax, PySem.W.mg_none_of X G zsum, PySem.W.mg_none_of X G zrepr, PySem.W.mg_none_of X G zzip, PySem.W.mg_none_of X G zenumerate, PySem.W.mg_none_of X G zsorted, PySem.W.mg_none_of X G zdict, PySem.W.mg_none_of X G zset, PySem.W.mg_none_of X G zany, PySem.W.mg_none_of X G zreversed⟩
  have T : Pc K mg C := ⟨PySem.W.mg_of X G aCl, ⟨pgC, hdC, poC, saC⟩, nSC, nAC⟩
  have TB : Bc K mg CB := ⟨PySem.W.mg_of X G aCBl, ⟨pgCB, hdCB, poCB, saCB⟩, nPCB⟩
  have e : Pe K C := ⟨caC, hn, ht, moC, ktC⟩
  have M : Mk K C fPI := ⟨mkC, inPI, fnPI, kpC⟩
  have MB : Mk K CB fBI := ⟨mkCB, inBI, fnBI, kpCB⟩
  have TP : Pzc K mg CP := ⟨PySem.W.mg_of X G aCPl, ⟨pgCP, hdCP, poCP, saCP⟩, nBCP, nCCP, nTCP⟩
  have MP : Mk K CP fPZI := ⟨mkCP, inPZI, fnPZI, kpCP⟩
  have eB : Pe K CB := ⟨caCB, hn, ht, moCB, ktCB⟩
  have gMC : mg "MOST_CELLS" = some (.int 3 tkMC) := PySem.W.mg_of X G aMC
  have gPE2 : mg "PriceError" = some (.ref pe) := PySem.W.mg_of X G aPE2
  refine ⟨PySem.W.fnOf "law" "law" (defArgs sLaw) (defBody sLaw) (defScope sLaw) .none kVLaw dcLaw pmLaw anLaw cdLaw ctLaw, fun s v => .of_eq rfl, fun base _ _ => ?_⟩
  have GII := ok_II (P := l.prog) (w := w) (mg := mg) (base := base) FII B
  have GIB := ok_IB (P := l.prog) (w := w) (mg := mg) (base := base) FIB GII kkII bII gII
  have GIV := ok_IV (P := l.prog) (w := w) (mg := mg) (base := base) FIV GIB kkIB bIB gIB
  have GIS := ok_IS (P := l.prog) (w := w) (mg := mg) (base := base) FIS GII kkII bII gII
  have GIQ := ok_IQ (P := l.prog) (w := w) (mg := mg) (base := base) FIQ B
  have GIR := ok_IR (P := l.prog) (w := w) (mg := mg) (base := base) FIR B GIV kkIV bIV gIV
  have GRO := ok_RO (P := l.prog) (w := w) (mg := mg) (base := base) FRO B
  have GRO8 := ok_RO8 (P := l.prog) (w := w) (mg := mg) (base := base) FRO B
  have GRN := ok_RN (P := l.prog) (w := w) (mg := mg) (base := base) FRN
  have GAA := ok_AA (P := l.prog) (w := w) (mg := mg) (base := base) FAA B GIQ kkIQ bIQ gIQ GII kkII bII gII
  have GXSt := ok_XSt (P := l.prog) (w := w) (mg := mg) (base := base) FXSt
  have GXCe := ok_XCe (P := l.prog) (w := w) (mg := mg) (base := base) FXCe
  have GPI := ok_PI0 (P := l.prog) (w := w) (mg := mg) (base := base) FPI T B GIS kkIS bIS gIS GAA kkAA bAA gAA
  have GPC := ok_PC0 (P := l.prog) (w := w) (mg := mg) (base := base) FPC T GIR kkIR bIR gIR GRN kkRN bRN gRN
  have GAR := ok_AR (P := l.prog) (w := w) (mg := mg) (base := base) FAR B T e GIQ kkIQ bIQ gIQ
  have GBI := ok_BI (P := l.prog) (w := w) (mg := mg) (base := base) FBI TB neB B GAR kkAR bAR gAR
  have GBL := ok_BL (P := l.prog) (w := w) (mg := mg) (base := base) (C := C) FBL B TB
  have GIsI := ok_IsI (P := l.prog) (w := w) (mg := mg) (base := base) FII B
  have GINB := ok_INB (P := l.prog) (w := w) (mg := mg) (base := base) FIB B GIsI kkII bII gII
  have GINu := ok_INu (P := l.prog) (w := w) (mg := mg) (base := base) FINu GIsI kkII bII gII
  have GITi := ok_ITi (P := l.prog) (w := w) (mg := mg) (base := base) FITi B T TB GINB kkIB bIB gIB GIsI kkII bII gII GBL bBL inBL fnBL
  have GIQD := ok_IQD (P := l.prog) (w := w) (mg := mg) (base := base) FIQ B
  have GFNT := ok_FNT (P := l.prog) (w := w) (mg := mg) (base := base) FFNT B GIQD kkIQ bIQ gIQ GITi kkITi bITi gITi
  have GPZI := ok_PZI0 (P := l.prog) (w := w) (mg := mg) (base := base) FPZI B TB eB TP nePC nePB GINu kkINu bINu gINu GFNT kkFNT bFNT gFNT
  have GIVD := ok_IVD (P := l.prog) (w := w) (mg := mg) (base := base) FIV GINB kkIB bIB gIB
  have GIPa := ok_IPa (P := l.prog) (w := w) (mg := mg) (base := base) FIPa B GINB kkIB bIB gIB GIVD kkIV bIV gIV
  have GISt := ok_ISt (P := l.prog) (w := w) (mg := mg) (base := base) FISt B TP GIPa kkIPa bIPa gIPa
  have GSFr := ok_SFr (P := l.prog) (w := w) (mg := mg) (base := base) FSFr B
  have GAT := ok_AT (P := l.prog) (w := w) (mg := mg) (base := base) FAT
  have GWAt := ok_WAt (P := l.prog) (w := w) (mg := mg) (base := base) FWAt B
  have GSOP := ok_SOP (P := l.prog) (w := w) (mg := mg) (base := base) FSOP B T GRO kkRO bRO gRO GAT kkAT bAT gAT GSFr kkSFr bSFr gSFr GWAt kkWAt bWAt gWAt mPC GPC bPC
  have GLLe := ok_LLe (P := l.prog) (w := w) (mg := mg) (base := base) FLLe B
  have GSmO := ok_SmO (P := l.prog) (w := w) (mg := mg) (base := base) DSmO B T TB TP XCT inCT itCT GXSt bXSt GISt kkISt bISt gISt GSOP kkSOP bSOP gSOP GLLe kkLLe bLLe gLLe GAT kkAT bAT gAT GSFr kkSFr bSFr gSFr
  have GFrC := ok_FrC (P := l.prog) (w := w) (mg := mg) (base := base) FFrC B TP
  have GArC := ok_ArC (P := l.prog) (w := w) (mg := mg) (base := base) FArC B GIsI kkII bII gII gMC
  have GWrs := ok_Wrs (P := l.prog) (w := w) (mg := mg) (base := base) FWrs B
  have GWrP := ok_WrP (P := l.prog) (w := w) (mg := mg) (base := base) DWrP B T TP XCX inCX itCX GXCe bXCe GSmO kkSmO bSmO gSmO GFrC kkFrC bFrC gFrC GArC kkArC bArC gArC GRO8 kkRO bRO gRO GWrs kkWrs bWrs gWrs M GPI bPI
  have GDraws := ok_draws (P := l.prog) (w := w) (mg := mg) (base := base) FDraws B
  have GTake := ok_take (P := l.prog) (w := w) (mg := mg) (base := base) FTake B
  have GEvery := ok_every (P := l.prog) (w := w) (mg := mg) (base := base) FEvery B
  have GPlaceL := ok_placeL (P := l.prog) (w := w) (mg := mg) (base := base) FPlace
  have GAm3 := ok_Am3 (P := l.prog) (w := w) (mg := mg) (base := base) FAm3 GTake kkTake bTake gTake
  have GLTi := ok_LTi (P := l.prog) (w := w) (mg := mg) (base := base) FLTi B GTake kkTake bTake gTake
  have GLB := ok_LB (P := l.prog) (w := w) (mg := mg) (base := base) FLB T TB neB M GPI bPI MB GBI bBI
  have GLTo := ok_LTo (P := l.prog) (w := w) (mg := mg) (base := base) FLTo GPlaceL kkPlace bPlace gPlace
  have GLKe := ok_LKe (P := l.prog) (w := w) (mg := mg) (base := base) FLKe B
  have GLTs := ok_LTs (P := l.prog) (w := w) (mg := mg) (base := base) FLTs GEvery kkEvery bEvery gEvery GLKe kkLKe bLKe gLKe GLTo kkLTo bLTo gLTo
  have GLSt := ok_LSt (P := l.prog) (w := w) (mg := mg) (base := base) FLSt B GTake kkTake bTake gTake
  have GLFr := ok_LFr (P := l.prog) (w := w) (mg := mg) (base := base) FLFr B GTake kkTake bTake gTake
  have GPlaceT := ok_placeT (P := l.prog) (w := w) (mg := mg) (base := base) FPlace
  have GLIs := ok_LIs (P := l.prog) (w := w) (mg := mg) (base := base) FLIs B GEvery kkEvery bEvery gEvery GPlaceL kkPlace bPlace gPlace
  have GLBn := ok_LBn (P := l.prog) (w := w) (mg := mg) (base := base) FLBn B GTake kkTake bTake gTake GEvery kkEvery bEvery gEvery GAm3 kkAm3 bAm3 gAm3
  have GLKp := ok_LKp (P := l.prog) (w := w) (mg := mg) (base := base) FLKp B GTake kkTake bTake gTake GEvery kkEvery bEvery gEvery GAm3 kkAm3 bAm3 gAm3 GLBn kkLBn bLBn gLBn
  exact ok_law (CT := CT) (CX := CX) FLaw B T e TB TP GDraws kkDraws bDraws gDraws GTake kkTake bTake gTake GLKp kkLKp bLKp gLKp GLTi kkLTi bLTi gLTi GLB kkLB bLB gLB MP GPZI bPZI GLSt kkLSt bLSt gLSt GLFr kkLFr bLFr gLFr GLTs kkLTs bLTs gLTs GLIs kkLIs bLIs gLIs GPlaceL kkPlace bPlace gPlace GPlaceT GWrP kkWrP bWrP gWrP
end CC

open PySem PySem.W PyProof.Rows
set_option maxHeartbeats 0 in
theorem PySem.Challenge.cw_cutorall_k49_whole_kinds_kept_by_writing_holds : PySem.Challenge.rw_cutorall_k49_whole_kinds_kept_by_writing.Holds := by
  w_on; o_law; k_head; (case hw => w_witness2)
  k_fill
  refine Ek.walk_ofG (l := PySem.Challenge.rw_cutorall_k49_whole_kinds_kept_by_writing) (n := 63) (k := 10) (x := "script") (sp := CP.spLaw) rfl (by decide) rfl ⟨rfl, by decide, by decide⟩ (fun w h Y => PySem.W.kIn_of Y) ?F (fun _ _ a ns hl _ hS => ⟨a, ns, rfl, hS, hl, fun _ => rfl⟩)
  case F =>
    intro w mg fa h KX G hmg
    refine' CC.all_mk KX G hmg ?aCT ?xLCT ?saCT ?gaCT ?ggCT ?caCT ?tyCT ?kpCT ?noCT ?inCT ?itCT ?lXSt ?cXSt ?kkXSt ?aCX ?xLCX ?saCX ?gaCX ?ggCX ?caCX ?tyCX ?kpCX ?noCX ?inCX ?itCX ?lXCe ?cXCe ?kkXCe ?aCl ?pgC ?hdC ?poC ?saC ?mkC ?kpC ?nSC ?nAC ?aCBl ?pgCB ?hdCB ?poCB ?saCB ?mkCB ?kpCB ?nPCB ?aCPl ?pgCP ?hdCP ?poCP ?saCP ?mkCP ?kpCP ?nBCP ?nCCP ?nTCP ?caCB ?moCB ?ktCB ?caC ?moC ?ktC ?inPI ?fnPI ?lPI ?cPI ?kkPI ?inPC ?fnPC ?lPC ?cPC ?kkPC ?inBI ?fnBI ?lBI ?cBI ?kkBI ?inBL ?fnBL ?lBL ?cBL ?kkBL ?inPZI ?fnPZI ?lPZI ?cPZI ?kkPZI ?aII ?lII ?cII ?kkII ?aINu ?lINu ?cINu ?kkINu ?aIB ?lIB ?cIB ?kkIB ?aIV ?lIV ?cIV ?kkIV ?aIS ?lIS ?cIS ?kkIS ?aIQ ?lIQ ?cIQ ?kkIQ ?aIR ?lIR ?cIR ?kkIR ?aRO ?lRO ?cRO ?kkRO ?aRN ?lRN ?cRN ?kkRN ?aAA ?lAA ?cAA ?kkAA ?aAR ?lAR ?cAR ?kkAR ?aITi ?lITi ?cITi ?kkITi ?aFNT ?lFNT ?cFNT ?kkFNT ?aIPa ?lIPa ?cIPa ?kkIPa ?aISt ?lISt ?cISt ?kkISt ?aFrC ?lFrC ?cFrC ?kkFrC ?aSFr ?lSFr ?cSFr ?kkSFr ?aAT ?lAT ?cAT ?kkAT ?aWAt ?lWAt ?cWAt ?kkWAt ?aSOP ?lSOP ?cSOP ?kkSOP ?aLLe ?lLLe ?cLLe ?kkLLe ?aSmO ?lSmO ?cSmO ?kkSmO ?tTSmO ?tESmO ?aWrs ?lWrs ?cWrs ?kkWrs ?aArC ?lArC ?cArC ?kkArC ?aWrP ?lWrP ?cWrP ?kkWrP ?tTWrP ?tEWrP ?aDraws ?lDraws ?cDraws ?kkDraws ?aTake ?lTake ?cTake ?kkTake ?aEvery ?lEvery ?cEvery ?kkEvery ?aPlace ?lPlace ?cPlace ?kkPlace ?aAm3 ?lAm3 ?cAm3 ?kkAm3 ?aLTi ?lLTi ?cLTi ?kkLTi ?aLB ?lLB ?cLB ?kkLB ?aLTo ?lLTo ?cLTo ?kkLTo ?aLKe ?lLKe ?cLKe ?kkLKe ?aLTs ?lLTs ?cLTs ?kkLTs ?aLSt ?lLSt ?cLSt ?kkLSt ?aLFr ?lLFr ?cLFr ?kkLFr ?aLIs ?lLIs ?cLIs ?kkLIs ?aLBn ?lLBn ?cLBn ?kkLBn ?aLKp ?lLKp ?cLKp ?kkLKp ?aLaw ?lLaw ?cLaw ?kkLaw ?aPE2 ?hn ?ht ?cPE2 ?tPE2 ?aMC ?zlen ?zint ?zabs ?zrange ?zisinstance ?zbool ?zlist ?ztuple ?zall ?zmin ?zmax ?zsum ?zrepr ?zzip ?zenumerate ?zsorted ?zdict ?zset ?zany ?zreversed ?neS ?neC ?neB ?nePC ?nePB
    (case aCT => k_is)
    (case xLCT => k_is)
    (case saCT => k_is)
    (case gaCT => k_is)
    (case ggCT => k_is)
    (case caCT => k_is)
    (case tyCT => k_is)
    (case kpCT => k_is)
    (case noCT => k_is)
    (case inCT => k_is)
    (case itCT => k_is)
    (case lXSt => k_is)
    (case cXSt => k_is)
    (case kkXSt => k_is)
    (case aCX => k_is)
    (case xLCX => k_is)
    (case saCX => k_is)
    (case gaCX => k_is)
    (case ggCX => k_is)
    (case caCX => k_is)
    (case tyCX => k_is)
    (case kpCX => k_is)
    (case noCX => k_is)
    (case inCX => k_is)
    (case itCX => k_is)
    (case lXCe => k_is)
    (case cXCe => k_is)
    (case kkXCe => k_is)
    (case aCl => k_is)
    (case pgC => (first | k_is | rfl | decide +kernel))
    (case hdC => (first | k_is | rfl | decide +kernel))
    (case poC => (first | k_is | rfl | decide +kernel))
    (case saC => k_is)
    (case mkC => (first | k_is | rfl | decide +kernel))
    (case kpC => k_is)
    (case nSC => k_is)
    (case nAC => k_is)
    (case aCBl => k_is)
    (case pgCB => (first | k_is | rfl | decide +kernel))
    (case hdCB => (first | k_is | rfl | decide +kernel))
    (case poCB => (first | k_is | rfl | decide +kernel))
    (case saCB => k_is)
    (case mkCB => (first | k_is | rfl | decide +kernel))
    (case kpCB => k_is)
    (case nPCB => k_is)
    (case aCPl => k_is)
    (case pgCP => (first | k_is | rfl | decide +kernel))
    (case hdCP => (first | k_is | rfl | decide +kernel))
    (case poCP => (first | k_is | rfl | decide +kernel))
    (case saCP => k_is)
    (case mkCP => (first | k_is | rfl | decide +kernel))
    (case kpCP => k_is)
    (case nBCP => k_is)
    (case nCCP => k_is)
    (case nTCP => k_is)
    (case caCB => k_is)
    (case moCB => (first | k_is | rfl | decide +kernel))
    (case ktCB => (first | k_is | rfl | decide +kernel))
    (case caC => k_is)
    (case moC => (first | k_is | rfl | decide +kernel))
    (case ktC => (first | k_is | rfl | decide +kernel))
    (case inPI => k_is)
    (case fnPI => (first | k_is | rfl | decide +kernel))
    (case lPI => k_is)
    (case cPI => k_is)
    (case kkPI => k_is)
    (case inPC => k_is)
    (case fnPC => (first | k_is | rfl | decide +kernel))
    (case lPC => k_is)
    (case cPC => k_is)
    (case kkPC => k_is)
    (case inBI => k_is)
    (case fnBI => (first | k_is | rfl | decide +kernel))
    (case lBI => k_is)
    (case cBI => k_is)
    (case kkBI => k_is)
    (case inBL => k_is)
    (case fnBL => (first | k_is | rfl | decide +kernel))
    (case lBL => k_is)
    (case cBL => k_is)
    (case kkBL => k_is)
    (case inPZI => k_is)
    (case fnPZI => (first | k_is | rfl | decide +kernel))
    (case lPZI => k_is)
    (case cPZI => k_is)
    (case kkPZI => k_is)
    (case aII => k_is)
    (case lII => k_is)
    (case cII => k_is)
    (case kkII => k_is)
    (case aINu => k_is)
    (case lINu => k_is)
    (case cINu => k_is)
    (case kkINu => k_is)
    (case aIB => k_is)
    (case lIB => k_is)
    (case cIB => k_is)
    (case kkIB => k_is)
    (case aIV => k_is)
    (case lIV => k_is)
    (case cIV => k_is)
    (case kkIV => k_is)
    (case aIS => k_is)
    (case lIS => k_is)
    (case cIS => k_is)
    (case kkIS => k_is)
    (case aIQ => k_is)
    (case lIQ => k_is)
    (case cIQ => k_is)
    (case kkIQ => k_is)
    (case aIR => k_is)
    (case lIR => k_is)
    (case cIR => k_is)
    (case kkIR => k_is)
    (case aRO => k_is)
    (case lRO => k_is)
    (case cRO => k_is)
    (case kkRO => k_is)
    (case aRN => k_is)
    (case lRN => k_is)
    (case cRN => k_is)
    (case kkRN => k_is)
    (case aAA => k_is)
    (case lAA => k_is)
    (case cAA => k_is)
    (case kkAA => k_is)
    (case aAR => k_is)
    (case lAR => k_is)
    (case cAR => k_is)
    (case kkAR => k_is)
    (case aITi => k_is)
    (case lITi => k_is)
    (case cITi => k_is)
    (case kkITi => k_is)
    (case aFNT => k_is)
    (case lFNT => k_is)
    (case cFNT => k_is)
    (case kkFNT => k_is)
    (case aIPa => k_is)
    (case lIPa => k_is)
    (case cIPa => k_is)
    (case kkIPa => k_is)
    (case aISt => k_is)
    (case lISt => k_is)
    (case cISt => k_is)
    (case kkISt => k_is)
    (case aFrC => k_is)
    (case lFrC => k_is)
    (case cFrC => k_is)
    (case kkFrC => k_is)
    (case aSFr => k_is)
    (case lSFr => k_is)
    (case cSFr => k_is)
    (case kkSFr => k_is)
    (case aAT => k_is)
    (case lAT => k_is)
    (case cAT => k_is)
    (case kkAT => k_is)
    (case aWAt => k_is)
    (case lWAt => k_is)
    (case cWAt => k_is)
    (case kkWAt => k_is)
    (case aSOP => k_is)
    (case lSOP => k_is)
    (case cSOP => k_is)
    (case kkSOP => k_is)
    (case aLLe => k_is)
    (case lLLe => k_is)
    (case cLLe => k_is)
    (case kkLLe => k_is)
    (case aSmO => k_is)
    (case lSmO => k_is)
    (case cSmO => k_is)
    (case kkSmO => k_is)
    (case tTSmO => k_is)
    (case tESmO => k_is)
    (case aWrs => k_is)
    (case lWrs => k_is)
    (case cWrs => k_is)
    (case kkWrs => k_is)
    (case aArC => k_is)
    (case lArC => k_is)
    (case cArC => k_is)
    (case kkArC => k_is)
    (case aWrP => k_is)
    (case lWrP => k_is)
    (case cWrP => k_is)
    (case kkWrP => k_is)
    (case tTWrP => k_is)
    (case tEWrP => k_is)
    (case aDraws => k_is)
    (case lDraws => k_is)
    (case cDraws => k_is)
    (case kkDraws => k_is)
    (case aTake => k_is)
    (case lTake => k_is)
    (case cTake => k_is)
    (case kkTake => k_is)
    (case aEvery => k_is)
    (case lEvery => k_is)
    (case cEvery => k_is)
    (case kkEvery => k_is)
    (case aPlace => k_is)
    (case lPlace => k_is)
    (case cPlace => k_is)
    (case kkPlace => k_is)
    (case aAm3 => k_is)
    (case lAm3 => k_is)
    (case cAm3 => k_is)
    (case kkAm3 => k_is)
    (case aLTi => k_is)
    (case lLTi => k_is)
    (case cLTi => k_is)
    (case kkLTi => k_is)
    (case aLB => k_is)
    (case lLB => k_is)
    (case cLB => k_is)
    (case kkLB => k_is)
    (case aLTo => k_is)
    (case lLTo => k_is)
    (case cLTo => k_is)
    (case kkLTo => k_is)
    (case aLKe => k_is)
    (case lLKe => k_is)
    (case cLKe => k_is)
    (case kkLKe => k_is)
    (case aLTs => k_is)
    (case lLTs => k_is)
    (case cLTs => k_is)
    (case kkLTs => k_is)
    (case aLSt => k_is)
    (case lLSt => k_is)
    (case cLSt => k_is)
    (case kkLSt => k_is)
    (case aLFr => k_is)
    (case lLFr => k_is)
    (case cLFr => k_is)
    (case kkLFr => k_is)
    (case aLIs => k_is)
    (case lLIs => k_is)
    (case cLIs => k_is)
    (case kkLIs => k_is)
    (case aLBn => k_is)
    (case lLBn => k_is)
    (case cLBn => k_is)
    (case kkLBn => k_is)
    (case aLKp => k_is)
    (case lLKp => k_is)
    (case cLKp => k_is)
    (case kkLKp => k_is)
    (case aLaw => k_is)
    (case lLaw => k_is)
    (case cLaw => k_is)
    (case kkLaw => k_is)
    (case aPE2 => k_is)
    (case hn => k_is)
    (case ht => k_is)
    (case cPE2 => (first | k_is | rfl | decide +kernel))
    (case tPE2 => k_is)
    (case aMC => k_is)
    (case zlen => k_is)
    (case zint => k_is)
    (case zabs => k_is)
    (case zrange => k_is)
    (case zisinstance => k_is)
    (case zbool => k_is)
    (case zlist => k_is)
    (case ztuple => k_is)
    (case zall => k_is)
    (case zmin => k_is)
    (case zmax => k_is)
    (case zsum => k_is)
    (case zrepr => k_is)
    (case zzip => k_is)
    (case zenumerate => k_is)
    (case zsorted => k_is)
    (case zdict => k_is)
    (case zset => k_is)
    (case zany => k_is)
    (case zreversed => k_is)
    (case neS => decide)
    (case neC => decide)
    (case neB => decide)
    (case nePC => decide)
    (case nePB => decide)

