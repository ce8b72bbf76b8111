import PyProof.Rows.All
import Wide.All
import OpenK.AllK
import Wide.FinOn
import HandS.ForMost
import HandS.ForExc
import HandS.ExcInit
import HandS.ExcIs
import HandS.IsInst
import HandS.Defaults
import HandS.MakeKwOnly
import HandS.Flow
import KE.KExcIs
import HandS.ExcField
import HandS.OwnEq
import HandS.TupMul
import HandS.TupAny
import HandS.Style
import HandS.CallSlots
import KE.DataMinMax
import HandS.RaiseMore
import HandS.TryOnly
import PyProof.Rows.ReprOcc
import HandS.Exc
import HandS.Zip
import PySem.Challenge.RW_cutorall_k03_prices_from_others
set_option Elab.async false
set_option linter.all false
set_option maxRecDepth 100000
set_option maxHeartbeats 4000000
namespace Ek
open PySem PySem.W PySem.Calls PyProof.Rows PySem.HandSPX
section
variable {prog : Program} {w : World} {A : Around} {E : Value → Shared → Prop} {R : Result → Shared → Prop} {h : Heap} {g : Array GenState} {d : Drawn} {t : Nat} {os : OsState}
variable {nm q : Str} {C N fI : Addr} {bs bm bmB : List Value} {hdct : Bool} {sn : List Str} {sub : List Value} {ab : Bool} {col : Option Bool} {dd : Option Addr} {k0 k1 k2 k3 k5 : Option Value} {B newId initId : String}
/-- the check ahead of an own exception's making, keywords or none -/
theorem chk_kw (F : ExcBaseFacts B newId initId bmB) (hT : ∀ X : String, bm.contains (.type X) = bmB.contains (.type X)) {us : List Value} {kw : List (Str × Value)} {Q : Unit → Shared → Prop}
    (hC : h.get? C = some (excClassObj nm q C N bs bm hdct sn sub ab col dd k0 k1 k2 k3 k5 newId)) (z : Q () ⟨h, g, d, t, os⟩) : wpAny (model prog w) A (checkBuiltinCall newId ⟨.ref C :: us, kw⟩) Q E ⟨h, g, d, t, os⟩ := by
  have isB : (Value.ref C :: bm).contains (.type B) = true := by rw [List.contains_cons, hT, F.hasB, Bool.or_true]
  have st := F.noStar
  simp only [checkBuiltinCall, F.newKind, F.newSplit, F.newRow]
  repeat (first | (refine wpAny_isSubtype_exc hC ?_; rw [isB]) | refine wpAny_staticBase_exc hC ?_ | refine wpAny_madeBy_exc hC ?_ | refine wpAny_loadPart_at hC ?_ | simp only [bne_self_eq_false, Bool.false_eq_true, if_false] | wp_step)
  exact z
/-- what is laid: the tuple of the values by place, the exception -/
def laid (h : Heap) (C : Addr) (us : List Value) : Heap := (h.push (W.kdv_tup us)).push (excO C h.objs.size)
theorem new_kw (F : ExcBaseFacts B newId initId bmB) (hT : ∀ X : String, bm.contains (.type X) = bmB.contains (.type X)) {us : List Value} {kw : List (Str × Value)} (hC : h.get? C = some (excClassObj nm q C N bs bm hdct sn sub ab col dd k0 k1 k2 k3 k5 newId))
    (hz : us.length ≤ sizeLine) (z : R (.ok (.ret (.ref (h.objs.size + 1)))) ⟨laid h C us, g, d, t, os⟩) : codeAny (model prog w) A (.builtin newId ⟨.ref C :: us, kw⟩) R ⟨h, g, d, t, os⟩ := by
  have en := F.ends
  have isB : (Value.ref C :: bm).contains (.type B) = true := by rw [List.contains_cons, hT, F.hasB, Bool.or_true]
  have isA : (Value.ref C :: bm).contains (.type "AttributeError") = false := by rw [List.contains_cons, hT, F.noAttr]; rfl
  have isN : (Value.ref C :: bm).contains (.type "NameError") = false := by rw [List.contains_cons, hT, F.noName]; rfl
  refine codeAny_builtinAt F.entry ?_
  unfold Builtin.«BaseException.__new__»
  refine PySem.wpAt_bind ?_
  show PySem.wpAt _ _ _ (stack >>= _) _ _ _
  refine PySem.wpAt_bind (PySem.wpAt_stack fun p below => PySem.wpAt_of_wpAny ?_)
  wp_walk
  refine PySem.wpAt_of_wpAny ?_
  rw [F.owner]
  repeat (first | (with_reducible refine wpAny_isSubtype_exc hC ?_; first | rw [isB] | rw [isA] | rw [isN]) | with_reducible refine wpAny_madeHere_exc F.canon hC ?_ | with_reducible refine wpAny_loadPart_at hC ?_ | wp_step)
  show R _ _
  rw [Heap.size_push]
  exact z
theorem made_kw (F : ExcBaseFacts B newId initId bmB) (hT : ∀ X : String, bm.contains (.type X) = bmB.contains (.type X)) {us : List Value} {kw : List (Str × Value)} {Q : Fin → Shared → Prop} (hC : h.get? C = some (excClassObj nm q C N bs bm hdct sn sub ab col dd k0 k1 k2 k3 k5 newId))
    (hi : W.Looks (model prog w) h (typeLookup (.ref C) "__init__") (some (.ref fI))) (hb : ∀ self, W.Looks (model prog w) h (bindSpecial (.ref fI) self) (.ref fI, [self])) (hz : us.length ≤ sizeLine)
    (y : codeAny (model prog w) A (.call (.ref fI) ⟨.ref (h.objs.size + 1) :: us, kw⟩) (fun r s' => match r with | .ok (.ret v) => v = .none ∧ Q (.done (.ret (.ref (h.objs.size + 1)))) s' | .ok _ => False | .error e => E e s') ⟨laid h C us, g, d, t, os⟩) :
    wpAny (model prog w) A (Builtin.«type.__call__» ⟨.ref C :: us, kw⟩) Q E ⟨h, g, d, t, os⟩ := by
  repeat (first | with_reducible refine wpAny_madeBy_exc hC ?_ | with_reducible refine wpAny_loadPart_at hC ?_ | wp_step)
  refine codeAny_call_builtin_code (Code.quiet_builtin _ F.quiet) (chk_kw F hT hC (new_kw F hT hC hz (show wpAny _ _ _ _ _ _ from ?_)))
  have k : ∀ b o, h.get? b = some o → (laid h C us).get? b = some o := fun b o e => Heap.get?_push_of_some _ (Heap.get?_push_of_some _ e)
  have hx : (laid h C us).get? (h.objs.size + 1) = some (excO C h.objs.size) := by unfold laid; heap_get
  have isC : (Value.ref C :: bm).contains (.ref C) = true := by simp
  unfold isInstance
  repeat (first | (with_reducible refine wpAny_isSubtype_exc (k _ _ hC) ?_; rw [isC]) | with_reducible refine wpAny_loadPart_at hx ?_ | wp_step)
  refine (show wpAny _ _ (typeLookup (.ref C) _) _ _ _ from (hi.keeps k).at (wpAny_holding (wpAny_bind (((hb (.ref (h.objs.size + 1))).keeps k).at (wpAny_bind (wpAny_call (codeAny_mono y fun r s' z => ?_)))))))
  rcases r with e | (v | _ | _ | _) <;> first | exact z | exact z.elim | skip
  obtain ⟨rfl, z⟩ := z
  first | exact wpAny_pure (wpAny_pure z) | (wp_walk; exact z)
/-- C(.., k = v, ..) of an own exception class with its own __init__ -/
theorem call_kw (F : ExcBaseFacts B newId initId bmB) (hT : ∀ X : String, bm.contains (.type X) = bmB.contains (.type X)) {us : List Value} {kw : List (Str × Value)} (hC : h.get? C = some (excClassObj nm q C N bs bm hdct sn sub ab col dd k0 k1 k2 k3 k5 newId))
    (hi : W.Looks (model prog w) h (typeLookup (.ref C) "__init__") (some (.ref fI))) (hb : ∀ self, W.Looks (model prog w) h (bindSpecial (.ref fI) self) (.ref fI, [self])) (hz : us.length ≤ sizeLine)
    (y : codeAny (model prog w) (A.under (.builtin "type.__call__" ⟨.ref C :: us, kw⟩)) (.call (.ref fI) ⟨.ref (h.objs.size + 1) :: us, kw⟩) (W.InitBack (h.objs.size + 1) R) ⟨laid h C us, g, d, t, os⟩) :
    codeAny (model prog w) A (.call (.ref C) ⟨us, kw⟩) R ⟨h, g, d, t, os⟩ := by
  have f1 := tc_lookup
  have f2 := tc_bind (.ref C)
  have ty : (⟨h, g, d, t, os⟩ : Shared).TypeIs (.ref C) "type" := ⟨_, hC, rfl⟩
  refine codeAny_of_tree (show wpAny _ _ (callAny (.ref C) _) _ _ _ from ?_)
  repeat (any_goals (first | with_reducible refine wpAny_loadPart_at hC ?_ | assumption | wp_step))
  refine ⟨rfl, codeAny_call_builtin_at (Code.quiet_builtin _ (by decide +kernel)) entry_typeCall (wpAny_check_type_call_sub hC (made_kw F hT hC hi hb hz (codeAny_mono y fun r s' z => ?_)))⟩
  rcases r with e | (v | _ | _ | _) <;> exact z
end
end Ek

namespace Ek
open PySem PySem.Spec PyProof.Rows L2
/-! ### own exceptions as values -/
/-- at a: an exception of the class at C that has the fields fs -/
def XA (H : Hp) (a C : Addr) (fs : List (Str × V)) : Prop := ∃ d, H a = some (exo a C (some d)) ∧ H d = some (exd d fs)
/-- C(..), its own __init__ keeping sp -/
def tEx (C : Addr) (sp : Sp) (ta : TA) : TE := fun σ H Q => ta σ H fun vs H1 => vs.length ≤ 1000 ∧ ∀ a, H1 a = none → sp (.ref a :: vs) (upd H1 a (exo a C none)) (fun v H2 => v = .non ∧ Q (.ref a) H2) E0
section
variable {X : Cx} {CX : CXT} {x : Str} {C fI : Addr} {k : Nat} {fd : FuncData} {ps ks : List Str} {sp : Sp} {p pos : Pos} {e : Expr} {es : List Expr} {kws : List Keyword} {ta : TA}
theorem run_ex {pins : List (Addr × Obj)} {σ : L2.St} {H : Hp} {s : Shared} {Q : VK} {us all : List Value} {kw : List (Str × Value)} {vs : List V} (T : OexC X.K C) (iC : PySem.W.findIn X.K (.ref C) "__init__" = some (some (.ref fI))) (tI : PySem.W.typeIn X.K (.ref fI) = some (.type "function"))
    (F : FnOk X.prog X.w X.K X.mg X.base CX k fI fd ps sp) (hr : Room (k + 1) X.A) (hb : ∀ (s : Shared) (self : Value), X.K.In s.heap → BindsTo s fd ⟨self :: us, kw⟩ (ps.zip (self :: all))) (hx : Passes CX X E0) (I : Inv X pins σ H s) (hz : us.length ≤ sizeLine) (r : Vals vs all)
    (h : ∀ a, H a = none → sp (.ref a :: vs) (upd H a (exo a C none)) (fun v H2 => v = .non ∧ Q (.ref a) H2) E0) : wpAny (model X.prog X.w) X.A (call (.ref C) us kw) (EP X pins σ Q) X.xe s := by
  obtain ⟨nm, q, N, bs, bm, sn, sub, ab, col, dd, k0, k1, k2, k3, k5, hC, hbm⟩ := T.cls
  obtain ⟨hp, g, dr, tk, os⟩ := s
  have sz : hp.objs.size ≤ hp.objs.size + 1 := Nat.le_succ _
  have hq := h (hp.objs.size + 1) (I.hok.fresh sz)
  have kk : ∀ b o, hp.get? b = some o → (laid hp C us).get? b = some o := fun b o e => Heap.get?_push_of_some _ (Heap.get?_push_of_some _ e)
  have gx : (laid hp C us).get? (hp.objs.size + 1) = some (PySem.HandSPX.excO C hp.objs.size) := by unfold laid; heap_get
  have I2 : Inv X pins σ (upd H (hp.objs.size + 1) (exo (hp.objs.size + 1) C none)) ⟨laid hp C us, g, dr, tk, os⟩ := I.laid (t' := tk) (a := hp.objs.size + 1) (o := exo (hp.objs.size + 1) C none) (h' := laid hp C us) kk sz (exo_ok gx)
  refine wpAny_call (call_kw PySem.F.excBase_ValueError (fun Y => PySem.HandSPX.refsVE_contains Y bm hbm) (I.kIn _ _ hC) (PySem.W.looks_findIn I.kIn iC) (fun self => PySem.W.bind_fn I.kIn self tI) hz
    (codeAny_mono (F.run _ X.stack _ _ ⟨Value.ref (hp.objs.size + 1) :: us, kw⟩ (Value.ref (hp.objs.size + 1) :: all) _ _ E0 (hr.make C us kw) (I2.env0.make C us kw) (hb _ _ I2.kIn) (show Vals (V.ref (hp.objs.size + 1) :: vs) (Value.ref (hp.objs.size + 1) :: all) from .cons rfl r) hq) fun r s' z => ?_))
  cases r with
  | error er => exact hx pins σ _ _ er s' I2 z
  | ok fl =>
    cases fl with
    | ret u =>
      obtain ⟨v, H2, I3, rv, ev, q3⟩ := I2.after z
      subst ev
      exact ⟨rv, ⟨V.ref (hp.objs.size + 1), H2, I3, rfl, q3⟩⟩
    | next => exact False.elim z
    | brk => exact False.elim z
    | cont => exact False.elim z
/-- C(e, ..) as a value -/
theorem pe_ex (T : OexC X.K C) (iC : PySem.W.findIn X.K (.ref C) "__init__" = some (some (.ref fI))) (tI : PySem.W.typeIn X.K (.ref fI) = some (.type "function")) (F : FnOk X.prog X.w X.K X.mg X.base CX k fI fd ps sp) (hr : Room (k + 1) X.A) (hg : Gl X x) (hm : X.mg x = some (.ref C))
    (hb : Binds X.K fd ps []) (hx : Passes CX X E0) (ha : PA X (e :: es) ta) (hdb : (x == ("__debug__" : Str)) = false := by decide)
    (he : starEach (e :: es) X.env = (false, eval e X.env) :: starEach es X.env := by rfl) (hpl : (backTo pos (starEach es X.env)).any (·.1) = false := by rfl) : PE X (.Call (.Name x p) (e :: es) [] pos) (tEx C sp ta) := by
  refine ⟨fun pins s σ H Q I h => ?_⟩
  refine wpAny_Call_Name_kw (ld_glob I hg hm ?_ hdb)
  refine PySem.W.callWith_K (h₀ := X.base) I.ok.mod.kin T.kC (thn (ha.run pos pins s σ H _ I h) fun us s1 ⟨vs, H1, I1, r, hz, q⟩ => ⟨I1.kIn, ?_⟩) he hpl
  have hl : ∀ self : Value, ((self :: us) ++ []).length = ps.length := fun self => by
    have z := F.len _ _ _ _ (q (s1.heap.objs.size) (I1.hok.fresh (Nat.le_refl _)))
    rw [← z, List.append_nil, List.length_cons, List.length_cons, ← r.length]
  refine run_ex (all := us) (kw := []) T iC tI F hr (fun s2 self KX => ?_) hx I1 (by show us.length ≤ sizeLine; rw [← r.length, sizeLine_eq]; omega) r q
  have z := hb s2 (self :: us) KX (hl self)
  rw [List.append_nil] at z
  exact z
/-- C(k = v, ..) as a value -/
theorem pe_exk (T : OexC X.K C) (iC : PySem.W.findIn X.K (.ref C) "__init__" = some (some (.ref fI))) (tI : PySem.W.typeIn X.K (.ref fI) = some (.type "function")) (F : FnOk X.prog X.w X.K X.mg X.base CX k fI fd ps sp) (hr : Room (k + 1) X.A)
    (hg : Gl X x) (hm : X.mg x = some (.ref C)) (hps : ps.length = ks.length + 1) (hb : ∀ (s : Shared) (self : Value) (ws : List Value), ws.length = ks.length → BindsTo s fd ⟨[self], ks.zip ws⟩ (ps.zip (self :: ws))) (hx : Passes CX X E0) (hkw : PK X kws ta)
    (hall : (backToKw pos (keywordEach kws X.env)).all (·.1.isSome) = true := by rfl) (hks : (backToKw pos (keywordEach kws X.env)).filterMap (·.1) = ks := by rfl) (hdb : (x == ("__debug__" : Str)) = false := by decide)
    (hpl : ((backTo pos (starEach [] X.env)).any (·.1) || (backToKw pos (keywordEach kws X.env)).any (·.1.isNone)) = false := by rfl) :
    PE X (.Call (.Name x p) [] kws pos) (tEx C sp ta) := by
  refine ⟨fun pins s σ H Q I h => ?_⟩
  refine wpAny_Call_Name_kw (ld_glob I hg hm ?_ hdb)
  refine PySem.W.callWith_KW0 (h₀ := X.base) I.ok.mod.kin T.kC hall ?_ hpl
  refine thn (hkw.run pos pins s σ H _ I h) fun ws s2 ⟨zs, H2, I2, rz, hz, q2⟩ => ⟨I2.kIn, ?_⟩
  rw [hks]
  have hl : ws.length = ks.length := by
    have z := F.len _ _ _ _ (q2 (s2.heap.objs.size) (I2.hok.fresh (Nat.le_refl _)))
    rw [← rz.length]
    exact Nat.succ.inj (z.trans hps)
  exact run_ex (us := []) (all := ws) T iC tI F hr (fun s3 self _ => hb s3 self ws hl) hx I2 (Nat.zero_le _) rz q2
/-- e.f of such an exception -/
def tXA (K : PySem.W.Frag) (f : Str) (te : TE) : TE := fun σ H Q => te σ H fun x H1 => ∃ a C fs v, x = .ref a ∧ XfC K C ∧ PySem.W.findIn K (.ref C) f = some none ∧ XA H1 a C fs ∧ fs.lookup f = some v ∧ Q v H1
theorem pe_xa {n : Str} {te : TE} (he : PE X e te) (hb : attributeBase e n X.env (eval e X.env) = eval e X.env := by rfl) : PE X (.Attribute e n pos) (tXA X.K n te) := by
  refine ⟨fun pins s σ H Q I h => ?_⟩
  refine attr_of hb (thn (he.run pins s σ H _ I h) fun u s1 ⟨x, H1, I1, rx, a, C, fs, v, ex, T, hno, ⟨d, ha, hd⟩, l, q⟩ => ?_)
  subst ex
  obtain rfl : u = Value.ref a := rx
  obtain ⟨t1, ho⟩ := exo_at I1.hok ha
  obtain ⟨mA, hns, rel⟩ := exd_at I1.hok hd
  obtain ⟨od, hod, hl⟩ := lookIn_ns hns
  obtain ⟨u, hu, ru⟩ := RelO.some_of (v := v) (o := mA n) (by rw [← l]; exact rel n)
  have J : PySem.W.InstAt s1.heap a { cls := .ref C, dict := some d, data := .fields #[.ref t1, .none, .none, .none, .bool false, .none] } C (some od) := ⟨ho, rfl, rfl, hod⟩
  exact HandSPX.exc_get I1.kIn J T.ga T.gg T.exC (PySem.W.findObj_own T.hdC hno rfl (by rw [hl, hu])) (handed_of ru) ⟨v, H1, I1.tok _, ru, q⟩
/-- isinstance(e, c), e such an exception -/
def rIsX (K : PySem.W.Frag) : List V → Hp → VK → Prop := fun xs H Q => ∃ (a C : Addr) (fs : List (Str × V)) (c : V) (u : Value) (b : Bool), xs = [.ref a, c] ∧ XA H a C fs ∧ ExcC K C ∧ ClsV c u ∧ PySem.W.kitOne K (.ref C) u = some b ∧ Q (.bl b) H
theorem call_isX : CallR X (.builtin "isinstance") (rIsX X.K) := by
  intro pins s σ H xs us Q I r h
  obtain ⟨a, D, fs, c, u, b, rfl, ⟨d, ha, hd⟩, C, k, e, q⟩ := h
  obtain ⟨u1, u2, rfl, r1, r2⟩ := vals2 r
  have e2 := k.eq r2
  subst e2
  obtain rfl : u1 = Value.ref a := r1
  obtain ⟨t1, ho⟩ := exo_at I.hok ha
  obtain ⟨mA, hns, rel⟩ := exd_at I.hok hd
  obtain ⟨od, hod, hl⟩ := lookIn_ns hns
  have J : PySem.W.InstAt s.heap a { cls := .ref D, dict := some d, data := .fields #[.ref t1, .none, .none, .none, .bool false, .none] } D (some od) := ⟨ho, rfl, rfl, hod⟩
  have hcl : (PySem.W.clsIn X.K D).isSome = true := by
    obtain ⟨cd, hc, _⟩ := PySem.W.any_some C.hd
    rw [hc]
    rfl
  exact PySem.W.kia_one (PySem.W.kitx_exc hcl C.hg C.hk C.hs C.ha C.hn C.ht C.hm) I.kIn J e (fun z => nomatch z) fun tk => ⟨.bl b, H, I.kept (t' := tk) fun _ _ z => z, rfl, q⟩
end
/-! ### repr of data -/
/-- what repr may be asked of -/
def Okd (d : PyData) : Prop := d.showable = true ∧ d.hasDict = false ∧ d.depth ≤ 32 ∧ d.shown.length ≤ 1000000
def rRepr (K : PySem.W.Frag) : List V → Hp → VK → Prop := fun xs H Q => ∃ x d, xs = [x] ∧ Dp K H x d ∧ isDisplay d = true ∧ Okd d ∧ Q (.str d.shown) H
section
variable {X : Cx}
theorem call_repr (hg : X.A.guards = some []) (hu : X.A.units + 64 < cLine) : CallR X (.builtin "repr") (rRepr X.K) := by
  intro pins s σ H xs us Q I r h
  obtain ⟨x, d, rfl, hd, hdis, ⟨h1, h2, h3, h4⟩, q⟩ := h
  obtain ⟨u, rfl, ru⟩ := vals1 r
  obtain ⟨as, hr⟩ := Dp.reads I d x u hd ru
  obtain ⟨a, rfl⟩ := isRef_of_reads hr hdis
  exact repr_of_reads' hr h1 (PyData.noDict_hsm h2) hg (by omega) (fun _ _ e => e) (fun h' u tk hk => ⟨.str d.shown, H, I.kept (t' := tk) hk, ⟨u, rfl⟩, q⟩) (by rw [sizeLine_eq]; omega)
end
end Ek

namespace Ek
open PySem PySem.Spec PyProof.Rows L2
/-! ### promises of defs that are called while nothing is being shown (so that repr may be asked) -/
structure FnG (P : Program) (w : World) (K : PySem.W.Frag) (mg : Str → Option Value) (base : Heap) (CX : CXT) (k : Nat) (f : Addr) (fd : FuncData) (ps : List Str) (sp : Sp) : Prop where
  len : ∀ vs H Q E, sp vs H Q E → vs.length = ps.length
  run : ∀ (A : Around) (outer : List Env) (s : Shared) (H : Hp) (args : Args) (us : List Value) (vs : List V) (Q : VK) (E : XK), Room k A → A.guards = some [] → Env0 P w K mg base A outer s H →
    BindsTo s fd args (ps.zip us) → Vals vs us → sp vs H Q E → codeAny (model P w) A (.call (.ref f) args) (CR CX outer P w H s Q E) s
section
variable {P : Program} {w : World} {K : PySem.W.Frag} {mg : Str → Option Value} {base : Heap} {CX : CXT} {k : Nat} {f : Addr} {fd : FuncData} {ps : List Str} {sp : Sp}
theorem FnG.mono {j : Nat} (F : FnG P w K mg base CX j f fd ps sp) (h : j ≤ k) : FnG P w K mg base CX k f fd ps sp := ⟨F.len, fun A outer s H args us vs Q E hr => F.run A outer s H args us vs Q E (hr.mono h)⟩
/-- a def by its body -/
theorem okGX {x qual : Str} {st : Stmt} {N : List Str} (F : Fun K x qual st f fd) (S : FnScope N ps (defScope st)) (len : ∀ vs H Q E, sp vs H Q E → vs.length = ps.length)
    (body : ∀ (cdv : Value) (A : Around) (outer : List Env) (s : Shared) (H : Hp) (vs : List V) (Q : VK) (E : XK), Room k (A.deeper (envOfC qual (defScope st) s.heap.objs.size f cdv)) → A.guards = some [] → sp vs H Q E →
      ∃ t, PSs (cxOf CX P w K mg base N qual (defScope st) f cdv A outer s H E) (defBody st) t ∧ t { nx := fun _ H' => Q .non H', rt := Q } (start N vs) H) : FnG P w K mg base CX (k + 1) f fd ps sp := by
  obtain ⟨oc, od, kV, doc, pm, an, cdv, ct, osl, rfl, lk, hcd⟩ := F.ex
  constructor
  · exact len
  intro A outer s H args us vs Q E hr gd e0 hb r hsp
  have KX : K.In s.heap := e0.mod.kin.keeps fun b o e => (e0.bs b o e).1
  have kd : ∀ y ∈ ps.zip us, (defScope st).names.lookup y.1 = some .local ∨ ((defScope st).names.lookup y.1 = some .cell ∧ ((cellsFrom (s.heap.objs.size + 1) (defScope st).names []).lookup y.1).isSome = true) := by
    rintro ⟨n, v⟩ hy
    exact (S.par n (List.of_mem_zip hy).1).imp id fun q => ⟨q, PySem.W.cellsFrom_some _ _ _ (.inl q)⟩
  refine codeAny_call_function hr.depth (KX _ _ lk) rfl S.co S.gen rfl (PySem.W.codeRec_of KX hcd) (hb _ _ _ _ (wpAny_newFunctionEnv_cells S.kind kd fun env he s1 x => ?_))
  subst he
  obtain ⟨t, ht, hq⟩ := body cdv A outer s H vs Q E (hr.deeper _) gd hsp
  refine ⟨(e0.mod.nolimit.keeps fun b o e => (e0.bs b o e).1).keeps x.toInCall.keep, codeAny_func (wpAny_mono (ht.run [] s1 _ _ _ (inv_start S hr.hd e0 (len _ _ _ _ hsp) r x) hq) (fun fl s' hs => ?_) fun e s' hs => hs)⟩
  rcases fl with _ | _ | _ | u
  · obtain ⟨σ', H', J, q⟩ := hs
    exact ⟨V.non, H', J.os, J.bare, J.base, J.hok, rfl, q⟩
  · exact False.elim (by obtain ⟨_, _, _, q⟩ := hs; exact q)
  · exact False.elim (by obtain ⟨_, _, _, q⟩ := hs; exact q)
  · obtain ⟨v, σ', H', J, rv, q⟩ := hs
    exact ⟨v, H', J.os, J.bare, J.base, J.hok, rv, q⟩
theorem okG {x qual : Str} {st : Stmt} {N : List Str} (F : Fun K x qual st f fd) (S : FnScope N ps (defScope st)) (len : ∀ vs H Q E, sp vs H Q E → vs.length = ps.length)
    (body : ∀ (cdv : Value) (A : Around) (outer : List Env) (s : Shared) (H : Hp) (vs : List V) (Q : VK) (E : XK), Room k (A.deeper (envOfC qual (defScope st) s.heap.objs.size f cdv)) → A.guards = some [] → sp vs H Q E →
      ∃ t, PSs (cxOf CX0 P w K mg base N qual (defScope st) f cdv A outer s H E).nox (defBody st) t ∧ t { nx := fun _ H' => Q .non H', rt := Q } (start N vs) H) : FnG P w K mg base CX0 (k + 1) f fd ps sp :=
  okGX F S len fun cdv A outer s H vs Q E hr gd hsp => by
    obtain ⟨t, h, q⟩ := body cdv A outer s H vs Q E hr gd hsp
    exact ⟨t, h.nox, q⟩
end
section
variable {X : Cx} {CX : CXT} {x : Str} {f : Addr} {k : Nat} {fd : FuncData} {ps : List Str} {sp : Sp} {E : XK} {ds : List Value} {dvs : List V} {p pos : Pos} {e : Expr} {es : List Expr} {t : TA}
/-- f(e, ..) of such a def -/
theorem pe_callG (F : FnG X.prog X.w X.K X.mg X.base CX k f fd ps sp) (hr : Room k X.A) (gd : X.A.guards = some []) (hg : Gl X x) (hm : X.mg x = some (.ref f)) (hk : PySem.W.keepIn X.K (.ref f) = true) (hb : Binds X.K fd ps ds) (hd : Vals dvs ds) (hx : Passes CX X E) (ha : PA X (e :: es) t)
    (hdb : (x == ("__debug__" : Str)) = false := by decide) (he : starEach (e :: es) X.env = (false, eval e X.env) :: starEach es X.env := by rfl) (hpl : (backTo pos (starEach es X.env)).any (·.1) = false := by rfl) : PE X (.Call (.Name x p) (e :: es) [] pos) (tCall sp dvs E t) := by
  constructor
  intro pins s σ H Q I h
  refine wpAny_Call_Name_kw (ld_glob I hg hm (PySem.W.callWith_K (h₀ := X.base) I.ok.mod.kin hk (thn (ha.run pos pins s σ H _ I h) fun us s1 ⟨vs, H1, I1, r, q⟩ => ⟨I1.kIn, ?_⟩) he hpl) hdb)
  have r2 := r.append hd
  have hl : (us ++ ds).length = ps.length := r2.length.symm.trans (F.len _ _ _ _ q)
  refine wpAny_call (codeAny_mono (F.run X.A X.stack s1 H1 ⟨us, []⟩ (us ++ ds) (vs ++ dvs) Q E hr gd I1.env0 (hb s1 us I1.kIn hl) r2 q) fun r s' z => ?_)
  rcases r with er | (_ | _ | _ | u)
  · exact hx pins σ H1 s1 er s' I1 z
  · exact False.elim z
  · exact False.elim z
  · exact False.elim z
  · exact I1.after z
/-- less asked, the same said -/
theorem imp {e : Expr} {te te' : TE} (h : PE X e te) (i : ∀ σ H Q, te' σ H Q → te σ H Q) : PE X e te' := ⟨fun pins s σ H Q I q => h.run pins s σ H Q I (i σ H Q q)⟩
end
/-! ### the law's call -/
theorem law_callG {P : Program} {w : World} {K : PySem.W.Frag} {mg mb : Str → Option Value} {k : Nat} {fa a : Addr} {fd : FuncData} {x : Str} {sp : Sp} {s : Shared} {vs : List Value} {ns : List Int} (KX : K.In s.heap) (gl : s.heap.Ns mainGlobals mg) (bl : s.heap.Ns builtinsNs mb)
    (bb : ∀ x : Str, x ≠ "__name__" → mb x = bootBuiltins x) (lim : s.heap.NoLimit) (hg : s.gens = #[]) (ha : s.heap.get? a = some { cls := .type "list", data := .seq vs.toArray }) (hi : IntsAre vs ns) (hl : ns.length ≤ sizeLine) (hr : Room k callerA)
    (F : ∀ base : Heap, K.In base → base.Ns mainGlobals mg → FnG P w K mg base CX0 k fa fd [x] sp) (hb : ∀ (s : Shared) (u : Value), BindsTo s fd ⟨[u], []⟩ [(x, u)])
    (hsp : ∀ H : Hp, Only H → SqL K H a (ns.map V.int) → sp [.ref a] H (fun v _ => v = .bl true) fun _ _ _ => False) :
    codeAny (model P w) callerA (.call (.ref fa) ⟨[.ref a], []⟩) (fun r s' => r = .ok (.ret (.bool true)) ∧ OldK s.heap s'.heap ∧ s'.os = s.os ∧ AllBare s'.gens) s := by
  have core : ∀ H : Hp, Only H → SqL K H a (ns.map V.int) → HOk P w H s.heap → (∀ b u, H b = some u → b = a ∧ K.lookup a = none) →
      codeAny (model P w) callerA (.call (.ref fa) ⟨[.ref a], []⟩) (fun r s' => r = .ok (.ret (.bool true)) ∧ OldK s.heap s'.heap ∧ s'.os = s.os ∧ AllBare s'.gens) s := fun H hO hS ok one => by
    have free : ∀ b, b ≠ a → H b = none := fun b hb => by
      cases q : H b with
      | none => rfl
      | some u => exact absurd (one b u q).1 hb
    have dct : ∀ {b : Addr} {o : Obj} {es : Array DictEntry} {ep : Nat}, s.heap.get? b = some o → o.data = .dict es ep → H b = none := fun {b o es ep} e d => free b fun z => by
      rw [z, ha] at e
      cases e
      exact nomatch d
    have nsK : ∀ {b : Addr} {m : Str → Option Value}, s.heap.Ns b m → (hidT s.heap H).Ns b m := fun {b m} ⟨o, es, ep, e, d, r⟩ => ⟨o, es, ep, hidT_get e (dct e d), d, r⟩
    have kb : K.In (hidT s.heap H) := fun b o e => hidT_get (KX b o e) (by
      cases q : H b with
      | none => rfl
      | some u =>
        obtain ⟨rfl, z⟩ := one b u q
        rw [z] at e
        exact nomatch e)
    have md : Mod K mg (hidT s.heap H) := ⟨kb, nsK gl, ⟨mb, nsK bl, bb⟩, by obtain ⟨mc, h1, h2⟩ := lim; exact ⟨mc, nsK h1, h2⟩⟩
    have e0 : Env0 P w K mg (hidT s.heap H) callerA [] s H := ⟨rfl, md, fun b o e => of_hidT e, Nat.le_of_eq (hidT_size _ _), trivial, (fun b hb => by have z : b ∈ ([] : List Addr) := hb; cases z), ok, .of_eq hg⟩
    refine codeAny_mono ((F _ kb (nsK gl)).run callerA [] s H ⟨[.ref a], []⟩ [.ref a] [.ref a] _ _ hr rfl e0 (hb s (.ref a)) (.cons rfl .nil) (hsp H hO hS)) fun r s' h => ?_
    rcases r with e | (_ | _ | _ | u)
    · exact False.elim h
    · exact False.elim h
    · exact False.elim h
    · exact False.elim h
    · obtain ⟨v, H', os, bare, un, ok', r', q⟩ := h
      obtain rfl : v = .bl true := q
      obtain rfl : u = Value.bool true := r'
      refine ⟨rfl, OldK.of_keep fun b o e => ?_, os, bare⟩
      cases q : H b with
      | none => exact un.keep b o e q (by intro z; have z' : b ∈ ([] : List Addr) := z; cases z') (by simp)
      | some u =>
        rcases hO b with z | ⟨ob, xs, z⟩
        · rw [q] at z
          cases z
        · obtain ⟨e1, _⟩ := ok b _ z
          obtain ⟨e2, _⟩ := ok' b _ (un.frzs b ob _ z)
          rw [← e1, e] at *
          exact e2
  cases hk : K.lookup a with
  | some o =>
    have e := KX a o hk
    rw [ha] at e
    cases e
    exact core (fun _ => none) (fun _ => .inl rfl) (.inr ⟨_, vs.toArray, _, hk, rfl, rfl, rfl, by rw [List.size_toArray, hi.length]; exact hl, by simpa using vals_ints hi⟩) (fun b u z => nomatch (show (none : Option HO) = some u from z)) fun b u z => nomatch (show (none : Option HO) = some u from z)
  | none =>
    have pos : ∀ {b : Addr} {u : HO}, (if b = a then some (HO.frz { cls := .type "list", data := .seq vs.toArray } (.lst (ns.map V.int))) else none) = some u → b = a ∧ HO.frz { cls := .type "list", data := .seq vs.toArray } (.lst (ns.map V.int)) = u := fun {b u} z => by
      by_cases hb : b = a
      · rw [if_pos hb] at z
        exact ⟨hb, Option.some.inj z⟩
      · rw [if_neg hb] at z
        cases z
    refine core (fun b => if b = a then some (.frz { cls := .type "list", data := .seq vs.toArray } (.lst (ns.map V.int))) else none) (fun b => ?_) (.inl (.inr ⟨_, if_pos rfl⟩)) (fun b u z => ?_) fun b u z => ⟨(pos z).1, hk⟩
    · by_cases hb : b = a
      · exact .inr ⟨_, _, if_pos hb⟩
      · exact .inl (if_neg hb)
    · obtain ⟨rfl, rfl⟩ := pos z
      exact ⟨ha, by rw [List.length_map]; exact hl, vs, _, vals_ints hi, ha⟩
theorem walk_ofG {l : PySem.W.OpenLaw} {n k : Nat} {q : Program} {loose : List Str} {XP : (Str → Option Value) → Heap → Prop} {YP : World → Heap → Prop} {d : DefRec} {K : Params → PySem.W.Frag} {sp : PySem.W.Frag → Sp} {x : Str} (hn : l.most = some n) (hn2 : n ≤ sizeLine) (hdf : d.params.defaults = [])
    (hr : Room k callerA) (hY : ∀ (w : World) (h : Heap), YP w h → (K w.params).In h)
    (F : ∀ (w : World) (mg : Str → Option Value) (fa : Addr) (h : Heap), (K w.params).In h → h.Ns mainGlobals mg → mg d.name = some (.ref fa) → ∃ fd : FuncData, (∀ (s : Shared) (u : Value), BindsTo s fd ⟨[u], []⟩ [(x, u)]) ∧
      ∀ base : Heap, (K w.params).In base → base.Ns mainGlobals mg → FnG l.prog w (K w.params) mg base CX0 k fa fd [x] (sp (K w.params)))
    (hsp : ∀ (K : PySem.W.Frag) (H : Hp) (a : Addr) (ns : List Int), ns.length ≤ n → Only H → SqL K H a (ns.map V.int) → sp K [.ref a] H (fun v _ => v = .bl true) fun _ _ _ => False) : PySem.W.WalkO q loose XP YP l.row.toRowW d [] (fun f vs => PySem.call f vs) := by
  refine Att.attach_call hn hdf fun w s₀ s₁ mg mb fa o pm cd doc a vs ns G Y ho hd hcd hmg hobj hints hlen hg => ?_
  obtain ⟨fd, hb, hF⟩ := F w mg fa _ (hY w _ Y) G.T.g hmg
  exact law_callG (hY w _ Y) G.T.g G.T.b G.T.builtins G.T.nolimit hg hobj hints (Nat.le_trans hlen hn2) hr hF hb fun H hO hS => hsp _ H a ns hlen hO hS
end Ek

namespace Ek
open PySem PySem.Spec PyProof.Rows L2
/-! ### heaps and places -/
theorem at_z {α : Type} {xs : List α} {z : Int} {j : Nat} {v : α} (e : z = (j : Int)) (h : xs[j]? = some v) : atI xs z = some v := by
  rw [e]
  exact atI_nat h
theorem ix_z {n : Nat} {z : Int} {j : Nat} (e : z = (j : Int)) (h : j < n) : ixN n z = some j := by
  unfold ixN
  rw [e, if_pos (by omega), if_pos (by omega)]
  simp
theorem in64 {x n : Int} (hn : 0 < n ∧ n < 2147483648) : -(2 ^ 64) < x % n ∧ x % n < 2 ^ 64 := by
  have a := Int.emod_nonneg x (show n ≠ 0 by omega)
  have b := Int.emod_lt_of_pos x hn.1
  constructor
  · exact Int.lt_of_lt_of_le (by decide) a
  · exact Int.lt_trans (Int.lt_trans b hn.2) (by decide)
theorem same_upd {H : Hp} {p : Addr} {o : HO} (h : H p = none) : Same H (upd H p o) := fun b x e => by
  rw [upd_ne (ne_of_none e h)]
  exact e
theorem sl {K : PySem.W.Frag} {H : Hp} {a : Addr} {xs : List V} (h : H a = some (.lst xs)) : SqL K H a xs := .inl (.inl h)
theorem tl {K : PySem.W.Frag} {H : Hp} {a : Addr} {xs : List V} (h : H a = some (.tup xs)) : SqT K H a xs := .inl (.inl h)
/-- all but the hand is as it was -/
def Kp (h : Addr) (H H' : Hp) : Prop := ∀ b o, b ≠ h → H b = some o → H' b = some o
theorem Kp.refl {h : Addr} {H : Hp} : Kp h H H := fun _ _ _ e => e
theorem Kp.trans {h : Addr} {H H1 H2 : Hp} (a : Kp h H H1) (b : Kp h H1 H2) : Kp h H H2 := fun c o n e => b c o n (a c o n e)
theorem Kp.of {h : Addr} {H H1 : Hp} (a : Same H H1) : Kp h H H1 := fun c o _ e => a c o e
/-- the hand: a list of the drawn numbers and the place of the next -/
def Hd (H : Hp) (h : Addr) : Prop := ∃ (d : Addr) (ds : List Int) (t : Nat), H h = some (.lst [.ref d, .int (t : Int)]) ∧ H d = some (.lst (ds.map V.int)) ∧ d ≠ h ∧ ∀ x ∈ ds, 0 ≤ x
theorem Hd.same {H H' : Hp} {h : Addr} (s : Same H H') (x : Hd H h) : Hd H' h := by
  obtain ⟨d, ds, t, h1, h2, n, p⟩ := x
  exact ⟨d, ds, t, s _ _ h1, s _ _ h2, n, p⟩
theorem Hd.ne {H : Hp} {h b : Addr} (x : Hd H h) (e : H b = none) : b ≠ h := fun z => by
  obtain ⟨d, ds, t, h1, _⟩ := x
  rw [z, h1] at e
  cases e
theorem Hd.ns {H : Hp} {h b : Addr} {o : HO} (x : Hd H h) (e : H b = some o) (n : ∀ d t, o ≠ .lst [.ref d, .int t]) : b ≠ h := fun z => by
  obtain ⟨d, ds, t, h1, _⟩ := x
  rw [z, h1] at e
  exact n _ _ (Option.some.inj e).symm
/-! ### what a display of exceptions leaves -/
theorem XA.mono {H H' : Hp} {a C : Addr} {fs : List (Str × V)} (s : Same H H') (x : XA H a C fs) : XA H' a C fs := by
  obtain ⟨d, h1, h2⟩ := x
  exact ⟨d, s _ _ h1, s _ _ h2⟩
/-- exceptions at es, of these classes, with these fields -/
abbrev XAs (H : Hp) (es : List Addr) (cfs : List (Addr × List (Str × V))) : Prop := Paired (fun e (cf : Addr × List (Str × V)) => XA H e cf.1 cf.2) es cfs
theorem XAs.mono {H H' : Hp} {es : List Addr} {cfs : List (Addr × List (Str × V))} (s : Same H H') (x : XAs H es cfs) : XAs H' es cfs := by
  induction x with
  | nil => exact .nil
  | cons a _ ih => exact .cons (XA.mono s a) ih
theorem paired_app {α β : Type} {F : α → β → Prop} {a c : List α} {b d : List β} (x : Paired F a b) (y : Paired F c d) : Paired F (a ++ c) (b ++ d) := by
  induction x with
  | nil => exact y
  | cons h _ ih => exact .cons h ih
theorem paired_get {α β : Type} {F : α → β → Prop} {a : List α} {b : List β} (x : Paired F a b) : ∀ {i : Nat} {z : β}, b[i]? = some z → ∃ y, a[i]? = some y ∧ F y z := by
  induction x with
  | nil => intro i z h; simp at h
  | cons p _ ih =>
    intro i z h
    cases i with
    | zero => exact ⟨_, rfl, by cases h; exact p⟩
    | succ i => exact ih (by simpa using h)
theorem paired_len {α β : Type} {F : α → β → Prop} {a : List α} {b : List β} (x : Paired F a b) : a.length = b.length := by
  induction x with
  | nil => rfl
  | cons _ _ ih => rw [List.length_cons, List.length_cons, ih]
/-- what the __init__ of such a class leaves -/
def spX1 (K : PySem.W.Frag) (f : Str) : Sp := fun vs H Q _ => ∃ (a C : Addr) (y : V), vs = [.ref a, y] ∧ OexC K C ∧ PySem.W.findIn K (.ref C) f = some none ∧ H a = some (exo a C none) ∧ ∀ H', (∀ b o, b ≠ a → H b = some o → H' b = some o) → XA H' a C [(f, y)] → Q .non H'
def spX2 (K : PySem.W.Frag) (f g : Str) : Sp := fun vs H Q _ => ∃ (a C : Addr) (y z : V), vs = [.ref a, y, z] ∧ OexC K C ∧ PySem.W.findIn K (.ref C) f = some none ∧ PySem.W.findIn K (.ref C) g = some none ∧ H a = some (exo a C none) ∧
  ∀ H', (∀ b o, b ≠ a → H b = some o → H' b = some o) → XA H' a C [(g, z), (f, y)] → Q .non H'
theorem x1_end {H : Hp} {a C d : Addr} {f : Str} {y : V} (nd : H d = none) (ne : d ≠ a) :
    (∀ b o, b ≠ a → H b = some o → (upd (upd H d (exd d [(f, y)])) a (exo a C (some d))) b = some o) ∧ XA (upd (upd H d (exd d [(f, y)])) a (exo a C (some d))) a C [(f, y)] := by
  refine ⟨fun b o n e => ?_, d, upd_same, ?_⟩
  · rw [upd_ne n, upd_ne (ne_of_none e nd)]
    exact e
  · rw [upd_ne ne, upd_same]
theorem x2_end {H : Hp} {a C d : Addr} {f g : Str} {y z : V} (nd : H d = none) (ne : d ≠ a) :
    (∀ b o, b ≠ a → H b = some o → (upd (upd (upd H d (exd d [(f, y)])) a (exo a C (some d))) d (exd d [(g, z), (f, y)])) b = some o) ∧ XA (upd (upd (upd H d (exd d [(f, y)])) a (exo a C (some d))) d (exd d [(g, z), (f, y)])) a C [(g, z), (f, y)] := by
  refine ⟨fun b o n e => ?_, d, ?_, upd_same⟩
  · rw [upd_ne (ne_of_none e nd), upd_ne n, upd_ne (ne_of_none e nd)]
    exact e
  · rw [upd_ne ne.symm, upd_same]
/-- arguments that are values whatever the heap -/
def EvV (ta : TA) (σ : L2.St) (vs : List V) : Prop := ∀ (H : Hp) (Q : List V → Hp → Prop), Q vs H → ta σ H Q
theorem evv_nil {σ : L2.St} : EvV tNil σ [] := fun _ _ q => q
theorem evv_c {σ : L2.St} {v : V} {ta : TA} {vs : List V} (h : EvV ta σ vs) : EvV (tCons (tC v) ta) σ (v :: vs) := fun H Q q => h H _ q
theorem evv_v {σ : L2.St} {i : Nat} {v : V} {ta : TA} {vs : List V} (e : σ[i]? = some (some v)) (h : EvV ta σ vs) : EvV (tCons (tVar i) ta) σ (v :: vs) := fun H Q q => ⟨v, e, h H _ q⟩
def EvX (ta : TA) (σ : L2.St) (cfs : List (Addr × List (Str × V))) : Prop := ∀ (H : Hp) (Q : List V → Hp → Prop), (∀ (es : List Addr) (H2 : Hp), Same H H2 → XAs H2 es cfs → Q (es.map V.ref) H2) → ta σ H Q
theorem evx_nil {σ : L2.St} : EvX tNil σ [] := fun H Q q => q [] H (Same.refl H) .nil
theorem evx_1 {K : PySem.W.Frag} {σ : L2.St} {C : Addr} {f : Str} {y : V} {ta tr : TA} {cfs : List (Addr × List (Str × V))} (T : OexC K C) (n : PySem.W.findIn K (.ref C) f = some none) (h : EvV ta σ [y]) (hr : EvX tr σ cfs) : EvX (tCons (tEx C (spX1 K f) ta) tr) σ ((C, [(f, y)]) :: cfs) := fun H Q q =>
  h H _ ⟨by show 1 ≤ 1000; decide, fun a na => ⟨a, C, y, rfl, T, n, upd_same, fun H' k xa => ⟨rfl, hr H' _ fun es H2 s p => q (a :: es) H2 (fun b o e => s b o (k b o (ne_of_none e na) (by rw [upd_ne (ne_of_none e na)]; exact e))) (.cons (XA.mono s xa) p)⟩⟩⟩
theorem evx_2 {K : PySem.W.Frag} {σ : L2.St} {C : Addr} {f g : Str} {y z : V} {ta tr : TA} {cfs : List (Addr × List (Str × V))} (T : OexC K C) (n : PySem.W.findIn K (.ref C) f = some none) (n2 : PySem.W.findIn K (.ref C) g = some none) (h : EvV ta σ [y, z]) (hr : EvX tr σ cfs) :
    EvX (tCons (tEx C (spX2 K f g) ta) tr) σ ((C, [(g, z), (f, y)]) :: cfs) := fun H Q q =>
  h H _ ⟨by show 2 ≤ 1000; decide, fun a na => ⟨a, C, y, z, rfl, T, n, n2, upd_same, fun H' k xa => ⟨rfl, hr H' _ fun es H2 s p => q (a :: es) H2 (fun b o e => s b o (k b o (ne_of_none e na) (by rw [upd_ne (ne_of_none e na)]; exact e))) (.cons (XA.mono s xa) p)⟩⟩⟩
/-- [X(..), ..] -/
theorem st_list {σ : L2.St} {H : Hp} {ta : TA} {cfs : List (Addr × List (Str × V))} {Q : VK} (ev : EvX ta σ cfs) (hz : cfs.length ≤ 1000) (k : ∀ L es H', H L = none → Same H H' → H' L = some (.lst (es.map V.ref)) → XAs H' es cfs → Q (.ref L) H') : tLst ta σ H Q :=
  ev H _ fun es H2 s p => ⟨by rw [List.length_map, paired_len p]; exact Nat.le_of_lt (small1000 hz), fun L nL => k L es _ (s.free nL) (s.trans (same_upd nL)) upd_same (XAs.mono (same_upd nL) p)⟩
/-- found + [X(..), ..] -/
theorem st_more {σ : L2.St} {H : Hp} {i : Nat} {L : Addr} {es : List Addr} {ta : TA} {cfs old : List (Addr × List (Str × V))} {Q : VK} (ev : EvX ta σ cfs) (hσ : σ[i]? = some (some (.ref L))) (hL : H L = some (.lst (es.map V.ref))) (ho : XAs H es old) (hz : old.length + cfs.length ≤ 1000)
    (k : ∀ L' es' H', H L' = none → Same H H' → H' L' = some (.lst (es'.map V.ref)) → XAs H' es' (old ++ cfs) → Q (.ref L') H') : tOp rCat (tVar i) (tLst ta) σ H Q :=
  ⟨.ref L, hσ, st_list ev (by omega) fun L2 es2 H2 n2 s2 h2 p2 => ⟨L, L2, _, _, rfl, rfl, s2 _ _ hL, h2, by rw [List.length_map, List.length_map, paired_len p2, paired_len ho]; exact Nat.le_of_lt (small1000 hz), fun p np =>
    k p (es ++ es2) _ (s2.free np) (s2.trans (same_upd np)) (by rw [upd_same, List.map_append]) (XAs.mono (same_upd np) (paired_app (XAs.mono s2 ho) p2))⟩⟩
/-! ### statements, one by one -/
section
variable {D : Ends} {σ : L2.St} {H : Hp} {a b : TS} {te : TE} {g : TG} {i : Nat}
theorem q_seq (h : a { D with nx := fun s h => b D s h } σ H) : tSeq a b D σ H := h
theorem q_set (h : te σ H fun v H1 => D.nx (σ.set i (some v)) H1) : tAsg te (gName i) D σ H := h
theorem q_setc {v : V} (h : D.nx (σ.set i (some v)) H) : tAsg (tC v) (gName i) D σ H := h
theorem q_next (h : D.nx σ H) : tNext D σ H := h
theorem q_if {t : TT} {c : TS} (h : t σ H fun b H1 => if b = true then a D σ H1 else c D σ H1) : tIfS t a c D σ H := h
theorem q_ret (h : te σ H D.rt) : tRet te D σ H := h
end
/-! ### data that may be shown: at most n signs, at most k deep -/
structure Sm (n k : Nat) (d : PyData) : Prop where
  s : d.showable = true
  h : d.hasDict = false
  l : d.depth ≤ k
  z : d.shown.length ≤ n
theorem Sm.mono {n k n' k' : Nat} {d : PyData} (x : Sm n k d) (h1 : n ≤ n') (h2 : k ≤ k') : Sm n' k' d := ⟨x.s, x.h, Nat.le_trans x.l h2, Nat.le_trans x.z h1⟩
theorem Sm.okd {n k : Nat} {d : PyData} (x : Sm n k d) (h1 : n ≤ 1000000) (h2 : k ≤ 32) : Okd d := ⟨x.s, x.h, Nat.le_trans x.l h2, Nat.le_trans x.z h1⟩
theorem Sm.all {n k : Nat} : ∀ {ds : List PyData}, (∀ d ∈ ds, Sm n k d) → PyData.showableAll ds = true ∧ PyData.hasDictAll ds = false ∧ PyData.depthAll ds ≤ k ∧ ((PyData.shownAll ds).map (·.length)).sum ≤ ds.length * n ∧ (PyData.shownAll ds).length = ds.length
  | [], _ => ⟨by simp only [PyData.showableAll], by simp only [PyData.hasDictAll], by simp only [PyData.depthAll]; exact Nat.zero_le _, by simp [PyData.shownAll], by simp [PyData.shownAll]⟩
  | x :: xs, h => by
    obtain ⟨h1, h2, h3, h4⟩ := h x List.mem_cons_self
    obtain ⟨a, b, c, e, l⟩ := Sm.all (ds := xs) fun d m => h d (List.mem_cons_of_mem _ m)
    refine ⟨by simp only [PyData.showableAll, h1, a, Bool.and_self], by simp only [PyData.hasDictAll, h2, b, Bool.or_self], by simp only [PyData.depthAll]; omega, ?_, by simp only [PyData.shownAll, List.length_cons, l]⟩
    simp only [PyData.shownAll, List.map_cons, List.sum_cons, List.length_cons, Nat.succ_mul]
    omega
theorem Sm.list {n k : Nat} {ds : List PyData} (h : ∀ d ∈ ds, Sm n k d) : Sm (ds.length * n + 2 * ds.length + 3) (k + 1) (.list ds) := by
  obtain ⟨a, b, c, e, l⟩ := Sm.all h
  refine ⟨by simp only [PyData.showable, a], by simp only [PyData.hasDict, b], by simp only [PyData.depth]; omega, ?_⟩
  have z := listText_len_le (PyData.shownAll ds)
  simp only [PyData.shown]
  omega
theorem Sm.tuple {n k : Nat} {ds : List PyData} (h : ∀ d ∈ ds, Sm n k d) : Sm (ds.length * n + 2 * ds.length + 3) (k + 1) (.tuple ds) := by
  obtain ⟨a, b, c, e, l⟩ := Sm.all h
  refine ⟨by simp only [PyData.showable, a], by simp only [PyData.hasDict, b], by simp only [PyData.depth]; omega, ?_⟩
  have z := tupleText_len_le (PyData.shownAll ds)
  simp only [PyData.shown]
  omega
theorem Sm.int {i : Int} (h : i.natAbs < 10 ^ 12) : Sm 13 0 (.int i) := by
  refine ⟨?_, by simp only [PyData.hasDict], by simp only [PyData.depth]; exact Nat.le_refl _, PyData.shown_int_le h⟩
  simp only [PyData.showable, decide_eq_true_eq]
  by_cases z : i.natAbs = 0
  · rw [z]
    decide
  · exact Nat.lt_trans ((Nat.log2_lt z).mpr (Nat.lt_trans h (by decide : 10 ^ 12 < 2 ^ 40))) (by decide)
theorem DpAll.rep {K : PySem.W.Frag} {H : Hp} {v : V} {d : PyData} (h : Dp K H v d) : ∀ n : Nat, DpAll K H (List.replicate n v) (List.replicate n d)
  | 0 => .nil
  | n + 1 => .cons h (DpAll.rep h n)
mutual
theorem Dp.same {K : PySem.W.Frag} {H H' : Hp} (s : Same H H') : ∀ {v : V} {d : PyData}, Dp K H v d → Dp K H' v d
  | _, _, .non => .non
  | _, _, .bl b => .bl b
  | _, _, .int i => .int i
  | _, _, .str x => .str x
  | _, _, .lst h a => .lst (s.seq h) (DpAll.same s a)
  | _, _, .tup h a => .tup (by
      rcases h with (h | ⟨o, h⟩) | h
      · exact .inl (.inl (s _ _ h))
      · exact .inl (.inr ⟨o, s _ _ h⟩)
      · exact .inr h) (DpAll.same s a)
theorem DpAll.same {K : PySem.W.Frag} {H H' : Hp} (s : Same H H') : ∀ {vs : List V} {ds : List PyData}, DpAll K H vs ds → DpAll K H' vs ds
  | _, _, .nil => .nil
  | _, _, .cons h a => .cons (Dp.same s h) (DpAll.same s a)
end
/-- data that the hand is no part of -/
def Dps (K : PySem.W.Frag) (h : Addr) (H : Hp) (v : V) (d : PyData) : Prop := ∀ H', Kp h H H' → Dp K H' v d
theorem Dps.kp {K : PySem.W.Frag} {h : Addr} {H H' : Hp} {v : V} {d : PyData} (x : Dps K h H v d) (k : Kp h H H') : Dps K h H' v d := fun H2 k2 => x H2 (k.trans k2)
theorem Dps.now {K : PySem.W.Frag} {h : Addr} {H : Hp} {v : V} {d : PyData} (x : Dps K h H v d) : Dp K H v d := x H Kp.refl
/-! ### own exception classes, one and two fields -/
structure Cl1 (P : Program) (w : World) (K : PySem.W.Frag) (mg : Str → Option Value) (base : Heap) (x f : Str) (C : Addr) : Prop where
  g : mg x = some (.ref C)
  o : OexC K C
  xf : XfC K C
  xe : ExcC K C
  no : PySem.W.findIn K (.ref C) f = some none
  made : ∃ fI fd, PySem.W.findIn K (.ref C) "__init__" = some (some (.ref fI)) ∧ PySem.W.typeIn K (.ref fI) = some (.type "function") ∧ FnOk P w K mg base CX0 1 fI fd ["self", f] (spX1 K f) ∧ Binds K fd ["self", f] [] ∧
    ∀ (s : Shared) (self : Value) (ws : List Value), ws.length = [f].length → BindsTo s fd ⟨[self], [f].zip ws⟩ ((["self", f] : List Str).zip (self :: ws))
structure Cl2 (P : Program) (w : World) (K : PySem.W.Frag) (mg : Str → Option Value) (base : Heap) (x f g2 : Str) (C : Addr) : Prop where
  g : mg x = some (.ref C)
  o : OexC K C
  xf : XfC K C
  xe : ExcC K C
  no : PySem.W.findIn K (.ref C) f = some none
  no2 : PySem.W.findIn K (.ref C) g2 = some none
  made : ∃ fI fd, PySem.W.findIn K (.ref C) "__init__" = some (some (.ref fI)) ∧ PySem.W.typeIn K (.ref fI) = some (.type "function") ∧ FnOk P w K mg base CX0 1 fI fd ["self", f, g2] (spX2 K f g2) ∧ Binds K fd ["self", f, g2] [] ∧
    ∀ (s : Shared) (self : Value) (ws : List Value), ws.length = [f, g2].length → BindsTo s fd ⟨[self], [f, g2].zip ws⟩ ((["self", f, g2] : List Str).zip (self :: ws))
section
variable {X : Cx} {x f g2 : Str} {C : Addr} {p pos : Pos} {e : Expr} {es : List Expr} {kws : List Keyword} {ta : TA}
theorem pe_c1 (c : Cl1 X.prog X.w X.K X.mg X.base x f C) (hr : Room 2 X.A) (hg : Gl X x) (ha : PA X (e :: es) ta) (hdb : (x == ("__debug__" : Str)) = false := by decide) (he : starEach (e :: es) X.env = (false, eval e X.env) :: starEach es X.env := by rfl)
    (hpl : (backTo pos (starEach es X.env)).any (·.1) = false := by rfl) : PE X (.Call (.Name x p) (e :: es) [] pos) (tEx C (spX1 X.K f) ta) := by
  obtain ⟨fI, fd, i, t, F, b, _⟩ := c.made
  exact pe_ex c.o i t F hr hg c.g b pass0 ha hdb he hpl
theorem pe_k1 (c : Cl1 X.prog X.w X.K X.mg X.base x f C) (hr : Room 2 X.A) (hg : Gl X x) (hkw : PK X kws ta) (hall : (backToKw pos (keywordEach kws X.env)).all (·.1.isSome) = true := by rfl) (hks : (backToKw pos (keywordEach kws X.env)).filterMap (·.1) = [f] := by rfl)
    (hdb : (x == ("__debug__" : Str)) = false := by decide) (hpl : ((backTo pos (starEach [] X.env)).any (·.1) || (backToKw pos (keywordEach kws X.env)).any (·.1.isNone)) = false := by rfl) : PE X (.Call (.Name x p) [] kws pos) (tEx C (spX1 X.K f) ta) := by
  obtain ⟨fI, fd, i, t, F, _, b⟩ := c.made
  exact pe_exk (ks := [f]) c.o i t F hr hg c.g rfl b pass0 hkw hall hks hdb hpl
theorem pe_c2 (c : Cl2 X.prog X.w X.K X.mg X.base x f g2 C) (hr : Room 2 X.A) (hg : Gl X x) (ha : PA X (e :: es) ta) (hdb : (x == ("__debug__" : Str)) = false := by decide) (he : starEach (e :: es) X.env = (false, eval e X.env) :: starEach es X.env := by rfl)
    (hpl : (backTo pos (starEach es X.env)).any (·.1) = false := by rfl) : PE X (.Call (.Name x p) (e :: es) [] pos) (tEx C (spX2 X.K f g2) ta) := by
  obtain ⟨fI, fd, i, t, F, b, _⟩ := c.made
  exact pe_ex c.o i t F hr hg c.g b pass0 ha hdb he hpl
theorem pe_k2 (c : Cl2 X.prog X.w X.K X.mg X.base x f g2 C) (hr : Room 2 X.A) (hg : Gl X x) (hkw : PK X kws ta) (hall : (backToKw pos (keywordEach kws X.env)).all (·.1.isSome) = true := by rfl) (hks : (backToKw pos (keywordEach kws X.env)).filterMap (·.1) = [f, g2] := by rfl)
    (hdb : (x == ("__debug__" : Str)) = false := by decide) (hpl : ((backTo pos (starEach [] X.env)).any (·.1) || (backToKw pos (keywordEach kws X.env)).any (·.1.isNone)) = false := by rfl) : PE X (.Call (.Name x p) [] kws pos) (tEx C (spX2 X.K f g2) ta) := by
  obtain ⟨fI, fd, i, t, F, _, b⟩ := c.made
  exact pe_exk (ks := [f, g2]) c.o i t F hr hg c.g rfl b pass0 hkw hall hks hdb hpl
end
/-- e.f of an own exception, within a comprehension -/
theorem pe_xak {X : Cx} (K : PySem.W.Frag) {e : Expr} {te : TE} {n : Str} {pos : Pos} (hK : X.K = K) (he : PE X e te) (hb : attributeBase e n X.env (eval e X.env) = eval e X.env := by rfl) : PE X (.Attribute e n pos) (tXA K n te) := by
  subst hK
  exact pe_xa he hb
end Ek

namespace Ek
open PySem PySem.Spec PyProof.Rows L2
/-! ### min of a tuple of ints -/
section
variable {prog : Program} {w : World} {A : Around} {E : Value → Shared → Prop} {s : Shared} {l : Addr} {xs : Array (Int × Tok)}
theorem min_intTup {its : List Value} {ns : List Int} {Q : Value → Shared → Prop} (hh : A.handled = none) (hl : s.heap.IsTuple l its.toArray) (hi : IntsAre its ns) (hne : 0 < ns.length)
    (h : ∀ h' tk M t', (∀ b o, s.heap.get? b = some o → h'.get? b = some o) → M ∈ ns → (∀ a, a ∈ ns → M ≤ a) → Q (.int M t') { s with heap := h', toks := tk }) : wpAny (model prog w) A (call (.builtin "min") [.ref l]) Q E s := by
  obtain ⟨xs, e⟩ := hi.allInts.items
  have hn : numsOf (intItems xs).toList = ns := by rw [← e]; exact hi.numsOf
  rw [nums_intItems] at hn
  subst hn
  rw [e] at hl
  have sz : 0 < xs.size := by simpa using hne
  have hlt : l < s.heap.objs.size := by obtain ⟨_, z, _⟩ := hl; exact Heap.lt_size z
  refine call_min_walk (wpAny_pyIter_tuple hl ?_)
  refine ⟨_, _, _, _, _, _, _, rfl, Walks.tuple (A := A.in1) hh _ l (Nat.ne_of_lt hlt) (intItems xs), ⟨⟨_, Heap.get?_push_size _ rfl, rfl, rfl⟩, hl.push _⟩, (fun b hb => ?_), (by simpa [intItems] using sz), CmpOf.ints_lt (numAt xs) (fun _ _ => intItems_at), fun v h' tk hP hk => ?_⟩
  · show b < (s.heap.push _).objs.size
    rw [Heap.size_push]
    simp only [List.mem_cons, List.not_mem_nil, or_false] at hb
    rcases hb with rfl | rfl
    · exact Nat.lt_succ_self _
    · exact Nat.lt_succ_of_lt hlt
  · have hv : (intItems xs)[argBest (fun i j => decide (numAt xs i < numAt xs j)) (xs.size - 1)]? = some v := by simpa [intItems] using hP
    obtain ⟨t, rfl⟩ := intItems_at hv
    obtain ⟨h1, h2⟩ := argBest_lt (numAt xs) (xs.size - 1)
    refine h h' tk _ t (fun b o z => hk b o (fun hm => ?_) (Heap.get?_push_of_some _ z)) ?_ fun a ha => ?_
    · simp only [List.mem_cons, List.not_mem_nil, or_false] at hm
      exact absurd (hm ▸ Heap.lt_size z) (Nat.lt_irrefl _)
    · rw [numAt_eq]
      exact PySem.getD_mem (by rw [List.length_map, Array.length_toList]; omega)
    · obtain ⟨j, hj, rfl⟩ := mem_getD ha
      rw [List.length_map, Array.length_toList] at hj
      rw [← numAt_eq]
      exact h2 j (by omega)
end
def rMinT (K : PySem.W.Frag) : List V → Hp → VK → Prop := fun vs H Q => ∃ (a : Addr) (ns : List Int), vs = [V.ref a] ∧ SqT K H a (ns.map V.int) ∧ 0 < ns.length ∧ ∀ m, m ∈ ns → (∀ y, y ∈ ns → m ≤ y) → Q (.int m) H
/-- '0' times a size -/
def rRep0 : R2 := fun x y H Q => ∃ k : Nat, x = .str "0" ∧ y = .int (k : Int) ∧ ((k = 1 ∧ Q (.str "0") H) ∨ (k = 2 ∧ Q (.str "00") H) ∨ (k = 3 ∧ Q (.str "000") H))
section
variable {X : Cx}
theorem call_minT (hc : X.calm = true) : CallR X (.builtin "min") (rMinT X.K) := by
  intro pins s σ H vs us Q I r h
  obtain ⟨a, ns, rfl, hs, hne, q⟩ := h
  obtain ⟨its, rv, hl, _⟩ := I.tuple hs
  rw [Vals.ref1 r]
  exact min_intTup (I.ok.hd hc) hl rv.ints hne fun h' tk m t' hk h1 h2 => ⟨.int _, H, I.kept hk, ⟨_, rfl⟩, q m h1 h2⟩
/-- a == y by a's own ==; y of whatever type -/
def rOwnEq (K : PySem.W.Frag) (C : Addr) (sp : Sp) (E : XK) : R2 := fun x y H Q => ∃ (a dx : Addr) (fs : List (Str × V)) (t : Value), x = .ref a ∧ H a = some (.ins C dx fs) ∧ TyOf K H y t ∧ PySem.W.notFirst K C t = true ∧ sp [x, y] H (fun v H' => ∃ b, v = .bl b ∧ Q v H') E
theorem op_ownEq {CX : CXT} {C f : Addr} {fd : FuncData} {ps : List Str} {k : Nat} {sp : Sp} {E : XK} (F : FnOk X.prog X.w X.K X.mg X.base CX k f fd ps sp) (hr : Room k X.A) (hs : PySem.W.findIn X.K (.ref C) "__eq__" = some (some (.ref f))) (hf : PySem.W.isFn X.K (.ref f) = true)
    (hb : Binds X.K fd ps []) (hx : Passes CX X E) : OpR X (compareOp .Eq) (rOwnEq X.K C sp E) := by
  intro pins s σ H x y v u Q I rx ry h
  obtain ⟨a, dx, fs, t, rfl, ha, ty, hn, hsp⟩ := h
  obtain rfl : v = Value.ref a := rx
  obtain ⟨mA, J, _⟩ := ins_get I.hok ha
  obtain ⟨od, J, _⟩ := J.look
  obtain ⟨m, hF⟩ := I.fr
  obtain ⟨PP, Z, pp, _⟩ := kit_of I ry (.base ty)
  show wpAny (model X.prog X.w) X.A (richCompare .Eq (.ref a) u) (EP X pins σ Q) X.xe s
  refine PySem.W.cmp_K (op := .Eq) (tb := t) hr.units0 hF I.ok.mod.kin J (Z.ty _ _ I.kIn pp) hn hs hf ?_
  have r2 : Vals [V.ref a, y] [Value.ref a, u] := .cons rfl (.cons ry .nil)
  have hl := F.len _ _ _ _ hsp
  refine wpAny_call (codeAny_mono (F.run X.A X.stack s H ⟨[.ref a, u], []⟩ [.ref a, u] [.ref a, y] _ E hr I.env0 (by
    have z := hb s [.ref a, u] I.kIn (by simpa using hl)
    simpa using z) r2 hsp) fun r s' z => ?_)
  rcases r with e | (_ | _ | _ | w)
  · exact hx pins σ H s e s' I z
  · exact False.elim z
  · exact False.elim z
  · exact False.elim z
  · obtain ⟨z, H', I', rz, b, ez, q⟩ := I.after z
    subst ez
    obtain rfl : w = Value.bool b := rz
    exact ⟨.bl b, H', I', rfl, q⟩
theorem op_rep0 : OpR X (binaryOp .Mult) rRep0 := by
  intro pins s σ H x y v u Q I rx ry h
  obtain ⟨k, rfl, rfl, h⟩ := h
  obtain ⟨t, rfl⟩ := rx
  obtain ⟨t2, rfl⟩ := ry
  rcases h with ⟨rfl, q⟩ | ⟨rfl, q⟩ | ⟨rfl, q⟩
  · exact PySem.P.mul_str (by decide +kernel) (fun _ _ => by decide +kernel) (fun _ _ => by decide +kernel) (show Made.post (Made.val (.str "0" t)) _ _ from ⟨.str "0", H, I, ⟨t, rfl⟩, q⟩)
  · exact PySem.P.mul_str (by decide +kernel) (fun _ _ => by decide +kernel) (fun _ _ => by decide +kernel) (show Made.post (Made.str ⟨#[48, 48]⟩) _ _ from ⟨by decide +kernel, .str "00", H, I.tok _, ⟨_, rfl⟩, q⟩)
  · exact PySem.P.mul_str (by decide +kernel) (fun _ _ => by decide +kernel) (fun _ _ => by decide +kernel) (show Made.post (Made.str ⟨#[48, 48, 48]⟩) _ _ from ⟨by decide +kernel, .str "000", H, I.tok _, ⟨_, rfl⟩, q⟩)
end
/-! ### making and calling where what is raised is caught -/
def tMakeS (C : Addr) (sp : Sp) (E : L2.St → XK) (t : TA) : TE := fun σ H Q => t σ H fun vs H1 => ∀ x dx, H1 x = none → H1 dx = none → dx ≠ x → sp (.ref x :: vs) (upd (upd H1 dx (.own x)) x (.ins C dx [])) (fun v H2 => v = .non ∧ Q (.ref x) H2) (E σ)
def tMethS (C : Addr) (m : Str) (sp : Sp) (E : L2.St → XK) (ta : TE) (t : TA) : TE := fun σ H Q => ta σ H fun x H1 => ∃ a dx fs, x = .ref a ∧ H1 a = some (.ins C dx fs) ∧ fs.lookup m = none ∧ t σ H1 fun vs H2 => sp (x :: vs) H2 Q (E σ)
section
variable {X : Cx} {CX : CXT} {k : Nat} {f C : Addr} {fd : FuncData} {ps : List Str} {sp : Sp} {E : L2.St → XK} {x m : Str} {p pos apos : Pos} {e o : Expr} {es : List Expr} {ta : TE} {t : TA}
theorem pe_makeS (M : Mk X.K C f) (F : FnOk X.prog X.w X.K X.mg X.base CX k f fd ps sp) (hr : Room (k + 1) X.A) (hg : Gl X x) (hm : X.mg x = some (.ref C)) (hb : Binds X.K fd ps []) (hx : ∀ σ, PassesAt CX X σ (E σ)) (ha : PA X (e :: es) t) (hdb : (x == ("__debug__" : Str)) = false := by decide)
    (he : starEach (e :: es) X.env = (false, eval e X.env) :: starEach es X.env := by rfl) (hpl : (backTo pos (starEach es X.env)).any (·.1) = false := by rfl) : PE X (.Call (.Name x p) (e :: es) [] pos) (tMakeS C sp E t) := by
  refine ⟨fun pins s σ H Q I h => ?_⟩
  refine wpAny_Call_Name_kw (ld_glob I hg hm (PySem.W.callWith_K (h₀ := X.base) I.ok.mod.kin M.kp (thn (ha.run pos pins s σ H _ I h) fun us s1 ⟨vs, H1, I1, r, q⟩ => ⟨I1.kIn, ?_⟩) he hpl) hdb)
  have hq := q (s1.heap.objs.size + 1) s1.heap.objs.size (I1.hok.fresh (Nat.le_succ _)) (I1.hok.fresh (Nat.le_refl _)) (Nat.ne_of_lt (Nat.lt_succ_self _))
  have I2 := Inv.made (C := C) I1
  have r2 : Vals (V.ref (s1.heap.objs.size + 1) :: vs) (Value.ref (s1.heap.objs.size + 1) :: us) := .cons rfl r
  have hl : (Value.ref (s1.heap.objs.size + 1) :: us).length = ps.length := r2.length.symm.trans (F.len _ _ _ _ hq)
  refine wpAny_call (make_map (f := f) I1.kIn M.makes M.init (beq_iff_eq.mp M.fn) (codeAny_mono (F.run _ X.stack _ _ ⟨Value.ref (s1.heap.objs.size + 1) :: us, []⟩ (Value.ref (s1.heap.objs.size + 1) :: us) _ _ (E σ) (hr.make C us []) (I2.env0.make C us []) (by
    have z := hb _ (Value.ref (s1.heap.objs.size + 1) :: us) I2.kIn (by simpa using hl)
    simpa using z) r2 hq) fun r s' z => ?_))
  rcases r with er | (_ | _ | _ | u)
  · exact hx σ pins _ _ er s' I2 z
  · exact False.elim z
  · exact False.elim z
  · exact False.elim z
  · obtain ⟨v, H', I3, rv, ev, q3⟩ := I2.after z
    subst ev
    exact ⟨rv, ⟨V.ref (s1.heap.objs.size + 1), H', I3, rfl, q3⟩⟩
theorem run_S {pins : List (Addr × Obj)} {σ : L2.St} {H : Hp} {s : Shared} {Q : VK} {us : List Value} {vs : List V} {args : Args} (F : FnOk X.prog X.w X.K X.mg X.base CX k f fd ps sp) (hr : Room k X.A) (hb : BindsTo s fd args (ps.zip us)) (hx : PassesAt CX X σ (E σ)) (I : Inv X pins σ H s) (r : Vals vs us)
    (h : sp vs H Q (E σ)) : wpAny (model X.prog X.w) X.A (call (.ref f) args.pos args.kw) (EP X pins σ Q) X.xe s := by
  refine wpAny_call (codeAny_mono (F.run X.A X.stack s H args us vs Q (E σ) hr I.env0 hb r h) fun r s' z => ?_)
  rcases r with er | (_ | _ | _ | u)
  · exact hx pins _ _ er s' I z
  · exact False.elim z
  · exact False.elim z
  · exact False.elim z
  · exact I.after z
/-- o.m(k = v, ..) -/
theorem pe_methKS {kws : List Keyword} {ks : List Str} {pl : Sem Bool} (he : PE X o ta) (c : Cls X.K C) (hm : Meth X.K C m f) (F : FnOk X.prog X.w X.K X.mg X.base CX k f fd ps sp) (hr : Room k X.A) (hps : ps.length = ks.length + 1)
    (hb : ∀ (s : Shared) (self : Value) (ws : List Value), ws.length = ks.length → BindsTo s fd ⟨[self], ks.zip ws⟩ (ps.zip (self :: ws))) (hx : ∀ σ, PassesAt CX X σ (E σ)) (hkw : PK X kws t)
    (hall : (backToKw pos (keywordEach kws X.env)).all (·.1.isSome) = true := by rfl) (hks : (backToKw pos (keywordEach kws X.env)).filterMap (·.1) = ks := by rfl) (hpl : ((backTo pos (starEach [] X.env)).any (·.1) || (backToKw pos (keywordEach kws X.env)).any (·.1.isNone)) = false := by rfl)
    (ht : eval (.Call (.Attribute o m apos) [] kws pos) X.env = (do
      let ov ← eval o X.env
      standAt apos.atName
      let (f, first) ← holding [ov] (getMethod ov m pl)
      callWith pos f first (backTo pos (starEach [] X.env)) (backToKw pos (keywordEach kws X.env))) := by rfl) : PE X (.Call (.Attribute o m apos) [] kws pos) (tMethS C m sp E ta t) := by
  refine ⟨fun pins s σ H Q I h => ?_⟩
  refine PySem.W.methodCall_KW (pl := pl) (thn (he.run pins s σ H _ I h) fun u s1 ⟨x, H1, I1, rx, a, dx, fs, ex, ea, l, q⟩ => ?_) ht
  subst ex
  obtain rfl : u = Value.ref a := rx
  refine getmeth_ok I1 ea c hm l ?_
  refine PySem.W.callWith_KW0 (first := [.ref a]) (h₀ := X.base) I1.ok.mod.kin hm.kp hall ?_ hpl
  refine thn (hkw.run pos pins s1 σ H1 _ I1 q) fun ws s2 ⟨zs, H2, I2, rz, q2⟩ => ⟨I2.kIn, ?_⟩
  rw [hks]
  have hl : ws.length = ks.length := by
    have z := F.len _ _ _ _ q2
    rw [← rz.length]
    exact Nat.succ.inj (z.trans hps)
  exact run_S (args := ⟨[.ref a], ks.zip ws⟩) (us := .ref a :: ws) F hr (hb s2 _ ws hl) (hx σ) I2 (show Vals (V.ref a :: zs) (Value.ref a :: ws) from .cons rfl rz) q2
end
/-- isinstance(e, c), e the exception that the suite holds, d its own dict -/
def rIsES (K : PySem.W.Frag) (a : Addr) (cls : Value) (d : Option Addr) : List V → Hp → VK → Prop := fun xs H Q => ∃ (D dd : Addr) (fs : List (Str × V)) (c : V) (u : Value) (b : Bool), xs = [.ref a, c] ∧ cls = .ref D ∧ ExcC K D ∧ d = some dd ∧ H dd = some (.xd fs) ∧ ClsV c u ∧ PySem.W.kitOne K (.ref D) u = some b ∧ Q (.bl b) H
theorem call_isES {X : Cx} {a : Addr} {oe : Obj} {cls : Value} {d : Option Addr} {pn : List (Addr × Obj)} (hz : Zc cls d oe) (hf : ∃ vs, oe.data = .fields vs) : CallR (X.suite a ((a, oe) :: pn)) (.builtin "isinstance") (rIsES X.K a cls d) := by
  intro pins s σ H xs us Q I r h
  obtain ⟨D, dd, fs, c, u, b, rfl, rfl, C, rfl, hx, k, e, q⟩ := h
  obtain ⟨u1, u2, rfl, r1, r2⟩ := vals2 r
  have e2 := k.eq r2
  subst e2
  obtain rfl : u1 = Value.ref a := r1
  obtain ⟨ha, _⟩ := I.pin (a, oe) (List.mem_append_left _ List.mem_cons_self)
  obtain ⟨vs, hd⟩ := hf
  have hxd : ObjOk X.prog X.w H s.heap dd (.xd fs) := I.hok dd _ hx
  obtain ⟨mA, hns, _⟩ := hxd
  obtain ⟨od, ho, _⟩ := lookIn_ns hns
  have J : PySem.W.InstAt s.heap a oe D (some od) := ⟨ha, hz.1, by unfold PySem.W.notCls; rw [hd] <;> rfl, by rw [hz.2]; exact ho⟩
  have hcl : (PySem.W.clsIn X.K D).isSome = true := by
    obtain ⟨cd, hc, _⟩ := PySem.W.any_some C.hd
    rw [hc]
    rfl
  exact PySem.W.kia_one (PySem.W.kitx_exc hcl C.hg C.hk C.hs C.ha C.hn C.ht C.hm) I.kIn J e (fun z => nomatch z) fun tk => ⟨.bl b, H, I.kept (t' := tk) fun _ _ z => z, rfl, q⟩
/-! ### turns of a loop, whatever its body -/
section
variable {K : PySem.W.Frag} {a : Addr} {xs : List V} {Bd : V → Hp → (Hp → Prop) → Prop} {H0 : Hp} {Fin : Hp → Prop}
theorem lp_tup (Pv : Nat → Hp → Prop) (h0 : Pv 0 H0) (hl : ∀ i H, i ≤ xs.length → Pv i H → SqT K H a xs) (hs : ∀ i x H, xs[i]? = some x → Pv i H → Bd x H (Pv (i + 1))) (hd : ∀ H, Pv xs.length H → Fin H) :
    ∃ W : Nat → Nat → Hp → Prop, (∃ m, W 0 m H0) ∧ ∀ i m H, W i m H → ((Itt K a).stop i H ∧ Fin H) ∨ ((Itt K a).go i H ∧ ∃ Nx : Hp → Prop, (∀ H', Nx H' → ∃ m', m' < m ∧ W (i + 1) m' H') ∧ ∀ x H', (Itt K a).yld i H x H' → Bd x H' Nx) := by
  refine ⟨fun i m H => i + m = xs.length ∧ Pv i H, ⟨xs.length, by omega, h0⟩, fun i m H ⟨em, p⟩ => ?_⟩
  have q := hl i H (by omega) p
  by_cases lt : i < xs.length
  · refine .inr ⟨⟨xs, xs[i], q, List.getElem?_eq_getElem lt⟩, Pv (i + 1), fun H' p' => ⟨m - 1, by omega, by omega, p'⟩, fun x H' y => ?_⟩
    obtain ⟨rfl, y⟩ := y
    exact hs i x H' (y xs q) p
  · obtain rfl : i = xs.length := by omega
    exact .inl ⟨⟨xs, q, Nat.le_refl _⟩, hd H p⟩
theorem lp_list (Pv : Nat → Hp → Prop) (h0 : Pv 0 H0) (hl : ∀ i H, i ≤ xs.length → Pv i H → SqL K H a xs) (hs : ∀ i x H, xs[i]? = some x → Pv i H → Bd x H (Pv (i + 1))) (hd : ∀ H, Pv xs.length H → Fin H) :
    ∃ W : Nat → Nat → Hp → Prop, (∃ m, W 0 m H0) ∧ ∀ i m H, W i m H → ((Itl K a).stop i H ∧ Fin H) ∨ ((Itl K a).go i H ∧ ∃ Nx : Hp → Prop, (∀ H', Nx H' → ∃ m', m' < m ∧ W (i + 1) m' H') ∧ ∀ x H', (Itl K a).yld i H x H' → Bd x H' Nx) := by
  refine ⟨fun i m H => i + m = xs.length ∧ Pv i H, ⟨xs.length, by omega, h0⟩, fun i m H ⟨em, p⟩ => ?_⟩
  have q := hl i H (by omega) p
  by_cases lt : i < xs.length
  · refine .inr ⟨⟨xs, xs[i], q, List.getElem?_eq_getElem lt⟩, Pv (i + 1), fun H' p' => ⟨m - 1, by omega, by omega, p'⟩, fun x H' y => ?_⟩
    obtain ⟨rfl, y⟩ := y
    exact hs i x H' (y xs q) p
  · obtain rfl : i = xs.length := by omega
    exact .inl ⟨⟨xs, q, Nat.le_refl _⟩, hd H p⟩
end
/-! ### rules with the written part named (within comprehensions) -/
section
variable {X : Cx} {tg l : Expr} {tl : TE}
theorem pi_tupk (K : PySem.W.Frag) (hK : X.K = K) (hl : PE X l tl) : PI X tg l (iTup K tl) := by
  subst hK
  exact pi_tup hl
theorem op_catAk (K : PySem.W.Frag) (hK : X.K = K) : OpR X (binaryOp .Add) (rCatA K) := by
  subst hK
  exact op_catA
theorem ixl_k (K : PySem.W.Frag) (hK : X.K = K) : IxR X (rIxL K) := by
  subst hK
  exact ix_list
theorem ixt_k (K : PySem.W.Frag) (hK : X.K = K) : IxR X (rIxT K) := by
  subst hK
  exact ix_tup
theorem sl_tupk (K : PySem.W.Frag) (hK : X.K = K) : SlR X (rSlA K) := by
  subst hK
  exact sl_tupA
end
end Ek

namespace Ek
open PySem PySem.Spec PyProof.Rows L2
/-! ### the hand, its list of numbers named -/
def Hdd (H : Hp) (h dr : Addr) : Prop := ∃ (ds : List Int) (t : Nat), H h = some (.lst [.ref dr, .int (t : Int)]) ∧ H dr = some (.lst (ds.map V.int)) ∧ dr ≠ h ∧ ∀ x ∈ ds, 0 ≤ x
theorem Hdd.same {H H' : Hp} {h dr : Addr} (s : Same H H') (x : Hdd H h dr) : Hdd H' h dr := by
  obtain ⟨ds, t, h1, h2, n, p⟩ := x
  exact ⟨ds, t, s _ _ h1, s _ _ h2, n, p⟩
theorem Hdd.ne {H : Hp} {h dr b : Addr} (x : Hdd H h dr) (e : H b = none) : b ≠ h := fun z => by
  obtain ⟨ds, t, h1, _⟩ := x
  rw [z, h1] at e
  cases e
theorem Hdd.ned {H : Hp} {h dr b : Addr} (x : Hdd H h dr) (e : H b = none) : b ≠ dr := fun z => by
  obtain ⟨ds, t, h1, h2, _⟩ := x
  rw [z, h2] at e
  cases e
theorem Hdd.ns {H : Hp} {h dr b : Addr} {o : HO} (x : Hdd H h dr) (e : H b = some o) (n : ∀ d t, o ≠ .lst [.ref d, .int t]) : b ≠ h := fun z => by
  obtain ⟨ds, t, h1, _⟩ := x
  rw [z, h1] at e
  exact n _ _ (Option.some.inj e).symm
theorem Hdd.upd {H : Hp} {h dr D : Addr} {o : HO} (x : Hdd H h dr) (n1 : D ≠ h) (n2 : D ≠ dr) : Hdd (upd H D o) h dr := by
  obtain ⟨ds, t, h1, h2, n, p⟩ := x
  exact ⟨ds, t, by rw [upd_ne n1.symm]; exact h1, by rw [upd_ne n2.symm]; exact h2, n, p⟩
/-! ### repr of any data -/
def rReprA (K : PySem.W.Frag) : List V → Hp → VK → Prop := fun xs H Q => ∃ x d, xs = [x] ∧ Dp K H x d ∧ Okd d ∧ Q (.str d.shown) H
section
variable {X : Cx}
theorem call_reprA (hg : X.A.guards = some []) (hu : X.A.units + 64 < cLine) : CallR X (.builtin "repr") (rReprA X.K) := by
  intro pins s σ H xs us Q I r h
  obtain ⟨x, d, rfl, hd, hk, q⟩ := h
  have r0 := r
  obtain ⟨u, rfl, ru⟩ := vals1 r
  obtain ⟨h1, h2, h3, h4⟩ := id hk
  cases hd with
  | non =>
    obtain rfl : u = Value.none := ru
    exact PySem.P.repr_of_none ⟨.str _, H, I.tok _, ⟨_, rfl⟩, q⟩
  | bl b =>
    obtain rfl : u = Value.bool b := ru
    cases b
    · exact PySem.P.repr_of_bool ⟨.str _, H, I.tok _, ⟨_, rfl⟩, q⟩
    · exact PySem.P.repr_of_bool ⟨.str _, H, I.tok _, ⟨_, rfl⟩, q⟩
  | int i =>
    obtain ⟨t, rfl⟩ := ru
    refine PySem.P.repr_of_int ?_ ⟨.str _, H, I.tok _, ⟨_, rfl⟩, q⟩
    simpa [PyData.showable] using h1
  | str z =>
    obtain ⟨t, rfl⟩ := ru
    exact PySem.P.repr_of_str (hsz := by
      have e : (reprText z) = PyData.shown (.str z) := by simp [PyData.shown]
      rw [e, sizeLine_eq]
      omega) ⟨.str _, H, I.tok _, ⟨_, rfl⟩, q⟩
  | lst hs a => exact call_repr hg hu pins s σ H _ _ Q I r0 ⟨_, _, rfl, .lst hs a, rfl, hk, q⟩
  | tup hs a => exact call_repr hg hu pins s σ H _ _ Q I r0 ⟨_, _, rfl, .tup hs a, rfl, hk, q⟩
theorem call_reprAk (K : PySem.W.Frag) (hK : X.K = K) (hg : X.A.guards = some []) (hu : X.A.units + 64 < cLine) : CallR X (.builtin "repr") (rReprA K) := by
  subst hK
  exact call_reprA hg hu
theorem call_minTk (K : PySem.W.Frag) (hK : X.K = K) (hc : X.calm = true) : CallR X (.builtin "min") (rMinT K) := by
  subst hK
  exact call_minT hc
theorem call_lenk (K : PySem.W.Frag) (hK : X.K = K) : CallR X (.builtin "len") (fun xs H Q => ∃ p ys, xs = [V.ref p] ∧ (SqL K H p ys ∨ SqT K H p ys) ∧ Q (V.int ys.length) H) := by
  subst hK
  exact call_len_seq
theorem call_isik (K : PySem.W.Frag) (hK : X.K = K) : CallR X (.builtin "isinstance") (rIsi K) := by
  subst hK
  exact call_isi
/-! ### tuple * int, once too -/
theorem tuple_mul1 (l : Addr) (items : Array Value) (n : Nat) (dd : Option Addr) (sl : Array (Option Value)) (u : Tok) :
    Meets (Builtin.«tuple.__mul__» ⟨[.ref l, .int 1 u], []⟩) (fun _ R s => s.heap.get? l = some { cls := .type "tuple", dict := dd, data := .seq items n, slots := sl } ∧
      R (.ok (.ret (Value.ref l))) s) :=
  .of_wp fun prog w A R s h => by
    obtain ⟨hp, g, d, tk, os⟩ := s
    obtain ⟨hl, h⟩ := h
    have f1 := AutoSeq1.idx_int
    have c1 : (items.isEmpty || (1 : Int) == 1) = true := by simp
    wp_walk using wpAny_loadPart' hl
    repeat (first
      | (refine wpAny_ite_true (decide_eq_true (by rw [c1])) ?_; wp_walk using wpAny_loadPart' hl)
      | (refine wpAny_ite_false (decide_eq_false (by decide)) ?_; wp_walk using wpAny_loadPart' hl))
    exact ⟨_, rfl, h⟩
def rRepTA (K : PySem.W.Frag) : R2 := fun x y H Q => rRepT K x y H Q ∨ ∃ l xs, x = .ref l ∧ y = .int 1 ∧ SqT K H l xs ∧ Q (.ref l) H
theorem op_repTA : OpR X (binaryOp .Mult) (rRepTA X.K) := by
  intro pins s σ H x y v u Q I rx ry h
  rcases h with h | h
  · exact op_repT pins s σ H x y v u Q I rx ry h
  · obtain ⟨l, xs, rfl, rfl, hT, q⟩ := h
    cases rx
    obtain ⟨t, rfl⟩ := ry
    obtain ⟨its, r, ⟨⟨cls, dd, data, sl⟩, ho, hc, n, hd⟩, hs⟩ := I.tuple hT
    simp only at hc hd
    subst hc hd
    refine wpAny_binaryOp_repeat_ref (T := "tuple") (U := "int") (by decide) ⟨_, ho, rfl⟩ (fun s' => typeIs_int s' 1 t) noFill_tuple_mul F.fills_int_mul F.slot_int_rmul repeat_tuple F.slot_int_index.lookup
      (call_meets F.slot_int_rmul (typeIs_int s 1 t) F.entry_int_rmul (F.args_int_rmul_2 _ _) (int_rmul_tuple 1 t l its.toArray n dd sl)
        ⟨ho, rfl, ⟨_, ho, rfl⟩, call_meets F.slot_tuple_mul ⟨_, ho, rfl⟩ F.entry_tuple_mul (F.args_tuple_mul_2 _ _) (tuple_mul1 l its.toArray n dd sl t) ⟨ho, ?_⟩⟩)
    exact ⟨.ref l, H, I, rfl, q⟩
end
end Ek

namespace Ek
open PySem PySem.Spec PyProof.Rows L2
/-! ### a text shown is a text -/
theorem strOk_iff {s : Str} : PyData.strOk s = true ↔ ∀ c ∈ s.cps.toList, c < 0x110000 := by
  unfold PyData.strOk
  rw [Array.all_eq_true_iff_forall_mem]
  simp
theorem strOk_app {a b : Str} (ha : PyData.strOk a = true) (hb : PyData.strOk b = true) : PyData.strOk (a ++ b) = true := by
  rw [strOk_iff] at *
  intro c m
  have e : (a ++ b).cps = a.cps ++ b.cps := rfl
  rw [e, Array.toList_append] at m
  rcases List.mem_append.mp m with m | m
  · exact ha c m
  · exact hb c m
theorem strOk_int (i : Int) : PyData.strOk (toString i : String) = true := by
  rw [strOk_iff]
  intro c m
  by_cases h : c < 0x110000
  · exact h
  · exact absurd m (int_text_free' c ⟨by omega, .inr (by omega)⟩ i)
theorem strOk_from : ∀ {ts : List Str} {k : Nat} {acc : Str}, PyData.strOk acc = true → (∀ t ∈ ts, PyData.strOk t = true) → PyData.strOk (textFrom k acc ts) = true
  | [], _, _, h, _ => h
  | t :: ts, k, acc, h, ht => by
    refine strOk_from (ts := ts) (strOk_app (strOk_app h ?_) (ht t List.mem_cons_self)) fun x m => ht x (List.mem_cons_of_mem _ m)
    split <;> decide +kernel
theorem strOk_list {ts : List Str} (ht : ∀ t ∈ ts, PyData.strOk t = true) : PyData.strOk (listText ts) = true := strOk_app (strOk_from (by decide +kernel) ht) (by decide +kernel)
theorem strOk_join : ∀ {ts : List Str}, (∀ t ∈ ts, PyData.strOk t = true) → PyData.strOk (Str.join ", " ts) = true
  | [], _ => by decide +kernel
  | [x], h => h x List.mem_cons_self
  | x :: y :: r, h => strOk_app (strOk_app (h x List.mem_cons_self) (by decide +kernel)) (strOk_join (ts := y :: r) fun t m => h t (List.mem_cons_of_mem _ m))
theorem strOk_tuple {ts : List Str} (ht : ∀ t ∈ ts, PyData.strOk t = true) : PyData.strOk (tupleText ts) = true := by
  refine strOk_app (strOk_app (by decide +kernel) (strOk_join ht)) ?_
  split <;> decide +kernel
/-- what is shown of it is a text -/
def Tx (d : PyData) : Prop := PyData.strOk d.shown = true
theorem Tx.int {i : Int} : Tx (.int i) := by
  unfold Tx
  rw [PyData.shown]
  exact strOk_int i
theorem Tx.bool {b : Bool} : Tx (.bool b) := by cases b <;> (unfold Tx; decide +kernel)
theorem Tx.none : Tx .none := by unfold Tx; decide +kernel
theorem shownAll_mem : ∀ {ds : List PyData} {t : Str}, t ∈ PyData.shownAll ds → ∃ d ∈ ds, t = d.shown
  | [], t, h => by simp [PyData.shownAll] at h
  | d :: ds, t, h => by
    rw [PyData.shownAll] at h
    rcases List.mem_cons.mp h with rfl | h
    · exact ⟨d, List.mem_cons_self, rfl⟩
    · obtain ⟨d', m, e⟩ := shownAll_mem h
      exact ⟨d', List.mem_cons_of_mem _ m, e⟩
theorem Tx.all {ds : List PyData} (h : ∀ d ∈ ds, Tx d) : ∀ t ∈ PyData.shownAll ds, PyData.strOk t = true := fun t m => by
  obtain ⟨d, md, rfl⟩ := shownAll_mem m
  exact h d md
theorem Tx.list {ds : List PyData} (h : ∀ d ∈ ds, Tx d) : Tx (.list ds) := by
  unfold Tx
  rw [PyData.shown]
  exact strOk_list (Tx.all h)
theorem Tx.tuple {ds : List PyData} (h : ∀ d ∈ ds, Tx d) : Tx (.tuple ds) := by
  unfold Tx
  rw [PyData.shown]
  exact strOk_tuple (Tx.all h)
end Ek

namespace Ek
open PySem PySem.Spec PyProof.Rows L2
/-! ### several clauses, all with the same name; what no clause names does not come -/
abbrev Suite := Addr → Value → Option Addr → TS
def lostAt (i : Nat) (D : Ends) : Ends := { nx := fun t G => D.nx (t.set i none) G, rt := D.rt, bk := fun t G => D.bk (t.set i none) G, ct := fun t G => D.ct (t.set i none) G }
def wCl (K : PySem.W.Frag) (i : Nat) (D : Ends) : List (Value × Suite) → WX
  | [] => fun _ _ _ _ => False
  | (c, ts) :: more => fun k dd t G => ∃ hit, PySem.W.exmOne K k c = some hit ∧ (hit = true → ∀ ex, G ex = none → ts ex k dd (lostAt i D) (t.set i (some (.ref ex))) G) ∧ (hit = false → wCl K i D more k dd t G)
inductive Cls2 (X : Cx) (n : Str) : List ExceptHandler → List (Value × Suite) → Prop
  | none : Cls2 X n [] []
  | one {x : Str} {c : Value} {ts : Suite} {first : Stmt} {rest : List Stmt} {p p' : Pos} {hds : List ExceptHandler} {more : List (Value × Suite)} (nm : Names X x c)
      (ok : ∀ (ex : Addr) (ob : Obj) (k : Value) (dd : Option Addr) (pn : List (Addr × Obj)), Zc k dd ob → (∃ vs, ob.data = .fields vs) → PSs (X.suite ex ((ex, ob) :: pn)) (first :: rest) (ts ex k dd)) (m : Cls2 X n hds more) : Cls2 X n (.ExceptHandler (some (.Name x p)) (some n) (first :: rest) p' :: hds) ((c, ts) :: more)
section
variable {X : Cx} {n : Str} {i : Nat} {body : List Stmt} {h1 : ExceptHandler} {hds : List ExceptHandler} {cl : List (Value × Suite)} {pos : Pos} {tb : WX → TS}
theorem ps_clauses (st : X.stack = X.env :: X.outer) (fr : X.env.frame = some X.env.locals) (nd : X.N.Nodup) (at_ : X.N[i]? = some n) (lo : X.env.kindOf n = some .local)
    (bd : ∀ (W : WX) (pn : List (Addr × Obj)) (xe : Value → Shared → Prop), Takes (X.tr pn xe) W → PassesOwn (model X.prog X.w) X.A X.env xe → PSs (X.tr pn xe) body (tb W)) (hc : Cls2 X n (h1 :: hds) cl) :
    PS X (.Try body (h1 :: hds) [] [] pos) (fun D t G => tb (wCl X.K i D cl) D t G) := by
  constructor
  intro pins s σ G D inv wish
  have good := inv.ok
  have frames : X.A.frames = some (X.env :: X.outer) := st ▸ good.frames
  have here : Loc X.env.scope n := Or.inl lo
  apply wpAny_Try_except
  have run := (bd (wCl X.K i D cl) (X.pn ++ pins) (fun ev u1 => wpAny (model X.prog X.w) X.A (noteFrame ev X.env) (fun _ u2 => wpAny (model X.prog X.w) X.A (setFlight ev none) (fun _ u3 => wpAny (model X.prog X.w) X.A (handleBy ev X.env (h1 :: hds)) (SP X pins D) X.xe u3) X.xe u2) X.xe u1) ?caught PassesOwn.looking).run [] s σ G D (inv.toTry _) wish
  refine wpAny_mono run (fun fl u r => ?through) (fun _ _ z => z)
  case caught =>
    rintro ev u ⟨ex, B, sI, pins', t, G', k, dd, rfl, iv, nb, up, sky, free, os, ag, want⟩
    have iv2 : Inv X pins t G' sI := iv.ofTry good
    change wpAny (model X.prog X.w) X.A (noteFrame (.ref ex) X.env) _ _ _
    refine Sky.land Zc.steady frames fr (show Sky B (X.env :: X.outer) ex (Zc k dd) X.env.locals u.heap from st ▸ sky) fun g3 f3 u3 => ?_
    have iv3 : Inv X pins t G' { u with heap := g3 } := iv2.landed nb f3.1 (up.trans u3) os ag
    obtain ⟨ob, vs, eob, zob, dob⟩ := f3.there
    have away : ex ∉ frs (X.env :: X.outer) := fun m => by
      obtain ⟨_, o2, e2, no⟩ := f3.2.2.1.mem m
      have same : ob = o2 := Option.some.inj (eob.symm.trans e2)
      subst same
      exact no _ dob
    have neL : ex ≠ X.env.locals := fun z => away (by
      rw [z]
      exact List.mem_filterMap.mpr ⟨X.env, by simp, fr⟩)
    have neF : ex ∉ X.fs := fun m => by
      obtain ⟨e0, m0, q0⟩ := List.mem_filterMap.mp m
      exact away (List.mem_filterMap.mpr ⟨e0, List.mem_cons_of_mem _ m0, q0⟩)
    have su3 := iv3.suite eob dob free neL neF
    have walk : ∀ {hs : List ExceptHandler} {cs : List (Value × Suite)}, Cls2 X n hs cs → wCl X.K i D cs k dd t G' → wpAny (model X.prog X.w) X.A (handleBy (.ref ex) X.env hs) (SP X pins D) X.xe { u with heap := g3 } := by
      intro hs cs hk
      induction hk with
      | none => exact fun z => False.elim z
      | @one x c ts first rest p p' hs2 more nm ok m ih =>
        rintro ⟨hit, eh, yes, no⟩
        refine wpAny_handleBy_cons (codeAny_handlers_test ?_) (by intro z; cases z)
        have look : PySem.W.Looks (model X.prog X.w) g3 (typeOf (.ref ex)) k := fun A Q E s0 kp q => wpAny_typeOf_ref (kp _ _ eob) (by rw [zob.1]; exact q)
        have says := PySem.W.exm_one (M := model X.prog X.w) iv3.kIn look eh
        have named : ∀ {Q E : Value → Shared → Prop}, Q c { u with heap := g3 } → wpAny (model X.prog X.w) (X.A.mark (some (.ref ex))) (eval (.Name x p) X.env) Q E { u with heap := g3 } := by
          intro Q E q
          rcases nm with ⟨gl, db, own | ⟨no1, bt, nn⟩⟩
          · exact ld_glob (X := X.suite ex ((ex, ob) :: (X.pn ++ pins))) su3 gl own q db
          · exact ld_blt (X := X.suite ex ((ex, ob) :: (X.pn ++ pins))) su3 gl no1 bt q nn db
        refine named (says.here ?_)
        cases hit with
        | false => exact ih (no rfl)
        | true =>
          refine codeAny_handlers_suite_as (HandSPX.lands_againZ f3 fun g4 f4 u4 => ?_)
          have iv4 : Inv X pins t G' { u with heap := g4 } := iv2.landed nb f4.1 ((up.trans u3).trans u4) os ag
          obtain ⟨ob4, vs4, eob4, zob4, dob4⟩ := f4.there
          have su4 := iv4.suite eob4 dob4 free neL neF
          refine store_ok (X := X.suite ex ((ex, ob4) :: (X.pn ++ pins))) (v := .ref ex) su4 nd at_ here rfl (fun u5 su5 => ?_) (Or.inr lo)
          have suite := (ok ex ob4 k dd (X.pn ++ pins) zob4 ⟨_, dob4⟩).run [] u5 _ G' _ su5 (yes rfl ex free)
          refine wpAny_mono suite (fun fl u6 r => ?_) (fun _ _ z => z.elim)
          have leave : ∀ {t6 : L2.St} {G6 : Hp} {Q : Shared → Prop}, Inv (X.suite ex ((ex, ob4) :: (X.pn ++ pins))) [] t6 G6 u6 → (∀ u7, Inv X pins (t6.set i none) G6 u7 → Q u7) →
              wpAny (model X.prog X.w) X.A (do bindName X.env n .none; unbindBehindTheSuite X.env n p') (fun _ u7 => Q u7) X.xe u6 := fun w q => gone_ok (w.unsuite good) nd at_ lo q
          cases fl with
          | ret v => exact r.elim fun v6 r => r.elim fun t6 r => r.elim fun G6 r => leave r.1 fun u7 w => ⟨_, _, _, w, r.2.1, r.2.2⟩
          | next => exact r.elim fun t6 r => r.elim fun G6 r => leave r.1 fun u7 w => ⟨_, _, w, r.2⟩
          | brk => exact r.elim fun t6 r => r.elim fun G6 r => leave r.1 fun u7 w => ⟨_, _, w, r.2⟩
          | cont => exact r.elim fun t6 r => r.elim fun G6 r => leave r.1 fun u7 w => ⟨_, _, w, r.2⟩
    exact walk hc want
  case through =>
    cases fl with
    | ret v => exact r.elim fun v6 r => r.elim fun t6 r => r.elim fun G6 r => ⟨v6, t6, G6, r.1.ofTry good, r.2.1, r.2.2⟩
    | next => exact r.elim fun t6 r => r.elim fun G6 r => wpAny_execs_nil ⟨t6, G6, r.1.ofTry good, r.2⟩
    | brk => exact r.elim fun t6 r => r.elim fun G6 r => ⟨t6, G6, r.1.ofTry good, r.2⟩
    | cont => exact r.elim fun t6 r => r.elim fun G6 r => ⟨t6, G6, r.1.ofTry good, r.2⟩
end
end Ek

namespace Ek
open PySem PySem.Spec PyProof.Rows L2
/-! ### a tuple from its end -/
theorem adj_rev (n : Nat) : Builtin.Slice.sliceAdjust none none (-1) (n : Int) = ((n : Int) - 1, -1) := by
  have neg : ((-1 : Int) < 0) := by decide
  simp [Builtin.Slice.sliceAdjust, neg]
theorem places_rev (n : Nat) : Builtin.Slice.slicePlaces ((n : Int) - 1) (-1) (-1) = n := by
  unfold Builtin.Slice.slicePlaces
  rw [if_neg (by decide)]
  by_cases z : n = 0
  · subst z
    rfl
  · rw [if_pos (by omega), show (-(-1) : Int) = 1 from rfl, Int.ediv_one]
    omega
theorem pick_rev (xs : Array Value) : ((List.range xs.size).filterMap fun (j : Nat) => xs[(((xs.size : Nat) : Int) - 1 + (j : Int) * (-1)).toNat]?).toArray = xs.toList.reverse.toArray := by
  congr 1
  have step : ∀ (l : List Value), ((List.range l.length).filterMap fun (j : Nat) => l[((l.length : Int) - 1 + (j : Int) * (-1)).toNat]?) = l.reverse := by
    intro l
    apply List.ext_getElem?
    intro m
    have e : ((List.range l.length).filterMap fun (j : Nat) => l[((l.length : Int) - 1 + (j : Int) * (-1)).toNat]?) = (List.range l.length).map fun j => l.getD (l.length - 1 - j) .none := by
      have go : ∀ (r : List Nat), (∀ j ∈ r, j < l.length) → (r.filterMap fun (j : Nat) => l[((l.length : Int) - 1 + (j : Int) * (-1)).toNat]?) = r.map fun j => l.getD (l.length - 1 - j) .none := by
        intro r
        induction r with
        | nil => intro _; rfl
        | cons j r ih =>
          intro hr
          have lt := hr j List.mem_cons_self
          have e2 : ((l.length : Int) - 1 + (j : Int) * (-1)).toNat = l.length - 1 - j := by omega
          have e3 : l[((l.length : Int) - 1 + (j : Int) * (-1)).toNat]? = some (l.getD (l.length - 1 - j) .none) := by
            rw [e2, List.getD_eq_getElem?_getD, List.getElem?_eq_getElem (show l.length - 1 - j < l.length by omega)]
            rfl
          simp only [List.filterMap_cons, e3, List.map_cons]
          rw [ih fun x m => hr x (List.mem_cons_of_mem _ m)]
      exact go _ fun j m => List.mem_range.mp m
    rw [e, List.getElem?_map]
    by_cases lt : m < l.length
    · rw [List.getElem?_eq_getElem (show m < (List.range l.length).length by rw [List.length_range]; exact lt), List.getElem_range, List.getElem?_reverse lt]
      show some (l.getD (l.length - 1 - m) .none) = _
      rw [List.getD_eq_getElem?_getD, List.getElem?_eq_getElem (show l.length - 1 - m < l.length by omega)]
      rfl
    · rw [List.getElem?_eq_none (by rw [List.length_range]; omega), List.getElem?_eq_none (by rw [List.length_reverse]; omega)]
      rfl
  have z := step xs.toList
  rw [Array.length_toList] at z
  simpa using z
section
variable {prog : Program} {w : World} {A : Around} {E : Value → Shared → Prop} {s : Shared}
theorem app_rev {sl : Addr} {vs : Value} {n : Nat} {Q : Int × Int × Nat → Shared → Prop} (ob : s.heap.IsSliceOf sl .none .none vs) (pt : IsPart vs (some (-1))) (h : Q ((n : Int) - 1, -1, n) s) : wpAny (model prog w) A (Builtin.Slice.sliceApplied (.ref sl) (pure (n : Int))) Q E s := by
  obtain ⟨o, ho, _, dat⟩ := id ob
  unfold Builtin.Slice.sliceApplied Builtin.Slice.sliceFields
  refine wpAny_bind (wpAny_bind (wpAny_field ho dat (x := .none) rfl (wpAny_bind (wpAny_field ho dat (x := .none) rfl (wpAny_bind (wpAny_field ho dat (x := vs) rfl (wpAny_pure ?_)))))))
  refine wpAny_bind (HT.slicePart_ pt ?_)
  change wpAny _ _ (if ((-1 : Int) == 0) = true then _ else _) _ _ s
  rw [if_neg (by decide)]
  refine wpAny_bind (HT.slicePart_ .none (wpAny_bind (HT.slicePart_ .none (wpAny_bind (wpAny_pure ?_)))))
  change wpAny _ _ (match Builtin.Slice.sliceAdjust none none (-1) (n : Int) with | (lo, hi) => pure (lo, (-1 : Int), Builtin.Slice.slicePlaces lo hi (-1))) _ _ s
  rw [adj_rev]
  change wpAny _ _ (pure ((n : Int) - 1, (-1 : Int), Builtin.Slice.slicePlaces ((n : Int) - 1) (-1) (-1))) _ _ s
  rw [places_rev]
  exact wpAny_pure h
theorem get_rev {t sl : Addr} {items : Array Value} {vs : Value} {Q : Value → Shared → Prop} (tu : IsTup s.heap t items) (ob : s.heap.IsSliceOf sl .none .none vs) (pt : IsPart vs (some (-1)))
    (h : Q (.ref s.heap.objs.size) { s with heap := s.heap.push { cls := .type "tuple", data := .seq items.toList.reverse.toArray } }) (fits : items.size ≤ sizeLine) : wpAny (model prog w) A (getItem (.ref t) (.ref sl)) Q E s := by
  have ok : sizeOk (.seq items.toList.reverse.toArray) := by
    show items.toList.reverse.toArray.size ≤ sizeLine
    simpa using fits
  obtain ⟨o, ho, cl, dat⟩ := id ob
  have isSl : s.TypeIs (.ref sl) "slice" := ⟨o, ho, cl⟩
  unfold getItem
  try with_reducible refine wpAny_holding ?_
  first | refine wpAny_bind (wpAny_pure ?_) | skip
  refine wpAny_bind (wpAny_sequenceKey tu.typeIs (by decide) (wpAny_bind (wpAny_callSpecial?_slot (name := Str.ofString "__getitem__") tu.typeIs PyProof.Rows.slot_tuple_getitem (wpAny_call_entry PyProof.Rows.slot_tuple_getitem tu.typeIs PyProof.Rows.entry_tuple_getitem ?_ (PyProof.Rows.args_tuple_getitem _ _)))))
  change wpAny _ _ (Builtin.Tuple.tupleItemsOf (.ref t) >>= _) _ _ s
  refine wpAny_bind (PyProof.Rows.tupleItemsOf_ tu (wpAny_bind (wpAny_typeOf isSl ?_)))
  rw [if_pos (by decide)]
  refine wpAny_bind (app_rev ob pt ?_)
  change wpAny _ _ (if ((((items.size : Nat) : Int) - 1 == 0) && (-1 : Int) == 1 && items.size == items.size) = true then _ else _) _ _ s
  rw [if_neg (by simp), pick_rev]
  first
    | exact wpAny_bind (m := Builtin.Tuple.tupleExact _) (wpAny_newObj_type (wpAny_pure ⟨_, rfl, wpAny_pure h⟩) ok)
    | exact wpAny_bind (m := Builtin.Tuple.tupleExact _) (wpAny_newObj_type (wpAny_bind (wpAny_pure (wpAny_pure ⟨_, rfl, wpAny_pure h⟩))) ok)
    | exact wpAny_bind (wpAny_bind (m := Builtin.Tuple.tupleExact _) (wpAny_newObj_type (wpAny_pure (wpAny_pure ⟨_, rfl, wpAny_pure h⟩)) ok))
    | exact wpAny_bind (wpAny_bind (m := Builtin.Tuple.tupleExact _) (wpAny_newObj_type (wpAny_pure ⟨_, rfl, wpAny_pure h⟩) ok))
end
/-- t[::-1] -/
def tRevT (K : PySem.W.Frag) (te : TE) : TE := fun σ H Q => te σ H fun x H1 => ∃ a xs, x = .ref a ∧ SqT K H1 a xs ∧ ∀ p, H1 p = none → Q (.ref p) (upd H1 p (.tup xs.reverse))
theorem pe_revT {X : Cx} {e : Expr} {te : TE} {k : Nat} {p1 p2 p3 pos : Pos} (he : PE X e te) : PE X (.Subscript e (.Slice none none (some (.UnaryOp .USub (.Constant (.int 1) k p1) p2)) p3) pos) (tRevT X.K te) := by
  constructor
  intro pins s σ H Q inv wish
  refine Subscript_ (thn (he.run pins s σ H _ inv wish) fun u s1 ⟨x, H1, i1, rx, a, xs, ex, hx, q⟩ => ?_)
  subst ex
  obtain rfl : u = Value.ref a := rx
  have stp : PO X (some (.UnaryOp .USub (.Constant (.int 1) k p1) p2)) (tPart (tUn (rU fun i => .int (-i)) (tC (.int 1)))) := po_some (pe_un un_neg pe_int)
  refine wpAny_Slice (thn (po_none.run pins s1 σ H1 (fun o G => o = none ∧ G = H1) i1 ⟨rfl, rfl⟩) fun v1 s2 ⟨o1, G1, i2, t1, f1, g1⟩ => ?_)
  subst f1 g1
  refine thn (po_none.run pins s2 σ G1 (fun o G => o = none ∧ G = G1) i2 ⟨rfl, rfl⟩) fun v2 s3 ⟨o2, G2, i3, t2, f2, g2⟩ => ?_
  subst f2 g2
  refine thn (stp.run pins s3 σ G2 (fun o G => o = some (-1) ∧ G = G2) i3 ⟨1, rfl, -1, rfl, rfl, rfl⟩) fun v3 s4 ⟨o3, G3, i4, t3, f3, g3⟩ => ?_
  subst f3 g3
  cases t1
  cases t2
  have i5 : Inv X pins σ G3 { s4 with heap := s4.heap.push { cls := .type "slice", data := .fields #[.none, .none, v3] } } := i4.kept (t' := s4.toks) fun b ob z => Heap.get?_push_of_some _ z
  obtain ⟨its, r, tu, fits⟩ := i5.tuple hx
  have len := r.length
  change wpAny (model X.prog X.w) X.A (subscriptTail e (.Slice none none (some (.UnaryOp .USub (.Constant (.int 1) k p1) p2)) p3) (.ref a) (.ref s4.heap.objs.size)) (EP X pins σ Q) X.xe { s4 with heap := s4.heap.push { cls := .type "slice", data := .fields #[.none, .none, v3] } }
  refine tail_any (ops := [.ref a, .ref s4.heap.objs.size]) tu.typeIs (PyProof.Rows.slot_tuple_getitem.lookup) ?_ (by with_unfolding_all rfl)
  refine get_rev tu (Heap.IsSliceOf.new _ .none .none v3) t3 ?_ (by rw [List.size_toArray]; omega)
  refine ⟨.ref _, _, i5.laid (t' := s4.toks) (o := .tup xs.reverse) (fun b ob z => Heap.get?_push_of_some _ z) (Nat.le_refl _) ?_, rfl, q _ (i5.hok.fresh (Nat.le_refl _))⟩
  exact ⟨by rw [List.length_reverse]; exact fits, _, r.reverse, IsTup.new _ _⟩
theorem pg_tupk {X : Cx} {pos : Pos} {es : List Expr} {k n : Nat} {t : TGs} (K : PySem.W.Frag) (hK : X.K = K) (hc : X.calm = true) (h : PGs X es t) (hn : (assignEach es X.env).length = n := by rfl) (hst : (assignEach es X.env).findIdx? (·.1) = none := by rfl) : PG X (.Tuple es k pos) (gTup K n t) := by
  subst hK
  exact pg_tup hc h hn hst
theorem Sm.intW {i : Int} (h : i.natAbs < 10 ^ 18) : Sm 19 0 (.int i) := by
  refine ⟨?_, by simp only [PyData.hasDict], by simp only [PyData.depth]; exact Nat.le_refl _, ?_⟩
  · simp only [PyData.showable, decide_eq_true_eq]
    by_cases z : i.natAbs = 0
    · rw [z]
      decide
    · exact Nat.lt_trans ((Nat.log2_lt z).mpr (Nat.lt_trans h (by decide : 10 ^ 18 < 2 ^ 64))) (by decide)
  · rw [PyData.shown, PySem.ofString_length]
    exact int_text_length_le10 (by decide) h
theorem pi_listk {X : Cx} {tg l : Expr} {tl : TE} (K : PySem.W.Frag) (hK : X.K = K) (hl : PE X l tl) : PI X tg l (iList K tl) := by
  subst hK
  exact pi_list hl
theorem call_tuple_ofk {X : Cx} (K : PySem.W.Frag) (hK : X.K = K) : CallR X (.type "tuple") (fun xs H Q => ∃ p ys, xs = [V.ref p] ∧ ((SqL K H p ys ∧ ∀ l, H l = none → Q (V.ref l) (upd H l (.tup ys))) ∨ (SqT K H p ys ∧ Q (V.ref p) H))) := by
  subst hK
  exact call_tuple_of
end Ek

namespace C3
open PySem PySem.Spec PyProof.Rows L2 Ek
def topS (i : Nat) : Stmt := PySem.Challenge.pw_cutorall_k03_prices_from_others.main.body.getD i (.Pass ⟨0, 0, 0, 0⟩)
abbrev sII : Stmt := topS 2
abbrev NII : List Str := ["value"]
theorem scII : FnScope NII ["value"] (defScope sII) := ⟨rfl, rfl, rfl, by decide +kernel, rfl, by decide +kernel, by decide +kernel⟩

abbrev sIB : Stmt := topS 3
abbrev NIB : List Str := ["value", "limit"]
theorem scIB : FnScope NIB ["value", "limit"] (defScope sIB) := ⟨rfl, rfl, rfl, by decide +kernel, rfl, by decide +kernel, by decide +kernel⟩

abbrev sIV : Stmt := topS 4
abbrev NIV : List Str := ["value"]
theorem scIV : FnScope NIV ["value"] (defScope sIV) := ⟨rfl, rfl, rfl, by decide +kernel, rfl, by decide +kernel, by decide +kernel⟩

abbrev sIS : Stmt := topS 5
abbrev NIS : List Str := ["value"]
theorem scIS : FnScope NIS ["value"] (defScope sIS) := ⟨rfl, rfl, rfl, by decide +kernel, rfl, by decide +kernel, by decide +kernel⟩

abbrev sIQ : Stmt := topS 6
abbrev NIQ : List Str := ["value"]
theorem scIQ : FnScope NIQ ["value"] (defScope sIQ) := ⟨rfl, rfl, rfl, by decide +kernel, rfl, by decide +kernel, by decide +kernel⟩

abbrev sIR : Stmt := topS 7
abbrev NIR : List Str := ["value", "size", "member"]
theorem scIR : FnScope NIR ["value", "size"] (defScope sIR) := ⟨rfl, rfl, rfl, by decide +kernel, rfl, by decide +kernel, by decide +kernel⟩

abbrev sRO : Stmt := topS 8
abbrev NRO : List Str := ["size", "rows", "_", "row", "value"]
theorem scRO : FnScope NRO ["size"] (defScope sRO) := ⟨rfl, rfl, rfl, by decide +kernel, rfl, by decide +kernel, by decide +kernel⟩

abbrev sRN : Stmt := topS 9
abbrev NRN : List Str := ["row", "number", "value"]
theorem scRN : FnScope NRN ["row"] (defScope sRN) := ⟨rfl, rfl, rfl, by decide +kernel, rfl, by decide +kernel, by decide +kernel⟩

abbrev sAA : Stmt := topS 17
abbrev NAA : List Str := ["value", "size", "amount"]
theorem scAA : FnScope NAA ["value", "size"] (defScope sAA) := ⟨rfl, rfl, rfl, by decide +kernel, rfl, by decide +kernel, by decide +kernel⟩

abbrev sAP : Stmt := topS 18
abbrev NAP : List Str := ["value", "count", "size", "place"]
theorem scAP : FnScope NAP ["value", "count", "size"] (defScope sAP) := ⟨rfl, rfl, rfl, by decide +kernel, rfl, by decide +kernel, by decide +kernel⟩

abbrev sPI : Stmt := inClass (topS 19) 0
abbrev NPI : List Str := ["self", "size", "amounts"]
theorem scPI : FnScope NPI ["self", "size", "amounts"] (defScope sPI) := ⟨rfl, rfl, rfl, by decide +kernel, rfl, by decide +kernel, by decide +kernel⟩

abbrev sPC : Stmt := inClass (topS 19) 2
abbrev NPC : List Str := ["self", "row"]
theorem scPC : FnScope NPC ["self", "row"] (defScope sPC) := ⟨rfl, rfl, rfl, by decide +kernel, rfl, by decide +kernel, by decide +kernel⟩

abbrev sPO : Stmt := inClass (topS 19) 5
abbrev NPO : List Str := ["self"]
theorem scPO : FnScope NPO ["self"] (defScope sPO) := ⟨rfl, rfl, rfl, by decide +kernel, rfl, by decide +kernel, by decide +kernel⟩

abbrev sPP : Stmt := inClass (topS 19) 6
abbrev NPP : List Str := ["self", "other", "here", "there"]
theorem scPP : FnScope NPP ["self", "other"] (defScope sPP) := ⟨rfl, rfl, rfl, by decide +kernel, rfl, by decide +kernel, by decide +kernel⟩

abbrev sPT : Stmt := inClass (topS 19) 7
abbrev NPT : List Str := ["self", "many", "amount"]
theorem scPT : FnScope NPT ["self", "many"] (defScope sPT) := ⟨rfl, rfl, rfl, by decide +kernel, rfl, by decide +kernel, by decide +kernel⟩

abbrev sPF : Stmt := inClass (topS 19) 8
abbrev NPF : List Str := ["self", "place", "value", "rest", "row"]
theorem scPF : FnScope NPF ["self", "place", "value"] (defScope sPF) := ⟨rfl, rfl, rfl, by decide +kernel, rfl, by decide +kernel, by decide +kernel⟩

abbrev sPX : Stmt := inClass (topS 19) 9
abbrev NPX : List Str := ["self", "places", "size", "row", "place"]
theorem scPX : FnScope NPX ["self", "places", "size"] (defScope sPX) := ⟨rfl, rfl, rfl, by decide +kernel, rfl, by decide +kernel, by decide +kernel⟩

abbrev sXN : Stmt := inClass (topS 12) 0
abbrev NXN : List Str := ["self", "value"]
theorem scXN : FnScope NXN ["self", "value"] (defScope sXN) := ⟨rfl, rfl, rfl, by decide +kernel, rfl, by decide +kernel, by decide +kernel⟩

abbrev sXU : Stmt := inClass (topS 15) 0
abbrev NXU : List Str := ["self", "what"]
theorem scXU : FnScope NXU ["self", "what"] (defScope sXU) := ⟨rfl, rfl, rfl, by decide +kernel, rfl, by decide +kernel, by decide +kernel⟩

abbrev sDraws : Stmt := topS 21
abbrev NDraws : List Str := ["script", "many", "cell", "rests", "draws", "k", "at", "mixed"]
theorem scDraws : FnScope NDraws ["script", "many"] (defScope sDraws) := ⟨rfl, rfl, rfl, by decide +kernel, rfl, by decide +kernel, by decide +kernel⟩

abbrev sTake : Stmt := topS 22
abbrev NTake : List Str := ["hand", "many", "at", "draws"]
theorem scTake : FnScope NTake ["hand", "many"] (defScope sTake) := ⟨rfl, rfl, rfl, by decide +kernel, rfl, by decide +kernel, by decide +kernel⟩

abbrev sEvery : Stmt := topS 23
abbrev NEvery : List Str := ["many", "found", "k", "longer", "row"]
theorem scEvery : FnScope NEvery ["many"] (defScope sEvery) := ⟨rfl, rfl, rfl, by decide +kernel, rfl, by decide +kernel, by decide +kernel⟩

abbrev sAmount : Stmt := topS 24
abbrev NAmount : List Str := ["hand", "wide", "number"]
theorem scAmount : FnScope NAmount ["hand", "wide"] (defScope sAmount) := ⟨rfl, rfl, rfl, by decide +kernel, rfl, by decide +kernel, by decide +kernel⟩

abbrev sPlace : Stmt := topS 25
abbrev NPlace : List Str := ["row", "place", "value"]
theorem scPlace : FnScope NPlace ["row"] (defScope sPlace) := ⟨rfl, rfl, rfl, by decide +kernel, rfl, by decide +kernel, by decide +kernel⟩

abbrev sCost : Stmt := topS 26
abbrev NCost : List Str := ["price", "row"]
theorem scCost : FnScope NCost ["price", "row"] (defScope sCost) := ⟨rfl, rfl, rfl, by decide +kernel, rfl, by decide +kernel, by decide +kernel⟩

abbrev sLPrice : Stmt := topS 27
abbrev NLPrice : List Str := ["hand", "size", "kind", "wide", "every", "row", "amounts", "singles", "more", "pairs", "costs", "cost", "k"]
theorem scLPrice : FnScope NLPrice ["hand", "size"] (defScope sLPrice) := ⟨rfl, rfl, rfl, by decide +kernel, rfl, by decide +kernel, by decide +kernel⟩

abbrev sIs : Stmt := topS 28
abbrev NIs : List Str := ["made", "size", "amounts"]
theorem scIs : FnScope NIs ["made", "size", "amounts"] (defScope sIs) := ⟨rfl, rfl, rfl, by decide +kernel, rfl, by decide +kernel, by decide +kernel⟩

abbrev sDone : Stmt := topS 29
abbrev NDone : List Str := ["deed", "price", "one", "other", "e"]
theorem scDone : FnScope NDone ["deed", "price", "one", "other"] (defScope sDone) := ⟨rfl, rfl, rfl, by decide +kernel, rfl, by decide +kernel, by decide +kernel⟩

abbrev sIsN : Stmt := topS 30
abbrev NIsN : List Str := ["value", "least", "most"]
theorem scIsN : FnScope NIsN ["value", "least", "most"] (defScope sIsN) := ⟨rfl, rfl, rfl, by decide +kernel, rfl, by decide +kernel, by decide +kernel⟩

abbrev sFixedIs : Stmt := topS 31
abbrev NFixedIs : List Str := ["hand", "price", "own", "size", "amounts", "k", "place", "value", "done", "due", "rows", "row"]
theorem scFixedIs : FnScope NFixedIs ["hand", "price", "own"] (defScope sFixedIs) := ⟨rfl, rfl, rfl, by decide +kernel, rfl, by decide +kernel, by decide +kernel⟩

abbrev sReadIs : Stmt := topS 32
abbrev NReadIs : List Str := ["hand", "price", "own", "more", "places", "rows", "passed", "odd", "row", "k", "place"]
theorem scReadIs : FnScope NReadIs ["hand", "price", "own"] (defScope sReadIs) := ⟨rfl, rfl, rfl, by decide +kernel, rfl, by decide +kernel, by decide +kernel⟩

abbrev sLaw : Stmt := topS 33
abbrev NLaw : List Str := ["script", "hand", "own", "other", "price", "second", "done", "many", "odd", "one", "k"]
theorem scLaw : FnScope NLaw ["script"] (defScope sLaw) := ⟨rfl, rfl, rfl, by decide +kernel, rfl, by decide +kernel, by decide +kernel⟩
structure Bt (mg : Str → Option Value) : Prop where
  len : mg "len" = none
  int : mg "int" = none
  abs : mg "abs" = none
  range : mg "range" = none
  isinstance : mg "isinstance" = none
  bool : mg "bool" = none
  list : mg "list" = none
  tuple : mg "tuple" = none
  all : mg "all" = none
  min : mg "min" = none
  max : mg "max" = none
  sum : mg "sum" = none
  repr : mg "repr" = none
  zip : mg "zip" = none
/-- a value of a kind that may be asked about -/
inductive Kn (H : Hp) : V → Prop where
  | non : Kn H .non
  | bl (b : Bool) : Kn H (.bl b)
  | int (i : Int) : Kn H (.int i)
  | str (x : Str) : Kn H (.str x)
  | lst {a : Addr} {xs : List V} (e : H a = some (.lst xs)) : Kn H (.ref a)
  | tup {a : Addr} {xs : List V} (e : H a = some (.tup xs)) : Kn H (.ref a)
theorem Kn.same {H H' : Hp} {v : V} (s : Same H H') (k : Kn H v) : Kn H' v := by
  cases k with
  | non => exact .non
  | bl b => exact .bl b
  | int i => exact .int i
  | str x => exact .str x
  | lst e => exact .lst (s _ _ e)
  | tup e => exact .tup (s _ _ e)
def isI : V → Bool
  | .int _ => true
  | _ => false
def isB (n : Int) : V → Bool
  | .int i => decide (0 ≤ i) && decide (i < n)
  | _ => false
def isZ : V → Bool
  | .int i => decide (1 ≤ i) && decide (i ≤ 3)
  | _ => false
def isR : V → Bool
  | .ref _ => true
  | _ => false
section
variable {P : Program} {w : World} {K : PySem.W.Frag} {mg : Str → Option Value} {base : Heap}
def spII : Sp := fun vs H Q _ => ∃ v, vs = [v] ∧ Kn H v ∧ Q (.bl (isI v)) H
theorem ok_II {f : Addr} {fd : FuncData} (F : Fun K "is_integer" "is_integer" sII f fd) (B : Bt mg) : FnOk P w K mg base CX0 1 f fd ["value"] spII := by
  refine F.ok scII (fun vs H Q E h => ?_) (fun cdv A outer s H vs Q E hr h => ?_)
  · obtain ⟨v, rfl, _⟩ := h
    rfl
  · obtain ⟨v, rfl, k, q⟩ := h
    refine ⟨_, (pss_one (ps_ret (pe_and (pe_callB call_isi (by rfl) B.isinstance (by decide +kernel) (pa_cons (pv 0) (pa_cons (pe_bltn (v := .ty "int") (by rfl) B.int (by decide +kernel) rfl) pa_nil))) (pe_one (pe_not (pe_callB call_isi (by rfl) B.isinstance (by decide +kernel) (pa_cons (pv 0) (pa_cons (pe_bltn (v := .ty "bool") (by rfl) B.bool (by decide +kernel) rfl) pa_nil)))))))), ?_⟩
    refine q_ret ?_
    cases k with
    | non => exact ⟨_, rfl, _, _, _, _, _, rfl, .ty _, .base .non, kit_ty (by decide +kernel), false, rfl, q⟩
    | bl b => exact ⟨_, rfl, _, _, _, _, _, rfl, .ty _, .base (.bl _), kit_ty (by decide +kernel), true, rfl, _, rfl, _, _, _, _, _, rfl, .ty _, .base (.bl _), kit_ty (by decide +kernel), true, rfl, q⟩
    | int i => exact ⟨_, rfl, _, _, _, _, _, rfl, .ty _, .base (.int _), kit_ty (by decide +kernel), true, rfl, _, rfl, _, _, _, _, _, rfl, .ty _, .base (.int _), kit_ty (by decide +kernel), false, rfl, q⟩
    | str x => exact ⟨_, rfl, _, _, _, _, _, rfl, .ty _, .base (.str _), kit_ty (by decide +kernel), false, rfl, q⟩
    | lst e => exact ⟨_, rfl, _, _, _, _, _, rfl, .ty _, .base (.lst e), kit_ty (by decide +kernel), false, rfl, q⟩
    | tup e => exact ⟨_, rfl, _, _, _, _, _, rfl, .ty _, .base (.tup e), kit_ty (by decide +kernel), false, rfl, q⟩
def spIB : Sp := fun vs H Q _ => ∃ v n, vs = [v, .int n] ∧ Kn H v ∧ Q (.bl (isB n v)) H
theorem ok_IB {f fII : Addr} {fd fdII : FuncData} (F : Fun K "is_number_below" "is_number_below" sIB f fd) (GII : FnOk P w K mg base CX0 1 fII fdII ["value"] spII) (kII : PySem.W.keepIn K (.ref fII) = true) (bII : Binds K fdII ["value"] []) (gII : mg "is_integer" = some (.ref fII)) :
    FnOk P w K mg base CX0 2 f fd ["value", "limit"] spIB := by
  refine F.ok scIB (fun vs H Q E h => ?_) (fun cdv A outer s H vs Q E hr h => ?_)
  · obtain ⟨v, n, rfl, _⟩ := h
    rfl
  · obtain ⟨v, n, rfl, k, q⟩ := h
    refine ⟨_, (pss_one (ps_ret (pe_and (pe_call GII (hr.mono (by decide)) (by rfl) gII kII bII .nil pass0 (pa_cons (pv 0) pa_nil)) (pe_one (pe_chain op_le op_lt pe_int (pv 0) (pv 1)))))), ?_⟩
    refine q_ret ⟨_, rfl, v, rfl, k, isI v, rfl, ?_⟩
    cases v with
    | int i =>
      refine ⟨_, rfl, _, _, rfl, rfl, _, rfl, ?_⟩
      have q' : Q (.bl (decide (0 ≤ i) && decide (i < n))) H := q
      by_cases z : 0 ≤ i
      · rw [decide_eq_true z] at q' ⊢
        exact ⟨_, rfl, _, _, rfl, rfl, q'⟩
      · rw [decide_eq_false z] at q' ⊢
        exact q'
    | _ => exact q
def spIV : Sp := fun vs H Q _ => ∃ v, vs = [v] ∧ Kn H v ∧ Q (.bl (isB 2 v)) H
theorem ok_IV {f fIB : Addr} {fd fdIB : FuncData} (F : Fun K "is_value" "is_value" sIV f fd) (GIB : FnOk P w K mg base CX0 2 fIB fdIB ["value", "limit"] spIB) (kIB : PySem.W.keepIn K (.ref fIB) = true) (bIB : Binds K fdIB ["value", "limit"] []) (gIB : mg "is_number_below" = some (.ref fIB)) :
    FnOk P w K mg base CX0 3 f fd ["value"] spIV := by
  refine F.ok scIV (fun vs H Q E h => ?_) (fun cdv A outer s H vs Q E hr h => ?_)
  · obtain ⟨v, rfl, _⟩ := h
    rfl
  · obtain ⟨v, rfl, k, q⟩ := h
    refine ⟨_, (pss_one (ps_ret (pe_call GIB (hr.mono (by decide)) (by rfl) gIB kIB bIB .nil pass0 (pa_cons (pv 0) (pa_cons pe_int pa_nil))))), ?_⟩
    exact q_ret ⟨_, rfl, v, 2, rfl, k, q⟩
def spIS : Sp := fun vs H Q _ => ∃ v, vs = [v] ∧ Kn H v ∧ Q (.bl (isZ v)) H
theorem ok_IS {f fII : Addr} {fd fdII : FuncData} (F : Fun K "is_size" "is_size" sIS f fd) (GII : FnOk P w K mg base CX0 1 fII fdII ["value"] spII) (kII : PySem.W.keepIn K (.ref fII) = true) (bII : Binds K fdII ["value"] []) (gII : mg "is_integer" = some (.ref fII)) :
    FnOk P w K mg base CX0 2 f fd ["value"] spIS := by
  refine F.ok scIS (fun vs H Q E h => ?_) (fun cdv A outer s H vs Q E hr h => ?_)
  · obtain ⟨v, rfl, _⟩ := h
    rfl
  · obtain ⟨v, rfl, k, q⟩ := h
    refine ⟨_, (pss_one (ps_ret (pe_and (pe_call GII (hr.mono (by decide)) (by rfl) gII kII bII .nil pass0 (pa_cons (pv 0) pa_nil)) (pe_one (pe_chain op_le op_le pe_int (pv 0) pe_int))))), ?_⟩
    refine q_ret ⟨_, rfl, v, rfl, k, isI v, rfl, ?_⟩
    cases v with
    | int i =>
      refine ⟨_, rfl, _, _, rfl, rfl, _, rfl, ?_⟩
      have q' : Q (.bl (decide (1 ≤ i) && decide (i ≤ 3))) H := q
      by_cases z : 1 ≤ i
      · rw [decide_eq_true z] at q' ⊢
        exact ⟨_, _, rfl, rfl, q'⟩
      · rw [decide_eq_false z] at q' ⊢
        exact q'
    | _ => exact q
def spIQ : Sp := fun vs H Q _ => ∃ v, vs = [v] ∧ Kn H v ∧ ∀ H', Same H H' → Q (.bl (isR v)) H'
theorem ok_IQ {f : Addr} {fd : FuncData} (F : Fun K "is_sequence" "is_sequence" sIQ f fd) (B : Bt mg) : FnOk P w K mg base CX0 1 f fd ["value"] spIQ := by
  refine F.ok scIQ (fun vs H Q E h => ?_) (fun cdv A outer s H vs Q E hr h => ?_)
  · obtain ⟨v, rfl, _⟩ := h
    rfl
  · obtain ⟨v, rfl, k, q⟩ := h
    refine ⟨_, (pss_one (ps_ret (pe_callB call_isiT (by rfl) B.isinstance (by decide +kernel) (pa_cons (pv 0) (pa_cons (pe_tup (pa_cons (pe_bltn (v := .ty "list") (by rfl) B.list (by decide +kernel) rfl) (pa_cons (pe_bltn (v := .ty "tuple") (by rfl) B.tuple (by decide +kernel) rfl) pa_nil))) pa_nil))))), ?_⟩
    refine q_ret ⟨_, rfl, by show 2 ≤ sizeLine; decide, fun p np => ?_⟩
    have s1 := same_upd (o := .tup [.ty "list", .ty "tuple"]) np
    have k1 := k.same s1
    have c2 : Paired ClsV [.ty "list", .ty "tuple"] [.type "list", .type "tuple"] := .cons (.ty _) (.cons (.ty _) .nil)
    cases k1 with
    | non => exact ⟨_, _, _, _, _, _, rfl, upd_same, c2, .base .non, kitAny_cons (b := false) (kit_ty (by decide +kernel)) (fun _ => kitAny_cons (b := false) (r := false) (kit_ty (by decide +kernel)) (fun _ => kitAny_nil) (fun z => z)) (fun z => by cases z), q _ s1⟩
    | bl b => exact ⟨_, _, _, _, _, _, rfl, upd_same, c2, .base (.bl _), kitAny_cons (b := false) (kit_ty (by decide +kernel)) (fun _ => kitAny_cons (b := false) (r := false) (kit_ty (by decide +kernel)) (fun _ => kitAny_nil) (fun z => z)) (fun z => by cases z), q _ s1⟩
    | int i => exact ⟨_, _, _, _, _, _, rfl, upd_same, c2, .base (.int _), kitAny_cons (b := false) (kit_ty (by decide +kernel)) (fun _ => kitAny_cons (b := false) (r := false) (kit_ty (by decide +kernel)) (fun _ => kitAny_nil) (fun z => z)) (fun z => by cases z), q _ s1⟩
    | str x => exact ⟨_, _, _, _, _, _, rfl, upd_same, c2, .base (.str _), kitAny_cons (b := false) (kit_ty (by decide +kernel)) (fun _ => kitAny_cons (b := false) (r := false) (kit_ty (by decide +kernel)) (fun _ => kitAny_nil) (fun z => z)) (fun z => by cases z), q _ s1⟩
    | lst e => exact ⟨_, _, _, _, _, true, rfl, upd_same, c2, .base (.lst e), kitAny_cons (b := true) (kit_ty (by decide +kernel)) (fun z => by cases z) (fun _ => rfl), q _ s1⟩
    | tup e => exact ⟨_, _, _, _, _, true, rfl, upd_same, c2, .base (.tup e), kitAny_cons (b := false) (kit_ty (by decide +kernel)) (fun _ => kitAny_cons (b := true) (kit_ty (by decide +kernel)) (fun z => by cases z) (fun _ => rfl)) (fun z => by cases z), q _ s1⟩
/-- the values of a row, and how they count -/
def num (bs : List Int) : Int := bs.foldl (fun n v => 2 * n + v) 0
def spRN (K : PySem.W.Frag) : Sp := fun vs H Q _ => ∃ (a : Addr) (bs : List Int), vs = [.ref a] ∧ SqT K H a (bs.map V.int) ∧ Q (.int (num bs)) H
theorem num_take {bs : List Int} {i : Nat} {b : Int} (h : bs[i]? = some b) : num (bs.take (i + 1)) = 2 * num (bs.take i) + b := by
  unfold num
  obtain ⟨hi, e⟩ := List.getElem?_eq_some_iff.mp h
  rw [List.take_add_one, h, List.foldl_append]
  rfl
theorem ok_RN {f : Addr} {fd : FuncData} (F : Fun K "row_number" "row_number" sRN f fd) : FnOk P w K mg base CX0 1 f fd ["row"] (spRN K) := by
  refine F.ok scRN (fun vs H Q E h => ?_) (fun cdv A outer s H vs Q E hr h => ?_)
  · obtain ⟨a, bs, rfl, _⟩ := h
    rfl
  · obtain ⟨a, bs, rfl, hS, q⟩ := h
    refine ⟨_, (pss_cons (ps_set (i := 1) scRN.nd rfl (.inl rfl) pe_int)
      (pss_cons (ps_for PassesOwn.never rfl (pi_tup (pv 0)) (pg_name (i := 2) scRN.nd rfl (.inl rfl))
      (pss_one (ps_set (i := 1) scRN.nd rfl (.inl rfl) (pe_op op_add (pe_op op_mul pe_int (pv 1)) (pv 2)))))
      (pss_one (ps_ret (pv 1))))), ?_⟩
    refine q_seq (q_setc ?_)
    dsimp only
    refine q_seq ?_
    refine ⟨.ref a, rfl, a, rfl, ⟨_, hS⟩, for_tup (K := K) (a := a) (xs := bs.map V.int) (fun i σ H' => ∃ v : Option V, σ = [some (.ref a), some (.int (num (bs.take i))), v] ∧ H' = H) ⟨none, rfl, rfl⟩ (fun i σ H' _ hP => by obtain ⟨v, _, rfl⟩ := hP; exact hS) (fun i x σ H' hx hP => ?_) (fun σ H' hP => ?_)⟩
    · obtain ⟨v, rfl, rfl⟩ := hP
      rw [List.getElem?_map] at hx
      cases e : bs[i]? with
      | none => rw [e] at hx; cases hx
      | some b =>
        rw [e] at hx
        obtain rfl : x = .int b := (Option.some.inj hx).symm
        refine ⟨_, rfl, _, _, rfl, rfl, .inl ⟨by decide, by decide⟩, _, rfl, _, _, rfl, rfl, some (.int b), ?_, rfl⟩
        rw [num_take e]
        rfl
    · obtain ⟨v, rfl, rfl⟩ := hP
      dsimp only
      refine q_ret ⟨_, rfl, ?_⟩
      rw [List.length_map, List.take_length]
      exact q
end
end C3

namespace C3
open PySem PySem.Spec PyProof.Rows L2 Ek
section
variable {P : Program} {w : World} {K : PySem.W.Frag} {mg : Str → Option Value} {base : Heap}
theorem len_small {xs : List V} {n : Nat} (h : xs.length ≤ n) (hn : n ≤ 1000) : xs.length < sizeLine := small1000 (by omega)
/-- whether the members at a are a row of n values -/
def rowB (n : Int) (xs : List V) : Bool := decide ((xs.length : Int) = n) && xs.all (isB 2)
def spIR : Sp := fun vs H Q _ => ∃ v n, vs = [v, .int n] ∧ ((Kn H v ∧ (∀ a xs, v = .ref a → H a ≠ some (.tup xs)) ∧ Q (.bl false) H) ∨
  ∃ a xs, v = .ref a ∧ H a = some (.tup xs) ∧ (∀ x ∈ xs, Kn H x) ∧ xs.length ≤ 100 ∧ ∀ H', Same H H' → Q (.bl (rowB n xs)) H')
theorem ok_IR {f fIV : Addr} {fd fdIV : FuncData} (F : Fun K "is_row" "is_row" sIR f fd) (B : Bt mg) (GIV : FnOk P w K mg base CX0 3 fIV fdIV ["value"] spIV) (kIV : PySem.W.keepIn K (.ref fIV) = true) (bIV : Binds K fdIV ["value"] []) (gIV : mg "is_value" = some (.ref fIV)) : FnOk P w K mg base CX0 4 f fd ["value", "size"] spIR := by
  refine F.ok scIR (fun vs H Q E h => ?_) (fun cdv A outer s H vs Q E hr h => ?_)
  · obtain ⟨v, n, rfl, _⟩ := h
    rfl
  · obtain ⟨v, n, rfl, h⟩ := h
    refine ⟨_, (pss_one (ps_ret (pe_and (pe_callB call_isi (by rfl) B.isinstance (by decide +kernel) (pa_cons (pv 0) (pa_cons (pe_bltn (v := .ty "tuple") (by rfl) B.tuple (by decide +kernel) rfl) pa_nil))) (pe_and (pe_cmpR op_eq (pe_callB call_len_seq (by rfl) B.len PySem.boot_len (pa_cons (pv 0) pa_nil)) (pv 1) (nomark _)) (pe_one (pe_callB (cr_all rfl) (by rfl) B.all (by decide +kernel) (pa_cons (pe_lc (own := [("member", 2)]) (g := gName 2) (tt := tYes) rfl scIR.nd (pi_tup (pv 0)) (blkOk_by (N := NIR) (sc := defScope sIR) (by decide +kernel)) (fun _ _ _ _ _ => pg_name (i := 2) scIR.nd rfl (Or.inl rfl)) (fun _ _ _ _ _ => pts_nil) (fun _ _ _ _ _ => (pe_call GIV (hr.mono (by decide)) (by rfl) gIV kIV bIV .nil pass0 (pa_cons (pv 2) pa_nil)))) pa_nil))))))), ?_⟩
    refine q_ret ?_
    rcases h with ⟨k, nt, q⟩ | ⟨a, xs, rfl, e, km, hl, q⟩
    · cases k with
      | non => exact ⟨_, rfl, _, _, _, _, _, rfl, .ty _, .base .non, kit_ty (by decide +kernel), false, rfl, q⟩
      | bl b => exact ⟨_, rfl, _, _, _, _, _, rfl, .ty _, .base (.bl _), kit_ty (by decide +kernel), false, rfl, q⟩
      | int i => exact ⟨_, rfl, _, _, _, _, _, rfl, .ty _, .base (.int _), kit_ty (by decide +kernel), false, rfl, q⟩
      | str x => exact ⟨_, rfl, _, _, _, _, _, rfl, .ty _, .base (.str _), kit_ty (by decide +kernel), false, rfl, q⟩
      | lst e => exact ⟨_, rfl, _, _, _, _, _, rfl, .ty _, .base (.lst e), kit_ty (by decide +kernel), false, rfl, q⟩
      | tup e => exact absurd e (nt _ _ rfl)
    · refine ⟨_, rfl, _, _, _, _, true, rfl, .ty _, .base (.tup e), kit_ty (by decide +kernel), true, rfl, ?_⟩
      refine ⟨_, rfl, a, xs, rfl, .inr (tl e), .int n, rfl, rfl, _, rfl, ?_⟩
      by_cases hn : (xs.length : Int) = n
      · rw [decide_eq_true (by rw [hn])]
        have er : rowB n xs = xs.all (isB 2) := by
          unfold rowB
          rw [decide_eq_true hn, Bool.true_and]
        refine ⟨.ref a, rfl, a, rfl, ⟨_, tl e⟩, fun D nD => lc_tup (K := K) (a := a) (xs := xs) (fun i H' => Same H H' ∧ H' D = some (.lst (((xs.take i).map (isB 2)).map V.bl))) ⟨same_upd nD, upd_same⟩ (fun i H' _ hP => tl (hP.1 _ _ e)) (fun i x H' hx hP => ?_) (fun H' hP => ?_)⟩
        · obtain ⟨s', hD⟩ := hP
          have kx : Kn H' x := (km x (List.mem_of_getElem? hx)).same s'
          refine ⟨rfl, _, rfl, x, rfl, kx, _, hD, ?_, fun b o z => ?_, ?_⟩
          · rw [List.length_map, List.length_map, List.length_take]
            exact small1000 (Nat.le_trans (Nat.min_le_right _ _) (by omega))
          · rw [upd_ne (ne_of_none z nD)]
            exact s' _ _ z
          · rw [upd_same, List.take_add_one, hx, List.map_append, List.map_append]
            rfl
        · obtain ⟨s', hD⟩ := hP
          rw [List.take_length] at hD
          refine ⟨D, xs.map (isB 2), rfl, sl hD, ?_⟩
          have z := q H' s'
          rw [er] at z
          have e2 : (xs.map (isB 2)).all id = xs.all (isB 2) := by
            rw [List.all_map]
            rfl
          rw [e2]
          exact z
      · rw [decide_eq_false (fun z => hn (V.int.inj z))]
        have er : rowB n xs = false := by
          unfold rowB
          rw [decide_eq_false hn, Bool.false_and]
        have z := q H (Same.refl H)
        rw [er] at z
        exact z
def rowsOf : Nat → List (List Int)
  | 0 => [[]]
  | n + 1 => (rowsOf n).flatMap fun r => [r ++ [0], r ++ [1]]
theorem rows_len : ∀ n, (rowsOf n).length = 2 ^ n
  | 0 => rfl
  | n + 1 => by
    have h : ∀ l : List (List Int), (l.flatMap fun r => [r ++ [0], r ++ [1]]).length = 2 * l.length := fun l => by
      induction l with
      | nil => rfl
      | cons x l ih => rw [List.flatMap_cons, List.length_append, ih, List.length_cons, List.length_cons, List.length_cons, List.length_nil]; omega
    show ((rowsOf n).flatMap fun r => [r ++ [0], r ++ [1]]).length = _
    rw [h, rows_len n, Nat.pow_succ]
    omega
theorem row_len : ∀ n, ∀ r ∈ rowsOf n, r.length = n
  | 0, r, h => by
    obtain rfl := List.mem_singleton.mp h
    rfl
  | n + 1, r, h => by
    obtain ⟨x, hx, hr⟩ := List.mem_flatMap.mp h
    have z := row_len n x hx
    simp only [List.mem_cons, List.not_mem_nil, or_false] at hr
    rcases hr with rfl | rfl <;> simp [z]
/-- tuples at rs, of these values -/
abbrev Rws (H : Hp) (rs : List Addr) (bss : List (List Int)) : Prop := Paired (fun r (bs : List Int) => H r = some (.tup (bs.map V.int))) rs bss
theorem Rws.same {H H' : Hp} {rs : List Addr} {bss : List (List Int)} (s : Same H H') (x : Rws H rs bss) : Rws H' rs bss := by
  induction x with
  | nil => exact .nil
  | cons e _ ih => exact .cons (s _ _ e) ih
def spRO : Sp := fun vs H Q _ => ∃ n : Nat, vs = [.int n] ∧ n ≤ 3 ∧ ∀ H' p rs, Same H H' → H p = none → H' p = some (.tup (rs.map V.ref)) → Rws H' rs (rowsOf n) → Q (.ref p) H'
theorem Rws.updL {H : Hp} {rs : List Addr} {bss : List (List Int)} {D : Addr} {xs : List V} {o : HO} (e : H D = some (.lst xs)) (x : Rws H rs bss) : Rws (upd H D o) rs bss := by
  induction x with
  | nil => exact .nil
  | cons h _ ih => exact .cons (by rw [upd_ne (ne_of h e (by intro z; cases z))]; exact h) ih
theorem take_flat {α β : Type} (g : α → List β) {l : List α} {i : Nat} {x : α} (h : l[i]? = some x) : (l.take (i + 1)).flatMap g = (l.take i).flatMap g ++ g x := by
  rw [List.take_add_one, h, List.flatMap_append]
  simp
theorem ok_RO {f : Addr} {fd : FuncData} (F : Fun K "rows_of" "rows_of" sRO f fd) (B : Bt mg) : FnOk P w K mg base CX0 1 f fd ["size"] spRO := by
  refine F.ok scRO (fun vs H Q E h => ?_) (fun cdv A outer s H vs Q E hr h => ?_)
  · obtain ⟨n, rfl, _⟩ := h
    rfl
  · obtain ⟨n, rfl, hn, q⟩ := h
    refine ⟨_, pss_cons (ps_set (i := 1) scRO.nd rfl (.inl rfl) (pe_lst (pa_cons (pe_tup pa_nil) pa_nil)))
      (pss_cons (ps_for PassesOwn.never rfl (pi_range1 rfl B.range (pa_cons (pv 0) pa_nil)) (pg_name (i := 2) scRO.nd rfl (.inl rfl))
        (pss_one (ps_setLc2 (i := 1) (own := [("row", 3), ("value", 4)]) (vs1 := [4]) (g := gName 3) (g1 := gName 4) (tt := tYes) (tt1 := tYes) rfl scRO.nd rfl rfl (sw_true rfl rfl rfl (by decide +kernel)) (pi_list (pv 1)) (blkOk_by (N := NRO) (sc := defScope sRO) (by decide +kernel)) (by decide)
          (fun _ _ _ _ _ => pg_name (i := 3) scRO.nd rfl (Or.inl rfl)) (fun _ _ _ _ _ => pts_nil) (fun _ _ _ _ _ => pi_tupk K rfl (pe_tup (pa_cons pe_int (pa_cons pe_int pa_nil)))) (fun _ _ _ _ _ => pg_name (i := 4) scRO.nd rfl (Or.inl rfl)) (fun _ _ _ _ _ => pts_nil)
          (fun _ _ _ _ _ => pe_op (op_catAk K rfl) (pv 3) (pe_tup (pa_cons (pv 4) pa_nil))))))
      (pss_one (ps_ret (pe_callTy call_tuple_of (by rfl) B.tuple (by decide +kernel) (pa_cons (pv 1) pa_nil))))), ?_⟩
    refine q_seq (q_set ?_)
    refine ⟨Nat.zero_le _, fun t0 nt0 => ⟨by show 1 ≤ sizeLine; decide, fun L0 nL0 => ?_⟩⟩
    have s0 : Same H (upd (upd H t0 (.tup [])) L0 (.lst [.ref t0])) := (same_upd nt0).trans (same_upd nL0)
    have e0 : (upd (upd H t0 (.tup [])) L0 (.lst [.ref t0])) t0 = some (.tup []) := same_upd nL0 _ _ upd_same
    dsimp only
    refine q_seq ?_
    refine ⟨_, rfl, n, rfl, by omega, by omega, for_range (lo := 0) (n := n) (fun i σ H' => ∃ (L : Addr) (u : Option V) (rs : List Addr), σ = [some (.int n), some (.ref L), u, none, none] ∧ Same H H' ∧ H' L = some (.lst (rs.map V.ref)) ∧ Rws H' rs (rowsOf i))
      ⟨L0, none, [t0], rfl, s0, upd_same, .cons e0 .nil⟩ (fun i σ H1 hi hP => ?_) (fun σ H1 hP => ?_)⟩
    · obtain ⟨L, u, rs, rfl, s1, hL, rw1⟩ := hP
      refine q_set ?_
      have len1 : rs.length = (rowsOf i).length := paired_len rw1
      have lim : (rowsOf i).length ≤ 8 := by
        rw [rows_len]
        exact Nat.le_trans (Nat.pow_le_pow_right (by decide) (show i ≤ 3 by omega)) (by decide)
      refine ⟨.ref L, rfl, L, rfl, ⟨_, sl hL⟩, fun D nD => lp_list (K := K) (a := L) (xs := rs.map V.ref) (fun j H2 => Same H1 H2 ∧ ∃ rs2 : List Addr, H2 D = some (.lst (rs2.map V.ref)) ∧ Rws H2 rs2 (((rowsOf i).take j).flatMap fun r => [r ++ [0], r ++ [1]]))
        ⟨same_upd nD, [], upd_same, .nil⟩ (fun j H2 _ hQ => sl (hQ.1 _ _ hL)) (fun j x H2 hx hQ => ?_) (fun H2 hQ => ?_)⟩
      · obtain ⟨s2, rs2, hD, rw2⟩ := hQ
        obtain ⟨r, bs, rfl, hbs, hr⟩ : ∃ r bs, x = V.ref r ∧ (rowsOf i)[j]? = some bs ∧ H1 r = some (.tup (bs.map V.int)) := by
          rw [List.getElem?_map] at hx
          cases e : rs[j]? with
          | none => rw [e] at hx; cases hx
          | some r =>
            rw [e] at hx
            have hj : j < (rowsOf i).length := by
              rw [← len1]
              exact (List.getElem?_eq_some_iff.mp e).1
            obtain ⟨y, hy, hz⟩ := paired_get rw1 (List.getElem?_eq_getElem hj)
            rw [e] at hy
            cases hy
            exact ⟨r, _, (Option.some.inj hx).symm, List.getElem?_eq_getElem hj, hz⟩
        have l2 : rs2.length ≤ 16 := by
          have z := paired_len rw2
          have h2 : ∀ l : List (List Int), (l.flatMap fun r => [r ++ [0], r ++ [1]]).length = 2 * l.length := fun l => by
            induction l with
            | nil => rfl
            | cons x l ih => rw [List.flatMap_cons, List.length_append, ih, List.length_cons, List.length_cons, List.length_cons, List.length_nil]; omega
          rw [h2, List.length_take] at z
          omega
        have lb : bs.length ≤ 3 := by
          rw [row_len i bs (List.mem_of_getElem? hbs)]
          omega
        refine ⟨rfl, by show 2 ≤ sizeLine; decide, fun tp ntp => ⟨tp, rfl, ⟨_, tl upd_same⟩, lp_tup (K := K) (a := tp) (xs := [.int 0, .int 1]) (fun k H3 => Same H1 H3 ∧ H3 tp = some (.tup [.int 0, .int 1]) ∧ ∃ rs3 : List Addr, H3 D = some (.lst (rs3.map V.ref)) ∧ rs3.length = rs2.length + k ∧ Rws H3 rs3 ((((rowsOf i).take j).flatMap fun r => [r ++ [0], r ++ [1]]) ++ ([bs ++ [0], bs ++ [1]].take k)))
          ⟨s2.trans (same_upd ntp), upd_same, rs2, same_upd ntp _ _ hD, rfl, by rw [List.take_zero, List.append_nil]; exact rw2.same (same_upd ntp)⟩ (fun k H3 _ hR => tl hR.2.1) (fun k y H3 hy hR => ?_) (fun H3 hR => ?_)⟩⟩
        · obtain ⟨s3, htp, rs3, hD3, l3, rw3⟩ := hR
          obtain ⟨b, rfl, hb⟩ : ∃ b : Int, y = .int b ∧ [bs ++ [0], bs ++ [1]][k]? = some (bs ++ [b]) := by
            match k, hy with
            | 0, hy => exact ⟨0, (Option.some.inj hy).symm, rfl⟩
            | 1, hy => exact ⟨1, (Option.some.inj hy).symm, rfl⟩
            | k + 2, hy => simp at hy
          have hk : k < 2 := (List.getElem?_eq_some_iff.mp hy).1
          -- what is laid at t: the new row
          have fin : ∀ (H4 : Hp) (t : Addr), Same H3 H4 → H4 t = some (.tup ((bs ++ [b]).map V.int)) → ∃ acc, H4 D = some (.lst acc) ∧ acc.length < sizeLine ∧ Same H1 (upd H4 D (.lst (acc ++ [.ref t]))) ∧ (upd H4 D (.lst (acc ++ [.ref t]))) tp = some (.tup [.int 0, .int 1]) ∧
              ∃ rs3 : List Addr, (upd H4 D (.lst (acc ++ [.ref t]))) D = some (.lst (rs3.map V.ref)) ∧ rs3.length = rs2.length + (k + 1) ∧ Rws (upd H4 D (.lst (acc ++ [.ref t]))) rs3 ((((rowsOf i).take j).flatMap fun r => [r ++ [0], r ++ [1]]) ++ ([bs ++ [0], bs ++ [1]].take (k + 1))) := fun H4 t s4 ht => by
            have hD4 := s4 _ _ hD3
            refine ⟨_, hD4, by rw [List.length_map]; exact small1000 (by omega), fun c o e => ?_, ?_, rs3 ++ [t], by rw [upd_same, List.map_append]; rfl, by rw [List.length_append, l3]; rfl, ?_⟩
            · rw [upd_ne (ne_of_none e nD)]
              exact s4 _ _ (s3 _ _ e)
            · have htp4 := s4 _ _ htp
              rw [upd_ne (ne_of htp4 hD4 (by intro z; cases z))]
              exact htp4
            · rw [List.take_add_one, hb, ← List.append_assoc]
              exact Rws.updL hD4 (paired_app (rw3.same s4) (.cons ht .nil))
          refine ⟨rfl, .ref r, rfl, .int b, rfl, by show 1 ≤ sizeLine; decide, fun t1 nt1 => ?_⟩
          refine ⟨r, t1, bs.map V.int, [.int b], rfl, rfl, tl (same_upd nt1 _ _ (s3 _ _ hr)), tl upd_same, ?_, fun z => ?_, (fun _ z => absurd z (List.cons_ne_nil _ _)), fun _ _ p np => ?_⟩
          · rw [List.length_map]
            exact Nat.le_of_lt (small1000 (by show bs.length + 1 ≤ 1000; omega))
          · have zb : bs = [] := by
              cases bs with
              | nil => rfl
              | cons c d => cases z
            subst zb
            exact fin _ t1 (same_upd nt1) upd_same
          · exact fin _ p ((same_upd nt1).trans (same_upd np)) (by rw [upd_same, List.map_append]; rfl)
        · obtain ⟨s3, htp, rs3, hD3, l3, rw3⟩ := hR
          refine ⟨s3, rs3, hD3, ?_⟩
          rw [take_flat _ hbs]
          exact rw3
      · obtain ⟨s2, rs2, hD, rw2⟩ := hQ
        refine ⟨D, _, rs2, rfl, s1.trans s2, hD, ?_⟩
        rw [List.length_map, len1, List.take_length] at rw2
        exact rw2
    · obtain ⟨L, u, rs, rfl, s1, hL, rw1⟩ := hP
      dsimp only
      refine q_ret ⟨.ref L, rfl, L, _, rfl, .inl ⟨sl hL, fun p np => q _ p rs (s1.trans (same_upd np)) (s1.free np) upd_same (rw1.same (same_upd np))⟩⟩
end
end C3

namespace C3
open PySem PySem.Spec PyProof.Rows L2 Ek
section
variable {P : Program} {w : World} {K : PySem.W.Frag} {mg : Str → Option Value} {base : Heap}
def amB (k : Nat) (xs : List V) : Bool := decide (xs.length = 2 ^ k) && xs.all isI
theorem amB_ints {k : Nat} : ∀ {xs : List V}, xs.all isI = true → ∃ ms : List Int, xs = ms.map V.int
  | [], _ => ⟨[], rfl⟩
  | x :: xs, h => by
    rw [List.all_cons, Bool.and_eq_true] at h
    obtain ⟨ms, rfl⟩ := amB_ints (k := k) h.2
    cases x with
    | int i => exact ⟨i :: ms, rfl⟩
    | _ => exact absurd h.1 (by simp [isI])
/-- what may be passed as amounts -/
inductive Am (H : Hp) : V → Prop where
  | flat {v : V} (k : Kn H v) (n : isR v = false) : Am H v
  | lst {a : Addr} {xs : List V} (e : H a = some (.lst xs)) (km : ∀ x ∈ xs, Kn H x) (z : xs.length ≤ 100) : Am H (.ref a)
  | tup {a : Addr} {xs : List V} (e : H a = some (.tup xs)) (km : ∀ x ∈ xs, Kn H x) (z : xs.length ≤ 100) : Am H (.ref a)
theorem Am.same {H H' : Hp} {v : V} (s : Same H H') (k : Am H v) : Am H' v := by
  cases k with
  | flat k n => exact .flat (k.same s) n
  | lst e km z => exact .lst (s _ _ e) (fun x hx => (km x hx).same s) z
  | tup e km z => exact .tup (s _ _ e) (fun x hx => (km x hx).same s) z
/-- the members, if it is a sequence -/
def Mem (H : Hp) (v : V) (xs : List V) : Prop := ∃ a, v = .ref a ∧ (H a = some (.lst xs) ∨ H a = some (.tup xs))
def spAA : Sp := fun vs H Q _ => ∃ (v : V) (k : Nat), vs = [v, .int k] ∧ k ≤ 3 ∧ Am H v ∧ ∀ H', Same H H' → (isR v = false → Q (.bl false) H') ∧ ∀ xs, Mem H v xs → Q (.bl (amB k xs)) H'
theorem ok_AA {f fIQ fII : Addr} {fd fdIQ fdII : FuncData} (F : Fun K "_are_amounts" "_are_amounts" sAA f fd) (B : Bt mg) (GIQ : FnOk P w K mg base CX0 1 fIQ fdIQ ["value"] spIQ) (kIQ : PySem.W.keepIn K (.ref fIQ) = true) (bIQ : Binds K fdIQ ["value"] []) (gIQ : mg "is_sequence" = some (.ref fIQ)) (GII : FnOk P w K mg base CX0 1 fII fdII ["value"] spII) (kII : PySem.W.keepIn K (.ref fII) = true) (bII : Binds K fdII ["value"] []) (gII : mg "is_integer" = some (.ref fII)) : FnOk P w K mg base CX0 2 f fd ["value", "size"] spAA := by
  refine F.ok scAA (fun vs H Q E h => ?_) (fun cdv A outer s H vs Q E hr h => ?_)
  · obtain ⟨v, k, rfl, _⟩ := h
    rfl
  · obtain ⟨v, k, rfl, hk, am, q⟩ := h
    have pw : (1 : Int) * 2 ^ ((k : Nat) : Int).toNat = ((2 ^ k : Nat) : Int) := by
      rw [Int.toNat_natCast, Int.one_mul]
      simp
    cases am with
    | flat kn n =>
      refine ⟨_, (pss_one (ps_ret (pe_and (pe_call GIQ (hr.mono (by decide)) (by rfl) gIQ kIQ bIQ .nil pass0 (pa_cons (pv 0) pa_nil)) (pe_and (pe_cmpR op_eq (pe_callB call_len_seq (by rfl) B.len PySem.boot_len (pa_cons (pv 0) pa_nil)) (pe_op op_shl pe_int (pv 1)) (nomark _)) (pe_one (pe_callB (cr_all rfl) (by rfl) B.all (by decide +kernel) (pa_cons (pe_lc (own := [("amount", 2)]) (g := gName 2) (tt := tYes) rfl scAA.nd (pi_list (pv 0)) (blkOk_by (N := NAA) (sc := defScope sAA) (by decide +kernel)) (fun _ _ _ _ _ => pg_name (i := 2) scAA.nd rfl (Or.inl rfl)) (fun _ _ _ _ _ => pts_nil) (fun _ _ _ _ _ => (pe_call GII (hr.mono (by decide)) (by rfl) gII kII bII .nil pass0 (pa_cons (pv 2) pa_nil)))) pa_nil))))))), ?_⟩
      refine q_ret ⟨_, rfl, v, rfl, kn, fun H1 s1 => ⟨_, rfl, ?_⟩⟩
      rw [n]
      exact (q H1 s1).1 n
    | @lst a xs e km z =>
      refine ⟨_, (pss_one (ps_ret (pe_and (pe_call GIQ (hr.mono (by decide)) (by rfl) gIQ kIQ bIQ .nil pass0 (pa_cons (pv 0) pa_nil)) (pe_and (pe_cmpR op_eq (pe_callB call_len_seq (by rfl) B.len PySem.boot_len (pa_cons (pv 0) pa_nil)) (pe_op op_shl pe_int (pv 1)) (nomark _)) (pe_one (pe_callB (cr_all rfl) (by rfl) B.all (by decide +kernel) (pa_cons (pe_lc (own := [("amount", 2)]) (g := gName 2) (tt := tYes) rfl scAA.nd (pi_list (pv 0)) (blkOk_by (N := NAA) (sc := defScope sAA) (by decide +kernel)) (fun _ _ _ _ _ => pg_name (i := 2) scAA.nd rfl (Or.inl rfl)) (fun _ _ _ _ _ => pts_nil) (fun _ _ _ _ _ => (pe_call GII (hr.mono (by decide)) (by rfl) gII kII bII .nil pass0 (pa_cons (pv 2) pa_nil)))) pa_nil))))))), ?_⟩
      refine q_ret ⟨_, rfl, .ref a, rfl, .lst e, fun H1 s1 => ⟨true, rfl, ?_⟩⟩
      have e1 := s1 _ _ e
      refine ⟨_, rfl, a, xs, rfl, .inl (sl e1), .int k, rfl, 1, (k : Int), rfl, rfl, ⟨by omega, by omega, by decide⟩, rfl, _, rfl, ?_⟩
      dsimp only
      by_cases hn : xs.length = 2 ^ k
      · rw [decide_eq_true (show V.int (xs.length : Int) = V.int (1 * 2 ^ ((k : Nat) : Int).toNat) by rw [pw, hn])]
        refine ⟨.ref a, rfl, a, rfl, ⟨_, sl e1⟩, fun D nD => lc_list (K := K) (a := a) (xs := xs) (fun i H' => Same H1 H' ∧ H' D = some (.lst (((xs.take i).map isI).map V.bl))) ⟨same_upd nD, upd_same⟩ (fun i H' _ hP => sl (hP.1 _ _ e1)) (fun i x H' hx hP => ?_) (fun H' hP => ?_)⟩
        · obtain ⟨s', hD⟩ := hP
          refine ⟨rfl, _, rfl, x, rfl, ((km x (List.mem_of_getElem? hx)).same s1).same s', _, hD, ?_, fun b o z => ?_, ?_⟩
          · rw [List.length_map, List.length_map, List.length_take]
            exact small1000 (Nat.le_trans (Nat.min_le_right _ _) (by omega))
          · rw [upd_ne (ne_of_none z nD)]
            exact s' _ _ z
          · rw [upd_same, List.take_add_one, hx, List.map_append, List.map_append]
            rfl
        · obtain ⟨s', hD⟩ := hP
          rw [List.take_length] at hD
          refine ⟨D, xs.map isI, rfl, sl hD, ?_⟩
          have z := (q H' (s1.trans s')).2 xs ⟨a, rfl, .inl e⟩
          have er : amB k xs = xs.all isI := by
            unfold amB
            rw [decide_eq_true hn, Bool.true_and]
          have e2 : (xs.map isI).all id = xs.all isI := by
            rw [List.all_map]
            rfl
          rw [e2, ← er]
          exact z
      · rw [decide_eq_false (show ¬ V.int (xs.length : Int) = V.int (1 * 2 ^ ((k : Nat) : Int).toNat) from fun z => hn (by have z' := V.int.inj z; rw [pw] at z'; omega))]
        have er : amB k xs = false := by
          unfold amB
          rw [decide_eq_false hn, Bool.false_and]
        have z := (q H1 s1).2 xs ⟨a, rfl, .inl e⟩
        rw [er] at z
        exact z
    | @tup a xs e km z =>
      refine ⟨_, (pss_one (ps_ret (pe_and (pe_call GIQ (hr.mono (by decide)) (by rfl) gIQ kIQ bIQ .nil pass0 (pa_cons (pv 0) pa_nil)) (pe_and (pe_cmpR op_eq (pe_callB call_len_seq (by rfl) B.len PySem.boot_len (pa_cons (pv 0) pa_nil)) (pe_op op_shl pe_int (pv 1)) (nomark _)) (pe_one (pe_callB (cr_all rfl) (by rfl) B.all (by decide +kernel) (pa_cons (pe_lc (own := [("amount", 2)]) (g := gName 2) (tt := tYes) rfl scAA.nd (pi_tup (pv 0)) (blkOk_by (N := NAA) (sc := defScope sAA) (by decide +kernel)) (fun _ _ _ _ _ => pg_name (i := 2) scAA.nd rfl (Or.inl rfl)) (fun _ _ _ _ _ => pts_nil) (fun _ _ _ _ _ => (pe_call GII (hr.mono (by decide)) (by rfl) gII kII bII .nil pass0 (pa_cons (pv 2) pa_nil)))) pa_nil))))))), ?_⟩
      refine q_ret ⟨_, rfl, .ref a, rfl, .tup e, fun H1 s1 => ⟨true, rfl, ?_⟩⟩
      have e1 := s1 _ _ e
      refine ⟨_, rfl, a, xs, rfl, .inr (tl e1), .int k, rfl, 1, (k : Int), rfl, rfl, ⟨by omega, by omega, by decide⟩, rfl, _, rfl, ?_⟩
      dsimp only
      by_cases hn : xs.length = 2 ^ k
      · rw [decide_eq_true (show V.int (xs.length : Int) = V.int (1 * 2 ^ ((k : Nat) : Int).toNat) by rw [pw, hn])]
        refine ⟨.ref a, rfl, a, rfl, ⟨_, tl e1⟩, fun D nD => lc_tup (K := K) (a := a) (xs := xs) (fun i H' => Same H1 H' ∧ H' D = some (.lst (((xs.take i).map isI).map V.bl))) ⟨same_upd nD, upd_same⟩ (fun i H' _ hP => tl (hP.1 _ _ e1)) (fun i x H' hx hP => ?_) (fun H' hP => ?_)⟩
        · obtain ⟨s', hD⟩ := hP
          refine ⟨rfl, _, rfl, x, rfl, ((km x (List.mem_of_getElem? hx)).same s1).same s', _, hD, ?_, fun b o z => ?_, ?_⟩
          · rw [List.length_map, List.length_map, List.length_take]
            exact small1000 (Nat.le_trans (Nat.min_le_right _ _) (by omega))
          · rw [upd_ne (ne_of_none z nD)]
            exact s' _ _ z
          · rw [upd_same, List.take_add_one, hx, List.map_append, List.map_append]
            rfl
        · obtain ⟨s', hD⟩ := hP
          rw [List.take_length] at hD
          refine ⟨D, xs.map isI, rfl, sl hD, ?_⟩
          have z := (q H' (s1.trans s')).2 xs ⟨a, rfl, .inr e⟩
          have er : amB k xs = xs.all isI := by
            unfold amB
            rw [decide_eq_true hn, Bool.true_and]
          have e2 : (xs.map isI).all id = xs.all isI := by
            rw [List.all_map]
            rfl
          rw [e2, ← er]
          exact z
      · rw [decide_eq_false (show ¬ V.int (xs.length : Int) = V.int (1 * 2 ^ ((k : Nat) : Int).toNat) from fun z => hn (by have z' := V.int.inj z; rw [pw] at z'; omega))]
        have er : amB k xs = false := by
          unfold amB
          rw [decide_eq_false hn, Bool.false_and]
        have z := (q H1 s1).2 xs ⟨a, rfl, .inr e⟩
        rw [er] at z
        exact z
end
end C3

namespace C3
open PySem PySem.Spec PyProof.Rows L2 Ek
section
variable {P : Program} {w : World} {K : PySem.W.Frag} {mg : Str → Option Value} {base : Heap}
/-! ### the errors: what their __init__ leaves, to be raised -/
def spXf (K : PySem.W.Frag) (f : Str) : Sp := fun vs H Q _ => ∃ (a C : Addr) (y : V), vs = [.ref a, y] ∧ OexC K C ∧ PySem.W.findIn K (.ref C) f = some none ∧ H a = some (exo a C none) ∧
  ∀ d H', (∀ b o, b ≠ a → H b = some o → H' b = some o) → H d = none → d ≠ a → H' a = some (exo a C (some d)) → H' d = some (exd d [(f, y)]) → Q .non H'
theorem ok_XN {f : Addr} {fd : FuncData} (F : Fun K "__init__" "InvalidNumber.__init__" sXN f fd) : FnOk P w K mg base CX0 1 f fd ["self", "value"] (spXf K "value") := by
  refine F.ok scXN (fun vs H Q E h => ?_) (fun cdv A outer s H vs Q E hr h => ?_)
  · obtain ⟨a, C, y, rfl, _⟩ := h
    rfl
  · obtain ⟨a, C, y, rfl, T, hno, ha, q⟩ := h
    exact ⟨_, pss_one (ps_ost (pv 0) (pv 1)), y, rfl, .ref a, rfl, a, C, rfl, T, hno, .inl ⟨ha, fun d nd ne => q d _ (x1_end nd ne).1 nd ne upd_same (by rw [upd_ne ne, upd_same])⟩⟩
theorem ok_XU {f : Addr} {fd : FuncData} (F : Fun K "__init__" "Undefined.__init__" sXU f fd) : FnOk P w K mg base CX0 1 f fd ["self", "what"] (spXf K "what") := by
  refine F.ok scXU (fun vs H Q E h => ?_) (fun cdv A outer s H vs Q E hr h => ?_)
  · obtain ⟨a, C, y, rfl, _⟩ := h
    rfl
  · obtain ⟨a, C, y, rfl, T, hno, ha, q⟩ := h
    exact ⟨_, pss_one (ps_ost (pv 0) (pv 1)), y, rfl, .ref a, rfl, a, C, rfl, T, hno, .inl ⟨ha, fun d nd ne => q d _ (x1_end nd ne).1 nd ne upd_same (by rw [upd_ne ne, upd_same])⟩⟩
/-- a class of errors with the one field f -/
structure Xc (K : PySem.W.Frag) (mg : Str → Option Value) (x f : Str) (C : Addr) : Prop where
  g : mg x = some (.ref C)
  o : OexC K C
  xf : XfC K C
  xe : ExcC K C
  no : PySem.W.findIn K (.ref C) f = some none
/-- X(y) as it is raised: what is known at the end -/
theorem raise_end {C : Addr} {y : V} {f : Str} {H1 : Hp} {Q : XK} (T : OexC K C) (no : PySem.W.findIn K (.ref C) f = some none) (q : ∀ d H', Same H1 H' → H1 d = none → H' d = some (.xd [(f, y)]) → Q (.ref C) (some d) H') :
    ∀ a, H1 a = none → spXf K f (.ref a :: ([y] ++ [])) (upd H1 a (exo a C none)) (fun v H2 => v = .non ∧ ∃ (d : Addr) (fs : List (Str × V)), H2 a = some (exo a C (some d)) ∧ H2 d = some (exd d fs) ∧ H1 d = none ∧ Q (.ref C) (some d) (upd (del H2 a) d (.xd fs))) (fun _ _ _ => False) := by
  intro a na
  refine ⟨a, C, y, rfl, T, no, upd_same, fun d H2 k nd ne ha hd => ⟨rfl, d, _, ha, hd, ?_, q d _ (fun b o e => ?_) ?_ upd_same⟩⟩
  · rw [upd_ne ne] at nd
    exact nd
  · have nb : b ≠ a := ne_of_none e na
    have nd1 : b ≠ d := fun z => by
      rw [z] at e
      rw [upd_ne ne, e] at nd
      cases nd
    rw [upd_ne nd1, del_ne nb]
    exact k b o nb (by rw [upd_ne nb]; exact e)
  · rw [upd_ne ne] at nd
    exact nd
theorem sz_am : ¬ (("size" : Str) = "amounts") := by decide +kernel
theorem am_sz : ¬ (("amounts" : Str) = "size") := by decide +kernel
def pf (k : Nat) (t : Addr) : List (Str × V) := [("size", .int k), ("amounts", .ref t)]
theorem pf_put (k : Nat) (t : Addr) : putF "amounts" (.ref t) (putF "size" (.int k) []) = pf k t := by
  show (if ("size" : Str) = "amounts" then [(("size" : Str), V.ref t)] else (("size" : Str), V.int k) :: putF "amounts" (V.ref t) []) = _
  rw [if_neg sz_am]
  rfl
theorem pf_size (k : Nat) (t : Addr) : (pf k t).lookup ("size" : Str) = some (.int k) := by simp [pf, List.lookup]
theorem pf_am (k : Nat) (t : Addr) : (pf k t).lookup ("amounts" : Str) = some (.ref t) := by
  have e : (("amounts" : Str) == "size") = false := by decide +kernel
  simp [pf, List.lookup, e]
/-- a price at p: its class C, its size, its amounts -/
def PrAt (C : Addr) (H : Hp) (p : Addr) (k : Nat) (ms : List Int) : Prop := ∃ dx t, H p = some (.ins C dx (pf k t)) ∧ H t = some (.tup (ms.map V.int)) ∧ 1 ≤ k ∧ k ≤ 3 ∧ ms.length = 2 ^ k
theorem PrAt.same {C : Addr} {H H' : Hp} {p : Addr} {k : Nat} {ms : List Int} (s : Same H H') (x : PrAt C H p k ms) : PrAt C H' p k ms := by
  obtain ⟨dx, t, h1, h2, h3⟩ := x
  exact ⟨dx, t, s _ _ h1, s _ _ h2, h3⟩
structure Pc (K : PySem.W.Frag) (mg : Str → Option Value) (C : Addr) : Prop where
  g : mg "Price" = some (.ref C)
  cl : Cls K C
  nS : NoAttr K C "size"
  nA : NoAttr K C "amounts"
/-- size and amounts are those of a price -/
def Good (H : Hp) (sz am : V) (k : Nat) (ms : List Int) : Prop := sz = .int k ∧ 1 ≤ k ∧ k ≤ 3 ∧ ms.length = 2 ^ k ∧ Mem H am (ms.map V.int)
/-- the same of what is good, nothing raised -/
def spPI0 (C : Addr) : Sp := fun vs H Q _ => ∃ (p dx : Addr) (sz am : V) (k : Nat) (ms : List Int), vs = [.ref p, sz, am] ∧ H p = some (.ins C dx []) ∧ Am H am ∧ Good H sz am k ms ∧
  ∀ H', (∀ b o, b ≠ p → H b = some o → H' b = some o) → PrAt C H' p k ms → Q .non H'
theorem good_am {H : Hp} {am : V} {k : Nat} {ms : List Int} (m : Mem H am (ms.map V.int)) (hl : ms.length = 2 ^ k) : amB k (ms.map V.int) = true := by
  unfold amB
  rw [decide_eq_true (by rw [List.length_map]; exact hl), Bool.true_and, List.all_map]
  exact List.all_eq_true.mpr fun x _ => rfl
theorem mem_inj {H : Hp} {v : V} {xs ys : List V} (a : Mem H v xs) (b : Mem H v ys) : xs = ys := by
  obtain ⟨p, rfl, h⟩ := a
  obtain ⟨q, e, h'⟩ := b
  cases e
  rcases h with h | h <;> rcases h' with h' | h' <;> rw [h] at h' <;> cases h' <;> rfl
/-- the end of a good price's making -/
theorem init_end {C : Addr} {H H1 : Hp} {D : Ends} {p dx : Addr} {am : V} {k : Nat} {ms : List Int} {Q : VK} (T : Pc K mg C) (s1 : Same H H1) (hp : H p = some (.ins C dx [])) (g : Good H (.int k) am k ms)
    (hD : ∀ σ H', Q .non H' → D.nx σ H') (q : ∀ H', (∀ b o, b ≠ p → H b = some o → H' b = some o) → PrAt C H' p k ms → Q .non H') :
    tSeq (sFld K (tVar 0) (tVar 1) "size") (sFld K (tVar 0) (tCB (fun xs H Q => ∃ p ys, xs = [.ref p] ∧ ((SqL K H p ys ∧ ∀ l, H l = none → Q (.ref l) (upd H l (.tup ys))) ∨ (SqT K H p ys ∧ Q (.ref p) H))) (tCons (tVar 2) tNil)) "amounts") D [some (.ref p), some (.int k), some am] H1 := by
  obtain ⟨_, k1, k3, hl, a, rfl, hm⟩ := g
  have hp1 := s1 _ _ hp
  refine q_seq ⟨_, rfl, _, rfl, p, C, dx, [], rfl, hp1, T.cl, T.nS, by show 0 < 1000; decide, ?_⟩
  dsimp only
  have na : ∀ {xs : List V} {t : Addr}, H t = some (.lst xs) ∨ H t = some (.tup xs) → t ≠ p := fun {xs t} h z => by
    subst z
    rcases h with h | h <;> rw [hp] at h <;> cases h
  have hm1 : H1 a = some (.lst (ms.map V.int)) ∨ H1 a = some (.tup (ms.map V.int)) := hm.imp (s1 _ _) (s1 _ _)
  have nap := na hm
  have e2 : ∀ {o : HO}, (upd H1 p o) a = H1 a := fun {o} => upd_ne nap
  have fin : ∀ (H4 : Hp) (t : Addr), (∀ b o, b ≠ p → H1 b = some o → H4 b = some o) → t ≠ p → H4 t = some (.tup (ms.map V.int)) → H4 p = some (.ins C dx (putF "size" (.int k) [])) →
      ∃ b C' dx' fs, V.ref p = .ref b ∧ H4 b = some (.ins C' dx' fs) ∧ Cls K C' ∧ NoAttr K C' "amounts" ∧ fs.length < 1000 ∧ D.nx [some (.ref p), some (.int k), some (.ref a)] (upd H4 b (.ins C' dx' (putF "amounts" (.ref t) fs))) := fun H4 t kk nt ht h4 => by
    refine ⟨p, C, dx, _, rfl, h4, T.cl, T.nA, by show 1 < 1000; decide, hD _ _ (q _ (fun b o nb e => ?_) ⟨dx, t, ?_, ?_, k1, k3, hl⟩)⟩
    · rw [upd_ne nb]
      exact kk b o nb (s1 _ _ e)
    · rw [upd_same, pf_put]
    · rw [upd_ne nt]
      exact ht
  rcases hm1 with h | h
  · refine ⟨.ref a, rfl, a, _, rfl, .inl ⟨sl (e2.trans h), fun l nl => ⟨.ref p, rfl, ?_⟩⟩⟩
    have nlp : l ≠ p := fun z => by
      rw [z, upd_same] at nl
      cases nl
    refine fin _ l (fun b o nb e => ?_) nlp upd_same ?_
    · have e' : (upd H1 p (.ins C dx (putF "size" (.int k) []))) b = some o := by
        rw [upd_ne nb]
        exact e
      exact same_upd nl _ _ e'
    · rw [upd_ne nlp.symm, upd_same]
  · refine ⟨.ref a, rfl, a, _, rfl, .inr ⟨tl (e2.trans h), .ref p, rfl, fin _ a (fun b o nb e => by rw [upd_ne nb]; exact e) nap (e2.trans h) upd_same⟩⟩
theorem ok_PI0 {f fIS fAA C : Addr} {fd fdIS fdAA : FuncData} (F : Fun K "__init__" "Price.__init__" sPI f fd) (T : Pc K mg C) (B : Bt mg) (GIS : FnOk P w K mg base CX0 2 fIS fdIS ["value"] spIS) (kIS : PySem.W.keepIn K (.ref fIS) = true) (bIS : Binds K fdIS ["value"] []) (gIS : mg "is_size" = some (.ref fIS)) (GAA : FnOk P w K mg base CX0 2 fAA fdAA ["value", "size"] spAA) (kAA : PySem.W.keepIn K (.ref fAA) = true) (bAA : Binds K fdAA ["value", "size"] []) (gAA : mg "_are_amounts" = some (.ref fAA)) : FnOk P w K mg base CX0 3 f fd ["self", "size", "amounts"] (spPI0 C) := by
  refine F.ok scPI (fun vs H Q E h => ?_) (fun cdv A outer s H vs Q E hr h => ?_)
  · obtain ⟨p, dx, sz, am, k, ms, rfl, _⟩ := h
    rfl
  · obtain ⟨p, dx, sz, am, k, ms, rfl, hp, hA, g, q⟩ := h
    refine ⟨_, (pss_cons (ps_if (PW.pt (pw_or (pt_not (pt_val (pe_call GIS (hr.mono (by decide)) (by rfl) gIS kIS bIS .nil pass0 (pa_cons (pv 1) pa_nil)))) (pw_or1 (pt_not (pt_val (pe_call GAA (hr.mono (by decide)) (by rfl) gAA kAA bAA .nil pass0 (pa_cons (pv 2) (pa_cons (pv 1) pa_nil))))))))
      (pss_one ps_never) pss_nil)
      (pss_cons (ps_fld (pv 0) (pv 1) rfl)
      (pss_one (ps_fld (pv 0) (pe_callTy call_tuple_of (by rfl) B.tuple (by decide +kernel) (pa_cons (pv 2) pa_nil)) rfl)))), ?_⟩
    obtain ⟨rfl, k1, k3, hl, m⟩ := id g
    refine q_seq (q_if ?_)
    have ez : isZ (.int k) = true := by
      show (decide (1 ≤ (k : Int)) && decide ((k : Int) ≤ 3)) = true
      rw [decide_eq_true (by omega), decide_eq_true (by omega)]
      rfl
    refine ⟨_, rfl, .int k, rfl, .int _, isZ (.int k), rfl, ?_⟩
    rw [ez]
    refine ⟨am, rfl, .int k, rfl, am, k, rfl, k3, hA, fun H1 s1 => ⟨?_, ?_⟩⟩
    · intro z
      obtain ⟨a, rfl, _⟩ := m
      cases z
    · intro xs mx
      obtain rfl := mem_inj mx m
      rw [good_am m hl]
      refine ⟨true, rfl, ?_⟩
      dsimp only
      rw [if_neg (show ¬ (!true) = true by decide)]
      refine q_next ?_
      exact init_end T s1 hp g (fun _ _ z => z) q
end
end C3

namespace C3
open PySem PySem.Spec PyProof.Rows L2 Ek
section
variable {P : Program} {w : World} {K : PySem.W.Frag} {mg : Str → Option Value} {base : Heap}
def Bits (bs : List Int) : Prop := ∀ b ∈ bs, b = 0 ∨ b = 1
theorem num_lt : ∀ {bs : List Int}, Bits bs → bs.length ≤ 3 → 0 ≤ num bs ∧ num bs < 2 ^ bs.length
  | [], _, _ => by decide
  | [a], h, _ => by
    have ha := h a (by simp)
    show 0 ≤ 2 * 0 + a ∧ 2 * 0 + a < 2
    omega
  | [a, b], h, _ => by
    have ha := h a (by simp)
    have hb := h b (by simp)
    show 0 ≤ 2 * (2 * 0 + a) + b ∧ 2 * (2 * 0 + a) + b < 4
    omega
  | [a, b, c], h, _ => by
    have ha := h a (by simp)
    have hb := h b (by simp)
    have hc := h c (by simp)
    show 0 ≤ 2 * (2 * (2 * 0 + a) + b) + c ∧ 2 * (2 * (2 * 0 + a) + b) + c < 8
    omega
  | _ :: _ :: _ :: _ :: _, _, h => by simp at h
def costL (ms bs : List Int) : Int := ms.getD (num bs).toNat 0
theorem cost_at {ms bs : List Int} {k : Nat} (hb : Bits bs) (hk : bs.length = k) (k3 : k ≤ 3) (hl : ms.length = 2 ^ k) : (num bs) = (((num bs).toNat : Nat) : Int) ∧ (ms.map V.int)[(num bs).toNat]? = some (.int (costL ms bs)) := by
  obtain ⟨h0, h1⟩ := num_lt hb (by omega)
  refine ⟨by omega, ?_⟩
  have hi : (num bs).toNat < ms.length := by
    rw [hl, ← hk]
    have e : (2 : Int) ^ bs.length = ((2 ^ bs.length : Nat) : Int) := by simp
    rw [e] at h1
    omega
  rw [List.getElem?_map, List.getElem?_eq_getElem hi]
  unfold costL
  rw [List.getD_eq_getElem?_getD, List.getElem?_eq_getElem hi]
  rfl
theorem rowB_bits {k : Nat} : ∀ {xs : List V}, xs.all (isB 2) = true → ∃ bs : List Int, xs = bs.map V.int ∧ Bits bs
  | [], _ => ⟨[], rfl, fun _ h => by cases h⟩
  | x :: xs, h => by
    rw [List.all_cons, Bool.and_eq_true] at h
    obtain ⟨bs, rfl, hb⟩ := rowB_bits (k := k) h.2
    cases x with
    | int i =>
      have z : (decide (0 ≤ i) && decide (i < 2)) = true := h.1
      rw [Bool.and_eq_true, decide_eq_true_iff, decide_eq_true_iff] at z
      refine ⟨i :: bs, rfl, fun b m => ?_⟩
      rcases List.mem_cons.mp m with rfl | m
      · omega
      · exact hb b m
    | _ => exact absurd h.1 (by simp [isB])
theorem bits_rowB {k : Nat} {bs : List Int} (hb : Bits bs) (hk : bs.length = k) : rowB k (bs.map V.int) = true := by
  unfold rowB
  rw [decide_eq_true (by rw [List.length_map, hk]), Bool.true_and, List.all_map]
  refine List.all_eq_true.mpr fun b m => ?_
  show (decide (0 ≤ b) && decide (b < 2)) = true
  rcases hb b m with rfl | rfl <;> rfl
theorem kn_ints {H : Hp} {bs : List Int} : ∀ x ∈ bs.map V.int, Kn H x := fun x m => by
  obtain ⟨b, _, rfl⟩ := List.mem_map.mp m
  exact .int b
def spPC0 (C : Addr) : Sp := fun vs H Q _ => ∃ (p a : Addr) (k : Nat) (ms bs : List Int), vs = [.ref p, .ref a] ∧ PrAt C H p k ms ∧ H a = some (.tup (bs.map V.int)) ∧ Bits bs ∧ bs.length = k ∧ ∀ H', Same H H' → Q (.int (costL ms bs)) H'
theorem ok_PC0 {f fIR fRN C : Addr} {fd fdIR fdRN : FuncData} (F : Fun K "cost" "Price.cost" sPC f fd) (T : Pc K mg C) (GIR : FnOk P w K mg base CX0 4 fIR fdIR ["value", "size"] spIR) (kIR : PySem.W.keepIn K (.ref fIR) = true) (bIR : Binds K fdIR ["value", "size"] []) (gIR : mg "is_row" = some (.ref fIR)) (GRN : FnOk P w K mg base CX0 1 fRN fdRN ["row"] (spRN K)) (kRN : PySem.W.keepIn K (.ref fRN) = true) (bRN : Binds K fdRN ["row"] []) (gRN : mg "row_number" = some (.ref fRN)) : FnOk P w K mg base CX0 5 f fd ["self", "row"] (spPC0 C) := by
  refine F.ok scPC (fun vs H Q E h => ?_) (fun cdv A outer s H vs Q E hr h => ?_)
  · obtain ⟨p, a, k, ms, bs, rfl, _⟩ := h
    rfl
  · obtain ⟨p, a, k, ms, bs, rfl, pr, ha, hb, hk, q⟩ := h
    obtain ⟨dx, t, hp, ht, k1, k3, hl⟩ := id pr
    refine ⟨_, (pss_cons (ps_if (pt_not (pt_val (pe_call GIR (hr.mono (by decide)) (by rfl) gIR kIR bIR .nil pass0 (pa_cons (pv 1) (pa_cons (pe_fld (pv 0) rfl) pa_nil)))))
      (pss_one ps_never) pss_nil)
      (pss_one (ps_ret (pe_ix ix_tup (pe_fld (pv 0) rfl) (pe_call GRN (hr.mono (by decide)) (by rfl) gRN kRN bRN .nil pass0 (pa_cons (pv 1) pa_nil)) (fun _ _ => rfl))))), ?_⟩
    refine q_seq (q_if ?_)
    refine ⟨.ref a, rfl, .ref p, rfl, p, C, dx, _, .int k, rfl, hp, T.cl, T.nS, pf_size _ _, .ref a, k, rfl, .inr ⟨a, _, rfl, ha, kn_ints, by rw [List.length_map]; omega, fun H1 s1 => ?_⟩⟩
    rw [bits_rowB hb hk]
    refine ⟨true, rfl, ?_⟩
    dsimp only
    rw [if_neg (show ¬ (!true) = true by decide)]
    refine q_next ?_
    dsimp only
    obtain ⟨e1, e2⟩ := cost_at hb hk k3 hl
    refine q_ret ⟨.ref p, rfl, p, C, dx, _, .ref t, rfl, s1 _ _ hp, T.cl, T.nA, pf_am _ _, .ref a, rfl, a, bs, rfl, tl (s1 _ _ ha), t, _, _, _, rfl, rfl, tl (s1 _ _ ht), at_z e1 e2, q H1 s1⟩
theorem bits_rows : ∀ n, ∀ r ∈ rowsOf n, Bits r
  | 0, r, h => by
    obtain rfl := List.mem_singleton.mp h
    exact fun b m => by cases m
  | n + 1, r, h => by
    obtain ⟨x, hx, hr⟩ := List.mem_flatMap.mp h
    have z := bits_rows n x hx
    simp only [List.mem_cons, List.not_mem_nil, or_false] at hr
    rcases hr with rfl | rfl
    · intro b m
      rcases List.mem_append.mp m with m | m
      · exact z b m
      · exact .inl (List.mem_singleton.mp m)
    · intro b m
      rcases List.mem_append.mp m with m | m
      · exact z b m
      · exact .inr (List.mem_singleton.mp m)
theorem pf_no {k : Nat} {t : Addr} {m : Str} (h1 : (m == "size") = false) (h2 : (m == "amounts") = false) : (pf k t).lookup m = none := by simp [pf, List.lookup, h1, h2]
theorem dp_ints {K : PySem.W.Frag} {H : Hp} : ∀ {xs : List Int}, DpAll K H (xs.map V.int) (xs.map .int)
  | [] => .nil
  | x :: xs => .cons (.int x) dp_ints
structure Pe (K : PySem.W.Frag) (C : Addr) : Prop where
  ha : PySem.W.findIn K (.ref C) "__class__" = some (some (.builtin "object.__class__"))
  hn : PySem.W.specialIn K (.builtin "object.__class__") "__get__" = some (some (.builtin "getset_descriptor.__get__"))
  ht : PySem.W.takesIn K (.builtin "object.__class__") = some true
  hm : PySem.W.mroIn K C (.type "object") = some true
  kt : PySem.W.kitOne K (.type "tuple") (.ref C) = some false
theorem kit_self {K : PySem.W.Frag} {C : Addr} : PySem.W.kitOne K (.ref C) (.ref C) = some true := by
  unfold PySem.W.kitOne
  rw [if_pos (by simp)]
theorem ty_pr {C : Addr} {H : Hp} {p : Addr} {k : Nat} {ms : List Int} (T : Pc K mg C) (e : Pe K C) (x : PrAt C H p k ms) : TyOf K H (.ref p) (.ref C) := by
  obtain ⟨dx, t, hp, _⟩ := x
  exact .ins hp T.cl e.ha e.hn e.ht e.hm
end
end C3

namespace C3
open PySem PySem.Spec PyProof.Rows L2 Ek
section
variable {P : Program} {w : World} {K : PySem.W.Frag} {mg : Str → Option Value} {base : Heap}
/-- amounts that the hand is no part of -/
def AmS (h : Addr) (H : Hp) (v : V) : Prop := ∀ H2, Kp h H H2 → Am H2 v
theorem mem_tup {H : Hp} {a : Addr} {xs ys : List V} (e : H a = some (.tup xs)) (m : Mem H (.ref a) ys) : ys = xs := by
  obtain ⟨b, eb, h⟩ := m
  cases eb
  rcases h with h | h <;> rw [e] at h <;> cases h <;> rfl
theorem mem_lst {H : Hp} {a : Addr} {xs ys : List V} (e : H a = some (.lst xs)) (m : Mem H (.ref a) ys) : ys = xs := by
  obtain ⟨b, eb, h⟩ := m
  cases eb
  rcases h with h | h <;> rw [e] at h <;> cases h <;> rfl
/-- the drawn numbers: a new list of many numbers from 0 on -/
def spDraws (K : PySem.W.Frag) : Sp := fun vs H Q _ => ∃ (a : Addr) (ns : List Int) (m : Nat), vs = [.ref a, .int m] ∧ SqL K H a (ns.map V.int) ∧ ns.length ≤ 1000 ∧ m ≤ 1000 ∧
  ∀ H' p (ds : List Int), Same H H' → H p = none → H' p = some (.lst (ds.map V.int)) → ds.length = m → (∀ d ∈ ds, 0 ≤ d) → Q (.ref p) H'
theorem ok_draws {f : Addr} {fd : FuncData} (F : Fun K "_law_draws" "_law_draws" sDraws f fd) (B : Bt mg) : FnOk P w K mg base CX0 1 f fd ["script", "many"] (spDraws K) := by
  refine F.ok scDraws (fun vs H Q E h => ?_) (fun cdv A outer s H vs Q E hr h => ?_)
  · obtain ⟨a, ns, m, rfl, _⟩ := h
    rfl
  · obtain ⟨a, ns, m, rfl, hS, hlen, hm, q⟩ := h
    refine ⟨_, pss_cons (ps_setLc (i := 3) (own := [("cell", 2)]) (g := gName 2) (tt := tYes) rfl scDraws.nd rfl rfl (sw_true rfl rfl rfl (by decide +kernel)) (pi_list (pv 0)) (blkOk_by (N := ["script", "many", "cell", "rests", "draws", "k", "at", "mixed"]) (sc := defScope sDraws) (by decide +kernel))
        (fun _ _ _ _ _ => pg_name (i := 2) scDraws.nd rfl (Or.inl rfl)) (fun _ _ _ _ _ => pts_nil) (fun _ _ _ _ _ => pe_callB call_abs (by rfl) B.abs (by decide +kernel) (pa_cons (pe_callTy call_int1 (by rfl) B.int (by decide +kernel) (pa_cons (pv 2) pa_nil)) pa_nil)))
      (pss_cons (ps_set (i := 4) scDraws.nd rfl (.inl rfl) (pe_lst pa_nil))
      (pss_cons (ps_for PassesOwn.never rfl (pi_range1 rfl B.range (pa_cons (pv 1) pa_nil)) (pg_name (i := 5) scDraws.nd rfl (.inl rfl))
        (pss_cons (ps_set (i := 2) scDraws.nd rfl (.inl rfl) (pv 5))
        (pss_cons (ps_if (pt_cmpR op_gt (pe_callB call_len_seq (by rfl) B.len PySem.boot_len (pa_cons (pv 0) pa_nil)) pe_int (nomark _))
          (pss_cons (ps_set (i := 6) scDraws.nd rfl (.inl rfl) (pe_op op_mod (pv 5) (pe_callB call_len_seq (by rfl) B.len PySem.boot_len (pa_cons (pv 0) pa_nil))))
          (pss_cons (ps_set (i := 2) scDraws.nd rfl (.inl rfl) (pe_callTy call_int1 (by rfl) B.int (by decide +kernel) (pa_cons (pe_ix ix_list (pv 0) (pv 6) (fun _ _ => rfl)) pa_nil)))
          (pss_one (ps_if (PW.pt (pw_and (pt_cmpR op_ge (pv 2) (pe_op op_pow pe_int pe_int) (nomark _)) (pw_and1 (pt_cmpR op_gt (pe_ix ix_list (pv 3) (pv 6) (fun _ _ => rfl)) pe_int (nomark _)))))
            (pss_cons (ps_expr (pe_bm PySem.F.plainAttrs_list PySem.F.slot_list_append PySem.F.type_list_append mt_append (pv 4) (pa_cons (pe_op op_mod (pe_callTy call_int1 (by rfl) B.int (by decide +kernel) (pa_cons (pe_ix ix_list (pv 3) (pv 6) (fun _ _ => rfl)) pa_nil)) pe_int) pa_nil)))
            (pss_cons (ps_asg (pe_op op_fdiv (pe_callTy call_int1 (by rfl) B.int (by decide +kernel) (pa_cons (pe_ix ix_list (pv 3) (pv 6) (fun _ _ => rfl)) pa_nil)) pe_int) (pg_sub (pv 3) (pv 6) set_list))
            (pss_one ps_continue))) pss_nil)))) pss_nil)
        (pss_cons (ps_set (i := 7) scDraws.nd rfl (.inl rfl) (pe_op op_mod (pe_callTy call_int1 (by rfl) B.int (by decide +kernel) (pa_cons (pe_op op_add (pe_op op_add (pe_op op_mul (pv 2) pe_int) (pe_op op_mul (pv 5) pe_int)) pe_int) pa_nil)) pe_int))
        (pss_cons (ps_set (i := 7) scDraws.nd rfl (.inl rfl) (pe_op op_mod (pe_callTy call_int1 (by rfl) B.int (by decide +kernel) (pa_cons (pe_op op_add (pe_op op_fdiv (pe_op op_mul (pv 7) (pv 7)) pe_int) (pv 7)) pa_nil)) pe_int))
        (pss_one (ps_expr (pe_bm PySem.F.plainAttrs_list PySem.F.slot_list_append PySem.F.type_list_append mt_append (pv 4) (pa_cons (pe_op op_mod (pe_callTy call_int1 (by rfl) B.int (by decide +kernel) (pa_cons (pe_op op_add (pe_op op_fdiv (pe_op op_mul (pv 7) (pv 7)) pe_int) (pe_op op_mul (pv 5) pe_int)) pa_nil)) pe_int) pa_nil)))))))))
      (pss_one (ps_ret (pv 4))))), ?_⟩
    -- rests = [abs(int(cell)) for cell in script]
    refine ⟨.ref a, rfl, a, rfl, ⟨_, hS⟩, fun D nD => lc_list (K := K) (a := a) (xs := ns.map V.int) (fun i H' => Same H H' ∧ ∃ rs : List Int, H' D = some (.lst (rs.map V.int)) ∧ rs.length = i)
      ⟨same_upd nD, [], upd_same, rfl⟩ (fun i H' _ hP => hP.1.seq hS) (fun i x H' hx hP => ?_) (fun H' hP => ?_)⟩
    · obtain ⟨hs, rs, hD, hl⟩ := hP
      have hi : i < ns.length := by
        have z := (List.getElem?_eq_some_iff.mp hx).1
        rw [List.length_map] at z
        exact z
      obtain ⟨n, rfl⟩ : ∃ n, x = V.int n := by
        rw [List.getElem?_map] at hx
        cases e : ns[i]? with
        | none => rw [e] at hx; cases hx
        | some n => rw [e] at hx; exact ⟨n, (Option.some.inj hx).symm⟩
      refine ⟨rfl, ?_⟩
      refine ⟨.int n, rfl, .inl ⟨n, rfl, n, rfl, _, hD, ?_, ?_, rs ++ [if n < 0 then -n else n], ?_, ?_⟩⟩
      · rw [List.length_map]
        exact small1000 (by omega)
      · intro b o e
        rw [upd_ne (ne_of_none e nD)]
        exact hs b o e
      · rw [upd_same, List.map_append]
        rfl
      · rw [List.length_append, hl]
        rfl
    · obtain ⟨hs, rs, hD, hl⟩ := hP
      have hl' : rs.length = ns.length := by
        rw [hl, List.length_map]
      -- draws = []
      refine ⟨Nat.zero_le _, fun L nL => ?_⟩
      have nLD : L ≠ D := fun e => by rw [e, hD] at nL; cases nL
      have nL0 : H L = none := hs.free nL
      refine ⟨_, rfl, (m : Int), rfl, by omega, by omega, for_range (lo := 0) (n := m) (fun i σ H' => ∃ c k t x : Option V, σ = [some (.ref a), some (.int m), c, some (.ref D), some (.ref L), k, t, x] ∧ Same H H' ∧
          ∃ rs ds : List Int, H' D = some (.lst (rs.map V.int)) ∧ rs.length = ns.length ∧ H' L = some (.lst (ds.map V.int)) ∧ ds.length = i ∧ ∀ d ∈ ds, 0 ≤ d)
        ⟨none, none, none, none, rfl, ?_, rs, [], ?_, hl', ?_, rfl, ?_⟩ (fun i σ H1 hi hP => ?_) (fun σ H1 hP => ?_)⟩
      · intro b o e
        rw [upd_ne (ne_of_none e nL0)]
        exact hs b o e
      · rw [upd_ne nLD.symm]
        exact hD
      · exact upd_same
      · intro d hd
        cases hd
      · obtain ⟨c, k, t, x, rfl, hs1, rs, ds, hD1, hr1, hL1, hd1, h0⟩ := hP
        have hA1 : SqL K H1 a (ns.map V.int) := hs1.seq hS
        have hlt : ds.length < sizeLine := small1000 (by omega)
        have mon : ∀ (z : Int) (x' t' c' : Option V) (H2 : Hp) (r2 : List Int), 0 ≤ z → Same H H2 → H2 D = some (.lst (r2.map V.int)) → r2.length = ns.length → H2 L = some (.lst ((ds ++ [z]).map V.int)) →
            ∃ c k t x : Option V, [some (V.ref a), some (V.int m), c', some (V.ref D), some (V.ref L), some (V.int (0 + (i : Int))), t', x'] = [some (V.ref a), some (V.int m), c, some (V.ref D), some (V.ref L), k, t, x] ∧ Same H H2 ∧
              ∃ rs ds : List Int, H2 D = some (.lst (rs.map V.int)) ∧ rs.length = ns.length ∧ H2 L = some (.lst (ds.map V.int)) ∧ ds.length = i + 1 ∧ ∀ d ∈ ds, 0 ≤ d := fun z x' t' c' H2 r2 hz h1 h2 h3 h4 => by
          refine ⟨c', _, t', x', rfl, h1, r2, ds ++ [z], h2, h3, h4, by simp [hd1], fun d hd => ?_⟩
          rcases List.mem_append.mp hd with q | q
          · exact h0 d q
          · rw [List.mem_singleton.mp q]; exact hz
        refine ⟨_, rfl, .ref a, rfl, a, _, rfl, .inl hA1, _, _, rfl, rfl, _, rfl, ?_⟩
        refine ite2 (fun e => ?_) (fun e => ?_)
        · have hn : 0 < ns.length := by
            have z := of_decide_eq_true e
            rw [List.length_map] at z
            omega
          have hmod : 0 ≤ (0 + (i : Int)) % ((ns.map V.int).length : Int) ∧ (0 + (i : Int)) % ((ns.map V.int).length : Int) < (ns.length : Int) := by
            rw [List.length_map]
            exact ⟨Int.emod_nonneg _ (by omega), Int.emod_lt_of_pos _ (by omega)⟩
          obtain ⟨j, hj, ej⟩ : ∃ j : Nat, j < ns.length ∧ (0 + (i : Int)) % ((ns.map V.int).length : Int) = (j : Int) := ⟨((0 + (i : Int)) % ((ns.map V.int).length : Int)).toNat, by omega, by omega⟩
          have g1 : (ns.map V.int)[j]? = some (.int ns[j]) := by
            rw [List.getElem?_map, List.getElem?_eq_getElem hj]
            rfl
          have hj2 : j < rs.length := by omega
          have g2 : (rs.map V.int)[j]? = some (.int rs[j]) := by
            rw [List.getElem?_map, List.getElem?_eq_getElem hj2]
            rfl
          refine ⟨.int (0 + (i : Int)), rfl, .ref a, rfl, a, _, rfl, .inl hA1, _, _, rfl, rfl, (by rw [List.length_map]; omega), ?_⟩
          refine ⟨.ref a, rfl, .int _, rfl, a, _, _, _, rfl, rfl, hA1, at_z ej g1, .inl ⟨_, rfl, ?_⟩⟩
          refine ⟨_, rfl, _, _, rfl, rfl, (by refine ⟨by decide, by decide, by decide⟩), _, _, rfl, rfl, _, rfl, ?_⟩
          by_cases e1 : (10 : Int) ^ (18 : Int).toNat ≤ ns[j]
          · rw [decide_eq_true e1]
            refine ⟨.ref D, rfl, .int _, rfl, D, _, _, _, rfl, rfl, .inl (.inl hD1), at_z ej g2, _, _, rfl, rfl, _, rfl, ?_⟩
            refine ite2 (fun e2 => ?_) (fun e2 => ?_)
            · refine ⟨.ref L, rfl, .inl ⟨rfl, _, .inl (.inl hL1)⟩, .ref D, rfl, .int _, rfl, D, _, _, _, rfl, rfl, .inl (.inl hD1), at_z ej g2, .inl ⟨_, rfl, _, _, rfl, rfl, (by show (0 : Int) < _; decide), L, _, _, rfl, rfl, hL1, (by rw [List.length_map]; exact hlt), ?_⟩⟩
              have hD2 : (upd H1 L (.lst (ds.map V.int ++ [.int (rs[j] % 1000003)]))) D = some (.lst (rs.map V.int)) := by
                rw [upd_ne nLD.symm]
                exact hD1
              refine ⟨.ref D, rfl, .int _, rfl, D, _, _, _, rfl, rfl, .inl (.inl hD2), at_z ej g2, .inl ⟨_, rfl, _, _, rfl, rfl, ⟨by decide, by decide⟩, .ref D, rfl, .int _, rfl, D, _, _, j, rfl, rfl, hD2, ix_z ej (by rw [List.length_map]; exact hj2), ?_⟩⟩
              refine mon (rs[j] % 1000003) _ _ _ _ (rs.set j (rs[j] / 1000003)) (Int.emod_nonneg _ (by decide)) ?_ ?_ ?_ ?_
              · intro b o e
                rw [upd_ne (ne_of_none e nD), upd_ne (ne_of_none e nL0)]
                exact hs1 b o e
              · rw [upd_same, List.map_set]
              · rw [List.length_set]
                exact hr1
              · rw [upd_ne nLD, upd_same, List.map_append]
                rfl
            · skip
              -- mixed = ..
              refine ⟨_, rfl, _, _, rfl, rfl, .inr ⟨by decide, by decide⟩, _, rfl, _, _, rfl, rfl, .inr ⟨by decide, by decide⟩, _, _, rfl, rfl, _, _, rfl, rfl, .inl ⟨_, rfl, _, _, rfl, rfl, (by show (0 : Int) < _; decide), ?_⟩⟩
              refine ⟨_, rfl, _, rfl, _, _, rfl, rfl, .inl (in64 (by decide)), _, _, rfl, rfl, ⟨by decide, by decide⟩, _, rfl, _, _, rfl, rfl, .inl ⟨_, rfl, _, _, rfl, rfl, (by show (0 : Int) < _; decide), ?_⟩⟩
              refine ⟨.ref L, rfl, .inl ⟨rfl, _, .inl (.inl hL1)⟩, _, rfl, _, rfl, _, _, rfl, rfl, .inl (in64 (by decide)), _, _, rfl, rfl, ⟨by decide, by decide⟩, _, rfl, _, _, rfl, rfl, .inr ⟨by decide, by decide⟩, _, _, rfl, rfl, .inl ⟨_, rfl, _, _, rfl, rfl, (by show (0 : Int) < _; decide), L, _, _, rfl, rfl, hL1, (by rw [List.length_map]; exact hlt), ?_⟩⟩
              refine mon ((((((ns[j] * 48271 + (0 + (i : Int)) * 69621 + 11) % 2147483647) * ((ns[j] * 48271 + (0 + (i : Int)) * 69621 + 11) % 2147483647) / 4096 + ((ns[j] * 48271 + (0 + (i : Int)) * 69621 + 11) % 2147483647)) % 2147483629) * ((((ns[j] * 48271 + (0 + (i : Int)) * 69621 + 11) % 2147483647) * ((ns[j] * 48271 + (0 + (i : Int)) * 69621 + 11) % 2147483647) / 4096 + ((ns[j] * 48271 + (0 + (i : Int)) * 69621 + 11) % 2147483647)) % 2147483629) / 4096 + (0 + (i : Int)) * 7919) % 2147483629) _ _ _ _ rs (Int.emod_nonneg _ (by decide)) ?_ ?_ hr1 ?_
              · intro b o e
                rw [upd_ne (ne_of_none e nL0)]
                exact hs1 b o e
              · rw [upd_ne nLD.symm]
                exact hD1
              · rw [upd_same, List.map_append]
                rfl
          · rw [decide_eq_false e1]
            -- mixed = ..
            refine ⟨_, rfl, _, _, rfl, rfl, .inr ⟨by decide, by decide⟩, _, rfl, _, _, rfl, rfl, .inr ⟨by decide, by decide⟩, _, _, rfl, rfl, _, _, rfl, rfl, .inl ⟨_, rfl, _, _, rfl, rfl, (by show (0 : Int) < _; decide), ?_⟩⟩
            refine ⟨_, rfl, _, rfl, _, _, rfl, rfl, .inl (in64 (by decide)), _, _, rfl, rfl, ⟨by decide, by decide⟩, _, rfl, _, _, rfl, rfl, .inl ⟨_, rfl, _, _, rfl, rfl, (by show (0 : Int) < _; decide), ?_⟩⟩
            refine ⟨.ref L, rfl, .inl ⟨rfl, _, .inl (.inl hL1)⟩, _, rfl, _, rfl, _, _, rfl, rfl, .inl (in64 (by decide)), _, _, rfl, rfl, ⟨by decide, by decide⟩, _, rfl, _, _, rfl, rfl, .inr ⟨by decide, by decide⟩, _, _, rfl, rfl, .inl ⟨_, rfl, _, _, rfl, rfl, (by show (0 : Int) < _; decide), L, _, _, rfl, rfl, hL1, (by rw [List.length_map]; exact hlt), ?_⟩⟩
            refine mon ((((((ns[j] * 48271 + (0 + (i : Int)) * 69621 + 11) % 2147483647) * ((ns[j] * 48271 + (0 + (i : Int)) * 69621 + 11) % 2147483647) / 4096 + ((ns[j] * 48271 + (0 + (i : Int)) * 69621 + 11) % 2147483647)) % 2147483629) * ((((ns[j] * 48271 + (0 + (i : Int)) * 69621 + 11) % 2147483647) * ((ns[j] * 48271 + (0 + (i : Int)) * 69621 + 11) % 2147483647) / 4096 + ((ns[j] * 48271 + (0 + (i : Int)) * 69621 + 11) % 2147483647)) % 2147483629) / 4096 + (0 + (i : Int)) * 7919) % 2147483629) _ _ _ _ rs (Int.emod_nonneg _ (by decide)) ?_ ?_ hr1 ?_
            · intro b o e
              rw [upd_ne (ne_of_none e nL0)]
              exact hs1 b o e
            · rw [upd_ne nLD.symm]
              exact hD1
            · rw [upd_same, List.map_append]
              rfl
        · skip
          -- mixed = ..
          refine ⟨_, rfl, _, _, rfl, rfl, .inr ⟨by decide, by decide⟩, _, rfl, _, _, rfl, rfl, .inr ⟨by decide, by decide⟩, _, _, rfl, rfl, _, _, rfl, rfl, .inl ⟨_, rfl, _, _, rfl, rfl, (by show (0 : Int) < _; decide), ?_⟩⟩
          refine ⟨_, rfl, _, rfl, _, _, rfl, rfl, .inl (in64 (by decide)), _, _, rfl, rfl, ⟨by decide, by decide⟩, _, rfl, _, _, rfl, rfl, .inl ⟨_, rfl, _, _, rfl, rfl, (by show (0 : Int) < _; decide), ?_⟩⟩
          refine ⟨.ref L, rfl, .inl ⟨rfl, _, .inl (.inl hL1)⟩, _, rfl, _, rfl, _, _, rfl, rfl, .inl (in64 (by decide)), _, _, rfl, rfl, ⟨by decide, by decide⟩, _, rfl, _, _, rfl, rfl, .inr ⟨by decide, by decide⟩, _, _, rfl, rfl, .inl ⟨_, rfl, _, _, rfl, rfl, (by show (0 : Int) < _; decide), L, _, _, rfl, rfl, hL1, (by rw [List.length_map]; exact hlt), ?_⟩⟩
          refine mon (((((((0 + (i : Int)) * 48271 + (0 + (i : Int)) * 69621 + 11) % 2147483647) * (((0 + (i : Int)) * 48271 + (0 + (i : Int)) * 69621 + 11) % 2147483647) / 4096 + (((0 + (i : Int)) * 48271 + (0 + (i : Int)) * 69621 + 11) % 2147483647)) % 2147483629) * (((((0 + (i : Int)) * 48271 + (0 + (i : Int)) * 69621 + 11) % 2147483647) * (((0 + (i : Int)) * 48271 + (0 + (i : Int)) * 69621 + 11) % 2147483647) / 4096 + (((0 + (i : Int)) * 48271 + (0 + (i : Int)) * 69621 + 11) % 2147483647)) % 2147483629) / 4096 + (0 + (i : Int)) * 7919) % 2147483629) _ _ _ _ rs (Int.emod_nonneg _ (by decide)) ?_ ?_ hr1 ?_
          · intro b o e
            rw [upd_ne (ne_of_none e nL0)]
            exact hs1 b o e
          · rw [upd_ne nLD.symm]
            exact hD1
          · rw [upd_same, List.map_append]
            rfl
      · obtain ⟨c, k, t, x, rfl, hs1, rs, ds, hD1, hr1, hL1, hd1, h0⟩ := hP
        exact ⟨.ref L, rfl, q H1 L ds hs1 nL0 hL1 hd1 h0⟩
/-- a drawn number below n -/
def spTake : Sp := fun vs H Q _ => ∃ (h dr : Addr) (n : Int), vs = [.ref h, .int n] ∧ Hdd H h dr ∧ 0 < n ∧ ∀ r H', 0 ≤ r → r < n → (∀ b, b ≠ h → H' b = H b) → Hdd H' h dr → Q (.int r) H'
theorem ok_take {f : Addr} {fd : FuncData} (F : Fun K "_law_take" "_law_take" sTake f fd) (B : Bt mg) : FnOk P w K mg base CX0 1 f fd ["hand", "many"] spTake := by
  refine F.ok scTake (fun vs H Q E h => ?_) (fun cdv A outer s H vs Q E hr h => ?_)
  · obtain ⟨a, d, n, rfl, _⟩ := h
    rfl
  · obtain ⟨h, d, n, rfl, ⟨ds, t, hh, hd, ne, nn⟩, n0, q⟩ := h
    refine ⟨_, pss_cons (ps_set (i := 2) scTake.nd rfl (.inl rfl) (pe_ix ix_list (pv 0) pe_int (fun _ _ => rfl)))
      (pss_cons (ps_asg (pe_op op_add (pv 2) pe_int) (pg_sub (pv 0) pe_int set_list))
      (pss_cons (ps_set (i := 3) scTake.nd rfl (.inl rfl) (pe_ix ix_list (pv 0) pe_int (fun _ _ => rfl)))
      (pss_cons (ps_if (pt_cmpR op_ge (pv 2) (pe_callB call_len_seq (by rfl) B.len PySem.boot_len (pa_cons (pv 3) pa_nil)) (nomark _)) (pss_one (ps_ret pe_int)) pss_nil)
      (pss_one (ps_ret (pe_op op_mod (pe_op op_fdiv (pe_callTy call_int1 (by rfl) B.int (by decide +kernel) (pa_cons (pe_ix ix_list (pv 3) (pv 2) (fun _ _ => rfl)) pa_nil)) pe_int) (pv 1))))))), ?_⟩
    have hdU : ∀ o, (upd H h o) d = some (.lst (ds.map V.int)) := fun o => by
      rw [upd_ne ne]
      exact hd
    have fin : Hdd (upd H h (.lst [.ref d, .int ((t + 1 : Nat) : Int)])) h d := ⟨ds, t + 1, upd_same, hdU _, ne, nn⟩
    have keep : ∀ b, b ≠ h → (upd H h (.lst [.ref d, .int ((t + 1 : Nat) : Int)])) b = H b := fun b hb => upd_ne hb
    refine ⟨.ref h, rfl, h, _, 1, .int t, rfl, rfl, sl hh, at_z (j := 1) rfl rfl, .int t, rfl, _, _, rfl, rfl, .ref h, rfl, h, _, 1, 1, rfl, rfl, hh, ix_z rfl (by show 1 < 2; decide), ?_⟩
    refine ⟨.ref h, rfl, h, _, 0, .ref d, rfl, rfl, sl upd_same, at_z (j := 0) rfl rfl, .int t, rfl, .ref d, rfl, d, _, rfl, .inl (sl (hdU _)), _, _, rfl, rfl, _, rfl, ?_⟩
    refine ite2 (fun e => ?_) (fun e => ?_)
    · exact q 0 _ (by decide) n0 keep fin
    · have hlt : t < ds.length := by
        by_cases z : t < ds.length
        · exact z
        · exact absurd (decide_eq_true (by rw [List.length_map]; omega)) e
      have g : (ds.map V.int)[t]? = some (.int ds[t]) := by
        rw [List.getElem?_map, List.getElem?_eq_getElem hlt]
        rfl
      refine ⟨.ref d, rfl, .int t, rfl, d, _, _, _, rfl, rfl, sl (hdU _), at_z rfl g, .inl ⟨_, rfl, _, _, rfl, rfl, ⟨by decide, by decide⟩, .int n, rfl, _, _, rfl, rfl, n0, ?_⟩⟩
      exact q _ _ (Int.emod_nonneg _ (by omega)) (Int.emod_lt_of_pos _ n0) keep fin
end
end C3

namespace C3
open PySem PySem.Spec PyProof.Rows L2 Ek
section
variable {P : Program} {w : World} {K : PySem.W.Frag} {mg : Str → Option Value} {base : Heap}
theorem rws_at {H : Hp} {rs : List Addr} {bss : List (List Int)} {i : Nat} {x : V} (rw1 : Rws H rs bss) (hx : (rs.map V.ref)[i]? = some x) : ∃ r bs, x = V.ref r ∧ bss[i]? = some bs ∧ H r = some (.tup (bs.map V.int)) := by
  rw [List.getElem?_map] at hx
  cases e : rs[i]? with
  | none => rw [e] at hx; cases hx
  | some r =>
    rw [e] at hx
    have hj : i < bss.length := by
      rw [← paired_len rw1]
      exact (List.getElem?_eq_some_iff.mp e).1
    obtain ⟨y, hy, hz⟩ := paired_get rw1 (List.getElem?_eq_getElem hj)
    rw [e] at hy
    cases hy
    exact ⟨r, _, (Option.some.inj hx).symm, List.getElem?_eq_getElem hj, hz⟩
theorem rws_get {H : Hp} {rs : List Addr} {bss : List (List Int)} {i : Nat} {bs : List Int} (rw1 : Rws H rs bss) (h : bss[i]? = some bs) : ∃ r, (rs.map V.ref)[i]? = some (.ref r) ∧ H r = some (.tup (bs.map V.int)) := by
  obtain ⟨y, hy, hz⟩ := paired_get rw1 h
  exact ⟨y, by rw [List.getElem?_map, hy]; rfl, hz⟩
theorem rows8 {n : Nat} (h : n ≤ 3) : (rowsOf n).length ≤ 8 := by
  rw [rows_len]
  exact Nat.le_trans (Nat.pow_le_pow_right (by decide) h) (by decide)
/-- x + (y,) -/
theorem tup_more {σ : L2.St} {H : Hp} {i : Nat} {r : Addr} {xs : List V} {y : V} {Q : VK} (hσ : σ[i]? = some (some (.ref r))) (hr : H r = some (.tup xs)) (lb : xs.length ≤ 100) (k : ∀ t H', Same H H' → H' t = some (.tup (xs ++ [y])) → Q (.ref t) H') : tOp (rCatA K) (tVar i) (tTup (tCons (tC y) tNil)) σ H Q := by
  refine ⟨.ref r, hσ, by show 1 ≤ sizeLine; decide, fun t1 nt1 => ?_⟩
  refine ⟨r, t1, xs, [y], rfl, rfl, tl (same_upd nt1 _ _ hr), tl upd_same, ?_, fun z => ?_, (fun _ z => absurd z (List.cons_ne_nil _ _)), fun _ _ p np => ?_⟩
  · exact Nat.le_of_lt (small1000 (by show xs.length + 1 ≤ 1000; omega))
  · subst z
    exact k t1 _ (same_upd nt1) upd_same
  · exact k p _ ((same_upd nt1).trans (same_upd np)) upd_same
def spEv : Sp := fun vs H Q _ => ∃ n : Nat, vs = [.int n] ∧ n ≤ 3 ∧ ∀ H' p rs, Same H H' → H p = none → H' p = some (.lst (rs.map V.ref)) → Rws H' rs (rowsOf n) → Q (.ref p) H'
theorem ok_every {f : Addr} {fd : FuncData} (F : Fun K "_law_every" "_law_every" sEvery f fd) (B : Bt mg) : FnOk P w K mg base CX0 1 f fd ["many"] spEv := by
  refine F.ok scEvery (fun vs H Q E h => ?_) (fun cdv A outer s H vs Q E hr h => ?_)
  · obtain ⟨n, rfl, _⟩ := h
    rfl
  · obtain ⟨n, rfl, hn, q⟩ := h
    refine ⟨_, (pss_cons (ps_set (i := 1) scEvery.nd rfl (.inl rfl) (pe_lst (pa_cons (pe_tup pa_nil) pa_nil)))
      (pss_cons (ps_for PassesOwn.never rfl (pi_range1 rfl B.range (pa_cons (pv 0) pa_nil)) (pg_name (i := 2) scEvery.nd rfl (.inl rfl))
      (pss_cons (ps_set (i := 3) scEvery.nd rfl (.inl rfl) (pe_lst pa_nil))
      (pss_cons (ps_for PassesOwn.never rfl (pi_list (pv 1)) (pg_name (i := 4) scEvery.nd rfl (.inl rfl))
      (pss_one (ps_set (i := 3) scEvery.nd rfl (.inl rfl) (pe_op op_cat (pv 3) (pe_lst (pa_cons (pe_op op_catA (pv 4) (pe_tup (pa_cons pe_int pa_nil))) (pa_cons (pe_op op_catA (pv 4) (pe_tup (pa_cons pe_int pa_nil))) pa_nil)))))))
      (pss_one (ps_set (i := 1) scEvery.nd rfl (.inl rfl) (pv 3))))))
      (pss_one (ps_ret (pv 1))))), ?_⟩
    refine q_seq (q_set ?_)
    refine ⟨Nat.zero_le _, fun t0 nt0 => ⟨by show 1 ≤ sizeLine; decide, fun L0 nL0 => ?_⟩⟩
    have s0 : Same H (upd (upd H t0 (.tup [])) L0 (.lst [.ref t0])) := (same_upd nt0).trans (same_upd nL0)
    have e0 : (upd (upd H t0 (.tup [])) L0 (.lst [.ref t0])) t0 = some (.tup []) := same_upd nL0 _ _ upd_same
    have n0 : H L0 = none := (same_upd nt0).free nL0
    dsimp only
    refine q_seq ?_
    refine ⟨_, rfl, n, rfl, by omega, by omega, for_range (lo := 0) (n := n) (fun i σ H' => ∃ (L : Addr) (u v x : Option V) (rs : List Addr), σ = [some (.int n), some (.ref L), u, v, x] ∧ Same H H' ∧ H L = none ∧ H' L = some (.lst (rs.map V.ref)) ∧ Rws H' rs (rowsOf i))
      ⟨L0, none, none, none, [t0], rfl, s0, n0, upd_same, .cons e0 .nil⟩ (fun i σ H1 hi hP => ?_) (fun σ H1 hP => ?_)⟩
    · obtain ⟨L, u, v, x, rs, rfl, s1, nL, hL, rw1⟩ := hP
      refine q_seq (q_set ⟨Nat.zero_le _, fun M0 nM0 => ?_⟩)
      dsimp only
      have lim := rows8 (show i ≤ 3 by omega)
      have len1 := paired_len rw1
      refine q_seq ?_
      refine ⟨.ref L, rfl, L, rfl, ⟨_, sl (same_upd nM0 _ _ hL)⟩, for_list (K := K) (a := L) (xs := rs.map V.ref) (fun j σ H2 => ∃ (M : Addr) (x : Option V) (rs2 : List Addr), σ = [some (.int n), some (.ref L), some (.int (0 + (i : Int))), some (.ref M), x] ∧ Same H1 H2 ∧ H1 M = none ∧ H2 M = some (.lst (rs2.map V.ref)) ∧ Rws H2 rs2 (((rowsOf i).take j).flatMap fun r => [r ++ [0], r ++ [1]]))
        ⟨M0, x, [], rfl, same_upd nM0, nM0, upd_same, .nil⟩ (fun j σ H2 _ hQ => ?_) (fun j x σ H2 hx hQ => ?_) (fun σ H2 hQ => ?_)⟩
      · obtain ⟨M, x, rs2, rfl, s2, _⟩ := hQ
        exact sl (s2 _ _ hL)
      · obtain ⟨M, x', rs2, rfl, s2, nM, hM, rw2⟩ := hQ
        obtain ⟨r, bs, rfl, hbs, hr⟩ := rws_at rw1 hx
        have l2 : rs2.length ≤ 16 := by
          have z := paired_len rw2
          have h2 : ∀ l : List (List Int), (l.flatMap fun r => [r ++ [0], r ++ [1]]).length = 2 * l.length := fun l => by
            induction l with
            | nil => rfl
            | cons x l ih => rw [List.flatMap_cons, List.length_append, ih, List.length_cons, List.length_cons, List.length_cons, List.length_nil]; omega
          rw [h2, List.length_take] at z
          omega
        have lb : (bs.map V.int).length ≤ 100 := by
          rw [List.length_map, row_len i bs (List.mem_of_getElem? hbs)]
          omega
        refine q_set ?_
        refine ⟨.ref M, rfl, ?_⟩
        refine tup_more (show _ = some (some (V.ref r)) from rfl) (s2 _ _ hr) lb fun t1 H3 s3 h3 => ?_
        refine tup_more (show _ = some (some (V.ref r)) from rfl) (s3 _ _ (s2 _ _ hr)) lb fun t2 H4 s4 h4 => ?_
        refine ⟨by show 2 ≤ sizeLine; decide, fun L2 nL2 => ?_⟩
        have s5 := s3.trans (s4.trans (same_upd (o := .lst [.ref t1, .ref t2]) nL2))
        refine ⟨M, L2, rs2.map V.ref, [.ref t1, .ref t2], rfl, rfl, s5 _ _ hM, upd_same, by rw [List.length_map]; exact Nat.le_of_lt (small1000 (by show rs2.length + 2 ≤ 1000; omega)), fun p np => ?_⟩
        have s6 := s5.trans (same_upd (o := .lst (rs2.map V.ref ++ [.ref t1, .ref t2])) np)
        refine ⟨p, _, rs2 ++ [t1, t2], rfl, s2.trans s6, (s2.trans s5).free np, by rw [upd_same, List.map_append]; rfl, ?_⟩
        rw [take_flat _ hbs]
        refine paired_app (rw2.same s6) (.cons ?_ (.cons ?_ .nil))
        · refine same_upd np _ _ (same_upd nL2 _ _ (s4 _ _ ?_))
          rw [h3, List.map_append]
          rfl
        · refine same_upd np _ _ (same_upd nL2 _ _ ?_)
          rw [h4, List.map_append]
          rfl
      · obtain ⟨M, x', rs2, rfl, s2, nM, hM, rw2⟩ := hQ
        dsimp only
        refine q_set ?_
        refine ⟨.ref M, rfl, ?_⟩
        refine ⟨M, _, _, _, rs2, rfl, s1.trans s2, s1.free nM, hM, ?_⟩
        rw [List.length_map, len1, List.take_length] at rw2
        exact rw2
    · obtain ⟨L, u, v, x, rs, rfl, s1, nL, hL, rw1⟩ := hP
      dsimp only
      refine q_ret ?_
      exact ⟨.ref L, rfl, q _ L rs s1 nL hL rw1⟩
def spAm : Sp := fun vs H Q _ => ∃ (h dr : Addr) (wd : Int), vs = [.ref h, .int wd] ∧ Hdd H h dr ∧ ∀ r H', -1000000 < r → r < 1000000 → Kp h H H' → Hdd H' h dr → Q (.int r) H'
theorem Kp.eq {h : Addr} {H H' : Hp} (e : ∀ b, b ≠ h → H' b = H b) : Kp h H H' := fun b o n x => (e b n).trans x
theorem ok_amount {f fTake : Addr} {fd fdTake : FuncData} (F : Fun K "_law_amount" "_law_amount" sAmount f fd) (GTake : FnOk P w K mg base CX0 1 fTake fdTake ["hand", "many"] spTake) (kTake : PySem.W.keepIn K (.ref fTake) = true) (bTake : Binds K fdTake ["hand", "many"] []) (gTake : mg "_law_take" = some (.ref fTake)) : FnOk P w K mg base CX0 2 f fd ["hand", "wide"] spAm := by
  refine F.ok scAmount (fun vs H Q E h => ?_) (fun cdv A outer s H vs Q E hr h => ?_)
  · obtain ⟨h, dr, wd, rfl, _⟩ := h
    rfl
  · obtain ⟨h, dr, wd, rfl, hd, q⟩ := h
    refine ⟨_, (pss_cons (ps_if (pt_cmpR op_eq (pv 1) pe_int (nomark _))
      (pss_one (ps_ret (pe_op op_sub (pe_call GTake (hr.mono (by decide)) (by rfl) gTake kTake bTake .nil pass0 (pa_cons (pv 0) (pa_cons pe_int pa_nil))) pe_int))) pss_nil)
      (pss_cons (ps_set (i := 2) scAmount.nd rfl (.inl rfl) (pe_op op_add (pe_op op_mul pe_int (pe_call GTake (hr.mono (by decide)) (by rfl) gTake kTake bTake .nil pass0 (pa_cons (pv 0) (pa_cons pe_int pa_nil)))) (pe_call GTake (hr.mono (by decide)) (by rfl) gTake kTake bTake .nil pass0 (pa_cons (pv 0) (pa_cons pe_int pa_nil)))))
      (pss_one (ps_ret (pe_ix ix_list (pe_lst (pa_cons (pv 2) (pa_cons (pe_op op_sub pe_int (pv 2)) pa_nil))) (pe_call GTake (hr.mono (by decide)) (by rfl) gTake kTake bTake .nil pass0 (pa_cons (pv 0) (pa_cons pe_int pa_nil))) (fun _ _ => rfl)))))), ?_⟩
    refine q_seq (q_if ?_)
    refine ⟨.int wd, rfl, rfl, _, rfl, ?_⟩
    refine ite2 (fun e => ?_) (fun e => ?_)
    · refine q_ret ?_
      refine ⟨.ref h, rfl, h, dr, 5, rfl, hd, by decide, fun r H1 r0 r1 k1 hd1 => ⟨_, _, rfl, rfl, q _ _ (by omega) (by omega) (Kp.eq k1) hd1⟩⟩
    · refine q_next ?_
      dsimp only
      refine q_seq (q_set ?_)
      refine ⟨.ref h, rfl, h, dr, 1000, rfl, hd, by decide, fun r1 H1 a1 b1 k1 hd1 => ⟨_, _, rfl, rfl, .inl ⟨by decide, by decide⟩, .ref h, rfl, h, dr, 1000, rfl, hd1, by decide, fun r2 H2 a2 b2 k2 hd2 => ⟨_, _, rfl, rfl, ?_⟩⟩⟩
      dsimp only
      refine q_ret ?_
      refine ⟨_, rfl, _, rfl, _, _, rfl, rfl, by show 2 ≤ sizeLine; decide, fun L nL => ?_⟩
      have hd2' := hd2.same (same_upd (o := .lst [.int (1000 * r1 + r2), .int (0 - (1000 * r1 + r2))]) nL)
      refine ⟨.ref h, rfl, h, dr, 2, rfl, hd2', by decide, fun r3 H3 a3 b3 k3 hd3 => ?_⟩
      have eL := (k3 L (hd2.ne nL)).trans upd_same
      have kp : Kp h H H3 := (Kp.eq k1).trans ((Kp.eq k2).trans ((Kp.of (same_upd nL)).trans (Kp.eq k3)))
      have r' : r3 = ((0 : Nat) : Int) ∨ r3 = ((1 : Nat) : Int) := by omega
      rcases r' with e | e
      · exact ⟨L, _, r3, _, rfl, rfl, sl eL, at_z e rfl, q _ _ (by omega) (by omega) kp hd3⟩
      · exact ⟨L, _, r3, _, rfl, rfl, sl eL, at_z e rfl, q _ _ (by omega) (by omega) kp hd3⟩
end
end C3

namespace C3
open PySem PySem.Spec PyProof.Rows L2 Ek
section
variable {P : Program} {w : World} {K : PySem.W.Frag} {mg : Str → Option Value} {base : Heap}
theorem q_seqJ {D : Ends} {σ : L2.St} {H : Hp} {a b : TS} (J : L2.St → Hp → Prop) (h1 : ∀ σ' H', J σ' H' → b D σ' H') (h2 : (∀ σ' H', J σ' H' → b D σ' H') → a { D with nx := fun s h => b D s h } σ H) : tSeq a b D σ H := h2 h1
def Bd (lo hi : Int) (ns : List Int) : Prop := ∀ x ∈ ns, lo ≤ x ∧ x ≤ hi
theorem Bd.nil {lo hi : Int} : Bd lo hi [] := fun _ m => by cases m
theorem Bd.snoc {lo hi x : Int} {ns : List Int} (h : Bd lo hi ns) (hx : lo ≤ x ∧ x ≤ hi) : Bd lo hi (ns ++ [x]) := fun y m => by
  rcases List.mem_append.mp m with m | m
  · exact h y m
  · rw [List.mem_singleton.mp m]; exact hx
theorem Bd.at {lo hi : Int} {ns : List Int} (h : Bd lo hi ns) {j : Nat} (hj : j < ns.length) : ∃ v, (ns.map V.int)[j]? = some (.int v) ∧ lo ≤ v ∧ v ≤ hi :=
  ⟨ns[j], by rw [List.getElem?_map, List.getElem?_eq_getElem hj]; rfl, h _ (List.getElem_mem hj)⟩
theorem Bd.wide {lo hi lo' hi' : Int} {ns : List Int} (h : Bd lo hi ns) (h1 : lo' ≤ lo) (h2 : hi ≤ hi') : Bd lo' hi' ns := fun x m => by
  have z := h x m
  omega
theorem Bd.sum {lo hi : Int} : ∀ {ns : List Int}, Bd lo hi ns → lo ≤ 0 → 0 ≤ hi → (ns.length : Int) * lo ≤ ns.sum ∧ ns.sum ≤ (ns.length : Int) * hi
  | [], _, _, _ => by simp
  | x :: ns, h, h1, h2 => by
    have z := h x List.mem_cons_self
    obtain ⟨a, b⟩ := Bd.sum (ns := ns) (fun y m => h y (List.mem_cons_of_mem _ m)) h1 h2
    rw [List.sum_cons, List.length_cons]
    have e : ∀ c : Int, ((ns.length + 1 : Nat) : Int) * c = (ns.length : Int) * c + c := fun c => by
      rw [Int.natCast_add, Int.add_mul]
      simp
    rw [e, e]
    omega
theorem mul_bit {lo hi p b : Int} (h : lo ≤ p ∧ p ≤ hi) (h1 : lo ≤ 0) (h2 : 0 ≤ hi) (hb : 0 ≤ b ∧ b ≤ 1) : lo ≤ p * b ∧ p * b ≤ hi := by
  have e : b = 0 ∨ b = 1 := by omega
  rcases e with rfl | rfl
  · rw [Int.mul_zero]; omega
  · rw [Int.mul_one]; exact h
theorem small_mul {p b lo hi : Int} (h : lo ≤ p ∧ p ≤ hi) (h1 : -1000 ≤ lo) (h2 : hi ≤ 1000) : CMul p b := .inl ⟨Int.lt_of_lt_of_le (by decide) (Int.le_trans h1 h.1), Int.lt_of_le_of_lt (Int.le_trans h.2 h2) (by decide)⟩
theorem bits_bd {bs : List Int} (h : Bits bs) : Bd 0 1 bs := fun x m => by
  have z := h x m
  omega
theorem cut_lo (xs : List V) (n : Nat) : cutV xs (some (n : Int)) none = xs.drop n := by
  unfold cutV
  rw [HT.sIx_nat, HT.sIx_none]
  by_cases h : n ≤ xs.length
  · rw [Nat.min_eq_left h]
    exact List.take_of_length_le (by rw [List.length_drop]; exact Nat.le_refl _)
  · rw [Nat.min_eq_right (by omega), List.drop_of_length_le (Nat.le_refl _), List.drop_of_length_le (by omega), List.take_nil]
theorem cut_hi (xs : List V) (n : Nat) : cutV xs none (some (n : Int)) = xs.take n := by
  unfold cutV
  rw [HT.sIx_nat, HT.sIx_none, List.drop_zero, Nat.sub_zero]
  by_cases h : n ≤ xs.length
  · rw [Nat.min_eq_left h]
  · rw [Nat.min_eq_right (by omega), List.take_of_length_le (Nat.le_refl _), List.take_of_length_le (by omega)]
theorem cut_m1 (xs : List V) : cutV xs none (some (-1)) = xs.dropLast := by
  unfold cutV
  rw [HT.sIx_none, List.drop_zero, Nat.sub_zero, List.dropLast_eq_take]
  have e : HT.sIx xs.length xs.length (some (-1)) = ((-1 : Int) + (xs.length : Int)).toNat := by
    show (if (-1 : Int) < 0 then ((-1 : Int) + (xs.length : Int)).toNat else min (-1 : Int).toNat xs.length) = _
    rw [if_pos (by decide)]
  rw [e]
  congr 1
  omega
theorem or_int {σ : L2.St} {H : Hp} {i : Nat} {kd a b : Int} {Q : VK} (hσ : σ[i]? = some (some (.int kd))) (q : ∀ w : Int, Q (.int w) H) : tCB (fun xs H Q => (∃ i, xs = [.int i] ∧ Q (.int i) H) ∨ ∃ k, xs = [.bl k] ∧ Q (.int (if k then 1 else 0)) H) (tCons (tOrV (tOp rEq (tVar i) (tC (.int a))) (tOp rEq (tVar i) (tC (.int b)))) tNil) σ H Q := by
  refine ⟨.int kd, hσ, rfl, ?_⟩
  by_cases e : kd = a
  · rw [decide_eq_true (by rw [e])]
    exact ⟨true, rfl, .inr ⟨_, rfl, q _⟩⟩
  · rw [decide_eq_false (fun z => e (V.int.inj z))]
    exact ⟨false, rfl, .int kd, hσ, rfl, .inr ⟨_, rfl, q _⟩⟩
def spLP : Sp := fun vs H Q _ => ∃ (h dr : Addr) (k : Nat), vs = [.ref h, .int k] ∧ 1 ≤ k ∧ k ≤ 3 ∧ Hdd H h dr ∧
  ∀ p t ms H', Kp h H H' → Hdd H' h dr → H' p = some (.tup [.int k, .ref t]) → H' t = some (.tup (ms.map V.int)) → ms.length = 2 ^ k → Bd (-1000000000) 1000000000 ms → Q (.ref p) H'
theorem price_end {h dr : Addr} {H H2 : Hp} {L : Addr} {ms : List Int} {k : Nat} {Q : VK}
    (q : ∀ p t ms H', Kp h H H' → Hdd H' h dr → H' p = some (.tup [.int k, .ref t]) → H' t = some (.tup (ms.map V.int)) → ms.length = 2 ^ k → Bd (-1000000000) 1000000000 ms → Q (.ref p) H')
    (kp : Kp h H H2) (hd : Hdd H2 h dr) (hL : H2 L = some (.lst (ms.map V.int))) (hl : ms.length = 2 ^ k) (hb : Bd (-1000000000) 1000000000 ms) :
    ∃ p ys, [V.ref L] = [V.ref p] ∧ ((SqL K H2 p ys ∧ ∀ l, H2 l = none → (([V.int k, .ref l] : List V).length ≤ sizeLine ∧ ∀ p, (upd H2 l (.tup ys)) p = none → Q (.ref p) (upd (upd H2 l (.tup ys)) p (.tup [.int k, .ref l])))) ∨
      (SqT K H2 p ys ∧ (([V.int k, .ref p] : List V).length ≤ sizeLine ∧ ∀ p', H2 p' = none → Q (.ref p') (upd H2 p' (.tup [.int k, .ref p]))))) :=
  ⟨L, _, rfl, .inl ⟨sl hL, fun l nl => ⟨by show 2 ≤ sizeLine; decide, fun p np => q p l ms _ (kp.trans (Kp.of ((same_upd nl).trans (same_upd np)))) (hd.same ((same_upd nl).trans (same_upd np))) upd_same (same_upd np _ _ upd_same) hl hb⟩⟩⟩
theorem ok_lprice {f fTake fEvery fAmount : Addr} {fd fdTake fdEvery fdAmount : FuncData} (F : Fun K "_law_price" "_law_price" sLPrice f fd) (B : Bt mg) (GTake : FnOk P w K mg base CX0 1 fTake fdTake ["hand", "many"] spTake) (kTake : PySem.W.keepIn K (.ref fTake) = true) (bTake : Binds K fdTake ["hand", "many"] []) (gTake : mg "_law_take" = some (.ref fTake)) (GEvery : FnOk P w K mg base CX0 1 fEvery fdEvery ["many"] spEv) (kEvery : PySem.W.keepIn K (.ref fEvery) = true) (bEvery : Binds K fdEvery ["many"] []) (gEvery : mg "_law_every" = some (.ref fEvery)) (GAmount : FnOk P w K mg base CX0 2 fAmount fdAmount ["hand", "wide"] spAm) (kAmount : PySem.W.keepIn K (.ref fAmount) = true) (bAmount : Binds K fdAmount ["hand", "wide"] []) (gAmount : mg "_law_amount" = some (.ref fAmount)) : FnOk P w K mg base CX0 3 f fd ["hand", "size"] spLP := by
  refine F.ok scLPrice (fun vs H Q E h => ?_) (fun cdv A outer s H vs Q E hr h => ?_)
  · obtain ⟨h, dr, k, rfl, _⟩ := h
    rfl
  · obtain ⟨h, dr, k, rfl, k1, k3, hd, q⟩ := h
    refine ⟨_, (pss_cons (ps_set (i := 2) scLPrice.nd rfl (.inr rfl) (pe_call GTake (hr.mono (by decide)) (by rfl) gTake kTake bTake .nil pass0 (pa_cons (pv 0) (pa_cons pe_int pa_nil))))
      (pss_cons (ps_set (i := 3) scLPrice.nd rfl (.inr rfl) (pe_callTy call_int1 (by rfl) B.int (by decide +kernel) (pa_cons (pe_or (pe_cmpR op_eq (pv 2) pe_int (nomark _)) (pe_one (pe_cmpR op_eq (pv 2) pe_int (nomark _)))) pa_nil)))
      (pss_cons (ps_set (i := 4) scLPrice.nd rfl (.inr rfl) (pe_call GEvery (hr.mono (by decide)) (by rfl) gEvery kEvery bEvery .nil pass0 (pa_cons (pv 1) pa_nil)))
      (pss_cons (ps_set (i := 6) scLPrice.nd rfl (.inr rfl) (pe_lc (own := [("row", 5)]) (g := gName 5) (tt := tYes) rfl scLPrice.nd (pi_list (pv 4)) (blkOk_by (N := NLPrice) (sc := defScope sLPrice) (by decide +kernel)) (fun _ _ _ _ _ => pg_name (i := 5) scLPrice.nd rfl (Or.inl rfl)) (fun _ _ _ _ _ => pts_nil) (fun _ _ _ _ _ => (pe_call GAmount (hr.mono (by decide)) (by rfl) gAmount kAmount bAmount .nil pass0 (pa_cons (pv 0) (pa_cons (pv 3) pa_nil))))))
      (pss_cons (ps_if (pt_cmpR op_lt (pv 2) pe_int (nomark _))
      (pss_one (ps_ret (pe_tup (pa_cons (pv 1) (pa_cons (pe_callTy call_tuple_of (by rfl) B.tuple (by decide +kernel) (pa_cons (pv 6) pa_nil)) pa_nil))))) pss_nil)
      (pss_cons (ps_if (pt_cmpR op_lt (pv 2) pe_int (nomark _))
      (pss_one (ps_ret (pe_tup (pa_cons (pv 1) (pa_cons (pe_callTy call_tuple_of (by rfl) B.tuple (by decide +kernel) (pa_cons (pe_lc (own := [("k", 12)]) (g := gName 12) (tt := tYes) rfl scLPrice.nd (pi_range1 rfl B.range (pa_cons (pe_callB call_len_seq (by rfl) B.len PySem.boot_len (pa_cons (pv 4) pa_nil)) pa_nil)) (blkOk_by (N := NLPrice) (sc := defScope sLPrice) (by decide +kernel)) (fun _ _ _ _ _ => pg_name (i := 12) scLPrice.nd rfl (Or.inl rfl)) (fun _ _ _ _ _ => pts_nil) (fun _ _ _ _ _ => (pe_ix (ixl_k K rfl) (pv 6) (pe_callB (call_min2 rfl) (by rfl) B.min (by decide +kernel) (pa_cons (pv 12) (pa_cons (pe_op op_sub (pe_op op_sub (pe_callB (call_lenk K rfl) (by rfl) B.len PySem.boot_len (pa_cons (pv 4) pa_nil)) pe_int) (pv 12)) pa_nil))) (fun _ _ => rfl)))) pa_nil)) pa_nil))))) pss_nil)
      (pss_cons (ps_if (pt_cmpR op_eq (pv 2) pe_int (nomark _))
      (pss_one (ps_ret (pe_tup (pa_cons (pv 1) (pa_cons (pe_callTy call_tuple_of (by rfl) B.tuple (by decide +kernel) (pa_cons (pe_op op_cat (pe_lst (pa_cons (pe_op op_sub (pe_callB (cr_min rfl) (by rfl) B.min (by decide +kernel) (pa_cons (pv 6) pa_nil)) (pe_call GTake (hr.mono (by decide)) (by rfl) gTake kTake bTake .nil pass0 (pa_cons (pv 0) (pa_cons pe_int pa_nil)))) pa_nil)) (pe_slice sl_list (pv 6) (po_some pe_int) po_none)) pa_nil)) pa_nil))))) pss_nil)
      (pss_cons (ps_if (pt_cmpR op_eq (pv 2) pe_int (nomark _))
      (pss_one (ps_ret (pe_tup (pa_cons (pv 1) (pa_cons (pe_callTy call_tuple_of (by rfl) B.tuple (by decide +kernel) (pa_cons (pe_op op_cat (pe_slice sl_list (pv 6) po_none (po_some (pe_un un_neg pe_int))) (pe_lst (pa_cons (pe_op op_sub (pe_callB (cr_min rfl) (by rfl) B.min (by decide +kernel) (pa_cons (pv 6) pa_nil)) (pe_call GTake (hr.mono (by decide)) (by rfl) gTake kTake bTake .nil pass0 (pa_cons (pv 0) (pa_cons pe_int pa_nil)))) pa_nil))) pa_nil)) pa_nil))))) pss_nil)
      (pss_cons (ps_set (i := 7) scLPrice.nd rfl (.inr rfl) (pe_lc (own := [("k", 12)]) (g := gName 12) (tt := tYes) rfl scLPrice.nd (pi_range1 rfl B.range (pa_cons (pv 1) pa_nil)) (blkOk_by (N := NLPrice) (sc := defScope sLPrice) (by decide +kernel)) (fun _ _ _ _ _ => pg_name (i := 12) scLPrice.nd rfl (Or.inl rfl)) (fun _ _ _ _ _ => pts_nil) (fun _ _ _ _ _ => (pe_op op_mul (pe_call GTake (hr.mono (by decide)) (by rfl) gTake kTake bTake .nil pass0 (pa_cons (pv 0) (pa_cons pe_int pa_nil))) (pe_ix (ixl_k K rfl) (pe_lst (pa_cons pe_int (pa_cons (pe_un un_neg pe_int) pa_nil))) (pe_callTy call_int1 (by rfl) B.int (by decide +kernel) (pa_cons (pe_cmpR op_eq (pv 2) pe_int (nomark _)) pa_nil)) (fun _ _ => rfl))))))
      (pss_cons (ps_set (i := 8) scLPrice.nd rfl (.inr rfl) (pe_ix ix_list (pe_lst (pa_cons pe_int (pa_cons pe_int (pa_cons pe_int (pa_cons (pe_op op_sub (pe_call GTake (hr.mono (by decide)) (by rfl) gTake kTake bTake .nil pass0 (pa_cons (pv 0) (pa_cons pe_int pa_nil))) pe_int) pa_nil))))) (pv 1) (fun _ _ => rfl)))
      (pss_cons (ps_setLc (i := 9) (own := [("k", 12)]) (g := gName 12) (tt := tYes) rfl scLPrice.nd rfl rfl (sw_true rfl rfl rfl (by decide +kernel)) (pi_range1 rfl B.range (pa_cons pe_int pa_nil)) (blkOk_by (N := NLPrice) (sc := defScope sLPrice) (by decide +kernel)) (fun _ _ _ _ _ => pg_name (i := 12) scLPrice.nd rfl (Or.inl rfl)) (fun _ _ _ _ _ => pts_nil) (fun _ _ _ _ _ => (pe_op op_sub (pe_op op_sub pe_int (pe_callB (call_max2 rfl) (by rfl) B.max (by decide +kernel) (pa_cons (pv 8) (pa_cons pe_int pa_nil)))) (pe_call GTake (hr.mono (by decide)) (by rfl) gTake kTake bTake .nil pass0 (pa_cons (pv 0) (pa_cons pe_int pa_nil))))))
      (pss_cons (ps_if (pt_cmpR op_eq (pe_call GTake (hr.mono (by decide)) (by rfl) gTake kTake bTake .nil pass0 (pa_cons (pv 0) (pa_cons pe_int pa_nil))) pe_int (nomark _))
      (pss_cons (ps_set (i := 9) scLPrice.nd rfl (.inl rfl) (pe_lst (pa_cons pe_int (pa_cons pe_int (pa_cons pe_int pa_nil)))))
      (pss_one (ps_set (i := 8) scLPrice.nd rfl (.inr rfl) pe_int))) pss_nil)
      (pss_cons (ps_set (i := 10) scLPrice.nd rfl (.inl rfl) (pe_lst pa_nil))
      (pss_cons (ps_for PassesOwn.never rfl (pi_list (pv 4)) (pg_name (i := 5) scLPrice.nd rfl (.inr rfl))
      (pss_cons (ps_set (i := 11) scLPrice.nd rfl (.inl rfl) (pe_op op_add (pe_ix ix_list (pv 6) pe_int (fun _ _ => rfl)) (pe_callB (cr_sum rfl) (by rfl) B.sum (by decide +kernel) (pa_cons (pe_lc (own := [("k", 12)]) (g := gName 12) (tt := tYes) rfl scLPrice.nd (pi_range1 rfl B.range (pa_cons (pv 1) pa_nil)) (blkOk_by (N := NLPrice) (sc := defScope sLPrice) (by decide +kernel)) (fun _ _ _ _ _ => pg_name (i := 12) scLPrice.nd rfl (Or.inl rfl)) (fun _ _ _ _ _ => pts_nil) (fun _ _ _ _ _ => (pe_op op_mul (pe_ix (ixl_k K rfl) (pv 7) (pv 12) (fun _ _ => rfl)) (pe_ix (ixt_k K rfl) (pv 5) (pv 12) (fun _ _ => rfl))))) pa_nil))))
      (pss_cons (ps_if (pt_cmpR op_gt (pv 1) pe_int (nomark _))
      (pss_one (ps_set (i := 11) scLPrice.nd rfl (.inl rfl) (pe_op op_add (pv 11) (pe_op op_mul (pe_op op_mul (pe_ix ix_list (pv 9) pe_int (fun _ _ => rfl)) (pe_ix ix_tup (pv 5) pe_int (fun _ _ => rfl))) (pe_ix ix_tup (pv 5) pe_int (fun _ _ => rfl)))))) pss_nil)
      (pss_cons (ps_if (pt_cmpR op_gt (pv 1) pe_int (nomark _))
      (pss_one (ps_set (i := 11) scLPrice.nd rfl (.inl rfl) (pe_op op_add (pe_op op_add (pe_op op_add (pv 11) (pe_op op_mul (pe_op op_mul (pe_ix ix_list (pv 9) pe_int (fun _ _ => rfl)) (pe_ix ix_tup (pv 5) pe_int (fun _ _ => rfl))) (pe_ix ix_tup (pv 5) pe_int (fun _ _ => rfl)))) (pe_op op_mul (pe_op op_mul (pe_ix ix_list (pv 9) pe_int (fun _ _ => rfl)) (pe_ix ix_tup (pv 5) pe_int (fun _ _ => rfl))) (pe_ix ix_tup (pv 5) pe_int (fun _ _ => rfl)))) (pe_op op_mul (pe_op op_mul (pe_op op_mul (pv 8) (pe_ix ix_tup (pv 5) pe_int (fun _ _ => rfl))) (pe_ix ix_tup (pv 5) pe_int (fun _ _ => rfl))) (pe_ix ix_tup (pv 5) pe_int (fun _ _ => rfl)))))) pss_nil)
      (pss_one (ps_expr (pe_bm PySem.F.plainAttrs_list PySem.F.slot_list_append PySem.F.type_list_append mt_append (pv 10) (pa_cons (pv 11) pa_nil))))))))
      (pss_one (ps_ret (pe_tup (pa_cons (pv 1) (pa_cons (pe_callTy call_tuple_of (by rfl) B.tuple (by decide +kernel) (pa_cons (pv 10) pa_nil)) pa_nil))))))))))))))))))), ?_⟩
    -- kind
    refine q_seq (q_set ?_)
    refine ⟨.ref h, rfl, h, dr, 10, rfl, hd, by decide, fun kd H1 a1 b1 e1 hd1 => ?_⟩
    have kp1 := Kp.eq e1
    dsimp only
    -- wide
    refine q_seq (q_set ?_)
    refine or_int (show _ = some (some (V.int kd)) from rfl) fun wd => ?_
    dsimp only
    -- every
    refine q_seq (q_set ?_)
    refine ⟨.int k, rfl, k, rfl, k3, fun H2 pe rs s2 n2 h2 rw2 => ?_⟩
    have hd2 := hd1.same s2
    have kp2 := kp1.trans (Kp.of s2)
    have lr : rs.length = 2 ^ k := by rw [paired_len rw2, rows_len]
    have l8 : rs.length ≤ 8 := by rw [paired_len rw2]; exact rows8 k3
    have pos : 0 < 2 ^ k := Nat.two_pow_pos k
    have ep : pe ≠ h := hd1.ne n2
    dsimp only
    -- amounts
    refine q_seq (q_set ?_)
    refine ⟨.ref pe, rfl, pe, rfl, ⟨_, sl h2⟩, fun D nD => lc_list (K := K) (a := pe) (xs := rs.map V.ref) (fun i H' => Kp h H2 H' ∧ Hdd H' h dr ∧ ∃ ms : List Int, H' D = some (.lst (ms.map V.int)) ∧ ms.length = i ∧ Bd (-1000000) 1000000 ms)
      ⟨Kp.of (same_upd nD), hd2.same (same_upd nD), [], upd_same, rfl, Bd.nil⟩ (fun i H' _ hP => sl (hP.1 _ _ ep h2)) (fun i x H' hx hP => ?_) (fun H3 hP => ?_)⟩
    · obtain ⟨kp, hdd, ms, hD, hl, hb⟩ := hP
      have lt : i < rs.length := by
        have z := (List.getElem?_eq_some_iff.mp hx).1
        rw [List.length_map] at z
        exact z
      refine ⟨rfl, .ref h, rfl, .int wd, rfl, h, dr, wd, rfl, hdd, fun r H4 r0 r1 kp4 hd4 => ⟨_, kp4 _ _ (hd2.ne nD) hD, by rw [List.length_map]; exact small1000 (by omega), fun b o n e => ?_, hd4.upd (hd2.ne nD) (hd2.ned nD), ms ++ [r], ?_, ?_, hb.snoc ⟨by omega, by omega⟩⟩⟩
      · rw [upd_ne (ne_of_none e nD)]
        exact kp4 _ _ n (kp _ _ n e)
      · rw [upd_same, List.map_append]
        rfl
      · rw [List.length_append, hl]
        rfl
    obtain ⟨kp3', hd3, am, hA, la, ba⟩ := hP
    rw [List.length_map, lr] at la
    have kp3 := kp2.trans kp3'
    have h3 := kp3' _ _ ep h2
    have rw3 : ∀ (i : Nat) (bs : List Int), (rowsOf k)[i]? = some bs → ∃ r, (rs.map V.ref)[i]? = some (.ref r) ∧ H3 r = some (.tup (bs.map V.int)) := fun i bs e => by
      obtain ⟨r, e1, e2⟩ := rws_get rw2 e
      exact ⟨r, e1, kp3' _ _ (hd2.ns e2 (fun _ _ z => by cases z)) e2⟩
    have nDh : D ≠ h := hd2.ne nD
    dsimp only
    -- kind < 4
    refine q_seq (q_if ?_)
    refine ⟨.int kd, rfl, _, _, rfl, rfl, _, rfl, ?_⟩
    refine ite2 (fun e => ?_) (fun e4 => ?_)
    · refine q_ret ?_
      exact ⟨.int k, rfl, .ref D, rfl, price_end q kp3 hd3 hA la (ba.wide (by decide) (by decide))⟩
    refine q_next ?_
    dsimp only
    -- kind < 6
    refine q_seq (q_if ?_)
    refine ⟨.int kd, rfl, _, _, rfl, rfl, _, rfl, ?_⟩
    refine ite2 (fun e => ?_) (fun e6 => ?_)
    · refine q_ret ?_
      refine ⟨.int k, rfl, .ref pe, rfl, pe, _, rfl, .inl (sl h3), _, rfl, by rw [List.length_map]; omega, by rw [List.length_map]; omega, fun D2 nD2 => lc_range (lo := 0) (n := (rs.map V.ref).length) (fun i H' => Same H3 H' ∧ ∃ ms : List Int, H' D2 = some (.lst (ms.map V.int)) ∧ ms.length = i ∧ Bd (-1000000) 1000000 ms)
        ⟨same_upd nD2, [], upd_same, rfl, Bd.nil⟩ (fun i H' hi hP => ?_) (fun H4 hP => ?_)⟩
      · obtain ⟨s', ms, hD2, hl, hb⟩ := hP
        rw [List.length_map] at hi
        obtain ⟨j, hj, ej⟩ : ∃ j : Nat, j < am.length ∧ (if ((rs.map V.ref).length : Int) - 1 - (0 + (i : Int)) < 0 + (i : Int) then ((rs.map V.ref).length : Int) - 1 - (0 + (i : Int)) else 0 + (i : Int)) = (j : Int) := by
          rw [List.length_map]
          refine ⟨(if (rs.length : Int) - 1 - (0 + (i : Int)) < 0 + (i : Int) then (rs.length : Int) - 1 - (0 + (i : Int)) else 0 + (i : Int)).toNat, ?_, ?_⟩ <;> split <;> omega
        obtain ⟨v, hv, v0, v1⟩ := ba.at hj
        refine ⟨rfl, .ref D, rfl, .int (0 + (i : Int)), rfl, .ref pe, rfl, pe, _, rfl, .inl (sl (s' _ _ h3)), _, _, rfl, rfl, .int (0 + (i : Int)), rfl, _, _, rfl, rfl, _, _, rfl, D, _, _, _, rfl, rfl, sl (s' _ _ hA), at_z ej hv, _, hD2, by rw [List.length_map]; exact small1000 (by omega), fun b o z => ?_, ms ++ [v], ?_, ?_, hb.snoc ⟨v0, v1⟩⟩
        · rw [upd_ne (ne_of_none z nD2)]
          exact s' _ _ z
        · rw [upd_same, List.map_append]
          rfl
        · rw [List.length_append, hl]
          rfl
      · obtain ⟨s', ms, hD2, hl, hb⟩ := hP
        rw [List.length_map, lr] at hl
        exact price_end q (kp3.trans (Kp.of s')) (hd3.same s') hD2 hl (hb.wide (by decide) (by decide))
    refine q_next ?_
    dsimp only
    -- kind == 6
    refine q_seq (q_if ?_)
    refine ⟨.int kd, rfl, rfl, _, rfl, ?_⟩
    refine ite2 (fun e => ?_) (fun e7 => ?_)
    · refine q_ret ?_
      refine ⟨.int k, rfl, .ref D, rfl, D, am, rfl, sl hA, by omega, fun m hm _ => ⟨.ref h, rfl, h, dr, 2, rfl, hd3, by decide, fun r H4 r0 r1 k4 hd4 => ⟨_, _, rfl, rfl, by show 1 ≤ sizeLine; decide, fun L nL => ?_⟩⟩⟩
      have kpL := (Kp.eq k4).trans (Kp.of (same_upd (o := .lst [.int (m - r)]) nL))
      refine ⟨.ref D, rfl, 1, rfl, D, _, rfl, sl (kpL _ _ nDh hA), fun p np => ?_⟩
      rw [show cutV (am.map V.int) (some 1) none = (am.drop 1).map V.int by rw [show (1 : Int) = ((1 : Nat) : Int) from rfl, cut_lo, List.map_drop]]
      refine ⟨L, p, [.int (m - r)], _, rfl, rfl, same_upd np _ _ upd_same, upd_same, by rw [List.length_map, List.length_drop, sizeLine_eq]; show 1 + (am.length - 1) ≤ _; omega, fun l nl => ?_⟩
      have sF := (same_upd (o := .lst [.int (m - r)]) nL).trans ((same_upd (o := .lst ((am.drop 1).map V.int)) np).trans (same_upd (o := .lst ([.int (m - r)] ++ (am.drop 1).map V.int)) nl))
      have bm := ba m hm
      refine price_end (ms := (m - r) :: am.drop 1) q (kp3.trans ((Kp.eq k4).trans (Kp.of sF))) (hd4.same sF) upd_same ?_ (fun x mx => ?_)
      · rw [List.length_cons, List.length_drop]
        omega
      · rcases List.mem_cons.mp mx with rfl | mx
        · omega
        · have z := ba x (List.mem_of_mem_drop mx)
          omega
    refine q_next ?_
    dsimp only
    -- kind == 7
    refine q_seq (q_if ?_)
    refine ⟨.int kd, rfl, rfl, _, rfl, ?_⟩
    refine ite2 (fun e => ?_) (fun e8 => ?_)
    · refine q_ret ?_
      refine ⟨.int k, rfl, .ref D, rfl, 1, rfl, _, rfl, D, _, rfl, sl hA, fun p np => ?_⟩
      rw [cut_m1]
      have eD := same_upd (o := .lst (am.map V.int).dropLast) np _ _ hA
      refine ⟨.ref D, rfl, D, am, rfl, sl eD, by omega, fun m hm _ => ⟨.ref h, rfl, h, dr, 2, rfl, hd3.same (same_upd np), by decide, fun r H4 r0 r1 k4 hd4 => ⟨_, _, rfl, rfl, by show 1 ≤ sizeLine; decide, fun L nL => ?_⟩⟩⟩
      have ep4 : H4 p = some (.lst (am.map V.int).dropLast) := (k4 p (hd3.ne np)).trans upd_same
      refine ⟨p, L, _, [.int (m - r)], rfl, rfl, same_upd nL _ _ ep4, upd_same, by rw [List.length_dropLast, List.length_map, sizeLine_eq]; show (am.length - 1) + 1 ≤ _; omega, fun l nl => ?_⟩
      have sF := (same_upd (o := .lst [.int (m - r)]) nL).trans (same_upd (o := .lst ((am.map V.int).dropLast ++ [.int (m - r)])) nl)
      have bm := ba m hm
      refine price_end (ms := am.dropLast ++ [m - r]) q (kp3.trans ((Kp.of (same_upd np)).trans ((Kp.eq k4).trans (Kp.of sF)))) (hd4.same sF) (by rw [upd_same, List.map_append, List.map_dropLast]; rfl) ?_ (fun x mx => ?_)
      · rw [List.length_append, List.length_dropLast, List.length_cons, List.length_nil]
        omega
      · rcases List.mem_append.mp mx with mx | mx
        · have z := ba x ((List.dropLast_sublist am).mem mx)
          omega
        · rw [List.mem_singleton.mp mx]
          omega
    refine q_next ?_
    dsimp only
    -- singles
    refine q_seq (q_set ?_)
    obtain ⟨jv, vv, ejv, evv, hvv⟩ : ∃ (j : Nat) (v : Int), (if decide (V.int kd = V.int 9) = true then (1 : Int) else 0) = (j : Int) ∧ ([V.int 1, V.int (-1)] : List V)[j]? = some (.int v) ∧ (v = 1 ∨ v = -1) := by
      by_cases e9 : V.int kd = V.int 9
      · exact ⟨1, -1, by rw [decide_eq_true e9]; rfl, rfl, .inr rfl⟩
      · exact ⟨0, 1, by rw [decide_eq_false e9]; rfl, rfl, .inl rfl⟩
    refine ⟨.int k, rfl, (k : Int), rfl, by omega, by omega, fun S nS => lc_range (lo := 0) (n := k) (fun i H' => Kp h H3 H' ∧ Hdd H' h dr ∧ ∃ ms : List Int, H' S = some (.lst (ms.map V.int)) ∧ ms.length = i ∧ Bd (-3) 3 ms)
      ⟨Kp.of (same_upd nS), hd3.same (same_upd nS), [], upd_same, rfl, Bd.nil⟩ (fun i H' hi hP => ?_) (fun H4 hP => ?_)⟩
    · obtain ⟨kp, hdd, ms, hS, hl, hb⟩ := hP
      refine ⟨rfl, .ref h, rfl, h, dr, 4, rfl, hdd, by decide, fun r H5 r0 r1 k5 hd5 => ⟨1, rfl, by show 2 ≤ sizeLine; decide, fun L nL => ⟨.int kd, rfl, rfl, .inr ⟨_, rfl, L, _, _, _, rfl, rfl, sl upd_same, at_z ejv evv, r, vv, rfl, rfl, .inl ⟨Int.lt_of_lt_of_le (by decide) r0, Int.lt_trans r1 (by decide)⟩, _, same_upd nL _ _ ((k5 _ (hd3.ne nS)).trans hS), by rw [List.length_map]; exact small1000 (by omega), fun b o n e => ?_, (hd5.same (same_upd nL)).upd (hd3.ne nS) (hd3.ned nS), ms ++ [r * vv], ?_, ?_, hb.snoc ?_⟩⟩⟩⟩
      · rw [upd_ne (ne_of_none e nS)]
        exact same_upd nL _ _ ((k5 _ n).trans (kp _ _ n e))
      · rw [upd_same, List.map_append]
        rfl
      · rw [List.length_append, hl]
        rfl
      · rcases hvv with rfl | rfl <;> omega
    obtain ⟨kp4', hd4, si, hS, ls, bs⟩ := hP
    have kp4 := kp3.trans kp4'
    dsimp only
    -- more
    refine q_seq (q_set ?_)
    refine ⟨.ref h, rfl, h, dr, 5, rfl, hd4, by decide, fun r5 H5 a5 b5 e5 hd5 => ⟨_, _, rfl, rfl, by show 4 ≤ sizeLine; decide, fun L5 nL5 => ?_⟩⟩
    obtain ⟨mo, hmo, m0, m1⟩ : ∃ v : Int, ([.int 0, .int 0, .int 0, .int (r5 - 2)] : List V)[k]? = some (.int v) ∧ -2 ≤ v ∧ v ≤ 2 := by
      rcases (show k = 1 ∨ k = 2 ∨ k = 3 by omega) with rfl | rfl | rfl
      · exact ⟨0, rfl, by decide, by decide⟩
      · exact ⟨0, rfl, by decide, by decide⟩
      · exact ⟨r5 - 2, rfl, by omega, by omega⟩
    refine ⟨.int k, rfl, L5, _, _, _, rfl, rfl, sl upd_same, at_z rfl hmo, ?_⟩
    have hd6 := hd5.same (same_upd (o := .lst [.int 0, .int 0, .int 0, .int (r5 - 2)]) nL5)
    have kp6' : Kp h H4 _ := (Kp.eq e5).trans (Kp.of (same_upd (o := .lst [.int 0, .int 0, .int 0, .int (r5 - 2)]) nL5))
    generalize (upd H5 L5 (.lst [.int 0, .int 0, .int 0, .int (r5 - 2)])) = H6 at hd6 kp6' ⊢
    have kp6 := kp4'.trans kp6'
    dsimp only
    -- pairs
    refine q_seq (q_set ?_)
    refine ⟨3, rfl, by decide, by decide, fun Pp nP => lc_range (lo := 0) (n := 3) (fun i H' => Kp h H6 H' ∧ Hdd H' h dr ∧ ∃ ms : List Int, H' Pp = some (.lst (ms.map V.int)) ∧ ms.length = i ∧ Bd (-5) 5 ms)
      ⟨Kp.of (same_upd nP), hd6.same (same_upd nP), [], upd_same, rfl, Bd.nil⟩ (fun i H' hi hP => ?_) (fun H7 hP => ?_)⟩
    · obtain ⟨kp, hdd, ms, hS, hl, hb⟩ := hP
      refine ⟨rfl, .int mo, rfl, mo, 0, rfl, _, _, rfl, rfl, .ref h, rfl, h, dr, 3, rfl, hdd, by decide, fun r H8 r0 r1 k8 hd8 => ⟨_, _, rfl, rfl, _, (k8 _ (hd6.ne nP)).trans hS, by rw [List.length_map]; exact small1000 (by omega), fun b o n e => ?_, hd8.upd (hd6.ne nP) (hd6.ned nP), ms ++ [0 - (if 0 > mo then 0 else mo) - r], ?_, ?_, hb.snoc ?_⟩⟩
      · rw [upd_ne (ne_of_none e nP)]
        exact (k8 _ n).trans (kp _ _ n e)
      · rw [upd_same, List.map_append]
        rfl
      · rw [List.length_append, hl]
        rfl
      · split <;> omega
    obtain ⟨kp7', hd7, pr, hP, lp, bp⟩ := hP
    have kp7 := kp6.trans kp7'
    dsimp only
    -- if _law_take(hand, 2) == 0
    refine q_seqJ (fun σ H' => ∃ (Pp : Addr) (pr : List Int) (mo : Int), σ = [some (.ref h), some (.int k), some (.int kd), some (.int wd), some (.ref pe), none, some (.ref D), some (.ref S), some (.int mo), some (.ref Pp), none, none, none] ∧ Kp h H3 H' ∧ Kp h H4 H' ∧ Hdd H' h dr ∧ H' Pp = some (.lst (pr.map V.int)) ∧ pr.length = 3 ∧ Bd (-5) 5 pr ∧ -2 ≤ mo ∧ mo ≤ 2) (fun σ' H' hJ => ?_) (fun key => ?_)
    rotate_left
    · refine q_if ?_
      refine ⟨.ref h, rfl, h, dr, 2, rfl, hd7, by decide, fun r8 H8 a8 b8 e8 hd8 => ⟨rfl, _, rfl, ?_⟩⟩
      refine ite2 (fun e => ?_) (fun e => ?_)
      · refine q_seq (q_set ⟨by show 3 ≤ sizeLine; decide, fun L nL => ?_⟩)
        dsimp only
        refine q_setc ?_
        refine key _ _ ⟨L, [0, 0, 0], 0, rfl, kp7.trans ((Kp.eq e8).trans (Kp.of (same_upd nL))), (kp6'.trans kp7').trans ((Kp.eq e8).trans (Kp.of (same_upd nL))), hd8.same (same_upd nL), upd_same, rfl, fun x m => ?_, by decide, by decide⟩
        simp only [List.mem_cons, List.not_mem_nil, or_false, or_self] at m
        rw [m]
        decide
      · refine q_next ?_
        exact key _ _ ⟨Pp, pr, mo, rfl, kp7.trans (Kp.eq e8), (kp6'.trans kp7').trans (Kp.eq e8), hd8, (e8 _ (hd6.ne nP)).trans hP, lp, bp, m0, m1⟩
    clear hP lp bp m0 m1 hmo
    obtain ⟨Pp', pr', mo', rfl, kp8, kp8', hd8, hP, lp, bp, m0, m1⟩ := hJ
    have hA8 := kp8 _ _ nDh hA
    have hS8 := kp8' _ _ (hd3.ne nS) hS
    have h8 := kp8 _ _ ep h3
    -- costs = []
    refine q_seq (q_set ⟨Nat.zero_le _, fun Cc nC => ?_⟩)
    dsimp only
    -- for row in every
    refine q_seq ?_
    refine ⟨.ref pe, rfl, pe, rfl, ⟨_, sl (same_upd nC _ _ h8)⟩, for_list (K := K) (a := pe) (xs := rs.map V.ref) (fun i σ H2 => ∃ (x c : Option V) (cs : List Int), σ = [some (.ref h), some (.int k), some (.int kd), some (.int wd), some (.ref pe), x, some (.ref D), some (.ref S), some (.int mo'), some (.ref Pp'), some (.ref Cc), c, none] ∧ Same H' H2 ∧ H2 Cc = some (.lst (cs.map V.int)) ∧ cs.length = i ∧ Bd (-1000000000) 1000000000 cs)
      ⟨none, none, [], rfl, same_upd nC, upd_same, rfl, Bd.nil⟩ (fun i σ H2 _ hQ => ?_) (fun i x σ H2 hx hQ => ?_) (fun σ H2 hQ => ?_)⟩
    · obtain ⟨x, c, cs, rfl, s9, _⟩ := hQ
      exact sl (s9 _ _ h8)
    · obtain ⟨x', c, cs, rfl, s9, hC, lc, bc⟩ := hQ
      obtain ⟨r, bs', rfl, hbs, _⟩ := rws_at rw2 hx
      obtain ⟨r2, hx2, hr3⟩ := rw3 _ _ hbs
      have er : r2 = r := V.ref.inj (Option.some.inj (hx2.symm.trans hx))
      subst er
      have mb := List.mem_of_getElem? hbs
      have lb := row_len k bs' mb
      have bb := bits_bd (bits_rows k bs' mb)
      have li : i < rs.length := by
        have z := (List.getElem?_eq_some_iff.mp hx2).1
        rw [List.length_map] at z
        exact z
      have hr9 := s9 _ _ (kp8 _ _ (hd3.ns hr3 (fun _ _ z => by cases z)) hr3)
      obtain ⟨a0, ha0, a00, a01⟩ := ba.at (j := 0) (by omega)
      -- cost = amounts[0] + sum(..)
      refine q_seq (q_set ?_)
      refine ⟨.ref D, rfl, D, _, _, _, rfl, rfl, sl (s9 _ _ hA8), at_z (j := 0) rfl ha0, .int k, rfl, (k : Int), rfl, by omega, by omega, fun E nE => lc_range (lo := 0) (n := k) (fun j H' => Same H2 H' ∧ ∃ ms : List Int, H' E = some (.lst (ms.map V.int)) ∧ ms.length = j ∧ Bd (-3) 3 ms)
        ⟨same_upd nE, [], upd_same, rfl, Bd.nil⟩ (fun j H' hj hP => ?_) (fun H10 hP => ?_)⟩
      · obtain ⟨s', ms, hE, hl, hb⟩ := hP
        obtain ⟨v1, hv1, v10, v11⟩ := bs.at (j := j) (by omega)
        obtain ⟨v2, hv2, v20, v21⟩ := bb.at (j := j) (by omega)
        refine ⟨rfl, .ref S, rfl, .int (0 + (j : Int)), rfl, S, _, _, _, rfl, rfl, sl (s' _ _ (s9 _ _ hS8)), at_z (Int.zero_add _) hv1, .ref r2, rfl, .int (0 + (j : Int)), rfl, r2, _, _, _, rfl, rfl, tl (s' _ _ hr9), at_z (Int.zero_add _) hv2, _, _, rfl, rfl, small_mul ⟨v10, v11⟩ (by decide) (by decide), _, hE, by rw [List.length_map]; exact small1000 (by omega), fun b o e => ?_, ms ++ [v1 * v2], ?_, ?_, hb.snoc (mul_bit ⟨v10, v11⟩ (by decide) (by decide) ⟨v20, v21⟩)⟩
        · rw [upd_ne (ne_of_none e nE)]
          exact s' _ _ e
        · rw [upd_same, List.map_append]
          rfl
        · rw [List.length_append, hl]
          rfl
      obtain ⟨s10, su, hE, lsu, bsu⟩ := hP
      refine ⟨E, su, rfl, sl hE, _, _, rfl, rfl, ?_⟩
      obtain ⟨z0, z1⟩ := bsu.sum (by decide) (by decide)
      rw [lsu] at z0 z1
      have hr10 := s10 _ _ hr9
      have hP10 := s10 _ _ (s9 _ _ hP)
      have c0 : -2000000 ≤ a0 + su.sum ∧ a0 + su.sum ≤ 2000000 := by omega
      dsimp only
      generalize a0 + su.sum = c at c0 ⊢
      -- if size > 1
      refine q_seqJ (fun σ H' => ∃ c : Int, σ = [some (.ref h), some (.int k), some (.int kd), some (.int wd), some (.ref pe), some (.ref r2), some (.ref D), some (.ref S), some (.int mo'), some (.ref Pp'), some (.ref Cc), some (.int c), none] ∧ H' = H10 ∧ -3000000 ≤ c ∧ c ≤ 3000000) (fun σ' H' hJ => ?_) (fun key => ?_)
      rotate_left
      · refine q_if ?_
        refine ⟨.int k, rfl, _, _, rfl, rfl, _, rfl, ?_⟩
        refine ite2 (fun e => ?_) (fun e => ?_)
        · have e' : (1 : Int) < k := of_decide_eq_true e
          obtain ⟨p0, hp0, p00, p01⟩ := bp.at (j := 0) (by omega)
          obtain ⟨v0, hv0, v00, v01⟩ := bb.at (j := 0) (by omega)
          obtain ⟨v1, hv1, v10, v11⟩ := bb.at (j := 1) (by omega)
          have m1' := mul_bit ⟨p00, p01⟩ (by decide) (by decide) ⟨v00, v01⟩
          have m2' := mul_bit m1' (by decide) (by decide) ⟨v10, v11⟩
          refine q_set ?_
          refine ⟨.int c, rfl, .ref Pp', rfl, Pp', _, _, _, rfl, rfl, sl hP10, at_z (j := 0) rfl hp0, .ref r2, rfl, r2, _, _, _, rfl, rfl, tl hr10, at_z (j := 0) rfl hv0, _, _, rfl, rfl, small_mul ⟨p00, p01⟩ (by decide) (by decide), .ref r2, rfl, r2, _, _, _, rfl, rfl, tl hr10, at_z (j := 1) rfl hv1, _, _, rfl, rfl, small_mul m1' (by decide) (by decide), _, _, rfl, rfl, ?_⟩
          exact key _ _ ⟨_, rfl, rfl, by omega, by omega⟩
        · refine q_next ?_
          exact key _ _ ⟨c, rfl, rfl, by omega, by omega⟩
      obtain ⟨c2, rfl, eH, c20, c21⟩ := hJ
      replace eH := eH.symm
      subst eH
      clear c0
      -- if size > 2
      refine q_seqJ (fun σ H' => ∃ c : Int, σ = [some (.ref h), some (.int k), some (.int kd), some (.int wd), some (.ref pe), some (.ref r2), some (.ref D), some (.ref S), some (.int mo'), some (.ref Pp'), some (.ref Cc), some (.int c), none] ∧ H' = H10 ∧ -4000000 ≤ c ∧ c ≤ 4000000) (fun σ' H' hJ => ?_) (fun key => ?_)
      rotate_left
      · refine q_if ?_
        refine ⟨.int k, rfl, _, _, rfl, rfl, _, rfl, ?_⟩
        refine ite2 (fun e => ?_) (fun e => ?_)
        · have e' : (2 : Int) < k := of_decide_eq_true e
          obtain ⟨p1, hp1, p10, p11⟩ := bp.at (j := 1) (by omega)
          obtain ⟨p2, hp2, p20, p21⟩ := bp.at (j := 2) (by omega)
          obtain ⟨v0, hv0, v00, v01⟩ := bb.at (j := 0) (by omega)
          obtain ⟨v1, hv1, v10, v11⟩ := bb.at (j := 1) (by omega)
          obtain ⟨v2, hv2, v20, v21⟩ := bb.at (j := 2) (by omega)
          have ma := mul_bit ⟨p10, p11⟩ (by decide) (by decide) ⟨v00, v01⟩
          have ma2 := mul_bit ma (by decide) (by decide) ⟨v20, v21⟩
          have mb' := mul_bit ⟨p20, p21⟩ (by decide) (by decide) ⟨v10, v11⟩
          have mb2 := mul_bit mb' (by decide) (by decide) ⟨v20, v21⟩
          have mc := mul_bit ⟨m0, m1⟩ (by decide) (by decide) ⟨v00, v01⟩
          have mc2 := mul_bit mc (by decide) (by decide) ⟨v10, v11⟩
          have mc3 := mul_bit mc2 (by decide) (by decide) ⟨v20, v21⟩
          refine q_set ?_
          refine ⟨.int c2, rfl, .ref Pp', rfl, Pp', _, _, _, rfl, rfl, sl hP10, at_z (j := 1) rfl hp1, .ref r2, rfl, r2, _, _, _, rfl, rfl, tl hr10, at_z (j := 0) rfl hv0, _, _, rfl, rfl, small_mul ⟨p10, p11⟩ (by decide) (by decide), .ref r2, rfl, r2, _, _, _, rfl, rfl, tl hr10, at_z (j := 2) rfl hv2, _, _, rfl, rfl, small_mul ma (by decide) (by decide), _, _, rfl, rfl, ?_⟩
          refine ⟨.ref Pp', rfl, Pp', _, _, _, rfl, rfl, sl hP10, at_z (j := 2) rfl hp2, .ref r2, rfl, r2, _, _, _, rfl, rfl, tl hr10, at_z (j := 1) rfl hv1, _, _, rfl, rfl, small_mul ⟨p20, p21⟩ (by decide) (by decide), .ref r2, rfl, r2, _, _, _, rfl, rfl, tl hr10, at_z (j := 2) rfl hv2, _, _, rfl, rfl, small_mul mb' (by decide) (by decide), _, _, rfl, rfl, ?_⟩
          refine ⟨.int mo', rfl, .ref r2, rfl, r2, _, _, _, rfl, rfl, tl hr10, at_z (j := 0) rfl hv0, _, _, rfl, rfl, small_mul ⟨m0, m1⟩ (by decide) (by decide), .ref r2, rfl, r2, _, _, _, rfl, rfl, tl hr10, at_z (j := 1) rfl hv1, _, _, rfl, rfl, small_mul mc (by decide) (by decide), .ref r2, rfl, r2, _, _, _, rfl, rfl, tl hr10, at_z (j := 2) rfl hv2, _, _, rfl, rfl, small_mul mc2 (by decide) (by decide), _, _, rfl, rfl, ?_⟩
          exact key _ _ ⟨_, rfl, rfl, by omega, by omega⟩
        · refine q_next ?_
          exact key _ _ ⟨c2, rfl, rfl, by omega, by omega⟩
      obtain ⟨c3, rfl, eH, c30, c31⟩ := hJ
      replace eH := eH.symm
      subst eH
      -- costs.append(cost)
      have hC10 := s10 _ _ hC
      refine ⟨.ref Cc, rfl, .inl ⟨rfl, _, .inl (.inl hC10)⟩, .int c3, rfl, Cc, _, _, rfl, rfl, hC10, by rw [List.length_map]; exact small1000 (by omega), ?_⟩
      refine ⟨_, _, cs ++ [c3], rfl, fun b o e => ?_, by rw [upd_same, List.map_append]; rfl, by rw [List.length_append, lc]; rfl, bc.snoc ⟨by omega, by omega⟩⟩
      rw [upd_ne (ne_of_none e nC)]
      exact s10 _ _ (s9 _ _ e)
    · obtain ⟨x', c, cs, rfl, s9, hC, lc, bc⟩ := hQ
      dsimp only
      rw [List.length_map, lr] at lc
      refine q_ret ?_
      exact ⟨.int k, rfl, .ref Cc, rfl, price_end q ((kp3.trans kp8).trans (Kp.of s9)) (hd8.same s9) hC lc bc⟩
end
end C3

namespace C3
open PySem PySem.Spec PyProof.Rows L2 Ek
section
variable {P : Program} {w : World} {K : PySem.W.Frag} {mg : Str → Option Value} {base : Heap}
theorem is_seq {H : Hp} {p : Addr} {v : V} (k : Kn H v) (np : H p = none) : ∃ t us, TyX K (upd H p (.tup [.ty "list", .ty "tuple"])) v t ∧ Paired ClsV [V.ty "list", .ty "tuple"] us ∧ PySem.W.kitAny K t us = some (isR v) := by
  have c2 : Paired ClsV [.ty "list", .ty "tuple"] [.type "list", .type "tuple"] := .cons (.ty _) (.cons (.ty _) .nil)
  have s1 := same_upd (o := .tup [.ty "list", .ty "tuple"]) np
  cases k.same s1 with
  | non => exact ⟨_, _, .base .non, c2, kitAny_cons (b := false) (kit_ty (by decide +kernel)) (fun _ => kitAny_cons (b := false) (r := false) (kit_ty (by decide +kernel)) (fun _ => kitAny_nil) (fun z => z)) (fun z => by cases z)⟩
  | bl b => exact ⟨_, _, .base (.bl _), c2, kitAny_cons (b := false) (kit_ty (by decide +kernel)) (fun _ => kitAny_cons (b := false) (r := false) (kit_ty (by decide +kernel)) (fun _ => kitAny_nil) (fun z => z)) (fun z => by cases z)⟩
  | int i => exact ⟨_, _, .base (.int _), c2, kitAny_cons (b := false) (kit_ty (by decide +kernel)) (fun _ => kitAny_cons (b := false) (r := false) (kit_ty (by decide +kernel)) (fun _ => kitAny_nil) (fun z => z)) (fun z => by cases z)⟩
  | str x => exact ⟨_, _, .base (.str _), c2, kitAny_cons (b := false) (kit_ty (by decide +kernel)) (fun _ => kitAny_cons (b := false) (r := false) (kit_ty (by decide +kernel)) (fun _ => kitAny_nil) (fun z => z)) (fun z => by cases z)⟩
  | lst e => exact ⟨_, _, .base (.lst e), c2, kitAny_cons (b := true) (kit_ty (by decide +kernel)) (fun z => by cases z) (fun _ => rfl)⟩
  | tup e => exact ⟨_, _, .base (.tup e), c2, kitAny_cons (b := false) (kit_ty (by decide +kernel)) (fun _ => kitAny_cons (b := true) (kit_ty (by decide +kernel)) (fun z => by cases z) (fun _ => rfl)) (fun z => by cases z)⟩
theorem mem_kn {H : Hp} {am : V} {xs : List V} (hA : Am H am) (m : Mem H am xs) : (∀ x ∈ xs, Kn H x) ∧ xs.length ≤ 100 := by
  cases hA with
  | flat k n =>
    obtain ⟨a, rfl, _⟩ := m
    cases n
  | lst e km z =>
    rw [mem_lst e m]
    exact ⟨km, z⟩
  | tup e km z =>
    rw [mem_tup e m]
    exact ⟨km, z⟩
theorem am_kn {H : Hp} {am : V} (hA : Am H am) : Kn H am := by
  cases hA with
  | flat k n => exact k
  | lst e km z => exact .lst e
  | tup e km z => exact .tup e
theorem am_mem {H : Hp} {am : V} (hA : Am H am) (r : isR am = true) : ∃ a xs, am = .ref a ∧ (H a = some (.lst xs) ∨ H a = some (.tup xs)) := by
  cases hA with
  | flat k n => rw [n] at r; cases r
  | @lst a xs e km z => exact ⟨a, xs, rfl, .inl e⟩
  | @tup a xs e km z => exact ⟨a, xs, rfl, .inr e⟩
theorem cat_A {H : Hp} {a b : Addr} {xs ys : List V} {Q : VK} (ha : H a = some (.tup xs)) (hb : H b = some (.tup ys)) (hz : xs.length + ys.length ≤ 1000) (k : ∀ t H', Same H H' → H' t = some (.tup (xs ++ ys)) → Q (.ref t) H') : rCatA K (.ref a) (.ref b) H Q := by
  refine ⟨a, b, xs, ys, rfl, rfl, tl ha, tl hb, Nat.le_of_lt (small1000 hz), fun z => ?_, fun _ z => ?_, fun _ _ p np => k p _ (same_upd np) upd_same⟩
  · subst z
    exact k b H (Same.refl H) hb
  · subst z
    exact k a H (Same.refl H) (by rw [List.append_nil]; exact ha)
theorem noPart {σ : L2.St} {H : Hp} {Q : Option Int → Hp → Prop} (h : Q none H) : tNoPart σ H Q := h
theorem sl_A {H : Hp} {a : Addr} {xs ys : List V} {lo hi : Option Int} {Q : VK} (ha : H a = some (.tup xs)) (e : cutV xs lo hi = ys) (k : ∀ t H', Same H H' → H' t = some (.tup ys) → Q (.ref t) H') : rSlA K (.ref a) lo hi H Q := by
  refine ⟨a, xs, rfl, tl ha, fun ⟨z1, z2⟩ => ?_, fun _ p np => k p _ (same_upd np) (by rw [upd_same, e])⟩
  refine k a H (Same.refl H) ?_
  rw [← e]
  unfold cutV
  rw [z1, z2, List.drop_zero, Nat.sub_zero, List.take_length]
  exact ha
theorem cut_lo1 (xs : List V) (n : Nat) : cutV xs (some ((n : Int) + 1)) none = xs.drop (n + 1) := cut_lo xs (n + 1)
theorem kn_int {i : Int} : ∀ H2, Kn H2 (.int i) := fun _ => .int i
theorem len_map {xs ms : List Int} (e : ms.map V.int = xs.map V.int) : ms.length = xs.length := by
  have z := congrArg List.length e
  rw [List.length_map, List.length_map] at z
  exact z
theorem sm_ints {ms : List Int} {lo hi : Int} (hb : Bd lo hi ms) (h1 : -1000000000 ≤ lo) (h2 : hi ≤ 1000000000) (hl : ms.length ≤ 9) : Sm 400 3 (.tuple (ms.map .int)) := by
  refine (Sm.tuple (n := 13) (k := 0) (ds := ms.map .int) fun d m => ?_).mono (by rw [List.length_map]; omega) (by decide)
  obtain ⟨x, mx, rfl⟩ := List.mem_map.mp m
  have z := hb x mx
  exact Sm.int (by omega)
theorem pow8 {k : Nat} (k3 : k ≤ 3) : 2 ^ k ≤ 8 := Nat.le_trans (Nat.pow_le_pow_right (by decide) k3) (by decide)
theorem Bd.mem {lo hi : Int} {ns ms : List Int} (h : Bd lo hi ns) (s : ∀ x ∈ ms, x ∈ ns) : Bd lo hi ms := fun x m => h x (s x m)
theorem tx_ints {ms : List Int} : Tx (.tuple (ms.map .int)) := Tx.tuple fun d m => by
  obtain ⟨x, _, rfl⟩ := List.mem_map.mp m
  exact Tx.int
/-- what the clauses of try tell of an error's class -/
structure Xe (K : PySem.W.Frag) (C pe : Addr) : Prop where
  te : PySem.W.exmOne K (.ref C) (.ref C) = some true
  kp : PySem.W.kitOne K (.ref C) (.ref pe) = some true
theorem lkv {v : V} : ([("value", v)] : List (Str × V)).lookup ("value" : Str) = some v := by simp [List.lookup]
theorem rows_num3 : ∀ k : Fin 4, ∀ i : Fin 8, ((rowsOf k.1)[i.1]?).all (fun bs => num bs == (i.1 : Int)) = true := by decide +kernel
theorem rows_num {k i : Nat} {bs : List Int} (k3 : k ≤ 3) (h : (rowsOf k)[i]? = some bs) : num bs = (i : Int) := by
  have hi : i < 8 := Nat.lt_of_lt_of_le (List.getElem?_eq_some_iff.mp h).1 (rows8 k3)
  have z := rows_num3 ⟨k, by omega⟩ ⟨i, hi⟩
  simp only at z
  rw [h] at z
  exact eq_of_beq z
theorem cost_row {k i : Nat} {bs ms : List Int} (k3 : k ≤ 3) (h : (rowsOf k)[i]? = some bs) (hl : ms.length = 2 ^ k) : (ms.map V.int)[i]? = some (.int (costL ms bs)) := by
  have hi : i < ms.length := by
    rw [hl, ← rows_len]
    exact (List.getElem?_eq_some_iff.mp h).1
  unfold costL
  rw [rows_num k3 h, Int.toNat_natCast, List.getElem?_map, List.getElem?_eq_getElem hi, List.getD_eq_getElem?_getD, List.getElem?_eq_getElem hi]
  rfl
theorem okd_int {lo hi i : Int} {ms : List Int} (hb : Bd (-1000000000) 1000000000 ms) (m : i ∈ ms) : Okd (.int i) := by
  have z := hb i m
  exact (Sm.int (by omega)).okd (by decide) (by decide)
theorem q_asg {D : Ends} {σ : L2.St} {H : Hp} {te : TE} {g : TG} (h : te σ H fun v H1 => g v σ H1 D.nx) : tAsg te g D σ H := h
theorem PrAt.kp {C h dr : Addr} {H H' : Hp} {p : Addr} {k : Nat} {ms : List Int} (hd : Hdd H h dr) (kp : Kp h H H') (x : PrAt C H p k ms) : PrAt C H' p k ms := by
  obtain ⟨dx, t, h1, h2, h3⟩ := x
  exact ⟨dx, t, kp _ _ (hd.ns h1 (fun _ _ z => by cases z)) h1, kp _ _ (hd.ns h2 (fun _ _ z => by cases z)) h2, h3⟩
theorem PrAt.updL {C l : Addr} {H : Hp} {p : Addr} {k : Nat} {ms : List Int} {xs : List V} {o : HO} (e : H l = some (.lst xs)) (x : PrAt C H p k ms) : PrAt C (upd H l o) p k ms := by
  obtain ⟨dx, t, h1, h2, h3⟩ := x
  exact ⟨dx, t, by rw [upd_ne (ne_of h1 e (by intro z; cases z))]; exact h1, by rw [upd_ne (ne_of h2 e (by intro z; cases z))]; exact h2, h3⟩
theorem made_same {H H' : Hp} {x dx C : Addr} (nx : H x = none) (ndx : H dx = none) (kk : ∀ b o, b ≠ x → (upd (upd H dx (.own x)) x (.ins C dx [])) b = some o → H' b = some o) : Same H H' := fun b o e => by
  refine kk b o (ne_of_none e nx) ?_
  rw [upd_ne (ne_of_none e nx), upd_ne (ne_of_none e ndx)]
  exact e
theorem made_am {H : Hp} {x dx C : Addr} (nx : H x = none) (ndx : H dx = none) : Same H (upd (upd H dx (.own x)) x (.ins C dx [])) := fun b o e => by
  rw [upd_ne (ne_of_none e nx), upd_ne (ne_of_none e ndx)]
  exact e
/-- a price is made of what is good -/
theorem pr_made {C : Addr} {H : Hp} {x dx : Addr} {am : V} {k : Nat} {ms : List Int} {R : Hp → Prop} (nx : H x = none) (ndx : H dx = none) (hA : Am H am) (k1 : 1 ≤ k) (k3 : k ≤ 3) (hl : ms.length = 2 ^ k) (m : Mem H am (ms.map V.int)) (q : ∀ H', Same H H' → PrAt C H' x k ms → R H') :
    spPI0 C [.ref x, .int k, am] (upd (upd H dx (.own x)) x (.ins C dx [])) (fun v H2 => v = .non ∧ R H2) E0 := by
  refine ⟨x, dx, .int k, am, k, ms, rfl, upd_same, hA.same (made_am nx ndx), ⟨rfl, k1, k3, hl, ?_⟩, fun H' kk pr => ⟨rfl, q H' (made_same nx ndx kk) pr⟩⟩
  obtain ⟨a, rfl, h⟩ := m
  exact ⟨a, rfl, h.imp (made_am nx ndx _ _) (made_am nx ndx _ _)⟩
end
end C3

namespace C3
open PySem PySem.Spec PyProof.Rows L2 Ek
section
variable {P : Program} {w : World} {K : PySem.W.Frag} {mg : Str → Option Value} {base : Heap}
def spPO (C : Addr) : Sp := fun vs H Q _ => ∃ (p : Addr) (k : Nat) (ms : List Int), vs = [.ref p] ∧ PrAt C H p k ms ∧ ∀ H' x, Same H H' → PrAt C H' x k ms.reverse → Q (.ref x) H'
theorem small_am {H : Hp} {l : Addr} {ms : List Int} {k : Nat} (k3 : k ≤ 3) (hl : ms.length = 2 ^ k) (e : H l = some (.lst (ms.map V.int)) ∨ H l = some (.tup (ms.map V.int))) : Am H (.ref l) := by
  have z := pow8 k3
  rcases e with e | e
  · exact .lst e kn_ints (by rw [List.length_map]; omega)
  · exact .tup e kn_ints (by rw [List.length_map]; omega)
theorem ok_PO {f fPI C : Addr} {fd fdPI : FuncData} (F : Fun K "opposite" "Price.opposite" sPO f fd) (T : Pc K mg C) (M : Mk K C fPI) (GPI : FnOk P w K mg base CX0 3 fPI fdPI ["self", "size", "amounts"] (spPI0 C)) (bPI : Binds K fdPI ["self", "size", "amounts"] []) : FnOk P w K mg base CX0 5 f fd ["self"] (spPO C) := by
  refine F.ok scPO (fun vs H Q E h => ?_) (fun cdv A outer s H vs Q E hr h => ?_)
  · obtain ⟨p, k, ms, rfl, _⟩ := h
    rfl
  · obtain ⟨p, k, ms, rfl, pr, q⟩ := h
    obtain ⟨dx, t, hp, ht, k1, k3, hl⟩ := id pr
    refine ⟨_, (pss_one (ps_ret (pe_make M GPI (hr.mono (by decide)) (by rfl) T.g bPI .nil pass0 (pa_cons (pe_fld (pv 0) rfl) (pa_cons (pe_revT (pe_fld (pv 0) rfl)) pa_nil))))), ?_⟩
    refine q_ret ?_
    refine ⟨.ref p, rfl, p, C, dx, _, .int k, rfl, hp, T.cl, T.nS, pf_size _ _, .ref p, rfl, p, C, dx, _, .ref t, rfl, hp, T.cl, T.nA, pf_am _ _, t, _, rfl, tl ht, fun r nr => fun x dx2 nx ndx _ => ?_⟩
    have e : (upd H r (.tup (ms.map V.int).reverse)) r = some (.tup (ms.reverse.map V.int)) := by rw [upd_same, List.map_reverse]
    have lr : ms.reverse.length = 2 ^ k := by rw [List.length_reverse]; exact hl
    exact pr_made nx ndx (small_am k3 lr (.inr e)) k1 k3 lr ⟨r, rfl, .inr e⟩ fun H' s' pr' => q H' x ((same_upd nr).trans s') pr'
def spPP (C CU : Addr) : Sp := fun vs H Q E => ∃ (p p2 : Addr) (k k2 : Nat) (ms ms2 : List Int), vs = [.ref p, .ref p2] ∧ PrAt C H p k ms ∧ PrAt C H p2 k2 ms2 ∧
  (k = k2 → ∀ H' x, Same H H' → PrAt C H' x k (List.zipWith (· + ·) ms ms2) → Q (.ref x) H') ∧ (k ≠ k2 → ∀ d H', Same H H' → H' d = some (.xd [("what", .str "size")]) → E (.ref CU) (some d) H')
theorem ok_PP {f fPI fX C CU : Addr} {fd fdPI fdX : FuncData} (F : Fun K "plus" "Price.plus" sPP f fd) (T : Pc K mg C) (e : Pe K C) (B : Bt mg) (XU : Xc K mg "Undefined" "what" CU) (M : Mk K C fPI) (GPI : FnOk P w K mg base CX0 3 fPI fdPI ["self", "size", "amounts"] (spPI0 C)) (bPI : Binds K fdPI ["self", "size", "amounts"] [])
    (XUi : PySem.W.findIn K (.ref CU) "__init__" = some (some (.ref fX))) (XUt : PySem.W.typeIn K (.ref fX) = some (.type "function")) (XUG : FnOk P w K mg base CX0 1 fX fdX ["self", "what"] (spXf K "what")) (XUb : Binds K fdX ["self", "what"] []) : FnOk P w K mg base (L2.CX P w) 5 f fd ["self", "other"] (spPP C CU) := by
  refine F.okX scPP (fun vs H Q E h => ?_) (fun cdv A outer s H vs Q E hr h => ?_)
  · obtain ⟨p, p2, k, k2, ms, ms2, rfl, _⟩ := h
    rfl
  · obtain ⟨p, p2, k, k2, ms, ms2, rfl, pr, pr2, q, qx⟩ := h
    obtain ⟨dx, t, hp, ht, k1, k3, hl⟩ := id pr
    obtain ⟨dx2, t2, hp2, ht2, k21, k23, hl2⟩ := id pr2
    refine ⟨_, (pss_cons (ps_if (PW.pt (pw_or (pt_not (pt_val (pe_callB call_isi (by rfl) B.isinstance (by decide +kernel) (pa_cons (pv 1) (pa_cons (pe_glob (v := .ref C) (by rfl) T.g rfl) pa_nil))))) (pw_or1 (pt_cmpR op_ne (pe_fld (pv 1) rfl) (pe_fld (pv 0) rfl) (nomark _)))))
      (pss_one (ps_raise rfl (takes_of rfl rfl rfl rfl) (pmk_oex (CX := CX0) XU.o XUi XUt XUG (hr.mono (by decide)) XUb .nil pass0 (by rfl) XU.g (pa_cons pe_str pa_nil)))) pss_nil)
      (pss_one (ps_ret (pe_make M GPI (hr.mono (by decide)) (by rfl) T.g bPI .nil pass0 (pa_cons (pe_fld (pv 0) rfl) (pa_cons (pe_lc (own := [("here", 2), ("there", 3)]) (tt := tYes) rfl scPP.nd (RZ.pi_zipA (by rfl) B.zip (pa_cons (pe_fld (pv 0) rfl) (pa_cons (pe_fld (pv 1) rfl) pa_nil))) (blkOk_by (N := NPP) (sc := defScope sPP) (by decide +kernel)) (fun _ _ _ _ _ => (pg_tupk (n := 2) K rfl rfl (pgs_cons (pg_name (i := 2) scPP.nd rfl (Or.inl rfl)) (pgs_cons (pg_name (i := 3) scPP.nd rfl (Or.inl rfl)) pgs_nil)))) (fun _ _ _ _ _ => pts_nil) (fun _ _ _ _ _ => (pe_op op_add (pv 2) (pv 3)))) pa_nil)))))), ?_⟩
    refine q_seq (q_if ?_)
    refine ⟨.ref p2, rfl, .ref p2, .ref C, _, _, true, rfl, .own C, .base (ty_pr T e pr2), kit_self, true, rfl, ?_⟩
    refine ⟨.ref p2, rfl, p2, C, dx2, _, .int k2, rfl, hp2, T.cl, T.nS, pf_size _ _, .ref p, rfl, p, C, dx, _, .int k, rfl, hp, T.cl, T.nS, pf_size _ _, rfl, _, rfl, ?_⟩
    by_cases ek : k = k2
    · subst ek
      rw [decide_eq_true rfl]
      refine q_next ?_
      dsimp only
      refine q_ret ?_
      refine ⟨.ref p, rfl, p, C, dx, _, .int k, rfl, hp, T.cl, T.nS, pf_size _ _, .ref p, rfl, p, C, dx, _, .ref t, rfl, hp, T.cl, T.nA, pf_am _ _, .ref p2, rfl, p2, C, dx2, _, .ref t2, rfl, hp2, T.cl, T.nA, pf_am _ _, t, t2, ms.map V.int, ms2.map V.int, rfl, .inr ⟨tl ht, tl ht2, fun D nD => ?_⟩⟩
      have lz : (List.zipWith (· + ·) ms ms2).length = 2 ^ k := by rw [List.length_zipWith, hl, hl2, Nat.min_self]
      refine ⟨fun i m H' => i + m = ms.length ∧ Same H H' ∧ ∃ ns : List Int, H' D = some (.lst (ns.map V.int)) ∧ ns = (List.zipWith (· + ·) ms ms2).take i, ⟨ms.length, by omega, same_upd nD, [], upd_same, by simp⟩, fun i m H' ⟨em, s', ns, hD, en⟩ => ?_⟩
      have hq := tl (K := K) (s' _ _ ht)
      have hq2 := tl (K := K) (s' _ _ ht2)
      by_cases lt : i < ms.length
      · have lt2 : i < ms2.length := by omega
        refine .inr ⟨⟨_, _, .int ms[i], .int ms2[i], hq, hq2, by rw [List.getElem?_map, List.getElem?_eq_getElem lt]; rfl, by rw [List.getElem?_map, List.getElem?_eq_getElem lt2]; rfl⟩, (fun H' => (i + 1) + (m - 1) = ms.length ∧ Same H H' ∧ ∃ ns : List Int, H' D = some (.lst (ns.map V.int)) ∧ ns = (List.zipWith (· + ·) ms ms2).take (i + 1)), fun H2 p' => ⟨m - 1, by omega, p'⟩, fun v H2 y => ?_⟩
        obtain ⟨TT, x1, y1, rfl, nT, rfl, gx, gy⟩ := y
        have ex := gx _ hq
        have ey := gy _ hq2
        rw [List.getElem?_map, List.getElem?_eq_getElem lt] at ex
        rw [List.getElem?_map, List.getElem?_eq_getElem lt2] at ey
        obtain rfl : V.int ms[i] = x1 := Option.some.inj ex
        obtain rfl : V.int ms2[i] = y1 := Option.some.inj ey
        refine ⟨TT, _, rfl, tl upd_same, rfl, _, _, rfl, _, _, rfl, rfl, ?_⟩
        have hD2 := same_upd (o := .tup [.int ms[i], .int ms2[i]]) nT _ _ hD
        refine ⟨rfl, .int ms[i], rfl, .int ms2[i], rfl, _, _, rfl, rfl, _, hD2, ?_, by omega, fun b o z => ?_, ns ++ [ms[i] + ms2[i]], ?_, ?_⟩
        · rw [List.length_map, en, List.length_take]
          have z := pow8 k3
          exact small1000 (Nat.le_trans (Nat.min_le_right _ _) (by omega))
        · rw [upd_ne (ne_of_none z nD)]
          exact same_upd nT _ _ (s' _ _ z)
        · rw [upd_same, List.map_append]
          rfl
        · rw [en, List.take_add_one, List.getElem?_zipWith, List.getElem?_eq_getElem lt, List.getElem?_eq_getElem lt2]
          rfl
      · refine .inl ⟨⟨_, _, hq, hq2, .inl (by rw [List.length_map]; omega)⟩, fun x dx3 nx ndx _ => ?_⟩
        have en2 : ns = List.zipWith (· + ·) ms ms2 := by
          rw [en, List.take_of_length_le (by rw [lz]; omega)]
        subst en2
        exact pr_made nx ndx (small_am k3 lz (.inl hD)) k1 k3 lz ⟨D, rfl, .inl hD⟩ fun H2 s2 pr' => q rfl H2 x (s'.trans s2) pr'
    · rw [decide_eq_false (fun z => ek (by have z' := V.int.inj z; omega))]
      refine ⟨by decide, raise_end XU.o XU.no fun d H' s' nd hd => qx ek d H' s' hd⟩
end
end C3

namespace C3
open PySem PySem.Spec PyProof.Rows L2 Ek
section
variable {P : Program} {w : World} {K : PySem.W.Frag} {mg : Str → Option Value} {base : Heap}
def spPT (C CN : Addr) : Sp := fun vs H Q E => ∃ (p : Addr) (k : Nat) (ms : List Int) (v : V), vs = [.ref p, v] ∧ PrAt C H p k ms ∧ Kn H v ∧
  (∀ m, v = .int m → 1 ≤ m → m ≤ 1000000 ∧ ∀ H' x, Same H H' → PrAt C H' x k (ms.map (m * ·)) → Q (.ref x) H') ∧ ((∀ m, v = .int m → m < 1) → ∀ d H', Same H H' → H' d = some (.xd [("value", v)]) → E (.ref CN) (some d) H')
theorem ok_PT {f fPI fN fII C CN : Addr} {fd fdPI fdN fdII : FuncData} (F : Fun K "times" "Price.times" sPT f fd) (T : Pc K mg C) (B : Bt mg) (XN : Xc K mg "InvalidNumber" "value" CN) (GII : FnOk P w K mg base CX0 1 fII fdII ["value"] spII) (kII : PySem.W.keepIn K (.ref fII) = true) (bII : Binds K fdII ["value"] []) (gII : mg "is_integer" = some (.ref fII)) (M : Mk K C fPI) (GPI : FnOk P w K mg base CX0 3 fPI fdPI ["self", "size", "amounts"] (spPI0 C)) (bPI : Binds K fdPI ["self", "size", "amounts"] [])
    (XNi : PySem.W.findIn K (.ref CN) "__init__" = some (some (.ref fN))) (XNt : PySem.W.typeIn K (.ref fN) = some (.type "function")) (XNG : FnOk P w K mg base CX0 1 fN fdN ["self", "value"] (spXf K "value")) (XNb : Binds K fdN ["self", "value"] []) : FnOk P w K mg base (L2.CX P w) 5 f fd ["self", "many"] (spPT C CN) := by
  refine F.okX scPT (fun vs H Q E h => ?_) (fun cdv A outer s H vs Q E hr h => ?_)
  · obtain ⟨p, k, ms, v, rfl, _⟩ := h
    rfl
  · obtain ⟨p, k, ms, v, rfl, pr, kn, q, qx⟩ := h
    obtain ⟨dx, t, hp, ht, k1, k3, hl⟩ := id pr
    have p8 := pow8 k3
    refine ⟨_, (pss_cons (ps_if (PW.pt (pw_or (pt_not (pt_val (pe_call GII (hr.mono (by decide)) (by rfl) gII kII bII .nil pass0 (pa_cons (pv 1) pa_nil)))) (pw_or1 (pt_cmpR op_lt (pv 1) pe_int (nomark _)))))
      (pss_one (ps_raise rfl (takes_of rfl rfl rfl rfl) (pmk_oex (CX := CX0) XN.o XNi XNt XNG (hr.mono (by decide)) XNb .nil pass0 (by rfl) XN.g (pa_cons (pv 1) pa_nil)))) pss_nil)
      (pss_one (ps_ret (pe_make M GPI (hr.mono (by decide)) (by rfl) T.g bPI .nil pass0 (pa_cons (pe_fld (pv 0) rfl) (pa_cons (pe_lc (own := [("amount", 2)]) (g := gName 2) (tt := tYes) rfl scPT.nd (pi_tup (pe_fld (pv 0) rfl)) (blkOk_by (N := NPT) (sc := defScope sPT) (by decide +kernel)) (fun _ _ _ _ _ => pg_name (i := 2) scPT.nd rfl (Or.inl rfl)) (fun _ _ _ _ _ => pts_nil) (fun _ _ _ _ _ => (pe_op op_mul (pv 1) (pv 2)))) pa_nil)))))), ?_⟩
    refine q_seq (q_if ?_)
    refine ⟨v, rfl, v, rfl, kn, isI v, rfl, ?_⟩
    cases ev : isI v with
    | false =>
      have no : ∀ m, v = .int m → m < 1 := fun m z => by rw [z] at ev; cases ev
      exact ⟨v, rfl, by show 1 ≤ 1000; decide, raise_end XN.o XN.no fun d H' s' nd hd => qx no d H' s' hd⟩
    | true =>
      obtain ⟨m, rfl⟩ : ∃ m, v = .int m := by
        cases v with
        | int m => exact ⟨m, rfl⟩
        | _ => cases ev
      refine ⟨.int m, rfl, _, _, rfl, rfl, _, rfl, ?_⟩
      by_cases l1 : m < 1
      · rw [decide_eq_true l1]
        exact ⟨.int m, rfl, by show 1 ≤ 1000; decide, raise_end XN.o XN.no fun d H' s' nd hd => qx (fun m' z => by have z' := V.int.inj z; omega) d H' s' hd⟩
      · rw [decide_eq_false l1]
        obtain ⟨m9, q⟩ := q m rfl (by omega)
        refine q_next ?_
        dsimp only
        refine q_ret ?_
        refine ⟨.ref p, rfl, p, C, dx, _, .int k, rfl, hp, T.cl, T.nS, pf_size _ _, .ref p, rfl, p, C, dx, _, .ref t, rfl, hp, T.cl, T.nA, pf_am _ _, t, rfl, ⟨_, tl ht⟩, fun D nD => lc_tup (K := K) (a := t) (xs := ms.map V.int) (fun i H' => Same H H' ∧ H' D = some (.lst (((ms.take i).map (m * ·)).map V.int))) ⟨same_upd nD, by rw [upd_same, List.take_zero]; rfl⟩ (fun i H' _ hP => tl (hP.1 _ _ ht)) (fun i x H' hx hP => ?_) (fun H' hP => ?_)⟩
        · obtain ⟨s', hD⟩ := hP
          obtain ⟨a, ea, rfl⟩ : ∃ a, ms[i]? = some a ∧ x = .int a := by
            rw [List.getElem?_map] at hx
            cases e : ms[i]? with
            | none => rw [e] at hx; cases hx
            | some a => rw [e] at hx; exact ⟨a, rfl, (Option.some.inj hx).symm⟩
          refine ⟨rfl, .int m, rfl, .int a, rfl, _, _, rfl, rfl, .inl ⟨Int.lt_of_lt_of_le (by decide) (show 1 ≤ m by omega), Int.lt_of_le_of_lt m9 (by decide)⟩, _, hD, ?_, fun b o z => ?_, ?_⟩
          · rw [List.length_map, List.length_map, List.length_take]
            exact small1000 (Nat.le_trans (Nat.min_le_right _ _) (by omega))
          · rw [upd_ne (ne_of_none z nD)]
            exact s' _ _ z
          · rw [upd_same, List.take_add_one, ea, List.map_append, List.map_append]
            rfl
        · obtain ⟨s', hD⟩ := hP
          rw [List.length_map, List.take_length] at hD
          have lm : (ms.map (m * ·)).length = 2 ^ k := by rw [List.length_map]; exact hl
          exact fun x dx2 nx ndx _ => pr_made nx ndx (small_am k3 lm (.inl hD)) k1 k3 lm ⟨D, rfl, .inl hD⟩ fun H2 s2 pr' => q H2 x (s'.trans s2) pr'
/-- the row with b put in at place i -/
def putB (r : List Int) (i : Nat) (b : Int) : List Int := r.take i ++ [b] ++ r.drop i
def spPF (C CN CU : Addr) : Sp := fun vs H Q E => ∃ (p : Addr) (k : Nat) (ms : List Int) (yp yv : V), vs = [.ref p, yp, yv] ∧ PrAt C H p k ms ∧ Kn H yp ∧ Kn H yv ∧
  (isB k yp = false → ∀ d H', Same H H' → H' d = some (.xd [("value", yp)]) → E (.ref CN) (some d) H') ∧
  (isB k yp = true → isB 2 yv = false → ∀ d H', Same H H' → H' d = some (.xd [("value", yv)]) → E (.ref CN) (some d) H') ∧
  (isB k yp = true → isB 2 yv = true → k = 1 → ∀ d H', Same H H' → H' d = some (.xd [("what", .str "size")]) → E (.ref CU) (some d) H') ∧
  (∀ (i n : Nat) (b : Int), yp = .int i → i < k → yv = .int b → (b = 0 ∨ b = 1) → k = n + 1 → 1 ≤ n → ∀ H' x, Same H H' → PrAt C H' x n ((rowsOf n).map fun r => costL ms (putB r i b)) → Q (.ref x) H')
theorem put_ok {r : List Int} {i n : Nat} {b : Int} (hr : Bits r) (hl : r.length = n) (hi : i ≤ n) (hb : b = 0 ∨ b = 1) : Bits (putB r i b) ∧ (putB r i b).length = n + 1 := by
  refine ⟨fun x m => ?_, ?_⟩
  · rcases List.mem_append.mp m with m | m
    · rcases List.mem_append.mp m with m | m
      · exact hr x (List.mem_of_mem_take m)
      · rw [List.mem_singleton.mp m]
        exact hb
    · exact hr x (List.mem_of_mem_drop m)
  · unfold putB
    rw [List.length_append, List.length_append, List.length_take, List.length_drop, List.length_cons, List.length_nil]
    omega
theorem ok_PF {f fPI fN fU fIB fIV fRO fPC C CN CU : Addr} {fd fdPI fdN fdU fdIB fdIV fdRO fdPC : FuncData} (F : Fun K "fixed" "Price.fixed" sPF f fd) (T : Pc K mg C) (B : Bt mg) (XN : Xc K mg "InvalidNumber" "value" CN) (XU : Xc K mg "Undefined" "what" CU) (GIB : FnOk P w K mg base CX0 2 fIB fdIB ["value", "limit"] spIB) (kIB : PySem.W.keepIn K (.ref fIB) = true) (bIB : Binds K fdIB ["value", "limit"] []) (gIB : mg "is_number_below" = some (.ref fIB)) (GIV : FnOk P w K mg base CX0 3 fIV fdIV ["value"] spIV) (kIV : PySem.W.keepIn K (.ref fIV) = true) (bIV : Binds K fdIV ["value"] []) (gIV : mg "is_value" = some (.ref fIV)) (GRO : FnOk P w K mg base CX0 1 fRO fdRO ["size"] spRO) (kRO : PySem.W.keepIn K (.ref fRO) = true) (bRO : Binds K fdRO ["size"] []) (gRO : mg "rows_of" = some (.ref fRO)) (GPC : FnOk P w K mg base CX0 5 fPC fdPC ["self", "row"] (spPC0 C)) (kPC : PySem.W.keepIn K (.ref fPC) = true) (bPC : Binds K fdPC ["self", "row"] []) (mPC : Meth K C "cost" fPC) (M : Mk K C fPI) (GPI : FnOk P w K mg base CX0 3 fPI fdPI ["self", "size", "amounts"] (spPI0 C)) (bPI : Binds K fdPI ["self", "size", "amounts"] [])
    (XNi : PySem.W.findIn K (.ref CN) "__init__" = some (some (.ref fN))) (XNt : PySem.W.typeIn K (.ref fN) = some (.type "function")) (XNG : FnOk P w K mg base CX0 1 fN fdN ["self", "value"] (spXf K "value")) (XNb : Binds K fdN ["self", "value"] []) (XUi : PySem.W.findIn K (.ref CU) "__init__" = some (some (.ref fU))) (XUt : PySem.W.typeIn K (.ref fU) = some (.type "function")) (XUG : FnOk P w K mg base CX0 1 fU fdU ["self", "what"] (spXf K "what")) (XUb : Binds K fdU ["self", "what"] []) : FnOk P w K mg base (L2.CX P w) 6 f fd ["self", "place", "value"] (spPF C CN CU) := by
  refine F.okX scPF (fun vs H Q E h => ?_) (fun cdv A outer s H vs Q E hr h => ?_)
  · obtain ⟨p, k, ms, yp, yv, rfl, _⟩ := h
    rfl
  · obtain ⟨p, k, ms, yp, yv, rfl, pr, knp, knv, q1, q2, q3, q⟩ := h
    obtain ⟨dx, t, hp, ht, k1, k3, hl⟩ := id pr
    refine ⟨_, (pss_cons (ps_if (pt_not (pt_val (pe_call GIB (hr.mono (by decide)) (by rfl) gIB kIB bIB .nil pass0 (pa_cons (pv 1) (pa_cons (pe_fld (pv 0) rfl) pa_nil)))))
      (pss_one (ps_raise rfl (takes_of rfl rfl rfl rfl) (pmk_oex (CX := CX0) XN.o XNi XNt XNG (hr.mono (by decide)) XNb .nil pass0 (by rfl) XN.g (pa_cons (pv 1) pa_nil)))) pss_nil)
      (pss_cons (ps_if (pt_not (pt_val (pe_call GIV (hr.mono (by decide)) (by rfl) gIV kIV bIV .nil pass0 (pa_cons (pv 2) pa_nil))))
      (pss_one (ps_raise rfl (takes_of rfl rfl rfl rfl) (pmk_oex (CX := CX0) XN.o XNi XNt XNG (hr.mono (by decide)) XNb .nil pass0 (by rfl) XN.g (pa_cons (pv 2) pa_nil)))) pss_nil)
      (pss_cons (ps_if (pt_cmpR op_eq (pe_fld (pv 0) rfl) pe_int (nomark _))
      (pss_one (ps_raise rfl (takes_of rfl rfl rfl rfl) (pmk_oex (CX := CX0) XU.o XUi XUt XUG (hr.mono (by decide)) XUb .nil pass0 (by rfl) XU.g (pa_cons pe_str pa_nil)))) pss_nil)
      (pss_cons (ps_set (i := 3) scPF.nd rfl (.inl rfl) (pe_op op_sub (pe_fld (pv 0) rfl) pe_int))
      (pss_one (ps_ret (pe_make M GPI (hr.mono (by decide)) (by rfl) T.g bPI .nil pass0 (pa_cons (pv 3) (pa_cons (pe_lc (own := [("row", 4)]) (g := gName 4) (tt := tYes) rfl scPF.nd (pi_tup (pe_call GRO (hr.mono (by decide)) (by rfl) gRO kRO bRO .nil pass0 (pa_cons (pv 3) pa_nil))) (blkOk_by (N := NPF) (sc := defScope sPF) (by decide +kernel)) (fun _ _ _ _ _ => pg_name (i := 4) scPF.nd rfl (Or.inl rfl)) (fun _ _ _ _ _ => pts_nil) (fun _ _ _ _ _ => (pe_meth (pv 0) T.cl mPC GPC (hr.mono (by decide)) bPC .nil pass0 (pa_cons (pe_op (op_catAk K rfl) (pe_op (op_catAk K rfl) (pe_slice (sl_tupk K rfl) (pv 4) po_none (po_some (pv 1))) (pe_tup (pa_cons (pv 2) pa_nil))) (pe_slice (sl_tupk K rfl) (pv 4) (po_some (pv 1)) po_none)) pa_nil)))) pa_nil))))))))), ?_⟩
    refine q_seq (q_if ?_)
    refine ⟨yp, rfl, .ref p, rfl, p, C, dx, _, .int k, rfl, hp, T.cl, T.nS, pf_size _ _, yp, k, rfl, knp, isB k yp, rfl, ?_⟩
    cases ep : isB k yp with
    | false => exact ⟨yp, rfl, by show 1 ≤ 1000; decide, raise_end XN.o XN.no fun d H' s' nd hd => q1 ep d H' s' hd⟩
    | true =>
      refine q_next ?_
      dsimp only
      refine q_seq (q_if ?_)
      refine ⟨yv, rfl, yv, rfl, knv, isB 2 yv, rfl, ?_⟩
      cases ev : isB 2 yv with
      | false => exact ⟨yv, rfl, by show 1 ≤ 1000; decide, raise_end XN.o XN.no fun d H' s' nd hd => q2 ep ev d H' s' hd⟩
      | true =>
        refine q_next ?_
        dsimp only
        refine q_seq (q_if ?_)
        refine ⟨.ref p, rfl, p, C, dx, _, .int k, rfl, hp, T.cl, T.nS, pf_size _ _, rfl, _, rfl, ?_⟩
        by_cases ek : k = 1
        · rw [decide_eq_true (by rw [ek]; rfl)]
          exact ⟨by show 1 ≤ 1000; decide, raise_end XU.o XU.no fun d H' s' nd hd => q3 ep ev ek d H' s' hd⟩
        rw [decide_eq_false (fun z => ek (by have z' := V.int.inj z; omega))]
        obtain ⟨n, rfl⟩ : ∃ n, k = n + 1 := ⟨k - 1, by omega⟩
        obtain ⟨i, rfl, hi⟩ : ∃ i : Nat, yp = .int i ∧ i < n + 1 := by
          cases yp with
          | int z =>
            have z' : (decide (0 ≤ z) && decide (z < ((n + 1 : Nat) : Int))) = true := ep
            rw [Bool.and_eq_true, decide_eq_true_iff, decide_eq_true_iff] at z'
            exact ⟨z.toNat, by rw [show ((z.toNat : Nat) : Int) = z by omega], by omega⟩
          | _ => cases ep
        obtain ⟨b, rfl, hb⟩ : ∃ b : Int, yv = .int b ∧ (b = 0 ∨ b = 1) := by
          cases yv with
          | int z =>
            have z' : (decide (0 ≤ z) && decide (z < 2)) = true := ev
            rw [Bool.and_eq_true, decide_eq_true_iff, decide_eq_true_iff] at z'
            exact ⟨z, rfl, by omega⟩
          | _ => cases ev
        refine q_next ?_
        dsimp only
        refine q_seq (q_set ?_)
        refine ⟨.ref p, rfl, p, C, dx, _, .int ((n + 1 : Nat) : Int), rfl, hp, T.cl, T.nS, pf_size _ _, _, _, rfl, rfl, ?_⟩
        dsimp only
        rw [show ((n + 1 : Nat) : Int) - 1 = (n : Int) by omega]
        refine q_ret ?_
        refine ⟨.int n, rfl, .int n, rfl, n, rfl, by omega, fun H1 p1 rs s1 np1 h1 rw1 => ?_⟩
        refine ⟨p1, rfl, ⟨_, tl h1⟩, fun D nD => lc_tup (K := K) (a := p1) (xs := rs.map V.ref) (fun j H' => Same H1 H' ∧ H' D = some (.lst ((((rowsOf n).take j).map fun r => costL ms (putB r i b)).map V.int))) ⟨same_upd nD, by rw [upd_same, List.take_zero]; rfl⟩ (fun j H' _ hP => tl (hP.1 _ _ h1)) (fun j x H2 hx hP => ?_) (fun H2 hP => ?_)⟩
        · obtain ⟨s2, hD⟩ := hP
          obtain ⟨r, bs, rfl, hbs, hr1⟩ := rws_at rw1 hx
          have mb := List.mem_of_getElem? hbs
          have lb := row_len n bs mb
          have lbV : (bs.map V.int).length = n := by rw [List.length_map, lb]
          obtain ⟨pb, pl⟩ := put_ok (bits_rows n bs mb) lb (show i ≤ n by omega) hb
          have hr2 := s2 _ _ hr1
          refine ⟨rfl, .ref p, rfl, p, dx, _, rfl, s2 _ _ (s1 _ _ hp), pf_no (by decide +kernel) (by decide +kernel), .ref r, rfl, .int i, rfl, _, rfl, ?_⟩
          refine sl_A hr2 (cut_hi _ i) fun u1 G1 g1 f1 => ?_
          refine ⟨.int b, rfl, by show 1 ≤ sizeLine; decide, fun u2 nu2 => ?_⟩
          refine cat_A (same_upd nu2 _ _ f1) upd_same (by rw [List.length_take, lbV]; show _ + 1 ≤ _; omega) fun u3 G3 g3 f3 => ?_
          have g13 := g1.trans ((same_upd (o := .tup [.int b]) nu2).trans g3)
          refine ⟨.ref r, rfl, .int i, rfl, _, rfl, ?_⟩
          refine noPart ?_
          refine sl_A (g13 _ _ hr2) (cut_lo _ i) fun u4 G4 g4 f4 => ?_
          refine cat_A (g4 _ _ f3) f4 (by rw [List.length_append, List.length_take, List.length_drop, lbV, List.length_cons, List.length_nil]; omega) fun u5 G5 g5 f5 => ?_
          have gA := g13.trans (g4.trans g5)
          have f5' : G5 u5 = some (.tup ((putB bs i b).map V.int)) := by
            rw [f5]
            unfold putB
            rw [List.map_append, List.map_append, List.map_take, List.map_drop]
            rfl
          refine ⟨p, u5, n + 1, ms, putB bs i b, rfl, pr.same (s1.trans (s2.trans gA)), f5', pb, pl, fun H6 s6 => ?_⟩
          have sB := gA.trans s6
          refine ⟨_, sB _ _ hD, ?_, fun c o z => ?_, ?_⟩
          · rw [List.length_map, List.length_map, List.length_take]
            exact small1000 (Nat.le_trans (Nat.min_le_right _ _) (Nat.le_trans (rows8 (show n ≤ 3 by omega)) (by decide)))
          · rw [upd_ne (ne_of_none z nD)]
            exact sB _ _ (s2 _ _ z)
          · rw [upd_same, List.take_add_one, hbs, List.map_append, List.map_append]
            rfl
        · obtain ⟨s2, hD⟩ := hP
          rw [List.length_map, paired_len rw1, List.take_length] at hD
          have lm : ((rowsOf n).map fun r => costL ms (putB r i b)).length = 2 ^ n := by rw [List.length_map, rows_len]
          exact fun x dx2 nx ndx _ => pr_made nx ndx (small_am (by omega) lm (.inl hD)) (by omega) (by omega) lm ⟨D, rfl, .inl hD⟩ fun H3 s3 pr' => q i n b rfl hi rfl hb rfl (by omega) H3 x (s1.trans (s2.trans s3)) pr'
end
end C3

namespace C3
open PySem PySem.Spec PyProof.Rows L2 Ek
section
variable {P : Program} {w : World} {K : PySem.W.Frag} {mg : Str → Option Value} {base : Heap}
def plB (k n : Nat) (xs : List V) : Bool := decide (xs.length = k) && xs.all (isB n)
def nV (ps : List Nat) : List V := ps.map fun (i : Nat) => V.int (i : Int)
theorem plB_good {k n : Nat} : ∀ {xs : List V}, xs.all (isB n) = true → ∃ ps : List Nat, xs = nV ps ∧ ∀ i ∈ ps, i < n
  | [], _ => ⟨[], rfl, fun _ m => by cases m⟩
  | x :: xs, h => by
    rw [List.all_cons, Bool.and_eq_true] at h
    obtain ⟨ps, rfl, hp⟩ := plB_good (k := k) h.2
    cases x with
    | int i =>
      have z : (decide (0 ≤ i) && decide (i < (n : Int))) = true := h.1
      rw [Bool.and_eq_true, decide_eq_true_iff, decide_eq_true_iff] at z
      refine ⟨i.toNat :: ps, by show V.int i :: nV ps = V.int ((i.toNat : Nat) : Int) :: nV ps; rw [show ((i.toNat : Nat) : Int) = i by omega], fun j m => ?_⟩
      rcases List.mem_cons.mp m with rfl | m
      · omega
      · exact hp j m
    | _ => exact absurd h.1 (by simp [isB])
def spAP : Sp := fun vs H Q _ => ∃ (v : V) (k n : Nat), vs = [v, .int k, .int n] ∧ k ≤ 3 ∧ Am H v ∧ ∀ H', Same H H' → (isR v = false → Q (.bl false) H') ∧ ∀ xs, Mem H v xs → Q (.bl (plB k n xs)) H'
theorem ok_AP {f fIQ fIB : Addr} {fd fdIQ fdIB : FuncData} (F : Fun K "_are_places" "_are_places" sAP f fd) (B : Bt mg) (GIQ : FnOk P w K mg base CX0 1 fIQ fdIQ ["value"] spIQ) (kIQ : PySem.W.keepIn K (.ref fIQ) = true) (bIQ : Binds K fdIQ ["value"] []) (gIQ : mg "is_sequence" = some (.ref fIQ)) (GIB : FnOk P w K mg base CX0 2 fIB fdIB ["value", "limit"] spIB) (kIB : PySem.W.keepIn K (.ref fIB) = true) (bIB : Binds K fdIB ["value", "limit"] []) (gIB : mg "is_number_below" = some (.ref fIB)) : FnOk P w K mg base CX0 3 f fd ["value", "count", "size"] spAP := by
  refine F.ok scAP (fun vs H Q E h => ?_) (fun cdv A outer s H vs Q E hr h => ?_)
  · obtain ⟨v, k, n, rfl, _⟩ := h
    rfl
  · obtain ⟨v, k, n, rfl, hk, am, q⟩ := h
    cases am with
    | flat kn n =>
      refine ⟨_, (pss_one (ps_ret (pe_and (pe_call GIQ (hr.mono (by decide)) (by rfl) gIQ kIQ bIQ .nil pass0 (pa_cons (pv 0) pa_nil)) (pe_and (pe_cmpR op_eq (pe_callB call_len_seq (by rfl) B.len PySem.boot_len (pa_cons (pv 0) pa_nil)) (pv 1) (nomark _)) (pe_one (pe_callB (cr_all rfl) (by rfl) B.all (by decide +kernel) (pa_cons (pe_lc (own := [("place", 3)]) (g := gName 3) (tt := tYes) rfl scAP.nd (pi_tup (pv 0)) (blkOk_by (N := NAP) (sc := defScope sAP) (by decide +kernel)) (fun _ _ _ _ _ => pg_name (i := 3) scAP.nd rfl (Or.inl rfl)) (fun _ _ _ _ _ => pts_nil) (fun _ _ _ _ _ => (pe_call GIB (hr.mono (by decide)) (by rfl) gIB kIB bIB .nil pass0 (pa_cons (pv 3) (pa_cons (pv 2) pa_nil))))) pa_nil))))))), ?_⟩
      refine q_ret ⟨_, rfl, v, rfl, kn, fun H1 s1 => ⟨_, rfl, ?_⟩⟩
      rw [n]
      exact (q H1 s1).1 n
    | @lst a xs e km z =>
      refine ⟨_, (pss_one (ps_ret (pe_and (pe_call GIQ (hr.mono (by decide)) (by rfl) gIQ kIQ bIQ .nil pass0 (pa_cons (pv 0) pa_nil)) (pe_and (pe_cmpR op_eq (pe_callB call_len_seq (by rfl) B.len PySem.boot_len (pa_cons (pv 0) pa_nil)) (pv 1) (nomark _)) (pe_one (pe_callB (cr_all rfl) (by rfl) B.all (by decide +kernel) (pa_cons (pe_lc (own := [("place", 3)]) (g := gName 3) (tt := tYes) rfl scAP.nd (pi_list (pv 0)) (blkOk_by (N := NAP) (sc := defScope sAP) (by decide +kernel)) (fun _ _ _ _ _ => pg_name (i := 3) scAP.nd rfl (Or.inl rfl)) (fun _ _ _ _ _ => pts_nil) (fun _ _ _ _ _ => (pe_call GIB (hr.mono (by decide)) (by rfl) gIB kIB bIB .nil pass0 (pa_cons (pv 3) (pa_cons (pv 2) pa_nil))))) pa_nil))))))), ?_⟩
      refine q_ret ⟨_, rfl, .ref a, rfl, .lst e, fun H1 s1 => ⟨true, rfl, ?_⟩⟩
      have e1 := s1 _ _ e
      refine ⟨_, rfl, a, xs, rfl, .inl (sl e1), .int k, rfl, rfl, _, rfl, ?_⟩
      dsimp only
      by_cases hn : xs.length = k
      · rw [decide_eq_true (show V.int (xs.length : Int) = V.int (k : Int) by rw [hn])]
        refine ⟨.ref a, rfl, a, rfl, ⟨_, sl e1⟩, fun D nD => lc_list (K := K) (a := a) (xs := xs) (fun i H' => Same H1 H' ∧ H' D = some (.lst (((xs.take i).map (isB n)).map V.bl))) ⟨same_upd nD, upd_same⟩ (fun i H' _ hP => sl (hP.1 _ _ e1)) (fun i x H' hx hP => ?_) (fun H' hP => ?_)⟩
        · obtain ⟨s', hD⟩ := hP
          refine ⟨rfl, _, rfl, .int n, rfl, x, n, rfl, ((km x (List.mem_of_getElem? hx)).same s1).same s', _, hD, ?_, fun b o z => ?_, ?_⟩
          · rw [List.length_map, List.length_map, List.length_take]
            exact small1000 (Nat.le_trans (Nat.min_le_right _ _) (by omega))
          · rw [upd_ne (ne_of_none z nD)]
            exact s' _ _ z
          · rw [upd_same, List.take_add_one, hx, List.map_append, List.map_append]
            rfl
        · obtain ⟨s', hD⟩ := hP
          rw [List.take_length] at hD
          refine ⟨D, xs.map (isB n), rfl, sl hD, ?_⟩
          have z := (q H' (s1.trans s')).2 xs ⟨a, rfl, .inl e⟩
          have er : plB k n xs = xs.all (isB n) := by
            unfold plB
            rw [decide_eq_true hn, Bool.true_and]
          have e2 : (xs.map (isB n)).all id = xs.all (isB n) := by
            rw [List.all_map]
            rfl
          rw [e2, ← er]
          exact z
      · rw [decide_eq_false (show ¬ V.int (xs.length : Int) = V.int (k : Int) from fun z => hn (by have z' := V.int.inj z; omega))]
        have er : plB k n xs = false := by
          unfold plB
          rw [decide_eq_false hn, Bool.false_and]
        have z := (q H1 s1).2 xs ⟨a, rfl, .inl e⟩
        rw [er] at z
        exact z
    | @tup a xs e km z =>
      refine ⟨_, (pss_one (ps_ret (pe_and (pe_call GIQ (hr.mono (by decide)) (by rfl) gIQ kIQ bIQ .nil pass0 (pa_cons (pv 0) pa_nil)) (pe_and (pe_cmpR op_eq (pe_callB call_len_seq (by rfl) B.len PySem.boot_len (pa_cons (pv 0) pa_nil)) (pv 1) (nomark _)) (pe_one (pe_callB (cr_all rfl) (by rfl) B.all (by decide +kernel) (pa_cons (pe_lc (own := [("place", 3)]) (g := gName 3) (tt := tYes) rfl scAP.nd (pi_tup (pv 0)) (blkOk_by (N := NAP) (sc := defScope sAP) (by decide +kernel)) (fun _ _ _ _ _ => pg_name (i := 3) scAP.nd rfl (Or.inl rfl)) (fun _ _ _ _ _ => pts_nil) (fun _ _ _ _ _ => (pe_call GIB (hr.mono (by decide)) (by rfl) gIB kIB bIB .nil pass0 (pa_cons (pv 3) (pa_cons (pv 2) pa_nil))))) pa_nil))))))), ?_⟩
      refine q_ret ⟨_, rfl, .ref a, rfl, .tup e, fun H1 s1 => ⟨true, rfl, ?_⟩⟩
      have e1 := s1 _ _ e
      refine ⟨_, rfl, a, xs, rfl, .inr (tl e1), .int k, rfl, rfl, _, rfl, ?_⟩
      dsimp only
      by_cases hn : xs.length = k
      · rw [decide_eq_true (show V.int (xs.length : Int) = V.int (k : Int) by rw [hn])]
        refine ⟨.ref a, rfl, a, rfl, ⟨_, tl e1⟩, fun D nD => lc_tup (K := K) (a := a) (xs := xs) (fun i H' => Same H1 H' ∧ H' D = some (.lst (((xs.take i).map (isB n)).map V.bl))) ⟨same_upd nD, upd_same⟩ (fun i H' _ hP => tl (hP.1 _ _ e1)) (fun i x H' hx hP => ?_) (fun H' hP => ?_)⟩
        · obtain ⟨s', hD⟩ := hP
          refine ⟨rfl, _, rfl, .int n, rfl, x, n, rfl, ((km x (List.mem_of_getElem? hx)).same s1).same s', _, hD, ?_, fun b o z => ?_, ?_⟩
          · rw [List.length_map, List.length_map, List.length_take]
            exact small1000 (Nat.le_trans (Nat.min_le_right _ _) (by omega))
          · rw [upd_ne (ne_of_none z nD)]
            exact s' _ _ z
          · rw [upd_same, List.take_add_one, hx, List.map_append, List.map_append]
            rfl
        · obtain ⟨s', hD⟩ := hP
          rw [List.take_length] at hD
          refine ⟨D, xs.map (isB n), rfl, sl hD, ?_⟩
          have z := (q H' (s1.trans s')).2 xs ⟨a, rfl, .inr e⟩
          have er : plB k n xs = xs.all (isB n) := by
            unfold plB
            rw [decide_eq_true hn, Bool.true_and]
          have e2 : (xs.map (isB n)).all id = xs.all (isB n) := by
            rw [List.all_map]
            rfl
          rw [e2, ← er]
          exact z
      · rw [decide_eq_false (show ¬ V.int (xs.length : Int) = V.int (k : Int) from fun z => hn (by have z' := V.int.inj z; omega))]
        have er : plB k n xs = false := by
          unfold plB
          rw [decide_eq_false hn, Bool.false_and]
        have z := (q H1 s1).2 xs ⟨a, rfl, .inr e⟩
        rw [er] at z
        exact z
/-- the values of r at the places -/
def atPl (ps : List Nat) (r : List Int) : List Int := ps.map fun i => r.getD i 0
theorem at_ok {ps : List Nat} {r : List Int} {k n : Nat} (hp : ∀ i ∈ ps, i < n) (hl : ps.length = k) (hr : Bits r) (lr : r.length = n) : Bits (atPl ps r) ∧ (atPl ps r).length = k := by
  refine ⟨fun x m => ?_, by unfold atPl; rw [List.length_map]; exact hl⟩
  obtain ⟨i, mi, rfl⟩ := List.mem_map.mp m
  have lt := hp i mi
  rw [List.getD_eq_getElem?_getD, List.getElem?_eq_getElem (show i < r.length by omega)]
  exact hr _ (List.getElem_mem _)
def spPX (C CN : Addr) : Sp := fun vs H Q E => ∃ (p : Addr) (k : Nat) (ms : List Int) (pl sz : V), vs = [.ref p, pl, sz] ∧ PrAt C H p k ms ∧ Am H pl ∧ Kn H sz ∧
  (isZ sz = false → ∀ d H', Same H H' → H' d = some (.xd [("value", sz)]) → E (.ref CN) (some d) H') ∧
  (∀ n : Nat, sz = .int n → 1 ≤ n → n ≤ 3 → (∀ ps : List Nat, Mem H pl (nV ps) → ps.length = k → (∀ i ∈ ps, i < n) → False) → ∀ d H', Same H H' → H' d = some (.xd [("value", pl)]) → E (.ref CN) (some d) H') ∧
  (∀ (n : Nat) (ps : List Nat), sz = .int n → 1 ≤ n → n ≤ 3 → Mem H pl (nV ps) → ps.length = k → (∀ i ∈ ps, i < n) → ∀ H' x, Same H H' → PrAt C H' x n ((rowsOf n).map fun r => costL ms (atPl ps r)) → Q (.ref x) H')
theorem ok_PX {f fPI fN fIS fAP fRO fPC C CN : Addr} {fd fdPI fdN fdIS fdAP fdRO fdPC : FuncData} (F : Fun K "read_at" "Price.read_at" sPX f fd) (T : Pc K mg C) (B : Bt mg) (XN : Xc K mg "InvalidNumber" "value" CN) (GIS : FnOk P w K mg base CX0 2 fIS fdIS ["value"] spIS) (kIS : PySem.W.keepIn K (.ref fIS) = true) (bIS : Binds K fdIS ["value"] []) (gIS : mg "is_size" = some (.ref fIS)) (GAP : FnOk P w K mg base CX0 3 fAP fdAP ["value", "count", "size"] spAP) (kAP : PySem.W.keepIn K (.ref fAP) = true) (bAP : Binds K fdAP ["value", "count", "size"] []) (gAP : mg "_are_places" = some (.ref fAP)) (GRO : FnOk P w K mg base CX0 1 fRO fdRO ["size"] spRO) (kRO : PySem.W.keepIn K (.ref fRO) = true) (bRO : Binds K fdRO ["size"] []) (gRO : mg "rows_of" = some (.ref fRO)) (GPC : FnOk P w K mg base CX0 5 fPC fdPC ["self", "row"] (spPC0 C)) (kPC : PySem.W.keepIn K (.ref fPC) = true) (bPC : Binds K fdPC ["self", "row"] []) (mPC : Meth K C "cost" fPC) (M : Mk K C fPI) (GPI : FnOk P w K mg base CX0 3 fPI fdPI ["self", "size", "amounts"] (spPI0 C)) (bPI : Binds K fdPI ["self", "size", "amounts"] [])
    (XNi : PySem.W.findIn K (.ref CN) "__init__" = some (some (.ref fN))) (XNt : PySem.W.typeIn K (.ref fN) = some (.type "function")) (XNG : FnOk P w K mg base CX0 1 fN fdN ["self", "value"] (spXf K "value")) (XNb : Binds K fdN ["self", "value"] []) : FnOk P w K mg base (L2.CX P w) 6 f fd ["self", "places", "size"] (spPX C CN) := by
  refine F.okX scPX (fun vs H Q E h => ?_) (fun cdv A outer s H vs Q E hr h => ?_)
  · obtain ⟨p, k, ms, yl, sz, rfl, _⟩ := h
    rfl
  · obtain ⟨p, k, ms, yl, sz, rfl, pr, hA, kz, q1, q2, q⟩ := h
    obtain ⟨dx, t, hp, ht, k1, k3, hl⟩ := id pr
    cases id hA with
    | flat ka na =>
      refine ⟨_, (pss_cons (ps_if (pt_not (pt_val (pe_call GIS (hr.mono (by decide)) (by rfl) gIS kIS bIS .nil pass0 (pa_cons (pv 2) pa_nil))))
      (pss_one (ps_raise rfl (takes_of rfl rfl rfl rfl) (pmk_oex (CX := CX0) XN.o XNi XNt XNG (hr.mono (by decide)) XNb .nil pass0 (by rfl) XN.g (pa_cons (pv 2) pa_nil)))) pss_nil)
      (pss_cons (ps_if (pt_not (pt_val (pe_call GAP (hr.mono (by decide)) (by rfl) gAP kAP bAP .nil pass0 (pa_cons (pv 1) (pa_cons (pe_fld (pv 0) rfl) (pa_cons (pv 2) pa_nil))))))
      (pss_one (ps_raise rfl (takes_of rfl rfl rfl rfl) (pmk_oex (CX := CX0) XN.o XNi XNt XNG (hr.mono (by decide)) XNb .nil pass0 (by rfl) XN.g (pa_cons (pv 1) pa_nil)))) pss_nil)
      (pss_one (ps_ret (pe_make M GPI (hr.mono (by decide)) (by rfl) T.g bPI .nil pass0 (pa_cons (pv 2) (pa_cons (pe_lc (own := [("row", 3)]) (g := gName 3) (tt := tYes) rfl scPX.nd (pi_tup (pe_call GRO (hr.mono (by decide)) (by rfl) gRO kRO bRO .nil pass0 (pa_cons (pv 2) pa_nil))) (blkOk_by (N := NPX) (sc := defScope sPX) (by decide +kernel)) (fun _ _ _ _ _ => pg_name (i := 3) scPX.nd rfl (Or.inr rfl)) (fun _ _ _ _ _ => pts_nil) (fun _ _ _ _ _ => (pe_meth (pv 0) T.cl mPC GPC (hr.mono (by decide)) bPC .nil pass0 (pa_cons (pe_callTy (call_tuple_ofk K rfl) (by rfl) B.tuple (by decide +kernel) (pa_cons (pe_lc (own := [("place", 4)]) (g := gName 4) (tt := tYes) rfl scPX.nd (pi_tupk K rfl (pv 1)) (blkOk_by (N := NPX) (sc := { kind := .function, names := [(".0", .local), ("row", .cell), ("tuple", .globalImplicit), ("places", .cell), ("self", .cell)], isGenerator := false, isCoroutine := false }) (by decide +kernel)) (fun _ _ _ _ _ => pg_name (i := 4) scPX.nd rfl (Or.inl rfl)) (fun _ _ _ _ _ => pts_nil) (fun _ _ _ _ _ => (pe_ix (ixt_k K rfl) (pv 3) (pv 4) (fun _ _ => rfl)))) pa_nil)) pa_nil)))) pa_nil))))))), ?_⟩
      refine q_seq (q_if ?_)
      refine ⟨sz, rfl, sz, rfl, kz, isZ sz, rfl, ?_⟩
      cases ez : isZ sz with
      | false => exact ⟨sz, rfl, by show 1 ≤ 1000; decide, raise_end XN.o XN.no fun d H' s' nd hd => q1 ez d H' s' hd⟩
      | true =>
        obtain ⟨n, rfl, n1, n3⟩ : ∃ n : Nat, sz = .int n ∧ 1 ≤ n ∧ n ≤ 3 := by
          cases sz with
          | int i =>
            have z : (decide (1 ≤ i) && decide (i ≤ 3)) = true := ez
            rw [Bool.and_eq_true, decide_eq_true_iff, decide_eq_true_iff] at z
            exact ⟨i.toNat, by rw [show ((i.toNat : Nat) : Int) = i by omega], by omega, by omega⟩
          | _ => cases ez
        refine q_next ?_
        dsimp only
        refine q_seq (q_if ?_)
        refine ⟨_, rfl, .ref p, rfl, p, C, dx, _, .int k, rfl, hp, T.cl, T.nS, pf_size _ _, .int n, rfl, yl, k, n, rfl, k3, hA, fun H1 s1 => ⟨?_, ?_⟩⟩
        · intro _
          refine ⟨false, rfl, ?_⟩
          exact ⟨_, rfl, by show 1 ≤ 1000; decide, raise_end XN.o XN.no fun d H' s' nd hd => q2 n rfl n1 n3 (fun ps m _ _ => by obtain ⟨a, ea, _⟩ := m; subst ea; cases na) d H' (s1.trans s') hd⟩
        · intro xs m
          obtain ⟨a, ea, _⟩ := m
          subst ea
          cases na
    | @lst a xs0 e km z =>
      refine ⟨_, (pss_cons (ps_if (pt_not (pt_val (pe_call GIS (hr.mono (by decide)) (by rfl) gIS kIS bIS .nil pass0 (pa_cons (pv 2) pa_nil))))
      (pss_one (ps_raise rfl (takes_of rfl rfl rfl rfl) (pmk_oex (CX := CX0) XN.o XNi XNt XNG (hr.mono (by decide)) XNb .nil pass0 (by rfl) XN.g (pa_cons (pv 2) pa_nil)))) pss_nil)
      (pss_cons (ps_if (pt_not (pt_val (pe_call GAP (hr.mono (by decide)) (by rfl) gAP kAP bAP .nil pass0 (pa_cons (pv 1) (pa_cons (pe_fld (pv 0) rfl) (pa_cons (pv 2) pa_nil))))))
      (pss_one (ps_raise rfl (takes_of rfl rfl rfl rfl) (pmk_oex (CX := CX0) XN.o XNi XNt XNG (hr.mono (by decide)) XNb .nil pass0 (by rfl) XN.g (pa_cons (pv 1) pa_nil)))) pss_nil)
      (pss_one (ps_ret (pe_make M GPI (hr.mono (by decide)) (by rfl) T.g bPI .nil pass0 (pa_cons (pv 2) (pa_cons (pe_lc (own := [("row", 3)]) (g := gName 3) (tt := tYes) rfl scPX.nd (pi_tup (pe_call GRO (hr.mono (by decide)) (by rfl) gRO kRO bRO .nil pass0 (pa_cons (pv 2) pa_nil))) (blkOk_by (N := NPX) (sc := defScope sPX) (by decide +kernel)) (fun _ _ _ _ _ => pg_name (i := 3) scPX.nd rfl (Or.inr rfl)) (fun _ _ _ _ _ => pts_nil) (fun _ _ _ _ _ => (pe_meth (pv 0) T.cl mPC GPC (hr.mono (by decide)) bPC .nil pass0 (pa_cons (pe_callTy (call_tuple_ofk K rfl) (by rfl) B.tuple (by decide +kernel) (pa_cons (pe_lc (own := [("place", 4)]) (g := gName 4) (tt := tYes) rfl scPX.nd (pi_listk K rfl (pv 1)) (blkOk_by (N := NPX) (sc := { kind := .function, names := [(".0", .local), ("row", .cell), ("tuple", .globalImplicit), ("places", .cell), ("self", .cell)], isGenerator := false, isCoroutine := false }) (by decide +kernel)) (fun _ _ _ _ _ => pg_name (i := 4) scPX.nd rfl (Or.inl rfl)) (fun _ _ _ _ _ => pts_nil) (fun _ _ _ _ _ => (pe_ix (ixt_k K rfl) (pv 3) (pv 4) (fun _ _ => rfl)))) pa_nil)) pa_nil)))) pa_nil))))))), ?_⟩
      refine q_seq (q_if ?_)
      refine ⟨sz, rfl, sz, rfl, kz, isZ sz, rfl, ?_⟩
      cases ez : isZ sz with
      | false => exact ⟨sz, rfl, by show 1 ≤ 1000; decide, raise_end XN.o XN.no fun d H' s' nd hd => q1 ez d H' s' hd⟩
      | true =>
        obtain ⟨n, rfl, n1, n3⟩ : ∃ n : Nat, sz = .int n ∧ 1 ≤ n ∧ n ≤ 3 := by
          cases sz with
          | int i =>
            have z : (decide (1 ≤ i) && decide (i ≤ 3)) = true := ez
            rw [Bool.and_eq_true, decide_eq_true_iff, decide_eq_true_iff] at z
            exact ⟨i.toNat, by rw [show ((i.toNat : Nat) : Int) = i by omega], by omega, by omega⟩
          | _ => cases ez
        refine q_next ?_
        dsimp only
        refine q_seq (q_if ?_)
        refine ⟨_, rfl, .ref p, rfl, p, C, dx, _, .int k, rfl, hp, T.cl, T.nS, pf_size _ _, .int n, rfl, (.ref a), k, n, rfl, k3, hA, fun H1 s1 => ⟨?_, ?_⟩⟩
        · intro z
          cases z
        · intro xs m
          obtain rfl := mem_lst e m
          cases eb : plB k n xs with
          | false =>
            refine ⟨false, rfl, ?_⟩
            refine ⟨_, rfl, by show 1 ≤ 1000; decide, raise_end XN.o XN.no fun d H' s' nd hd => q2 n rfl n1 n3 (fun ps m2 l2 b2 => ?_) d H' (s1.trans s') hd⟩
            have ex := mem_lst e m2
            rw [← ex] at eb
            unfold plB at eb
            rw [decide_eq_true (by unfold nV; rw [List.length_map]; exact l2), Bool.true_and] at eb
            have all : (nV ps).all (isB n) = true := List.all_eq_true.mpr fun x mx => by
              obtain ⟨i, mi, rfl⟩ := List.mem_map.mp mx
              have lt := b2 i mi
              show (decide (0 ≤ (i : Int)) && decide ((i : Int) < (n : Int))) = true
              rw [decide_eq_true (by omega), decide_eq_true (by omega)]
              rfl
            rw [all] at eb
            cases eb
          | true =>
            refine ⟨true, rfl, ?_⟩
            unfold plB at eb
            rw [Bool.and_eq_true, decide_eq_true_iff] at eb
            obtain ⟨lx, ax⟩ := eb
            obtain ⟨ps, rfl, hps⟩ := plB_good (k := k) ax
            have lps : ps.length = k := by
              unfold nV at lx
              rw [List.length_map] at lx
              exact lx
            refine q_next ?_
            dsimp only
            refine q_ret ?_
            refine ⟨.int n, rfl, .int n, rfl, n, rfl, n3, fun H2 p1 rs s2 np1 h2 rw2 => ?_⟩
            have s12 := s1.trans s2
            refine ⟨p1, rfl, ⟨_, tl h2⟩, fun D nD => lc_tup (K := K) (a := p1) (xs := rs.map V.ref) (fun j H' => Same H2 H' ∧ H' D = some (.lst ((((rowsOf n).take j).map fun r => costL ms (atPl ps r)).map V.int))) ⟨same_upd nD, by rw [upd_same, List.take_zero]; rfl⟩ (fun j H' _ hP => tl (hP.1 _ _ h2)) (fun j x H3 hx hP => ?_) (fun H3 hP => ?_)⟩
            · obtain ⟨s3, hD⟩ := hP
              obtain ⟨r, bs, rfl, hbs, hr2⟩ := rws_at rw2 hx
              have mb := List.mem_of_getElem? hbs
              have lb := row_len n bs mb
              obtain ⟨ab, al⟩ := at_ok hps lps (bits_rows n bs mb) lb
              have hr3 := s3 _ _ hr2
              have e3 := s3 _ _ (s12 _ _ e)
              refine ⟨rfl, .ref p, rfl, p, dx, _, rfl, s3 _ _ (s12 _ _ hp), pf_no (by decide +kernel) (by decide +kernel), ?_⟩
              refine ⟨.ref a, rfl, a, rfl, ⟨_, sl e3⟩, fun D2 nD2 => lc_list (K := K) (a := a) (xs := nV ps) (fun i H' => Same H3 H' ∧ H' D2 = some (.lst ((atPl (ps.take i) bs).map V.int))) ⟨same_upd nD2, by rw [upd_same, List.take_zero]; rfl⟩ (fun i H' _ hP => sl (hP.1 _ _ e3)) (fun i y H4 hy hP => ?_) (fun H4 hP => ?_)⟩
              · obtain ⟨s4, hD2⟩ := hP
                obtain ⟨j2, ej, rfl⟩ : ∃ j2, ps[i]? = some j2 ∧ y = .int (j2 : Int) := by
                  unfold nV at hy
                  rw [List.getElem?_map] at hy
                  cases e : ps[i]? with
                  | none => rw [e] at hy; cases hy
                  | some a => rw [e] at hy; exact ⟨a, rfl, (Option.some.inj hy).symm⟩
                have lt : j2 < bs.length := by
                  rw [lb]
                  exact hps j2 (List.mem_of_getElem? ej)
                have g : (bs.map V.int)[j2]? = some (.int (bs.getD j2 0)) := by
                  rw [List.getElem?_map, List.getElem?_eq_getElem lt, List.getD_eq_getElem?_getD, List.getElem?_eq_getElem lt]
                  rfl
                refine ⟨rfl, .ref r, rfl, .int (j2 : Int), rfl, r, _, _, _, rfl, rfl, tl (s4 _ _ hr3), at_z rfl g, _, hD2, ?_, fun b o z => ?_, ?_⟩
                · unfold atPl
                  rw [List.length_map, List.length_map, List.length_take]
                  exact small1000 (Nat.le_trans (Nat.min_le_right _ _) (by omega))
                · rw [upd_ne (ne_of_none z nD2)]
                  exact s4 _ _ z
                · unfold atPl
                  rw [upd_same, List.take_add_one, ej, List.map_append, List.map_append]
                  rfl
              · obtain ⟨s4, hD2⟩ := hP
                have l4 : (nV ps).length = ps.length := by unfold nV; rw [List.length_map]
                rw [l4, List.take_length] at hD2
                refine ⟨D2, _, rfl, .inl ⟨sl hD2, fun u nu => ?_⟩⟩
                have s5 := s4.trans (same_upd (o := .tup ((atPl ps bs).map V.int)) nu)
                refine ⟨p, u, k, ms, atPl ps bs, rfl, pr.same (s12.trans (s3.trans s5)), upd_same, ab, al, fun H6 s6 => ?_⟩
                have sB := s5.trans s6
                refine ⟨_, sB _ _ hD, ?_, fun c o z => ?_, ?_⟩
                · rw [List.length_map, List.length_map, List.length_take]
                  exact small1000 (Nat.le_trans (Nat.min_le_right _ _) (Nat.le_trans (rows8 n3) (by decide)))
                · rw [upd_ne (ne_of_none z nD)]
                  exact sB _ _ (s3 _ _ z)
                · rw [upd_same, List.take_add_one, hbs, List.map_append, List.map_append]
                  rfl
            · obtain ⟨s3, hD⟩ := hP
              rw [List.length_map, paired_len rw2, List.take_length] at hD
              have lm : ((rowsOf n).map fun r => costL ms (atPl ps r)).length = 2 ^ n := by rw [List.length_map, rows_len]
              exact fun x dx2 nx ndx _ => pr_made nx ndx (small_am n3 lm (.inl hD)) n1 n3 lm ⟨D, rfl, .inl hD⟩ fun H4 s4 pr' => q n ps rfl n1 n3 ⟨a, rfl, .inl e⟩ lps hps H4 x (s12.trans (s3.trans s4)) pr'
    | @tup a xs0 e km z =>
      refine ⟨_, (pss_cons (ps_if (pt_not (pt_val (pe_call GIS (hr.mono (by decide)) (by rfl) gIS kIS bIS .nil pass0 (pa_cons (pv 2) pa_nil))))
      (pss_one (ps_raise rfl (takes_of rfl rfl rfl rfl) (pmk_oex (CX := CX0) XN.o XNi XNt XNG (hr.mono (by decide)) XNb .nil pass0 (by rfl) XN.g (pa_cons (pv 2) pa_nil)))) pss_nil)
      (pss_cons (ps_if (pt_not (pt_val (pe_call GAP (hr.mono (by decide)) (by rfl) gAP kAP bAP .nil pass0 (pa_cons (pv 1) (pa_cons (pe_fld (pv 0) rfl) (pa_cons (pv 2) pa_nil))))))
      (pss_one (ps_raise rfl (takes_of rfl rfl rfl rfl) (pmk_oex (CX := CX0) XN.o XNi XNt XNG (hr.mono (by decide)) XNb .nil pass0 (by rfl) XN.g (pa_cons (pv 1) pa_nil)))) pss_nil)
      (pss_one (ps_ret (pe_make M GPI (hr.mono (by decide)) (by rfl) T.g bPI .nil pass0 (pa_cons (pv 2) (pa_cons (pe_lc (own := [("row", 3)]) (g := gName 3) (tt := tYes) rfl scPX.nd (pi_tup (pe_call GRO (hr.mono (by decide)) (by rfl) gRO kRO bRO .nil pass0 (pa_cons (pv 2) pa_nil))) (blkOk_by (N := NPX) (sc := defScope sPX) (by decide +kernel)) (fun _ _ _ _ _ => pg_name (i := 3) scPX.nd rfl (Or.inr rfl)) (fun _ _ _ _ _ => pts_nil) (fun _ _ _ _ _ => (pe_meth (pv 0) T.cl mPC GPC (hr.mono (by decide)) bPC .nil pass0 (pa_cons (pe_callTy (call_tuple_ofk K rfl) (by rfl) B.tuple (by decide +kernel) (pa_cons (pe_lc (own := [("place", 4)]) (g := gName 4) (tt := tYes) rfl scPX.nd (pi_tupk K rfl (pv 1)) (blkOk_by (N := NPX) (sc := { kind := .function, names := [(".0", .local), ("row", .cell), ("tuple", .globalImplicit), ("places", .cell), ("self", .cell)], isGenerator := false, isCoroutine := false }) (by decide +kernel)) (fun _ _ _ _ _ => pg_name (i := 4) scPX.nd rfl (Or.inl rfl)) (fun _ _ _ _ _ => pts_nil) (fun _ _ _ _ _ => (pe_ix (ixt_k K rfl) (pv 3) (pv 4) (fun _ _ => rfl)))) pa_nil)) pa_nil)))) pa_nil))))))), ?_⟩
      refine q_seq (q_if ?_)
      refine ⟨sz, rfl, sz, rfl, kz, isZ sz, rfl, ?_⟩
      cases ez : isZ sz with
      | false => exact ⟨sz, rfl, by show 1 ≤ 1000; decide, raise_end XN.o XN.no fun d H' s' nd hd => q1 ez d H' s' hd⟩
      | true =>
        obtain ⟨n, rfl, n1, n3⟩ : ∃ n : Nat, sz = .int n ∧ 1 ≤ n ∧ n ≤ 3 := by
          cases sz with
          | int i =>
            have z : (decide (1 ≤ i) && decide (i ≤ 3)) = true := ez
            rw [Bool.and_eq_true, decide_eq_true_iff, decide_eq_true_iff] at z
            exact ⟨i.toNat, by rw [show ((i.toNat : Nat) : Int) = i by omega], by omega, by omega⟩
          | _ => cases ez
        refine q_next ?_
        dsimp only
        refine q_seq (q_if ?_)
        refine ⟨_, rfl, .ref p, rfl, p, C, dx, _, .int k, rfl, hp, T.cl, T.nS, pf_size _ _, .int n, rfl, (.ref a), k, n, rfl, k3, hA, fun H1 s1 => ⟨?_, ?_⟩⟩
        · intro z
          cases z
        · intro xs m
          obtain rfl := mem_tup e m
          cases eb : plB k n xs with
          | false =>
            refine ⟨false, rfl, ?_⟩
            refine ⟨_, rfl, by show 1 ≤ 1000; decide, raise_end XN.o XN.no fun d H' s' nd hd => q2 n rfl n1 n3 (fun ps m2 l2 b2 => ?_) d H' (s1.trans s') hd⟩
            have ex := mem_tup e m2
            rw [← ex] at eb
            unfold plB at eb
            rw [decide_eq_true (by unfold nV; rw [List.length_map]; exact l2), Bool.true_and] at eb
            have all : (nV ps).all (isB n) = true := List.all_eq_true.mpr fun x mx => by
              obtain ⟨i, mi, rfl⟩ := List.mem_map.mp mx
              have lt := b2 i mi
              show (decide (0 ≤ (i : Int)) && decide ((i : Int) < (n : Int))) = true
              rw [decide_eq_true (by omega), decide_eq_true (by omega)]
              rfl
            rw [all] at eb
            cases eb
          | true =>
            refine ⟨true, rfl, ?_⟩
            unfold plB at eb
            rw [Bool.and_eq_true, decide_eq_true_iff] at eb
            obtain ⟨lx, ax⟩ := eb
            obtain ⟨ps, rfl, hps⟩ := plB_good (k := k) ax
            have lps : ps.length = k := by
              unfold nV at lx
              rw [List.length_map] at lx
              exact lx
            refine q_next ?_
            dsimp only
            refine q_ret ?_
            refine ⟨.int n, rfl, .int n, rfl, n, rfl, n3, fun H2 p1 rs s2 np1 h2 rw2 => ?_⟩
            have s12 := s1.trans s2
            refine ⟨p1, rfl, ⟨_, tl h2⟩, fun D nD => lc_tup (K := K) (a := p1) (xs := rs.map V.ref) (fun j H' => Same H2 H' ∧ H' D = some (.lst ((((rowsOf n).take j).map fun r => costL ms (atPl ps r)).map V.int))) ⟨same_upd nD, by rw [upd_same, List.take_zero]; rfl⟩ (fun j H' _ hP => tl (hP.1 _ _ h2)) (fun j x H3 hx hP => ?_) (fun H3 hP => ?_)⟩
            · obtain ⟨s3, hD⟩ := hP
              obtain ⟨r, bs, rfl, hbs, hr2⟩ := rws_at rw2 hx
              have mb := List.mem_of_getElem? hbs
              have lb := row_len n bs mb
              obtain ⟨ab, al⟩ := at_ok hps lps (bits_rows n bs mb) lb
              have hr3 := s3 _ _ hr2
              have e3 := s3 _ _ (s12 _ _ e)
              refine ⟨rfl, .ref p, rfl, p, dx, _, rfl, s3 _ _ (s12 _ _ hp), pf_no (by decide +kernel) (by decide +kernel), ?_⟩
              refine ⟨.ref a, rfl, a, rfl, ⟨_, tl e3⟩, fun D2 nD2 => lc_tup (K := K) (a := a) (xs := nV ps) (fun i H' => Same H3 H' ∧ H' D2 = some (.lst ((atPl (ps.take i) bs).map V.int))) ⟨same_upd nD2, by rw [upd_same, List.take_zero]; rfl⟩ (fun i H' _ hP => tl (hP.1 _ _ e3)) (fun i y H4 hy hP => ?_) (fun H4 hP => ?_)⟩
              · obtain ⟨s4, hD2⟩ := hP
                obtain ⟨j2, ej, rfl⟩ : ∃ j2, ps[i]? = some j2 ∧ y = .int (j2 : Int) := by
                  unfold nV at hy
                  rw [List.getElem?_map] at hy
                  cases e : ps[i]? with
                  | none => rw [e] at hy; cases hy
                  | some a => rw [e] at hy; exact ⟨a, rfl, (Option.some.inj hy).symm⟩
                have lt : j2 < bs.length := by
                  rw [lb]
                  exact hps j2 (List.mem_of_getElem? ej)
                have g : (bs.map V.int)[j2]? = some (.int (bs.getD j2 0)) := by
                  rw [List.getElem?_map, List.getElem?_eq_getElem lt, List.getD_eq_getElem?_getD, List.getElem?_eq_getElem lt]
                  rfl
                refine ⟨rfl, .ref r, rfl, .int (j2 : Int), rfl, r, _, _, _, rfl, rfl, tl (s4 _ _ hr3), at_z rfl g, _, hD2, ?_, fun b o z => ?_, ?_⟩
                · unfold atPl
                  rw [List.length_map, List.length_map, List.length_take]
                  exact small1000 (Nat.le_trans (Nat.min_le_right _ _) (by omega))
                · rw [upd_ne (ne_of_none z nD2)]
                  exact s4 _ _ z
                · unfold atPl
                  rw [upd_same, List.take_add_one, ej, List.map_append, List.map_append]
                  rfl
              · obtain ⟨s4, hD2⟩ := hP
                have l4 : (nV ps).length = ps.length := by unfold nV; rw [List.length_map]
                rw [l4, List.take_length] at hD2
                refine ⟨D2, _, rfl, .inl ⟨sl hD2, fun u nu => ?_⟩⟩
                have s5 := s4.trans (same_upd (o := .tup ((atPl ps bs).map V.int)) nu)
                refine ⟨p, u, k, ms, atPl ps bs, rfl, pr.same (s12.trans (s3.trans s5)), upd_same, ab, al, fun H6 s6 => ?_⟩
                have sB := s5.trans s6
                refine ⟨_, sB _ _ hD, ?_, fun c o z => ?_, ?_⟩
                · rw [List.length_map, List.length_map, List.length_take]
                  exact small1000 (Nat.le_trans (Nat.min_le_right _ _) (Nat.le_trans (rows8 n3) (by decide)))
                · rw [upd_ne (ne_of_none z nD)]
                  exact sB _ _ (s3 _ _ z)
                · rw [upd_same, List.take_add_one, hbs, List.map_append, List.map_append]
                  rfl
            · obtain ⟨s3, hD⟩ := hP
              rw [List.length_map, paired_len rw2, List.take_length] at hD
              have lm : ((rowsOf n).map fun r => costL ms (atPl ps r)).length = 2 ^ n := by rw [List.length_map, rows_len]
              exact fun x dx2 nx ndx _ => pr_made nx ndx (small_am n3 lm (.inl hD)) n1 n3 lm ⟨D, rfl, .inl hD⟩ fun H4 s4 pr' => q n ps rfl n1 n3 ⟨a, rfl, .inr e⟩ lps hps H4 x (s12.trans (s3.trans s4)) pr'
end
end C3

namespace C3
open PySem PySem.Spec PyProof.Rows L2 Ek
section
variable {P : Program} {w : World} {K : PySem.W.Frag} {mg : Str → Option Value} {base : Heap}
theorem ok_place {f : Addr} {fd : FuncData} (F : Fun K "_law_place" "_law_place" sPlace f fd) : FnOk P w K mg base CX0 1 f fd ["row"] (spRN K) := by
  refine F.ok scPlace (fun vs H Q E h => ?_) (fun cdv A outer s H vs Q E hr h => ?_)
  · obtain ⟨a, bs, rfl, _⟩ := h
    rfl
  · obtain ⟨a, bs, rfl, hS, q⟩ := h
    refine ⟨_, (pss_cons (ps_set (i := 1) scPlace.nd rfl (.inl rfl) pe_int)
      (pss_cons (ps_for PassesOwn.never rfl (pi_tup (pv 0)) (pg_name (i := 2) scPlace.nd rfl (.inl rfl))
      (pss_one (ps_set (i := 1) scPlace.nd rfl (.inl rfl) (pe_op op_add (pe_op op_mul pe_int (pv 1)) (pv 2)))))
      (pss_one (ps_ret (pv 1))))), ?_⟩
    refine q_seq (q_setc ?_)
    dsimp only
    refine q_seq ?_
    refine ⟨.ref a, rfl, a, rfl, ⟨_, hS⟩, for_tup (K := K) (a := a) (xs := bs.map V.int) (fun i σ H' => ∃ v : Option V, σ = [some (.ref a), some (.int (num (bs.take i))), v] ∧ H' = H) ⟨none, rfl, rfl⟩ (fun i σ H' _ hP => by obtain ⟨v, _, rfl⟩ := hP; exact hS) (fun i x σ H' hx hP => ?_) (fun σ H' hP => ?_)⟩
    · obtain ⟨v, rfl, rfl⟩ := hP
      rw [List.getElem?_map] at hx
      cases e : bs[i]? with
      | none => rw [e] at hx; cases hx
      | some b =>
        rw [e] at hx
        obtain rfl : x = .int b := (Option.some.inj hx).symm
        refine ⟨_, rfl, _, _, rfl, rfl, .inl ⟨by decide, by decide⟩, _, rfl, _, _, rfl, rfl, some (.int b), ?_, rfl⟩
        rw [num_take e]
        rfl
    · obtain ⟨v, rfl, rfl⟩ := hP
      dsimp only
      refine q_ret ⟨_, rfl, ?_⟩
      rw [List.length_map, List.take_length]
      exact q
def spCost : Sp := fun vs H Q _ => ∃ (q t r : Addr) (k : Nat) (ms bs : List Int), vs = [.ref q, .ref r] ∧ H q = some (.tup [.int k, .ref t]) ∧ H t = some (.tup (ms.map V.int)) ∧ ms.length = 2 ^ k ∧ k ≤ 3 ∧ H r = some (.tup (bs.map V.int)) ∧ Bits bs ∧ bs.length = k ∧ Q (.int (costL ms bs)) H
theorem ok_cost {f fPlace : Addr} {fd fdPlace : FuncData} (F : Fun K "_law_cost" "_law_cost" sCost f fd) (GPlace : FnOk P w K mg base CX0 1 fPlace fdPlace ["row"] (spRN K)) (kPlace : PySem.W.keepIn K (.ref fPlace) = true) (bPlace : Binds K fdPlace ["row"] []) (gPlace : mg "_law_place" = some (.ref fPlace)) : FnOk P w K mg base CX0 2 f fd ["price", "row"] spCost := by
  refine F.ok scCost (fun vs H Q E h => ?_) (fun cdv A outer s H vs Q E hr h => ?_)
  · obtain ⟨q, t, r, k, ms, bs, rfl, _⟩ := h
    rfl
  · obtain ⟨q, t, r, k, ms, bs, rfl, hq, ht, hl, k3, hr2, hb, lb, qq⟩ := h
    obtain ⟨e1, e2⟩ := cost_at hb lb k3 hl
    refine ⟨_, (pss_one (ps_ret (pe_ix ix_tup (pe_ix ix_tup (pv 0) pe_int (fun _ _ => rfl)) (pe_call GPlace (hr.mono (by decide)) (by rfl) gPlace kPlace bPlace .nil pass0 (pa_cons (pv 1) pa_nil)) (fun _ _ => rfl)))), ?_⟩
    refine q_ret ?_
    exact ⟨.ref q, rfl, q, _, _, .ref t, rfl, rfl, tl hq, at_z (j := 1) rfl rfl, .ref r, rfl, r, bs, rfl, tl hr2, t, _, _, _, rfl, rfl, tl ht, at_z e1 e2, qq⟩
def inB (a b : Int) : V → Bool
  | .int i => decide (a ≤ i) && decide (i ≤ b)
  | _ => false
def spIsN : Sp := fun vs H Q _ => ∃ (v : V) (a b : Int), vs = [v, .int a, .int b] ∧ Kn H v ∧ Q (.bl (inB a b v)) H
theorem ok_isn {f : Addr} {fd : FuncData} (F : Fun K "_law_is_number" "_law_is_number" sIsN f fd) (B : Bt mg) : FnOk P w K mg base CX0 1 f fd ["value", "least", "most"] spIsN := by
  refine F.ok scIsN (fun vs H Q E h => ?_) (fun cdv A outer s H vs Q E hr h => ?_)
  · obtain ⟨v, a, b, rfl, _⟩ := h
    rfl
  · obtain ⟨v, a, b, rfl, k, q⟩ := h
    refine ⟨_, (pss_one (ps_ret (pe_and (pe_callB call_isi (by rfl) B.isinstance (by decide +kernel) (pa_cons (pv 0) (pa_cons (pe_bltn (v := .ty "int") (by rfl) B.int (by decide +kernel) rfl) pa_nil))) (pe_and (pe_not (pe_callB call_isi (by rfl) B.isinstance (by decide +kernel) (pa_cons (pv 0) (pa_cons (pe_bltn (v := .ty "bool") (by rfl) B.bool (by decide +kernel) rfl) pa_nil)))) (pe_and (pe_cmpR op_ge (pv 0) (pv 1) (nomark _)) (pe_one (pe_cmpR op_le (pv 0) (pv 2) (nomark _)))))))), ?_⟩
    refine q_ret ?_
    cases k with
    | non => exact ⟨_, rfl, _, _, _, _, _, rfl, .ty _, .base .non, kit_ty (by decide +kernel), false, rfl, q⟩
    | bl b => exact ⟨_, rfl, _, _, _, _, _, rfl, .ty _, .base (.bl _), kit_ty (by decide +kernel), true, rfl, _, rfl, _, _, _, _, true, rfl, .ty _, .base (.bl _), kit_ty (by decide +kernel), true, rfl, false, rfl, q⟩
    | str x => exact ⟨_, rfl, _, _, _, _, _, rfl, .ty _, .base (.str _), kit_ty (by decide +kernel), false, rfl, q⟩
    | lst e => exact ⟨_, rfl, _, _, _, _, _, rfl, .ty _, .base (.lst e), kit_ty (by decide +kernel), false, rfl, q⟩
    | tup e => exact ⟨_, rfl, _, _, _, _, _, rfl, .ty _, .base (.tup e), kit_ty (by decide +kernel), false, rfl, q⟩
    | int i =>
      refine ⟨_, rfl, _, _, _, _, _, rfl, .ty _, .base (.int _), kit_ty (by decide +kernel), true, rfl, _, rfl, _, _, _, _, false, rfl, .ty _, .base (.int _), kit_ty (by decide +kernel), false, rfl, true, rfl, ?_⟩
      refine ⟨.int i, rfl, .int a, rfl, _, _, rfl, rfl, _, rfl, ?_⟩
      have q' : Q (.bl (decide (a ≤ i) && decide (i ≤ b))) H := q
      by_cases l1 : a ≤ i
      · rw [decide_eq_true l1] at q' ⊢
        exact ⟨.int i, rfl, .int b, rfl, _, _, rfl, rfl, q'⟩
      · rw [decide_eq_false l1] at q' ⊢
        exact q'
theorem okd_am {k : Nat} {ms : List Int} (k3 : k ≤ 3) (hl : ms.length = 2 ^ k) (hb : Bd (-(10 ^ 17)) (10 ^ 17) ms) : Okd (.list [.int k, .tuple (ms.map .int)]) := by
  have z := pow8 k3
  have t : Sm 400 3 (.tuple (ms.map .int)) := by
    refine (Sm.tuple (n := 19) (k := 0) (ds := ms.map .int) fun d m => ?_).mono (by rw [List.length_map]; omega) (by decide)
    obtain ⟨x, mx, rfl⟩ := List.mem_map.mp m
    have y := hb x mx
    exact Sm.intW (by omega)
  refine (Sm.list (n := 400) (k := 3) (ds := [.int k, .tuple (ms.map .int)]) fun d m => ?_).okd (by show 2 * 400 + 2 * 2 + 3 ≤ 1000000; decide) (by decide)
  rcases List.mem_cons.mp m with rfl | m
  · exact (Sm.int (by omega)).mono (by decide) (by decide)
  · rw [List.mem_singleton.mp m]
    exact t
theorem sh_str : SeqAt.shaped (.str "made") = true := by
  unfold SeqAt.shaped
  have e : PyData.strOk "made" = true := by decide +kernel
  simp [PyData.canLay0, PyData.depth, e]
def spIs (C : Addr) : Sp := fun vs H Q _ => ∃ (t x l : Addr) (k : Nat) (ms : List Int), vs = [.ref t, .int k, .ref l] ∧ H t = some (.tup [.str "made", .ref x]) ∧ PrAt C H x k ms ∧ Mem H (.ref l) (ms.map V.int) ∧ Bd (-(10 ^ 17)) (10 ^ 17) ms ∧ ∀ H', Same H H' → Q (.bl true) H'
theorem ok_is {f C : Addr} {fd : FuncData} (F : Fun K "_law_is" "_law_is" sIs f fd) (T : Pc K mg C) (e : Pe K C) (B : Bt mg) : FnG P w K mg base CX0 1 f fd ["made", "size", "amounts"] (spIs C) := by
  refine okG F scIs (fun vs H Q E h => ?_) (fun cdv A outer s H vs Q E hr gd h => ?_)
  · obtain ⟨t, x, l, k, ms, rfl, _⟩ := h
    rfl
  · obtain ⟨t, x, l, k, ms, rfl, ht, pr, m, hb, q⟩ := h
    obtain ⟨dx, ta, hx, hta, k1, k3, hl⟩ := id pr
    refine ⟨_, (pss_cons (ps_if (PW.pt (pw_or (pt_cmpR (op_neD hr.units) (pe_ix ix_tup (pv 0) pe_int (fun _ _ => rfl)) pe_str (nomark _)) (pw_or1 (pt_not (pt_val (pe_callB call_isi (by rfl) B.isinstance (by decide +kernel) (pa_cons (pe_ix ix_tup (pv 0) pe_int (fun _ _ => rfl)) (pa_cons (pe_glob (v := .ref C) (by rfl) T.g rfl) pa_nil))))))))
      (pss_one (ps_ret pe_bl)) pss_nil)
      (pss_one (ps_ret (pe_cmpR op_eq (pe_callB (call_reprA gd hr.units) (by rfl) B.repr (by decide +kernel) (pa_cons (pe_lst (pa_cons (pe_fld (pe_ix ix_tup (pv 0) pe_int (fun _ _ => rfl)) rfl) (pa_cons (pe_fld (pe_ix ix_tup (pv 0) pe_int (fun _ _ => rfl)) rfl) pa_nil))) pa_nil)) (pe_callB (call_reprA gd hr.units) (by rfl) B.repr (by decide +kernel) (pa_cons (pe_lst (pa_cons (pv 1) (pa_cons (pe_callTy call_tuple_of (by rfl) B.tuple (by decide +kernel) (pa_cons (pv 2) pa_nil)) pa_nil))) pa_nil)) (nomark _))))), ?_⟩
    refine q_seq (q_if ?_)
    refine ⟨.ref t, rfl, t, _, _, .str "made", rfl, rfl, tl ht, at_z (j := 0) rfl rfl, .str "made", .str "made", .str _, .str _, sh_str, sh_str, _, rfl, ?_⟩
    rw [SeqAt.eqv_refl _ (SeqAt.canLay_of_shaped sh_str)]
    refine ⟨.ref t, rfl, t, _, _, .ref x, rfl, rfl, tl ht, at_z (j := 1) rfl rfl, .ref x, .ref C, _, _, true, rfl, .own C, .base (ty_pr T e pr), kit_self, true, rfl, ?_⟩
    refine q_next ?_
    dsimp only
    refine q_ret ?_
    refine ⟨.ref t, rfl, t, _, _, .ref x, rfl, rfl, tl ht, at_z (j := 1) rfl rfl, x, C, dx, _, .int k, rfl, hx, T.cl, T.nS, pf_size _ _, .ref t, rfl, t, _, _, .ref x, rfl, rfl, tl ht, at_z (j := 1) rfl rfl, x, C, dx, _, .ref ta, rfl, hx, T.cl, T.nA, pf_am _ _, by show 2 ≤ sizeLine; decide, fun L1 nL1 => ?_⟩
    have s1 := same_upd (o := .lst [.int k, .ref ta]) nL1
    refine ⟨_, .list [.int k, .tuple (ms.map .int)], rfl, .lst (sl upd_same) (.cons (.int _) (.cons (.tup (tl (s1 _ _ hta)) dp_ints) .nil)), okd_am k3 hl hb, ?_⟩
    have fin : ∀ (H2 : Hp) (t2 : Addr), Same H H2 → H2 t2 = some (.tup (ms.map V.int)) → ([V.int k, .ref t2] : List V).length ≤ sizeLine ∧ ∀ L2, H2 L2 = none → ∃ (y : V) (d : PyData), [V.ref L2] = [y] ∧ Dp K (upd H2 L2 (.lst [.int k, .ref t2])) y d ∧ Okd d ∧ (scal (.str (PyData.shown (.list [.int k, .tuple (ms.map .int)]))) (.str d.shown) = true ∧ Q (.bl (decide (V.str (PyData.shown (.list [.int k, .tuple (ms.map .int)])) = V.str d.shown))) (upd H2 L2 (.lst [.int k, .ref t2]))) := fun H2 t2 s2 h2 => by
      refine ⟨by show 2 ≤ sizeLine; decide, fun L2 nL2 => ⟨_, .list [.int k, .tuple (ms.map .int)], rfl, .lst (sl upd_same) (.cons (.int _) (.cons (.tup (tl (same_upd nL2 _ _ h2)) dp_ints) .nil)), okd_am k3 hl hb, rfl, ?_⟩⟩
      rw [decide_eq_true rfl]
      exact q _ (s2.trans (same_upd nL2))
    obtain ⟨l', el, m⟩ := m
    cases el
    rcases m with m | m
    · refine ⟨.int k, rfl, .ref l, rfl, l, _, rfl, .inl ⟨sl (s1 _ _ m), fun u nu => ?_⟩⟩
      exact fin _ u (s1.trans (same_upd nu)) upd_same
    · refine ⟨.int k, rfl, .ref l, rfl, l, _, rfl, .inr ⟨tl (s1 _ _ m), ?_⟩⟩
      exact fin _ l s1 (s1 _ _ m)
end
end C3

namespace C3
open PySem PySem.Spec PyProof.Rows L2 Ek
def tsN (K : PySem.W.Frag) (CN pe : Addr) : Suite := fun a cls d => tRet (tTup (tCons (tC (.str "number")) (tCons (tCB (rReprA K) (tCons (tXf a cls d CN "value" (tVar 4)) tNil)) (tCons (tCB (rIsES K a cls d) (tCons (tVar 4) (tCons (tC (.ref pe)) tNil))) tNil))))
def tsU (K : PySem.W.Frag) (CU pe : Addr) : Suite := fun a cls d => tRet (tTup (tCons (tC (.str "none")) (tCons (tXf a cls d CU "what" (tVar 4)) (tCons (tCB (rIsES K a cls d) (tCons (tVar 4) (tCons (tC (.ref pe)) tNil))) tNil))))
section
variable {P : Program} {w : World} {K : PySem.W.Frag} {mg : Str → Option Value} {base : Heap}
def Made (C : Addr) (Q : VK) (H : Hp) (k : Nat) (ms : List Int) : Prop := ∀ t x H', Same H H' → H' t = some (.tup [.str "made", .ref x]) → PrAt C H' x k ms → Q (.ref t) H'
def Num (K : PySem.W.Frag) (Q : VK) (H : Hp) (v : V) : Prop := ∃ d, Dp K H v d ∧ Okd d ∧ ∀ t H', Same H H' → H' t = some (.tup [.str "number", .str d.shown, .bl true]) → Q (.ref t) H'
def Und (Q : VK) (H : Hp) : Prop := ∀ t H', Same H H' → H' t = some (.tup [.str "none", .str "size", .bl true]) → Q (.ref t) H'
def spDone (K : PySem.W.Frag) (C : Addr) : Sp := fun vs H Q _ => ∃ (dd : Str) (p : Addr) (k : Nat) (ms : List Int) (one other : V), vs = [.str dd, .ref p, one, other] ∧ PrAt C H p k ms ∧
  ((dd = "plus" ∧ ∃ p2 k2 ms2, one = .ref p2 ∧ PrAt C H p2 k2 ms2 ∧ (k = k2 → Made C Q H k (List.zipWith (· + ·) ms ms2)) ∧ (k ≠ k2 → Und Q H)) ∨
   (dd = "times" ∧ Kn H one ∧ (∀ m, one = .int m → 1 ≤ m → m ≤ 1000000 ∧ Made C Q H k (ms.map (m * ·))) ∧ ((∀ m, one = .int m → m < 1) → Num K Q H one)) ∨
   (dd = "fixed" ∧ Kn H one ∧ Kn H other ∧ (isB k one = false → Num K Q H one) ∧ (isB k one = true → isB 2 other = false → Num K Q H other) ∧ (isB k one = true → isB 2 other = true → k = 1 → Und Q H) ∧
     (∀ (i n : Nat) (b : Int), one = .int i → i < k → other = .int b → (b = 0 ∨ b = 1) → k = n + 1 → 1 ≤ n → Made C Q H n ((rowsOf n).map fun r => costL ms (putB r i b)))) ∨
   (dd = "read" ∧ Am H one ∧ Kn H other ∧ (isZ other = false → Num K Q H other) ∧ (∀ n : Nat, other = .int n → 1 ≤ n → n ≤ 3 → (∀ ps : List Nat, Mem H one (nV ps) → ps.length = k → (∀ i ∈ ps, i < n) → False) → Num K Q H one) ∧
     (∀ (n : Nat) (ps : List Nat), other = .int n → 1 ≤ n → n ≤ 3 → Mem H one (nV ps) → ps.length = k → (∀ i ∈ ps, i < n) → Made C Q H n ((rowsOf n).map fun r => costL ms (atPl ps r)))))
theorem lkw {v : V} : ([("what", v)] : List (Str × V)).lookup ("what" : Str) = some v := by simp [List.lookup]
theorem num_end {CN CU pe d : Addr} {v x0 x1 x2 x3 : V} {H H' : Hp} {D : Ends} {l : List (Value × Suite)} (XN : Xc K mg "InvalidNumber" "value" CN) (E1 : Xe K CN pe) (n : Num K D.rt H v) (s : Same H H') (hd : H' d = some (.xd [("value", v)])) :
    wCl K 4 D ((.ref CN, tsN K CN pe) :: l) (.ref CN) (some d) [some x0, some x1, some x2, some x3, none] H' := by
  obtain ⟨dv, dp, ok, q⟩ := n
  refine ⟨true, E1.te, fun _ a na => ?_, fun z => by cases z⟩
  refine ⟨.ref a, rfl, rfl, rfl, d, _, v, rfl, hd, lkv, ?_⟩
  refine ⟨_, dv, rfl, Ek.Dp.same s dp, ok, ?_⟩
  exact ⟨.ref a, rfl, CN, d, _, _, _, true, rfl, rfl, XN.xe, rfl, hd, .own pe, E1.kp, by show 3 ≤ sizeLine; decide, fun t nt => q t _ (s.trans (same_upd nt)) upd_same⟩
theorem und_end {CN CU pe d : Addr} {x0 x1 x2 x3 : V} {H H' : Hp} {D : Ends} (XU : Xc K mg "Undefined" "what" CU) (E2 : Xe K CU pe) (te0 : PySem.W.exmOne K (.ref CU) (.ref CN) = some false) (n : Und D.rt H) (s : Same H H') (hd : H' d = some (.xd [("what", .str "size")])) :
    wCl K 4 D [(.ref CN, tsN K CN pe), (.ref CU, tsU K CU pe)] (.ref CU) (some d) [some x0, some x1, some x2, some x3, none] H' := by
  refine ⟨false, te0, (fun z => by cases z), fun _ => ⟨true, E2.te, fun _ a na => ?_, fun z => by cases z⟩⟩
  refine ⟨.ref a, rfl, rfl, rfl, d, _, _, rfl, hd, lkw, ?_⟩
  exact ⟨.ref a, rfl, CU, d, _, _, _, true, rfl, rfl, XU.xe, rfl, hd, .own pe, E2.kp, by show 3 ≤ sizeLine; decide, fun t nt => n t _ (s.trans (same_upd nt)) upd_same⟩
theorem made_end {C : Addr} {Q : VK} {H H' : Hp} {k : Nat} {ms : List Int} {x : Addr} (m : Made C Q H k ms) (s : Same H H') (pr : PrAt C H' x k ms) : ([V.str "made", .ref x] : List V).length ≤ sizeLine ∧ ∀ t, H' t = none → Q (.ref t) (upd H' t (.tup [.str "made", .ref x])) :=
  ⟨by show 2 ≤ sizeLine; decide, fun t nt => m t x _ (s.trans (same_upd nt)) upd_same (pr.same (same_upd nt))⟩
def dIf (s : Str) (m : TE) (r : TS) : TS := tSeq (tIfS (tTest (tOp rEq (tVar 0) (tC (.str s)))) (tRet (tTup (tCons (tC (.str "made")) (tCons m tNil)))) tNext) r
theorem ok_done {f fPP fPT fPF fPX C CN CU pe : Addr} {fd fdPP fdPT fdPF fdPX : FuncData} (F : Fun K "_law_done" "_law_done" sDone f fd) (T : Pc K mg C) (XN : Xc K mg "InvalidNumber" "value" CN) (XU : Xc K mg "Undefined" "what" CU) (E1 : Xe K CN pe) (E2 : Xe K CU pe) (te0 : PySem.W.exmOne K (.ref CU) (.ref CN) = some false) (B : Bt mg) (gPE : mg "PriceError" = some (.ref pe))
    (mPP : Meth K C "plus" fPP) (GPP : FnOk P w K mg base (L2.CX P w) 5 fPP fdPP ["self", "other"] (spPP C CU)) (bPP : ∀ (s : Shared) (self : Value) (ws : List Value), ws.length = (["other"] : List Str).length → BindsTo s fdPP ⟨[self], (["other"] : List Str).zip ws⟩ ((["self", "other"] : List Str).zip (self :: ws)))
    (mPT : Meth K C "times" fPT) (GPT : FnOk P w K mg base (L2.CX P w) 5 fPT fdPT ["self", "many"] (spPT C CN)) (bPT : ∀ (s : Shared) (self : Value) (ws : List Value), ws.length = (["many"] : List Str).length → BindsTo s fdPT ⟨[self], (["many"] : List Str).zip ws⟩ ((["self", "many"] : List Str).zip (self :: ws)))
    (mPF : Meth K C "fixed" fPF) (GPF : FnOk P w K mg base (L2.CX P w) 6 fPF fdPF ["self", "place", "value"] (spPF C CN CU)) (bPF : ∀ (s : Shared) (self : Value) (ws : List Value), ws.length = (["place", "value"] : List Str).length → BindsTo s fdPF ⟨[self], (["place", "value"] : List Str).zip ws⟩ ((["self", "place", "value"] : List Str).zip (self :: ws)))
    (mPX : Meth K C "read_at" fPX) (GPX : FnOk P w K mg base (L2.CX P w) 6 fPX fdPX ["self", "places", "size"] (spPX C CN)) (bPX : ∀ (s : Shared) (self : Value) (ws : List Value), ws.length = (["places", "size"] : List Str).length → BindsTo s fdPX ⟨[self], (["places", "size"] : List Str).zip ws⟩ ((["self", "places", "size"] : List Str).zip (self :: ws))) :
    FnG P w K mg base CX0 7 f fd ["deed", "price", "one", "other"] (spDone K C) := by
  refine okG F scDone (fun vs H Q E h => ?_) (fun cdv A outer s H vs Q E hr gd h => ?_)
  · obtain ⟨dd, p, k, ms, one, other, rfl, _⟩ := h
    rfl
  · obtain ⟨dd, p, k, ms, one, other, rfl, pr, h⟩ := h
    obtain ⟨dx, t, hp, ht, k1, k3, hl⟩ := id pr
    refine ⟨_, pss_one (ps_clauses (i := 4) (n := "e") (cl := [(.ref CN, tsN K CN pe), (.ref CU, tsU K CU pe)])
      (tb := fun W => dIf "plus" (tMethS C "plus" (spPP C CU) (WE W) (tVar 1) (tCons (tVar 2) tNil)) (dIf "times" (tMethS C "times" (spPT C CN) (WE W) (tVar 1) (tCons (tVar 2) tNil)) (dIf "fixed" (tMethS C "fixed" (spPF C CN CU) (WE W) (tVar 1) (tCons (tVar 2) (tCons (tVar 3) tNil))) (tRet (tTup (tCons (tC (.str "made")) (tCons (tMethS C "read_at" (spPX C CN) (WE W) (tVar 1) (tCons (tVar 2) (tCons (tVar 3) tNil))) tNil)))))))
      rfl rfl scDone.nd rfl rfl
      (fun W pn xe tk _ => by exact pss_cons (ps_if (pt_cmpR op_eq (pv 0) pe_str (nomark _)) (pss_one (ps_ret (pe_tup (pa_cons pe_str (pa_cons (pe_methKS (ks := ["other"]) (pv 1) T.cl mPP GPP (hr.mono (by decide)) rfl bPP (fun σ => passAt tk σ) (pk_cons (pv 2) pk_nil)) pa_nil))))) pss_nil) (pss_cons (ps_if (pt_cmpR op_eq (pv 0) pe_str (nomark _)) (pss_one (ps_ret (pe_tup (pa_cons pe_str (pa_cons (pe_methKS (ks := ["many"]) (pv 1) T.cl mPT GPT (hr.mono (by decide)) rfl bPT (fun σ => passAt tk σ) (pk_cons (pv 2) pk_nil)) pa_nil))))) pss_nil) (pss_cons (ps_if (pt_cmpR op_eq (pv 0) pe_str (nomark _)) (pss_one (ps_ret (pe_tup (pa_cons pe_str (pa_cons (pe_methKS (ks := ["place", "value"]) (pv 1) T.cl mPF GPF hr rfl bPF (fun σ => passAt tk σ) (pk_cons (pv 2) (pk_cons (pv 3) pk_nil))) pa_nil))))) pss_nil) (pss_one (ps_ret (pe_tup (pa_cons pe_str (pa_cons (pe_methKS (ks := ["places", "size"]) (pv 1) T.cl mPX GPX hr rfl bPX (fun σ => passAt tk σ) (pk_cons (pv 2) (pk_cons (pv 3) pk_nil))) pa_nil)))))))) (.one ⟨rfl, by decide, Or.inl XN.g⟩ (fun a oe cls d pn hz hf => by exact pss_one (ps_ret (pe_tup (pa_cons pe_str (pa_cons (pe_callB (call_reprA gd hr.units) (by rfl) B.repr (by decide +kernel) (pa_cons (pe_xf XN.xf XN.no hz hf (pv 4)) pa_nil)) (pa_cons (pe_callB (call_isES hz hf) (by rfl) B.isinstance (by decide +kernel) (pa_cons (pv 4) (pa_cons (pe_glob (v := .ref pe) (by rfl) gPE rfl) pa_nil))) pa_nil)))))) (.one ⟨rfl, by decide, Or.inl XU.g⟩ (fun a oe cls d pn hz hf => by exact pss_one (ps_ret (pe_tup (pa_cons pe_str (pa_cons (pe_xf XU.xf XU.no hz hf (pv 4)) (pa_cons (pe_callB (call_isES hz hf) (by rfl) B.isinstance (by decide +kernel) (pa_cons (pv 4) (pa_cons (pe_glob (v := .ref pe) (by rfl) gPE rfl) pa_nil))) pa_nil)))))) .none))), ?_⟩
    have np : ∀ {a b : Str}, a ≠ b → (V.str a : V) ≠ V.str b := fun h z => h (V.str.inj z)
    have l0 : ∀ m : Str, ((m == "size") = false) → ((m == "amounts") = false) → (pf k t).lookup m = none := fun m a b => pf_no a b
    rcases h with ⟨rfl, p2, k2, ms2, rfl, pr2, q1, q2⟩ | ⟨rfl, kn, q1, q2⟩ | ⟨rfl, kn, kn2, q1, q2, q3, q4⟩ | ⟨rfl, hA, kn, q1, q2, q3⟩
    · refine q_seq (q_if ?_)
      refine ⟨_, rfl, rfl, _, rfl, ?_⟩
      rw [decide_eq_true rfl]
      dsimp only
      rw [if_pos rfl]
      refine q_ret ?_
      refine ⟨.ref p, rfl, p, dx, _, rfl, hp, l0 _ (by decide +kernel) (by decide +kernel), .ref p2, rfl, p, p2, k, k2, ms, ms2, rfl, pr, pr2, fun ek H' x s' pr' => made_end (q1 ek) s' pr', fun ek d H' s' hd => und_end XU E2 te0 (q2 ek) s' hd⟩
    · refine q_seq (q_if ?_)
      refine ⟨_, rfl, rfl, _, rfl, ?_⟩
      rw [decide_eq_false (np (by decide +kernel))]
      refine q_next ?_
      dsimp only
      refine q_seq (q_if ?_)
      refine ⟨_, rfl, rfl, _, rfl, ?_⟩
      rw [decide_eq_true rfl]
      dsimp only
      rw [if_pos rfl]
      refine q_ret ?_
      refine ⟨.ref p, rfl, p, dx, _, rfl, hp, l0 _ (by decide +kernel) (by decide +kernel), one, rfl, p, k, ms, one, rfl, pr, kn, fun m em m1 => ⟨(q1 m em m1).1, fun H' x s' pr' => made_end (q1 m em m1).2 s' pr'⟩, fun no d H' s' hd => num_end (CU := CU) XN E1 (q2 no) s' hd⟩
    · refine q_seq (q_if ?_)
      refine ⟨_, rfl, rfl, _, rfl, ?_⟩
      rw [decide_eq_false (np (by decide +kernel))]
      refine q_next ?_
      dsimp only
      refine q_seq (q_if ?_)
      refine ⟨_, rfl, rfl, _, rfl, ?_⟩
      rw [decide_eq_false (np (by decide +kernel))]
      refine q_next ?_
      dsimp only
      refine q_seq (q_if ?_)
      refine ⟨_, rfl, rfl, _, rfl, ?_⟩
      rw [decide_eq_true rfl]
      dsimp only
      rw [if_pos rfl]
      refine q_ret ?_
      refine ⟨.ref p, rfl, p, dx, _, rfl, hp, l0 _ (by decide +kernel) (by decide +kernel), one, rfl, other, rfl, p, k, ms, one, other, rfl, pr, kn, kn2, fun e1 d H' s' hd => num_end (CU := CU) XN E1 (q1 e1) s' hd, fun e1 e2 d H' s' hd => num_end (CU := CU) XN E1 (q2 e1 e2) s' hd, fun e1 e2 e3 d H' s' hd => und_end XU E2 te0 (q3 e1 e2 e3) s' hd, fun i n b e1 e2 e3 e4 e5 e6 H' x s' pr' => made_end (q4 i n b e1 e2 e3 e4 e5 e6) s' pr'⟩
    · refine q_seq (q_if ?_)
      refine ⟨_, rfl, rfl, _, rfl, ?_⟩
      rw [decide_eq_false (np (by decide +kernel))]
      refine q_next ?_
      dsimp only
      refine q_seq (q_if ?_)
      refine ⟨_, rfl, rfl, _, rfl, ?_⟩
      rw [decide_eq_false (np (by decide +kernel))]
      refine q_next ?_
      dsimp only
      refine q_seq (q_if ?_)
      refine ⟨_, rfl, rfl, _, rfl, ?_⟩
      rw [decide_eq_false (np (by decide +kernel))]
      refine q_next ?_
      dsimp only
      refine q_ret ?_
      refine ⟨.ref p, rfl, p, dx, _, rfl, hp, l0 _ (by decide +kernel) (by decide +kernel), one, rfl, other, rfl, p, k, ms, one, other, rfl, pr, hA, kn, fun e1 d H' s' hd => num_end (CU := CU) XN E1 (q1 e1) s' hd, fun n e1 e2 e3 e4 d H' s' hd => num_end (CU := CU) XN E1 (q2 n e1 e2 e3 e4) s' hd, fun n ps e1 e2 e3 e4 e5 e6 H' x s' pr' => made_end (q3 n ps e1 e2 e3 e4 e5 e6) s' pr'⟩
end
end C3

namespace C3
open PySem PySem.Spec PyProof.Rows L2 Ek
/-- a value that is told whatever the heap -/
structure FlatV (K : PySem.W.Frag) (v : V) (d : PyData) : Prop where
  kn : ∀ H, Kn H v
  dp : ∀ H, Dp K H v d
  ok : Okd d
  tx : Tx d
theorem flat_int {K : PySem.W.Frag} {i : Int} (h : i.natAbs < 10 ^ 12) : FlatV K (.int i) (.int i) := ⟨fun _ => .int _, fun _ => .int _, (Sm.int h).okd (by decide) (by decide), Tx.int⟩
theorem flat_bl {K : PySem.W.Frag} {b : Bool} : FlatV K (.bl b) (.bool b) := ⟨fun _ => .bl _, fun _ => .bl _, by cases b <;> (refine ⟨?_, ?_, ?_, ?_⟩ <;> decide +kernel), Tx.bool⟩
theorem flat_non {K : PySem.W.Frag} : FlatV K .non .none := ⟨fun _ => .non, fun _ => .non, by refine ⟨?_, ?_, ?_, ?_⟩ <;> decide +kernel, Tx.none⟩
theorem pick5 {K : PySem.W.Frag} {a b : Int} {c : Bool} {s : Str} {ds : PyData} {r : Int} (r0 : 0 ≤ r) (r1 : r < 5) (ha : a.natAbs < 10 ^ 12) (hb : b.natAbs < 10 ^ 12) (hs : FlatV K (.str s) ds) : ∃ (j : Nat) (v : V) (d : PyData), r = (j : Int) ∧ ([.int a, .int b, .bl c, .non, .str s] : List V)[j]? = some v ∧ FlatV K v d := by
  have r' : r = ((0 : Nat) : Int) ∨ r = ((1 : Nat) : Int) ∨ r = ((2 : Nat) : Int) ∨ r = ((3 : Nat) : Int) ∨ r = ((4 : Nat) : Int) := by omega
  rcases r' with e | e | e | e | e
  · exact ⟨0, _, _, e, rfl, flat_int ha⟩
  · exact ⟨1, _, _, e, rfl, flat_int hb⟩
  · exact ⟨2, _, _, e, rfl, flat_bl⟩
  · exact ⟨3, _, _, e, rfl, flat_non⟩
  · exact ⟨4, _, _, e, rfl, hs⟩
theorem inB_isB {k : Nat} {v : V} : inB 0 ((k : Int) - 1) v = isB k v := by
  cases v with
  | int i =>
    show (decide (0 ≤ i) && decide (i ≤ (k : Int) - 1)) = (decide (0 ≤ i) && decide (i < (k : Int)))
    rw [Bool.eq_iff_iff, Bool.and_eq_true, Bool.and_eq_true, decide_eq_true_iff, decide_eq_true_iff, decide_eq_true_iff]
    omega
  | _ => rfl
theorem inB_is2 {v : V} : inB 0 1 v = isB 2 v := by
  cases v with
  | int i =>
    show (decide (0 ≤ i) && decide (i ≤ 1)) = (decide (0 ≤ i) && decide (i < 2))
    rw [Bool.eq_iff_iff, Bool.and_eq_true, Bool.and_eq_true, decide_eq_true_iff, decide_eq_true_iff, decide_eq_true_iff]
    omega
  | _ => rfl
theorem shaped3 {a s : Str} (h0 : PyData.strOk a = true) (h : PyData.strOk s = true) : SeqAt.shaped (.tuple [.str a, .str s, .bool true]) = true := by
  unfold SeqAt.shaped
  simp [PyData.canLay0, PyData.canLayAll0, PyData.depth, PyData.depthAll, h, h0]
/-- two such tuples, told the same -/
theorem due_eq {K : PySem.W.Frag} {H : Hp} {t u : Addr} {a s : Str} {Q : VK} (h0 : PyData.strOk a = true) (h : PyData.strOk s = true) (ht : H t = some (.tup [.str a, .str s, .bl true])) (hu : H u = some (.tup [.str a, .str s, .bl true])) (q : Q (.bl false) H) : rNeD K (.ref t) (.ref u) H Q := by
  refine ⟨_, _, .tup (tl ht) (.cons (.str _) (.cons (.str _) (.cons (.bl _) .nil))), .tup (tl hu) (.cons (.str _) (.cons (.str _) (.cons (.bl _) .nil))), shaped3 h0 h, shaped3 h0 h, ?_⟩
  rw [SeqAt.eqv_refl _ (SeqAt.canLay_of_shaped (shaped3 h0 h))]
  exact q
section
variable {P : Program} {w : World} {K : PySem.W.Frag} {mg : Str → Option Value} {base : Heap}
/-- what stays known: the hand, the own price as a tuple, the price as an object -/
structure Own (C h dr p q t : Addr) (k : Nat) (ms : List Int) (H : Hp) : Prop where
  hd : Hdd H h dr
  hq : H q = some (.tup [.int k, .ref t])
  ht : H t = some (.tup (ms.map V.int))
  pr : PrAt C H p k ms
theorem Own.same {C h dr p q t : Addr} {k : Nat} {ms : List Int} {H H' : Hp} (s : Same H H') (x : Own C h dr p q t k ms H) : Own C h dr p q t k ms H' := ⟨x.hd.same s, s _ _ x.hq, s _ _ x.ht, x.pr.same s⟩
theorem Own.kp {C h dr p q t : Addr} {k : Nat} {ms : List Int} {H H' : Hp} (kp : Kp h H H') (hd : Hdd H' h dr) (x : Own C h dr p q t k ms H) : Own C h dr p q t k ms H' := ⟨hd, kp _ _ (x.hd.ns x.hq (fun _ _ z => by cases z)) x.hq, kp _ _ (x.hd.ns x.ht (fun _ _ z => by cases z)) x.ht, x.pr.kp x.hd kp⟩
theorem bd_cost {ms bs : List Int} (hb : Bd (-1000000000) 1000000000 ms) : -1000000000 ≤ costL ms bs ∧ costL ms bs ≤ 1000000000 := by
  unfold costL
  rw [List.getD_eq_getElem?_getD]
  cases e : ms[(num bs).toNat]? with
  | none => exact ⟨by decide, by decide⟩
  | some x => exact hb x (List.mem_of_getElem? e)
theorem bd_map {α : Type} {f : α → Int} {l : List α} (h : ∀ x, -1000000000 ≤ f x ∧ f x ≤ 1000000000) : Bd (-(10 ^ 17)) (10 ^ 17) (l.map f) := fun x m => by
  obtain ⟨y, _, rfl⟩ := List.mem_map.mp m
  have z := h y
  omega
def spFix (K : PySem.W.Frag) (C : Addr) : Sp := fun vs H Q _ => ∃ (h dr p q t : Addr) (k : Nat) (ms : List Int), vs = [.ref h, .ref p, .ref q] ∧ Own C h dr p q t k ms H ∧ Bd (-1000000000) 1000000000 ms ∧ ∀ H', Kp h H H' → Hdd H' h dr → Q (.bl true) H'
theorem ok_fixed {f fTake fDone fIsN fEvery fIs fCost C : Addr} {fd fdTake fdDone fdIsN fdEvery fdIs fdCost : FuncData} (F : Fun K "_law_fixed_is" "_law_fixed_is" sFixedIs f fd) (B : Bt mg) (GTake : FnOk P w K mg base CX0 1 fTake fdTake ["hand", "many"] spTake) (kTake : PySem.W.keepIn K (.ref fTake) = true) (bTake : Binds K fdTake ["hand", "many"] []) (gTake : mg "_law_take" = some (.ref fTake)) (GDone : FnG P w K mg base CX0 7 fDone fdDone ["deed", "price", "one", "other"] (spDone K C)) (kDone : PySem.W.keepIn K (.ref fDone) = true) (bDone : Binds K fdDone ["deed", "price", "one", "other"] []) (gDone : mg "_law_done" = some (.ref fDone)) (GIsN : FnOk P w K mg base CX0 1 fIsN fdIsN ["value", "least", "most"] spIsN) (kIsN : PySem.W.keepIn K (.ref fIsN) = true) (bIsN : Binds K fdIsN ["value", "least", "most"] []) (gIsN : mg "_law_is_number" = some (.ref fIsN)) (GEvery : FnOk P w K mg base CX0 1 fEvery fdEvery ["many"] spEv) (kEvery : PySem.W.keepIn K (.ref fEvery) = true) (bEvery : Binds K fdEvery ["many"] []) (gEvery : mg "_law_every" = some (.ref fEvery)) (GIs : FnG P w K mg base CX0 1 fIs fdIs ["made", "size", "amounts"] (spIs C)) (kIs : PySem.W.keepIn K (.ref fIs) = true) (bIs : Binds K fdIs ["made", "size", "amounts"] []) (gIs : mg "_law_is" = some (.ref fIs)) (GCost : FnOk P w K mg base CX0 2 fCost fdCost ["price", "row"] spCost) (kCost : PySem.W.keepIn K (.ref fCost) = true) (bCost : Binds K fdCost ["price", "row"] []) (gCost : mg "_law_cost" = some (.ref fCost)) : FnG P w K mg base CX0 8 f fd ["hand", "price", "own"] (spFix K C) := by
  refine okG F scFixedIs (fun vs H Q E h => ?_) (fun cdv A outer s H vs Q E hr gd h => ?_)
  · obtain ⟨h, dr, p, q, t, k, ms, rfl, _⟩ := h
    rfl
  · obtain ⟨h, dr, p, q, t, k, ms, rfl, ow, hb, qq⟩ := h
    refine ⟨_, (pss_cons (ps_asg (pv 2) (pg_tup (by rfl) (pgs_cons (pg_name (i := 3) scFixedIs.nd rfl (.inl rfl)) (pgs_cons (pg_name (i := 4) scFixedIs.nd rfl (.inl rfl)) pgs_nil))))
      (pss_cons (ps_for PassesOwn.never rfl (pi_range1 rfl B.range (pa_cons pe_int pa_nil)) (pg_name (i := 5) scFixedIs.nd rfl (.inl rfl))
      (pss_cons (ps_set (i := 6) scFixedIs.nd rfl (.inr rfl) (pe_ix ix_list (pe_lst (pa_cons (pe_call GTake (hr.mono (by decide)) (by rfl) gTake kTake bTake .nil pass0 (pa_cons (pv 0) (pa_cons (pv 3) pa_nil))) (pa_cons (pe_ix ix_list (pe_lst (pa_cons (pe_un un_neg pe_int) (pa_cons (pv 3) (pa_cons pe_bl (pa_cons pe_non (pa_cons pe_str pa_nil)))))) (pe_call GTake (hr.mono (by decide)) (by rfl) gTake kTake bTake .nil pass0 (pa_cons (pv 0) (pa_cons pe_int pa_nil))) (fun _ _ => rfl)) pa_nil))) (pe_callTy call_int1 (by rfl) B.int (by decide +kernel) (pa_cons (pe_cmpR op_eq (pe_call GTake (hr.mono (by decide)) (by rfl) gTake kTake bTake .nil pass0 (pa_cons (pv 0) (pa_cons pe_int pa_nil))) pe_int (nomark _)) pa_nil)) (fun _ _ => rfl)))
      (pss_cons (ps_set (i := 7) scFixedIs.nd rfl (.inr rfl) (pe_ix ix_list (pe_lst (pa_cons (pe_call GTake (hr.mono (by decide)) (by rfl) gTake kTake bTake .nil pass0 (pa_cons (pv 0) (pa_cons pe_int pa_nil))) (pa_cons (pe_ix ix_list (pe_lst (pa_cons (pe_un un_neg pe_int) (pa_cons pe_int (pa_cons pe_bl (pa_cons pe_non (pa_cons pe_str pa_nil)))))) (pe_call GTake (hr.mono (by decide)) (by rfl) gTake kTake bTake .nil pass0 (pa_cons (pv 0) (pa_cons pe_int pa_nil))) (fun _ _ => rfl)) pa_nil))) (pe_callTy call_int1 (by rfl) B.int (by decide +kernel) (pa_cons (pe_cmpR op_eq (pe_call GTake (hr.mono (by decide)) (by rfl) gTake kTake bTake .nil pass0 (pa_cons (pv 0) (pa_cons pe_int pa_nil))) pe_int (nomark _)) pa_nil)) (fun _ _ => rfl)))
      (pss_cons (ps_set (i := 8) scFixedIs.nd rfl (.inl rfl) (pe_callG GDone (hr.mono (by decide)) gd (by rfl) gDone kDone bDone .nil pass0 (pa_cons pe_str (pa_cons (pv 1) (pa_cons (pv 6) (pa_cons (pv 7) pa_nil))))))
      (pss_cons (ps_if (pt_not (pt_val (pe_call GIsN (hr.mono (by decide)) (by rfl) gIsN kIsN bIsN .nil pass0 (pa_cons (pv 6) (pa_cons pe_int (pa_cons (pe_op op_sub (pv 3) pe_int) pa_nil))))))
      (pss_one (ps_set (i := 9) scFixedIs.nd rfl (.inl rfl) (pe_tup (pa_cons pe_str (pa_cons (pe_callB (call_reprA gd hr.units) (by rfl) B.repr (by decide +kernel) (pa_cons (pv 6) pa_nil)) (pa_cons pe_bl pa_nil)))))) (pss_one (ps_if (pt_not (pt_val (pe_call GIsN (hr.mono (by decide)) (by rfl) gIsN kIsN bIsN .nil pass0 (pa_cons (pv 7) (pa_cons pe_int (pa_cons pe_int pa_nil))))))
      (pss_one (ps_set (i := 9) scFixedIs.nd rfl (.inl rfl) (pe_tup (pa_cons pe_str (pa_cons (pe_callB (call_reprA gd hr.units) (by rfl) B.repr (by decide +kernel) (pa_cons (pv 7) pa_nil)) (pa_cons pe_bl pa_nil)))))) (pss_one (ps_if (pt_cmpR op_eq (pv 3) pe_int (nomark _))
      (pss_one (ps_set (i := 9) scFixedIs.nd rfl (.inl rfl) (pe_tup (pa_cons pe_str (pa_cons pe_str (pa_cons pe_bl pa_nil)))))) (pss_cons (ps_setLc (i := 10) (own := [("row", 11)]) (g := gName 11) (tt := tYes) rfl scFixedIs.nd rfl rfl (sw_true rfl rfl rfl (by decide +kernel)) (pi_list (pe_call GEvery (hr.mono (by decide)) (by rfl) gEvery kEvery bEvery .nil pass0 (pa_cons (pe_op op_sub (pv 3) pe_int) pa_nil))) (blkOk_by (N := NFixedIs) (sc := defScope sFixedIs) (by decide +kernel)) (fun _ _ _ _ _ => pg_name (i := 11) scFixedIs.nd rfl (Or.inl rfl)) (fun _ _ _ _ _ => pts_nil) (fun _ _ _ _ _ => (pe_op (op_catAk K rfl) (pe_op (op_catAk K rfl) (pe_slice (sl_tupk K rfl) (pv 11) po_none (po_some (pv 6))) (pe_tup (pa_cons (pv 7) pa_nil))) (pe_slice (sl_tupk K rfl) (pv 11) (po_some (pv 6)) po_none))))
      (pss_cons (ps_if (pt_not (pt_val (pe_callG GIs (hr.mono (by decide)) gd (by rfl) gIs kIs bIs .nil pass0 (pa_cons (pv 8) (pa_cons (pe_op op_sub (pv 3) pe_int) (pa_cons (pe_lc (own := [("row", 11)]) (g := gName 11) (tt := tYes) rfl scFixedIs.nd (pi_list (pv 10)) (blkOk_by (N := NFixedIs) (sc := defScope sFixedIs) (by decide +kernel)) (fun _ _ _ _ _ => pg_name (i := 11) scFixedIs.nd rfl (Or.inl rfl)) (fun _ _ _ _ _ => pts_nil) (fun _ _ _ _ _ => (pe_call GCost (hr.mono (by decide)) (by rfl) gCost kCost bCost .nil pass0 (pa_cons (pv 2) (pa_cons (pv 11) pa_nil))))) pa_nil))))))
      (pss_one (ps_ret pe_bl)) pss_nil)
      (pss_one ps_continue))))))))
      (pss_one (ps_if (pt_cmpR (op_neD hr.units) (pv 8) (pv 9) (nomark _))
      (pss_one (ps_ret pe_bl)) pss_nil)))))))
      (pss_one (ps_ret pe_bl)))), ?_⟩
    obtain ⟨dx, ta, hp, hta, k1, k3, hl⟩ := id ow.pr
    refine q_seq (q_asg ?_)
    refine ⟨.ref q, rfl, q, _, rfl, tl ow.hq, rfl, _, _, rfl, _, _, rfl, rfl, ?_⟩
    dsimp only
    refine q_seq ?_
    refine ⟨3, rfl, by decide, by decide, for_range (lo := 0) (n := 3) (fun i σ H' => ∃ c1 c2 c3 c4 c5 c6 : Option V, σ = [some (.ref h), some (.ref p), some (.ref q), some (.int k), some (.ref t), c1, c2, c3, c4, c5, c6, none] ∧ Kp h H H' ∧ Own C h dr p q t k ms H') ⟨none, none, none, none, none, none, rfl, Kp.refl, ow⟩ (fun i σ H1 hi hP => ?_) (fun σ H1 hP => ?_)⟩
    rotate_left
    · obtain ⟨c1, c2, c3, c4, c5, c6, rfl, kp, ow1⟩ := hP
      dsimp only
      refine q_ret ?_
      exact qq _ kp ow1.hd
    obtain ⟨c1, c2, c3, c4, c5, c6, rfl, kp0, ow1⟩ := hP
    clear ow
    -- place
    refine q_seq (q_set ?_)
    refine ⟨.ref h, rfl, .int k, rfl, h, dr, k, rfl, ow1.hd, by omega, fun r1 H2 a1 b1 e1 hd2 => ⟨1, rfl, .int k, rfl, by show 5 ≤ sizeLine; decide, fun L1 nL1 => ?_⟩⟩
    have s1 := same_upd (o := .lst [.int (-1), .int k, .bl true, .non, .str "0"]) nL1
    refine ⟨.ref h, rfl, h, dr, 5, rfl, hd2.same s1, by decide, fun r2 H3 a2 b2 e2 hd3 => ?_⟩
    obtain ⟨j5, v5, d5, ej5, ev5, fv5⟩ := pick5 (K := K) (a := -1) (b := k) (c := true) (s := "0") a2 b2 (by decide) (by omega) ⟨fun _ => .str _, fun _ => .str _, by refine ⟨?_, ?_, ?_, ?_⟩ <;> decide +kernel, by unfold Tx; decide +kernel⟩
    refine ⟨L1, _, r2, v5, rfl, rfl, sl ((e2 _ (hd2.ne nL1)).trans upd_same), at_z ej5 ev5, by show 2 ≤ sizeLine; decide, fun L2 nL2 => ?_⟩
    have s2 := same_upd (o := .lst [.int r1, v5]) nL2
    refine ⟨.ref h, rfl, h, dr, 4, rfl, hd3.same s2, by decide, fun r3 H4 a3 b3 e3 hd4 => ⟨rfl, .inr ⟨_, rfl, ?_⟩⟩⟩
    have kp4 : Kp h H1 H4 := (Kp.eq e1).trans ((Kp.of s1).trans ((Kp.eq e2).trans ((Kp.of s2).trans (Kp.eq e3))))
    obtain ⟨jp, yp, dp, ejp, evp, fp⟩ : ∃ (j : Nat) (v : V) (d : PyData), (if decide (V.int r3 = V.int 0) = true then (1 : Int) else 0) = (j : Int) ∧ ([V.int r1, v5] : List V)[j]? = some v ∧ FlatV K v d := by
      by_cases e9 : V.int r3 = V.int 0
      · exact ⟨1, v5, d5, by rw [decide_eq_true e9]; rfl, rfl, fv5⟩
      · exact ⟨0, _, _, by rw [decide_eq_false e9]; rfl, rfl, flat_int (by omega)⟩
    refine ⟨L2, _, _, yp, rfl, rfl, sl ((e3 _ (hd3.ne nL2)).trans upd_same), at_z ejp evp, ?_⟩
    replace ow1 := ow1.kp kp4 hd4
    replace kp0 := kp0.trans kp4
    clear kp4 e1 e2 e3 s1 s2 nL1 nL2 hd2 hd3 hd4 a1 b1 a2 b2 ej5 ev5 fv5 ejp evp
    dsimp only
    -- value
    refine q_seq (q_set ?_)
    refine ⟨.ref h, rfl, h, dr, 2, rfl, ow1.hd, by decide, fun r1 H2 a1 b1 e1 hd2 => ⟨1, rfl, by show 5 ≤ sizeLine; decide, fun L1 nL1 => ?_⟩⟩
    have s1 := same_upd (o := .lst [.int (-1), .int 2, .bl false, .non, .str "1"]) nL1
    refine ⟨.ref h, rfl, h, dr, 5, rfl, hd2.same s1, by decide, fun r2 H3 a2 b2 e2 hd3 => ?_⟩
    obtain ⟨j5, v5, d5, ej5, ev5, fv5⟩ := pick5 (K := K) (a := -1) (b := 2) (c := false) (s := "1") a2 b2 (by decide) (by decide) ⟨fun _ => .str _, fun _ => .str _, by refine ⟨?_, ?_, ?_, ?_⟩ <;> decide +kernel, by unfold Tx; decide +kernel⟩
    refine ⟨L1, _, r2, v5, rfl, rfl, sl ((e2 _ (hd2.ne nL1)).trans upd_same), at_z ej5 ev5, by show 2 ≤ sizeLine; decide, fun L2 nL2 => ?_⟩
    have s2 := same_upd (o := .lst [.int r1, v5]) nL2
    refine ⟨.ref h, rfl, h, dr, 4, rfl, hd3.same s2, by decide, fun r3 H5 a3 b3 e3 hd4 => ⟨rfl, .inr ⟨_, rfl, ?_⟩⟩⟩
    have kp4 : Kp h H4 H5 := (Kp.eq e1).trans ((Kp.of s1).trans ((Kp.eq e2).trans ((Kp.of s2).trans (Kp.eq e3))))
    obtain ⟨jv, yv, dv, ejv, evv, fv⟩ : ∃ (j : Nat) (v : V) (d : PyData), (if decide (V.int r3 = V.int 0) = true then (1 : Int) else 0) = (j : Int) ∧ ([V.int r1, v5] : List V)[j]? = some v ∧ FlatV K v d := by
      by_cases e9 : V.int r3 = V.int 0
      · exact ⟨1, v5, d5, by rw [decide_eq_true e9]; rfl, rfl, fv5⟩
      · exact ⟨0, _, _, by rw [decide_eq_false e9]; rfl, rfl, flat_int (by omega)⟩
    refine ⟨L2, _, _, yv, rfl, rfl, sl ((e3 _ (hd3.ne nL2)).trans upd_same), at_z ejv evv, ?_⟩
    replace ow1 := ow1.kp kp4 hd4
    replace kp0 := kp0.trans kp4
    clear kp4 e1 e2 e3 s1 s2 nL1 nL2 hd2 hd3 hd4 a1 b1 a2 b2 ej5 ev5 fv5 ejv evv
    dsimp only
    -- done
    refine q_seq (q_set ?_)
    refine ⟨.ref p, rfl, yp, rfl, yv, rfl, "fixed", p, k, ms, yp, yv, rfl, ow1.pr, .inr (.inr (.inl ⟨rfl, fp.kn _, fv.kn _, ?_, ?_, ?_, ?_⟩))⟩
    · intro e0
      refine ⟨dp, fp.dp _, fp.ok, fun td H6 s6 htd => ?_⟩
      dsimp only
      refine q_seq (q_if ?_)
      refine ⟨yp, rfl, .int k, rfl, _, _, rfl, rfl, yp, 0, (k : Int) - 1, rfl, fp.kn _, _, rfl, ?_⟩
      rw [inB_isB, e0]
      dsimp only
      rw [if_pos (show (!false) = true by decide)]
      refine q_set ?_
      refine ⟨yp, rfl, _, dp, rfl, fp.dp _, fp.ok, by show 3 ≤ sizeLine; decide, fun tu ntu => ?_⟩
      dsimp only
      refine q_if ?_
      refine ⟨.ref td, rfl, .ref tu, rfl, due_eq (by decide +kernel) fp.tx (same_upd ntu _ _ htd) upd_same ⟨_, rfl, ?_⟩⟩
      refine q_next ?_
      exact ⟨_, _, _, _, _, _, rfl, kp0.trans (Kp.of (s6.trans (same_upd ntu))), ow1.same (s6.trans (same_upd ntu))⟩
    · intro e0 e1
      refine ⟨dv, fv.dp _, fv.ok, fun td H6 s6 htd => ?_⟩
      dsimp only
      refine q_seq (q_if ?_)
      refine ⟨yp, rfl, .int k, rfl, _, _, rfl, rfl, yp, 0, (k : Int) - 1, rfl, fp.kn _, _, rfl, ?_⟩
      rw [inB_isB, e0]
      dsimp only
      rw [if_neg (show ¬ (!true) = true by decide)]
      refine q_if ?_
      refine ⟨yv, rfl, yv, 0, 1, rfl, fv.kn _, _, rfl, ?_⟩
      rw [inB_is2, e1]
      dsimp only
      rw [if_pos (show (!false) = true by decide)]
      refine q_set ?_
      refine ⟨yv, rfl, _, dv, rfl, fv.dp _, fv.ok, by show 3 ≤ sizeLine; decide, fun tu ntu => ?_⟩
      dsimp only
      refine q_if ?_
      refine ⟨.ref td, rfl, .ref tu, rfl, due_eq (by decide +kernel) fv.tx (same_upd ntu _ _ htd) upd_same ⟨_, rfl, ?_⟩⟩
      refine q_next ?_
      exact ⟨_, _, _, _, _, _, rfl, kp0.trans (Kp.of (s6.trans (same_upd ntu))), ow1.same (s6.trans (same_upd ntu))⟩
    · intro e0 e1 ek td H6 s6 htd
      dsimp only
      refine q_seq (q_if ?_)
      refine ⟨yp, rfl, .int k, rfl, _, _, rfl, rfl, yp, 0, (k : Int) - 1, rfl, fp.kn _, _, rfl, ?_⟩
      rw [inB_isB, e0]
      dsimp only
      rw [if_neg (show ¬ (!true) = true by decide)]
      refine q_if ?_
      refine ⟨yv, rfl, yv, 0, 1, rfl, fv.kn _, _, rfl, ?_⟩
      rw [inB_is2, e1]
      dsimp only
      rw [if_neg (show ¬ (!true) = true by decide)]
      refine q_if ?_
      refine ⟨.int k, rfl, rfl, _, rfl, ?_⟩
      rw [decide_eq_true (by rw [ek]; rfl)]
      dsimp only
      rw [if_pos rfl]
      refine q_set ?_
      refine ⟨by show 3 ≤ sizeLine; decide, fun tu ntu => ?_⟩
      dsimp only
      refine q_if ?_
      refine ⟨.ref td, rfl, .ref tu, rfl, due_eq (by decide +kernel) (by decide +kernel) (same_upd ntu _ _ htd) upd_same ⟨_, rfl, ?_⟩⟩
      refine q_next ?_
      exact ⟨_, _, _, _, _, _, rfl, kp0.trans (Kp.of (s6.trans (same_upd ntu))), ow1.same (s6.trans (same_upd ntu))⟩
    · intro ip n b ep lip evb hbb ekn n1 td x H6 s6 htd prx
      subst ep evb
      dsimp only
      refine q_seq (q_if ?_)
      refine ⟨_, rfl, .int k, rfl, _, _, rfl, rfl, .int ip, 0, (k : Int) - 1, rfl, .int _, _, rfl, ?_⟩
      rw [inB_isB, show isB k (.int (ip : Int)) = true by show (decide (0 ≤ (ip : Int)) && decide ((ip : Int) < (k : Int))) = true; rw [decide_eq_true (by omega), decide_eq_true (by omega)]; rfl]
      dsimp only
      rw [if_neg (show ¬ (!true) = true by decide)]
      refine q_if ?_
      refine ⟨_, rfl, .int b, 0, 1, rfl, .int _, _, rfl, ?_⟩
      rw [inB_is2, show isB 2 (.int b) = true by rcases hbb with rfl | rfl <;> rfl]
      dsimp only
      rw [if_neg (show ¬ (!true) = true by decide)]
      refine q_if ?_
      refine ⟨.int k, rfl, rfl, _, rfl, ?_⟩
      rw [decide_eq_false (fun z => by have z' := V.int.inj z; omega)]
      dsimp only
      rw [if_neg (show ¬ false = true by decide)]
      replace ow1 := ow1.same s6
      replace kp0 := kp0.trans (Kp.of s6)
      have en : (k : Int) - 1 = (n : Int) := by omega
      -- rows
      refine q_seq (q_set ?_)
      refine ⟨.int k, rfl, _, _, rfl, rfl, n, by show [V.int ((k : Int) - 1)] = _; rw [en], by omega, fun H7 pe rs s7 n7 h7 rw7 => ?_⟩
      refine ⟨pe, rfl, ⟨_, sl h7⟩, fun D nD => lc_list (K := K) (a := pe) (xs := rs.map V.ref) (fun j H' => Same H7 H' ∧ ∃ us : List Addr, H' D = some (.lst (us.map V.ref)) ∧ Rws H' us (((rowsOf n).take j).map fun r => putB r ip b)) ⟨same_upd nD, [], upd_same, by rw [List.take_zero]; exact .nil⟩ (fun j H' _ hP => sl (hP.1 _ _ h7)) (fun j y H2 hy hP => ?_) (fun H2 hP => ?_)⟩
      · obtain ⟨s2, us, hD, rwU⟩ := hP
        obtain ⟨r, bs, rfl, hbs, hr7⟩ := rws_at rw7 hy
        have lb := row_len n bs (List.mem_of_getElem? hbs)
        have lbV : (bs.map V.int).length = n := by rw [List.length_map, lb]
        have hr2 := s2 _ _ hr7
        have lu : us.length ≤ 8 := by
          rw [paired_len rwU, List.length_map, List.length_take]
          exact Nat.le_trans (Nat.min_le_right _ _) (rows8 (by omega))
        refine ⟨rfl, .ref r, rfl, .int (ip : Int), rfl, _, rfl, ?_⟩
        refine sl_A hr2 (cut_hi _ ip) fun u1 G1 g1 f1 => ?_
        refine ⟨.int b, rfl, by show 1 ≤ sizeLine; decide, fun u2 nu2 => ?_⟩
        refine cat_A (same_upd nu2 _ _ f1) upd_same (by rw [List.length_take, lbV]; show _ + 1 ≤ _; omega) fun u3 G3 g3 f3 => ?_
        have g13 := g1.trans ((same_upd (o := .tup [.int b]) nu2).trans g3)
        refine ⟨.ref r, rfl, .int (ip : Int), rfl, _, rfl, ?_⟩
        refine noPart ?_
        refine sl_A (g13 _ _ hr2) (cut_lo _ ip) fun u4 G4 g4 f4 => ?_
        refine cat_A (g4 _ _ f3) f4 (by rw [List.length_append, List.length_take, List.length_drop, lbV, List.length_cons, List.length_nil]; omega) fun u5 G5 g5 f5 => ?_
        have gA := g13.trans (g4.trans g5)
        have f5' : G5 u5 = some (.tup ((putB bs ip b).map V.int)) := by
          rw [f5]
          unfold putB
          rw [List.map_append, List.map_append, List.map_take, List.map_drop]
          rfl
        refine ⟨_, gA _ _ hD, by rw [List.length_map]; exact small1000 (by omega), fun c o z => ?_, us ++ [u5], by rw [upd_same, List.map_append]; rfl, ?_⟩
        · rw [upd_ne (ne_of_none z nD)]
          exact gA _ _ (s2 _ _ z)
        · rw [List.take_add_one, hbs, List.map_append]
          exact Rws.updL (gA _ _ hD) (paired_app (rwU.same gA) (.cons f5' .nil))
      obtain ⟨s2, us, hD, rwU⟩ := hP
      rw [List.length_map, paired_len rw7, List.take_length] at rwU
      have s72 := s7.trans s2
      dsimp only
      -- is it
      refine q_seq (q_if ?_)
      refine ⟨.ref td, rfl, .int k, rfl, _, _, rfl, rfl, .ref D, rfl, D, rfl, ⟨_, sl hD⟩, fun D2 nD2 => lc_list (K := K) (a := D) (xs := us.map V.ref) (fun j H' => Same H2 H' ∧ H' D2 = some (.lst ((((rowsOf n).take j).map fun r => costL ms (putB r ip b)).map V.int))) ⟨same_upd nD2, by rw [upd_same, List.take_zero]; rfl⟩ (fun j H' _ hP => sl (hP.1 _ _ hD)) (fun j y H8 hy hP => ?_) (fun H8 hP => ?_)⟩
      · obtain ⟨s8, hD2⟩ := hP
        obtain ⟨r, bs', rfl, hbs', hr2⟩ := rws_at rwU hy
        obtain ⟨bs, hbs, rfl⟩ : ∃ bs, (rowsOf n)[j]? = some bs ∧ bs' = putB bs ip b := by
          rw [List.getElem?_map] at hbs'
          cases e : (rowsOf n)[j]? with
          | none => rw [e] at hbs'; cases hbs'
          | some a => rw [e] at hbs'; exact ⟨a, rfl, (Option.some.inj hbs').symm⟩
        have mb := List.mem_of_getElem? hbs
        obtain ⟨pb, pl⟩ := put_ok (bits_rows n bs mb) (row_len n bs mb) (show ip ≤ n by omega) hbb
        have ow8 := ow1.same (s72.trans s8)
        refine ⟨rfl, .ref q, rfl, .ref r, rfl, q, t, r, k, ms, putB bs ip b, rfl, ow8.hq, ow8.ht, hl, k3, s8 _ _ hr2, pb, by omega, _, hD2, ?_, fun c o z => ?_, ?_⟩
        · rw [List.length_map, List.length_map, List.length_take]
          exact small1000 (Nat.le_trans (Nat.min_le_right _ _) (Nat.le_trans (rows8 (show n ≤ 3 by omega)) (by decide)))
        · rw [upd_ne (ne_of_none z nD2)]
          exact s8 _ _ z
        · rw [upd_same, List.take_add_one, hbs, List.map_append, List.map_append]
          rfl
      obtain ⟨s8, hD2⟩ := hP
      rw [List.length_map, paired_len rwU, List.length_map, List.take_length] at hD2
      have s78 := s72.trans s8
      refine ⟨td, x, D2, n, _, by show [V.ref td, V.int ((k : Int) - 1), V.ref D2] = _; rw [en], s78 _ _ htd, prx.same s78, ⟨D2, rfl, .inl hD2⟩, bd_map fun r => bd_cost hb, fun H9 s9 => ⟨true, rfl, ?_⟩⟩
      refine q_next ?_
      exact ⟨_, _, _, _, _, _, rfl, kp0.trans (Kp.of (s78.trans s9)), ow1.same (s78.trans s9)⟩
end
end C3

namespace C3
open PySem PySem.Spec PyProof.Rows L2 Ek
inductive Fl : V → Prop where
  | non : Fl .non
  | bl (b : Bool) : Fl (.bl b)
  | int (i : Int) (h1 : -3 ≤ i) (h2 : i ≤ 3) : Fl (.int i)
def toD : V → PyData
  | .bl b => .bool b
  | .int i => .int i
  | _ => .none
theorem Fl.kn {H : Hp} {v : V} (f : Fl v) : Kn H v := by
  cases f with
  | non => exact .non
  | bl b => exact .bl b
  | int i _ _ => exact .int i
theorem Fl.dp {K : PySem.W.Frag} {H : Hp} {v : V} (f : Fl v) : Dp K H v (toD v) := by
  cases f with
  | non => exact .non
  | bl b => exact .bl b
  | int i _ _ => exact .int i
theorem Fl.sm {v : V} (f : Fl v) : Sm 13 0 (toD v) := by
  cases f with
  | non => refine ⟨?_, ?_, ?_, ?_⟩ <;> decide +kernel
  | bl b => cases b <;> (refine ⟨?_, ?_, ?_, ?_⟩ <;> decide +kernel)
  | int i _ _ => exact Sm.int (by omega)
theorem fl_all {K : PySem.W.Frag} {H : Hp} : ∀ {xs : List V}, (∀ x ∈ xs, Fl x) → DpAll K H xs (xs.map toD)
  | [], _ => .nil
  | x :: xs, h => .cons (h x List.mem_cons_self).dp (fl_all fun y m => h y (List.mem_cons_of_mem _ m))
theorem fl_ok {xs : List V} (h : ∀ x ∈ xs, Fl x) (l : xs.length ≤ 9) : Okd (.tuple (xs.map toD)) ∧ Okd (.list (xs.map toD)) := by
  have z : ∀ d ∈ xs.map toD, Sm 13 0 d := fun d m => by
    obtain ⟨x, mx, rfl⟩ := List.mem_map.mp m
    exact (h x mx).sm
  exact ⟨(Sm.tuple z).okd (by rw [List.length_map]; omega) (by decide), (Sm.list z).okd (by rw [List.length_map]; omega) (by decide)⟩
theorem Fl.tx {v : V} (f : Fl v) : Tx (toD v) := by
  cases f with
  | non => exact Tx.none
  | bl b => exact Tx.bool
  | int i _ _ => exact Tx.int
theorem fl_tx {xs : List V} (h : ∀ x ∈ xs, Fl x) : Tx (.tuple (xs.map toD)) := Tx.tuple fun d m => by
  obtain ⟨x, mx, rfl⟩ := List.mem_map.mp m
  exact (h x mx).tx
theorem fl_nV {ps : List Nat} {n : Nat} (n3 : n ≤ 3) (h : ∀ i ∈ ps, i < n) : ∀ x ∈ nV ps, Fl x := fun x m => by
  obtain ⟨i, mi, rfl⟩ := List.mem_map.mp m
  have z := h i mi
  exact .int _ (by omega) (by omega)
theorem nV_kn {H : Hp} {ps : List Nat} : ∀ x ∈ nV ps, Kn H x := fun x m => by
  obtain ⟨i, _, rfl⟩ := List.mem_map.mp m
  exact .int _
theorem nV_len {ps : List Nat} : (nV ps).length = ps.length := by
  unfold nV
  rw [List.length_map]
theorem nV_inj : ∀ {ps qs : List Nat}, nV ps = nV qs → ps = qs
  | [], [], _ => rfl
  | [], _ :: _, h => by cases h
  | _ :: _, [], h => by cases h
  | p :: ps, q :: qs, h => by
    have h' : V.int (p : Int) :: nV ps = V.int (q : Int) :: nV qs := h
    have e1 := (List.cons.inj h').1
    have e2 := (List.cons.inj h').2
    rw [nV_inj e2]
    have z := V.int.inj e1
    rw [show p = q by omega]
/-- no size: told at this heap and behind -/
structure OddV (K : PySem.W.Frag) (h : Addr) (H : Hp) (v : V) (d : PyData) : Prop where
  kn : ∀ H2, Kp h H H2 → Kn H2 v
  dp : Dps K h H v d
  ok : Okd d
  tx : Tx d
  z : isZ v = false
theorem odd6 {K : PySem.W.Frag} {h t1 : Addr} {H : Hp} {r : Int} (r0 : 0 ≤ r) (r1 : r < 6) (n1 : t1 ≠ h) (e1 : H t1 = some (.tup [.int 1])) : ∃ (j : Nat) (v : V) (d : PyData), r = (j : Int) ∧ ([.int 0, .int 4, .bl true, .non, .str "2", .ref t1] : List V)[j]? = some v ∧ OddV K h H v d := by
  have r' : r = ((0 : Nat) : Int) ∨ r = ((1 : Nat) : Int) ∨ r = ((2 : Nat) : Int) ∨ r = ((3 : Nat) : Int) ∨ r = ((4 : Nat) : Int) ∨ r = ((5 : Nat) : Int) := by omega
  rcases r' with e | e | e | e | e | e
  · exact ⟨0, _, _, e, rfl, fun _ _ => .int _, fun _ _ => .int _, by refine ⟨?_, ?_, ?_, ?_⟩ <;> decide +kernel, Tx.int, rfl⟩
  · exact ⟨1, _, _, e, rfl, fun _ _ => .int _, fun _ _ => .int _, by refine ⟨?_, ?_, ?_, ?_⟩ <;> decide +kernel, Tx.int, rfl⟩
  · exact ⟨2, _, _, e, rfl, fun _ _ => .bl _, fun _ _ => .bl _, by refine ⟨?_, ?_, ?_, ?_⟩ <;> decide +kernel, Tx.bool, rfl⟩
  · exact ⟨3, _, _, e, rfl, fun _ _ => .non, fun _ _ => .non, by refine ⟨?_, ?_, ?_, ?_⟩ <;> decide +kernel, Tx.none, rfl⟩
  · exact ⟨4, _, _, e, rfl, fun _ _ => .str _, fun _ _ => .str _, by refine ⟨?_, ?_, ?_, ?_⟩ <;> decide +kernel, by unfold Tx; decide +kernel, rfl⟩
  · exact ⟨5, _, _, e, rfl, fun _ kp => .tup (kp _ _ n1 e1), fun _ kp => .tup (tl (kp _ _ n1 e1)) (.cons (.int 1) .nil), by refine ⟨?_, ?_, ?_, ?_⟩ <;> decide +kernel, by unfold Tx; decide +kernel, rfl⟩
/-- no k places of n -/
def BadP (K : PySem.W.Frag) (k n : Nat) (h : Addr) (H : Hp) (v : V) : Prop := ∃ d, (∀ H2, Kp h H H2 → Am H2 v) ∧ (∀ H2, Kp h H H2 → ∀ ps : List Nat, Mem H2 v (nV ps) → ps.length = k → (∀ i ∈ ps, i < n) → False) ∧ Dps K h H v d ∧ Okd d ∧ Tx d
theorem badp_tup {K : PySem.W.Frag} {k n : Nat} {h dr o : Addr} {H : Hp} {xs : List V} (hd : Hdd H h dr) (e : H o = some (.tup xs)) (fl : ∀ x ∈ xs, Fl x) (l : xs.length ≤ 9) (ng : xs.length ≠ k ∨ ∃ x ∈ xs, isB n x = false) : BadP K k n h H (.ref o) := by
  have nh := hd.ns e (fun _ _ z => by cases z)
  refine ⟨_, fun H2 kp => .tup (kp _ _ nh e) (fun x m => (fl x m).kn) (by omega), fun H2 kp ps m lp bp => ?_, fun H2 kp => .tup (tl (kp _ _ nh e)) (fl_all fl), (fl_ok fl l).1, fl_tx fl⟩
  have ex := mem_tup (kp _ _ nh e) m
  rcases ng with ng | ⟨x, mx, hx⟩
  · rw [← ex, nV_len] at ng
    exact ng lp
  · rw [← ex] at mx
    obtain ⟨i, mi, rfl⟩ := List.mem_map.mp mx
    have z := bp i mi
    have y : (decide (0 ≤ (i : Int)) && decide ((i : Int) < (n : Int))) = false := hx
    rw [decide_eq_true (by omega), decide_eq_true (by omega)] at y
    cases y
theorem badp_flat {K : PySem.W.Frag} {k n : Nat} {h : Addr} {H : Hp} {v : V} {d : PyData} (kn : ∀ H2, Kn H2 v) (nr : isR v = false) (dp : ∀ H2, Dp K H2 v d) (ok : Okd d) (tx : Tx d) : BadP K k n h H v :=
  ⟨d, fun H2 _ => .flat (kn H2) nr, fun H2 _ ps m _ _ => (by
    obtain ⟨a, e, _⟩ := m
    subst e
    cases nr), fun H2 _ => dp H2, ok, tx⟩
section
variable {P : Program} {w : World} {K : PySem.W.Frag} {mg : Str → Option Value} {base : Heap}
/-- (x,) + t[1:] and t + (x,) as they are laid -/
def spRead (K : PySem.W.Frag) (C : Addr) : Sp := fun vs H Q _ => ∃ (h dr p q t : Addr) (k : Nat) (ms : List Int), vs = [.ref h, .ref p, .ref q] ∧ Own C h dr p q t k ms H ∧ Bd (-1000000000) 1000000000 ms ∧ ∀ H', Kp h H H' → Hdd H' h dr → Q (.bl true) H'
theorem ok_read {f fTake fDone fEvery fIs fCost C : Addr} {fd fdTake fdDone fdEvery fdIs fdCost : FuncData} (F : Fun K "_law_read_is" "_law_read_is" sReadIs f fd) (B : Bt mg) (GTake : FnOk P w K mg base CX0 1 fTake fdTake ["hand", "many"] spTake) (kTake : PySem.W.keepIn K (.ref fTake) = true) (bTake : Binds K fdTake ["hand", "many"] []) (gTake : mg "_law_take" = some (.ref fTake)) (GDone : FnG P w K mg base CX0 7 fDone fdDone ["deed", "price", "one", "other"] (spDone K C)) (kDone : PySem.W.keepIn K (.ref fDone) = true) (bDone : Binds K fdDone ["deed", "price", "one", "other"] []) (gDone : mg "_law_done" = some (.ref fDone)) (GEvery : FnOk P w K mg base CX0 1 fEvery fdEvery ["many"] spEv) (kEvery : PySem.W.keepIn K (.ref fEvery) = true) (bEvery : Binds K fdEvery ["many"] []) (gEvery : mg "_law_every" = some (.ref fEvery)) (GIs : FnG P w K mg base CX0 1 fIs fdIs ["made", "size", "amounts"] (spIs C)) (kIs : PySem.W.keepIn K (.ref fIs) = true) (bIs : Binds K fdIs ["made", "size", "amounts"] []) (gIs : mg "_law_is" = some (.ref fIs)) (GCost : FnOk P w K mg base CX0 2 fCost fdCost ["price", "row"] spCost) (kCost : PySem.W.keepIn K (.ref fCost) = true) (bCost : Binds K fdCost ["price", "row"] []) (gCost : mg "_law_cost" = some (.ref fCost)) : FnG P w K mg base CX0 8 f fd ["hand", "price", "own"] (spRead K C) := by
  refine okG F scReadIs (fun vs H Q E h => ?_) (fun cdv A outer s H vs Q E hr gd h => ?_)
  · obtain ⟨h, dr, p, q, t, k, ms, rfl, _⟩ := h
    rfl
  · obtain ⟨h, dr, p, q, t, k, ms, rfl, ow, hb, qq⟩ := h
    refine ⟨_, (pss_cons (ps_set (i := 3) scReadIs.nd rfl (.inr rfl) (pe_op op_add pe_int (pe_call GTake (hr.mono (by decide)) (by rfl) gTake kTake bTake .nil pass0 (pa_cons (pv 0) (pa_cons pe_int pa_nil)))))
      (pss_cons (ps_set (i := 4) scReadIs.nd rfl (.inr rfl) (pe_callTy call_tuple_of (by rfl) B.tuple (by decide +kernel) (pa_cons (pe_lc (own := [("k", 9)]) (g := gName 9) (tt := tYes) rfl scReadIs.nd (pi_range1 rfl B.range (pa_cons (pe_ix ix_tup (pv 2) pe_int (fun _ _ => rfl)) pa_nil)) (blkOk_by (N := NReadIs) (sc := defScope sReadIs) (by decide +kernel)) (fun _ _ _ _ _ => pg_name (i := 9) scReadIs.nd rfl (Or.inl rfl)) (fun _ _ _ _ _ => pts_nil) (fun _ _ _ _ _ => (pe_call GTake (hr.mono (by decide)) (by rfl) gTake kTake bTake .nil pass0 (pa_cons (pv 0) (pa_cons (pv 3) pa_nil))))) pa_nil)))
      (pss_cons (ps_setLc (i := 5) (own := [("row", 8)]) (g := gName 8) (tt := tYes) rfl scReadIs.nd rfl rfl (sw_true rfl rfl rfl (by decide +kernel)) (pi_list (pe_call GEvery (hr.mono (by decide)) (by rfl) gEvery kEvery bEvery .nil pass0 (pa_cons (pv 3) pa_nil))) (blkOk_by (N := NReadIs) (sc := defScope sReadIs) (by decide +kernel)) (fun _ _ _ _ _ => pg_name (i := 8) scReadIs.nd rfl (Or.inr rfl)) (fun _ _ _ _ _ => pts_nil) (fun _ _ _ _ _ => (pe_callTy (call_tuple_ofk K rfl) (by rfl) B.tuple (by decide +kernel) (pa_cons (pe_lc (own := [("place", 10)]) (g := gName 10) (tt := tYes) rfl scReadIs.nd (pi_tupk K rfl (pv 4)) (blkOk_by (N := NReadIs) (sc := { kind := .function, names := [(".0", .local), ("row", .cell), ("tuple", .globalImplicit), ("places", .cell)], isGenerator := false, isCoroutine := false }) (by decide +kernel)) (fun _ _ _ _ _ => pg_name (i := 10) scReadIs.nd rfl (Or.inl rfl)) (fun _ _ _ _ _ => pts_nil) (fun _ _ _ _ _ => (pe_ix (ixt_k K rfl) (pv 8) (pv 10) (fun _ _ => rfl)))) pa_nil))))
      (pss_cons (ps_set (i := 6) scReadIs.nd rfl (.inl rfl) (pe_ix ix_list (pe_lst (pa_cons (pv 4) (pa_cons (pe_callTy call_list_of (by rfl) B.list (by decide +kernel) (pa_cons (pv 4) pa_nil)) pa_nil))) (pe_call GTake (hr.mono (by decide)) (by rfl) gTake kTake bTake .nil pass0 (pa_cons (pv 0) (pa_cons pe_int pa_nil))) (fun _ _ => rfl)))
      (pss_cons (ps_if (pt_not (pt_val (pe_callG GIs (hr.mono (by decide)) gd (by rfl) gIs kIs bIs .nil pass0 (pa_cons (pe_callG GDone (hr.mono (by decide)) gd (by rfl) gDone kDone bDone .nil pass0 (pa_cons pe_str (pa_cons (pv 1) (pa_cons (pv 6) (pa_cons (pv 3) pa_nil))))) (pa_cons (pv 3) (pa_cons (pe_lc (own := [("row", 8)]) (g := gName 8) (tt := tYes) rfl scReadIs.nd (pi_list (pv 5)) (blkOk_by (N := NReadIs) (sc := defScope sReadIs) (by decide +kernel)) (fun _ _ _ _ _ => pg_name (i := 8) scReadIs.nd rfl (Or.inl rfl)) (fun _ _ _ _ _ => pts_nil) (fun _ _ _ _ _ => (pe_call GCost (hr.mono (by decide)) (by rfl) gCost kCost bCost .nil pass0 (pa_cons (pv 2) (pa_cons (pv 8) pa_nil))))) pa_nil))))))
      (pss_one (ps_ret pe_bl)) pss_nil)
      (pss_cons (ps_set (i := 7) scReadIs.nd rfl (.inl rfl) (pe_ix ix_list (pe_lst (pa_cons pe_int (pa_cons pe_int (pa_cons pe_bl (pa_cons pe_non (pa_cons pe_str (pa_cons (pe_tup (pa_cons pe_int pa_nil)) pa_nil))))))) (pe_call GTake (hr.mono (by decide)) (by rfl) gTake kTake bTake .nil pass0 (pa_cons (pv 0) (pa_cons pe_int pa_nil))) (fun _ _ => rfl)))
      (pss_cons (ps_if (pt_cmpR (op_neD hr.units) (pe_callG GDone (hr.mono (by decide)) gd (by rfl) gDone kDone bDone .nil pass0 (pa_cons pe_str (pa_cons (pv 1) (pa_cons (pe_ix ix_list (pe_lst (pa_cons (pv 4) (pa_cons pe_non pa_nil))) (pe_call GTake (hr.mono (by decide)) (by rfl) gTake kTake bTake .nil pass0 (pa_cons (pv 0) (pa_cons pe_int pa_nil))) (fun _ _ => rfl)) (pa_cons (pv 7) pa_nil))))) (pe_tup (pa_cons pe_str (pa_cons (pe_callB (call_reprA gd hr.units) (by rfl) B.repr (by decide +kernel) (pa_cons (pv 7) pa_nil)) (pa_cons pe_bl pa_nil)))) (nomark _))
      (pss_one (ps_ret pe_bl)) pss_nil)
      (pss_cons (ps_set (i := 7) scReadIs.nd rfl (.inl rfl) (pe_lst (pa_cons (pe_op op_catA (pv 4) (pe_tup (pa_cons pe_int pa_nil))) (pa_cons (pe_slice sl_tupA (pv 4) po_none (po_some (pe_un un_neg pe_int))) (pa_cons (pe_op op_catA (pe_slice sl_tupA (pv 4) po_none (po_some (pe_un un_neg pe_int))) (pe_tup (pa_cons (pv 3) pa_nil))) (pa_cons (pe_op op_catA (pe_tup (pa_cons (pe_un un_neg pe_int) pa_nil)) (pe_slice sl_tupA (pv 4) (po_some pe_int) po_none)) (pa_cons (pe_op op_catA (pe_tup (pa_cons pe_bl pa_nil)) (pe_slice sl_tupA (pv 4) (po_some pe_int) po_none)) (pa_cons pe_non (pa_cons pe_int (pa_cons pe_str pa_nil))))))))))
      (pss_cons (ps_set (i := 7) scReadIs.nd rfl (.inl rfl) (pe_ix ix_list (pv 7) (pe_call GTake (hr.mono (by decide)) (by rfl) gTake kTake bTake .nil pass0 (pa_cons (pv 0) (pa_cons pe_int pa_nil))) (fun _ _ => rfl)))
      (pss_one (ps_ret (pe_cmpR (op_eqD hr.units) (pe_callG GDone (hr.mono (by decide)) gd (by rfl) gDone kDone bDone .nil pass0 (pa_cons pe_str (pa_cons (pv 1) (pa_cons (pv 7) (pa_cons (pv 3) pa_nil))))) (pe_tup (pa_cons pe_str (pa_cons (pe_callB (call_reprA gd hr.units) (by rfl) B.repr (by decide +kernel) (pa_cons (pv 7) pa_nil)) (pa_cons pe_bl pa_nil)))) (nomark _))))))))))))), ?_⟩
    obtain ⟨dx, ta, hp, hta, k1, k3, hl⟩ := id ow.pr
    -- more
    refine q_seq (q_set ?_)
    refine ⟨.ref h, rfl, h, dr, 3, rfl, ow.hd, by decide, fun r1 H1 a1 b1 e1 hd1 => ⟨_, _, rfl, rfl, ?_⟩⟩
    obtain ⟨n, en⟩ : ∃ n : Nat, 1 + r1 = (n : Int) := ⟨(1 + r1).toNat, by omega⟩
    have n1 : 1 ≤ n := by omega
    have n3 : n ≤ 3 := by omega
    have kp0 := Kp.eq e1
    replace ow := ow.kp kp0 hd1
    dsimp only
    rw [en]
    clear en a1 b1 e1 hd1
    -- places
    refine q_seq (q_set ?_)
    refine ⟨.ref q, rfl, q, _, _, .int k, rfl, rfl, tl ow.hq, at_z (j := 0) rfl rfl, (k : Int), rfl, by omega, by omega, fun D nD => lc_range (lo := 0) (n := k) (fun i H' => Kp h H1 H' ∧ Hdd H' h dr ∧ ∃ ps : List Nat, H' D = some (.lst (nV ps)) ∧ ps.length = i ∧ ∀ x ∈ ps, x < n) ⟨Kp.of (same_upd nD), ow.hd.same (same_upd nD), [], upd_same, rfl, fun _ m => by cases m⟩ (fun i H' hi hP => ?_) (fun H2 hP => ?_)⟩
    · obtain ⟨kp, hd', ps, hD, lp, bp⟩ := hP
      refine ⟨rfl, .ref h, rfl, .int n, rfl, h, dr, n, rfl, hd', by omega, fun r H3 r0 r1 e3 hd3 => ⟨_, (e3 _ (ow.hd.ne nD)).trans hD, by rw [nV_len]; exact small1000 (by omega), fun b o nb e => ?_, hd3.upd (ow.hd.ne nD) (ow.hd.ned nD), ps ++ [r.toNat], ?_, ?_, fun x m => ?_⟩⟩
      · rw [upd_ne (ne_of_none e nD)]
        exact (e3 _ nb).trans (kp _ _ nb e)
      · rw [upd_same]
        unfold nV
        rw [List.map_append]
        show some (HO.lst (_ ++ [V.int r])) = some (HO.lst (_ ++ [V.int ((r.toNat : Nat) : Int)]))
        rw [show ((r.toNat : Nat) : Int) = r by omega]
      · rw [List.length_append, lp]
        rfl
      · rcases List.mem_append.mp m with m | m
        · exact bp x m
        · rw [List.mem_singleton.mp m]
          omega
    obtain ⟨kp2, hd2, ps, hD, lp, bp⟩ := hP
    refine ⟨D, _, rfl, .inl ⟨sl hD, fun u nu => ?_⟩⟩
    have su := same_upd (o := .tup (nV ps)) nu
    replace ow := (ow.kp kp2 hd2).same su
    replace kp0 := kp0.trans (kp2.trans (Kp.of su))
    have hu : (upd H2 u (.tup (nV ps))) u = some (.tup (nV ps)) := upd_same
    generalize upd H2 u (.tup (nV ps)) = H3 at ow kp0 hu ⊢
    clear kp2 hd2 hD nu su
    have flp := fl_nV n3 bp
    have lnV : (nV ps).length = k := by rw [nV_len, lp]
    dsimp only
    -- rows
    refine q_seq (q_set ?_)
    refine ⟨.int n, rfl, n, rfl, n3, fun H4 pe rs s4 n4 h4 rw4 => ?_⟩
    refine ⟨pe, rfl, ⟨_, sl h4⟩, fun D3 nD3 => lc_list (K := K) (a := pe) (xs := rs.map V.ref) (fun j H' => Same H4 H' ∧ ∃ us : List Addr, H' D3 = some (.lst (us.map V.ref)) ∧ Rws H' us (((rowsOf n).take j).map (atPl ps))) ⟨same_upd nD3, [], upd_same, by rw [List.take_zero]; exact .nil⟩ (fun j H' _ hP => sl (hP.1 _ _ h4)) (fun j y H5 hy hP => ?_) (fun H5 hP => ?_)⟩
    · obtain ⟨s5, us, hD3, rwU⟩ := hP
      obtain ⟨r, bs, rfl, hbs, hr4⟩ := rws_at rw4 hy
      have lb := row_len n bs (List.mem_of_getElem? hbs)
      have hr5 := s5 _ _ hr4
      have hu5 := s5 _ _ (s4 _ _ hu)
      have lu : us.length ≤ 8 := by
        rw [paired_len rwU, List.length_map, List.length_take]
        exact Nat.le_trans (Nat.min_le_right _ _) (rows8 n3)
      refine ⟨rfl, .ref u, rfl, u, rfl, ⟨_, tl hu5⟩, fun D2 nD2 => lc_tup (K := K) (a := u) (xs := nV ps) (fun i H' => Same H5 H' ∧ H' D2 = some (.lst ((atPl (ps.take i) bs).map V.int))) ⟨same_upd nD2, by rw [upd_same, List.take_zero]; rfl⟩ (fun i H' _ hP => tl (hP.1 _ _ hu5)) (fun i y H6 hy hP => ?_) (fun H6 hP => ?_)⟩
      · obtain ⟨s6, hD2⟩ := hP
        obtain ⟨j2, ej, rfl⟩ : ∃ j2, ps[i]? = some j2 ∧ y = .int (j2 : Int) := by
          unfold nV at hy
          rw [List.getElem?_map] at hy
          cases e : ps[i]? with
          | none => rw [e] at hy; cases hy
          | some a => rw [e] at hy; exact ⟨a, rfl, (Option.some.inj hy).symm⟩
        have lt : j2 < bs.length := by
          rw [lb]
          exact bp j2 (List.mem_of_getElem? ej)
        have g : (bs.map V.int)[j2]? = some (.int (bs.getD j2 0)) := by
          rw [List.getElem?_map, List.getElem?_eq_getElem lt, List.getD_eq_getElem?_getD, List.getElem?_eq_getElem lt]
          rfl
        refine ⟨rfl, .ref r, rfl, .int (j2 : Int), rfl, r, _, _, _, rfl, rfl, tl (s6 _ _ hr5), at_z rfl g, _, hD2, ?_, fun b o z => ?_, ?_⟩
        · unfold atPl
          rw [List.length_map, List.length_map, List.length_take]
          exact small1000 (Nat.le_trans (Nat.min_le_right _ _) (by omega))
        · rw [upd_ne (ne_of_none z nD2)]
          exact s6 _ _ z
        · unfold atPl
          rw [upd_same, List.take_add_one, ej, List.map_append, List.map_append]
          rfl
      · obtain ⟨s6, hD2⟩ := hP
        rw [nV_len, List.take_length] at hD2
        refine ⟨D2, _, rfl, .inl ⟨sl hD2, fun u2 nu2 => ?_⟩⟩
        have s7 := s6.trans (same_upd (o := .tup ((atPl ps bs).map V.int)) nu2)
        refine ⟨_, s7 _ _ hD3, by rw [List.length_map]; exact small1000 (by omega), fun c o z => ?_, us ++ [u2], by rw [upd_same, List.map_append]; rfl, ?_⟩
        · rw [upd_ne (ne_of_none z nD3)]
          exact s7 _ _ (s5 _ _ z)
        · rw [List.take_add_one, hbs, List.map_append]
          exact Rws.updL (s7 _ _ hD3) (paired_app (rwU.same s7) (.cons upd_same .nil))
    obtain ⟨s5, us, hD3, rwU⟩ := hP
    rw [List.length_map, paired_len rw4, List.take_length] at rwU
    have s45 := s4.trans s5
    replace ow := ow.same s45
    replace kp0 := kp0.trans (Kp.of s45)
    replace hu := s45 _ _ hu
    have nuh : u ≠ h := ow.hd.ns hu (fun _ _ z => by cases z)
    have nDh : D3 ≠ h := ow.hd.ns hD3 (fun d t z => by
      cases us with
      | nil => cases z
      | cons a us =>
        cases us with
        | nil => cases z
        | cons b us => cases us <;> cases z)
    clear s4 s5 s45 n4 h4 rw4 nD3
    dsimp only
    -- passed
    refine q_seqJ (fun σ H' => ∃ v : V, σ = [some (.ref h), some (.ref p), some (.ref q), some (.int n), some (.ref u), some (.ref D3), some v, none, none, none, none] ∧ Kp h H5 H' ∧ Hdd H' h dr ∧ Am H' v ∧ Mem H' v (nV ps)) (fun σ' H' hJ => ?_) (fun key => ?_)
    rotate_left
    · refine q_set ?_
      refine ⟨.ref u, rfl, .ref u, rfl, u, _, rfl, .inr (tl hu), fun l nl => ⟨by show 2 ≤ sizeLine; decide, fun L nL => ?_⟩⟩
      have s6 := (same_upd (o := .lst (nV ps)) nl).trans (same_upd (o := .lst [.ref u, .ref l]) nL)
      refine ⟨.ref h, rfl, h, dr, 2, rfl, ow.hd.same s6, by decide, fun r H6 r0 r1 e6 hd6 => ?_⟩
      have eL := (e6 L ((ow.hd.same (same_upd nl)).ne nL)).trans upd_same
      have eu := (e6 u nuh).trans (s6 _ _ hu)
      have el := (e6 l (ow.hd.ne nl)).trans (same_upd (o := .lst [.ref u, .ref l]) nL _ _ upd_same)
      have kp6 : Kp h H5 H6 := (Kp.of s6).trans (Kp.eq e6)
      have r' : r = ((0 : Nat) : Int) ∨ r = ((1 : Nat) : Int) := by omega
      rcases r' with e | e
      · exact ⟨L, _, r, _, rfl, rfl, sl eL, at_z e rfl, key _ _ ⟨_, rfl, kp6, hd6, .tup eu nV_kn (by omega), u, rfl, .inr eu⟩⟩
      · exact ⟨L, _, r, _, rfl, rfl, sl eL, at_z e rfl, key _ _ ⟨_, rfl, kp6, hd6, .lst el nV_kn (by omega), l, rfl, .inl el⟩⟩
    have hd5 := ow.hd
    obtain ⟨v, rfl, kp6, hd6, amv, mv⟩ := hJ
    replace ow := ow.kp kp6 hd6
    replace kp0 := kp0.trans kp6
    replace hu := kp6 _ _ nuh hu
    replace hD3 := kp6 _ _ nDh hD3
    have go : ∀ {us : List Addr} {bss : List (List Int)}, Rws H5 us bss → Rws H' us bss := fun {us bss} x => by
      induction x with
      | nil => exact .nil
      | cons e _ ih => exact .cons (kp6 _ _ (hd5.ns e (fun _ _ z => by cases z)) e) ih
    replace rwU := go rwU
    clear go hd5 kp6 hd6
    have zn : isZ (.int (n : Int)) = true := by
      show (decide (1 ≤ (n : Int)) && decide ((n : Int) ≤ 3)) = true
      rw [decide_eq_true (by omega), decide_eq_true (by omega)]
      rfl
    -- what is read
    refine q_seq (q_if ?_)
    refine ⟨.ref p, rfl, v, rfl, .int n, rfl, "read", p, k, ms, v, .int n, rfl, ow.pr, .inr (.inr (.inr ⟨rfl, amv, .int _, ?_, ?_, ?_⟩))⟩
    · intro z
      rw [zn] at z
      cases z
    · intro n' e1 _ _ no
      have en : n = n' := by have z := V.int.inj e1; omega
      subst en
      exact (no ps mv lp bp).elim
    intro n' ps' e1 _ _ m2 l2 b2 td x H7 s7 htd prx
    have en : n = n' := by have z := V.int.inj e1; omega
    subst en
    have eps := nV_inj (mem_inj m2 mv)
    subst eps
    clear e1 m2 l2 b2
    replace ow := ow.same s7
    replace kp0 := kp0.trans (Kp.of s7)
    replace hu := s7 _ _ hu
    replace hD3 := s7 _ _ hD3
    replace rwU := rwU.same s7
    refine ⟨.int n, rfl, .ref D3, rfl, D3, rfl, ⟨_, sl hD3⟩, fun D2 nD2 => lc_list (K := K) (a := D3) (xs := us.map V.ref) (fun j H' => Same H7 H' ∧ H' D2 = some (.lst ((((rowsOf n).take j).map fun r => costL ms (atPl ps' r)).map V.int))) ⟨same_upd nD2, by rw [upd_same, List.take_zero]; rfl⟩ (fun j H' _ hP => sl (hP.1 _ _ hD3)) (fun j y H8 hy hP => ?_) (fun H8 hP => ?_)⟩
    · obtain ⟨s8, hD2⟩ := hP
      obtain ⟨r, bs', rfl, hbs', hr2⟩ := rws_at rwU hy
      obtain ⟨bs, hbs, rfl⟩ : ∃ bs, (rowsOf n)[j]? = some bs ∧ bs' = atPl ps' bs := by
        rw [List.getElem?_map] at hbs'
        cases e : (rowsOf n)[j]? with
        | none => rw [e] at hbs'; cases hbs'
        | some a => rw [e] at hbs'; exact ⟨a, rfl, (Option.some.inj hbs').symm⟩
      have mb := List.mem_of_getElem? hbs
      obtain ⟨pb, pl⟩ := at_ok bp lp (bits_rows n bs mb) (row_len n bs mb)
      have ow8 := ow.same s8
      refine ⟨rfl, .ref q, rfl, .ref r, rfl, q, t, r, k, ms, atPl ps' bs, rfl, ow8.hq, ow8.ht, hl, k3, s8 _ _ hr2, pb, pl, _, hD2, ?_, fun c o z => ?_, ?_⟩
      · rw [List.length_map, List.length_map, List.length_take]
        exact small1000 (Nat.le_trans (Nat.min_le_right _ _) (Nat.le_trans (rows8 n3) (by decide)))
      · rw [upd_ne (ne_of_none z nD2)]
        exact s8 _ _ z
      · rw [upd_same, List.take_add_one, hbs, List.map_append, List.map_append]
        rfl
    obtain ⟨s8, hD2⟩ := hP
    rw [List.length_map, paired_len rwU, List.length_map, List.take_length] at hD2
    refine ⟨td, x, D2, n, _, rfl, s8 _ _ htd, prx.same s8, ⟨D2, rfl, .inl hD2⟩, bd_map fun r => bd_cost hb, fun H9 s9 => ⟨true, rfl, ?_⟩⟩
    replace ow := ow.same (s8.trans s9)
    replace kp0 := kp0.trans (Kp.of (s8.trans s9))
    replace hu := (s8.trans s9) _ _ hu
    clear hD2 hD3 rwU htd prx s7 s8 s9 amv mv nDh
    refine q_next ?_
    dsimp only
    -- odd size
    refine q_seq (q_set ?_)
    refine ⟨by show 1 ≤ sizeLine; decide, fun t1 nt1 => ⟨by show 6 ≤ sizeLine; decide, fun L6 nL6 => ?_⟩⟩
    have s1 := same_upd (o := .tup [.int 1]) nt1
    have s2 := same_upd (o := .lst [.int 0, .int 4, .bl true, .non, .str "2", .ref t1]) nL6
    have ow1 := (ow.same s1).same s2
    refine ⟨.ref h, rfl, h, dr, 6, rfl, ow1.hd, by decide, fun r6 HA a6 b6 e6 hdA => ?_⟩
    have nt1h := ow.hd.ne nt1
    have kpA : Kp h H9 HA := (Kp.of (s1.trans s2)).trans (Kp.eq e6)
    obtain ⟨j6, vo, do_, ej6, ev6, ov⟩ := odd6 (K := K) a6 b6 nt1h ((e6 _ nt1h).trans (s2 _ _ upd_same))
    refine ⟨L6, _, r6, vo, rfl, rfl, sl ((e6 _ ((ow.hd.same s1).ne nL6)).trans upd_same), at_z ej6 ev6, ?_⟩
    replace ow := ow.kp kpA hdA
    replace kp0 := kp0.trans kpA
    replace hu := kpA _ _ nuh hu
    clear s1 s2 ow1 e6 kpA nL6 nt1 hdA ej6 ev6
    dsimp only
    -- refused for its size
    refine q_seq (q_if ?_)
    refine ⟨.ref p, rfl, .ref u, rfl, by show 2 ≤ sizeLine; decide, fun L7 nL7 => ?_⟩
    have s1 := same_upd (o := .lst [.ref u, .non]) nL7
    refine ⟨.ref h, rfl, h, dr, 2, rfl, (ow.same s1).hd, by decide, fun r7 HB a7 b7 e7 hdB => ?_⟩
    have kpB : Kp h HA HB := (Kp.of s1).trans (Kp.eq e7)
    have huB := kpB _ _ nuh hu
    obtain ⟨j7, y7, ej7, ev7, am7⟩ : ∃ (j : Nat) (y : V), r7 = (j : Int) ∧ ([.ref u, .non] : List V)[j]? = some y ∧ Am HB y := by
      have r' : r7 = ((0 : Nat) : Int) ∨ r7 = ((1 : Nat) : Int) := by omega
      rcases r' with e | e
      · exact ⟨0, _, e, rfl, .tup huB nV_kn (by omega)⟩
      · exact ⟨1, _, e, rfl, .flat .non rfl⟩
    refine ⟨L7, _, r7, y7, rfl, rfl, sl ((e7 _ (ow.hd.ne nL7)).trans upd_same), at_z ej7 ev7, vo, rfl, "read", p, k, ms, y7, vo, rfl, (ow.kp kpB hdB).pr, .inr (.inr (.inr ⟨rfl, am7, ov.kn _ kpB, fun _ => ?_, fun n' e _ _ _ => ?_, fun n' ps2 e _ _ _ _ _ => ?_⟩))⟩
    rotate_left
    · have z := ov.z
      rw [e] at z
      have z' : (decide (1 ≤ (n' : Int)) && decide ((n' : Int) ≤ 3)) = false := z
      rw [decide_eq_true (by omega), decide_eq_true (by omega)] at z'
      cases z'
    · have z := ov.z
      rw [e] at z
      have z' : (decide (1 ≤ (n' : Int)) && decide ((n' : Int) ≤ 3)) = false := z
      rw [decide_eq_true (by omega), decide_eq_true (by omega)] at z'
      cases z'
    refine ⟨do_, ov.dp _ kpB, ov.ok, fun td2 HC sC htd2 => ?_⟩
    have kpC := kpB.trans (Kp.of sC)
    refine ⟨vo, rfl, _, do_, rfl, ov.dp _ kpC, ov.ok, by show 3 ≤ sizeLine; decide, fun tu ntu => ?_⟩
    have sU := same_upd (o := .tup [.str "number", .str do_.shown, .bl true]) ntu
    refine due_eq (by decide +kernel) ov.tx (sU _ _ htd2) upd_same ⟨_, rfl, ?_⟩
    replace ow := ((ow.kp kpB hdB).same sC).same sU
    replace kp0 := kp0.trans (kpC.trans (Kp.of sU))
    replace hu := sU _ _ (sC _ _ huB)
    generalize upd HC tu (.tup [.str "number", .str do_.shown, .bl true]) = HD at ow kp0 hu ⊢
    clear htd2 ntu sU kpC sC am7 ej7 ev7 huB kpB e7 s1 nL7 ov hdB
    refine q_next ?_
    dsimp only
    -- odd places
    refine q_seq (q_set ?_)
    refine tup_more (show _ = some (some (V.ref u)) from rfl) hu (by omega) fun o0 G0 s0 g0 => ?_
    have r1 := s0 _ _ hu
    refine ⟨.ref u, rfl, 1, rfl, _, rfl, ?_⟩
    refine sl_A r1 (cut_m1 _) fun o1 G1 s1 g1 => ?_
    have r2 := s1 _ _ r1
    refine ⟨.ref u, rfl, 1, rfl, _, rfl, ?_⟩
    refine sl_A r2 (cut_m1 _) fun u3 G2' s2a g2' => ⟨.int n, rfl, by show 1 ≤ sizeLine; decide, fun u4 nu4 => ?_⟩
    refine cat_A (same_upd nu4 _ _ g2') upd_same (by rw [List.length_dropLast, lnV]; show _ + 1 ≤ _; omega) fun o2 G2 s2b g2 => ?_
    have s2 := s2a.trans ((same_upd (o := .tup [.int n]) nu4).trans s2b)
    have r3 := s2 _ _ r2
    refine ⟨1, rfl, by show 1 ≤ sizeLine; decide, fun u5 nu5 => ⟨.ref u, rfl, 1, rfl, ?_⟩⟩
    have s3a := same_upd (o := .tup [.int (-1)]) nu5
    refine noPart ?_
    refine sl_A (s3a _ _ r3) (cut_lo _ 1) fun u6 G3' s3b g3' => ?_
    refine cat_A (s3b _ _ upd_same) g3' (by rw [List.length_drop, lnV]; show 1 + _ ≤ _; omega) fun o3 G3 s3c g3 => ?_
    have s3 := s3a.trans (s3b.trans s3c)
    have r4 := s3 _ _ r3
    refine ⟨by show 1 ≤ sizeLine; decide, fun u7 nu7 => ⟨.ref u, rfl, 1, rfl, ?_⟩⟩
    have s4a := same_upd (o := .tup [.bl true]) nu7
    refine noPart ?_
    refine sl_A (s4a _ _ r4) (cut_lo _ 1) fun u8 G4' s4b g4' => ?_
    refine cat_A (s4b _ _ upd_same) g4' (by rw [List.length_drop, lnV]; show 1 + _ ≤ _; omega) fun o4 G4 s4c g4 => ?_
    have s4 := s4a.trans (s4b.trans s4c)
    refine ⟨by show 8 ≤ sizeLine; decide, fun L8 nL8 => ?_⟩
    have s5 := same_upd (o := .lst [.ref o0, .ref o1, .ref o2, .ref o3, .ref o4, .non, .int 0, .str "0"]) nL8
    have gF : (upd G4 L8 (.lst [.ref o0, .ref o1, .ref o2, .ref o3, .ref o4, .non, .int 0, .str "0"])) L8 = some (.lst [.ref o0, .ref o1, .ref o2, .ref o3, .ref o4, .non, .int 0, .str "0"]) := upd_same
    have f0 := (s1.trans (s2.trans (s3.trans (s4.trans s5)))) _ _ g0
    have f1 := (s2.trans (s3.trans (s4.trans s5))) _ _ g1
    have f2 := (s3.trans (s4.trans s5)) _ _ g2
    have f3 := (s4.trans s5) _ _ g3
    have f4 := s5 _ _ g4
    have sF := s0.trans (s1.trans (s2.trans (s3.trans (s4.trans s5))))
    replace ow := ow.same sF
    replace kp0 := kp0.trans (Kp.of sF)
    generalize upd G4 L8 (.lst [.ref o0, .ref o1, .ref o2, .ref o3, .ref o4, .non, .int 0, .str "0"]) = GF at ow kp0 gF f0 f1 f2 f3 f4 ⊢
    have flD : ∀ x ∈ (nV ps').dropLast, Fl x := fun x m => flp x ((List.dropLast_sublist _).mem m)
    have flR : ∀ x ∈ (nV ps').drop 1, Fl x := fun x m => flp x (List.mem_of_mem_drop m)
    have fl1 : ∀ {y : V} {xs : List V}, Fl y → (∀ x ∈ xs, Fl x) → ∀ x ∈ xs ++ [y], Fl x := fun {y xs} hy hxs x m => by
      rcases List.mem_append.mp m with m | m
      · exact hxs x m
      · rw [List.mem_singleton.mp m]
        exact hy
    have fl2 : ∀ {y : V} {xs : List V}, Fl y → (∀ x ∈ xs, Fl x) → ∀ x ∈ [y] ++ xs, Fl x := fun {y xs} hy hxs x m => by
      rcases List.mem_append.mp m with m | m
      · rw [List.mem_singleton.mp m]
        exact hy
      · exact hxs x m
    have lD : (nV ps').dropLast.length = k - 1 := by rw [List.length_dropLast, lnV]
    have lR : ((nV ps').drop 1).length = k - 1 := by rw [List.length_drop, lnV]
    have B0 : BadP K k n h GF (.ref o0) := badp_tup ow.hd f0 (fl1 (.int 0 (by decide) (by decide)) flp) (by rw [List.length_append, lnV]; show k + 1 ≤ 9; omega) (.inl (by rw [List.length_append, lnV]; show k + 1 ≠ k; omega))
    have B1 : BadP K k n h GF (.ref o1) := badp_tup ow.hd f1 flD (by omega) (.inl (by omega))
    have B2 : BadP K k n h GF (.ref o2) := badp_tup ow.hd f2 (fl1 (.int n (by omega) (by omega)) flD) (by rw [List.length_append, lD]; show k - 1 + 1 ≤ 9; omega) (.inr ⟨_, List.mem_append_right _ (List.mem_singleton.mpr rfl), by show (decide (0 ≤ (n : Int)) && decide ((n : Int) < (n : Int))) = false; rw [decide_eq_false (show ¬ (n : Int) < (n : Int) by omega), Bool.and_false]⟩)
    have B3 : BadP K k n h GF (.ref o3) := badp_tup ow.hd f3 (fl2 (.int (-1) (by decide) (by decide)) flR) (by rw [List.length_append, lR]; show 1 + (k - 1) ≤ 9; omega) (.inr ⟨_, List.mem_append_left _ (List.mem_singleton.mpr rfl), rfl⟩)
    have B4 : BadP K k n h GF (.ref o4) := badp_tup ow.hd f4 (fl2 (.bl _) flR) (by rw [List.length_append, lR]; show 1 + (k - 1) ≤ 9; omega) (.inr ⟨_, List.mem_append_left _ (List.mem_singleton.mpr rfl), rfl⟩)
    have B5 : BadP K k n h GF .non := badp_flat (fun _ => .non) rfl (fun _ => .non) (by refine ⟨?_, ?_, ?_, ?_⟩ <;> decide +kernel) Tx.none
    have B6 : BadP K k n h GF (.int 0) := badp_flat (fun _ => .int _) rfl (fun _ => .int _) (by refine ⟨?_, ?_, ?_, ?_⟩ <;> decide +kernel) Tx.int
    have B7 : BadP K k n h GF (.str "0") := badp_flat (fun _ => .str _) rfl (fun _ => .str _) (by refine ⟨?_, ?_, ?_, ?_⟩ <;> decide +kernel) (by unfold Tx; decide +kernel)
    have hall : ∀ j : Nat, j < 8 → ∃ v, ([.ref o0, .ref o1, .ref o2, .ref o3, .ref o4, .non, .int 0, .str "0"] : List V)[j]? = some v ∧ BadP K k n h GF v
      | 0, _ => ⟨_, rfl, B0⟩ | 1, _ => ⟨_, rfl, B1⟩ | 2, _ => ⟨_, rfl, B2⟩ | 3, _ => ⟨_, rfl, B3⟩ | 4, _ => ⟨_, rfl, B4⟩ | 5, _ => ⟨_, rfl, B5⟩ | 6, _ => ⟨_, rfl, B6⟩ | 7, _ => ⟨_, rfl, B7⟩
      | j + 8, z => absurd z (by omega)
    dsimp only
    -- one of them
    refine q_seq (q_set ?_)
    refine ⟨.ref L8, rfl, .ref h, rfl, h, dr, 8, rfl, ow.hd, by decide, fun r8 HE a8 b8 e8 hdE => ?_⟩
    obtain ⟨j8, ej8⟩ : ∃ j : Nat, r8 = (j : Int) := ⟨r8.toNat, by omega⟩
    obtain ⟨vb, evb, db, amb, ngb, dpb, okb, txb⟩ := hall j8 (by omega)
    have kpE := Kp.eq e8
    have nL8h : L8 ≠ h := ow.hd.ns gF (fun _ _ z => by cases z)
    refine ⟨L8, _, r8, vb, rfl, rfl, sl ((e8 _ nL8h).trans gF), at_z ej8 evb, ?_⟩
    replace ow := ow.kp kpE hdE
    replace kp0 := kp0.trans kpE
    dsimp only
    refine q_ret ?_
    refine ⟨.ref p, rfl, vb, rfl, .int n, rfl, "read", p, k, ms, vb, .int n, rfl, ow.pr, .inr (.inr (.inr ⟨rfl, amb _ kpE, .int _, fun z => ?_, fun n' e _ _ _ => ?_, fun n' ps2 e _ _ m2 l2 b2 => ?_⟩))⟩
    · rw [zn] at z
      cases z
    · refine ⟨db, dpb _ kpE, okb, fun td3 HF sF3 htd3 => ?_⟩
      refine ⟨vb, rfl, _, db, rfl, dpb _ (kpE.trans (Kp.of sF3)), okb, by show 3 ≤ sizeLine; decide, fun tu ntu => ?_⟩
      have sU := same_upd (o := .tup [.str "number", .str db.shown, .bl true]) ntu
      have sh := shaped3 (a := "number") (s := db.shown) (by decide +kernel) txb
      refine ⟨_, _, .tup (tl (sU _ _ htd3)) (.cons (.str _) (.cons (.str _) (.cons (.bl _) .nil))), .tup (tl upd_same) (.cons (.str _) (.cons (.str _) (.cons (.bl _) .nil))), sh, sh, ?_⟩
      rw [SeqAt.eqv_refl _ (SeqAt.canLay_of_shaped sh)]
      exact qq _ (kp0.trans (Kp.of (sF3.trans sU))) ((ow.same sF3).same sU).hd
    · have en : n = n' := by have z := V.int.inj e; omega
      subst en
      exact (ngb _ kpE ps2 m2 l2 b2).elim
end
end C3

namespace C3
open PySem PySem.Spec PyProof.Rows L2 Ek
theorem q_seq2J {D : Ends} {σ : L2.St} {H : Hp} {a b c : TS} (J : L2.St → Hp → Prop) (h1 : ∀ σ' H', J σ' H' → c D σ' H') (h2 : (∀ σ' H', J σ' H' → c D σ' H') → a { D with nx := fun s h => tSeq b c D s h } σ H) : tSeq a (tSeq b c) D σ H := h2 h1
theorem mul_bd {m x : Int} (m1 : 1 ≤ m) (m2 : m ≤ 1000000) (hx : -1000000000 ≤ x ∧ x ≤ 1000000000) : -(10 ^ 17) ≤ m * x ∧ m * x ≤ 10 ^ 17 := by
  have e : (m * x).natAbs = m.natAbs * x.natAbs := Int.natAbs_mul m x
  have l : m.natAbs * x.natAbs ≤ 1000000 * 1000000000 := Nat.mul_le_mul (by omega) (by omega)
  omega
theorem oddm {K : PySem.W.Frag} {h t1 : Addr} {H : Hp} {r : Int} (r0 : 0 ≤ r) (r1 : r < 6) (n1 : t1 ≠ h) (e1 : H t1 = some (.tup [.int 1])) : ∃ (j : Nat) (v : V) (d : PyData), r = (j : Int) ∧ ([.int 0, .int (-1), .bl true, .non, .str "2", .ref t1] : List V)[j]? = some v ∧ (∀ H2, Kp h H H2 → Kn H2 v) ∧ Dps K h H v d ∧ Okd d ∧ Tx d ∧ ∀ m, v = .int m → m < 1 := by
  have r' : r = ((0 : Nat) : Int) ∨ r = ((1 : Nat) : Int) ∨ r = ((2 : Nat) : Int) ∨ r = ((3 : Nat) : Int) ∨ r = ((4 : Nat) : Int) ∨ r = ((5 : Nat) : Int) := by omega
  rcases r' with e | e | e | e | e | e
  · exact ⟨0, _, _, e, rfl, fun _ _ => .int _, fun _ _ => .int _, by refine ⟨?_, ?_, ?_, ?_⟩ <;> decide +kernel, Tx.int, fun m z => by have z' := V.int.inj z; omega⟩
  · exact ⟨1, _, _, e, rfl, fun _ _ => .int _, fun _ _ => .int _, by refine ⟨?_, ?_, ?_, ?_⟩ <;> decide +kernel, Tx.int, fun m z => by have z' := V.int.inj z; omega⟩
  · exact ⟨2, _, _, e, rfl, fun _ _ => .bl _, fun _ _ => .bl _, by refine ⟨?_, ?_, ?_, ?_⟩ <;> decide +kernel, Tx.bool, fun m z => by cases z⟩
  · exact ⟨3, _, _, e, rfl, fun _ _ => .non, fun _ _ => .non, by refine ⟨?_, ?_, ?_, ?_⟩ <;> decide +kernel, Tx.none, fun m z => by cases z⟩
  · exact ⟨4, _, _, e, rfl, fun _ _ => .str _, fun _ _ => .str _, by refine ⟨?_, ?_, ?_, ?_⟩ <;> decide +kernel, by unfold Tx; decide +kernel, fun m z => by cases z⟩
  · exact ⟨5, _, _, e, rfl, fun _ kp => .tup (kp _ _ n1 e1), fun _ kp => .tup (tl (kp _ _ n1 e1)) (.cons (.int 1) .nil), by refine ⟨?_, ?_, ?_, ?_⟩ <;> decide +kernel, by unfold Tx; decide +kernel, fun m z => by cases z⟩
section
variable {P : Program} {w : World} {K : PySem.W.Frag} {mg : Str → Option Value} {base : Heap}
def spLaw (K : PySem.W.Frag) : Sp := fun vs H Q _ => ∃ (a : Addr) (ns : List Int), vs = [.ref a] ∧ SqL K H a (ns.map V.int) ∧ ns.length ≤ 63 ∧ ∀ H', Q (.bl true) H'
theorem bd17 {ms : List Int} (h : Bd (-1000000000) 1000000000 ms) : Bd (-(10 ^ 17)) (10 ^ 17) ms := h.wide (by decide) (by decide)
theorem ok_law {f fDraws fLPrice fTake fPI fPO fIs fDone fFixedIs fReadIs C : Addr} {fd fdDraws fdLPrice fdTake fdPI fdPO fdIs fdDone fdFixedIs fdReadIs : FuncData} (F : Fun K "law" "law" sLaw f fd) (T : Pc K mg C) (B : Bt mg)
    (GDraws : FnOk P w K mg base CX0 1 fDraws fdDraws ["script", "many"] (spDraws K)) (kDraws : PySem.W.keepIn K (.ref fDraws) = true) (bDraws : Binds K fdDraws ["script", "many"] []) (gDraws : mg "_law_draws" = some (.ref fDraws)) (GLPrice : FnOk P w K mg base CX0 3 fLPrice fdLPrice ["hand", "size"] spLP) (kLPrice : PySem.W.keepIn K (.ref fLPrice) = true) (bLPrice : Binds K fdLPrice ["hand", "size"] []) (gLPrice : mg "_law_price" = some (.ref fLPrice)) (GTake : FnOk P w K mg base CX0 1 fTake fdTake ["hand", "many"] spTake) (kTake : PySem.W.keepIn K (.ref fTake) = true) (bTake : Binds K fdTake ["hand", "many"] []) (gTake : mg "_law_take" = some (.ref fTake)) (GIs : FnG P w K mg base CX0 1 fIs fdIs ["made", "size", "amounts"] (spIs C)) (kIs : PySem.W.keepIn K (.ref fIs) = true) (bIs : Binds K fdIs ["made", "size", "amounts"] []) (gIs : mg "_law_is" = some (.ref fIs)) (GDone : FnG P w K mg base CX0 7 fDone fdDone ["deed", "price", "one", "other"] (spDone K C)) (kDone : PySem.W.keepIn K (.ref fDone) = true) (bDone : Binds K fdDone ["deed", "price", "one", "other"] []) (gDone : mg "_law_done" = some (.ref fDone)) (GFixedIs : FnG P w K mg base CX0 8 fFixedIs fdFixedIs ["hand", "price", "own"] (spFix K C)) (kFixedIs : PySem.W.keepIn K (.ref fFixedIs) = true) (bFixedIs : Binds K fdFixedIs ["hand", "price", "own"] []) (gFixedIs : mg "_law_fixed_is" = some (.ref fFixedIs)) (GReadIs : FnG P w K mg base CX0 8 fReadIs fdReadIs ["hand", "price", "own"] (spRead K C)) (kReadIs : PySem.W.keepIn K (.ref fReadIs) = true) (bReadIs : Binds K fdReadIs ["hand", "price", "own"] []) (gReadIs : mg "_law_read_is" = some (.ref fReadIs))
    (M : Mk K C fPI) (GPI : FnOk P w K mg base CX0 3 fPI fdPI ["self", "size", "amounts"] (spPI0 C)) (bPI : Binds K fdPI ["self", "size", "amounts"] [])
    (GPO : FnOk P w K mg base CX0 5 fPO fdPO ["self"] (spPO C)) (bPO : Binds K fdPO ["self"] []) (mPO : Meth K C "opposite" fPO) : FnG P w K mg base CX0 9 f fd ["script"] (spLaw K) := by
  refine okG F scLaw (fun vs H Q E h => ?_) (fun cdv A outer s H vs Q E hr gd h => ?_)
  · obtain ⟨a, ns, rfl, _⟩ := h
    rfl
  · obtain ⟨a, ns, rfl, hS, hlen, q⟩ := h
    refine ⟨_, (pss_cons (ps_set (i := 1) scLaw.nd rfl (.inl rfl) (pe_lst (pa_cons (pe_call GDraws (hr.mono (by decide)) (by rfl) gDraws kDraws bDraws .nil pass0 (pa_cons (pv 0) (pa_cons pe_int pa_nil))) (pa_cons pe_int pa_nil))))
      (pss_cons (ps_set (i := 2) scLaw.nd rfl (.inr rfl) (pe_call GLPrice (hr.mono (by decide)) (by rfl) gLPrice kLPrice bLPrice .nil pass0 (pa_cons (pv 1) (pa_cons (pe_op op_add pe_int (pe_call GTake (hr.mono (by decide)) (by rfl) gTake kTake bTake .nil pass0 (pa_cons (pv 1) (pa_cons pe_int pa_nil)))) pa_nil))))
      (pss_cons (ps_set (i := 3) scLaw.nd rfl (.inr rfl) (pe_call GLPrice (hr.mono (by decide)) (by rfl) gLPrice kLPrice bLPrice .nil pass0 (pa_cons (pv 1) (pa_cons (pe_ix ix_list (pe_lst (pa_cons (pe_ix ix_tup (pv 2) pe_int (fun _ _ => rfl)) (pa_cons (pe_op op_add pe_int (pe_call GTake (hr.mono (by decide)) (by rfl) gTake kTake bTake .nil pass0 (pa_cons (pv 1) (pa_cons pe_int pa_nil)))) pa_nil))) (pe_call GTake (hr.mono (by decide)) (by rfl) gTake kTake bTake .nil pass0 (pa_cons (pv 1) (pa_cons pe_int pa_nil))) (fun _ _ => rfl)) pa_nil))))
      (pss_cons (ps_par (i := 4) (j := 5) rfl scLaw.nd rfl rfl (by decide) rfl rfl (pa_cons (pe_make M GPI (hr.mono (by decide)) (by rfl) T.g bPI .nil pass0 (pa_cons (pe_ix ix_tup (pv 2) pe_int (fun _ _ => rfl)) (pa_cons (pe_ix ix_tup (pv 2) pe_int (fun _ _ => rfl)) pa_nil))) (pa_cons (pe_make M GPI (hr.mono (by decide)) (by rfl) T.g bPI .nil pass0 (pa_cons (pe_ix ix_tup (pv 3) pe_int (fun _ _ => rfl)) (pa_cons (pe_ix ix_tup (pv 3) pe_int (fun _ _ => rfl)) pa_nil))) pa_nil)) rfl)
      (pss_cons (ps_if (pt_not (pt_val (pe_callG GIs (hr.mono (by decide)) gd (by rfl) gIs kIs bIs .nil pass0 (pa_cons (pe_tup (pa_cons pe_str (pa_cons (pe_meth0 (pv 4) T.cl mPO GPO (hr.mono (by decide)) bPO .nil pass0) pa_nil))) (pa_cons (pe_ix ix_tup (pv 2) pe_int (fun _ _ => rfl)) (pa_cons (pe_revT (pe_ix ix_tup (pv 2) pe_int (fun _ _ => rfl))) pa_nil))))))
      (pss_one (ps_ret pe_bl)) pss_nil)
      (pss_cons (ps_set (i := 6) scLaw.nd rfl (.inl rfl) (pe_callG GDone (hr.mono (by decide)) gd (by rfl) gDone kDone bDone .nil pass0 (pa_cons pe_str (pa_cons (pv 4) (pa_cons (pv 5) (pa_cons pe_non pa_nil))))))
      (pss_cons (ps_if (pt_cmpR op_ne (pe_ix ix_tup (pv 2) pe_int (fun _ _ => rfl)) (pe_ix ix_tup (pv 3) pe_int (fun _ _ => rfl)) (nomark _))
      (pss_one (ps_if (pt_cmpR (op_neD hr.units) (pv 6) (pe_tup (pa_cons pe_str (pa_cons pe_str (pa_cons pe_bl pa_nil)))) (nomark _))
      (pss_one (ps_ret pe_bl)) pss_nil)) (pss_one (ps_if (pt_not (pt_val (pe_callG GIs (hr.mono (by decide)) gd (by rfl) gIs kIs bIs .nil pass0 (pa_cons (pv 6) (pa_cons (pe_ix ix_tup (pv 2) pe_int (fun _ _ => rfl)) (pa_cons (pe_lc (own := [("k", 10)]) (g := gName 10) (tt := tYes) rfl scLaw.nd (pi_range1 rfl B.range (pa_cons (pe_callB call_len_seq (by rfl) B.len PySem.boot_len (pa_cons (pe_ix ix_tup (pv 2) pe_int (fun _ _ => rfl)) pa_nil)) pa_nil)) (blkOk_by (N := NLaw) (sc := defScope sLaw) (by decide +kernel)) (fun _ _ _ _ _ => pg_name (i := 10) scLaw.nd rfl (Or.inl rfl)) (fun _ _ _ _ _ => pts_nil) (fun _ _ _ _ _ => (pe_op op_add (pe_ix (ixt_k K rfl) (pe_ix (ixt_k K rfl) (pv 2) pe_int (fun _ _ => rfl)) (pv 10) (fun _ _ => rfl)) (pe_ix (ixt_k K rfl) (pe_ix (ixt_k K rfl) (pv 3) pe_int (fun _ _ => rfl)) (pv 10) (fun _ _ => rfl))))) pa_nil))))))
      (pss_one (ps_ret pe_bl)) pss_nil)))
      (pss_cons (ps_set (i := 7) scLaw.nd rfl (.inr rfl) (pe_op op_add pe_int (pe_ix ix_list (pe_lst (pa_cons (pe_call GTake (hr.mono (by decide)) (by rfl) gTake kTake bTake .nil pass0 (pa_cons (pv 1) (pa_cons pe_int pa_nil))) (pa_cons (pe_op op_mul pe_int (pe_call GTake (hr.mono (by decide)) (by rfl) gTake kTake bTake .nil pass0 (pa_cons (pv 1) (pa_cons pe_int pa_nil)))) pa_nil))) (pe_call GTake (hr.mono (by decide)) (by rfl) gTake kTake bTake .nil pass0 (pa_cons (pv 1) (pa_cons pe_int pa_nil))) (fun _ _ => rfl))))
      (pss_cons (ps_set (i := 7) scLaw.nd rfl (.inr rfl) (pe_callB (call_min2 rfl) (by rfl) B.min (by decide +kernel) (pa_cons (pv 7) (pa_cons pe_int pa_nil))))
      (pss_cons (ps_if (pt_not (pt_val (pe_callG GIs (hr.mono (by decide)) gd (by rfl) gIs kIs bIs .nil pass0 (pa_cons (pe_callG GDone (hr.mono (by decide)) gd (by rfl) gDone kDone bDone .nil pass0 (pa_cons pe_str (pa_cons (pv 4) (pa_cons (pv 7) (pa_cons pe_non pa_nil))))) (pa_cons (pe_ix ix_tup (pv 2) pe_int (fun _ _ => rfl)) (pa_cons (pe_lc (own := [("one", 9)]) (g := gName 9) (tt := tYes) rfl scLaw.nd (pi_tup (pe_ix ix_tup (pv 2) pe_int (fun _ _ => rfl))) (blkOk_by (N := NLaw) (sc := defScope sLaw) (by decide +kernel)) (fun _ _ _ _ _ => pg_name (i := 9) scLaw.nd rfl (Or.inl rfl)) (fun _ _ _ _ _ => pts_nil) (fun _ _ _ _ _ => (pe_op op_mul (pv 7) (pv 9)))) pa_nil))))))
      (pss_one (ps_ret pe_bl)) pss_nil)
      (pss_cons (ps_set (i := 8) scLaw.nd rfl (.inl rfl) (pe_ix ix_list (pe_lst (pa_cons pe_int (pa_cons (pe_un un_neg pe_int) (pa_cons pe_bl (pa_cons pe_non (pa_cons pe_str (pa_cons (pe_tup (pa_cons pe_int pa_nil)) pa_nil))))))) (pe_call GTake (hr.mono (by decide)) (by rfl) gTake kTake bTake .nil pass0 (pa_cons (pv 1) (pa_cons pe_int pa_nil))) (fun _ _ => rfl)))
      (pss_cons (ps_if (pt_cmpR (op_neD hr.units) (pe_callG GDone (hr.mono (by decide)) gd (by rfl) gDone kDone bDone .nil pass0 (pa_cons pe_str (pa_cons (pv 4) (pa_cons (pv 8) (pa_cons pe_non pa_nil))))) (pe_tup (pa_cons pe_str (pa_cons (pe_callB (call_reprA gd hr.units) (by rfl) B.repr (by decide +kernel) (pa_cons (pv 8) pa_nil)) (pa_cons pe_bl pa_nil)))) (nomark _))
      (pss_one (ps_ret pe_bl)) pss_nil)
      (pss_cons (ps_if (PW.pt (pw_or (pt_not (pt_val (pe_callG GFixedIs (hr.mono (by decide)) gd (by rfl) gFixedIs kFixedIs bFixedIs .nil pass0 (pa_cons (pv 1) (pa_cons (pv 4) (pa_cons (pv 2) pa_nil)))))) (pw_or1 (pt_not (pt_val (pe_callG GReadIs (hr.mono (by decide)) gd (by rfl) gReadIs kReadIs bReadIs .nil pass0 (pa_cons (pv 1) (pa_cons (pv 4) (pa_cons (pv 2) pa_nil)))))))))
      (pss_one (ps_ret pe_bl)) pss_nil)
      (pss_one (ps_ret (pe_and (pe_callG GIs (hr.mono (by decide)) gd (by rfl) gIs kIs bIs .nil pass0 (pa_cons (pe_tup (pa_cons pe_str (pa_cons (pv 4) pa_nil))) (pa_cons (pe_ix ix_tup (pv 2) pe_int (fun _ _ => rfl)) (pa_cons (pe_ix ix_tup (pv 2) pe_int (fun _ _ => rfl)) pa_nil)))) (pe_one (pe_callG GIs (hr.mono (by decide)) gd (by rfl) gIs kIs bIs .nil pass0 (pa_cons (pe_tup (pa_cons pe_str (pa_cons (pv 5) pa_nil))) (pa_cons (pe_ix ix_tup (pv 3) pe_int (fun _ _ => rfl)) (pa_cons (pe_ix ix_tup (pv 3) pe_int (fun _ _ => rfl)) pa_nil))))))))))))))))))))), ?_⟩
    -- hand
    refine q_seq (q_set ?_)
    refine ⟨.ref a, rfl, a, ns, 150, rfl, hS, by omega, by decide, fun H1 dr ds s1 np1 hp1 hl1 h01 => ⟨by show 2 ≤ sizeLine; decide, fun h nL => ?_⟩⟩
    have hd1 : Hdd (upd H1 h (.lst [.ref dr, .int 0])) h dr := ⟨ds, 0, upd_same, by rw [upd_ne (ne_of_none hp1 nL)]; exact hp1, ne_of_none hp1 nL, h01⟩
    generalize upd H1 h (.lst [.ref dr, .int 0]) = H2 at hd1 ⊢
    dsimp only
    -- own
    refine q_seq (q_set ?_)
    refine ⟨.ref h, rfl, .ref h, rfl, h, dr, 3, rfl, hd1, by decide, fun r1 H3 a1 b1 e1 hd3 => ⟨_, _, rfl, rfl, ?_⟩⟩
    obtain ⟨k, ek⟩ : ∃ k : Nat, 1 + r1 = (k : Int) := ⟨(1 + r1).toNat, by omega⟩
    refine ⟨h, dr, k, by show [V.ref h, V.int (1 + r1)] = _; rw [ek], by omega, by omega, hd3, fun q1 t1 ms1 H4 kp4 hd4 hq1 ht1 hl1' hb1 => ?_⟩
    have k1 : 1 ≤ k := by omega
    have k3 : k ≤ 3 := by omega
    clear ek a1 b1 e1 hd3 kp4 hd1
    dsimp only
    -- other
    refine q_seq (q_set ?_)
    refine ⟨.ref h, rfl, .ref q1, rfl, q1, _, _, .int k, rfl, rfl, tl hq1, at_z (j := 0) rfl rfl, .ref h, rfl, h, dr, 3, rfl, hd4, by decide, fun r1 H5 a1 b1 e1 hd5 => ⟨_, _, rfl, rfl, by show 2 ≤ sizeLine; decide, fun L1 nL1 => ?_⟩⟩
    have s1' := same_upd (o := .lst [.int k, .int (1 + r1)]) nL1
    refine ⟨.ref h, rfl, h, dr, 2, rfl, hd5.same s1', by decide, fun r2 H6 a2 b2 e2 hd6 => ?_⟩
    obtain ⟨j, k2, ej, ev, k21, k23⟩ : ∃ (j k2 : Nat), r2 = (j : Int) ∧ ([.int k, .int (1 + r1)] : List V)[j]? = some (.int k2) ∧ 1 ≤ k2 ∧ k2 ≤ 3 := by
      have r' : r2 = ((0 : Nat) : Int) ∨ r2 = ((1 : Nat) : Int) := by omega
      rcases r' with e | e
      · exact ⟨0, k, e, rfl, k1, k3⟩
      · exact ⟨1, (1 + r1).toNat, e, by rw [show (((1 + r1).toNat : Nat) : Int) = 1 + r1 by omega]; rfl, by omega, by omega⟩
    have kp6 : Kp h H4 H6 := (Kp.eq e1).trans ((Kp.of s1').trans (Kp.eq e2))
    refine ⟨L1, _, r2, _, rfl, rfl, sl ((e2 _ (hd5.ne nL1)).trans upd_same), at_z ej ev, h, dr, k2, rfl, k21, k23, hd6, fun q2 t2 ms2 H7 kp7 hd7 hq2 ht2 hl2 hb2 => ?_⟩
    have kp47 := kp6.trans kp7
    replace hq1 := kp47 _ _ (hd4.ns hq1 (fun _ _ z => by cases z)) hq1
    replace ht1 := kp47 _ _ (hd4.ns ht1 (fun _ _ z => by cases z)) ht1
    clear kp47 kp6 kp7 e1 e2 hd4 hd5 hd6 s1' nL1 ej ev a1 b1 a2 b2
    dsimp only
    -- the prices
    refine q_seq ?_
    refine ⟨.ref q1, rfl, q1, _, _, .int k, rfl, rfl, tl hq1, at_z (j := 0) rfl rfl, .ref q1, rfl, q1, _, _, .ref t1, rfl, rfl, tl hq1, at_z (j := 1) rfl rfl, fun p1 dx1 np1 ndx1 _ => ?_⟩
    refine pr_made np1 ndx1 (small_am k3 hl1' (.inr ht1)) k1 k3 hl1' ⟨t1, rfl, .inr ht1⟩ fun H8 s8 pr1 => ?_
    replace hq1 := s8 _ _ hq1
    replace ht1 := s8 _ _ ht1
    replace hq2 := s8 _ _ hq2
    replace ht2 := s8 _ _ ht2
    refine ⟨.ref q2, rfl, q2, _, _, .int k2, rfl, rfl, tl hq2, at_z (j := 0) rfl rfl, .ref q2, rfl, q2, _, _, .ref t2, rfl, rfl, tl hq2, at_z (j := 1) rfl rfl, fun p2 dx2 np2 ndx2 _ => ?_⟩
    refine pr_made np2 ndx2 (small_am k23 hl2 (.inr ht2)) k21 k23 hl2 ⟨t2, rfl, .inr ht2⟩ fun H9 s9 pr2 => ?_
    have oA : Own C h dr p1 q1 t1 k ms1 H9 := ⟨(hd7.same s8).same s9, s9 _ _ hq1, s9 _ _ ht1, pr1.same s9⟩
    have oB : Own C h dr p2 q2 t2 k2 ms2 H9 := ⟨(hd7.same s8).same s9, s9 _ _ hq2, s9 _ _ ht2, pr2⟩
    clear hq1 ht1 hq2 ht2 pr1 pr2 s8 s9 hd7
    refine ⟨_, _, rfl, ?_⟩
    dsimp only
    -- opposite
    refine q_seq (q_if ?_)
    obtain ⟨dxA, tA, hpA, _⟩ := id oA.pr
    refine ⟨.ref p1, rfl, p1, dxA, _, rfl, hpA, pf_no (by decide +kernel) (by decide +kernel), p1, k, ms1, rfl, oA.pr, fun HB xo sB prO => ⟨by show 2 ≤ sizeLine; decide, fun to nto => ?_⟩⟩
    have sO := same_upd (o := .tup [.str "made", .ref xo]) nto
    have oA2 := (oA.same sB).same sO
    refine ⟨.ref q1, rfl, q1, _, _, .int k, rfl, rfl, tl oA2.hq, at_z (j := 0) rfl rfl, .ref q1, rfl, q1, _, _, .ref t1, rfl, rfl, tl oA2.hq, at_z (j := 1) rfl rfl, t1, _, rfl, tl oA2.ht, fun r nr => ?_⟩
    have sR := same_upd (o := .tup (ms1.map V.int).reverse) nr
    refine ⟨to, xo, r, k, ms1.reverse, rfl, sR _ _ upd_same, (prO.same sO).same sR, ⟨r, rfl, .inr (by rw [upd_same, List.map_reverse])⟩, fun x m => bd17 hb1 x (List.mem_reverse.mp m), fun HC sC => ⟨true, rfl, ?_⟩⟩
    have sAC := sB.trans (sO.trans (sR.trans sC))
    replace oA := oA.same sAC
    replace oB := oB.same sAC
    clear oA2 prO sB sO sR sC sAC hpA
    refine q_next ?_
    dsimp only
    -- plus
    refine q_seq2J (fun σ H' => ∃ c : Option V, σ = [some (.ref a), some (.ref h), some (.ref q1), some (.ref q2), some (.ref p1), some (.ref p2), c, none, none, none, none] ∧ Own C h dr p1 q1 t1 k ms1 H' ∧ Own C h dr p2 q2 t2 k2 ms2 H') (fun σ' H' hJ => ?_) (fun key => ?_)
    rotate_left
    · refine q_set ?_
      refine ⟨.ref p1, rfl, .ref p2, rfl, "plus", p1, k, ms1, .ref p2, .non, rfl, oA.pr, .inl ⟨rfl, p2, k2, ms2, rfl, oB.pr, ?_, ?_⟩⟩
      · intro ekk td x HD sD htd prx
        subst ekk
        dsimp only
        have oA := oA.same sD
        have oB := oB.same sD
        refine q_seq ?_
        · refine q_if ?_
          refine ⟨.ref q1, rfl, q1, _, _, .int k, rfl, rfl, tl oA.hq, at_z (j := 0) rfl rfl, .ref q2, rfl, q2, _, _, .int k, rfl, rfl, tl oB.hq, at_z (j := 0) rfl rfl, rfl, _, rfl, ?_⟩
          rw [decide_eq_true rfl]
          dsimp only
          rw [if_neg (show ¬ (!true) = true by decide)]
          refine q_if ?_
          refine ⟨.ref td, rfl, .ref q1, rfl, q1, _, _, .int k, rfl, rfl, tl oA.hq, at_z (j := 0) rfl rfl, .ref q1, rfl, q1, _, _, .ref t1, rfl, rfl, tl oA.hq, at_z (j := 1) rfl rfl, t1, _, rfl, .inr (tl oA.ht), _, rfl, by rw [List.length_map]; have z := pow8 k3; omega, by rw [List.length_map]; have z := pow8 k3; omega, fun D nD => lc_range (lo := 0) (n := (ms1.map V.int).length) (fun i H' => Same HD H' ∧ H' D = some (.lst (((List.zipWith (· + ·) ms1 ms2).take i).map V.int))) ⟨same_upd nD, by rw [upd_same, List.take_zero]; rfl⟩ (fun i H' hi hP => ?_) (fun H' hP => ?_)⟩
          · obtain ⟨s', hD⟩ := hP
            rw [List.length_map] at hi
            have hi2 : i < ms2.length := by omega
            have g1 : (ms1.map V.int)[i]? = some (.int ms1[i]) := by rw [List.getElem?_map, List.getElem?_eq_getElem hi]; rfl
            have g2 : (ms2.map V.int)[i]? = some (.int ms2[i]) := by rw [List.getElem?_map, List.getElem?_eq_getElem hi2]; rfl
            refine ⟨rfl, .ref q1, rfl, q1, _, _, .ref t1, rfl, rfl, tl (s' _ _ oA.hq), at_z (j := 1) rfl rfl, .int (0 + (i : Int)), rfl, t1, _, _, _, rfl, rfl, tl (s' _ _ oA.ht), at_z (Int.zero_add _) g1, .ref q2, rfl, q2, _, _, .ref t2, rfl, rfl, tl (s' _ _ oB.hq), at_z (j := 1) rfl rfl, .int (0 + (i : Int)), rfl, t2, _, _, _, rfl, rfl, tl (s' _ _ oB.ht), at_z (Int.zero_add _) g2, _, _, rfl, rfl, _, hD, ?_, fun c o z => ?_, ?_⟩
            · rw [List.length_map, List.length_take]
              have z := pow8 k3
              exact small1000 (by omega)
            · rw [upd_ne (ne_of_none z nD)]
              exact s' _ _ z
            · rw [upd_same, List.take_add_one, List.getElem?_zipWith, List.getElem?_eq_getElem hi, List.getElem?_eq_getElem hi2, List.map_append]
              rfl
          · obtain ⟨s', hD⟩ := hP
            rw [List.length_map, List.take_of_length_le (by rw [List.length_zipWith]; omega)] at hD
            refine ⟨td, x, D, k, _, rfl, s' _ _ htd, prx.same s', ⟨D, rfl, .inl hD⟩, fun y m => ?_, fun HE sE => ⟨true, rfl, ?_⟩⟩
            · obtain ⟨i, hi, ey⟩ := List.getElem_of_mem m
              rw [List.length_zipWith] at hi
              rw [List.getElem_zipWith] at ey
              have z1 := hb1 _ (List.getElem_mem (show i < ms1.length by omega))
              have z2 := hb2 _ (List.getElem_mem (show i < ms2.length by omega))
              rw [← ey]
              omega
            · refine q_next ?_
              exact key _ _ ⟨_, rfl, oA.same (s'.trans sE), oB.same (s'.trans sE)⟩
      · intro nkk td HD sD htd
        dsimp only
        have oA := oA.same sD
        have oB := oB.same sD
        refine q_seq (q_if ?_)
        refine ⟨.ref q1, rfl, q1, _, _, .int k, rfl, rfl, tl oA.hq, at_z (j := 0) rfl rfl, .ref q2, rfl, q2, _, _, .int k2, rfl, rfl, tl oB.hq, at_z (j := 0) rfl rfl, rfl, _, rfl, ?_⟩
        rw [decide_eq_false (fun z => nkk (by have z' := V.int.inj z; omega))]
        dsimp only
        rw [if_pos (show (!false) = true by decide)]
        refine q_if ?_
        refine ⟨.ref td, rfl, by show 3 ≤ sizeLine; decide, fun tu ntu => ?_⟩
        refine due_eq (by decide +kernel) (by decide +kernel) (same_upd ntu _ _ htd) upd_same ⟨_, rfl, ?_⟩
        refine q_next ?_
        exact key _ _ ⟨_, rfl, oA.same (same_upd ntu), oB.same (same_upd ntu)⟩
    clear oA oB
    obtain ⟨c, rfl, oA, oB⟩ := hJ
    -- many
    refine q_seq (q_set ?_)
    refine ⟨.ref h, rfl, h, dr, 4, rfl, oA.hd, by decide, fun r1 G1 a1 b1 e1 hd1 => ⟨.ref h, rfl, h, dr, 1001, rfl, hd1, by decide, fun r2 G2 a2 b2 e2 hd2 => ⟨_, _, rfl, rfl, .inl ⟨by decide, by decide⟩, by show 2 ≤ sizeLine; decide, fun L nL => ?_⟩⟩⟩
    have sL := same_upd (o := .lst [.int r1, .int (999 * r2)]) nL
    refine ⟨.ref h, rfl, h, dr, 2, rfl, hd2.same sL, by decide, fun r3 G3 a3 b3 e3 hd3 => ?_⟩
    obtain ⟨j, y, ej, ev, y0, y1⟩ : ∃ (j : Nat) (y : Int), r3 = (j : Int) ∧ ([.int r1, .int (999 * r2)] : List V)[j]? = some (.int y) ∧ 0 ≤ y ∧ y ≤ 999000 := by
      have r' : r3 = ((0 : Nat) : Int) ∨ r3 = ((1 : Nat) : Int) := by omega
      rcases r' with e | e
      · exact ⟨0, r1, e, rfl, by omega, by omega⟩
      · exact ⟨1, 999 * r2, e, rfl, by omega, by omega⟩
    have kpM : Kp h H' G3 := (Kp.eq e1).trans ((Kp.eq e2).trans ((Kp.of sL).trans (Kp.eq e3)))
    refine ⟨L, _, r3, _, rfl, rfl, sl ((e3 _ (hd2.ne nL)).trans upd_same), at_z ej ev, _, _, rfl, rfl, ?_⟩
    replace oA := oA.kp kpM hd3
    replace oB := oB.kp kpM hd3
    clear kpM e1 e2 e3 hd1 hd2 hd3 sL nL ej ev a1 b1 a2 b2 a3 b3
    dsimp only
    -- min
    refine q_seq (q_set ?_)
    refine ⟨.int (1 + y), rfl, 1 + y, 999999, rfl, ?_⟩
    obtain ⟨m, em, m1, m9⟩ : ∃ m : Int, (if (999999 : Int) < 1 + y then 999999 else 1 + y) = m ∧ 1 ≤ m ∧ m ≤ 1000000 := ⟨_, rfl, by split <;> omega, by split <;> omega⟩
    rw [em]
    dsimp only
    -- times
    refine q_seq (q_if ?_)
    refine ⟨.ref p1, rfl, .int m, rfl, "times", p1, k, ms1, .int m, .non, rfl, oA.pr, .inr (.inl ⟨rfl, .int _, fun m' e _ => ⟨by have z := V.int.inj e; omega, fun td x HD sD htd prx => ?_⟩, fun no => absurd (no m rfl) (by omega)⟩)⟩
    have emm : m = m' := V.int.inj e
    subst emm
    replace oA := oA.same sD
    replace oB := oB.same sD
    refine ⟨.ref q1, rfl, q1, _, _, .int k, rfl, rfl, tl oA.hq, at_z (j := 0) rfl rfl, .ref q1, rfl, q1, _, _, .ref t1, rfl, rfl, tl oA.hq, at_z (j := 1) rfl rfl, t1, rfl, ⟨_, tl oA.ht⟩, fun D nD => lc_tup (K := K) (a := t1) (xs := ms1.map V.int) (fun i G => Same HD G ∧ G D = some (.lst (((ms1.take i).map (m * ·)).map V.int))) ⟨same_upd nD, by rw [upd_same, List.take_zero]; rfl⟩ (fun i G _ hP => tl (hP.1 _ _ oA.ht)) (fun i x1 G hx hP => ?_) (fun G hP => ?_)⟩
    · obtain ⟨s', hD⟩ := hP
      obtain ⟨w1, ew, rfl⟩ : ∃ w1, ms1[i]? = some w1 ∧ x1 = .int w1 := by
        rw [List.getElem?_map] at hx
        cases e : ms1[i]? with
        | none => rw [e] at hx; cases hx
        | some a => rw [e] at hx; exact ⟨a, rfl, (Option.some.inj hx).symm⟩
      refine ⟨rfl, .int m, rfl, .int w1, rfl, _, _, rfl, rfl, .inl ⟨Int.lt_of_lt_of_le (by decide) m1, Int.lt_of_le_of_lt m9 (by decide)⟩, _, hD, ?_, fun b o z => ?_, ?_⟩
      · rw [List.length_map, List.length_map, List.length_take]
        have z := pow8 k3
        exact small1000 (by omega)
      · rw [upd_ne (ne_of_none z nD)]
        exact s' _ _ z
      · rw [upd_same, List.take_add_one, ew, List.map_append, List.map_append]
        rfl
    obtain ⟨s', hD⟩ := hP
    rw [List.length_map, List.take_length] at hD
    refine ⟨td, x, D, k, _, rfl, s' _ _ htd, prx.same s', ⟨D, rfl, .inl hD⟩, fun z mz => ?_, fun HE sE => ⟨true, rfl, ?_⟩⟩
    · obtain ⟨w1, mw, rfl⟩ := List.mem_map.mp mz
      exact mul_bd m1 m9 (hb1 w1 mw)
    replace oA := oA.same (s'.trans sE)
    replace oB := oB.same (s'.trans sE)
    clear s' hD sE prx htd sD nD e em
    refine q_next ?_
    dsimp only
    -- odd
    refine q_seq (q_set ?_)
    refine ⟨1, rfl, by show 1 ≤ sizeLine; decide, fun u1 nu1 => ⟨by show 6 ≤ sizeLine; decide, fun L6 nL6 => ?_⟩⟩
    have s1 := same_upd (o := .tup [.int 1]) nu1
    have s2 := same_upd (o := .lst [.int 0, .int (-1), .bl true, .non, .str "2", .ref u1]) nL6
    refine ⟨.ref h, rfl, h, dr, 6, rfl, (oA.hd.same s1).same s2, by decide, fun r6 HF a6 b6 e6 hdF => ?_⟩
    have nu1h := oA.hd.ne nu1
    have kpF : Kp h HE HF := (Kp.of (s1.trans s2)).trans (Kp.eq e6)
    obtain ⟨j6, vo, do_, ej6, ev6, okn, odp, ook, otx, olt⟩ := oddm (K := K) a6 b6 nu1h ((e6 _ nu1h).trans (s2 _ _ upd_same))
    refine ⟨L6, _, r6, vo, rfl, rfl, sl ((e6 _ ((oA.hd.same s1).ne nL6)).trans upd_same), at_z ej6 ev6, ?_⟩
    replace oA := oA.kp kpF hdF
    replace oB := oB.kp kpF hdF
    clear s1 s2 e6 kpF nL6 hdF ej6 ev6
    dsimp only
    -- refused
    refine q_seq (q_if ?_)
    refine ⟨.ref p1, rfl, vo, rfl, "times", p1, k, ms1, vo, .non, rfl, oA.pr, .inr (.inl ⟨rfl, okn _ Kp.refl, fun m' e l => absurd (olt m' e) (by omega), fun _ => ⟨do_, odp _ Kp.refl, ook, fun td HG sG htd => ?_⟩⟩)⟩
    refine ⟨vo, rfl, _, do_, rfl, odp _ (Kp.of sG), ook, by show 3 ≤ sizeLine; decide, fun tu ntu => ?_⟩
    have sU := same_upd (o := .tup [.str "number", .str do_.shown, .bl true]) ntu
    refine due_eq (by decide +kernel) otx (sU _ _ htd) upd_same ⟨_, rfl, ?_⟩
    replace oA := (oA.same sG).same sU
    replace oB := (oB.same sG).same sU
    generalize upd HG tu (.tup [.str "number", .str do_.shown, .bl true]) = HH at oA oB ⊢
    clear sU sG htd ntu
    refine q_next ?_
    dsimp only
    -- fixed, read
    refine q_seq (q_if ?_)
    refine ⟨.ref h, rfl, .ref p1, rfl, .ref q1, rfl, h, dr, p1, q1, t1, k, ms1, rfl, oA, hb1, fun HI kpI hdI => ⟨true, rfl, ?_⟩⟩
    replace oA := oA.kp kpI hdI
    replace oB := oB.kp kpI hdI
    refine ⟨.ref h, rfl, .ref p1, rfl, .ref q1, rfl, h, dr, p1, q1, t1, k, ms1, rfl, oA, hb1, fun HJ kpJ hdJ => ⟨true, rfl, ?_⟩⟩
    replace oA := oA.kp kpJ hdJ
    replace oB := oB.kp kpJ hdJ
    clear kpI kpJ hdI hdJ
    refine q_next ?_
    dsimp only
    -- both prices stay
    refine q_ret ?_
    refine ⟨.ref p1, rfl, by show 2 ≤ sizeLine; decide, fun tm ntm => ?_⟩
    have sM := same_upd (o := .tup [.str "made", .ref p1]) ntm
    replace oA := oA.same sM
    replace oB := oB.same sM
    have htm : (upd HJ tm (.tup [.str "made", .ref p1])) tm = some (.tup [.str "made", .ref p1]) := upd_same
    generalize upd HJ tm (.tup [.str "made", .ref p1]) = HK at oA oB htm ⊢
    refine ⟨.ref q1, rfl, q1, _, _, .int k, rfl, rfl, tl oA.hq, at_z (j := 0) rfl rfl, .ref q1, rfl, q1, _, _, .ref t1, rfl, rfl, tl oA.hq, at_z (j := 1) rfl rfl, tm, p1, t1, k, ms1, rfl, htm, oA.pr, ⟨t1, rfl, .inr oA.ht⟩, bd17 hb1, fun HL sL => ⟨true, rfl, ?_⟩⟩
    replace oB := oB.same sL
    refine ⟨.ref p2, rfl, by show 2 ≤ sizeLine; decide, fun tn ntn => ?_⟩
    have sN := same_upd (o := .tup [.str "made", .ref p2]) ntn
    replace oB := oB.same sN
    exact ⟨.ref q2, rfl, q2, _, _, .int k2, rfl, rfl, tl oB.hq, at_z (j := 0) rfl rfl, .ref q2, rfl, q2, _, _, .ref t2, rfl, rfl, tl oB.hq, at_z (j := 1) rfl rfl, tn, p2, t2, k2, ms2, rfl, upd_same, oB.pr, ⟨t2, rfl, .inr oB.ht⟩, bd17 hb2, fun HM _ => q HM⟩
end
end C3

namespace C3
open PySem PySem.Spec PyProof.Rows L2 Ek
abbrev VE : List Value := [.type "ValueError", .type "Exception", .type "BaseException", .type "object"]
section
variable {K : PySem.W.Frag} {C pe : Addr} {nm q : Str} {N : Addr} {bs : List Value} {sn : List Str} {su : List Value} {ab : Bool} {co : Option Bool} {dd : Option Addr} {k0 k1 k2 k3 k5 : Option Value}
theorem cls_of (h : K.lookup C = some (excClassObj nm q C N bs (.ref pe :: VE) true sn su ab co dd k0 k1 k2 k3 k5 "ValueError.__new__")) : PySem.W.clsIn K C = some { name := nm, bases := bs, mro := .ref C :: .ref pe :: VE, ns := N, qualname := q, hasDict := true, slotNames := sn, subclasses := su, abstract := ab, collection := co, hasDel := false } := by
  unfold PySem.W.clsIn
  rw [h] <;> rfl
theorem mro_of (h : K.lookup C = some (excClassObj nm q C N bs (.ref pe :: VE) true sn su ab co dd k0 k1 k2 k3 k5 "ValueError.__new__")) (b : Value) : PySem.W.mroIn K C b = some ((.ref C :: .ref pe :: VE : List Value).contains b) := by
  unfold PySem.W.mroIn
  rw [cls_of h] <;> rfl
theorem exc_of (h : K.lookup C = some (excClassObj nm q C N bs (.ref pe :: VE) true sn su ab co dd k0 k1 k2 k3 k5 "ValueError.__new__")) : PySem.W.subIn K (.ref C) (.type "BaseException") = some true := by
  show PySem.W.mroIn K C _ = _
  rw [mro_of h]
  rfl
theorem hd_of (h : K.lookup C = some (excClassObj nm q C N bs (.ref pe :: VE) true sn su ab co dd k0 k1 k2 k3 k5 "ValueError.__new__")) : PySem.W.hasDictIn K C = true := by
  unfold PySem.W.hasDictIn
  rw [cls_of h] <;> rfl
theorem kit_pe (h : K.lookup C = some (excClassObj nm q C N bs (.ref pe :: VE) true sn su ab co dd k0 k1 k2 k3 k5 "ValueError.__new__")) (hD : (PySem.W.clsIn K pe).isSome = true) (tD : PySem.W.typeIn K (.ref pe) = some (.type "type")) (e : C ≠ pe) : PySem.W.kitOne K (.ref C) (.ref pe) = some true := by
  unfold PySem.W.kitOne
  rw [if_neg (by simpa using e)]
  show (if ((PySem.W.clsIn K pe).isSome && PySem.W.typeIn K (.ref pe) == some (.type "type")) = true then PySem.W.subIn K (.ref C) (.ref pe) else none) = _
  rw [if_pos (by rw [hD, tD]; rfl)]
  show PySem.W.mroIn K C _ = _
  rw [mro_of h]
  simp [List.contains_cons]
/-- an error's class is named by its own clause -/
theorem exm_own (h : K.lookup C = some (excClassObj nm q C N bs (.ref pe :: VE) true sn su ab co dd k0 k1 k2 k3 k5 "ValueError.__new__")) (ty : PySem.W.typeIn K (.ref C) = some (.type "type")) : PySem.W.exmOne K (.ref C) (.ref C) = some true := by
  have a := exc_of h
  have b : PySem.W.subIn K (.ref C) (.ref C) = some true := by
    show PySem.W.mroIn K C _ = _
    rw [mro_of h]
    simp [List.contains_cons]
  have c : (PySem.W.clsIn K C).isSome = true := by
    rw [cls_of h]
    rfl
  unfold PySem.W.exmOne
  simp [a, b, c, ty, PySem.W.kitCls]
theorem exm_not {D : Addr} (h : K.lookup C = some (excClassObj nm q C N bs (.ref pe :: VE) true sn su ab co dd k0 k1 k2 k3 k5 "ValueError.__new__")) (c : (PySem.W.clsIn K D).isSome = true) (ty : PySem.W.typeIn K (.ref D) = some (.type "type")) (ne : C ≠ D) (np : D ≠ pe) (sD : PySem.W.subIn K (.ref D) (.type "BaseException") = some true) : PySem.W.exmOne K (.ref C) (.ref D) = some false := by
  have a := exc_of h
  have b : PySem.W.subIn K (.ref C) (.ref D) = some false := by
    show PySem.W.mroIn K C _ = _
    rw [mro_of h]
    simp [List.contains_cons, np, Ne.symm ne, ne]
  unfold PySem.W.exmOne
  simp [a, b, c, ty, sD, PySem.W.kitCls]
end
theorem all_mk {l : PySem.W.OpenLaw} {w : World} {K : PySem.W.Frag} {h : Heap} {mg : Str → Option Value} {fa pe CN CU C fXN fXU fPI fPC fPO fPP fPT fPF fPX fII fIB fIV fIS fIQ fIR fRO fRN fAA fAP fDraws fTake fEvery fAmount fPlace fCost fLPrice fIs fDone fIsN fFixedIs fReadIs fLaw : Addr} (X : K.In h) (G : h.Ns mainGlobals mg) (hfa : mg "law" = some (.ref fa))
    {nmCN qCN : Str} {NCN : Addr} {bsCN : List Value} {snCN : List Str} {suCN : List Value} {abCN : Bool} {coCN : Option Bool} {ddCN : Option Addr} {kaCN kbCN kcCN kdCN keCN : Option Value}
    {odXN anXN : Option Addr} {slXN : Array (Option Value)} {ocXN kVXN dcXN pmXN cdXN ctXN : Value}
    {nmCU qCU : Str} {NCU : Addr} {bsCU : List Value} {snCU : List Str} {suCU : List Value} {abCU : Bool} {coCU : Option Bool} {ddCU : Option Addr} {kaCU kbCU kcCU kdCU keCU : Option Value}
    {odXU anXU : Option Addr} {slXU : Array (Option Value)} {ocXU kVXU dcXU pmXU cdXU ctXU : Value}
    {odPI anPI : Option Addr} {slPI : Array (Option Value)} {ocPI kVPI dcPI pmPI cdPI ctPI : Value}
    {odPC anPC : Option Addr} {slPC : Array (Option Value)} {ocPC kVPC dcPC pmPC cdPC ctPC : Value}
    {odPO anPO : Option Addr} {slPO : Array (Option Value)} {ocPO kVPO dcPO pmPO cdPO ctPO : Value}
    {odPP anPP : Option Addr} {slPP : Array (Option Value)} {ocPP kVPP dcPP pmPP cdPP ctPP : Value}
    {odPT anPT : Option Addr} {slPT : Array (Option Value)} {ocPT kVPT dcPT pmPT cdPT ctPT : Value}
    {odPF anPF : Option Addr} {slPF : Array (Option Value)} {ocPF kVPF dcPF pmPF cdPF ctPF : Value}
    {odPX anPX : Option Addr} {slPX : Array (Option Value)} {ocPX kVPX dcPX pmPX cdPX ctPX : Value}
    {odII anII : Option Addr} {slII : Array (Option Value)} {ocII kVII dcII pmII cdII ctII : Value}
    {odIB anIB : Option Addr} {slIB : Array (Option Value)} {ocIB kVIB dcIB pmIB cdIB ctIB : Value}
    {odIV anIV : Option Addr} {slIV : Array (Option Value)} {ocIV kVIV dcIV pmIV cdIV ctIV : Value}
    {odIS anIS : Option Addr} {slIS : Array (Option Value)} {ocIS kVIS dcIS pmIS cdIS ctIS : Value}
    {odIQ anIQ : Option Addr} {slIQ : Array (Option Value)} {ocIQ kVIQ dcIQ pmIQ cdIQ ctIQ : Value}
    {odIR anIR : Option Addr} {slIR : Array (Option Value)} {ocIR kVIR dcIR pmIR cdIR ctIR : Value}
    {odRO anRO : Option Addr} {slRO : Array (Option Value)} {ocRO kVRO dcRO pmRO cdRO ctRO : Value}
    {odRN anRN : Option Addr} {slRN : Array (Option Value)} {ocRN kVRN dcRN pmRN cdRN ctRN : Value}
    {odAA anAA : Option Addr} {slAA : Array (Option Value)} {ocAA kVAA dcAA pmAA cdAA ctAA : Value}
    {odAP anAP : Option Addr} {slAP : Array (Option Value)} {ocAP kVAP dcAP pmAP cdAP ctAP : Value}
    {odDraws anDraws : Option Addr} {slDraws : Array (Option Value)} {ocDraws kVDraws dcDraws pmDraws cdDraws ctDraws : Value}
    {odTake anTake : Option Addr} {slTake : Array (Option Value)} {ocTake kVTake dcTake pmTake cdTake ctTake : Value}
    {odEvery anEvery : Option Addr} {slEvery : Array (Option Value)} {ocEvery kVEvery dcEvery pmEvery cdEvery ctEvery : Value}
    {odAmount anAmount : Option Addr} {slAmount : Array (Option Value)} {ocAmount kVAmount dcAmount pmAmount cdAmount ctAmount : Value}
    {odPlace anPlace : Option Addr} {slPlace : Array (Option Value)} {ocPlace kVPlace dcPlace pmPlace cdPlace ctPlace : Value}
    {odCost anCost : Option Addr} {slCost : Array (Option Value)} {ocCost kVCost dcCost pmCost cdCost ctCost : Value}
    {odLPrice anLPrice : Option Addr} {slLPrice : Array (Option Value)} {ocLPrice kVLPrice dcLPrice pmLPrice cdLPrice ctLPrice : Value}
    {odIs anIs : Option Addr} {slIs : Array (Option Value)} {ocIs kVIs dcIs pmIs cdIs ctIs : Value}
    {odDone anDone : Option Addr} {slDone : Array (Option Value)} {ocDone kVDone dcDone pmDone cdDone ctDone : Value}
    {odIsN anIsN : Option Addr} {slIsN : Array (Option Value)} {ocIsN kVIsN dcIsN pmIsN cdIsN ctIsN : Value}
    {odFixedIs anFixedIs : Option Addr} {slFixedIs : Array (Option Value)} {ocFixedIs kVFixedIs dcFixedIs pmFixedIs cdFixedIs ctFixedIs : Value}
    {odReadIs anReadIs : Option Addr} {slReadIs : Array (Option Value)} {ocReadIs kVReadIs dcReadIs pmReadIs cdReadIs ctReadIs : Value}
    {odLaw anLaw : Option Addr} {slLaw : Array (Option Value)} {ocLaw kVLaw dcLaw pmLaw cdLaw ctLaw : Value}
    (aCN : PySem.W.nsIn K mainGlobals "InvalidNumber" = some (some (.ref CN)))
    (xLCN : K.lookup CN = some (excClassObj nmCN qCN CN NCN bsCN (.ref pe :: VE) true snCN suCN abCN coCN ddCN kaCN kbCN kcCN kdCN keCN "ValueError.__new__"))
    (saCN : PySem.W.findIn K (.ref CN) "__setattr__" = some (some (.builtin "object.__setattr__")))
    (gaCN : PySem.W.findIn K (.ref CN) "__getattribute__" = some (some (.builtin "BaseException.__getattribute__")))
    (ggCN : PySem.W.findIn K (.ref CN) "__getattr__" = some none)
    (caCN : PySem.W.findIn K (.ref CN) "__class__" = some (some (.builtin "object.__class__")))
    (tyCN : PySem.W.typeIn K (.ref CN) = some (.type "type"))
    (kpCN : PySem.W.keepIn K (.ref CN) = true)
    (noCN : PySem.W.findIn K (.ref CN) "value" = some none)
    (inCN : PySem.W.findIn K (.ref CN) "__init__" = some (some (.ref fXN)))
    (itCN : PySem.W.typeIn K (.ref fXN) = some (.type "function"))
    (lXN : K.lookup fXN = some ⟨ocXN, odXN, .func (PySem.W.fnOf "__init__" "InvalidNumber.__init__" (defArgs sXN) (defBody sXN) (defScope sXN) .none kVXN dcXN pmXN anXN cdXN ctXN), slXN⟩)
    (cXN : PySem.W.codeIn K cdXN "InvalidNumber.__init__" = true)
    (kkXN : PySem.W.keepIn K (.ref fXN) = true)
    (aCU : PySem.W.nsIn K mainGlobals "Undefined" = some (some (.ref CU)))
    (xLCU : K.lookup CU = some (excClassObj nmCU qCU CU NCU bsCU (.ref pe :: VE) true snCU suCU abCU coCU ddCU kaCU kbCU kcCU kdCU keCU "ValueError.__new__"))
    (saCU : PySem.W.findIn K (.ref CU) "__setattr__" = some (some (.builtin "object.__setattr__")))
    (gaCU : PySem.W.findIn K (.ref CU) "__getattribute__" = some (some (.builtin "BaseException.__getattribute__")))
    (ggCU : PySem.W.findIn K (.ref CU) "__getattr__" = some none)
    (caCU : PySem.W.findIn K (.ref CU) "__class__" = some (some (.builtin "object.__class__")))
    (tyCU : PySem.W.typeIn K (.ref CU) = some (.type "type"))
    (kpCU : PySem.W.keepIn K (.ref CU) = true)
    (noCU : PySem.W.findIn K (.ref CU) "what" = some none)
    (inCU : PySem.W.findIn K (.ref CU) "__init__" = some (some (.ref fXU)))
    (itCU : PySem.W.typeIn K (.ref fXU) = some (.type "function"))
    (lXU : K.lookup fXU = some ⟨ocXU, odXU, .func (PySem.W.fnOf "__init__" "Undefined.__init__" (defArgs sXU) (defBody sXU) (defScope sXU) .none kVXU dcXU pmXU anXU cdXU ctXU), slXU⟩)
    (cXU : PySem.W.codeIn K cdXU "Undefined.__init__" = true)
    (kkXU : PySem.W.keepIn K (.ref fXU) = true)
    (aC : PySem.W.nsIn K mainGlobals "Price" = some (some (.ref C)))
    (pgC : PySem.W.plainGet K C Str.empty = true)
    (hdC : PySem.W.hasDictIn K C = true)
    (poC : PySem.W.plainOver K C = true)
    (saC : PySem.W.findIn K (.ref C) "__setattr__" = some (some (.builtin "object.__setattr__")))
    (nSC : PySem.W.findIn K (.ref C) "size" = some none)
    (nAC : PySem.W.findIn K (.ref C) "amounts" = some none)
    (mkC : PySem.W.makesIn K C = true)
    (kpC : PySem.W.keepIn K (.ref C) = true)
    (caC : PySem.W.findIn K (.ref C) "__class__" = some (some (.builtin "object.__class__")))
    (moC : PySem.W.mroIn K C (.type "object") = some true)
    (ktC : PySem.W.kitOne K (.type "tuple") (.ref C) = some false)
    (inPI : PySem.W.findIn K (.ref C) "__init__" = some (some (.ref fPI)))
    (fnPI : PySem.W.isFn K (.ref fPI) = true)
    (lPI : K.lookup fPI = some ⟨ocPI, odPI, .func (PySem.W.fnOf "__init__" "Price.__init__" (defArgs sPI) (defBody sPI) (defScope sPI) .none kVPI dcPI pmPI anPI cdPI ctPI), slPI⟩)
    (cPI : PySem.W.codeIn K cdPI "Price.__init__" = true)
    (kkPI : PySem.W.keepIn K (.ref fPI) = true)
    (inPC : PySem.W.findIn K (.ref C) "cost" = some (some (.ref fPC)))
    (fnPC : PySem.W.isFn K (.ref fPC) = true)
    (lPC : K.lookup fPC = some ⟨ocPC, odPC, .func (PySem.W.fnOf "cost" "Price.cost" (defArgs sPC) (defBody sPC) (defScope sPC) .none kVPC dcPC pmPC anPC cdPC ctPC), slPC⟩)
    (cPC : PySem.W.codeIn K cdPC "Price.cost" = true)
    (kkPC : PySem.W.keepIn K (.ref fPC) = true)
    (inPO : PySem.W.findIn K (.ref C) "opposite" = some (some (.ref fPO)))
    (fnPO : PySem.W.isFn K (.ref fPO) = true)
    (lPO : K.lookup fPO = some ⟨ocPO, odPO, .func (PySem.W.fnOf "opposite" "Price.opposite" (defArgs sPO) (defBody sPO) (defScope sPO) .none kVPO dcPO pmPO anPO cdPO ctPO), slPO⟩)
    (cPO : PySem.W.codeIn K cdPO "Price.opposite" = true)
    (kkPO : PySem.W.keepIn K (.ref fPO) = true)
    (inPP : PySem.W.findIn K (.ref C) "plus" = some (some (.ref fPP)))
    (fnPP : PySem.W.isFn K (.ref fPP) = true)
    (lPP : K.lookup fPP = some ⟨ocPP, odPP, .func (PySem.W.fnOf "plus" "Price.plus" (defArgs sPP) (defBody sPP) (defScope sPP) .none kVPP dcPP pmPP anPP cdPP ctPP), slPP⟩)
    (cPP : PySem.W.codeIn K cdPP "Price.plus" = true)
    (kkPP : PySem.W.keepIn K (.ref fPP) = true)
    (inPT : PySem.W.findIn K (.ref C) "times" = some (some (.ref fPT)))
    (fnPT : PySem.W.isFn K (.ref fPT) = true)
    (lPT : K.lookup fPT = some ⟨ocPT, odPT, .func (PySem.W.fnOf "times" "Price.times" (defArgs sPT) (defBody sPT) (defScope sPT) .none kVPT dcPT pmPT anPT cdPT ctPT), slPT⟩)
    (cPT : PySem.W.codeIn K cdPT "Price.times" = true)
    (kkPT : PySem.W.keepIn K (.ref fPT) = true)
    (inPF : PySem.W.findIn K (.ref C) "fixed" = some (some (.ref fPF)))
    (fnPF : PySem.W.isFn K (.ref fPF) = true)
    (lPF : K.lookup fPF = some ⟨ocPF, odPF, .func (PySem.W.fnOf "fixed" "Price.fixed" (defArgs sPF) (defBody sPF) (defScope sPF) .none kVPF dcPF pmPF anPF cdPF ctPF), slPF⟩)
    (cPF : PySem.W.codeIn K cdPF "Price.fixed" = true)
    (kkPF : PySem.W.keepIn K (.ref fPF) = true)
    (inPX : PySem.W.findIn K (.ref C) "read_at" = some (some (.ref fPX)))
    (fnPX : PySem.W.isFn K (.ref fPX) = true)
    (lPX : K.lookup fPX = some ⟨ocPX, odPX, .func (PySem.W.fnOf "read_at" "Price.read_at" (defArgs sPX) (defBody sPX) (defScope sPX) .none kVPX dcPX pmPX anPX cdPX ctPX), slPX⟩)
    (cPX : PySem.W.codeIn K cdPX "Price.read_at" = true)
    (kkPX : PySem.W.keepIn K (.ref fPX) = true)
    (aII : PySem.W.nsIn K mainGlobals "is_integer" = some (some (.ref fII)))
    (lII : K.lookup fII = some ⟨ocII, odII, .func (PySem.W.fnOf "is_integer" "is_integer" (defArgs sII) (defBody sII) (defScope sII) .none kVII dcII pmII anII cdII ctII), slII⟩)
    (cII : PySem.W.codeIn K cdII "is_integer" = true)
    (kkII : PySem.W.keepIn K (.ref fII) = true)
    (aIB : PySem.W.nsIn K mainGlobals "is_number_below" = some (some (.ref fIB)))
    (lIB : K.lookup fIB = some ⟨ocIB, odIB, .func (PySem.W.fnOf "is_number_below" "is_number_below" (defArgs sIB) (defBody sIB) (defScope sIB) .none kVIB dcIB pmIB anIB cdIB ctIB), slIB⟩)
    (cIB : PySem.W.codeIn K cdIB "is_number_below" = true)
    (kkIB : PySem.W.keepIn K (.ref fIB) = true)
    (aIV : PySem.W.nsIn K mainGlobals "is_value" = some (some (.ref fIV)))
    (lIV : K.lookup fIV = some ⟨ocIV, odIV, .func (PySem.W.fnOf "is_value" "is_value" (defArgs sIV) (defBody sIV) (defScope sIV) .none kVIV dcIV pmIV anIV cdIV ctIV), slIV⟩)
    (cIV : PySem.W.codeIn K cdIV "is_value" = true)
    (kkIV : PySem.W.keepIn K (.ref fIV) = true)
    (aIS : PySem.W.nsIn K mainGlobals "is_size" = some (some (.ref fIS)))
    (lIS : K.lookup fIS = some ⟨ocIS, odIS, .func (PySem.W.fnOf "is_size" "is_size" (defArgs sIS) (defBody sIS) (defScope sIS) .none kVIS dcIS pmIS anIS cdIS ctIS), slIS⟩)
    (cIS : PySem.W.codeIn K cdIS "is_size" = true)
    (kkIS : PySem.W.keepIn K (.ref fIS) = true)
    (aIQ : PySem.W.nsIn K mainGlobals "is_sequence" = some (some (.ref fIQ)))
    (lIQ : K.lookup fIQ = some ⟨ocIQ, odIQ, .func (PySem.W.fnOf "is_sequence" "is_sequence" (defArgs sIQ) (defBody sIQ) (defScope sIQ) .none kVIQ dcIQ pmIQ anIQ cdIQ ctIQ), slIQ⟩)
    (cIQ : PySem.W.codeIn K cdIQ "is_sequence" = true)
    (kkIQ : PySem.W.keepIn K (.ref fIQ) = true)
    (aIR : PySem.W.nsIn K mainGlobals "is_row" = some (some (.ref fIR)))
    (lIR : K.lookup fIR = some ⟨ocIR, odIR, .func (PySem.W.fnOf "is_row" "is_row" (defArgs sIR) (defBody sIR) (defScope sIR) .none kVIR dcIR pmIR anIR cdIR ctIR), slIR⟩)
    (cIR : PySem.W.codeIn K cdIR "is_row" = true)
    (kkIR : PySem.W.keepIn K (.ref fIR) = true)
    (aRO : PySem.W.nsIn K mainGlobals "rows_of" = some (some (.ref fRO)))
    (lRO : K.lookup fRO = some ⟨ocRO, odRO, .func (PySem.W.fnOf "rows_of" "rows_of" (defArgs sRO) (defBody sRO) (defScope sRO) .none kVRO dcRO pmRO anRO cdRO ctRO), slRO⟩)
    (cRO : PySem.W.codeIn K cdRO "rows_of" = true)
    (kkRO : PySem.W.keepIn K (.ref fRO) = true)
    (aRN : PySem.W.nsIn K mainGlobals "row_number" = some (some (.ref fRN)))
    (lRN : K.lookup fRN = some ⟨ocRN, odRN, .func (PySem.W.fnOf "row_number" "row_number" (defArgs sRN) (defBody sRN) (defScope sRN) .none kVRN dcRN pmRN anRN cdRN ctRN), slRN⟩)
    (cRN : PySem.W.codeIn K cdRN "row_number" = true)
    (kkRN : PySem.W.keepIn K (.ref fRN) = true)
    (aAA : PySem.W.nsIn K mainGlobals "_are_amounts" = some (some (.ref fAA)))
    (lAA : K.lookup fAA = some ⟨ocAA, odAA, .func (PySem.W.fnOf "_are_amounts" "_are_amounts" (defArgs sAA) (defBody sAA) (defScope sAA) .none kVAA dcAA pmAA anAA cdAA ctAA), slAA⟩)
    (cAA : PySem.W.codeIn K cdAA "_are_amounts" = true)
    (kkAA : PySem.W.keepIn K (.ref fAA) = true)
    (aAP : PySem.W.nsIn K mainGlobals "_are_places" = some (some (.ref fAP)))
    (lAP : K.lookup fAP = some ⟨ocAP, odAP, .func (PySem.W.fnOf "_are_places" "_are_places" (defArgs sAP) (defBody sAP) (defScope sAP) .none kVAP dcAP pmAP anAP cdAP ctAP), slAP⟩)
    (cAP : PySem.W.codeIn K cdAP "_are_places" = true)
    (kkAP : PySem.W.keepIn K (.ref fAP) = true)
    (aDraws : PySem.W.nsIn K mainGlobals "_law_draws" = some (some (.ref fDraws)))
    (lDraws : K.lookup fDraws = some ⟨ocDraws, odDraws, .func (PySem.W.fnOf "_law_draws" "_law_draws" (defArgs sDraws) (defBody sDraws) (defScope sDraws) .none kVDraws dcDraws pmDraws anDraws cdDraws ctDraws), slDraws⟩)
    (cDraws : PySem.W.codeIn K cdDraws "_law_draws" = true)
    (kkDraws : PySem.W.keepIn K (.ref fDraws) = true)
    (aTake : PySem.W.nsIn K mainGlobals "_law_take" = some (some (.ref fTake)))
    (lTake : K.lookup fTake = some ⟨ocTake, odTake, .func (PySem.W.fnOf "_law_take" "_law_take" (defArgs sTake) (defBody sTake) (defScope sTake) .none kVTake dcTake pmTake anTake cdTake ctTake), slTake⟩)
    (cTake : PySem.W.codeIn K cdTake "_law_take" = true)
    (kkTake : PySem.W.keepIn K (.ref fTake) = true)
    (aEvery : PySem.W.nsIn K mainGlobals "_law_every" = some (some (.ref fEvery)))
    (lEvery : K.lookup fEvery = some ⟨ocEvery, odEvery, .func (PySem.W.fnOf "_law_every" "_law_every" (defArgs sEvery) (defBody sEvery) (defScope sEvery) .none kVEvery dcEvery pmEvery anEvery cdEvery ctEvery), slEvery⟩)
    (cEvery : PySem.W.codeIn K cdEvery "_law_every" = true)
    (kkEvery : PySem.W.keepIn K (.ref fEvery) = true)
    (aAmount : PySem.W.nsIn K mainGlobals "_law_amount" = some (some (.ref fAmount)))
    (lAmount : K.lookup fAmount = some ⟨ocAmount, odAmount, .func (PySem.W.fnOf "_law_amount" "_law_amount" (defArgs sAmount) (defBody sAmount) (defScope sAmount) .none kVAmount dcAmount pmAmount anAmount cdAmount ctAmount), slAmount⟩)
    (cAmount : PySem.W.codeIn K cdAmount "_law_amount" = true)
    (kkAmount : PySem.W.keepIn K (.ref fAmount) = true)
    (aPlace : PySem.W.nsIn K mainGlobals "_law_place" = some (some (.ref fPlace)))
    (lPlace : K.lookup fPlace = some ⟨ocPlace, odPlace, .func (PySem.W.fnOf "_law_place" "_law_place" (defArgs sPlace) (defBody sPlace) (defScope sPlace) .none kVPlace dcPlace pmPlace anPlace cdPlace ctPlace), slPlace⟩)
    (cPlace : PySem.W.codeIn K cdPlace "_law_place" = true)
    (kkPlace : PySem.W.keepIn K (.ref fPlace) = true)
    (aCost : PySem.W.nsIn K mainGlobals "_law_cost" = some (some (.ref fCost)))
    (lCost : K.lookup fCost = some ⟨ocCost, odCost, .func (PySem.W.fnOf "_law_cost" "_law_cost" (defArgs sCost) (defBody sCost) (defScope sCost) .none kVCost dcCost pmCost anCost cdCost ctCost), slCost⟩)
    (cCost : PySem.W.codeIn K cdCost "_law_cost" = true)
    (kkCost : PySem.W.keepIn K (.ref fCost) = true)
    (aLPrice : PySem.W.nsIn K mainGlobals "_law_price" = some (some (.ref fLPrice)))
    (lLPrice : K.lookup fLPrice = some ⟨ocLPrice, odLPrice, .func (PySem.W.fnOf "_law_price" "_law_price" (defArgs sLPrice) (defBody sLPrice) (defScope sLPrice) .none kVLPrice dcLPrice pmLPrice anLPrice cdLPrice ctLPrice), slLPrice⟩)
    (cLPrice : PySem.W.codeIn K cdLPrice "_law_price" = true)
    (kkLPrice : PySem.W.keepIn K (.ref fLPrice) = true)
    (aIs : PySem.W.nsIn K mainGlobals "_law_is" = some (some (.ref fIs)))
    (lIs : K.lookup fIs = some ⟨ocIs, odIs, .func (PySem.W.fnOf "_law_is" "_law_is" (defArgs sIs) (defBody sIs) (defScope sIs) .none kVIs dcIs pmIs anIs cdIs ctIs), slIs⟩)
    (cIs : PySem.W.codeIn K cdIs "_law_is" = true)
    (kkIs : PySem.W.keepIn K (.ref fIs) = true)
    (aDone : PySem.W.nsIn K mainGlobals "_law_done" = some (some (.ref fDone)))
    (lDone : K.lookup fDone = some ⟨ocDone, odDone, .func (PySem.W.fnOf "_law_done" "_law_done" (defArgs sDone) (defBody sDone) (defScope sDone) .none kVDone dcDone pmDone anDone cdDone ctDone), slDone⟩)
    (cDone : PySem.W.codeIn K cdDone "_law_done" = true)
    (kkDone : PySem.W.keepIn K (.ref fDone) = true)
    (aIsN : PySem.W.nsIn K mainGlobals "_law_is_number" = some (some (.ref fIsN)))
    (lIsN : K.lookup fIsN = some ⟨ocIsN, odIsN, .func (PySem.W.fnOf "_law_is_number" "_law_is_number" (defArgs sIsN) (defBody sIsN) (defScope sIsN) .none kVIsN dcIsN pmIsN anIsN cdIsN ctIsN), slIsN⟩)
    (cIsN : PySem.W.codeIn K cdIsN "_law_is_number" = true)
    (kkIsN : PySem.W.keepIn K (.ref fIsN) = true)
    (aFixedIs : PySem.W.nsIn K mainGlobals "_law_fixed_is" = some (some (.ref fFixedIs)))
    (lFixedIs : K.lookup fFixedIs = some ⟨ocFixedIs, odFixedIs, .func (PySem.W.fnOf "_law_fixed_is" "_law_fixed_is" (defArgs sFixedIs) (defBody sFixedIs) (defScope sFixedIs) .none kVFixedIs dcFixedIs pmFixedIs anFixedIs cdFixedIs ctFixedIs), slFixedIs⟩)
    (cFixedIs : PySem.W.codeIn K cdFixedIs "_law_fixed_is" = true)
    (kkFixedIs : PySem.W.keepIn K (.ref fFixedIs) = true)
    (aReadIs : PySem.W.nsIn K mainGlobals "_law_read_is" = some (some (.ref fReadIs)))
    (lReadIs : K.lookup fReadIs = some ⟨ocReadIs, odReadIs, .func (PySem.W.fnOf "_law_read_is" "_law_read_is" (defArgs sReadIs) (defBody sReadIs) (defScope sReadIs) .none kVReadIs dcReadIs pmReadIs anReadIs cdReadIs ctReadIs), slReadIs⟩)
    (cReadIs : PySem.W.codeIn K cdReadIs "_law_read_is" = true)
    (kkReadIs : PySem.W.keepIn K (.ref fReadIs) = true)
    (aLaw : PySem.W.nsIn K mainGlobals "law" = some (some (.ref fLaw)))
    (lLaw : K.lookup fLaw = some ⟨ocLaw, odLaw, .func (PySem.W.fnOf "law" "law" (defArgs sLaw) (defBody sLaw) (defScope sLaw) .none kVLaw dcLaw pmLaw anLaw cdLaw ctLaw), slLaw⟩)
    (cLaw : PySem.W.codeIn K cdLaw "law" = true)
    (kkLaw : PySem.W.keepIn K (.ref fLaw) = true)
    (aPE2 : PySem.W.nsIn K mainGlobals "PriceError" = some (some (.ref pe)))
    (hn : PySem.W.specialIn K (.builtin "object.__class__") "__get__" = some (some (.builtin "getset_descriptor.__get__")))
    (ht : PySem.W.takesIn K (.builtin "object.__class__") = some true)
    (cPE2 : (PySem.W.clsIn K pe).isSome = true)
    (tPE2 : PySem.W.typeIn K (.ref pe) = some (.type "type"))
    (zlen : PySem.W.nsIn K mainGlobals "len" = some none)
    (zint : PySem.W.nsIn K mainGlobals "int" = some none)
    (zabs : PySem.W.nsIn K mainGlobals "abs" = some none)
    (zrange : PySem.W.nsIn K mainGlobals "range" = some none)
    (zisinstance : PySem.W.nsIn K mainGlobals "isinstance" = some none)
    (zbool : PySem.W.nsIn K mainGlobals "bool" = some none)
    (zlist : PySem.W.nsIn K mainGlobals "list" = some none)
    (ztuple : PySem.W.nsIn K mainGlobals "tuple" = some none)
    (zall : PySem.W.nsIn K mainGlobals "all" = some none)
    (zmin : PySem.W.nsIn K mainGlobals "min" = some none)
    (zmax : PySem.W.nsIn K mainGlobals "max" = some none)
    (zsum : PySem.W.nsIn K mainGlobals "sum" = some none)
    (zrepr : PySem.W.nsIn K mainGlobals "repr" = some none)
    (zzip : PySem.W.nsIn K mainGlobals "zip" = some none)
    (neN : CN ≠ pe)
    (neU : CU ≠ pe)
    (neX : CU ≠ CN)
    : ∃ fd : FuncData, (∀ (s : Shared) (v : Value), BindsTo s fd ⟨[v], []⟩ [("script", v)]) ∧ ∀ base : Heap, K.In base → base.Ns mainGlobals mg → FnG l.prog w K mg base CX0 9 fa fd ["script"] (spLaw K) := by
  have e := hfa.symm.trans (PySem.W.mg_of X G aLaw)
  cases e
  have FXN := fun_mk (st := sXN) lXN cXN kkXN
  have bXN := FXN.binds (ps := ["self", "value"]) fun _ _ _ _ _ _ us hl => match us, hl with | [_, _], _ => rfl
  have oCN : OexC K CN := ⟨⟨_, _, _, _, _, _, _, _, _, _, _, _, _, _, _, xLCN, rfl⟩, saCN, exc_of xLCN, tyCN, kpCN⟩
  have xCN : ExcC K CN := ⟨gaCN, ggCN, exc_of xLCN, hd_of xLCN, caCN, hn, ht, by rw [mro_of xLCN]; rfl⟩
  have ECN : Xe K CN pe := ⟨exm_own xLCN tyCN, kit_pe xLCN cPE2 tPE2 neN⟩
  have XCN : Xc K mg "InvalidNumber" "value" CN := ⟨PySem.W.mg_of X G aCN, oCN, ⟨gaCN, ggCN, exc_of xLCN, hd_of xLCN⟩, xCN, noCN⟩
  have FXU := fun_mk (st := sXU) lXU cXU kkXU
  have bXU := FXU.binds (ps := ["self", "what"]) fun _ _ _ _ _ _ us hl => match us, hl with | [_, _], _ => rfl
  have oCU : OexC K CU := ⟨⟨_, _, _, _, _, _, _, _, _, _, _, _, _, _, _, xLCU, rfl⟩, saCU, exc_of xLCU, tyCU, kpCU⟩
  have xCU : ExcC K CU := ⟨gaCU, ggCU, exc_of xLCU, hd_of xLCU, caCU, hn, ht, by rw [mro_of xLCU]; rfl⟩
  have ECU : Xe K CU pe := ⟨exm_own xLCU tyCU, kit_pe xLCU cPE2 tPE2 neU⟩
  have XCU : Xc K mg "Undefined" "what" CU := ⟨PySem.W.mg_of X G aCU, oCU, ⟨gaCU, ggCU, exc_of xLCU, hd_of xLCU⟩, xCU, noCU⟩
  have FPI := fun_mk (st := sPI) lPI cPI kkPI
  have bPI := FPI.binds (ps := ["self", "size", "amounts"]) fun _ _ _ _ _ _ us hl => match us, hl with | [_, _, _], _ => rfl
  have mPI : Meth K C "__init__" fPI := ⟨inPI, fnPI, kkPI⟩
  have FPC := fun_mk (st := sPC) lPC cPC kkPC
  have bPC := FPC.binds (ps := ["self", "row"]) fun _ _ _ _ _ _ us hl => match us, hl with | [_, _], _ => rfl
  have mPC : Meth K C "cost" fPC := ⟨inPC, fnPC, kkPC⟩
  have FPO := fun_mk (st := sPO) lPO cPO kkPO
  have bPO := FPO.binds (ps := ["self"]) fun _ _ _ _ _ _ us hl => match us, hl with | [_], _ => rfl
  have mPO : Meth K C "opposite" fPO := ⟨inPO, fnPO, kkPO⟩
  have FPP := fun_mk (st := sPP) lPP cPP kkPP
  have bPP := FPP.binds (ps := ["self", "other"]) fun _ _ _ _ _ _ us hl => match us, hl with | [_, _], _ => rfl
  have mPP : Meth K C "plus" fPP := ⟨inPP, fnPP, kkPP⟩
  have FPT := fun_mk (st := sPT) lPT cPT kkPT
  have bPT := FPT.binds (ps := ["self", "many"]) fun _ _ _ _ _ _ us hl => match us, hl with | [_, _], _ => rfl
  have mPT : Meth K C "times" fPT := ⟨inPT, fnPT, kkPT⟩
  have FPF := fun_mk (st := sPF) lPF cPF kkPF
  have bPF := FPF.binds (ps := ["self", "place", "value"]) fun _ _ _ _ _ _ us hl => match us, hl with | [_, _, _], _ => rfl
  have mPF : Meth K C "fixed" fPF := ⟨inPF, fnPF, kkPF⟩
  have FPX := fun_mk (st := sPX) lPX cPX kkPX
  have bPX := FPX.binds (ps := ["self", "places", "size"]) fun _ _ _ _ _ _ us hl => match us, hl with | [_, _, _], _ => rfl
  have mPX : Meth K C "read_at" fPX := ⟨inPX, fnPX, kkPX⟩
  have FII := fun_mk (st := sII) lII cII kkII
  have bII := FII.binds (ps := ["value"]) fun _ _ _ _ _ _ us hl => match us, hl with | [_], _ => rfl
  have gII : mg "is_integer" = some (.ref fII) := PySem.W.mg_of X G aII
  have FIB := fun_mk (st := sIB) lIB cIB kkIB
  have bIB := FIB.binds (ps := ["value", "limit"]) fun _ _ _ _ _ _ us hl => match us, hl with | [_, _], _ => rfl
  have gIB : mg "is_number_below" = some (.ref fIB) := PySem.W.mg_of X G aIB
  have FIV := fun_mk (st := sIV) lIV cIV kkIV
  have bIV := FIV.binds (ps := ["value"]) fun _ _ _ _ _ _ us hl => match us, hl with | [_], _ => rfl
  have gIV : mg "is_value" = some (.ref fIV) := PySem.W.mg_of X G aIV
  have FIS := fun_mk (st := sIS) lIS cIS kkIS
  have bIS := FIS.binds (ps := ["value"]) fun _ _ _ _ _ _ us hl => match us, hl with | [_], _ => rfl
  have gIS : mg "is_size" = some (.ref fIS) := PySem.W.mg_of X G aIS
  have FIQ := fun_mk (st := sIQ) lIQ cIQ kkIQ
  have bIQ := FIQ.binds (ps := ["value"]) fun _ _ _ _ _ _ us hl => match us, hl with | [_], _ => rfl
  have gIQ : mg "is_sequence" = some (.ref fIQ) := PySem.W.mg_of X G aIQ
  have FIR := fun_mk (st := sIR) lIR cIR kkIR
  have bIR := FIR.binds (ps := ["value", "size"]) fun _ _ _ _ _ _ us hl => match us, hl with | [_, _], _ => rfl
  have gIR : mg "is_row" = some (.ref fIR) := PySem.W.mg_of X G aIR
  have FRO := fun_mk (st := sRO) lRO cRO kkRO
  have bRO := FRO.binds (ps := ["size"]) fun _ _ _ _ _ _ us hl => match us, hl with | [_], _ => rfl
  have gRO : mg "rows_of" = some (.ref fRO) := PySem.W.mg_of X G aRO
  have FRN := fun_mk (st := sRN) lRN cRN kkRN
  have bRN := FRN.binds (ps := ["row"]) fun _ _ _ _ _ _ us hl => match us, hl with | [_], _ => rfl
  have gRN : mg "row_number" = some (.ref fRN) := PySem.W.mg_of X G aRN
  have FAA := fun_mk (st := sAA) lAA cAA kkAA
  have bAA := FAA.binds (ps := ["value", "size"]) fun _ _ _ _ _ _ us hl => match us, hl with | [_, _], _ => rfl
  have gAA : mg "_are_amounts" = some (.ref fAA) := PySem.W.mg_of X G aAA
  have FAP := fun_mk (st := sAP) lAP cAP kkAP
  have bAP := FAP.binds (ps := ["value", "count", "size"]) fun _ _ _ _ _ _ us hl => match us, hl with | [_, _, _], _ => rfl
  have gAP : mg "_are_places" = some (.ref fAP) := PySem.W.mg_of X G aAP
  have FDraws := fun_mk (st := sDraws) lDraws cDraws kkDraws
  have bDraws := FDraws.binds (ps := ["script", "many"]) fun _ _ _ _ _ _ us hl => match us, hl with | [_, _], _ => rfl
  have gDraws : mg "_law_draws" = some (.ref fDraws) := PySem.W.mg_of X G aDraws
  have FTake := fun_mk (st := sTake) lTake cTake kkTake
  have bTake := FTake.binds (ps := ["hand", "many"]) fun _ _ _ _ _ _ us hl => match us, hl with | [_, _], _ => rfl
  have gTake : mg "_law_take" = some (.ref fTake) := PySem.W.mg_of X G aTake
  have FEvery := fun_mk (st := sEvery) lEvery cEvery kkEvery
  have bEvery := FEvery.binds (ps := ["many"]) fun _ _ _ _ _ _ us hl => match us, hl with | [_], _ => rfl
  have gEvery : mg "_law_every" = some (.ref fEvery) := PySem.W.mg_of X G aEvery
  have FAmount := fun_mk (st := sAmount) lAmount cAmount kkAmount
  have bAmount := FAmount.binds (ps := ["hand", "wide"]) fun _ _ _ _ _ _ us hl => match us, hl with | [_, _], _ => rfl
  have gAmount : mg "_law_amount" = some (.ref fAmount) := PySem.W.mg_of X G aAmount
  have FPlace := fun_mk (st := sPlace) lPlace cPlace kkPlace
  have bPlace := FPlace.binds (ps := ["row"]) fun _ _ _ _ _ _ us hl => match us, hl with | [_], _ => rfl
  have gPlace : mg "_law_place" = some (.ref fPlace) := PySem.W.mg_of X G aPlace
  have FCost := fun_mk (st := sCost) lCost cCost kkCost
  have bCost := FCost.binds (ps := ["price", "row"]) fun _ _ _ _ _ _ us hl => match us, hl with | [_, _], _ => rfl
  have gCost : mg "_law_cost" = some (.ref fCost) := PySem.W.mg_of X G aCost
  have FLPrice := fun_mk (st := sLPrice) lLPrice cLPrice kkLPrice
  have bLPrice := FLPrice.binds (ps := ["hand", "size"]) fun _ _ _ _ _ _ us hl => match us, hl with | [_, _], _ => rfl
  have gLPrice : mg "_law_price" = some (.ref fLPrice) := PySem.W.mg_of X G aLPrice
  have FIs := fun_mk (st := sIs) lIs cIs kkIs
  have bIs := FIs.binds (ps := ["made", "size", "amounts"]) fun _ _ _ _ _ _ us hl => match us, hl with | [_, _, _], _ => rfl
  have gIs : mg "_law_is" = some (.ref fIs) := PySem.W.mg_of X G aIs
  have FDone := fun_mk (st := sDone) lDone cDone kkDone
  have bDone := FDone.binds (ps := ["deed", "price", "one", "other"]) fun _ _ _ _ _ _ us hl => match us, hl with | [_, _, _, _], _ => rfl
  have gDone : mg "_law_done" = some (.ref fDone) := PySem.W.mg_of X G aDone
  have FIsN := fun_mk (st := sIsN) lIsN cIsN kkIsN
  have bIsN := FIsN.binds (ps := ["value", "least", "most"]) fun _ _ _ _ _ _ us hl => match us, hl with | [_, _, _], _ => rfl
  have gIsN : mg "_law_is_number" = some (.ref fIsN) := PySem.W.mg_of X G aIsN
  have FFixedIs := fun_mk (st := sFixedIs) lFixedIs cFixedIs kkFixedIs
  have bFixedIs := FFixedIs.binds (ps := ["hand", "price", "own"]) fun _ _ _ _ _ _ us hl => match us, hl with | [_, _, _], _ => rfl
  have gFixedIs : mg "_law_fixed_is" = some (.ref fFixedIs) := PySem.W.mg_of X G aFixedIs
  have FReadIs := fun_mk (st := sReadIs) lReadIs cReadIs kkReadIs
  have bReadIs := FReadIs.binds (ps := ["hand", "price", "own"]) fun _ _ _ _ _ _ us hl => match us, hl with | [_, _, _], _ => rfl
  have gReadIs : mg "_law_read_is" = some (.ref fReadIs) := PySem.W.mg_of X G aReadIs
  have FLaw := fun_mk (st := sLaw) lLaw cLaw kkLaw
  have bLaw := FLaw.binds (ps := ["script"]) fun _ _ _ _ _ _ us hl => match us, hl with | [_], _ => rfl
  have B : Bt mg := ⟨PySem.W.mg_none_of X G zlen, PySem.W.mg_none_of X G zint, PySem.W.mg_none_of X G zabs, PySem.W.mg_none_of X G zrange, PySem.W.mg_none_of X G zisinstance, PySem.W.mg_none_of X G zbool, PySem.W.mg_none_of X G zlist, PySem.W.mg_none_of X G ztuple, PySem.W.mg_none_of X G zall, PySem.W.mg_none_of X G zmin, PySem.W.mg_none_of X G zmax, PySem.W.mg_none_of X G zsum, PySem.W.mg_none_of X G zrepr, PySem.W.mg_none_of X G zzip⟩
  have T : Pc K mg C := ⟨PySem.W.mg_of X G aC, ⟨pgC, hdC, poC, saC⟩, nSC, nAC⟩
  have e : Pe K C := ⟨caC, hn, ht, moC, ktC⟩
  have te0 : PySem.W.exmOne K (.ref CU) (.ref CN) = some false := exm_not xLCU (by rw [cls_of xLCN]; rfl) tyCN neX (fun z => neN z) (exc_of xLCN)
  have M : Mk K C fPI := ⟨mkC, inPI, fnPI, kpC⟩
  have gPE2 : mg "PriceError" = some (.ref pe) := PySem.W.mg_of X G aPE2
  refine ⟨PySem.W.fnOf "law" "law" (defArgs sLaw) (defBody sLaw) (defScope sLaw) .none kVLaw dcLaw pmLaw anLaw cdLaw ctLaw, fun s v => .of_eq rfl, fun base _ _ => ?_⟩
  have GII := ok_II (P := l.prog) (w := w) (mg := mg) (base := base) FII B
  have GIB := ok_IB (P := l.prog) (w := w) (mg := mg) (base := base) FIB GII kkII bII gII
  have GIV := ok_IV (P := l.prog) (w := w) (mg := mg) (base := base) FIV GIB kkIB bIB gIB
  have GIS := ok_IS (P := l.prog) (w := w) (mg := mg) (base := base) FIS GII kkII bII gII
  have GIQ := ok_IQ (P := l.prog) (w := w) (mg := mg) (base := base) FIQ B
  have GIR := ok_IR (P := l.prog) (w := w) (mg := mg) (base := base) FIR B GIV kkIV bIV gIV
  have GRO := ok_RO (P := l.prog) (w := w) (mg := mg) (base := base) FRO B
  have GRN := ok_RN (P := l.prog) (w := w) (mg := mg) (base := base) FRN
  have GAA := ok_AA (P := l.prog) (w := w) (mg := mg) (base := base) FAA B GIQ kkIQ bIQ gIQ GII kkII bII gII
  have GAP := ok_AP (P := l.prog) (w := w) (mg := mg) (base := base) FAP B GIQ kkIQ bIQ gIQ GIB kkIB bIB gIB
  have GXN := ok_XN (P := l.prog) (w := w) (mg := mg) (base := base) FXN
  have GXU := ok_XU (P := l.prog) (w := w) (mg := mg) (base := base) FXU
  have GPI0 := ok_PI0 (P := l.prog) (w := w) (mg := mg) (base := base) FPI T B GIS kkIS bIS gIS GAA kkAA bAA gAA
  have GPC0 := ok_PC0 (P := l.prog) (w := w) (mg := mg) (base := base) FPC T GIR kkIR bIR gIR GRN kkRN bRN gRN
  have GPO := ok_PO (P := l.prog) (w := w) (mg := mg) (base := base) FPO T M GPI0 bPI
  have GPP := ok_PP (P := l.prog) (w := w) (mg := mg) (base := base) FPP T e B XCU M GPI0 bPI inCU itCU GXU bXU
  have GPT := ok_PT (P := l.prog) (w := w) (mg := mg) (base := base) FPT T B XCN GII kkII bII gII M GPI0 bPI inCN itCN GXN bXN
  have GPF := ok_PF (P := l.prog) (w := w) (mg := mg) (base := base) FPF T B XCN XCU GIB kkIB bIB gIB GIV kkIV bIV gIV GRO kkRO bRO gRO GPC0 kkPC bPC mPC M GPI0 bPI inCN itCN GXN bXN inCU itCU GXU bXU
  have GPX := ok_PX (P := l.prog) (w := w) (mg := mg) (base := base) FPX T B XCN GIS kkIS bIS gIS GAP kkAP bAP gAP GRO kkRO bRO gRO GPC0 kkPC bPC mPC M GPI0 bPI inCN itCN GXN bXN
  have GDraws := ok_draws (P := l.prog) (w := w) (mg := mg) (base := base) FDraws B
  have GTake := ok_take (P := l.prog) (w := w) (mg := mg) (base := base) FTake B
  have GEvery := ok_every (P := l.prog) (w := w) (mg := mg) (base := base) FEvery B
  have GAmount := ok_amount (P := l.prog) (w := w) (mg := mg) (base := base) FAmount GTake kkTake bTake gTake
  have GLPrice := ok_lprice (P := l.prog) (w := w) (mg := mg) (base := base) FLPrice B GTake kkTake bTake gTake GEvery kkEvery bEvery gEvery GAmount kkAmount bAmount gAmount
  have GPlace := ok_place (P := l.prog) (w := w) (mg := mg) (base := base) FPlace
  have GCost := ok_cost (P := l.prog) (w := w) (mg := mg) (base := base) FCost GPlace kkPlace bPlace gPlace
  have GIsN := ok_isn (P := l.prog) (w := w) (mg := mg) (base := base) FIsN B
  have GIs := ok_is (P := l.prog) (w := w) (mg := mg) (base := base) FIs T e B
  have GDone := ok_done (P := l.prog) (w := w) (mg := mg) (base := base) FDone T XCN XCU ECN ECU te0 B gPE2 mPP GPP (fun s self ws hl => match ws, hl with | [_], _ => .of_eq rfl) mPT GPT (fun s self ws hl => match ws, hl with | [_], _ => .of_eq rfl) mPF GPF (fun s self ws hl => match ws, hl with | [_, _], _ => .of_eq rfl) mPX GPX (fun s self ws hl => match ws, hl with | [_, _], _ => .of_eq rfl)
  have GFixedIs := ok_fixed (P := l.prog) (w := w) (mg := mg) (base := base) FFixedIs B GTake kkTake bTake gTake GDone kkDone bDone gDone GIsN kkIsN bIsN gIsN GEvery kkEvery bEvery gEvery GIs kkIs bIs gIs GCost kkCost bCost gCost
  have GReadIs := ok_read (P := l.prog) (w := w) (mg := mg) (base := base) FReadIs B GTake kkTake bTake gTake GDone kkDone bDone gDone GEvery kkEvery bEvery gEvery GIs kkIs bIs gIs GCost kkCost bCost gCost
  exact ok_law FLaw T B GDraws kkDraws bDraws gDraws GLPrice kkLPrice bLPrice gLPrice GTake kkTake bTake gTake GIs kkIs bIs gIs GDone kkDone bDone gDone GFixedIs kkFixedIs bFixedIs gFixedIs GReadIs kkReadIs bReadIs gReadIs M GPI0 bPI GPO bPO mPO
end C3

open PySem PySem.W PyProof.Rows
set_option maxHeartbeats 0 in
theorem PySem.Challenge.cw_cutorall_k03_prices_from_others_holds : PySem.Challenge.rw_cutorall_k03_prices_from_others.Holds := by
  w_on; o_law; k_head; (case hw => w_witness2)
  k_fill
  refine Ek.walk_ofG (l := PySem.Challenge.rw_cutorall_k03_prices_from_others) (n := 63) (k := 9) (x := "script") (sp := C3.spLaw) rfl (by decide) rfl ⟨rfl, by decide, by decide⟩ (fun w h Y => PySem.W.kIn_of Y) ?F (fun _ _ a ns hl _ hS => ⟨a, ns, rfl, hS, hl, fun _ => rfl⟩)
  case F =>
    intro w mg fa h KX G hmg
    refine' C3.all_mk KX G hmg ?aCN ?xLCN ?saCN ?gaCN ?ggCN ?caCN ?tyCN ?kpCN ?noCN ?inCN ?itCN ?lXN ?cXN ?kkXN ?aCU ?xLCU ?saCU ?gaCU ?ggCU ?caCU ?tyCU ?kpCU ?noCU ?inCU ?itCU ?lXU ?cXU ?kkXU ?aC ?pgC ?hdC ?poC ?saC ?nSC ?nAC ?mkC ?kpC ?caC ?moC ?ktC ?inPI ?fnPI ?lPI ?cPI ?kkPI ?inPC ?fnPC ?lPC ?cPC ?kkPC ?inPO ?fnPO ?lPO ?cPO ?kkPO ?inPP ?fnPP ?lPP ?cPP ?kkPP ?inPT ?fnPT ?lPT ?cPT ?kkPT ?inPF ?fnPF ?lPF ?cPF ?kkPF ?inPX ?fnPX ?lPX ?cPX ?kkPX ?aII ?lII ?cII ?kkII ?aIB ?lIB ?cIB ?kkIB ?aIV ?lIV ?cIV ?kkIV ?aIS ?lIS ?cIS ?kkIS ?aIQ ?lIQ ?cIQ ?kkIQ ?aIR ?lIR ?cIR ?kkIR ?aRO ?lRO ?cRO ?kkRO ?aRN ?lRN ?cRN ?kkRN ?aAA ?lAA ?cAA ?kkAA ?aAP ?lAP ?cAP ?kkAP ?aDraws ?lDraws ?cDraws ?kkDraws ?aTake ?lTake ?cTake ?kkTake ?aEvery ?lEvery ?cEvery ?kkEvery ?aAmount ?lAmount ?cAmount ?kkAmount ?aPlace ?lPlace ?cPlace ?kkPlace ?aCost ?lCost ?cCost ?kkCost ?aLPrice ?lLPrice ?cLPrice ?kkLPrice ?aIs ?lIs ?cIs ?kkIs ?aDone ?lDone ?cDone ?kkDone ?aIsN ?lIsN ?cIsN ?kkIsN ?aFixedIs ?lFixedIs ?cFixedIs ?kkFixedIs ?aReadIs ?lReadIs ?cReadIs ?kkReadIs ?aLaw ?lLaw ?cLaw ?kkLaw ?aPE2 ?hn ?ht ?cPE2 ?tPE2 ?zlen ?zint ?zabs ?zrange ?zisinstance ?zbool ?zlist ?ztuple ?zall ?zmin ?zmax ?zsum ?zrepr ?zzip ?neN ?neU ?neX
    (case aCN => k_is)
    (case xLCN => k_is)
    (case saCN => k_is)
    (case gaCN => k_is)
    (case ggCN => k_is)
    (case caCN => k_is)
    (case tyCN => k_is)
    (case kpCN => k_is)
    (case noCN => k_is)
    (case inCN => k_is)
    (case itCN => k_is)
    (case lXN => k_is)
    (case cXN => k_is)
    (case kkXN => k_is)
    (case aCU => k_is)
    (case xLCU => k_is)
    (case saCU => k_is)
    (case gaCU => k_is)
    (case ggCU => k_is)
    (case caCU => k_is)
    (case tyCU => k_is)
    (case kpCU => k_is)
    (case noCU => k_is)
    (case inCU => k_is)
    (case itCU => k_is)
    (case lXU => k_is)
    (case cXU => k_is)
    (case kkXU => k_is)
    (case aC => k_is)
    (case pgC => (first | k_is | rfl | decide +kernel))
    (case hdC => (first | k_is | rfl | decide +kernel))
    (case poC => (first | k_is | rfl | decide +kernel))
    (case saC => k_is)
    (case nSC => k_is)
    (case nAC => k_is)
    (case mkC => (first | k_is | rfl | decide +kernel))
    (case kpC => k_is)
    (case caC => k_is)
    (case moC => (first | k_is | rfl | decide +kernel))
    (case ktC => (first | k_is | rfl | decide +kernel))
    (case inPI => k_is)
    (case fnPI => (first | k_is | rfl | decide +kernel))
    (case lPI => k_is)
    (case cPI => k_is)
    (case kkPI => k_is)
    (case inPC => k_is)
    (case fnPC => (first | k_is | rfl | decide +kernel))
    (case lPC => k_is)
    (case cPC => k_is)
    (case kkPC => k_is)
    (case inPO => k_is)
    (case fnPO => (first | k_is | rfl | decide +kernel))
    (case lPO => k_is)
    (case cPO => k_is)
    (case kkPO => k_is)
    (case inPP => k_is)
    (case fnPP => (first | k_is | rfl | decide +kernel))
    (case lPP => k_is)
    (case cPP => k_is)
    (case kkPP => k_is)
    (case inPT => k_is)
    (case fnPT => (first | k_is | rfl | decide +kernel))
    (case lPT => k_is)
    (case cPT => k_is)
    (case kkPT => k_is)
    (case inPF => k_is)
    (case fnPF => (first | k_is | rfl | decide +kernel))
    (case lPF => k_is)
    (case cPF => k_is)
    (case kkPF => k_is)
    (case inPX => k_is)
    (case fnPX => (first | k_is | rfl | decide +kernel))
    (case lPX => k_is)
    (case cPX => k_is)
    (case kkPX => k_is)
    (case aII => k_is)
    (case lII => k_is)
    (case cII => k_is)
    (case kkII => k_is)
    (case aIB => k_is)
    (case lIB => k_is)
    (case cIB => k_is)
    (case kkIB => k_is)
    (case aIV => k_is)
    (case lIV => k_is)
    (case cIV => k_is)
    (case kkIV => k_is)
    (case aIS => k_is)
    (case lIS => k_is)
    (case cIS => k_is)
    (case kkIS => k_is)
    (case aIQ => k_is)
    (case lIQ => k_is)
    (case cIQ => k_is)
    (case kkIQ => k_is)
    (case aIR => k_is)
    (case lIR => k_is)
    (case cIR => k_is)
    (case kkIR => k_is)
    (case aRO => k_is)
    (case lRO => k_is)
    (case cRO => k_is)
    (case kkRO => k_is)
    (case aRN => k_is)
    (case lRN => k_is)
    (case cRN => k_is)
    (case kkRN => k_is)
    (case aAA => k_is)
    (case lAA => k_is)
    (case cAA => k_is)
    (case kkAA => k_is)
    (case aAP => k_is)
    (case lAP => k_is)
    (case cAP => k_is)
    (case kkAP => k_is)
    (case aDraws => k_is)
    (case lDraws => k_is)
    (case cDraws => k_is)
    (case kkDraws => k_is)
    (case aTake => k_is)
    (case lTake => k_is)
    (case cTake => k_is)
    (case kkTake => k_is)
    (case aEvery => k_is)
    (case lEvery => k_is)
    (case cEvery => k_is)
    (case kkEvery => k_is)
    (case aAmount => k_is)
    (case lAmount => k_is)
    (case cAmount => k_is)
    (case kkAmount => k_is)
    (case aPlace => k_is)
    (case lPlace => k_is)
    (case cPlace => k_is)
    (case kkPlace => k_is)
    (case aCost => k_is)
    (case lCost => k_is)
    (case cCost => k_is)
    (case kkCost => k_is)
    (case aLPrice => k_is)
    (case lLPrice => k_is)
    (case cLPrice => k_is)
    (case kkLPrice => k_is)
    (case aIs => k_is)
    (case lIs => k_is)
    (case cIs => k_is)
    (case kkIs => k_is)
    (case aDone => k_is)
    (case lDone => k_is)
    (case cDone => k_is)
    (case kkDone => k_is)
    (case aIsN => k_is)
    (case lIsN => k_is)
    (case cIsN => k_is)
    (case kkIsN => k_is)
    (case aFixedIs => k_is)
    (case lFixedIs => k_is)
    (case cFixedIs => k_is)
    (case kkFixedIs => k_is)
    (case aReadIs => k_is)
    (case lReadIs => k_is)
    (case cReadIs => k_is)
    (case kkReadIs => k_is)
    (case aLaw => k_is)
    (case lLaw => k_is)
    (case cLaw => k_is)
    (case kkLaw => k_is)
    (case aPE2 => k_is)
    (case hn => k_is)
    (case ht => k_is)
    (case cPE2 => (first | k_is | rfl | decide +kernel))
    (case tPE2 => k_is)
    (case zlen => k_is)
    (case zint => k_is)
    (case zabs => k_is)
    (case zrange => k_is)
    (case zisinstance => k_is)
    (case zbool => k_is)
    (case zlist => k_is)
    (case ztuple => k_is)
    (case zall => k_is)
    (case zmin => k_is)
    (case zmax => k_is)
    (case zsum => k_is)
    (case zrepr => k_is)
    (case zzip => k_is)
    (case neN => decide)
    (case neU => decide)
    (case neX => decide)

