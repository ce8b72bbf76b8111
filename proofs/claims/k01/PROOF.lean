import PyProof.Rows.All
import Wide.All
import OpenK.AllK
import Wide.FinOn
import HandS.ForMost
import HandS.ForExc
import HandS.ExcInit
import HandS.ExcIs
import HandS.IsInst
import HandS.Defaults
import HandS.MakeKwOnly
import HandS.Flow
import KE.KExcIs
import HandS.ExcField
import PySem.Challenge.RW_cutorall_k01_errors
set_option Elab.async false
set_option linter.all false
set_option maxRecDepth 100000
set_option maxHeartbeats 4000000
namespace Ek
open PySem PySem.W PySem.Calls PyProof.Rows PySem.HandSPX
section
variable {prog : Program} {w : World} {A : Around} {E : Value → Shared → Prop} {R : Result → Shared → Prop} {h : Heap} {g : Array GenState} {d : Drawn} {t : Nat} {os : OsState}
variable {nm q : Str} {C N fI : Addr} {bs bm bmB : List Value} {hdct : Bool} {sn : List Str} {sub : List Value} {ab : Bool} {col : Option Bool} {dd : Option Addr} {k0 k1 k2 k3 k5 : Option Value} {B newId initId : String}
/-- the check ahead of an own exception's making, keywords or none -/
theorem chk_kw (F : ExcBaseFacts B newId initId bmB) (hT : ∀ X : String, bm.contains (.type X) = bmB.contains (.type X)) {us : List Value} {kw : List (Str × Value)} {Q : Unit → Shared → Prop}
    (hC : h.get? C = some (excClassObj nm q C N bs bm hdct sn sub ab col dd k0 k1 k2 k3 k5 newId)) (z : Q () ⟨h, g, d, t, os⟩) : wpAny (model prog w) A (checkBuiltinCall newId ⟨.ref C :: us, kw⟩) Q E ⟨h, g, d, t, os⟩ := by
  have isB : (Value.ref C :: bm).contains (.type B) = true := by rw [List.contains_cons, hT, F.hasB, Bool.or_true]
  have st := F.noStar
  simp only [checkBuiltinCall, F.newKind, F.newSplit, F.newRow]
  repeat (first | (refine wpAny_isSubtype_exc hC ?_; rw [isB]) | refine wpAny_staticBase_exc hC ?_ | refine wpAny_madeBy_exc hC ?_ | refine wpAny_loadPart_at hC ?_ | simp only [bne_self_eq_false, Bool.false_eq_true, if_false] | wp_step)
  exact z
/-- what is laid: the tuple of the values by place, the exception -/
def laid (h : Heap) (C : Addr) (us : List Value) : Heap := (h.push (W.kdv_tup us)).push (excO C h.objs.size)
theorem new_kw (F : ExcBaseFacts B newId initId bmB) (hT : ∀ X : String, bm.contains (.type X) = bmB.contains (.type X)) {us : List Value} {kw : List (Str × Value)} (hC : h.get? C = some (excClassObj nm q C N bs bm hdct sn sub ab col dd k0 k1 k2 k3 k5 newId))
    (hz : us.length ≤ sizeLine) (z : R (.ok (.ret (.ref (h.objs.size + 1)))) ⟨laid h C us, g, d, t, os⟩) : codeAny (model prog w) A (.builtin newId ⟨.ref C :: us, kw⟩) R ⟨h, g, d, t, os⟩ := by
  have en := F.ends
  have isB : (Value.ref C :: bm).contains (.type B) = true := by rw [List.contains_cons, hT, F.hasB, Bool.or_true]
  have isA : (Value.ref C :: bm).contains (.type "AttributeError") = false := by rw [List.contains_cons, hT, F.noAttr]; rfl
  have isN : (Value.ref C :: bm).contains (.type "NameError") = false := by rw [List.contains_cons, hT, F.noName]; rfl
  refine codeAny_builtinAt F.entry ?_
  unfold Builtin.«BaseException.__new__»
  refine PySem.wpAt_bind ?_
  show PySem.wpAt _ _ _ (stack >>= _) _ _ _
  refine PySem.wpAt_bind (PySem.wpAt_stack fun p below => PySem.wpAt_of_wpAny ?_)
  wp_walk
  refine PySem.wpAt_of_wpAny ?_
  rw [F.owner]
  repeat (first | (with_reducible refine wpAny_isSubtype_exc hC ?_; first | rw [isB] | rw [isA] | rw [isN]) | with_reducible refine wpAny_madeHere_exc F.canon hC ?_ | with_reducible refine wpAny_loadPart_at hC ?_ | wp_step)
  show R _ _
  rw [Heap.size_push]
  exact z
theorem made_kw (F : ExcBaseFacts B newId initId bmB) (hT : ∀ X : String, bm.contains (.type X) = bmB.contains (.type X)) {us : List Value} {kw : List (Str × Value)} {Q : Fin → Shared → Prop} (hC : h.get? C = some (excClassObj nm q C N bs bm hdct sn sub ab col dd k0 k1 k2 k3 k5 newId))
    (hi : W.Looks (model prog w) h (typeLookup (.ref C) "__init__") (some (.ref fI))) (hb : ∀ self, W.Looks (model prog w) h (bindSpecial (.ref fI) self) (.ref fI, [self])) (hz : us.length ≤ sizeLine)
    (y : codeAny (model prog w) A (.call (.ref fI) ⟨.ref (h.objs.size + 1) :: us, kw⟩) (fun r s' => match r with | .ok (.ret v) => v = .none ∧ Q (.done (.ret (.ref (h.objs.size + 1)))) s' | .ok _ => False | .error e => E e s') ⟨laid h C us, g, d, t, os⟩) :
    wpAny (model prog w) A (Builtin.«type.__call__» ⟨.ref C :: us, kw⟩) Q E ⟨h, g, d, t, os⟩ := by
  repeat (first | with_reducible refine wpAny_madeBy_exc hC ?_ | with_reducible refine wpAny_loadPart_at hC ?_ | wp_step)
  refine codeAny_call_builtin_code (Code.quiet_builtin _ F.quiet) (chk_kw F hT hC (new_kw F hT hC hz (show wpAny _ _ _ _ _ _ from ?_)))
  have k : ∀ b o, h.get? b = some o → (laid h C us).get? b = some o := fun b o e => Heap.get?_push_of_some _ (Heap.get?_push_of_some _ e)
  have hx : (laid h C us).get? (h.objs.size + 1) = some (excO C h.objs.size) := by unfold laid; heap_get
  have isC : (Value.ref C :: bm).contains (.ref C) = true := by simp
  unfold isInstance
  repeat (first | (with_reducible refine wpAny_isSubtype_exc (k _ _ hC) ?_; rw [isC]) | with_reducible refine wpAny_loadPart_at hx ?_ | wp_step)
  refine (show wpAny _ _ (typeLookup (.ref C) _) _ _ _ from (hi.keeps k).at (wpAny_holding (wpAny_bind (((hb (.ref (h.objs.size + 1))).keeps k).at (wpAny_bind (wpAny_call (codeAny_mono y fun r s' z => ?_)))))))
  rcases r with e | (v | _ | _ | _) <;> first | exact z | exact z.elim | skip
  obtain ⟨rfl, z⟩ := z
  first | exact wpAny_pure (wpAny_pure z) | (wp_walk; exact z)
/-- C(.., k = v, ..) of an own exception class with its own __init__ -/
theorem call_kw (F : ExcBaseFacts B newId initId bmB) (hT : ∀ X : String, bm.contains (.type X) = bmB.contains (.type X)) {us : List Value} {kw : List (Str × Value)} (hC : h.get? C = some (excClassObj nm q C N bs bm hdct sn sub ab col dd k0 k1 k2 k3 k5 newId))
    (hi : W.Looks (model prog w) h (typeLookup (.ref C) "__init__") (some (.ref fI))) (hb : ∀ self, W.Looks (model prog w) h (bindSpecial (.ref fI) self) (.ref fI, [self])) (hz : us.length ≤ sizeLine)
    (y : codeAny (model prog w) (A.under (.builtin "type.__call__" ⟨.ref C :: us, kw⟩)) (.call (.ref fI) ⟨.ref (h.objs.size + 1) :: us, kw⟩) (W.InitBack (h.objs.size + 1) R) ⟨laid h C us, g, d, t, os⟩) :
    codeAny (model prog w) A (.call (.ref C) ⟨us, kw⟩) R ⟨h, g, d, t, os⟩ := by
  have f1 := tc_lookup
  have f2 := tc_bind (.ref C)
  have ty : (⟨h, g, d, t, os⟩ : Shared).TypeIs (.ref C) "type" := ⟨_, hC, rfl⟩
  refine codeAny_of_tree (show wpAny _ _ (callAny (.ref C) _) _ _ _ from ?_)
  repeat (any_goals (first | with_reducible refine wpAny_loadPart_at hC ?_ | assumption | wp_step))
  refine ⟨rfl, codeAny_call_builtin_at (Code.quiet_builtin _ (by decide +kernel)) entry_typeCall (wpAny_check_type_call_sub hC (made_kw F hT hC hi hb hz (codeAny_mono y fun r s' z => ?_)))⟩
  rcases r with e | (v | _ | _ | _) <;> exact z
end
end Ek

namespace Ek
open PySem PySem.Spec PyProof.Rows L2
/-! ### own exceptions as values -/
/-- at a: an exception of the class at C that has the fields fs -/
def XA (H : Hp) (a C : Addr) (fs : List (Str × V)) : Prop := ∃ d, H a = some (exo a C (some d)) ∧ H d = some (exd d fs)
/-- C(..), its own __init__ keeping sp -/
def tEx (C : Addr) (sp : Sp) (ta : TA) : TE := fun σ H Q => ta σ H fun vs H1 => vs.length ≤ 1000 ∧ ∀ a, H1 a = none → sp (.ref a :: vs) (upd H1 a (exo a C none)) (fun v H2 => v = .non ∧ Q (.ref a) H2) E0
section
variable {X : Cx} {CX : CXT} {x : Str} {C fI : Addr} {k : Nat} {fd : FuncData} {ps ks : List Str} {sp : Sp} {p pos : Pos} {e : Expr} {es : List Expr} {kws : List Keyword} {ta : TA}
theorem run_ex {pins : List (Addr × Obj)} {σ : L2.St} {H : Hp} {s : Shared} {Q : VK} {us all : List Value} {kw : List (Str × Value)} {vs : List V} (T : OexC X.K C) (iC : PySem.W.findIn X.K (.ref C) "__init__" = some (some (.ref fI))) (tI : PySem.W.typeIn X.K (.ref fI) = some (.type "function"))
    (F : FnOk X.prog X.w X.K X.mg X.base CX k fI fd ps sp) (hr : Room (k + 1) X.A) (hb : ∀ (s : Shared) (self : Value), X.K.In s.heap → BindsTo s fd ⟨self :: us, kw⟩ (ps.zip (self :: all))) (hx : Passes CX X E0) (I : Inv X pins σ H s) (hz : us.length ≤ sizeLine) (r : Vals vs all)
    (h : ∀ a, H a = none → sp (.ref a :: vs) (upd H a (exo a C none)) (fun v H2 => v = .non ∧ Q (.ref a) H2) E0) : wpAny (model X.prog X.w) X.A (call (.ref C) us kw) (EP X pins σ Q) X.xe s := by
  obtain ⟨nm, q, N, bs, bm, sn, sub, ab, col, dd, k0, k1, k2, k3, k5, hC, hbm⟩ := T.cls
  obtain ⟨hp, g, dr, tk, os⟩ := s
  have sz : hp.objs.size ≤ hp.objs.size + 1 := Nat.le_succ _
  have hq := h (hp.objs.size + 1) (I.hok.fresh sz)
  have kk : ∀ b o, hp.get? b = some o → (laid hp C us).get? b = some o := fun b o e => Heap.get?_push_of_some _ (Heap.get?_push_of_some _ e)
  have gx : (laid hp C us).get? (hp.objs.size + 1) = some (PySem.HandSPX.excO C hp.objs.size) := by unfold laid; heap_get
  have I2 : Inv X pins σ (upd H (hp.objs.size + 1) (exo (hp.objs.size + 1) C none)) ⟨laid hp C us, g, dr, tk, os⟩ := I.laid (t' := tk) (a := hp.objs.size + 1) (o := exo (hp.objs.size + 1) C none) (h' := laid hp C us) kk sz (exo_ok gx)
  refine wpAny_call (call_kw PySem.F.excBase_ValueError (fun Y => PySem.HandSPX.refsVE_contains Y bm hbm) (I.kIn _ _ hC) (PySem.W.looks_findIn I.kIn iC) (fun self => PySem.W.bind_fn I.kIn self tI) hz
    (codeAny_mono (F.run _ X.stack _ _ ⟨Value.ref (hp.objs.size + 1) :: us, kw⟩ (Value.ref (hp.objs.size + 1) :: all) _ _ E0 (hr.make C us kw) (I2.env0.make C us kw) (hb _ _ I2.kIn) (show Vals (V.ref (hp.objs.size + 1) :: vs) (Value.ref (hp.objs.size + 1) :: all) from .cons rfl r) hq) fun r s' z => ?_))
  cases r with
  | error er => exact hx pins σ _ _ er s' I2 z
  | ok fl =>
    cases fl with
    | ret u =>
      obtain ⟨v, H2, I3, rv, ev, q3⟩ := I2.after z
      subst ev
      exact ⟨rv, ⟨V.ref (hp.objs.size + 1), H2, I3, rfl, q3⟩⟩
    | next => exact False.elim z
    | brk => exact False.elim z
    | cont => exact False.elim z
/-- C(e, ..) as a value -/
theorem pe_ex (T : OexC X.K C) (iC : PySem.W.findIn X.K (.ref C) "__init__" = some (some (.ref fI))) (tI : PySem.W.typeIn X.K (.ref fI) = some (.type "function")) (F : FnOk X.prog X.w X.K X.mg X.base CX k fI fd ps sp) (hr : Room (k + 1) X.A) (hg : Gl X x) (hm : X.mg x = some (.ref C))
    (hb : Binds X.K fd ps []) (hx : Passes CX X E0) (ha : PA X (e :: es) ta) (hdb : (x == ("__debug__" : Str)) = false := by decide)
    (he : starEach (e :: es) X.env = (false, eval e X.env) :: starEach es X.env := by rfl) (hpl : (backTo pos (starEach es X.env)).any (·.1) = false := by rfl) : PE X (.Call (.Name x p) (e :: es) [] pos) (tEx C sp ta) := by
  refine ⟨fun pins s σ H Q I h => ?_⟩
  refine wpAny_Call_Name_kw (ld_glob I hg hm ?_ hdb)
  refine PySem.W.callWith_K (h₀ := X.base) I.ok.mod.kin T.kC (thn (ha.run pos pins s σ H _ I h) fun us s1 ⟨vs, H1, I1, r, hz, q⟩ => ⟨I1.kIn, ?_⟩) he hpl
  have hl : ∀ self : Value, ((self :: us) ++ []).length = ps.length := fun self => by
    have z := F.len _ _ _ _ (q (s1.heap.objs.size) (I1.hok.fresh (Nat.le_refl _)))
    rw [← z, List.append_nil, List.length_cons, List.length_cons, ← r.length]
  refine run_ex (all := us) (kw := []) T iC tI F hr (fun s2 self KX => ?_) hx I1 (by show us.length ≤ sizeLine; rw [← r.length, sizeLine_eq]; omega) r q
  have z := hb s2 (self :: us) KX (hl self)
  rw [List.append_nil] at z
  exact z
/-- C(k = v, ..) as a value -/
theorem pe_exk (T : OexC X.K C) (iC : PySem.W.findIn X.K (.ref C) "__init__" = some (some (.ref fI))) (tI : PySem.W.typeIn X.K (.ref fI) = some (.type "function")) (F : FnOk X.prog X.w X.K X.mg X.base CX k fI fd ps sp) (hr : Room (k + 1) X.A)
    (hg : Gl X x) (hm : X.mg x = some (.ref C)) (hps : ps.length = ks.length + 1) (hb : ∀ (s : Shared) (self : Value) (ws : List Value), ws.length = ks.length → BindsTo s fd ⟨[self], ks.zip ws⟩ (ps.zip (self :: ws))) (hx : Passes CX X E0) (hkw : PK X kws ta)
    (hall : (backToKw pos (keywordEach kws X.env)).all (·.1.isSome) = true := by rfl) (hks : (backToKw pos (keywordEach kws X.env)).filterMap (·.1) = ks := by rfl) (hdb : (x == ("__debug__" : Str)) = false := by decide)
    (hpl : ((backTo pos (starEach [] X.env)).any (·.1) || (backToKw pos (keywordEach kws X.env)).any (·.1.isNone)) = false := by rfl) :
    PE X (.Call (.Name x p) [] kws pos) (tEx C sp ta) := by
  refine ⟨fun pins s σ H Q I h => ?_⟩
  refine wpAny_Call_Name_kw (ld_glob I hg hm ?_ hdb)
  refine PySem.W.callWith_KW0 (h₀ := X.base) I.ok.mod.kin T.kC hall ?_ hpl
  refine thn (hkw.run pos pins s σ H _ I h) fun ws s2 ⟨zs, H2, I2, rz, hz, q2⟩ => ⟨I2.kIn, ?_⟩
  rw [hks]
  have hl : ws.length = ks.length := by
    have z := F.len _ _ _ _ (q2 (s2.heap.objs.size) (I2.hok.fresh (Nat.le_refl _)))
    rw [← rz.length]
    exact Nat.succ.inj (z.trans hps)
  exact run_ex (us := []) (all := ws) T iC tI F hr (fun s3 self _ => hb s3 self ws hl) hx I2 (Nat.zero_le _) rz q2
/-- e.f of such an exception -/
def tXA (K : PySem.W.Frag) (f : Str) (te : TE) : TE := fun σ H Q => te σ H fun x H1 => ∃ a C fs v, x = .ref a ∧ XfC K C ∧ PySem.W.findIn K (.ref C) f = some none ∧ XA H1 a C fs ∧ fs.lookup f = some v ∧ Q v H1
theorem pe_xa {n : Str} {te : TE} (he : PE X e te) (hb : attributeBase e n X.env (eval e X.env) = eval e X.env := by rfl) : PE X (.Attribute e n pos) (tXA X.K n te) := by
  refine ⟨fun pins s σ H Q I h => ?_⟩
  refine attr_of hb (thn (he.run pins s σ H _ I h) fun u s1 ⟨x, H1, I1, rx, a, C, fs, v, ex, T, hno, ⟨d, ha, hd⟩, l, q⟩ => ?_)
  subst ex
  obtain rfl : u = Value.ref a := rx
  obtain ⟨t1, ho⟩ := exo_at I1.hok ha
  obtain ⟨mA, hns, rel⟩ := exd_at I1.hok hd
  obtain ⟨od, hod, hl⟩ := lookIn_ns hns
  obtain ⟨u, hu, ru⟩ := RelO.some_of (v := v) (o := mA n) (by rw [← l]; exact rel n)
  have J : PySem.W.InstAt s1.heap a { cls := .ref C, dict := some d, data := .fields #[.ref t1, .none, .none, .none, .bool false, .none] } C (some od) := ⟨ho, rfl, rfl, hod⟩
  exact HandSPX.exc_get I1.kIn J T.ga T.gg T.exC (PySem.W.findObj_own T.hdC hno rfl (by rw [hl, hu])) (handed_of ru) ⟨v, H1, I1.tok _, ru, q⟩
/-- isinstance(e, c), e such an exception -/
def rIsX (K : PySem.W.Frag) : List V → Hp → VK → Prop := fun xs H Q => ∃ (a C : Addr) (fs : List (Str × V)) (c : V) (u : Value) (b : Bool), xs = [.ref a, c] ∧ XA H a C fs ∧ ExcC K C ∧ ClsV c u ∧ PySem.W.kitOne K (.ref C) u = some b ∧ Q (.bl b) H
theorem call_isX : CallR X (.builtin "isinstance") (rIsX X.K) := by
  intro pins s σ H xs us Q I r h
  obtain ⟨a, D, fs, c, u, b, rfl, ⟨d, ha, hd⟩, C, k, e, q⟩ := h
  obtain ⟨u1, u2, rfl, r1, r2⟩ := vals2 r
  have e2 := k.eq r2
  subst e2
  obtain rfl : u1 = Value.ref a := r1
  obtain ⟨t1, ho⟩ := exo_at I.hok ha
  obtain ⟨mA, hns, rel⟩ := exd_at I.hok hd
  obtain ⟨od, hod, hl⟩ := lookIn_ns hns
  have J : PySem.W.InstAt s.heap a { cls := .ref D, dict := some d, data := .fields #[.ref t1, .none, .none, .none, .bool false, .none] } D (some od) := ⟨ho, rfl, rfl, hod⟩
  have hcl : (PySem.W.clsIn X.K D).isSome = true := by
    obtain ⟨cd, hc, _⟩ := PySem.W.any_some C.hd
    rw [hc]
    rfl
  exact PySem.W.kia_one (PySem.W.kitx_exc hcl C.hg C.hk C.hs C.ha C.hn C.ht C.hm) I.kIn J e (fun z => nomatch z) fun tk => ⟨.bl b, H, I.kept (t' := tk) fun _ _ z => z, rfl, q⟩
end
/-! ### repr of data -/
/-- what repr may be asked of -/
def Okd (d : PyData) : Prop := d.showable = true ∧ d.hasDict = false ∧ d.depth ≤ 32 ∧ d.shown.length ≤ 1000000
def rRepr (K : PySem.W.Frag) : List V → Hp → VK → Prop := fun xs H Q => ∃ x d, xs = [x] ∧ Dp K H x d ∧ isDisplay d = true ∧ Okd d ∧ Q (.str d.shown) H
section
variable {X : Cx}
theorem call_repr (hg : X.A.guards = some []) (hu : X.A.units + 64 < cLine) : CallR X (.builtin "repr") (rRepr X.K) := by
  intro pins s σ H xs us Q I r h
  obtain ⟨x, d, rfl, hd, hdis, ⟨h1, h2, h3, h4⟩, q⟩ := h
  obtain ⟨u, rfl, ru⟩ := vals1 r
  obtain ⟨as, hr⟩ := Dp.reads I d x u hd ru
  obtain ⟨a, rfl⟩ := isRef_of_reads hr hdis
  exact repr_of_reads' hr h1 (PyData.noDict_hsm h2) hg (by omega) (fun _ _ e => e) (fun h' u tk hk => ⟨.str d.shown, H, I.kept (t' := tk) hk, ⟨u, rfl⟩, q⟩) (by rw [sizeLine_eq]; omega)
end
end Ek

namespace Ek
open PySem PySem.Spec PyProof.Rows L2
/-! ### promises of defs that are called while nothing is being shown (so that repr may be asked) -/
structure FnG (P : Program) (w : World) (K : PySem.W.Frag) (mg : Str → Option Value) (base : Heap) (CX : CXT) (k : Nat) (f : Addr) (fd : FuncData) (ps : List Str) (sp : Sp) : Prop where
  len : ∀ vs H Q E, sp vs H Q E → vs.length = ps.length
  run : ∀ (A : Around) (outer : List Env) (s : Shared) (H : Hp) (args : Args) (us : List Value) (vs : List V) (Q : VK) (E : XK), Room k A → A.guards = some [] → Env0 P w K mg base A outer s H →
    BindsTo s fd args (ps.zip us) → Vals vs us → sp vs H Q E → codeAny (model P w) A (.call (.ref f) args) (CR CX outer P w H s Q E) s
section
variable {P : Program} {w : World} {K : PySem.W.Frag} {mg : Str → Option Value} {base : Heap} {CX : CXT} {k : Nat} {f : Addr} {fd : FuncData} {ps : List Str} {sp : Sp}
theorem FnG.mono {j : Nat} (F : FnG P w K mg base CX j f fd ps sp) (h : j ≤ k) : FnG P w K mg base CX k f fd ps sp := ⟨F.len, fun A outer s H args us vs Q E hr => F.run A outer s H args us vs Q E (hr.mono h)⟩
/-- a def by its body -/
theorem okGX {x qual : Str} {st : Stmt} {N : List Str} (F : Fun K x qual st f fd) (S : FnScope N ps (defScope st)) (len : ∀ vs H Q E, sp vs H Q E → vs.length = ps.length)
    (body : ∀ (cdv : Value) (A : Around) (outer : List Env) (s : Shared) (H : Hp) (vs : List V) (Q : VK) (E : XK), Room k (A.deeper (envOfC qual (defScope st) s.heap.objs.size f cdv)) → A.guards = some [] → sp vs H Q E →
      ∃ t, PSs (cxOf CX P w K mg base N qual (defScope st) f cdv A outer s H E) (defBody st) t ∧ t { nx := fun _ H' => Q .non H', rt := Q } (start N vs) H) : FnG P w K mg base CX (k + 1) f fd ps sp := by
  obtain ⟨oc, od, kV, doc, pm, an, cdv, ct, osl, rfl, lk, hcd⟩ := F.ex
  constructor
  · exact len
  intro A outer s H args us vs Q E hr gd e0 hb r hsp
  have KX : K.In s.heap := e0.mod.kin.keeps fun b o e => (e0.bs b o e).1
  have kd : ∀ y ∈ ps.zip us, (defScope st).names.lookup y.1 = some .local ∨ ((defScope st).names.lookup y.1 = some .cell ∧ ((cellsFrom (s.heap.objs.size + 1) (defScope st).names []).lookup y.1).isSome = true) := by
    rintro ⟨n, v⟩ hy
    exact (S.par n (List.of_mem_zip hy).1).imp id fun q => ⟨q, PySem.W.cellsFrom_some _ _ _ (.inl q)⟩
  refine codeAny_call_function hr.depth (KX _ _ lk) rfl S.co S.gen rfl (PySem.W.codeRec_of KX hcd) (hb _ _ _ _ (wpAny_newFunctionEnv_cells S.kind kd fun env he s1 x => ?_))
  subst he
  obtain ⟨t, ht, hq⟩ := body cdv A outer s H vs Q E (hr.deeper _) gd hsp
  refine ⟨(e0.mod.nolimit.keeps fun b o e => (e0.bs b o e).1).keeps x.toInCall.keep, codeAny_func (wpAny_mono (ht.run [] s1 _ _ _ (inv_start S hr.hd e0 (len _ _ _ _ hsp) r x) hq) (fun fl s' hs => ?_) fun e s' hs => hs)⟩
  rcases fl with _ | _ | _ | u
  · obtain ⟨σ', H', J, q⟩ := hs
    exact ⟨V.non, H', J.os, J.bare, J.base, J.hok, rfl, q⟩
  · exact False.elim (by obtain ⟨_, _, _, q⟩ := hs; exact q)
  · exact False.elim (by obtain ⟨_, _, _, q⟩ := hs; exact q)
  · obtain ⟨v, σ', H', J, rv, q⟩ := hs
    exact ⟨v, H', J.os, J.bare, J.base, J.hok, rv, q⟩
theorem okG {x qual : Str} {st : Stmt} {N : List Str} (F : Fun K x qual st f fd) (S : FnScope N ps (defScope st)) (len : ∀ vs H Q E, sp vs H Q E → vs.length = ps.length)
    (body : ∀ (cdv : Value) (A : Around) (outer : List Env) (s : Shared) (H : Hp) (vs : List V) (Q : VK) (E : XK), Room k (A.deeper (envOfC qual (defScope st) s.heap.objs.size f cdv)) → A.guards = some [] → sp vs H Q E →
      ∃ t, PSs (cxOf CX0 P w K mg base N qual (defScope st) f cdv A outer s H E).nox (defBody st) t ∧ t { nx := fun _ H' => Q .non H', rt := Q } (start N vs) H) : FnG P w K mg base CX0 (k + 1) f fd ps sp :=
  okGX F S len fun cdv A outer s H vs Q E hr gd hsp => by
    obtain ⟨t, h, q⟩ := body cdv A outer s H vs Q E hr gd hsp
    exact ⟨t, h.nox, q⟩
end
section
variable {X : Cx} {CX : CXT} {x : Str} {f : Addr} {k : Nat} {fd : FuncData} {ps : List Str} {sp : Sp} {E : XK} {ds : List Value} {dvs : List V} {p pos : Pos} {e : Expr} {es : List Expr} {t : TA}
/-- f(e, ..) of such a def -/
theorem pe_callG (F : FnG X.prog X.w X.K X.mg X.base CX k f fd ps sp) (hr : Room k X.A) (gd : X.A.guards = some []) (hg : Gl X x) (hm : X.mg x = some (.ref f)) (hk : PySem.W.keepIn X.K (.ref f) = true) (hb : Binds X.K fd ps ds) (hd : Vals dvs ds) (hx : Passes CX X E) (ha : PA X (e :: es) t)
    (hdb : (x == ("__debug__" : Str)) = false := by decide) (he : starEach (e :: es) X.env = (false, eval e X.env) :: starEach es X.env := by rfl) (hpl : (backTo pos (starEach es X.env)).any (·.1) = false := by rfl) : PE X (.Call (.Name x p) (e :: es) [] pos) (tCall sp dvs E t) := by
  constructor
  intro pins s σ H Q I h
  refine wpAny_Call_Name_kw (ld_glob I hg hm (PySem.W.callWith_K (h₀ := X.base) I.ok.mod.kin hk (thn (ha.run pos pins s σ H _ I h) fun us s1 ⟨vs, H1, I1, r, q⟩ => ⟨I1.kIn, ?_⟩) he hpl) hdb)
  have r2 := r.append hd
  have hl : (us ++ ds).length = ps.length := r2.length.symm.trans (F.len _ _ _ _ q)
  refine wpAny_call (codeAny_mono (F.run X.A X.stack s1 H1 ⟨us, []⟩ (us ++ ds) (vs ++ dvs) Q E hr gd I1.env0 (hb s1 us I1.kIn hl) r2 q) fun r s' z => ?_)
  rcases r with er | (_ | _ | _ | u)
  · exact hx pins σ H1 s1 er s' I1 z
  · exact False.elim z
  · exact False.elim z
  · exact False.elim z
  · exact I1.after z
/-- less asked, the same said -/
theorem imp {e : Expr} {te te' : TE} (h : PE X e te) (i : ∀ σ H Q, te' σ H Q → te σ H Q) : PE X e te' := ⟨fun pins s σ H Q I q => h.run pins s σ H Q I (i σ H Q q)⟩
end
/-! ### the law's call -/
theorem law_callG {P : Program} {w : World} {K : PySem.W.Frag} {mg mb : Str → Option Value} {k : Nat} {fa a : Addr} {fd : FuncData} {x : Str} {sp : Sp} {s : Shared} {vs : List Value} {ns : List Int} (KX : K.In s.heap) (gl : s.heap.Ns mainGlobals mg) (bl : s.heap.Ns builtinsNs mb)
    (bb : ∀ x : Str, x ≠ "__name__" → mb x = bootBuiltins x) (lim : s.heap.NoLimit) (hg : s.gens = #[]) (ha : s.heap.get? a = some { cls := .type "list", data := .seq vs.toArray }) (hi : IntsAre vs ns) (hl : ns.length ≤ sizeLine) (hr : Room k callerA)
    (F : ∀ base : Heap, K.In base → base.Ns mainGlobals mg → FnG P w K mg base CX0 k fa fd [x] sp) (hb : ∀ (s : Shared) (u : Value), BindsTo s fd ⟨[u], []⟩ [(x, u)])
    (hsp : ∀ H : Hp, Only H → SqL K H a (ns.map V.int) → sp [.ref a] H (fun v _ => v = .bl true) fun _ _ _ => False) :
    codeAny (model P w) callerA (.call (.ref fa) ⟨[.ref a], []⟩) (fun r s' => r = .ok (.ret (.bool true)) ∧ OldK s.heap s'.heap ∧ s'.os = s.os ∧ AllBare s'.gens) s := by
  have core : ∀ H : Hp, Only H → SqL K H a (ns.map V.int) → HOk P w H s.heap → (∀ b u, H b = some u → b = a ∧ K.lookup a = none) →
      codeAny (model P w) callerA (.call (.ref fa) ⟨[.ref a], []⟩) (fun r s' => r = .ok (.ret (.bool true)) ∧ OldK s.heap s'.heap ∧ s'.os = s.os ∧ AllBare s'.gens) s := fun H hO hS ok one => by
    have free : ∀ b, b ≠ a → H b = none := fun b hb => by
      cases q : H b with
      | none => rfl
      | some u => exact absurd (one b u q).1 hb
    have dct : ∀ {b : Addr} {o : Obj} {es : Array DictEntry} {ep : Nat}, s.heap.get? b = some o → o.data = .dict es ep → H b = none := fun {b o es ep} e d => free b fun z => by
      rw [z, ha] at e
      cases e
      exact nomatch d
    have nsK : ∀ {b : Addr} {m : Str → Option Value}, s.heap.Ns b m → (hidT s.heap H).Ns b m := fun {b m} ⟨o, es, ep, e, d, r⟩ => ⟨o, es, ep, hidT_get e (dct e d), d, r⟩
    have kb : K.In (hidT s.heap H) := fun b o e => hidT_get (KX b o e) (by
      cases q : H b with
      | none => rfl
      | some u =>
        obtain ⟨rfl, z⟩ := one b u q
        rw [z] at e
        exact nomatch e)
    have md : Mod K mg (hidT s.heap H) := ⟨kb, nsK gl, ⟨mb, nsK bl, bb⟩, by obtain ⟨mc, h1, h2⟩ := lim; exact ⟨mc, nsK h1, h2⟩⟩
    have e0 : Env0 P w K mg (hidT s.heap H) callerA [] s H := ⟨rfl, md, fun b o e => of_hidT e, Nat.le_of_eq (hidT_size _ _), trivial, (fun b hb => by have z : b ∈ ([] : List Addr) := hb; cases z), ok, .of_eq hg⟩
    refine codeAny_mono ((F _ kb (nsK gl)).run callerA [] s H ⟨[.ref a], []⟩ [.ref a] [.ref a] _ _ hr rfl e0 (hb s (.ref a)) (.cons rfl .nil) (hsp H hO hS)) fun r s' h => ?_
    rcases r with e | (_ | _ | _ | u)
    · exact False.elim h
    · exact False.elim h
    · exact False.elim h
    · exact False.elim h
    · obtain ⟨v, H', os, bare, un, ok', r', q⟩ := h
      obtain rfl : v = .bl true := q
      obtain rfl : u = Value.bool true := r'
      refine ⟨rfl, OldK.of_keep fun b o e => ?_, os, bare⟩
      cases q : H b with
      | none => exact un.keep b o e q (by intro z; have z' : b ∈ ([] : List Addr) := z; cases z') (by simp)
      | some u =>
        rcases hO b with z | ⟨ob, xs, z⟩
        · rw [q] at z
          cases z
        · obtain ⟨e1, _⟩ := ok b _ z
          obtain ⟨e2, _⟩ := ok' b _ (un.frzs b ob _ z)
          rw [← e1, e] at *
          exact e2
  cases hk : K.lookup a with
  | some o =>
    have e := KX a o hk
    rw [ha] at e
    cases e
    exact core (fun _ => none) (fun _ => .inl rfl) (.inr ⟨_, vs.toArray, _, hk, rfl, rfl, rfl, by rw [List.size_toArray, hi.length]; exact hl, by simpa using vals_ints hi⟩) (fun b u z => nomatch (show (none : Option HO) = some u from z)) fun b u z => nomatch (show (none : Option HO) = some u from z)
  | none =>
    have pos : ∀ {b : Addr} {u : HO}, (if b = a then some (HO.frz { cls := .type "list", data := .seq vs.toArray } (.lst (ns.map V.int))) else none) = some u → b = a ∧ HO.frz { cls := .type "list", data := .seq vs.toArray } (.lst (ns.map V.int)) = u := fun {b u} z => by
      by_cases hb : b = a
      · rw [if_pos hb] at z
        exact ⟨hb, Option.some.inj z⟩
      · rw [if_neg hb] at z
        cases z
    refine core (fun b => if b = a then some (.frz { cls := .type "list", data := .seq vs.toArray } (.lst (ns.map V.int))) else none) (fun b => ?_) (.inl (.inr ⟨_, if_pos rfl⟩)) (fun b u z => ?_) fun b u z => ⟨(pos z).1, hk⟩
    · by_cases hb : b = a
      · exact .inr ⟨_, _, if_pos hb⟩
      · exact .inl (if_neg hb)
    · obtain ⟨rfl, rfl⟩ := pos z
      exact ⟨ha, by rw [List.length_map]; exact hl, vs, _, vals_ints hi, ha⟩
theorem walk_ofG {l : PySem.W.OpenLaw} {n k : Nat} {q : Program} {loose : List Str} {XP : (Str → Option Value) → Heap → Prop} {YP : World → Heap → Prop} {d : DefRec} {K : Params → PySem.W.Frag} {sp : PySem.W.Frag → Sp} {x : Str} (hn : l.most = some n) (hn2 : n ≤ sizeLine) (hdf : d.params.defaults = [])
    (hr : Room k callerA) (hY : ∀ (w : World) (h : Heap), YP w h → (K w.params).In h)
    (F : ∀ (w : World) (mg : Str → Option Value) (fa : Addr) (h : Heap), (K w.params).In h → h.Ns mainGlobals mg → mg d.name = some (.ref fa) → ∃ fd : FuncData, (∀ (s : Shared) (u : Value), BindsTo s fd ⟨[u], []⟩ [(x, u)]) ∧
      ∀ base : Heap, (K w.params).In base → base.Ns mainGlobals mg → FnG l.prog w (K w.params) mg base CX0 k fa fd [x] (sp (K w.params)))
    (hsp : ∀ (K : PySem.W.Frag) (H : Hp) (a : Addr) (ns : List Int), ns.length ≤ n → Only H → SqL K H a (ns.map V.int) → sp K [.ref a] H (fun v _ => v = .bl true) fun _ _ _ => False) : PySem.W.WalkO q loose XP YP l.row.toRowW d [] (fun f vs => PySem.call f vs) := by
  refine Att.attach_call hn hdf fun w s₀ s₁ mg mb fa o pm cd doc a vs ns G Y ho hd hcd hmg hobj hints hlen hg => ?_
  obtain ⟨fd, hb, hF⟩ := F w mg fa _ (hY w _ Y) G.T.g hmg
  exact law_callG (hY w _ Y) G.T.g G.T.b G.T.builtins G.T.nolimit hg hobj hints (Nat.le_trans hlen hn2) hr hF hb fun H hO hS => hsp _ H a ns hlen hO hS
end Ek

namespace Ek
open PySem PySem.Spec PyProof.Rows L2
/-! ### heaps and places -/
theorem at_z {α : Type} {xs : List α} {z : Int} {j : Nat} {v : α} (e : z = (j : Int)) (h : xs[j]? = some v) : atI xs z = some v := by
  rw [e]
  exact atI_nat h
theorem ix_z {n : Nat} {z : Int} {j : Nat} (e : z = (j : Int)) (h : j < n) : ixN n z = some j := by
  unfold ixN
  rw [e, if_pos (by omega), if_pos (by omega)]
  simp
theorem in64 {x n : Int} (hn : 0 < n ∧ n < 2147483648) : -(2 ^ 64) < x % n ∧ x % n < 2 ^ 64 := by
  have a := Int.emod_nonneg x (show n ≠ 0 by omega)
  have b := Int.emod_lt_of_pos x hn.1
  constructor
  · exact Int.lt_of_lt_of_le (by decide) a
  · exact Int.lt_trans (Int.lt_trans b hn.2) (by decide)
theorem same_upd {H : Hp} {p : Addr} {o : HO} (h : H p = none) : Same H (upd H p o) := fun b x e => by
  rw [upd_ne (ne_of_none e h)]
  exact e
theorem sl {K : PySem.W.Frag} {H : Hp} {a : Addr} {xs : List V} (h : H a = some (.lst xs)) : SqL K H a xs := .inl (.inl h)
theorem tl {K : PySem.W.Frag} {H : Hp} {a : Addr} {xs : List V} (h : H a = some (.tup xs)) : SqT K H a xs := .inl (.inl h)
/-- all but the hand is as it was -/
def Kp (h : Addr) (H H' : Hp) : Prop := ∀ b o, b ≠ h → H b = some o → H' b = some o
theorem Kp.refl {h : Addr} {H : Hp} : Kp h H H := fun _ _ _ e => e
theorem Kp.trans {h : Addr} {H H1 H2 : Hp} (a : Kp h H H1) (b : Kp h H1 H2) : Kp h H H2 := fun c o n e => b c o n (a c o n e)
theorem Kp.of {h : Addr} {H H1 : Hp} (a : Same H H1) : Kp h H H1 := fun c o _ e => a c o e
/-- the hand: a list of the drawn numbers and the place of the next -/
def Hd (H : Hp) (h : Addr) : Prop := ∃ (d : Addr) (ds : List Int) (t : Nat), H h = some (.lst [.ref d, .int (t : Int)]) ∧ H d = some (.lst (ds.map V.int)) ∧ d ≠ h ∧ ∀ x ∈ ds, 0 ≤ x
theorem Hd.same {H H' : Hp} {h : Addr} (s : Same H H') (x : Hd H h) : Hd H' h := by
  obtain ⟨d, ds, t, h1, h2, n, p⟩ := x
  exact ⟨d, ds, t, s _ _ h1, s _ _ h2, n, p⟩
theorem Hd.ne {H : Hp} {h b : Addr} (x : Hd H h) (e : H b = none) : b ≠ h := fun z => by
  obtain ⟨d, ds, t, h1, _⟩ := x
  rw [z, h1] at e
  cases e
theorem Hd.ns {H : Hp} {h b : Addr} {o : HO} (x : Hd H h) (e : H b = some o) (n : ∀ d t, o ≠ .lst [.ref d, .int t]) : b ≠ h := fun z => by
  obtain ⟨d, ds, t, h1, _⟩ := x
  rw [z, h1] at e
  exact n _ _ (Option.some.inj e).symm
/-! ### what a display of exceptions leaves -/
theorem XA.mono {H H' : Hp} {a C : Addr} {fs : List (Str × V)} (s : Same H H') (x : XA H a C fs) : XA H' a C fs := by
  obtain ⟨d, h1, h2⟩ := x
  exact ⟨d, s _ _ h1, s _ _ h2⟩
/-- exceptions at es, of these classes, with these fields -/
abbrev XAs (H : Hp) (es : List Addr) (cfs : List (Addr × List (Str × V))) : Prop := Paired (fun e (cf : Addr × List (Str × V)) => XA H e cf.1 cf.2) es cfs
theorem XAs.mono {H H' : Hp} {es : List Addr} {cfs : List (Addr × List (Str × V))} (s : Same H H') (x : XAs H es cfs) : XAs H' es cfs := by
  induction x with
  | nil => exact .nil
  | cons a _ ih => exact .cons (XA.mono s a) ih
theorem paired_app {α β : Type} {F : α → β → Prop} {a c : List α} {b d : List β} (x : Paired F a b) (y : Paired F c d) : Paired F (a ++ c) (b ++ d) := by
  induction x with
  | nil => exact y
  | cons h _ ih => exact .cons h ih
theorem paired_get {α β : Type} {F : α → β → Prop} {a : List α} {b : List β} (x : Paired F a b) : ∀ {i : Nat} {z : β}, b[i]? = some z → ∃ y, a[i]? = some y ∧ F y z := by
  induction x with
  | nil => intro i z h; simp at h
  | cons p _ ih =>
    intro i z h
    cases i with
    | zero => exact ⟨_, rfl, by cases h; exact p⟩
    | succ i => exact ih (by simpa using h)
theorem paired_len {α β : Type} {F : α → β → Prop} {a : List α} {b : List β} (x : Paired F a b) : a.length = b.length := by
  induction x with
  | nil => rfl
  | cons _ _ ih => rw [List.length_cons, List.length_cons, ih]
/-- what the __init__ of such a class leaves -/
def spX1 (K : PySem.W.Frag) (f : Str) : Sp := fun vs H Q _ => ∃ (a C : Addr) (y : V), vs = [.ref a, y] ∧ OexC K C ∧ PySem.W.findIn K (.ref C) f = some none ∧ H a = some (exo a C none) ∧ ∀ H', (∀ b o, b ≠ a → H b = some o → H' b = some o) → XA H' a C [(f, y)] → Q .non H'
def spX2 (K : PySem.W.Frag) (f g : Str) : Sp := fun vs H Q _ => ∃ (a C : Addr) (y z : V), vs = [.ref a, y, z] ∧ OexC K C ∧ PySem.W.findIn K (.ref C) f = some none ∧ PySem.W.findIn K (.ref C) g = some none ∧ H a = some (exo a C none) ∧
  ∀ H', (∀ b o, b ≠ a → H b = some o → H' b = some o) → XA H' a C [(g, z), (f, y)] → Q .non H'
theorem x1_end {H : Hp} {a C d : Addr} {f : Str} {y : V} (nd : H d = none) (ne : d ≠ a) :
    (∀ b o, b ≠ a → H b = some o → (upd (upd H d (exd d [(f, y)])) a (exo a C (some d))) b = some o) ∧ XA (upd (upd H d (exd d [(f, y)])) a (exo a C (some d))) a C [(f, y)] := by
  refine ⟨fun b o n e => ?_, d, upd_same, ?_⟩
  · rw [upd_ne n, upd_ne (ne_of_none e nd)]
    exact e
  · rw [upd_ne ne, upd_same]
theorem x2_end {H : Hp} {a C d : Addr} {f g : Str} {y z : V} (nd : H d = none) (ne : d ≠ a) :
    (∀ b o, b ≠ a → H b = some o → (upd (upd (upd H d (exd d [(f, y)])) a (exo a C (some d))) d (exd d [(g, z), (f, y)])) b = some o) ∧ XA (upd (upd (upd H d (exd d [(f, y)])) a (exo a C (some d))) d (exd d [(g, z), (f, y)])) a C [(g, z), (f, y)] := by
  refine ⟨fun b o n e => ?_, d, ?_, upd_same⟩
  · rw [upd_ne (ne_of_none e nd), upd_ne n, upd_ne (ne_of_none e nd)]
    exact e
  · rw [upd_ne ne.symm, upd_same]
/-- arguments that are values whatever the heap -/
def EvV (ta : TA) (σ : L2.St) (vs : List V) : Prop := ∀ (H : Hp) (Q : List V → Hp → Prop), Q vs H → ta σ H Q
theorem evv_nil {σ : L2.St} : EvV tNil σ [] := fun _ _ q => q
theorem evv_c {σ : L2.St} {v : V} {ta : TA} {vs : List V} (h : EvV ta σ vs) : EvV (tCons (tC v) ta) σ (v :: vs) := fun H Q q => h H _ q
theorem evv_v {σ : L2.St} {i : Nat} {v : V} {ta : TA} {vs : List V} (e : σ[i]? = some (some v)) (h : EvV ta σ vs) : EvV (tCons (tVar i) ta) σ (v :: vs) := fun H Q q => ⟨v, e, h H _ q⟩
def EvX (ta : TA) (σ : L2.St) (cfs : List (Addr × List (Str × V))) : Prop := ∀ (H : Hp) (Q : List V → Hp → Prop), (∀ (es : List Addr) (H2 : Hp), Same H H2 → XAs H2 es cfs → Q (es.map V.ref) H2) → ta σ H Q
theorem evx_nil {σ : L2.St} : EvX tNil σ [] := fun H Q q => q [] H (Same.refl H) .nil
theorem evx_1 {K : PySem.W.Frag} {σ : L2.St} {C : Addr} {f : Str} {y : V} {ta tr : TA} {cfs : List (Addr × List (Str × V))} (T : OexC K C) (n : PySem.W.findIn K (.ref C) f = some none) (h : EvV ta σ [y]) (hr : EvX tr σ cfs) : EvX (tCons (tEx C (spX1 K f) ta) tr) σ ((C, [(f, y)]) :: cfs) := fun H Q q =>
  h H _ ⟨by show 1 ≤ 1000; decide, fun a na => ⟨a, C, y, rfl, T, n, upd_same, fun H' k xa => ⟨rfl, hr H' _ fun es H2 s p => q (a :: es) H2 (fun b o e => s b o (k b o (ne_of_none e na) (by rw [upd_ne (ne_of_none e na)]; exact e))) (.cons (XA.mono s xa) p)⟩⟩⟩
theorem evx_2 {K : PySem.W.Frag} {σ : L2.St} {C : Addr} {f g : Str} {y z : V} {ta tr : TA} {cfs : List (Addr × List (Str × V))} (T : OexC K C) (n : PySem.W.findIn K (.ref C) f = some none) (n2 : PySem.W.findIn K (.ref C) g = some none) (h : EvV ta σ [y, z]) (hr : EvX tr σ cfs) :
    EvX (tCons (tEx C (spX2 K f g) ta) tr) σ ((C, [(g, z), (f, y)]) :: cfs) := fun H Q q =>
  h H _ ⟨by show 2 ≤ 1000; decide, fun a na => ⟨a, C, y, z, rfl, T, n, n2, upd_same, fun H' k xa => ⟨rfl, hr H' _ fun es H2 s p => q (a :: es) H2 (fun b o e => s b o (k b o (ne_of_none e na) (by rw [upd_ne (ne_of_none e na)]; exact e))) (.cons (XA.mono s xa) p)⟩⟩⟩
/-- [X(..), ..] -/
theorem st_list {σ : L2.St} {H : Hp} {ta : TA} {cfs : List (Addr × List (Str × V))} {Q : VK} (ev : EvX ta σ cfs) (hz : cfs.length ≤ 1000) (k : ∀ L es H', H L = none → Same H H' → H' L = some (.lst (es.map V.ref)) → XAs H' es cfs → Q (.ref L) H') : tLst ta σ H Q :=
  ev H _ fun es H2 s p => ⟨by rw [List.length_map, paired_len p]; exact Nat.le_of_lt (small1000 hz), fun L nL => k L es _ (s.free nL) (s.trans (same_upd nL)) upd_same (XAs.mono (same_upd nL) p)⟩
/-- found + [X(..), ..] -/
theorem st_more {σ : L2.St} {H : Hp} {i : Nat} {L : Addr} {es : List Addr} {ta : TA} {cfs old : List (Addr × List (Str × V))} {Q : VK} (ev : EvX ta σ cfs) (hσ : σ[i]? = some (some (.ref L))) (hL : H L = some (.lst (es.map V.ref))) (ho : XAs H es old) (hz : old.length + cfs.length ≤ 1000)
    (k : ∀ L' es' H', H L' = none → Same H H' → H' L' = some (.lst (es'.map V.ref)) → XAs H' es' (old ++ cfs) → Q (.ref L') H') : tOp rCat (tVar i) (tLst ta) σ H Q :=
  ⟨.ref L, hσ, st_list ev (by omega) fun L2 es2 H2 n2 s2 h2 p2 => ⟨L, L2, _, _, rfl, rfl, s2 _ _ hL, h2, by rw [List.length_map, List.length_map, paired_len p2, paired_len ho]; exact Nat.le_of_lt (small1000 hz), fun p np =>
    k p (es ++ es2) _ (s2.free np) (s2.trans (same_upd np)) (by rw [upd_same, List.map_append]) (XAs.mono (same_upd np) (paired_app (XAs.mono s2 ho) p2))⟩⟩
/-! ### statements, one by one -/
section
variable {D : Ends} {σ : L2.St} {H : Hp} {a b : TS} {te : TE} {g : TG} {i : Nat}
theorem q_seq (h : a { D with nx := fun s h => b D s h } σ H) : tSeq a b D σ H := h
theorem q_set (h : te σ H fun v H1 => D.nx (σ.set i (some v)) H1) : tAsg te (gName i) D σ H := h
theorem q_next (h : D.nx σ H) : tNext D σ H := h
theorem q_if {t : TT} {c : TS} (h : t σ H fun b H1 => if b = true then a D σ H1 else c D σ H1) : tIfS t a c D σ H := h
theorem q_ret (h : te σ H D.rt) : tRet te D σ H := h
end
/-! ### data that may be shown: at most n signs, at most k deep -/
structure Sm (n k : Nat) (d : PyData) : Prop where
  s : d.showable = true
  h : d.hasDict = false
  l : d.depth ≤ k
  z : d.shown.length ≤ n
theorem Sm.mono {n k n' k' : Nat} {d : PyData} (x : Sm n k d) (h1 : n ≤ n') (h2 : k ≤ k') : Sm n' k' d := ⟨x.s, x.h, Nat.le_trans x.l h2, Nat.le_trans x.z h1⟩
theorem Sm.okd {n k : Nat} {d : PyData} (x : Sm n k d) (h1 : n ≤ 1000000) (h2 : k ≤ 32) : Okd d := ⟨x.s, x.h, Nat.le_trans x.l h2, Nat.le_trans x.z h1⟩
theorem Sm.all {n k : Nat} : ∀ {ds : List PyData}, (∀ d ∈ ds, Sm n k d) → PyData.showableAll ds = true ∧ PyData.hasDictAll ds = false ∧ PyData.depthAll ds ≤ k ∧ ((PyData.shownAll ds).map (·.length)).sum ≤ ds.length * n ∧ (PyData.shownAll ds).length = ds.length
  | [], _ => ⟨by simp only [PyData.showableAll], by simp only [PyData.hasDictAll], by simp only [PyData.depthAll]; exact Nat.zero_le _, by simp [PyData.shownAll], by simp [PyData.shownAll]⟩
  | x :: xs, h => by
    obtain ⟨h1, h2, h3, h4⟩ := h x List.mem_cons_self
    obtain ⟨a, b, c, e, l⟩ := Sm.all (ds := xs) fun d m => h d (List.mem_cons_of_mem _ m)
    refine ⟨by simp only [PyData.showableAll, h1, a, Bool.and_self], by simp only [PyData.hasDictAll, h2, b, Bool.or_self], by simp only [PyData.depthAll]; omega, ?_, by simp only [PyData.shownAll, List.length_cons, l]⟩
    simp only [PyData.shownAll, List.map_cons, List.sum_cons, List.length_cons, Nat.succ_mul]
    omega
theorem Sm.list {n k : Nat} {ds : List PyData} (h : ∀ d ∈ ds, Sm n k d) : Sm (ds.length * n + 2 * ds.length + 3) (k + 1) (.list ds) := by
  obtain ⟨a, b, c, e, l⟩ := Sm.all h
  refine ⟨by simp only [PyData.showable, a], by simp only [PyData.hasDict, b], by simp only [PyData.depth]; omega, ?_⟩
  have z := listText_len_le (PyData.shownAll ds)
  simp only [PyData.shown]
  omega
theorem Sm.tuple {n k : Nat} {ds : List PyData} (h : ∀ d ∈ ds, Sm n k d) : Sm (ds.length * n + 2 * ds.length + 3) (k + 1) (.tuple ds) := by
  obtain ⟨a, b, c, e, l⟩ := Sm.all h
  refine ⟨by simp only [PyData.showable, a], by simp only [PyData.hasDict, b], by simp only [PyData.depth]; omega, ?_⟩
  have z := tupleText_len_le (PyData.shownAll ds)
  simp only [PyData.shown]
  omega
theorem Sm.int {i : Int} (h : i.natAbs < 10 ^ 12) : Sm 13 0 (.int i) := by
  refine ⟨?_, by simp only [PyData.hasDict], by simp only [PyData.depth]; exact Nat.le_refl _, PyData.shown_int_le h⟩
  simp only [PyData.showable, decide_eq_true_eq]
  by_cases z : i.natAbs = 0
  · rw [z]
    decide
  · exact Nat.lt_trans ((Nat.log2_lt z).mpr (Nat.lt_trans h (by decide : 10 ^ 12 < 2 ^ 40))) (by decide)
theorem DpAll.rep {K : PySem.W.Frag} {H : Hp} {v : V} {d : PyData} (h : Dp K H v d) : ∀ n : Nat, DpAll K H (List.replicate n v) (List.replicate n d)
  | 0 => .nil
  | n + 1 => .cons h (DpAll.rep h n)
mutual
theorem Dp.same {K : PySem.W.Frag} {H H' : Hp} (s : Same H H') : ∀ {v : V} {d : PyData}, Dp K H v d → Dp K H' v d
  | _, _, .non => .non
  | _, _, .bl b => .bl b
  | _, _, .int i => .int i
  | _, _, .str x => .str x
  | _, _, .lst h a => .lst (s.seq h) (DpAll.same s a)
  | _, _, .tup h a => .tup (by
      rcases h with (h | ⟨o, h⟩) | h
      · exact .inl (.inl (s _ _ h))
      · exact .inl (.inr ⟨o, s _ _ h⟩)
      · exact .inr h) (DpAll.same s a)
theorem DpAll.same {K : PySem.W.Frag} {H H' : Hp} (s : Same H H') : ∀ {vs : List V} {ds : List PyData}, DpAll K H vs ds → DpAll K H' vs ds
  | _, _, .nil => .nil
  | _, _, .cons h a => .cons (Dp.same s h) (DpAll.same s a)
end
/-- data that the hand is no part of -/
def Dps (K : PySem.W.Frag) (h : Addr) (H : Hp) (v : V) (d : PyData) : Prop := ∀ H', Kp h H H' → Dp K H' v d
theorem Dps.kp {K : PySem.W.Frag} {h : Addr} {H H' : Hp} {v : V} {d : PyData} (x : Dps K h H v d) (k : Kp h H H') : Dps K h H' v d := fun H2 k2 => x H2 (k.trans k2)
theorem Dps.now {K : PySem.W.Frag} {h : Addr} {H : Hp} {v : V} {d : PyData} (x : Dps K h H v d) : Dp K H v d := x H Kp.refl
/-! ### own exception classes, one and two fields -/
structure Cl1 (P : Program) (w : World) (K : PySem.W.Frag) (mg : Str → Option Value) (base : Heap) (x f : Str) (C : Addr) : Prop where
  g : mg x = some (.ref C)
  o : OexC K C
  xf : XfC K C
  xe : ExcC K C
  no : PySem.W.findIn K (.ref C) f = some none
  made : ∃ fI fd, PySem.W.findIn K (.ref C) "__init__" = some (some (.ref fI)) ∧ PySem.W.typeIn K (.ref fI) = some (.type "function") ∧ FnOk P w K mg base CX0 1 fI fd ["self", f] (spX1 K f) ∧ Binds K fd ["self", f] [] ∧
    ∀ (s : Shared) (self : Value) (ws : List Value), ws.length = [f].length → BindsTo s fd ⟨[self], [f].zip ws⟩ ((["self", f] : List Str).zip (self :: ws))
structure Cl2 (P : Program) (w : World) (K : PySem.W.Frag) (mg : Str → Option Value) (base : Heap) (x f g2 : Str) (C : Addr) : Prop where
  g : mg x = some (.ref C)
  o : OexC K C
  xf : XfC K C
  xe : ExcC K C
  no : PySem.W.findIn K (.ref C) f = some none
  no2 : PySem.W.findIn K (.ref C) g2 = some none
  made : ∃ fI fd, PySem.W.findIn K (.ref C) "__init__" = some (some (.ref fI)) ∧ PySem.W.typeIn K (.ref fI) = some (.type "function") ∧ FnOk P w K mg base CX0 1 fI fd ["self", f, g2] (spX2 K f g2) ∧ Binds K fd ["self", f, g2] [] ∧
    ∀ (s : Shared) (self : Value) (ws : List Value), ws.length = [f, g2].length → BindsTo s fd ⟨[self], [f, g2].zip ws⟩ ((["self", f, g2] : List Str).zip (self :: ws))
section
variable {X : Cx} {x f g2 : Str} {C : Addr} {p pos : Pos} {e : Expr} {es : List Expr} {kws : List Keyword} {ta : TA}
theorem pe_c1 (c : Cl1 X.prog X.w X.K X.mg X.base x f C) (hr : Room 2 X.A) (hg : Gl X x) (ha : PA X (e :: es) ta) (hdb : (x == ("__debug__" : Str)) = false := by decide) (he : starEach (e :: es) X.env = (false, eval e X.env) :: starEach es X.env := by rfl)
    (hpl : (backTo pos (starEach es X.env)).any (·.1) = false := by rfl) : PE X (.Call (.Name x p) (e :: es) [] pos) (tEx C (spX1 X.K f) ta) := by
  obtain ⟨fI, fd, i, t, F, b, _⟩ := c.made
  exact pe_ex c.o i t F hr hg c.g b pass0 ha hdb he hpl
theorem pe_k1 (c : Cl1 X.prog X.w X.K X.mg X.base x f C) (hr : Room 2 X.A) (hg : Gl X x) (hkw : PK X kws ta) (hall : (backToKw pos (keywordEach kws X.env)).all (·.1.isSome) = true := by rfl) (hks : (backToKw pos (keywordEach kws X.env)).filterMap (·.1) = [f] := by rfl)
    (hdb : (x == ("__debug__" : Str)) = false := by decide) (hpl : ((backTo pos (starEach [] X.env)).any (·.1) || (backToKw pos (keywordEach kws X.env)).any (·.1.isNone)) = false := by rfl) : PE X (.Call (.Name x p) [] kws pos) (tEx C (spX1 X.K f) ta) := by
  obtain ⟨fI, fd, i, t, F, _, b⟩ := c.made
  exact pe_exk (ks := [f]) c.o i t F hr hg c.g rfl b pass0 hkw hall hks hdb hpl
theorem pe_c2 (c : Cl2 X.prog X.w X.K X.mg X.base x f g2 C) (hr : Room 2 X.A) (hg : Gl X x) (ha : PA X (e :: es) ta) (hdb : (x == ("__debug__" : Str)) = false := by decide) (he : starEach (e :: es) X.env = (false, eval e X.env) :: starEach es X.env := by rfl)
    (hpl : (backTo pos (starEach es X.env)).any (·.1) = false := by rfl) : PE X (.Call (.Name x p) (e :: es) [] pos) (tEx C (spX2 X.K f g2) ta) := by
  obtain ⟨fI, fd, i, t, F, b, _⟩ := c.made
  exact pe_ex c.o i t F hr hg c.g b pass0 ha hdb he hpl
theorem pe_k2 (c : Cl2 X.prog X.w X.K X.mg X.base x f g2 C) (hr : Room 2 X.A) (hg : Gl X x) (hkw : PK X kws ta) (hall : (backToKw pos (keywordEach kws X.env)).all (·.1.isSome) = true := by rfl) (hks : (backToKw pos (keywordEach kws X.env)).filterMap (·.1) = [f, g2] := by rfl)
    (hdb : (x == ("__debug__" : Str)) = false := by decide) (hpl : ((backTo pos (starEach [] X.env)).any (·.1) || (backToKw pos (keywordEach kws X.env)).any (·.1.isNone)) = false := by rfl) : PE X (.Call (.Name x p) [] kws pos) (tEx C (spX2 X.K f g2) ta) := by
  obtain ⟨fI, fd, i, t, F, _, b⟩ := c.made
  exact pe_exk (ks := [f, g2]) c.o i t F hr hg c.g rfl b pass0 hkw hall hks hdb hpl
end
/-- e.f of an own exception, within a comprehension -/
theorem pe_xak {X : Cx} (K : PySem.W.Frag) {e : Expr} {te : TE} {n : Str} {pos : Pos} (hK : X.K = K) (he : PE X e te) (hb : attributeBase e n X.env (eval e X.env) = eval e X.env := by rfl) : PE X (.Attribute e n pos) (tXA K n te) := by
  subst hK
  exact pe_xa he hb
end Ek

namespace C1
open PySem PySem.Spec PyProof.Rows L2 Ek
/-! ### the text -/
def topS (i : Nat) : Stmt := PySem.Challenge.pw_cutorall_k01_errors.main.body.getD i (.Pass ⟨0, 0, 0, 0⟩)
abbrev sDraws : Stmt := topS 16
abbrev sTake : Stmt := topS 17
abbrev sOdd : Stmt := topS 18
abbrev sMade : Stmt := topS 19
abbrev sKinds : Stmt := topS 20
abbrev sLaw : Stmt := topS 21
theorem scD : FnScope ["script", "many", "cell", "rests", "draws", "k", "at", "mixed"] ["script", "many"] (defScope sDraws) := ⟨rfl, rfl, rfl, by decide +kernel, rfl, by decide +kernel, by decide +kernel⟩
theorem scT : FnScope ["hand", "many", "at", "draws"] ["hand", "many"] (defScope sTake) := ⟨rfl, rfl, rfl, by decide +kernel, rfl, by decide +kernel, by decide +kernel⟩
theorem scO : FnScope ["hand"] ["hand"] (defScope sOdd) := ⟨rfl, rfl, rfl, by decide +kernel, rfl, by decide +kernel, by decide +kernel⟩
theorem scM : FnScope ["one", "other", "by_name", "found"] ["one", "other", "by_name"] (defScope sMade) := ⟨rfl, rfl, rfl, by decide +kernel, rfl, by decide +kernel, by decide +kernel⟩
theorem scK : FnScope ["error", "found"] ["error"] (defScope sKinds) := ⟨rfl, rfl, rfl, by decide +kernel, rfl, by decide +kernel, by decide +kernel⟩
theorem scL : FnScope ["script", "hand", "one", "other", "found", "k", "handed", "kept", "j", "error"] ["script"] (defScope sLaw) := ⟨rfl, rfl, rfl, by decide +kernel, rfl, by decide +kernel, by decide +kernel⟩
/-! ### what the module's names are -/
structure Bt (mg : Str → Option Value) : Prop where
  len : mg "len" = none
  int : mg "int" = none
  abs : mg "abs" = none
  range : mg "range" = none
section
variable {P : Program} {w : World} {K : PySem.W.Frag} {mg : Str → Option Value} {base : Heap}
/-- the drawn numbers: a new list of many numbers from 0 on -/
def spDraws (K : PySem.W.Frag) : Sp := fun vs H Q _ => ∃ (a : Addr) (ns : List Int) (m : Nat), vs = [.ref a, .int m] ∧ SqL K H a (ns.map V.int) ∧ ns.length ≤ 1000 ∧ m ≤ 1000 ∧
  ∀ H' p (ds : List Int), Same H H' → H p = none → H' p = some (.lst (ds.map V.int)) → ds.length = m → (∀ d ∈ ds, 0 ≤ d) → Q (.ref p) H'
theorem ok_draws {f : Addr} {fd : FuncData} (F : Fun K "_law_draws" "_law_draws" sDraws f fd) (B : Bt mg) : FnOk P w K mg base CX0 1 f fd ["script", "many"] (spDraws K) := by
  refine F.ok scD (fun vs H Q E h => ?_) (fun cdv A outer s H vs Q E hr h => ?_)
  · obtain ⟨a, ns, m, rfl, _⟩ := h
    rfl
  · obtain ⟨a, ns, m, rfl, hS, hlen, hm, q⟩ := h
    refine ⟨_, pss_cons (ps_setLc (i := 3) (own := [("cell", 2)]) (g := gName 2) (tt := tYes) rfl scD.nd rfl rfl (sw_true rfl rfl rfl (by decide +kernel)) (pi_list (pv 0)) (blkOk_by (N := ["script", "many", "cell", "rests", "draws", "k", "at", "mixed"]) (sc := defScope sDraws) (by decide +kernel))
        (fun _ _ _ _ _ => pg_name (i := 2) scD.nd rfl (Or.inl rfl)) (fun _ _ _ _ _ => pts_nil) (fun _ _ _ _ _ => pe_callB call_abs (by rfl) B.abs (by decide +kernel) (pa_cons (pe_callTy call_int1 (by rfl) B.int (by decide +kernel) (pa_cons (pv 2) pa_nil)) pa_nil)))
      (pss_cons (ps_set (i := 4) scD.nd rfl (.inl rfl) (pe_lst pa_nil))
      (pss_cons (ps_for PassesOwn.never rfl (pi_range1 rfl B.range (pa_cons (pv 1) pa_nil)) (pg_name (i := 5) scD.nd rfl (.inl rfl))
        (pss_cons (ps_set (i := 2) scD.nd rfl (.inl rfl) (pv 5))
        (pss_cons (ps_if (pt_cmpR op_gt (pe_callB call_len_seq (by rfl) B.len PySem.boot_len (pa_cons (pv 0) pa_nil)) pe_int (nomark _))
          (pss_cons (ps_set (i := 6) scD.nd rfl (.inl rfl) (pe_op op_mod (pv 5) (pe_callB call_len_seq (by rfl) B.len PySem.boot_len (pa_cons (pv 0) pa_nil))))
          (pss_cons (ps_set (i := 2) scD.nd rfl (.inl rfl) (pe_callTy call_int1 (by rfl) B.int (by decide +kernel) (pa_cons (pe_ix ix_list (pv 0) (pv 6) (fun _ _ => rfl)) pa_nil)))
          (pss_one (ps_if (PW.pt (pw_and (pt_cmpR op_ge (pv 2) (pe_op op_pow pe_int pe_int) (nomark _)) (pw_and1 (pt_cmpR op_gt (pe_ix ix_list (pv 3) (pv 6) (fun _ _ => rfl)) pe_int (nomark _)))))
            (pss_cons (ps_expr (pe_bm PySem.F.plainAttrs_list PySem.F.slot_list_append PySem.F.type_list_append mt_append (pv 4) (pa_cons (pe_op op_mod (pe_callTy call_int1 (by rfl) B.int (by decide +kernel) (pa_cons (pe_ix ix_list (pv 3) (pv 6) (fun _ _ => rfl)) pa_nil)) pe_int) pa_nil)))
            (pss_cons (ps_asg (pe_op op_fdiv (pe_callTy call_int1 (by rfl) B.int (by decide +kernel) (pa_cons (pe_ix ix_list (pv 3) (pv 6) (fun _ _ => rfl)) pa_nil)) pe_int) (pg_sub (pv 3) (pv 6) set_list))
            (pss_one ps_continue))) pss_nil)))) pss_nil)
        (pss_cons (ps_set (i := 7) scD.nd rfl (.inl rfl) (pe_op op_mod (pe_callTy call_int1 (by rfl) B.int (by decide +kernel) (pa_cons (pe_op op_add (pe_op op_add (pe_op op_mul (pv 2) pe_int) (pe_op op_mul (pv 5) pe_int)) pe_int) pa_nil)) pe_int))
        (pss_cons (ps_set (i := 7) scD.nd rfl (.inl rfl) (pe_op op_mod (pe_callTy call_int1 (by rfl) B.int (by decide +kernel) (pa_cons (pe_op op_add (pe_op op_fdiv (pe_op op_mul (pv 7) (pv 7)) pe_int) (pv 7)) pa_nil)) pe_int))
        (pss_one (ps_expr (pe_bm PySem.F.plainAttrs_list PySem.F.slot_list_append PySem.F.type_list_append mt_append (pv 4) (pa_cons (pe_op op_mod (pe_callTy call_int1 (by rfl) B.int (by decide +kernel) (pa_cons (pe_op op_add (pe_op op_fdiv (pe_op op_mul (pv 7) (pv 7)) pe_int) (pe_op op_mul (pv 5) pe_int)) pa_nil)) pe_int) pa_nil)))))))))
      (pss_one (ps_ret (pv 4))))), ?_⟩
    -- rests = [abs(int(cell)) for cell in script]
    refine ⟨.ref a, rfl, a, rfl, ⟨_, hS⟩, fun D nD => lc_list (K := K) (a := a) (xs := ns.map V.int) (fun i H' => Same H H' ∧ ∃ rs : List Int, H' D = some (.lst (rs.map V.int)) ∧ rs.length = i)
      ⟨same_upd nD, [], upd_same, rfl⟩ (fun i H' _ hP => hP.1.seq hS) (fun i x H' hx hP => ?_) (fun H' hP => ?_)⟩
    · obtain ⟨hs, rs, hD, hl⟩ := hP
      have hi : i < ns.length := by
        have z := (List.getElem?_eq_some_iff.mp hx).1
        rw [List.length_map] at z
        exact z
      obtain ⟨n, rfl⟩ : ∃ n, x = V.int n := by
        rw [List.getElem?_map] at hx
        cases e : ns[i]? with
        | none => rw [e] at hx; cases hx
        | some n => rw [e] at hx; exact ⟨n, (Option.some.inj hx).symm⟩
      refine ⟨rfl, ?_⟩
      refine ⟨.int n, rfl, .inl ⟨n, rfl, n, rfl, _, hD, ?_, ?_, rs ++ [if n < 0 then -n else n], ?_, ?_⟩⟩
      · rw [List.length_map]
        exact small1000 (by omega)
      · intro b o e
        rw [upd_ne (ne_of_none e nD)]
        exact hs b o e
      · rw [upd_same, List.map_append]
        rfl
      · rw [List.length_append, hl]
        rfl
    · obtain ⟨hs, rs, hD, hl⟩ := hP
      have hl' : rs.length = ns.length := by
        rw [hl, List.length_map]
      -- draws = []
      refine ⟨Nat.zero_le _, fun L nL => ?_⟩
      have nLD : L ≠ D := fun e => by rw [e, hD] at nL; cases nL
      have nL0 : H L = none := hs.free nL
      refine ⟨_, rfl, (m : Int), rfl, by omega, by omega, for_range (lo := 0) (n := m) (fun i σ H' => ∃ c k t x : Option V, σ = [some (.ref a), some (.int m), c, some (.ref D), some (.ref L), k, t, x] ∧ Same H H' ∧
          ∃ rs ds : List Int, H' D = some (.lst (rs.map V.int)) ∧ rs.length = ns.length ∧ H' L = some (.lst (ds.map V.int)) ∧ ds.length = i ∧ ∀ d ∈ ds, 0 ≤ d)
        ⟨none, none, none, none, rfl, ?_, rs, [], ?_, hl', ?_, rfl, ?_⟩ (fun i σ H1 hi hP => ?_) (fun σ H1 hP => ?_)⟩
      · intro b o e
        rw [upd_ne (ne_of_none e nL0)]
        exact hs b o e
      · rw [upd_ne nLD.symm]
        exact hD
      · exact upd_same
      · intro d hd
        cases hd
      · obtain ⟨c, k, t, x, rfl, hs1, rs, ds, hD1, hr1, hL1, hd1, h0⟩ := hP
        have hA1 : SqL K H1 a (ns.map V.int) := hs1.seq hS
        have hlt : ds.length < sizeLine := small1000 (by omega)
        have mon : ∀ (z : Int) (x' t' c' : Option V) (H2 : Hp) (r2 : List Int), 0 ≤ z → Same H H2 → H2 D = some (.lst (r2.map V.int)) → r2.length = ns.length → H2 L = some (.lst ((ds ++ [z]).map V.int)) →
            ∃ c k t x : Option V, [some (V.ref a), some (V.int m), c', some (V.ref D), some (V.ref L), some (V.int (0 + (i : Int))), t', x'] = [some (V.ref a), some (V.int m), c, some (V.ref D), some (V.ref L), k, t, x] ∧ Same H H2 ∧
              ∃ rs ds : List Int, H2 D = some (.lst (rs.map V.int)) ∧ rs.length = ns.length ∧ H2 L = some (.lst (ds.map V.int)) ∧ ds.length = i + 1 ∧ ∀ d ∈ ds, 0 ≤ d := fun z x' t' c' H2 r2 hz h1 h2 h3 h4 => by
          refine ⟨c', _, t', x', rfl, h1, r2, ds ++ [z], h2, h3, h4, by simp [hd1], fun d hd => ?_⟩
          rcases List.mem_append.mp hd with q | q
          · exact h0 d q
          · rw [List.mem_singleton.mp q]; exact hz
        refine ⟨_, rfl, .ref a, rfl, a, _, rfl, .inl hA1, _, _, rfl, rfl, _, rfl, ?_⟩
        refine ite2 (fun e => ?_) (fun e => ?_)
        · have hn : 0 < ns.length := by
            have z := of_decide_eq_true e
            rw [List.length_map] at z
            omega
          have hmod : 0 ≤ (0 + (i : Int)) % ((ns.map V.int).length : Int) ∧ (0 + (i : Int)) % ((ns.map V.int).length : Int) < (ns.length : Int) := by
            rw [List.length_map]
            exact ⟨Int.emod_nonneg _ (by omega), Int.emod_lt_of_pos _ (by omega)⟩
          obtain ⟨j, hj, ej⟩ : ∃ j : Nat, j < ns.length ∧ (0 + (i : Int)) % ((ns.map V.int).length : Int) = (j : Int) := ⟨((0 + (i : Int)) % ((ns.map V.int).length : Int)).toNat, by omega, by omega⟩
          have g1 : (ns.map V.int)[j]? = some (.int ns[j]) := by
            rw [List.getElem?_map, List.getElem?_eq_getElem hj]
            rfl
          have hj2 : j < rs.length := by omega
          have g2 : (rs.map V.int)[j]? = some (.int rs[j]) := by
            rw [List.getElem?_map, List.getElem?_eq_getElem hj2]
            rfl
          refine ⟨.int (0 + (i : Int)), rfl, .ref a, rfl, a, _, rfl, .inl hA1, _, _, rfl, rfl, (by rw [List.length_map]; omega), ?_⟩
          refine ⟨.ref a, rfl, .int _, rfl, a, _, _, _, rfl, rfl, hA1, at_z ej g1, .inl ⟨_, rfl, ?_⟩⟩
          refine ⟨_, rfl, _, _, rfl, rfl, (by refine ⟨by decide, by decide, by decide⟩), _, _, rfl, rfl, _, rfl, ?_⟩
          by_cases e1 : (10 : Int) ^ (18 : Int).toNat ≤ ns[j]
          · rw [decide_eq_true e1]
            refine ⟨.ref D, rfl, .int _, rfl, D, _, _, _, rfl, rfl, .inl (.inl hD1), at_z ej g2, _, _, rfl, rfl, _, rfl, ?_⟩
            refine ite2 (fun e2 => ?_) (fun e2 => ?_)
            · refine ⟨.ref L, rfl, .inl ⟨rfl, _, .inl (.inl hL1)⟩, .ref D, rfl, .int _, rfl, D, _, _, _, rfl, rfl, .inl (.inl hD1), at_z ej g2, .inl ⟨_, rfl, _, _, rfl, rfl, (by show (0 : Int) < _; decide), L, _, _, rfl, rfl, hL1, (by rw [List.length_map]; exact hlt), ?_⟩⟩
              have hD2 : (upd H1 L (.lst (ds.map V.int ++ [.int (rs[j] % 1000003)]))) D = some (.lst (rs.map V.int)) := by
                rw [upd_ne nLD.symm]
                exact hD1
              refine ⟨.ref D, rfl, .int _, rfl, D, _, _, _, rfl, rfl, .inl (.inl hD2), at_z ej g2, .inl ⟨_, rfl, _, _, rfl, rfl, ⟨by decide, by decide⟩, .ref D, rfl, .int _, rfl, D, _, _, j, rfl, rfl, hD2, ix_z ej (by rw [List.length_map]; exact hj2), ?_⟩⟩
              refine mon (rs[j] % 1000003) _ _ _ _ (rs.set j (rs[j] / 1000003)) (Int.emod_nonneg _ (by decide)) ?_ ?_ ?_ ?_
              · intro b o e
                rw [upd_ne (ne_of_none e nD), upd_ne (ne_of_none e nL0)]
                exact hs1 b o e
              · rw [upd_same, List.map_set]
              · rw [List.length_set]
                exact hr1
              · rw [upd_ne nLD, upd_same, List.map_append]
                rfl
            · skip
              -- mixed = ..
              refine ⟨_, rfl, _, _, rfl, rfl, .inr ⟨by decide, by decide⟩, _, rfl, _, _, rfl, rfl, .inr ⟨by decide, by decide⟩, _, _, rfl, rfl, _, _, rfl, rfl, .inl ⟨_, rfl, _, _, rfl, rfl, (by show (0 : Int) < _; decide), ?_⟩⟩
              refine ⟨_, rfl, _, rfl, _, _, rfl, rfl, .inl (in64 (by decide)), _, _, rfl, rfl, ⟨by decide, by decide⟩, _, rfl, _, _, rfl, rfl, .inl ⟨_, rfl, _, _, rfl, rfl, (by show (0 : Int) < _; decide), ?_⟩⟩
              refine ⟨.ref L, rfl, .inl ⟨rfl, _, .inl (.inl hL1)⟩, _, rfl, _, rfl, _, _, rfl, rfl, .inl (in64 (by decide)), _, _, rfl, rfl, ⟨by decide, by decide⟩, _, rfl, _, _, rfl, rfl, .inr ⟨by decide, by decide⟩, _, _, rfl, rfl, .inl ⟨_, rfl, _, _, rfl, rfl, (by show (0 : Int) < _; decide), L, _, _, rfl, rfl, hL1, (by rw [List.length_map]; exact hlt), ?_⟩⟩
              refine mon ((((((ns[j] * 48271 + (0 + (i : Int)) * 69621 + 11) % 2147483647) * ((ns[j] * 48271 + (0 + (i : Int)) * 69621 + 11) % 2147483647) / 4096 + ((ns[j] * 48271 + (0 + (i : Int)) * 69621 + 11) % 2147483647)) % 2147483629) * ((((ns[j] * 48271 + (0 + (i : Int)) * 69621 + 11) % 2147483647) * ((ns[j] * 48271 + (0 + (i : Int)) * 69621 + 11) % 2147483647) / 4096 + ((ns[j] * 48271 + (0 + (i : Int)) * 69621 + 11) % 2147483647)) % 2147483629) / 4096 + (0 + (i : Int)) * 7919) % 2147483629) _ _ _ _ rs (Int.emod_nonneg _ (by decide)) ?_ ?_ hr1 ?_
              · intro b o e
                rw [upd_ne (ne_of_none e nL0)]
                exact hs1 b o e
              · rw [upd_ne nLD.symm]
                exact hD1
              · rw [upd_same, List.map_append]
                rfl
          · rw [decide_eq_false e1]
            -- mixed = ..
            refine ⟨_, rfl, _, _, rfl, rfl, .inr ⟨by decide, by decide⟩, _, rfl, _, _, rfl, rfl, .inr ⟨by decide, by decide⟩, _, _, rfl, rfl, _, _, rfl, rfl, .inl ⟨_, rfl, _, _, rfl, rfl, (by show (0 : Int) < _; decide), ?_⟩⟩
            refine ⟨_, rfl, _, rfl, _, _, rfl, rfl, .inl (in64 (by decide)), _, _, rfl, rfl, ⟨by decide, by decide⟩, _, rfl, _, _, rfl, rfl, .inl ⟨_, rfl, _, _, rfl, rfl, (by show (0 : Int) < _; decide), ?_⟩⟩
            refine ⟨.ref L, rfl, .inl ⟨rfl, _, .inl (.inl hL1)⟩, _, rfl, _, rfl, _, _, rfl, rfl, .inl (in64 (by decide)), _, _, rfl, rfl, ⟨by decide, by decide⟩, _, rfl, _, _, rfl, rfl, .inr ⟨by decide, by decide⟩, _, _, rfl, rfl, .inl ⟨_, rfl, _, _, rfl, rfl, (by show (0 : Int) < _; decide), L, _, _, rfl, rfl, hL1, (by rw [List.length_map]; exact hlt), ?_⟩⟩
            refine mon ((((((ns[j] * 48271 + (0 + (i : Int)) * 69621 + 11) % 2147483647) * ((ns[j] * 48271 + (0 + (i : Int)) * 69621 + 11) % 2147483647) / 4096 + ((ns[j] * 48271 + (0 + (i : Int)) * 69621 + 11) % 2147483647)) % 2147483629) * ((((ns[j] * 48271 + (0 + (i : Int)) * 69621 + 11) % 2147483647) * ((ns[j] * 48271 + (0 + (i : Int)) * 69621 + 11) % 2147483647) / 4096 + ((ns[j] * 48271 + (0 + (i : Int)) * 69621 + 11) % 2147483647)) % 2147483629) / 4096 + (0 + (i : Int)) * 7919) % 2147483629) _ _ _ _ rs (Int.emod_nonneg _ (by decide)) ?_ ?_ hr1 ?_
            · intro b o e
              rw [upd_ne (ne_of_none e nL0)]
              exact hs1 b o e
            · rw [upd_ne nLD.symm]
              exact hD1
            · rw [upd_same, List.map_append]
              rfl
        · skip
          -- mixed = ..
          refine ⟨_, rfl, _, _, rfl, rfl, .inr ⟨by decide, by decide⟩, _, rfl, _, _, rfl, rfl, .inr ⟨by decide, by decide⟩, _, _, rfl, rfl, _, _, rfl, rfl, .inl ⟨_, rfl, _, _, rfl, rfl, (by show (0 : Int) < _; decide), ?_⟩⟩
          refine ⟨_, rfl, _, rfl, _, _, rfl, rfl, .inl (in64 (by decide)), _, _, rfl, rfl, ⟨by decide, by decide⟩, _, rfl, _, _, rfl, rfl, .inl ⟨_, rfl, _, _, rfl, rfl, (by show (0 : Int) < _; decide), ?_⟩⟩
          refine ⟨.ref L, rfl, .inl ⟨rfl, _, .inl (.inl hL1)⟩, _, rfl, _, rfl, _, _, rfl, rfl, .inl (in64 (by decide)), _, _, rfl, rfl, ⟨by decide, by decide⟩, _, rfl, _, _, rfl, rfl, .inr ⟨by decide, by decide⟩, _, _, rfl, rfl, .inl ⟨_, rfl, _, _, rfl, rfl, (by show (0 : Int) < _; decide), L, _, _, rfl, rfl, hL1, (by rw [List.length_map]; exact hlt), ?_⟩⟩
          refine mon (((((((0 + (i : Int)) * 48271 + (0 + (i : Int)) * 69621 + 11) % 2147483647) * (((0 + (i : Int)) * 48271 + (0 + (i : Int)) * 69621 + 11) % 2147483647) / 4096 + (((0 + (i : Int)) * 48271 + (0 + (i : Int)) * 69621 + 11) % 2147483647)) % 2147483629) * (((((0 + (i : Int)) * 48271 + (0 + (i : Int)) * 69621 + 11) % 2147483647) * (((0 + (i : Int)) * 48271 + (0 + (i : Int)) * 69621 + 11) % 2147483647) / 4096 + (((0 + (i : Int)) * 48271 + (0 + (i : Int)) * 69621 + 11) % 2147483647)) % 2147483629) / 4096 + (0 + (i : Int)) * 7919) % 2147483629) _ _ _ _ rs (Int.emod_nonneg _ (by decide)) ?_ ?_ hr1 ?_
          · intro b o e
            rw [upd_ne (ne_of_none e nL0)]
            exact hs1 b o e
          · rw [upd_ne nLD.symm]
            exact hD1
          · rw [upd_same, List.map_append]
            rfl
      · obtain ⟨c, k, t, x, rfl, hs1, rs, ds, hD1, hr1, hL1, hd1, h0⟩ := hP
        exact ⟨.ref L, rfl, q H1 L ds hs1 nL0 hL1 hd1 h0⟩
/-- a drawn number below n -/
def spTake : Sp := fun vs H Q _ => ∃ (h : Addr) (n : Int), vs = [.ref h, .int n] ∧ Hd H h ∧ 0 < n ∧ ∀ r H', 0 ≤ r → r < n → (∀ b, b ≠ h → H' b = H b) → Hd H' h → Q (.int r) H'
theorem ok_take {f : Addr} {fd : FuncData} (F : Fun K "_law_take" "_law_take" sTake f fd) (B : Bt mg) : FnOk P w K mg base CX0 1 f fd ["hand", "many"] spTake := by
  refine F.ok scT (fun vs H Q E h => ?_) (fun cdv A outer s H vs Q E hr h => ?_)
  · obtain ⟨a, n, rfl, _⟩ := h
    rfl
  · obtain ⟨h, n, rfl, ⟨d, ds, t, hh, hd, ne, nn⟩, n0, q⟩ := h
    refine ⟨_, pss_cons (ps_set (i := 2) scT.nd rfl (.inl rfl) (pe_ix ix_list (pv 0) pe_int (fun _ _ => rfl)))
      (pss_cons (ps_asg (pe_op op_add (pv 2) pe_int) (pg_sub (pv 0) pe_int set_list))
      (pss_cons (ps_set (i := 3) scT.nd rfl (.inl rfl) (pe_ix ix_list (pv 0) pe_int (fun _ _ => rfl)))
      (pss_cons (ps_if (pt_cmpR op_ge (pv 2) (pe_callB call_len_seq (by rfl) B.len PySem.boot_len (pa_cons (pv 3) pa_nil)) (nomark _)) (pss_one (ps_ret pe_int)) pss_nil)
      (pss_one (ps_ret (pe_op op_mod (pe_op op_fdiv (pe_callTy call_int1 (by rfl) B.int (by decide +kernel) (pa_cons (pe_ix ix_list (pv 3) (pv 2) (fun _ _ => rfl)) pa_nil)) pe_int) (pv 1))))))), ?_⟩
    have hdU : ∀ o, (upd H h o) d = some (.lst (ds.map V.int)) := fun o => by
      rw [upd_ne ne]
      exact hd
    have fin : Hd (upd H h (.lst [.ref d, .int ((t + 1 : Nat) : Int)])) h := ⟨d, ds, t + 1, upd_same, hdU _, ne, nn⟩
    have keep : ∀ b, b ≠ h → (upd H h (.lst [.ref d, .int ((t + 1 : Nat) : Int)])) b = H b := fun b hb => upd_ne hb
    refine ⟨.ref h, rfl, h, _, 1, .int t, rfl, rfl, sl hh, at_z (j := 1) rfl rfl, .int t, rfl, _, _, rfl, rfl, .ref h, rfl, h, _, 1, 1, rfl, rfl, hh, ix_z rfl (by show 1 < 2; decide), ?_⟩
    refine ⟨.ref h, rfl, h, _, 0, .ref d, rfl, rfl, sl upd_same, at_z (j := 0) rfl rfl, .int t, rfl, .ref d, rfl, d, _, rfl, .inl (sl (hdU _)), _, _, rfl, rfl, _, rfl, ?_⟩
    refine ite2 (fun e => ?_) (fun e => ?_)
    · exact q 0 _ (by decide) n0 keep fin
    · have hlt : t < ds.length := by
        by_cases z : t < ds.length
        · exact z
        · exact absurd (decide_eq_true (by rw [List.length_map]; omega)) e
      have g : (ds.map V.int)[t]? = some (.int ds[t]) := by
        rw [List.getElem?_map, List.getElem?_eq_getElem hlt]
        rfl
      refine ⟨.ref d, rfl, .int t, rfl, d, _, _, _, rfl, rfl, sl (hdU _), at_z rfl g, .inl ⟨_, rfl, _, _, rfl, rfl, ⟨by decide, by decide⟩, .int n, rfl, _, _, rfl, rfl, n0, ?_⟩⟩
      exact q _ _ (Int.emod_nonneg _ (by omega)) (Int.emod_lt_of_pos _ n0) keep fin
/-! ### a drawn value of any sort -/
def spOdd (K : PySem.W.Frag) : Sp := fun vs H Q _ => ∃ h : Addr, vs = [.ref h] ∧ Hd H h ∧ ∀ v d H', Kp h H H' → Hd H' h → Dps K h H' v d → Sm 40 2 d → Q v H'
theorem ok_odd {f fT : Addr} {fd fdT : FuncData} (F : Fun K "_law_odd" "_law_odd" sOdd f fd) (GT : FnOk P w K mg base CX0 1 fT fdT ["hand", "many"] spTake) (kT : PySem.W.keepIn K (.ref fT) = true) (bT : Binds K fdT ["hand", "many"] []) (gT : mg "_law_take" = some (.ref fT)) :
    FnOk P w K mg base CX0 2 f fd ["hand"] (spOdd K) := by
  refine F.ok scO (fun vs H Q E h => ?_) (fun cdv A outer s H vs Q E hr h => ?_)
  · obtain ⟨a, rfl, _⟩ := h
    rfl
  · obtain ⟨h, rfl, hd, q⟩ := h
    refine ⟨_, pss_one (ps_ret (pe_ix ix_list (pe_lst (pa_cons pe_non (pa_cons pe_bl (pa_cons (pe_un un_neg pe_int) (pa_cons pe_str (pa_cons (pe_tup pa_nil) (pa_cons (pe_lst pa_nil) (pa_cons pe_int (pa_cons pe_str (pa_cons (pe_tup (pa_cons pe_int pa_nil)) (pa_cons pe_bl (pa_cons (pe_op op_pow pe_int pe_int) pa_nil))))))))))))
      (pe_call GT hr (by rfl) gT kT bT .nil pass0 (pa_cons (pv 0) (pa_cons pe_int pa_nil))) (fun _ _ => rfl))), ?_⟩
    refine ⟨1, rfl, Nat.zero_le _, fun t1 n1 => ⟨Nat.zero_le _, fun t2 n2 => ⟨by show 1 ≤ sizeLine; decide, fun t3 n3 => ?_⟩⟩⟩
    refine ⟨_, _, rfl, rfl, ⟨by decide, by decide, by decide⟩, by show 11 ≤ sizeLine; decide, fun L nL => ?_⟩
    have s1 := same_upd (o := .tup []) n1
    have s2 := same_upd (o := .lst []) n2
    have s3 := same_upd (o := .tup [V.int 0]) n3
    have s4 := same_upd (o := .lst [.non, .bl true, .int (-1), .str "0", .ref t1, .ref t2, .int 7, .str "", .ref t3, .bl false, .int (10 ^ (20 : Int).toNat)]) nL
    have hd4 := (((hd.same s1).same s2).same s3).same s4
    refine ⟨_, rfl, h, 11, rfl, hd4, by decide, fun r H2 r0 r1 k hd2 => ?_⟩
    have nh : ∀ {b : Addr} {o : HO}, H b = none → b ≠ h := fun {b o} e => hd.ne e
    have e1 : H2 t1 = some (.tup []) := by
      rw [k _ (hd.ne n1)]
      exact s4 _ _ (s3 _ _ (s2 _ _ upd_same))
    have e2 : H2 t2 = some (.lst []) := by
      rw [k _ ((hd.same s1).ne n2)]
      exact s4 _ _ (s3 _ _ upd_same)
    have e3 : H2 t3 = some (.tup [.int 0]) := by
      rw [k _ (((hd.same s1).same s2).ne n3)]
      exact s4 _ _ upd_same
    have eL := (k L ((((hd.same s1).same s2).same s3).ne nL)).trans upd_same
    have kp : Kp h H H2 := fun b o n e => by
      rw [k b n]
      exact s4 _ _ (s3 _ _ (s2 _ _ (s1 _ _ e)))
    have r' : r = ((0 : Nat) : Int) ∨ r = ((1 : Nat) : Int) ∨ r = ((2 : Nat) : Int) ∨ r = ((3 : Nat) : Int) ∨ r = ((4 : Nat) : Int) ∨ r = ((5 : Nat) : Int) ∨ r = ((6 : Nat) : Int) ∨ r = ((7 : Nat) : Int) ∨ r = ((8 : Nat) : Int) ∨ r = ((9 : Nat) : Int) ∨ r = ((10 : Nat) : Int) := by omega
    rcases r' with e | e | e | e | e | e | e | e | e | e | e
    · exact ⟨L, _, r, _, rfl, rfl, sl eL, at_z e rfl, q _ _ _ kp hd2 (fun _ _ => .non) (by refine ⟨?_, ?_, ?_, ?_⟩ <;> decide +kernel)⟩
    · exact ⟨L, _, r, _, rfl, rfl, sl eL, at_z e rfl, q _ _ _ kp hd2 (fun _ _ => .bl _) (by refine ⟨?_, ?_, ?_, ?_⟩ <;> decide +kernel)⟩
    · exact ⟨L, _, r, _, rfl, rfl, sl eL, at_z e rfl, q _ _ _ kp hd2 (fun _ _ => .int _) (by refine ⟨?_, ?_, ?_, ?_⟩ <;> decide +kernel)⟩
    · exact ⟨L, _, r, _, rfl, rfl, sl eL, at_z e rfl, q _ _ _ kp hd2 (fun _ _ => .str _) (by refine ⟨?_, ?_, ?_, ?_⟩ <;> decide +kernel)⟩
    · exact ⟨L, _, r, _, rfl, rfl, sl eL, at_z e rfl, q _ _ _ kp hd2 (fun H' k' => .tup (tl (k' _ _ (hd.ne n1) e1)) .nil) (by refine ⟨?_, ?_, ?_, ?_⟩ <;> decide +kernel)⟩
    · exact ⟨L, _, r, _, rfl, rfl, sl eL, at_z e rfl, q _ _ _ kp hd2 (fun H' k' => .lst (sl (k' _ _ ((hd.same s1).ne n2) e2)) .nil) (by refine ⟨?_, ?_, ?_, ?_⟩ <;> decide +kernel)⟩
    · exact ⟨L, _, r, _, rfl, rfl, sl eL, at_z e rfl, q _ _ _ kp hd2 (fun _ _ => .int _) (by refine ⟨?_, ?_, ?_, ?_⟩ <;> decide +kernel)⟩
    · exact ⟨L, _, r, _, rfl, rfl, sl eL, at_z e rfl, q _ _ _ kp hd2 (fun _ _ => .str _) (by refine ⟨?_, ?_, ?_, ?_⟩ <;> decide +kernel)⟩
    · exact ⟨L, _, r, _, rfl, rfl, sl eL, at_z e rfl, q _ _ _ kp hd2 (fun H' k' => .tup (tl (k' _ _ (((hd.same s1).same s2).ne n3) e3)) (.cons (.int 0) .nil)) (by refine ⟨?_, ?_, ?_, ?_⟩ <;> decide +kernel)⟩
    · exact ⟨L, _, r, _, rfl, rfl, sl eL, at_z e rfl, q _ _ _ kp hd2 (fun _ _ => .bl _) (by refine ⟨?_, ?_, ?_, ?_⟩ <;> decide +kernel)⟩
    · exact ⟨L, _, r, _, rfl, rfl, sl eL, at_z e rfl, q _ _ _ kp hd2 (fun _ _ => .int _) (by refine ⟨?_, ?_, ?_, ?_⟩ <;> decide +kernel)⟩
/-! ### the errors' own __init__ -/
abbrev iInvalidNumber : Stmt := inClass (topS 2) 0
theorem scInvalidNumber : FnScope ["self", "value"] ["self", "value"] (defScope iInvalidNumber) := ⟨rfl, rfl, rfl, by decide +kernel, rfl, by decide +kernel, by decide +kernel⟩
theorem ok_InvalidNumber {f : Addr} {fd : FuncData} (F : Fun K "__init__" "InvalidNumber.__init__" iInvalidNumber f fd) : FnOk P w K mg base CX0 1 f fd ["self", "value"] (spX1 K "value") := by
  refine F.ok scInvalidNumber (fun vs H Q E h => ?_) (fun cdv A outer s H vs Q E hr h => ?_)
  · obtain ⟨a, C, y, rfl, _⟩ := h
    rfl
  · obtain ⟨a, C, y, rfl, T, hno, ha, q⟩ := h
    exact ⟨_, pss_one (ps_ost (pv 0) (pv 1)), y, rfl, .ref a, rfl, a, C, rfl, T, hno, .inl ⟨ha, fun d nd ne => q _ (x1_end nd ne).1 (x1_end nd ne).2⟩⟩
abbrev iInvalidPrice : Stmt := inClass (topS 3) 0
theorem scInvalidPrice : FnScope ["self", "value"] ["self", "value"] (defScope iInvalidPrice) := ⟨rfl, rfl, rfl, by decide +kernel, rfl, by decide +kernel, by decide +kernel⟩
theorem ok_InvalidPrice {f : Addr} {fd : FuncData} (F : Fun K "__init__" "InvalidPrice.__init__" iInvalidPrice f fd) : FnOk P w K mg base CX0 1 f fd ["self", "value"] (spX1 K "value") := by
  refine F.ok scInvalidPrice (fun vs H Q E h => ?_) (fun cdv A outer s H vs Q E hr h => ?_)
  · obtain ⟨a, C, y, rfl, _⟩ := h
    rfl
  · obtain ⟨a, C, y, rfl, T, hno, ha, q⟩ := h
    exact ⟨_, pss_one (ps_ost (pv 0) (pv 1)), y, rfl, .ref a, rfl, a, C, rfl, T, hno, .inl ⟨ha, fun d nd ne => q _ (x1_end nd ne).1 (x1_end nd ne).2⟩⟩
abbrev iInvalidBook : Stmt := inClass (topS 4) 0
theorem scInvalidBook : FnScope ["self", "value"] ["self", "value"] (defScope iInvalidBook) := ⟨rfl, rfl, rfl, by decide +kernel, rfl, by decide +kernel, by decide +kernel⟩
theorem ok_InvalidBook {f : Addr} {fd : FuncData} (F : Fun K "__init__" "InvalidBook.__init__" iInvalidBook f fd) : FnOk P w K mg base CX0 1 f fd ["self", "value"] (spX1 K "value") := by
  refine F.ok scInvalidBook (fun vs H Q E h => ?_) (fun cdv A outer s H vs Q E hr h => ?_)
  · obtain ⟨a, C, y, rfl, _⟩ := h
    rfl
  · obtain ⟨a, C, y, rfl, T, hno, ha, q⟩ := h
    exact ⟨_, pss_one (ps_ost (pv 0) (pv 1)), y, rfl, .ref a, rfl, a, C, rfl, T, hno, .inl ⟨ha, fun d nd ne => q _ (x1_end nd ne).1 (x1_end nd ne).2⟩⟩
abbrev iInvalidPuzzle : Stmt := inClass (topS 5) 0
theorem scInvalidPuzzle : FnScope ["self", "part", "place"] ["self", "part", "place"] (defScope iInvalidPuzzle) := ⟨rfl, rfl, rfl, by decide +kernel, rfl, by decide +kernel, by decide +kernel⟩
theorem ok_InvalidPuzzle {f : Addr} {fd : FuncData} (F : Fun K "__init__" "InvalidPuzzle.__init__" iInvalidPuzzle f fd) : FnOk P w K mg base CX0 1 f fd ["self", "part", "place"] (spX2 K "part" "place") := by
  refine F.ok scInvalidPuzzle (fun vs H Q E h => ?_) (fun cdv A outer s H vs Q E hr h => ?_)
  · obtain ⟨a, C, y, z, rfl, _⟩ := h
    rfl
  · obtain ⟨a, C, y, z, rfl, T, hno, hno2, ha, q⟩ := h
    refine ⟨_, pss_cons (ps_ost (pv 0) (pv 1)) (pss_one (ps_ost (pv 0) (pv 2))), y, rfl, .ref a, rfl, a, C, rfl, T, hno, .inl ⟨ha, fun d nd ne => ?_⟩⟩
    exact ⟨z, rfl, .ref a, rfl, a, C, rfl, T, hno2, .inr ⟨d, _, upd_same, (by rw [upd_ne ne]; exact upd_same), (by show 1 ≤ 900; decide), q _ (x2_end nd ne).1 (x2_end nd ne).2⟩⟩
abbrev iInvalidStart : Stmt := inClass (topS 6) 0
theorem scInvalidStart : FnScope ["self", "value"] ["self", "value"] (defScope iInvalidStart) := ⟨rfl, rfl, rfl, by decide +kernel, rfl, by decide +kernel, by decide +kernel⟩
theorem ok_InvalidStart {f : Addr} {fd : FuncData} (F : Fun K "__init__" "InvalidStart.__init__" iInvalidStart f fd) : FnOk P w K mg base CX0 1 f fd ["self", "value"] (spX1 K "value") := by
  refine F.ok scInvalidStart (fun vs H Q E h => ?_) (fun cdv A outer s H vs Q E hr h => ?_)
  · obtain ⟨a, C, y, rfl, _⟩ := h
    rfl
  · obtain ⟨a, C, y, rfl, T, hno, ha, q⟩ := h
    exact ⟨_, pss_one (ps_ost (pv 0) (pv 1)), y, rfl, .ref a, rfl, a, C, rfl, T, hno, .inl ⟨ha, fun d nd ne => q _ (x1_end nd ne).1 (x1_end nd ne).2⟩⟩
abbrev iInvalidFilling : Stmt := inClass (topS 7) 0
theorem scInvalidFilling : FnScope ["self", "value"] ["self", "value"] (defScope iInvalidFilling) := ⟨rfl, rfl, rfl, by decide +kernel, rfl, by decide +kernel, by decide +kernel⟩
theorem ok_InvalidFilling {f : Addr} {fd : FuncData} (F : Fun K "__init__" "InvalidFilling.__init__" iInvalidFilling f fd) : FnOk P w K mg base CX0 1 f fd ["self", "value"] (spX1 K "value") := by
  refine F.ok scInvalidFilling (fun vs H Q E h => ?_) (fun cdv A outer s H vs Q E hr h => ?_)
  · obtain ⟨a, C, y, rfl, _⟩ := h
    rfl
  · obtain ⟨a, C, y, rfl, T, hno, ha, q⟩ := h
    exact ⟨_, pss_one (ps_ost (pv 0) (pv 1)), y, rfl, .ref a, rfl, a, C, rfl, T, hno, .inl ⟨ha, fun d nd ne => q _ (x1_end nd ne).1 (x1_end nd ne).2⟩⟩
abbrev iInvalidSum : Stmt := inClass (topS 8) 0
theorem scInvalidSum : FnScope ["self", "value"] ["self", "value"] (defScope iInvalidSum) := ⟨rfl, rfl, rfl, by decide +kernel, rfl, by decide +kernel, by decide +kernel⟩
theorem ok_InvalidSum {f : Addr} {fd : FuncData} (F : Fun K "__init__" "InvalidSum.__init__" iInvalidSum f fd) : FnOk P w K mg base CX0 1 f fd ["self", "value"] (spX1 K "value") := by
  refine F.ok scInvalidSum (fun vs H Q E h => ?_) (fun cdv A outer s H vs Q E hr h => ?_)
  · obtain ⟨a, C, y, rfl, _⟩ := h
    rfl
  · obtain ⟨a, C, y, rfl, T, hno, ha, q⟩ := h
    exact ⟨_, pss_one (ps_ost (pv 0) (pv 1)), y, rfl, .ref a, rfl, a, C, rfl, T, hno, .inl ⟨ha, fun d nd ne => q _ (x1_end nd ne).1 (x1_end nd ne).2⟩⟩
abbrev iInvalidCells : Stmt := inClass (topS 9) 0
theorem scInvalidCells : FnScope ["self", "value"] ["self", "value"] (defScope iInvalidCells) := ⟨rfl, rfl, rfl, by decide +kernel, rfl, by decide +kernel, by decide +kernel⟩
theorem ok_InvalidCells {f : Addr} {fd : FuncData} (F : Fun K "__init__" "InvalidCells.__init__" iInvalidCells f fd) : FnOk P w K mg base CX0 1 f fd ["self", "value"] (spX1 K "value") := by
  refine F.ok scInvalidCells (fun vs H Q E h => ?_) (fun cdv A outer s H vs Q E hr h => ?_)
  · obtain ⟨a, C, y, rfl, _⟩ := h
    rfl
  · obtain ⟨a, C, y, rfl, T, hno, ha, q⟩ := h
    exact ⟨_, pss_one (ps_ost (pv 0) (pv 1)), y, rfl, .ref a, rfl, a, C, rfl, T, hno, .inl ⟨ha, fun d nd ne => q _ (x1_end nd ne).1 (x1_end nd ne).2⟩⟩
abbrev iInvalidMove : Stmt := inClass (topS 10) 0
theorem scInvalidMove : FnScope ["self", "value"] ["self", "value"] (defScope iInvalidMove) := ⟨rfl, rfl, rfl, by decide +kernel, rfl, by decide +kernel, by decide +kernel⟩
theorem ok_InvalidMove {f : Addr} {fd : FuncData} (F : Fun K "__init__" "InvalidMove.__init__" iInvalidMove f fd) : FnOk P w K mg base CX0 1 f fd ["self", "value"] (spX1 K "value") := by
  refine F.ok scInvalidMove (fun vs H Q E h => ?_) (fun cdv A outer s H vs Q E hr h => ?_)
  · obtain ⟨a, C, y, rfl, _⟩ := h
    rfl
  · obtain ⟨a, C, y, rfl, T, hno, ha, q⟩ := h
    exact ⟨_, pss_one (ps_ost (pv 0) (pv 1)), y, rfl, .ref a, rfl, a, C, rfl, T, hno, .inl ⟨ha, fun d nd ne => q _ (x1_end nd ne).1 (x1_end nd ne).2⟩⟩
abbrev iInvalidQuestion : Stmt := inClass (topS 11) 0
theorem scInvalidQuestion : FnScope ["self", "value"] ["self", "value"] (defScope iInvalidQuestion) := ⟨rfl, rfl, rfl, by decide +kernel, rfl, by decide +kernel, by decide +kernel⟩
theorem ok_InvalidQuestion {f : Addr} {fd : FuncData} (F : Fun K "__init__" "InvalidQuestion.__init__" iInvalidQuestion f fd) : FnOk P w K mg base CX0 1 f fd ["self", "value"] (spX1 K "value") := by
  refine F.ok scInvalidQuestion (fun vs H Q E h => ?_) (fun cdv A outer s H vs Q E hr h => ?_)
  · obtain ⟨a, C, y, rfl, _⟩ := h
    rfl
  · obtain ⟨a, C, y, rfl, T, hno, ha, q⟩ := h
    exact ⟨_, pss_one (ps_ost (pv 0) (pv 1)), y, rfl, .ref a, rfl, a, C, rfl, T, hno, .inl ⟨ha, fun d nd ne => q _ (x1_end nd ne).1 (x1_end nd ne).2⟩⟩
abbrev iInvalidText : Stmt := inClass (topS 12) 0
theorem scInvalidText : FnScope ["self", "text", "at"] ["self", "text", "at"] (defScope iInvalidText) := ⟨rfl, rfl, rfl, by decide +kernel, rfl, by decide +kernel, by decide +kernel⟩
theorem ok_InvalidText {f : Addr} {fd : FuncData} (F : Fun K "__init__" "InvalidText.__init__" iInvalidText f fd) : FnOk P w K mg base CX0 1 f fd ["self", "text", "at"] (spX2 K "text" "at") := by
  refine F.ok scInvalidText (fun vs H Q E h => ?_) (fun cdv A outer s H vs Q E hr h => ?_)
  · obtain ⟨a, C, y, z, rfl, _⟩ := h
    rfl
  · obtain ⟨a, C, y, z, rfl, T, hno, hno2, ha, q⟩ := h
    refine ⟨_, pss_cons (ps_ost (pv 0) (pv 1)) (pss_one (ps_ost (pv 0) (pv 2))), y, rfl, .ref a, rfl, a, C, rfl, T, hno, .inl ⟨ha, fun d nd ne => ?_⟩⟩
    exact ⟨z, rfl, .ref a, rfl, a, C, rfl, T, hno2, .inr ⟨d, _, upd_same, (by rw [upd_ne ne]; exact upd_same), (by show 1 ≤ 900; decide), q _ (x2_end nd ne).1 (x2_end nd ne).2⟩⟩
abbrev iUndefined : Stmt := inClass (topS 13) 0
theorem scUndefined : FnScope ["self", "what"] ["self", "what"] (defScope iUndefined) := ⟨rfl, rfl, rfl, by decide +kernel, rfl, by decide +kernel, by decide +kernel⟩
theorem ok_Undefined {f : Addr} {fd : FuncData} (F : Fun K "__init__" "Undefined.__init__" iUndefined f fd) : FnOk P w K mg base CX0 1 f fd ["self", "what"] (spX1 K "what") := by
  refine F.ok scUndefined (fun vs H Q E h => ?_) (fun cdv A outer s H vs Q E hr h => ?_)
  · obtain ⟨a, C, y, rfl, _⟩ := h
    rfl
  · obtain ⟨a, C, y, rfl, T, hno, ha, q⟩ := h
    exact ⟨_, pss_one (ps_ost (pv 0) (pv 1)), y, rfl, .ref a, rfl, a, C, rfl, T, hno, .inl ⟨ha, fun d nd ne => q _ (x1_end nd ne).1 (x1_end nd ne).2⟩⟩
abbrev iNothingToUndo : Stmt := inClass (topS 14) 0
theorem scNothingToUndo : FnScope ["self", "word"] ["self", "word"] (defScope iNothingToUndo) := ⟨rfl, rfl, rfl, by decide +kernel, rfl, by decide +kernel, by decide +kernel⟩
theorem ok_NothingToUndo {f : Addr} {fd : FuncData} (F : Fun K "__init__" "NothingToUndo.__init__" iNothingToUndo f fd) : FnOk P w K mg base CX0 1 f fd ["self", "word"] (spX1 K "word") := by
  refine F.ok scNothingToUndo (fun vs H Q E h => ?_) (fun cdv A outer s H vs Q E hr h => ?_)
  · obtain ⟨a, C, y, rfl, _⟩ := h
    rfl
  · obtain ⟨a, C, y, rfl, T, hno, ha, q⟩ := h
    exact ⟨_, pss_one (ps_ost (pv 0) (pv 1)), y, rfl, .ref a, rfl, a, C, rfl, T, hno, .inl ⟨ha, fun d nd ne => q _ (x1_end nd ne).1 (x1_end nd ne).2⟩⟩

end
end C1

namespace C1
open PySem PySem.Spec PyProof.Rows L2 Ek
/-- the thirteen classes, in the order in which the law makes them -/
structure Cs (P : Program) (w : World) (K : PySem.W.Frag) (mg : Str → Option Value) (base : Heap) (c : Nat → Addr) : Prop where
  n0 : Cl1 P w K mg base "InvalidNumber" "value" (c 0)
  n1 : Cl1 P w K mg base "InvalidPrice" "value" (c 1)
  n2 : Cl1 P w K mg base "InvalidBook" "value" (c 2)
  n3 : Cl1 P w K mg base "InvalidStart" "value" (c 3)
  n4 : Cl1 P w K mg base "InvalidFilling" "value" (c 4)
  n5 : Cl1 P w K mg base "InvalidSum" "value" (c 5)
  n6 : Cl1 P w K mg base "InvalidCells" "value" (c 6)
  n7 : Cl1 P w K mg base "InvalidMove" "value" (c 7)
  n8 : Cl1 P w K mg base "InvalidQuestion" "value" (c 8)
  n9 : Cl1 P w K mg base "Undefined" "what" (c 9)
  n10 : Cl1 P w K mg base "NothingToUndo" "word" (c 10)
  n11 : Cl2 P w K mg base "InvalidPuzzle" "part" "place" (c 11)
  n12 : Cl2 P w K mg base "InvalidText" "text" "at" (c 12)
def spec (c : Nat → Addr) (one other : V) : List (Addr × List (Str × V)) :=
  [(c 0, [(("value" : Str), one)]), (c 1, [(("value" : Str), one)]), (c 2, [(("value" : Str), one)]), (c 3, [(("value" : Str), one)]), (c 4, [(("value" : Str), one)])] ++
  [(c 5, [(("value" : Str), one)]), (c 6, [(("value" : Str), one)]), (c 7, [(("value" : Str), one)]), (c 8, [(("value" : Str), one)]), (c 9, [(("what" : Str), .str "kind")])] ++
  [(c 10, [(("word" : Str), .str "redo")]), (c 11, [(("place" : Str), other), (("part" : Str), .str "ties")]), (c 12, [(("at" : Str), other), (("text" : Str), .str "ab")])]
section
variable {P : Program} {w : World} {K : PySem.W.Frag} {mg : Str → Option Value} {base : Heap} {c : Nat → Addr}
def spMade (c : Nat → Addr) : Sp := fun vs H Q _ => ∃ (one other : V) (b : Bool), vs = [one, other, .bl b] ∧ ∀ p es H', H p = none → Same H H' → H' p = some (.lst (es.map V.ref)) → XAs H' es (spec c one other) → Q (.ref p) H'
theorem ok_made {f : Addr} {fd : FuncData} (F : Fun K "_law_made" "_law_made" sMade f fd) (T : Cs P w K mg base c) : FnOk P w K mg base CX0 3 f fd ["one", "other", "by_name"] (spMade c) := by
  refine F.ok scM (fun vs H Q E h => ?_) (fun cdv A outer s H vs Q E hr h => ?_)
  · obtain ⟨one, other, b, rfl, _⟩ := h
    rfl
  · obtain ⟨one, other, b, rfl, q⟩ := h
    refine ⟨_, (pss_cons (ps_if (pt_val (pv 2))
      (pss_cons (ps_set (i := 3) scM.nd rfl (.inl rfl) (pe_lst (pa_cons (pe_k1 T.n0 hr (by rfl) (pk_cons (pv 0) pk_nil)) (pa_cons (pe_k1 T.n1 hr (by rfl) (pk_cons (pv 0) pk_nil)) (pa_cons (pe_k1 T.n2 hr (by rfl) (pk_cons (pv 0) pk_nil)) (pa_cons (pe_k1 T.n3 hr (by rfl) (pk_cons (pv 0) pk_nil)) pa_nil))))))
      (pss_cons (ps_set (i := 3) scM.nd rfl (.inl rfl) (pe_op op_cat (pv 3) (pe_lst (pa_cons (pe_k1 T.n4 hr (by rfl) (pk_cons (pv 0) pk_nil)) (pa_cons (pe_k1 T.n5 hr (by rfl) (pk_cons (pv 0) pk_nil)) (pa_cons (pe_k1 T.n6 hr (by rfl) (pk_cons (pv 0) pk_nil)) pa_nil))))))
      (pss_cons (ps_set (i := 3) scM.nd rfl (.inl rfl) (pe_op op_cat (pv 3) (pe_lst (pa_cons (pe_k1 T.n7 hr (by rfl) (pk_cons (pv 0) pk_nil)) (pa_cons (pe_k1 T.n8 hr (by rfl) (pk_cons (pv 0) pk_nil)) (pa_cons (pe_k1 T.n9 hr (by rfl) (pk_cons pe_str pk_nil)) pa_nil))))))
      (pss_cons (ps_set (i := 3) scM.nd rfl (.inl rfl) (pe_op op_cat (pv 3) (pe_lst (pa_cons (pe_k1 T.n10 hr (by rfl) (pk_cons pe_str pk_nil)) (pa_cons (pe_k2 T.n11 hr (by rfl) (pk_cons pe_str (pk_cons (pv 1) pk_nil))) pa_nil)))))
      (pss_one (ps_ret (pe_op op_cat (pv 3) (pe_lst (pa_cons (pe_k2 T.n12 hr (by rfl) (pk_cons pe_str (pk_cons (pv 1) pk_nil))) pa_nil))))))))) pss_nil)
      (pss_cons (ps_set (i := 3) scM.nd rfl (.inl rfl) (pe_lst (pa_cons (pe_c1 T.n0 hr (by rfl) (pa_cons (pv 0) pa_nil)) (pa_cons (pe_c1 T.n1 hr (by rfl) (pa_cons (pv 0) pa_nil)) (pa_cons (pe_c1 T.n2 hr (by rfl) (pa_cons (pv 0) pa_nil)) (pa_cons (pe_c1 T.n3 hr (by rfl) (pa_cons (pv 0) pa_nil)) (pa_cons (pe_c1 T.n4 hr (by rfl) (pa_cons (pv 0) pa_nil)) pa_nil)))))))
      (pss_cons (ps_set (i := 3) scM.nd rfl (.inl rfl) (pe_op op_cat (pv 3) (pe_lst (pa_cons (pe_c1 T.n5 hr (by rfl) (pa_cons (pv 0) pa_nil)) (pa_cons (pe_c1 T.n6 hr (by rfl) (pa_cons (pv 0) pa_nil)) (pa_cons (pe_c1 T.n7 hr (by rfl) (pa_cons (pv 0) pa_nil)) (pa_cons (pe_c1 T.n8 hr (by rfl) (pa_cons (pv 0) pa_nil)) (pa_cons (pe_c1 T.n9 hr (by rfl) (pa_cons pe_str pa_nil)) pa_nil))))))))
      (pss_one (ps_ret (pe_op op_cat (pv 3) (pe_lst (pa_cons (pe_c1 T.n10 hr (by rfl) (pa_cons pe_str pa_nil)) (pa_cons (pe_c2 T.n11 hr (by rfl) (pa_cons pe_str (pa_cons (pv 1) pa_nil))) (pa_cons (pe_c2 T.n12 hr (by rfl) (pa_cons pe_str (pa_cons (pv 1) pa_nil))) pa_nil)))))))))), ?_⟩
    refine ⟨.bl b, rfl, b, rfl, ?_⟩
    cases b with
    | true =>
      rw [if_pos rfl]
      refine q_seq (q_set ?_)
      refine st_list (evx_1 T.n0.o T.n0.no (evv_v (by rfl) evv_nil) (evx_1 T.n1.o T.n1.no (evv_v (by rfl) evv_nil) (evx_1 T.n2.o T.n2.no (evv_v (by rfl) evv_nil) (evx_1 T.n3.o T.n3.no (evv_v (by rfl) evv_nil) evx_nil)))) (show 4 ≤ 1000 by decide) fun L0 e0 H0 n0 s0 h0 p0 => ?_
      dsimp only
      refine q_seq (q_set ?_)
      refine st_more (evx_1 T.n4.o T.n4.no (evv_v (by rfl) evv_nil) (evx_1 T.n5.o T.n5.no (evv_v (by rfl) evv_nil) (evx_1 T.n6.o T.n6.no (evv_v (by rfl) evv_nil) evx_nil))) (show _ = some (some (V.ref L0)) from rfl) h0 p0 (show 4 + 3 ≤ 1000 by decide) fun L1 e1 H1 n1 s1 h1 p1 => ?_
      dsimp only
      refine q_seq (q_set ?_)
      refine st_more (evx_1 T.n7.o T.n7.no (evv_v (by rfl) evv_nil) (evx_1 T.n8.o T.n8.no (evv_v (by rfl) evv_nil) (evx_1 T.n9.o T.n9.no (evv_c evv_nil) evx_nil))) (show _ = some (some (V.ref L1)) from rfl) h1 p1 (show 7 + 3 ≤ 1000 by decide) fun L2 e2 H2 n2 s2 h2 p2 => ?_
      dsimp only
      refine q_seq (q_set ?_)
      refine st_more (evx_1 T.n10.o T.n10.no (evv_c evv_nil) (evx_2 T.n11.o T.n11.no T.n11.no2 (evv_c (evv_v (by rfl) evv_nil)) evx_nil)) (show _ = some (some (V.ref L2)) from rfl) h2 p2 (show 10 + 2 ≤ 1000 by decide) fun L3 e3 H3 n3 s3 h3 p3 => ?_
      dsimp only
      refine q_ret ?_
      dsimp only
      refine st_more (evx_2 T.n12.o T.n12.no T.n12.no2 (evv_c (evv_v (by rfl) evv_nil)) evx_nil) (show _ = some (some (V.ref L3)) from rfl) h3 p3 (show 12 + 1 ≤ 1000 by decide) fun L4 e4 H4 n4 s4 h4 p4 => ?_
      exact q L4 e4 H4 ((Same.trans (Same.trans (Same.trans s0 s1) s2) s3).free n4) (Same.trans (Same.trans (Same.trans (Same.trans s0 s1) s2) s3) s4) h4 p4
    | false =>
      rw [if_neg Bool.false_ne_true]
      refine q_next ?_
      dsimp only
      refine q_seq (q_set ?_)
      refine st_list (evx_1 T.n0.o T.n0.no (evv_v (by rfl) evv_nil) (evx_1 T.n1.o T.n1.no (evv_v (by rfl) evv_nil) (evx_1 T.n2.o T.n2.no (evv_v (by rfl) evv_nil) (evx_1 T.n3.o T.n3.no (evv_v (by rfl) evv_nil) (evx_1 T.n4.o T.n4.no (evv_v (by rfl) evv_nil) evx_nil))))) (show 5 ≤ 1000 by decide) fun L0 e0 H0 n0 s0 h0 p0 => ?_
      dsimp only
      refine q_seq (q_set ?_)
      refine st_more (evx_1 T.n5.o T.n5.no (evv_v (by rfl) evv_nil) (evx_1 T.n6.o T.n6.no (evv_v (by rfl) evv_nil) (evx_1 T.n7.o T.n7.no (evv_v (by rfl) evv_nil) (evx_1 T.n8.o T.n8.no (evv_v (by rfl) evv_nil) (evx_1 T.n9.o T.n9.no (evv_c evv_nil) evx_nil))))) (show _ = some (some (V.ref L0)) from rfl) h0 p0 (show 5 + 5 ≤ 1000 by decide) fun L1 e1 H1 n1 s1 h1 p1 => ?_
      dsimp only
      refine q_ret ?_
      dsimp only
      refine st_more (evx_1 T.n10.o T.n10.no (evv_c evv_nil) (evx_2 T.n11.o T.n11.no T.n11.no2 (evv_c (evv_v (by rfl) evv_nil)) (evx_2 T.n12.o T.n12.no T.n12.no2 (evv_c (evv_v (by rfl) evv_nil)) evx_nil))) (show _ = some (some (V.ref L1)) from rfl) h1 p1 (show 10 + 3 ≤ 1000 by decide) fun L2 e2 H2 n2 s2 h2 p2 => ?_
      exact q L2 e2 H2 ((Same.trans s0 s1).free n2) (Same.trans (Same.trans s0 s1) s2) h2 p2
end
end C1

namespace C1
open PySem PySem.Spec PyProof.Rows L2 Ek
/-- what isinstance tells of the thirteen classes -/
structure Ks (K : PySem.W.Frag) (c : Nat → Addr) (pe : Addr) : Prop where
  e : ∀ i, i < 13 → ExcC K (c i)
  k : ∀ i j, i < 13 → j < 13 → PySem.W.kitOne K (.ref (c i)) (.ref (c j)) = some (decide (j = i))
  p : ∀ i, i < 13 → PySem.W.kitOne K (.ref (c i)) (.ref pe) = some true
  v : ∀ i, i < 13 → PySem.W.kitOne K (.ref (c i)) (.type "ValueError") = some true
structure Nm (mg : Str → Option Value) : Prop where
  isi : mg "isinstance" = none
  rep : mg "repr" = none
  ve : mg "ValueError" = none
/-- values that stay the same whatever is laid beside -/
def EvW (ta : TA) (σ : L2.St) (H : Hp) (vs : List V) : Prop := ∀ H2, Same H H2 → ∀ Q : List V → Hp → Prop, Q vs H2 → ta σ H2 Q
theorem EvW.mono {ta : TA} {σ : L2.St} {H H' : Hp} {vs : List V} (s : Same H H') (h : EvW ta σ H vs) : EvW ta σ H' vs := fun H2 s2 Q q => h H2 (s.trans s2) Q q
theorem evw_nil {σ : L2.St} {H : Hp} : EvW tNil σ H [] := fun _ _ _ q => q
theorem evw_is {K : PySem.W.Frag} {σ : L2.St} {H : Hp} {e C D : Addr} {fs : List (Str × V)} {b : Bool} {j : Nat} {tr : TA} {vs : List V} (xa : XA H e C fs) (hσ : σ[j]? = some (some (.ref e))) (x : ExcC K C) (k : PySem.W.kitOne K (.ref C) (.ref D) = some b) (h : EvW tr σ H vs) :
    EvW (tCons (tCB (rIsX K) (tCons (tVar j) (tCons (tC (.ref D)) tNil))) tr) σ H (.bl b :: vs) := fun H2 s Q q => ⟨.ref e, hσ, e, C, fs, _, _, b, rfl, xa.mono s, x, .own D, k, h H2 s _ q⟩
theorem w_list {σ : L2.St} {H : Hp} {ta : TA} {vs : List V} {Q : VK} (ev : EvW ta σ H vs) (hz : vs.length ≤ 1000) (k : ∀ L H', H L = none → Same H H' → H' L = some (.lst vs) → Q (.ref L) H') : tLst ta σ H Q :=
  ev H (Same.refl H) _ ⟨Nat.le_of_lt (small1000 hz), fun L nL => k L _ nL (same_upd nL) upd_same⟩
theorem w_more {σ : L2.St} {H : Hp} {i : Nat} {L : Addr} {ta : TA} {vs xs : List V} {Q : VK} (ev : EvW ta σ H vs) (hσ : σ[i]? = some (some (.ref L))) (hL : H L = some (.lst xs)) (hz : xs.length + vs.length ≤ 1000)
    (k : ∀ L' H', H L' = none → Same H H' → H' L' = some (.lst (xs ++ vs)) → Q (.ref L') H') : tOp rCat (tVar i) (tLst ta) σ H Q :=
  ⟨.ref L, hσ, w_list ev (by omega) fun L2 H2 n2 s2 h2 => ⟨L, L2, _, _, rfl, rfl, s2 _ _ hL, h2, Nat.le_of_lt (small1000 hz), fun p np => k p _ (s2.free np) (s2.trans (same_upd np)) upd_same⟩⟩
section
variable {P : Program} {w : World} {K : PySem.W.Frag} {mg : Str → Option Value} {base : Heap} {c : Nat → Addr} {pe : Addr}
def spKinds (c : Nat → Addr) : Sp := fun vs H Q _ => ∃ (e : Addr) (i : Nat) (fs : List (Str × V)), vs = [.ref e] ∧ i < 13 ∧ XA H e (c i) fs ∧ ∀ p H', Same H H' → H' p = some (.lst ((List.range 13).map fun j => .bl (decide (j = i)))) → Q (.ref p) H'
theorem ok_kinds {f : Addr} {fd : FuncData} (F : Fun K "_law_kinds" "_law_kinds" sKinds f fd) (T : Cs P w K mg base c) (X : Ks K c pe) (S : Nm mg) : FnOk P w K mg base CX0 1 f fd ["error"] (spKinds c) := by
  refine F.ok scK (fun vs H Q E h => ?_) (fun cdv A outer s H vs Q E hr h => ?_)
  · obtain ⟨e, i, fs, rfl, _⟩ := h
    rfl
  · obtain ⟨e, i, fs, rfl, hi, xa, q⟩ := h
    refine ⟨_, (pss_cons (ps_set (i := 1) scK.nd rfl (.inl rfl) (pe_lst (pa_cons (pe_callB call_isX (by rfl) S.isi (by decide +kernel) (pa_cons (pv 0) (pa_cons (pe_glob (v := .ref (c 0)) (by rfl) T.n0.g rfl) pa_nil))) (pa_cons (pe_callB call_isX (by rfl) S.isi (by decide +kernel) (pa_cons (pv 0) (pa_cons (pe_glob (v := .ref (c 1)) (by rfl) T.n1.g rfl) pa_nil))) (pa_cons (pe_callB call_isX (by rfl) S.isi (by decide +kernel) (pa_cons (pv 0) (pa_cons (pe_glob (v := .ref (c 2)) (by rfl) T.n2.g rfl) pa_nil))) pa_nil)))))
      (pss_cons (ps_set (i := 1) scK.nd rfl (.inl rfl) (pe_op op_cat (pv 1) (pe_lst (pa_cons (pe_callB call_isX (by rfl) S.isi (by decide +kernel) (pa_cons (pv 0) (pa_cons (pe_glob (v := .ref (c 3)) (by rfl) T.n3.g rfl) pa_nil))) (pa_cons (pe_callB call_isX (by rfl) S.isi (by decide +kernel) (pa_cons (pv 0) (pa_cons (pe_glob (v := .ref (c 4)) (by rfl) T.n4.g rfl) pa_nil))) pa_nil)))))
      (pss_cons (ps_set (i := 1) scK.nd rfl (.inl rfl) (pe_op op_cat (pv 1) (pe_lst (pa_cons (pe_callB call_isX (by rfl) S.isi (by decide +kernel) (pa_cons (pv 0) (pa_cons (pe_glob (v := .ref (c 5)) (by rfl) T.n5.g rfl) pa_nil))) (pa_cons (pe_callB call_isX (by rfl) S.isi (by decide +kernel) (pa_cons (pv 0) (pa_cons (pe_glob (v := .ref (c 6)) (by rfl) T.n6.g rfl) pa_nil))) (pa_cons (pe_callB call_isX (by rfl) S.isi (by decide +kernel) (pa_cons (pv 0) (pa_cons (pe_glob (v := .ref (c 7)) (by rfl) T.n7.g rfl) pa_nil))) pa_nil))))))
      (pss_cons (ps_set (i := 1) scK.nd rfl (.inl rfl) (pe_op op_cat (pv 1) (pe_lst (pa_cons (pe_callB call_isX (by rfl) S.isi (by decide +kernel) (pa_cons (pv 0) (pa_cons (pe_glob (v := .ref (c 8)) (by rfl) T.n8.g rfl) pa_nil))) (pa_cons (pe_callB call_isX (by rfl) S.isi (by decide +kernel) (pa_cons (pv 0) (pa_cons (pe_glob (v := .ref (c 9)) (by rfl) T.n9.g rfl) pa_nil))) pa_nil)))))
      (pss_cons (ps_set (i := 1) scK.nd rfl (.inl rfl) (pe_op op_cat (pv 1) (pe_lst (pa_cons (pe_callB call_isX (by rfl) S.isi (by decide +kernel) (pa_cons (pv 0) (pa_cons (pe_glob (v := .ref (c 10)) (by rfl) T.n10.g rfl) pa_nil))) (pa_cons (pe_callB call_isX (by rfl) S.isi (by decide +kernel) (pa_cons (pv 0) (pa_cons (pe_glob (v := .ref (c 11)) (by rfl) T.n11.g rfl) pa_nil))) pa_nil)))))
      (pss_one (ps_ret (pe_op op_cat (pv 1) (pe_lst (pa_cons (pe_callB call_isX (by rfl) S.isi (by decide +kernel) (pa_cons (pv 0) (pa_cons (pe_glob (v := .ref (c 12)) (by rfl) T.n12.g rfl) pa_nil))) pa_nil)))))))))), ?_⟩
    refine q_seq (q_set ?_)
    refine w_list (evw_is xa (by rfl) (X.e i hi) (X.k i 0 hi (by decide)) (evw_is xa (by rfl) (X.e i hi) (X.k i 1 hi (by decide)) (evw_is xa (by rfl) (X.e i hi) (X.k i 2 hi (by decide)) evw_nil))) (show 3 ≤ 1000 by decide) fun L0 H0 n0 s0 h0 => ?_
    dsimp only
    refine q_seq (q_set ?_)
    refine w_more (EvW.mono s0 (evw_is xa (by rfl) (X.e i hi) (X.k i 3 hi (by decide)) (evw_is xa (by rfl) (X.e i hi) (X.k i 4 hi (by decide)) evw_nil))) (show _ = some (some (V.ref L0)) from rfl) h0 (show 3 + 2 ≤ 1000 by decide) fun L1 H1 n1 s1' h1 => ?_
    have s1 := s0.trans s1'
    dsimp only
    refine q_seq (q_set ?_)
    refine w_more (EvW.mono s1 (evw_is xa (by rfl) (X.e i hi) (X.k i 5 hi (by decide)) (evw_is xa (by rfl) (X.e i hi) (X.k i 6 hi (by decide)) (evw_is xa (by rfl) (X.e i hi) (X.k i 7 hi (by decide)) evw_nil)))) (show _ = some (some (V.ref L1)) from rfl) h1 (show 5 + 3 ≤ 1000 by decide) fun L2 H2 n2 s2' h2 => ?_
    have s2 := s1.trans s2'
    dsimp only
    refine q_seq (q_set ?_)
    refine w_more (EvW.mono s2 (evw_is xa (by rfl) (X.e i hi) (X.k i 8 hi (by decide)) (evw_is xa (by rfl) (X.e i hi) (X.k i 9 hi (by decide)) evw_nil))) (show _ = some (some (V.ref L2)) from rfl) h2 (show 8 + 2 ≤ 1000 by decide) fun L3 H3 n3 s3' h3 => ?_
    have s3 := s2.trans s3'
    dsimp only
    refine q_seq (q_set ?_)
    refine w_more (EvW.mono s3 (evw_is xa (by rfl) (X.e i hi) (X.k i 10 hi (by decide)) (evw_is xa (by rfl) (X.e i hi) (X.k i 11 hi (by decide)) evw_nil))) (show _ = some (some (V.ref L3)) from rfl) h3 (show 10 + 2 ≤ 1000 by decide) fun L4 H4 n4 s4' h4 => ?_
    have s4 := s3.trans s4'
    dsimp only
    refine q_ret ?_
    dsimp only
    refine w_more (EvW.mono s4 (evw_is xa (by rfl) (X.e i hi) (X.k i 12 hi (by decide)) evw_nil)) (show _ = some (some (V.ref L4)) from rfl) h4 (show 12 + 1 ≤ 1000 by decide) fun L5 H5 n5 s5' h5 => ?_
    have s5 := s4.trans s5'
    refine q L5 H5 s5 ?_
    rw [h5]
    rfl
end
end C1

namespace C1
open PySem PySem.Spec PyProof.Rows L2 Ek
theorem lk1 {f : Str} {v : V} : ([(f, v)] : List (Str × V)).lookup f = some v := by simp [List.lookup]
theorem lk2 {f g : Str} {v u : V} (h : ¬ f = g) : ([(g, u), (f, v)] : List (Str × V)).lookup f = some v := by
  have e : (f == g) = false := by simpa using h
  simp [List.lookup, e]
theorem lk3 {f g : Str} {v u : V} : ([(g, u), (f, v)] : List (Str × V)).lookup g = some u := by simp [List.lookup]
theorem XA_upd {H : Hp} {a C b : Addr} {fs : List (Str × V)} {xs : List V} {o : HO} (x : XA H a C fs) (h : H b = some (.lst xs)) : XA (upd H b o) a C fs := by
  obtain ⟨d, h1, h2⟩ := x
  have n1 : a ≠ b := ne_of h1 h (fun z => by have z' : HO.ext _ = HO.lst xs := z; cases z')
  have n2 : d ≠ b := ne_of h2 h (fun z => by have z' : HO.ext _ = HO.lst xs := z; cases z')
  exact ⟨d, by rw [upd_ne n1]; exact h1, by rw [upd_ne n2]; exact h2⟩
theorem val9 {P : Program} {w : World} {K : PySem.W.Frag} {mg : Str → Option Value} {base : Heap} {c : Nat → Addr} (T : Cs P w K mg base c) : ∀ i, i < 9 → XfC K (c i) ∧ PySem.W.findIn K (.ref (c i)) "value" = some none
  | 0, _ => ⟨T.n0.xf, T.n0.no⟩
  | 1, _ => ⟨T.n1.xf, T.n1.no⟩
  | 2, _ => ⟨T.n2.xf, T.n2.no⟩
  | 3, _ => ⟨T.n3.xf, T.n3.no⟩
  | 4, _ => ⟨T.n4.xf, T.n4.no⟩
  | 5, _ => ⟨T.n5.xf, T.n5.no⟩
  | 6, _ => ⟨T.n6.xf, T.n6.no⟩
  | 7, _ => ⟨T.n7.xf, T.n7.no⟩
  | 8, _ => ⟨T.n8.xf, T.n8.no⟩
  | n + 9, h => absurd h (by omega)
theorem made13 {H : Hp} {es : List Addr} {c : Nat → Addr} {one other : V} (x : XAs H es (spec c one other)) : ∃ e0 e1 e2 e3 e4 e5 e6 e7 e8 e9 e10 e11 e12 : Addr, es = [e0, e1, e2, e3, e4, e5, e6, e7, e8, e9, e10, e11, e12] ∧ XA H e0 (c 0) [("value", one)] ∧ XA H e1 (c 1) [("value", one)] ∧ XA H e2 (c 2) [("value", one)] ∧ XA H e3 (c 3) [("value", one)] ∧ XA H e4 (c 4) [("value", one)] ∧ XA H e5 (c 5) [("value", one)] ∧ XA H e6 (c 6) [("value", one)] ∧ XA H e7 (c 7) [("value", one)] ∧ XA H e8 (c 8) [("value", one)] ∧ XA H e9 (c 9) [("what", .str "kind")] ∧ XA H e10 (c 10) [("word", .str "redo")] ∧ XA H e11 (c 11) [("place", other), ("part", .str "ties")] ∧ XA H e12 (c 12) [("at", other), ("text", .str "ab")] := by
  unfold spec at x
  simp only [List.cons_append, List.nil_append] at x
  cases x with
  | cons x0 x =>
    cases x with
    | cons x1 x =>
      cases x with
      | cons x2 x =>
        cases x with
        | cons x3 x =>
          cases x with
          | cons x4 x =>
            cases x with
            | cons x5 x =>
              cases x with
              | cons x6 x =>
                cases x with
                | cons x7 x =>
                  cases x with
                  | cons x8 x =>
                    cases x with
                    | cons x9 x =>
                      cases x with
                      | cons x10 x =>
                        cases x with
                        | cons x11 x =>
                          cases x with
                          | cons x12 x =>
                            cases x
                            exact ⟨_, _, _, _, _, _, _, _, _, _, _, _, _, rfl, x0, x1, x2, x3, x4, x5, x6, x7, x8, x9, x10, x11, x12⟩
theorem spec_at (c : Nat → Addr) (one other : V) : ∀ i, i < 13 → ∃ fs, (spec c one other)[i]? = some (c i, fs)
  | 0, _ => ⟨_, rfl⟩ | 1, _ => ⟨_, rfl⟩ | 2, _ => ⟨_, rfl⟩ | 3, _ => ⟨_, rfl⟩ | 4, _ => ⟨_, rfl⟩ | 5, _ => ⟨_, rfl⟩ | 6, _ => ⟨_, rfl⟩ | 7, _ => ⟨_, rfl⟩ | 8, _ => ⟨_, rfl⟩ | 9, _ => ⟨_, rfl⟩ | 10, _ => ⟨_, rfl⟩ | 11, _ => ⟨_, rfl⟩ | 12, _ => ⟨_, rfl⟩
  | n + 13, h => absurd h (by omega)
section
variable {P : Program} {w : World} {K : PySem.W.Frag} {mg : Str → Option Value} {base : Heap} {c : Nat → Addr} {pe : Addr}
def spLaw (K : PySem.W.Frag) : Sp := fun vs H Q _ => ∃ (a : Addr) (ns : List Int), vs = [.ref a] ∧ SqL K H a (ns.map V.int) ∧ ns.length ≤ 63 ∧ ∀ H', Q (.bl true) H'
theorem ok_law {f fD fO fT fM fK : Addr} {fd fdD fdO fdT fdM fdK : FuncData} (F : Fun K "law" "law" sLaw f fd) (T : Cs P w K mg base c) (X : Ks K c pe) (S : Nm mg) (B : Bt mg) (gPE : mg "PriceError" = some (.ref pe))
    (GD : FnOk P w K mg base CX0 1 fD fdD ["script", "many"] (spDraws K)) (kD : PySem.W.keepIn K (.ref fD) = true) (bD : Binds K fdD ["script", "many"] []) (gD : mg "_law_draws" = some (.ref fD))
    (GO : FnOk P w K mg base CX0 2 fO fdO ["hand"] (spOdd K)) (kO : PySem.W.keepIn K (.ref fO) = true) (bO : Binds K fdO ["hand"] []) (gO : mg "_law_odd" = some (.ref fO))
    (GT : FnOk P w K mg base CX0 1 fT fdT ["hand", "many"] spTake) (kT : PySem.W.keepIn K (.ref fT) = true) (bT : Binds K fdT ["hand", "many"] []) (gT : mg "_law_take" = some (.ref fT))
    (GM : FnOk P w K mg base CX0 3 fM fdM ["one", "other", "by_name"] (spMade c)) (kM : PySem.W.keepIn K (.ref fM) = true) (bM : Binds K fdM ["one", "other", "by_name"] []) (gM : mg "_law_made" = some (.ref fM))
    (GK : FnOk P w K mg base CX0 1 fK fdK ["error"] (spKinds c)) (kK : PySem.W.keepIn K (.ref fK) = true) (bK : Binds K fdK ["error"] []) (gK : mg "_law_kinds" = some (.ref fK)) : FnG P w K mg base CX0 4 f fd ["script"] (spLaw K) := by
  refine okG F scL (fun vs H Q E h => ?_) (fun cdv A outer s H vs Q E hr gd h => ?_)
  · obtain ⟨a, ns, rfl, _⟩ := h
    rfl
  · obtain ⟨a, ns, rfl, hS, hl, q⟩ := h
    refine ⟨_, (pss_cons (ps_set (i := 1) scL.nd rfl (.inl rfl) (pe_lst (pa_cons (pe_call GD (hr.mono (by decide)) (by rfl) gD kD bD .nil pass0 (pa_cons (pv 0) (pa_cons pe_int pa_nil))) (pa_cons pe_int pa_nil))))
      (pss_cons (ps_set (i := 2) scL.nd rfl (.inl rfl) (pe_call GO (hr.mono (by decide)) (by rfl) gO kO bO .nil pass0 (pa_cons (pv 1) pa_nil)))
      (pss_cons (ps_set (i := 3) scL.nd rfl (.inl rfl) (pe_call GT (hr.mono (by decide)) (by rfl) gT kT bT .nil pass0 (pa_cons (pv 1) (pa_cons pe_int pa_nil))))
      (pss_cons (ps_set (i := 4) scL.nd rfl (.inl rfl) (pe_call GM hr (by rfl) gM kM bM .nil pass0 (pa_cons (pv 2) (pa_cons (pv 3) (pa_cons (pe_cmpR op_eq (pe_call GT (hr.mono (by decide)) (by rfl) gT kT bT .nil pass0 (pa_cons (pv 1) (pa_cons pe_int pa_nil))) pe_int (nomark _)) pa_nil)))))
      (pss_cons (ps_for PassesOwn.never rfl (pi_range1 rfl B.range (pa_cons pe_int pa_nil)) (pg_name (i := 5) scL.nd rfl (.inr rfl))
        (pss_cons (ps_if (PW.pt (pw_or (pt_not (pt_val (pe_callB call_isX (by rfl) S.isi (by decide +kernel) (pa_cons (pe_ix ix_list (pv 4) (pv 5) (fun _ _ => rfl)) (pa_cons (pe_glob (v := .ref pe) (by rfl) gPE rfl) pa_nil))))) (pw_or1 (pt_not (pt_val (pe_callB call_isX (by rfl) S.isi (by decide +kernel) (pa_cons (pe_ix ix_list (pv 4) (pv 5) (fun _ _ => rfl)) (pa_cons (pe_bltn (v := .ty "ValueError") (by rfl) S.ve PyProof.Rows.Boot.«ValueError» rfl) pa_nil)))))))) (pss_one (ps_ret pe_bl)) pss_nil)
        (pss_one (ps_if (pt_cmpR (op_neD hr.units) (pe_call GK (hr.mono (by decide)) (by rfl) gK kK bK .nil pass0 (pa_cons (pe_ix ix_list (pv 4) (pv 5) (fun _ _ => rfl)) pa_nil))
          (pe_lc (own := [("j", 8)]) (g := gName 8) (tt := tYes) rfl scL.nd (pi_range1 rfl B.range (pa_cons pe_int pa_nil)) (blkOk_by (N := ["script", "hand", "one", "other", "found", "k", "handed", "kept", "j", "error"]) (sc := defScope sLaw) (by decide +kernel)) (fun _ _ _ _ _ => pg_name (i := 8) scL.nd rfl (Or.inl rfl)) (fun _ _ _ _ _ => pts_nil) (fun _ _ _ _ _ => pe_cmpR op_eq (pv 8) (pv 5) (nomark _))) (nomark _)) (pss_one (ps_ret pe_bl)) pss_nil))))
      (pss_cons (ps_if (pt_cmpR op_ne (pe_callB (call_repr gd hr.units) (by rfl) S.rep (by decide +kernel) (pa_cons (pe_lc (own := [("error", 9)]) (g := gName 9) (tt := tYes) rfl scL.nd (pi_list (pe_slice sl_list (pv 4) po_none (po_some pe_int))) (blkOk_by (N := ["script", "hand", "one", "other", "found", "k", "handed", "kept", "j", "error"]) (sc := defScope sLaw) (by decide +kernel)) (fun _ _ _ _ _ => pg_name (i := 9) scL.nd rfl (Or.inl rfl)) (fun _ _ _ _ _ => pts_nil) (fun _ _ _ _ _ => pe_xak K rfl (pv 9))) pa_nil)) (pe_callB (call_repr gd hr.units) (by rfl) S.rep (by decide +kernel) (pa_cons (pe_op op_rep (pe_lst (pa_cons (pv 2) pa_nil)) pe_int) pa_nil)) (nomark _)) (pss_one (ps_ret pe_bl)) pss_nil)
      (pss_cons (ps_if (pt_cmpR (op_neD hr.units) (pe_lst (pa_cons (pe_xa (pe_ix ix_list (pv 4) pe_int (fun _ _ => rfl))) (pa_cons (pe_xa (pe_ix ix_list (pv 4) pe_int (fun _ _ => rfl))) pa_nil))) (pe_lst (pa_cons pe_str (pa_cons pe_str pa_nil))) (nomark _)) (pss_one (ps_ret pe_bl)) pss_nil)
      (pss_cons (ps_if (pt_cmpR op_ne (pe_callB (call_repr gd hr.units) (by rfl) S.rep (by decide +kernel) (pa_cons (pe_lst (pa_cons (pe_xa (pe_ix ix_list (pv 4) pe_int (fun _ _ => rfl))) (pa_cons (pe_xa (pe_ix ix_list (pv 4) pe_int (fun _ _ => rfl))) (pa_cons (pe_xa (pe_ix ix_list (pv 4) pe_int (fun _ _ => rfl))) (pa_cons (pe_xa (pe_ix ix_list (pv 4) pe_int (fun _ _ => rfl))) pa_nil))))) pa_nil)) (pe_callB (call_repr gd hr.units) (by rfl) S.rep (by decide +kernel) (pa_cons (pe_lst (pa_cons pe_str (pa_cons (pv 3) (pa_cons pe_str (pa_cons (pv 3) pa_nil))))) pa_nil)) (nomark _)) (pss_one (ps_ret pe_bl)) pss_nil)
      (pss_cons (ps_set (i := 6) scL.nd rfl (.inl rfl) (pe_lst (pa_cons pe_int pa_nil)))
      (pss_cons (ps_set (i := 7) scL.nd rfl (.inl rfl) (pe_lst (pa_cons (pe_c1 T.n0 (hr.mono (by decide)) (by rfl) (pa_cons (pv 6) pa_nil)) (pa_cons (pe_c1 T.n2 (hr.mono (by decide)) (by rfl) (pa_cons (pv 6) pa_nil)) (pa_cons (pe_c1 T.n3 (hr.mono (by decide)) (by rfl) (pa_cons (pv 6) pa_nil)) (pa_cons (pe_c1 T.n6 (hr.mono (by decide)) (by rfl) (pa_cons (pv 6) pa_nil)) pa_nil))))))
      (pss_cons (ps_expr (pe_bm PySem.F.plainAttrs_list PySem.F.slot_list_append PySem.F.type_list_append mt_append (pv 6) (pa_cons pe_int pa_nil)))
      (pss_one (ps_ret (pe_cmpR op_eq (pe_callB (call_repr gd hr.units) (by rfl) S.rep (by decide +kernel) (pa_cons (pe_lc (own := [("error", 9)]) (g := gName 9) (tt := tYes) rfl scL.nd (pi_list (pv 7)) (blkOk_by (N := ["script", "hand", "one", "other", "found", "k", "handed", "kept", "j", "error"]) (sc := defScope sLaw) (by decide +kernel)) (fun _ _ _ _ _ => pg_name (i := 9) scL.nd rfl (Or.inl rfl)) (fun _ _ _ _ _ => pts_nil) (fun _ _ _ _ _ => pe_xak K rfl (pv 9))) pa_nil)) (pe_callB (call_repr gd hr.units) (by rfl) S.rep (by decide +kernel) (pa_cons (pe_op op_rep (pe_lst (pa_cons (pe_lst (pa_cons pe_int (pa_cons pe_int pa_nil))) pa_nil)) pe_int) pa_nil)) (nomark _))))))))))))))), ?_⟩
    -- hand = [_law_draws(script, 20), 0]
    refine q_seq (q_set ?_)
    refine ⟨.ref a, rfl, a, ns, 20, rfl, hS, by omega, by decide, fun H1 p1 ds s1 np1 hp1 hl1 h01 => ⟨by show 2 ≤ sizeLine; decide, fun L nL => ?_⟩⟩
    have hd2 : Hd (upd H1 L (.lst [.ref p1, .int 0])) L := ⟨p1, ds, 0, upd_same, by rw [upd_ne (ne_of_none hp1 nL)]; exact hp1, ne_of_none hp1 nL, h01⟩
    dsimp only
    -- one, other
    refine q_seq (q_set ?_)
    refine ⟨.ref L, rfl, L, rfl, hd2, fun one d H3 kp3 hd3 dps sm => ?_⟩
    dsimp only
    refine q_seq (q_set ?_)
    refine ⟨.ref L, rfl, L, 90, rfl, hd3, by decide, fun r H4 r0 r1 k4 hd4 => ?_⟩
    have dps4 := dps.kp (fun b o n e => (k4 b n).trans e)
    dsimp only
    -- found
    refine q_seq (q_set ?_)
    refine ⟨one, rfl, .int r, rfl, .ref L, rfl, L, 2, rfl, hd4, by decide, fun r2 H5 r20 r21 k5 hd5 => ?_⟩
    have dp5 := (dps4.kp (fun b o n e => (k5 b n).trans e)).now
    refine ⟨rfl, one, .int r, _, rfl, fun p es H6 np6 s6 hp6 xs => ?_⟩
    have dp6 := Ek.Dp.same s6 dp5
    dsimp only
    have at13 : ∀ i, i < 13 → ∃ e fs, (es.map V.ref)[i]? = some (.ref e) ∧ XA H6 e (c i) fs := fun i hi => by
      obtain ⟨fs, hf⟩ := spec_at c one (.int r) i hi
      obtain ⟨e, he, xa⟩ := paired_get xs hf
      exact ⟨e, fs, by rw [List.getElem?_map, he]; rfl, xa⟩
    -- for k in range(13)
    refine q_seq ?_
    refine ⟨13, rfl, by decide, by decide, for_range (lo := 0) (n := 13) (fun _ σ H' => ∃ k : Option V, σ = [some (.ref a), some (.ref L), some one, some (.int r), some (.ref p), k, none, none, none, none] ∧ Same H6 H') ⟨none, rfl, Same.refl H6⟩ (fun i σ H7 hi hP => ?_) (fun σ H7 hP => ?_)⟩
    · obtain ⟨k, rfl, s7⟩ := hP
      obtain ⟨e, fs, he, xa⟩ := at13 i hi
      have xa7 := xa.mono s7
      refine q_seq (q_if ?_)
      refine ⟨.ref p, rfl, .int (0 + (i : Int)), rfl, p, _, _, _, rfl, rfl, sl (s7 _ _ hp6), at_z (Int.zero_add _) he, e, c i, fs, _, _, _, rfl, xa7, X.e i hi, .own pe, X.p i hi, true, rfl, ?_⟩
      refine ⟨.ref p, rfl, .int (0 + (i : Int)), rfl, p, _, _, _, rfl, rfl, sl (s7 _ _ hp6), at_z (Int.zero_add _) he, e, c i, fs, _, _, _, rfl, xa7, X.e i hi, .ty _, X.v i hi, true, rfl, ?_⟩
      dsimp only
      rw [if_neg (show ¬ (!true) = true by decide)]
      refine q_next ?_
      dsimp only
      refine q_if ?_
      refine ⟨.ref p, rfl, .int (0 + (i : Int)), rfl, p, _, _, _, rfl, rfl, sl (s7 _ _ hp6), at_z (Int.zero_add _) he, e, i, fs, rfl, hi, xa7, fun pk H8 s8 hk => ?_⟩
      refine ⟨13, rfl, by decide, by decide, fun D nD => lc_range (lo := 0) (n := 13) (fun j H' => Same H8 H' ∧ H' D = some (.lst ((List.range j).map fun x => .bl (decide (x = i))))) ⟨same_upd nD, upd_same⟩ (fun j H9 hj hP => ?_) (fun H9 hP => ?_)⟩
      · obtain ⟨s9, h9⟩ := hP
        refine ⟨rfl, .int (0 + (j : Int)), rfl, .int (0 + (i : Int)), rfl, rfl, _, h9, by rw [List.length_map, List.length_range]; exact small1000 (by omega), fun b o e => ?_, ?_⟩
        · rw [upd_ne (ne_of_none e nD)]
          exact s9 _ _ e
        · rw [upd_same, List.range_succ, List.map_append]
          have z : decide (V.int (0 + (j : Int)) = V.int (0 + (i : Int))) = decide (j = i) := by
            rw [Bool.eq_iff_iff, decide_eq_true_iff, decide_eq_true_iff]
            exact ⟨fun e => by have z := V.int.inj e; omega, fun e => by rw [e]⟩
          show some (HO.lst (_ ++ [V.bl (decide (V.int (0 + (j : Int)) = V.int (0 + (i : Int))))])) = _
          rw [z]
          rfl
      · obtain ⟨s9, h9⟩ := hP
        have da : ∀ (l : List Nat) (H' : Hp), DpAll K H' (l.map fun x => V.bl (decide (x = i))) (l.map fun x => PyData.bool (decide (x = i))) := fun l H' => by
          induction l with
          | nil => exact .nil
          | cons x l ih => exact .cons (.bl _) ih
        refine ⟨.list ((List.range 13).map fun x => .bool (decide (x = i))), .list ((List.range 13).map fun x => .bool (decide (x = i))), .lst (sl (s9 _ _ hk)) (da _ _), .lst (sl h9) (da _ _), rfl, rfl, _, rfl, ?_⟩
        rw [SeqAt.eqv_refl _ rfl]
        dsimp only
        rw [if_neg (show ¬ (!true) = true by decide)]
        refine q_next ?_
        exact ⟨_, rfl, s7.trans (s8.trans s9)⟩
    · obtain ⟨k, rfl, s7⟩ := hP
      obtain ⟨e0, e1, e2, e3, e4, e5, e6, e7, e8, e9, e10, e11, e12, rfl, x0, x1, x2, x3, x4, x5, x6, x7, x8, x9, x10, x11, x12⟩ := made13 xs
      have hp7 := s7 _ _ hp6
      have dp7 := Ek.Dp.same s7 dp6
      have at9 : ∀ i, i < 9 → ∃ e, ([.ref e0, .ref e1, .ref e2, .ref e3, .ref e4, .ref e5, .ref e6, .ref e7, .ref e8] : List V)[i]? = some (.ref e) ∧ XA H6 e (c i) [("value", one)]
        | 0, _ => ⟨e0, rfl, x0⟩ | 1, _ => ⟨e1, rfl, x1⟩ | 2, _ => ⟨e2, rfl, x2⟩ | 3, _ => ⟨e3, rfl, x3⟩ | 4, _ => ⟨e4, rfl, x4⟩ | 5, _ => ⟨e5, rfl, x5⟩ | 6, _ => ⟨e6, rfl, x6⟩ | 7, _ => ⟨e7, rfl, x7⟩ | 8, _ => ⟨e8, rfl, x8⟩
        | n + 9, h => absurd h (by omega)
      have ok9 : Okd (.list (List.replicate 9 d)) := (Sm.list (n := 40) (k := 2) (ds := List.replicate 9 d) fun x hx => by rw [List.eq_of_mem_replicate hx]; exact sm).okd (by simp) (by decide)
      dsimp only
      -- repr([error.value for error in found[:9]]) != repr([one] * 9)
      refine q_seq (q_if ?_)
      refine ⟨.ref p, rfl, 9, rfl, p, _, rfl, sl hp7, fun pS nS => ?_⟩
      refine ⟨pS, rfl, ⟨_, sl upd_same⟩, fun D nD => lc_list (K := K) (a := pS) (xs := [.ref e0, .ref e1, .ref e2, .ref e3, .ref e4, .ref e5, .ref e6, .ref e7, .ref e8]) (fun i H' => Same (upd H7 pS (.lst [.ref e0, .ref e1, .ref e2, .ref e3, .ref e4, .ref e5, .ref e6, .ref e7, .ref e8])) H' ∧ H' D = some (.lst (List.replicate i one)))
        ⟨same_upd nD, upd_same⟩ (fun i H' _ hP => sl (hP.1 _ _ upd_same)) (fun i x H8 hx hP => ?_) (fun H8 hP => ?_)⟩
      · obtain ⟨s8, h8⟩ := hP
        have hi : i < 9 := (List.getElem?_eq_some_iff.mp hx).1
        obtain ⟨e, he, xa⟩ := at9 i hi
        obtain rfl : x = .ref e := Option.some.inj (hx.symm.trans he)
        obtain ⟨xf, no⟩ := val9 T i hi
        refine ⟨rfl, .ref e, rfl, e, c i, _, one, rfl, xf, no, (xa.mono s7).mono ((same_upd nS).trans s8), lk1, _, h8, by rw [List.length_replicate]; exact small1000 (by omega), fun b o z => ?_, ?_⟩
        · rw [upd_ne (ne_of_none z nD)]
          exact s8 _ _ z
        · rw [upd_same, List.replicate_succ']
      · obtain ⟨s8, h8⟩ := hP
        have s78 := (same_upd nS).trans s8
        have dp8 := Ek.Dp.same s78 dp7
        refine ⟨.ref D, .list (List.replicate 9 d), rfl, .lst (sl h8) (Ek.DpAll.rep dp8 9), rfl, ok9, ?_⟩
        refine ⟨one, rfl, by show 1 ≤ sizeLine; decide, fun l nl => ⟨l, 9, _, rfl, rfl, upd_same, by decide, by decide, by show 9 ≤ sizeLine; decide, fun p2 np2 => ?_⟩⟩
        have s82 := (same_upd (o := .lst [one]) nl).trans (same_upd (o := .lst (List.replicate (9 : Int).toNat [one]).flatten) np2)
        refine ⟨.ref p2, .list (List.replicate 9 d), rfl, .lst (sl upd_same) (Ek.DpAll.rep (Ek.Dp.same s82 dp8) 9), rfl, ok9, rfl, _, rfl, ?_⟩
        rw [decide_eq_true rfl]
        dsimp only
        rw [if_neg (show ¬ (!true) = true by decide)]
        refine q_next ?_
        dsimp only
        have s9 := s7.trans (s78.trans s82)
        clear s82
        generalize upd (upd H8 l (HO.lst [one])) p2 (HO.lst (List.replicate (9 : Int).toNat [one]).flatten) = H9 at s9 ⊢
        have hp9 := s9 _ _ hp6
        -- [found[9].what, found[10].word] != ['kind', 'redo']
        refine q_seq (q_if ?_)
        refine ⟨.ref p, rfl, p, _, 9, .ref e9, rfl, rfl, sl hp9, at_z (j := 9) rfl rfl, e9, c 9, _, .str "kind", rfl, T.n9.xf, T.n9.no, x9.mono s9, lk1, ?_⟩
        refine ⟨.ref p, rfl, p, _, 10, .ref e10, rfl, rfl, sl hp9, at_z (j := 10) rfl rfl, e10, c 10, _, .str "redo", rfl, T.n10.xf, T.n10.no, x10.mono s9, lk1, by show 2 ≤ sizeLine; decide, fun l1 nl1 => ⟨by show 2 ≤ sizeLine; decide, fun l2 nl2 => ?_⟩⟩
        refine ⟨.list [.str "kind", .str "redo"], .list [.str "kind", .str "redo"], .lst (sl (same_upd nl2 _ _ upd_same)) (.cons (.str _) (.cons (.str _) .nil)), .lst (sl upd_same) (.cons (.str _) (.cons (.str _) .nil)), by decide +kernel, by decide +kernel, _, rfl, ?_⟩
        rw [SeqAt.eqv_refl _ (by decide +kernel)]
        dsimp only
        rw [if_neg (show ¬ (!true) = true by decide)]
        refine q_next ?_
        dsimp only
        have s10 := s9.trans ((same_upd (o := .lst [.str "kind", .str "redo"]) nl1).trans (same_upd (o := .lst [.str "kind", .str "redo"]) nl2))
        generalize upd (upd H9 l1 (HO.lst [.str "kind", .str "redo"])) l2 (HO.lst [.str "kind", .str "redo"]) = H10 at s10 ⊢
        have hp10 := s10 _ _ hp6
        -- repr([found[11].part, ..]) != repr(['ties', other, 'ab', other])
        refine q_seq (q_if ?_)
        refine ⟨.ref p, rfl, p, _, 11, .ref e11, rfl, rfl, sl hp10, at_z (j := 11) rfl rfl, e11, c 11, _, .str "ties", rfl, T.n11.xf, T.n11.no, x11.mono s10, lk2 (by decide +kernel), ?_⟩
        refine ⟨.ref p, rfl, p, _, 11, .ref e11, rfl, rfl, sl hp10, at_z (j := 11) rfl rfl, e11, c 11, _, .int r, rfl, T.n11.xf, T.n11.no2, x11.mono s10, lk3, ?_⟩
        refine ⟨.ref p, rfl, p, _, 12, .ref e12, rfl, rfl, sl hp10, at_z (j := 12) rfl rfl, e12, c 12, _, .str "ab", rfl, T.n12.xf, T.n12.no, x12.mono s10, lk2 (by decide +kernel), ?_⟩
        refine ⟨.ref p, rfl, p, _, 12, .ref e12, rfl, rfl, sl hp10, at_z (j := 12) rfl rfl, e12, c 12, _, .int r, rfl, T.n12.xf, T.n12.no2, x12.mono s10, lk3, by show 4 ≤ sizeLine; decide, fun l3 nl3 => ?_⟩
        have smr : Sm 13 0 (.int r) := Sm.int (by omega)
        have sma : Sm 13 0 (.str "ab") := ⟨by decide +kernel, by decide +kernel, by decide +kernel, by decide +kernel⟩
        have smt : Sm 13 0 (.str "ties") := ⟨by decide +kernel, by decide +kernel, by decide +kernel, by decide +kernel⟩
        have ok4 : Okd (.list [.str "ties", .int r, .str "ab", .int r]) := (Sm.list (n := 13) (k := 0) (ds := [.str "ties", .int r, .str "ab", .int r]) fun x hx => by
          simp only [List.mem_cons, List.not_mem_nil, or_false] at hx
          rcases hx with rfl | rfl | rfl | rfl
          · exact smt
          · exact smr
          · exact sma
          · exact smr).okd (show 4 * 13 + 2 * 4 + 3 ≤ 1000000 by decide) (by decide)
        refine ⟨.ref l3, .list [.str "ties", .int r, .str "ab", .int r], rfl, .lst (sl upd_same) (.cons (.str _) (.cons (.int _) (.cons (.str _) (.cons (.int _) .nil)))), rfl, ok4, ?_⟩
        refine ⟨.int r, rfl, .int r, rfl, by show 4 ≤ sizeLine; decide, fun l4 nl4 => ⟨.ref l4, .list [.str "ties", .int r, .str "ab", .int r], rfl, .lst (sl upd_same) (.cons (.str _) (.cons (.int _) (.cons (.str _) (.cons (.int _) .nil)))), rfl, ok4, rfl, _, rfl, ?_⟩⟩
        rw [decide_eq_true rfl]
        dsimp only
        rw [if_neg (show ¬ (!true) = true by decide)]
        refine q_next ?_
        dsimp only
        generalize upd (upd H10 l3 (HO.lst [.str "ties", .int r, .str "ab", .int r])) l4 (HO.lst [.str "ties", .int r, .str "ab", .int r]) = H11
        -- handed = [0]; kept = [..]
        refine q_seq (q_set ?_)
        refine ⟨by show 1 ≤ sizeLine; decide, fun hn nhn => ?_⟩
        dsimp only
        refine q_seq (q_set ?_)
        refine st_list (evx_1 T.n0.o T.n0.no (evv_v (by rfl) evv_nil) (evx_1 T.n2.o T.n2.no (evv_v (by rfl) evv_nil) (evx_1 T.n3.o T.n3.no (evv_v (by rfl) evv_nil) (evx_1 T.n6.o T.n6.no (evv_v (by rfl) evv_nil) evx_nil)))) (show 4 ≤ 1000 by decide) fun L2 es2 H12 n12 s12 h12 p12 => ?_
        dsimp only
        have hh : H12 hn = some (.lst [.int 0]) := s12 _ _ upd_same
        -- handed.append(1)
        refine q_seq ?_
        refine ⟨.ref hn, rfl, .inl ⟨rfl, _, sl hh⟩, hn, _, _, rfl, rfl, hh, by show 1 < sizeLine; decide, ?_⟩
        dsimp only
        obtain ⟨g0, g1, g2, g3, rfl, y0, y1, y2, y3⟩ : ∃ g0 g1 g2 g3, es2 = [g0, g1, g2, g3] ∧ XA H12 g0 (c 0) [("value", .ref hn)] ∧ XA H12 g1 (c 2) [("value", .ref hn)] ∧ XA H12 g2 (c 3) [("value", .ref hn)] ∧ XA H12 g3 (c 6) [("value", .ref hn)] := by
          cases p12 with
          | cons y0 p12 => cases p12 with
            | cons y1 p12 => cases p12 with
              | cons y2 p12 => cases p12 with
                | cons y3 p12 =>
                  cases p12
                  exact ⟨_, _, _, _, rfl, y0, y1, y2, y3⟩
        have nL2 : L2 ≠ hn := fun z => by
          rw [z] at n12
          rw [upd_same] at n12
          cases n12
        have h13 : (upd H12 hn (.lst ([.int 0] ++ [.int 1]))) L2 = some (.lst [.ref g0, .ref g1, .ref g2, .ref g3]) := by
          rw [upd_ne nL2]
          exact h12
        have hh13 : (upd H12 hn (.lst ([.int 0] ++ [.int 1]))) hn = some (.lst [.int 0, .int 1]) := upd_same
        have z0 := XA_upd (b := hn) y0 (o := .lst ([.int 0] ++ [.int 1])) hh
        have z1 := XA_upd (b := hn) y1 (o := .lst ([.int 0] ++ [.int 1])) hh
        have z2 := XA_upd (b := hn) y2 (o := .lst ([.int 0] ++ [.int 1])) hh
        have z3 := XA_upd (b := hn) y3 (o := .lst ([.int 0] ++ [.int 1])) hh
        generalize upd H12 hn (HO.lst ([.int 0] ++ [.int 1])) = H13 at h13 hh13 z0 z1 z2 z3 ⊢
        have at4 : ∀ i, i < 4 → ∃ e C, ([.ref g0, .ref g1, .ref g2, .ref g3] : List V)[i]? = some (.ref e) ∧ XA H13 e C [("value", .ref hn)] ∧ XfC K C ∧ PySem.W.findIn K (.ref C) "value" = some none
          | 0, _ => ⟨g0, _, rfl, z0, T.n0.xf, T.n0.no⟩ | 1, _ => ⟨g1, _, rfl, z1, T.n2.xf, T.n2.no⟩ | 2, _ => ⟨g2, _, rfl, z2, T.n3.xf, T.n3.no⟩ | 3, _ => ⟨g3, _, rfl, z3, T.n6.xf, T.n6.no⟩
          | n + 4, h => absurd h (by omega)
        have sm1 : Sm 13 0 (.int 1) := Sm.int (by decide)
        have sm0 : Sm 13 0 (.int 0) := Sm.int (by decide)
        have ok2 : Okd (.list (List.replicate 4 (.list [.int 0, .int 1]))) := (Sm.list (n := 2 * 13 + 2 * 2 + 3) (k := 1) (ds := List.replicate 4 (.list [.int 0, .int 1])) fun x hx => by
          rw [List.eq_of_mem_replicate hx]
          exact Sm.list (n := 13) (k := 0) (ds := [.int 0, .int 1]) fun y hy => by
            simp only [List.mem_cons, List.not_mem_nil, or_false] at hy
            rcases hy with rfl | rfl
            · exact sm0
            · exact sm1).okd (by decide) (by decide)
        -- return repr([error.value for error in kept]) == repr([[0, 1]] * 4)
        refine q_ret ?_
        dsimp only
        refine ⟨.ref L2, rfl, L2, rfl, ⟨_, sl h13⟩, fun D nD => lc_list (K := K) (a := L2) (xs := [.ref g0, .ref g1, .ref g2, .ref g3]) (fun i H' => Same H13 H' ∧ H' D = some (.lst (List.replicate i (.ref hn))))
          ⟨same_upd nD, upd_same⟩ (fun i H' _ hP => sl (hP.1 _ _ h13)) (fun i x H14 hx hP => ?_) (fun H14 hP => ?_)⟩
        · obtain ⟨s14, h14⟩ := hP
          have hi : i < 4 := (List.getElem?_eq_some_iff.mp hx).1
          obtain ⟨e, C, he, xa, xf, no⟩ := at4 i hi
          obtain rfl : x = .ref e := Option.some.inj (hx.symm.trans he)
          refine ⟨rfl, .ref e, rfl, e, C, _, .ref hn, rfl, xf, no, xa.mono s14, lk1, _, h14, by rw [List.length_replicate]; exact small1000 (by omega), fun b o z => ?_, ?_⟩
          · rw [upd_ne (ne_of_none z nD)]
            exact s14 _ _ z
          · rw [upd_same, List.replicate_succ']
        · obtain ⟨s14, h14⟩ := hP
          have dph : ∀ {H' : Hp}, Same H13 H' → Dp K H' (.ref hn) (.list [.int 0, .int 1]) := fun {H'} s' => .lst (sl (s' _ _ hh13)) (.cons (.int _) (.cons (.int _) .nil))
          refine ⟨.ref D, .list (List.replicate 4 (.list [.int 0, .int 1])), rfl, .lst (sl h14) (Ek.DpAll.rep (dph s14) 4), rfl, ok2, ?_⟩
          refine ⟨by show 2 ≤ sizeLine; decide, fun l5 nl5 => ⟨by show 1 ≤ sizeLine; decide, fun l6 nl6 => ⟨l6, 4, _, rfl, rfl, upd_same, by decide, by decide, by show 4 ≤ sizeLine; decide, fun l7 nl7 => ?_⟩⟩⟩
          have e5 : ∀ o o', (upd (upd (upd H14 l5 (.lst [.int 0, .int 1])) l6 o) l7 o') l5 = some (.lst [.int 0, .int 1]) := fun o o' => by
            have n56 : l5 ≠ l6 := fun z => by
              rw [← z, upd_same] at nl6
              cases nl6
            have n57 : l5 ≠ l7 := fun z => by
              rw [← z, upd_ne n56, upd_same] at nl7
              cases nl7
            rw [upd_ne n57, upd_ne n56, upd_same]
          refine ⟨.ref l7, .list (List.replicate 4 (.list [.int 0, .int 1])), rfl, .lst (sl upd_same) (Ek.DpAll.rep (.lst (sl (e5 _ _)) (.cons (.int _) (.cons (.int _) .nil))) 4), rfl, ok2, rfl, ?_⟩
          rw [decide_eq_true rfl]
          exact q _
end
end C1

namespace C1
open PySem PySem.Spec PyProof.Rows L2 Ek
def cAt (l : List Addr) (i : Nat) : Addr := l.getD i 0
abbrev VE : List Value := [.type "ValueError", .type "Exception", .type "BaseException", .type "object"]
section
variable {K : PySem.W.Frag} {C D pe : Addr} {nm q : Str} {N : Addr} {bs : List Value} {sn : List Str} {su : List Value} {ab : Bool} {co : Option Bool} {dd : Option Addr} {k0 k1 k2 k3 k5 : Option Value}
theorem cls_of (h : K.lookup C = some (excClassObj nm q C N bs (.ref pe :: VE) true sn su ab co dd k0 k1 k2 k3 k5 "ValueError.__new__")) : PySem.W.clsIn K C = some { name := nm, bases := bs, mro := .ref C :: .ref pe :: VE, ns := N, qualname := q, hasDict := true, slotNames := sn, subclasses := su, abstract := ab, collection := co, hasDel := false } := by
  unfold PySem.W.clsIn
  rw [h] <;> rfl
theorem mro_of (h : K.lookup C = some (excClassObj nm q C N bs (.ref pe :: VE) true sn su ab co dd k0 k1 k2 k3 k5 "ValueError.__new__")) (b : Value) : PySem.W.mroIn K C b = some ((.ref C :: .ref pe :: VE : List Value).contains b) := by
  unfold PySem.W.mroIn
  rw [cls_of h] <;> rfl
theorem exc_of (h : K.lookup C = some (excClassObj nm q C N bs (.ref pe :: VE) true sn su ab co dd k0 k1 k2 k3 k5 "ValueError.__new__")) : PySem.W.subIn K (.ref C) (.type "BaseException") = some true := by
  show PySem.W.mroIn K C _ = _
  rw [mro_of h]
  rfl
theorem hd_of (h : K.lookup C = some (excClassObj nm q C N bs (.ref pe :: VE) true sn su ab co dd k0 k1 k2 k3 k5 "ValueError.__new__")) : PySem.W.hasDictIn K C = true := by
  unfold PySem.W.hasDictIn
  rw [cls_of h] <;> rfl
theorem kit_of' (h : K.lookup C = some (excClassObj nm q C N bs (.ref pe :: VE) true sn su ab co dd k0 k1 k2 k3 k5 "ValueError.__new__")) (hD : (PySem.W.clsIn K D).isSome = true) (tD : PySem.W.typeIn K (.ref D) = some (.type "type")) (hp : D ≠ pe) {b : Bool} (hb : b = decide (C = D)) :
    PySem.W.kitOne K (.ref C) (.ref D) = some b := by
  subst hb
  by_cases e : C = D
  · subst e
    unfold PySem.W.kitOne
    rw [if_pos (by simp), decide_eq_true rfl]
  · unfold PySem.W.kitOne
    rw [if_neg (by simpa using e)]
    show (if ((PySem.W.clsIn K D).isSome && PySem.W.typeIn K (.ref D) == some (.type "type")) = true then PySem.W.subIn K (.ref C) (.ref D) else none) = _
    rw [if_pos (by rw [hD, tD]; rfl)]
    show PySem.W.mroIn K C _ = _
    rw [mro_of h, decide_eq_false e]
    simp [List.contains_cons, hp, Ne.symm e, e]
theorem kit_pe (h : K.lookup C = some (excClassObj nm q C N bs (.ref pe :: VE) true sn su ab co dd k0 k1 k2 k3 k5 "ValueError.__new__")) (hD : (PySem.W.clsIn K pe).isSome = true) (tD : PySem.W.typeIn K (.ref pe) = some (.type "type")) (e : C ≠ pe) : PySem.W.kitOne K (.ref C) (.ref pe) = some true := by
  unfold PySem.W.kitOne
  rw [if_neg (by simpa using e)]
  show (if ((PySem.W.clsIn K pe).isSome && PySem.W.typeIn K (.ref pe) == some (.type "type")) = true then PySem.W.subIn K (.ref C) (.ref pe) else none) = _
  rw [if_pos (by rw [hD, tD]; rfl)]
  show PySem.W.mroIn K C _ = _
  rw [mro_of h]
  simp [List.contains_cons]
theorem kit_ve (h : K.lookup C = some (excClassObj nm q C N bs (.ref pe :: VE) true sn su ab co dd k0 k1 k2 k3 k5 "ValueError.__new__")) : PySem.W.kitOne K (.ref C) (.type "ValueError") = some true := by
  unfold PySem.W.kitOne
  rw [if_neg (by simp)]
  show (if PySem.W.kitMeta "ValueError" = true then PySem.W.subIn K (.ref C) (.type "ValueError") else none) = _
  rw [if_pos (by decide +kernel)]
  show PySem.W.mroIn K C _ = _
  rw [mro_of h]
  rfl
end

theorem all_mk {l : PySem.W.OpenLaw} {w : World} {K : PySem.W.Frag} {h : Heap} {mg : Str → Option Value} {fa pe c0 c1 c2 c3 c4 c5 c6 c7 c8 c9 c10 c11 c12 f0 f1 f2 f3 f4 f5 f6 f7 f8 f9 f10 f11 f12 fXDraws fXTake fXOdd fXMade fXKinds fXLaw : Addr} (X : K.In h) (G : h.Ns mainGlobals mg) (hfa : mg "law" = some (.ref fa))
    {nm0 q0 : Str} {N0 : Addr} {bs0 : List Value} {sn0 : List Str} {su0 : List Value} {ab0 : Bool} {co0 : Option Bool} {dd0 : Option Addr} {ka0 kb0 kc0 kd0 ke0 : Option Value} {od0 an0 : Option Addr} {sl0 : Array (Option Value)} {oc0 kV0 dc0 pm0 cd0 ct0 : Value}
    {nm1 q1 : Str} {N1 : Addr} {bs1 : List Value} {sn1 : List Str} {su1 : List Value} {ab1 : Bool} {co1 : Option Bool} {dd1 : Option Addr} {ka1 kb1 kc1 kd1 ke1 : Option Value} {od1 an1 : Option Addr} {sl1 : Array (Option Value)} {oc1 kV1 dc1 pm1 cd1 ct1 : Value}
    {nm2 q2 : Str} {N2 : Addr} {bs2 : List Value} {sn2 : List Str} {su2 : List Value} {ab2 : Bool} {co2 : Option Bool} {dd2 : Option Addr} {ka2 kb2 kc2 kd2 ke2 : Option Value} {od2 an2 : Option Addr} {sl2 : Array (Option Value)} {oc2 kV2 dc2 pm2 cd2 ct2 : Value}
    {nm3 q3 : Str} {N3 : Addr} {bs3 : List Value} {sn3 : List Str} {su3 : List Value} {ab3 : Bool} {co3 : Option Bool} {dd3 : Option Addr} {ka3 kb3 kc3 kd3 ke3 : Option Value} {od3 an3 : Option Addr} {sl3 : Array (Option Value)} {oc3 kV3 dc3 pm3 cd3 ct3 : Value}
    {nm4 q4 : Str} {N4 : Addr} {bs4 : List Value} {sn4 : List Str} {su4 : List Value} {ab4 : Bool} {co4 : Option Bool} {dd4 : Option Addr} {ka4 kb4 kc4 kd4 ke4 : Option Value} {od4 an4 : Option Addr} {sl4 : Array (Option Value)} {oc4 kV4 dc4 pm4 cd4 ct4 : Value}
    {nm5 q5 : Str} {N5 : Addr} {bs5 : List Value} {sn5 : List Str} {su5 : List Value} {ab5 : Bool} {co5 : Option Bool} {dd5 : Option Addr} {ka5 kb5 kc5 kd5 ke5 : Option Value} {od5 an5 : Option Addr} {sl5 : Array (Option Value)} {oc5 kV5 dc5 pm5 cd5 ct5 : Value}
    {nm6 q6 : Str} {N6 : Addr} {bs6 : List Value} {sn6 : List Str} {su6 : List Value} {ab6 : Bool} {co6 : Option Bool} {dd6 : Option Addr} {ka6 kb6 kc6 kd6 ke6 : Option Value} {od6 an6 : Option Addr} {sl6 : Array (Option Value)} {oc6 kV6 dc6 pm6 cd6 ct6 : Value}
    {nm7 q7 : Str} {N7 : Addr} {bs7 : List Value} {sn7 : List Str} {su7 : List Value} {ab7 : Bool} {co7 : Option Bool} {dd7 : Option Addr} {ka7 kb7 kc7 kd7 ke7 : Option Value} {od7 an7 : Option Addr} {sl7 : Array (Option Value)} {oc7 kV7 dc7 pm7 cd7 ct7 : Value}
    {nm8 q8 : Str} {N8 : Addr} {bs8 : List Value} {sn8 : List Str} {su8 : List Value} {ab8 : Bool} {co8 : Option Bool} {dd8 : Option Addr} {ka8 kb8 kc8 kd8 ke8 : Option Value} {od8 an8 : Option Addr} {sl8 : Array (Option Value)} {oc8 kV8 dc8 pm8 cd8 ct8 : Value}
    {nm9 q9 : Str} {N9 : Addr} {bs9 : List Value} {sn9 : List Str} {su9 : List Value} {ab9 : Bool} {co9 : Option Bool} {dd9 : Option Addr} {ka9 kb9 kc9 kd9 ke9 : Option Value} {od9 an9 : Option Addr} {sl9 : Array (Option Value)} {oc9 kV9 dc9 pm9 cd9 ct9 : Value}
    {nm10 q10 : Str} {N10 : Addr} {bs10 : List Value} {sn10 : List Str} {su10 : List Value} {ab10 : Bool} {co10 : Option Bool} {dd10 : Option Addr} {ka10 kb10 kc10 kd10 ke10 : Option Value} {od10 an10 : Option Addr} {sl10 : Array (Option Value)} {oc10 kV10 dc10 pm10 cd10 ct10 : Value}
    {nm11 q11 : Str} {N11 : Addr} {bs11 : List Value} {sn11 : List Str} {su11 : List Value} {ab11 : Bool} {co11 : Option Bool} {dd11 : Option Addr} {ka11 kb11 kc11 kd11 ke11 : Option Value} {od11 an11 : Option Addr} {sl11 : Array (Option Value)} {oc11 kV11 dc11 pm11 cd11 ct11 : Value}
    {nm12 q12 : Str} {N12 : Addr} {bs12 : List Value} {sn12 : List Str} {su12 : List Value} {ab12 : Bool} {co12 : Option Bool} {dd12 : Option Addr} {ka12 kb12 kc12 kd12 ke12 : Option Value} {od12 an12 : Option Addr} {sl12 : Array (Option Value)} {oc12 kV12 dc12 pm12 cd12 ct12 : Value}
    {odXDraws anXDraws : Option Addr} {slXDraws : Array (Option Value)} {ocXDraws kVXDraws dcXDraws pmXDraws cdXDraws ctXDraws : Value}
    {odXTake anXTake : Option Addr} {slXTake : Array (Option Value)} {ocXTake kVXTake dcXTake pmXTake cdXTake ctXTake : Value}
    {odXOdd anXOdd : Option Addr} {slXOdd : Array (Option Value)} {ocXOdd kVXOdd dcXOdd pmXOdd cdXOdd ctXOdd : Value}
    {odXMade anXMade : Option Addr} {slXMade : Array (Option Value)} {ocXMade kVXMade dcXMade pmXMade cdXMade ctXMade : Value}
    {odXKinds anXKinds : Option Addr} {slXKinds : Array (Option Value)} {ocXKinds kVXKinds dcXKinds pmXKinds cdXKinds ctXKinds : Value}
    {odXLaw anXLaw : Option Addr} {slXLaw : Array (Option Value)} {ocXLaw kVXLaw dcXLaw pmXLaw cdXLaw ctXLaw : Value}
    (a0 : PySem.W.nsIn K mainGlobals "InvalidNumber" = some (some (.ref c0)))
    (xL0 : K.lookup c0 = some (excClassObj nm0 q0 c0 N0 bs0 (.ref pe :: VE) true sn0 su0 ab0 co0 dd0 ka0 kb0 kc0 kd0 ke0 "ValueError.__new__"))
    (sa0 : PySem.W.findIn K (.ref c0) "__setattr__" = some (some (.builtin "object.__setattr__")))
    (ga0 : PySem.W.findIn K (.ref c0) "__getattribute__" = some (some (.builtin "BaseException.__getattribute__")))
    (gg0 : PySem.W.findIn K (.ref c0) "__getattr__" = some none)
    (ca0 : PySem.W.findIn K (.ref c0) "__class__" = some (some (.builtin "object.__class__")))
    (ty0 : PySem.W.typeIn K (.ref c0) = some (.type "type"))
    (kp0 : PySem.W.keepIn K (.ref c0) = true)
    (no0a : PySem.W.findIn K (.ref c0) "value" = some none)
    (in0 : PySem.W.findIn K (.ref c0) "__init__" = some (some (.ref f0)))
    (it0 : PySem.W.typeIn K (.ref f0) = some (.type "function"))
    (l0 : K.lookup f0 = some ⟨oc0, od0, .func (PySem.W.fnOf "__init__" "InvalidNumber.__init__" (defArgs iInvalidNumber) (defBody iInvalidNumber) (defScope iInvalidNumber) .none kV0 dc0 pm0 an0 cd0 ct0), sl0⟩)
    (cc0 : PySem.W.codeIn K cd0 "InvalidNumber.__init__" = true)
    (kf0 : PySem.W.keepIn K (.ref f0) = true)
    (a1 : PySem.W.nsIn K mainGlobals "InvalidPrice" = some (some (.ref c1)))
    (xL1 : K.lookup c1 = some (excClassObj nm1 q1 c1 N1 bs1 (.ref pe :: VE) true sn1 su1 ab1 co1 dd1 ka1 kb1 kc1 kd1 ke1 "ValueError.__new__"))
    (sa1 : PySem.W.findIn K (.ref c1) "__setattr__" = some (some (.builtin "object.__setattr__")))
    (ga1 : PySem.W.findIn K (.ref c1) "__getattribute__" = some (some (.builtin "BaseException.__getattribute__")))
    (gg1 : PySem.W.findIn K (.ref c1) "__getattr__" = some none)
    (ca1 : PySem.W.findIn K (.ref c1) "__class__" = some (some (.builtin "object.__class__")))
    (ty1 : PySem.W.typeIn K (.ref c1) = some (.type "type"))
    (kp1 : PySem.W.keepIn K (.ref c1) = true)
    (no1a : PySem.W.findIn K (.ref c1) "value" = some none)
    (in1 : PySem.W.findIn K (.ref c1) "__init__" = some (some (.ref f1)))
    (it1 : PySem.W.typeIn K (.ref f1) = some (.type "function"))
    (l1 : K.lookup f1 = some ⟨oc1, od1, .func (PySem.W.fnOf "__init__" "InvalidPrice.__init__" (defArgs iInvalidPrice) (defBody iInvalidPrice) (defScope iInvalidPrice) .none kV1 dc1 pm1 an1 cd1 ct1), sl1⟩)
    (cc1 : PySem.W.codeIn K cd1 "InvalidPrice.__init__" = true)
    (kf1 : PySem.W.keepIn K (.ref f1) = true)
    (a2 : PySem.W.nsIn K mainGlobals "InvalidBook" = some (some (.ref c2)))
    (xL2 : K.lookup c2 = some (excClassObj nm2 q2 c2 N2 bs2 (.ref pe :: VE) true sn2 su2 ab2 co2 dd2 ka2 kb2 kc2 kd2 ke2 "ValueError.__new__"))
    (sa2 : PySem.W.findIn K (.ref c2) "__setattr__" = some (some (.builtin "object.__setattr__")))
    (ga2 : PySem.W.findIn K (.ref c2) "__getattribute__" = some (some (.builtin "BaseException.__getattribute__")))
    (gg2 : PySem.W.findIn K (.ref c2) "__getattr__" = some none)
    (ca2 : PySem.W.findIn K (.ref c2) "__class__" = some (some (.builtin "object.__class__")))
    (ty2 : PySem.W.typeIn K (.ref c2) = some (.type "type"))
    (kp2 : PySem.W.keepIn K (.ref c2) = true)
    (no2a : PySem.W.findIn K (.ref c2) "value" = some none)
    (in2 : PySem.W.findIn K (.ref c2) "__init__" = some (some (.ref f2)))
    (it2 : PySem.W.typeIn K (.ref f2) = some (.type "function"))
    (l2 : K.lookup f2 = some ⟨oc2, od2, .func (PySem.W.fnOf "__init__" "InvalidBook.__init__" (defArgs iInvalidBook) (defBody iInvalidBook) (defScope iInvalidBook) .none kV2 dc2 pm2 an2 cd2 ct2), sl2⟩)
    (cc2 : PySem.W.codeIn K cd2 "InvalidBook.__init__" = true)
    (kf2 : PySem.W.keepIn K (.ref f2) = true)
    (a3 : PySem.W.nsIn K mainGlobals "InvalidStart" = some (some (.ref c3)))
    (xL3 : K.lookup c3 = some (excClassObj nm3 q3 c3 N3 bs3 (.ref pe :: VE) true sn3 su3 ab3 co3 dd3 ka3 kb3 kc3 kd3 ke3 "ValueError.__new__"))
    (sa3 : PySem.W.findIn K (.ref c3) "__setattr__" = some (some (.builtin "object.__setattr__")))
    (ga3 : PySem.W.findIn K (.ref c3) "__getattribute__" = some (some (.builtin "BaseException.__getattribute__")))
    (gg3 : PySem.W.findIn K (.ref c3) "__getattr__" = some none)
    (ca3 : PySem.W.findIn K (.ref c3) "__class__" = some (some (.builtin "object.__class__")))
    (ty3 : PySem.W.typeIn K (.ref c3) = some (.type "type"))
    (kp3 : PySem.W.keepIn K (.ref c3) = true)
    (no3a : PySem.W.findIn K (.ref c3) "value" = some none)
    (in3 : PySem.W.findIn K (.ref c3) "__init__" = some (some (.ref f3)))
    (it3 : PySem.W.typeIn K (.ref f3) = some (.type "function"))
    (l3 : K.lookup f3 = some ⟨oc3, od3, .func (PySem.W.fnOf "__init__" "InvalidStart.__init__" (defArgs iInvalidStart) (defBody iInvalidStart) (defScope iInvalidStart) .none kV3 dc3 pm3 an3 cd3 ct3), sl3⟩)
    (cc3 : PySem.W.codeIn K cd3 "InvalidStart.__init__" = true)
    (kf3 : PySem.W.keepIn K (.ref f3) = true)
    (a4 : PySem.W.nsIn K mainGlobals "InvalidFilling" = some (some (.ref c4)))
    (xL4 : K.lookup c4 = some (excClassObj nm4 q4 c4 N4 bs4 (.ref pe :: VE) true sn4 su4 ab4 co4 dd4 ka4 kb4 kc4 kd4 ke4 "ValueError.__new__"))
    (sa4 : PySem.W.findIn K (.ref c4) "__setattr__" = some (some (.builtin "object.__setattr__")))
    (ga4 : PySem.W.findIn K (.ref c4) "__getattribute__" = some (some (.builtin "BaseException.__getattribute__")))
    (gg4 : PySem.W.findIn K (.ref c4) "__getattr__" = some none)
    (ca4 : PySem.W.findIn K (.ref c4) "__class__" = some (some (.builtin "object.__class__")))
    (ty4 : PySem.W.typeIn K (.ref c4) = some (.type "type"))
    (kp4 : PySem.W.keepIn K (.ref c4) = true)
    (no4a : PySem.W.findIn K (.ref c4) "value" = some none)
    (in4 : PySem.W.findIn K (.ref c4) "__init__" = some (some (.ref f4)))
    (it4 : PySem.W.typeIn K (.ref f4) = some (.type "function"))
    (l4 : K.lookup f4 = some ⟨oc4, od4, .func (PySem.W.fnOf "__init__" "InvalidFilling.__init__" (defArgs iInvalidFilling) (defBody iInvalidFilling) (defScope iInvalidFilling) .none kV4 dc4 pm4 an4 cd4 ct4), sl4⟩)
    (cc4 : PySem.W.codeIn K cd4 "InvalidFilling.__init__" = true)
    (kf4 : PySem.W.keepIn K (.ref f4) = true)
    (a5 : PySem.W.nsIn K mainGlobals "InvalidSum" = some (some (.ref c5)))
    (xL5 : K.lookup c5 = some (excClassObj nm5 q5 c5 N5 bs5 (.ref pe :: VE) true sn5 su5 ab5 co5 dd5 ka5 kb5 kc5 kd5 ke5 "ValueError.__new__"))
    (sa5 : PySem.W.findIn K (.ref c5) "__setattr__" = some (some (.builtin "object.__setattr__")))
    (ga5 : PySem.W.findIn K (.ref c5) "__getattribute__" = some (some (.builtin "BaseException.__getattribute__")))
    (gg5 : PySem.W.findIn K (.ref c5) "__getattr__" = some none)
    (ca5 : PySem.W.findIn K (.ref c5) "__class__" = some (some (.builtin "object.__class__")))
    (ty5 : PySem.W.typeIn K (.ref c5) = some (.type "type"))
    (kp5 : PySem.W.keepIn K (.ref c5) = true)
    (no5a : PySem.W.findIn K (.ref c5) "value" = some none)
    (in5 : PySem.W.findIn K (.ref c5) "__init__" = some (some (.ref f5)))
    (it5 : PySem.W.typeIn K (.ref f5) = some (.type "function"))
    (l5 : K.lookup f5 = some ⟨oc5, od5, .func (PySem.W.fnOf "__init__" "InvalidSum.__init__" (defArgs iInvalidSum) (defBody iInvalidSum) (defScope iInvalidSum) .none kV5 dc5 pm5 an5 cd5 ct5), sl5⟩)
    (cc5 : PySem.W.codeIn K cd5 "InvalidSum.__init__" = true)
    (kf5 : PySem.W.keepIn K (.ref f5) = true)
    (a6 : PySem.W.nsIn K mainGlobals "InvalidCells" = some (some (.ref c6)))
    (xL6 : K.lookup c6 = some (excClassObj nm6 q6 c6 N6 bs6 (.ref pe :: VE) true sn6 su6 ab6 co6 dd6 ka6 kb6 kc6 kd6 ke6 "ValueError.__new__"))
    (sa6 : PySem.W.findIn K (.ref c6) "__setattr__" = some (some (.builtin "object.__setattr__")))
    (ga6 : PySem.W.findIn K (.ref c6) "__getattribute__" = some (some (.builtin "BaseException.__getattribute__")))
    (gg6 : PySem.W.findIn K (.ref c6) "__getattr__" = some none)
    (ca6 : PySem.W.findIn K (.ref c6) "__class__" = some (some (.builtin "object.__class__")))
    (ty6 : PySem.W.typeIn K (.ref c6) = some (.type "type"))
    (kp6 : PySem.W.keepIn K (.ref c6) = true)
    (no6a : PySem.W.findIn K (.ref c6) "value" = some none)
    (in6 : PySem.W.findIn K (.ref c6) "__init__" = some (some (.ref f6)))
    (it6 : PySem.W.typeIn K (.ref f6) = some (.type "function"))
    (l6 : K.lookup f6 = some ⟨oc6, od6, .func (PySem.W.fnOf "__init__" "InvalidCells.__init__" (defArgs iInvalidCells) (defBody iInvalidCells) (defScope iInvalidCells) .none kV6 dc6 pm6 an6 cd6 ct6), sl6⟩)
    (cc6 : PySem.W.codeIn K cd6 "InvalidCells.__init__" = true)
    (kf6 : PySem.W.keepIn K (.ref f6) = true)
    (a7 : PySem.W.nsIn K mainGlobals "InvalidMove" = some (some (.ref c7)))
    (xL7 : K.lookup c7 = some (excClassObj nm7 q7 c7 N7 bs7 (.ref pe :: VE) true sn7 su7 ab7 co7 dd7 ka7 kb7 kc7 kd7 ke7 "ValueError.__new__"))
    (sa7 : PySem.W.findIn K (.ref c7) "__setattr__" = some (some (.builtin "object.__setattr__")))
    (ga7 : PySem.W.findIn K (.ref c7) "__getattribute__" = some (some (.builtin "BaseException.__getattribute__")))
    (gg7 : PySem.W.findIn K (.ref c7) "__getattr__" = some none)
    (ca7 : PySem.W.findIn K (.ref c7) "__class__" = some (some (.builtin "object.__class__")))
    (ty7 : PySem.W.typeIn K (.ref c7) = some (.type "type"))
    (kp7 : PySem.W.keepIn K (.ref c7) = true)
    (no7a : PySem.W.findIn K (.ref c7) "value" = some none)
    (in7 : PySem.W.findIn K (.ref c7) "__init__" = some (some (.ref f7)))
    (it7 : PySem.W.typeIn K (.ref f7) = some (.type "function"))
    (l7 : K.lookup f7 = some ⟨oc7, od7, .func (PySem.W.fnOf "__init__" "InvalidMove.__init__" (defArgs iInvalidMove) (defBody iInvalidMove) (defScope iInvalidMove) .none kV7 dc7 pm7 an7 cd7 ct7), sl7⟩)
    (cc7 : PySem.W.codeIn K cd7 "InvalidMove.__init__" = true)
    (kf7 : PySem.W.keepIn K (.ref f7) = true)
    (a8 : PySem.W.nsIn K mainGlobals "InvalidQuestion" = some (some (.ref c8)))
    (xL8 : K.lookup c8 = some (excClassObj nm8 q8 c8 N8 bs8 (.ref pe :: VE) true sn8 su8 ab8 co8 dd8 ka8 kb8 kc8 kd8 ke8 "ValueError.__new__"))
    (sa8 : PySem.W.findIn K (.ref c8) "__setattr__" = some (some (.builtin "object.__setattr__")))
    (ga8 : PySem.W.findIn K (.ref c8) "__getattribute__" = some (some (.builtin "BaseException.__getattribute__")))
    (gg8 : PySem.W.findIn K (.ref c8) "__getattr__" = some none)
    (ca8 : PySem.W.findIn K (.ref c8) "__class__" = some (some (.builtin "object.__class__")))
    (ty8 : PySem.W.typeIn K (.ref c8) = some (.type "type"))
    (kp8 : PySem.W.keepIn K (.ref c8) = true)
    (no8a : PySem.W.findIn K (.ref c8) "value" = some none)
    (in8 : PySem.W.findIn K (.ref c8) "__init__" = some (some (.ref f8)))
    (it8 : PySem.W.typeIn K (.ref f8) = some (.type "function"))
    (l8 : K.lookup f8 = some ⟨oc8, od8, .func (PySem.W.fnOf "__init__" "InvalidQuestion.__init__" (defArgs iInvalidQuestion) (defBody iInvalidQuestion) (defScope iInvalidQuestion) .none kV8 dc8 pm8 an8 cd8 ct8), sl8⟩)
    (cc8 : PySem.W.codeIn K cd8 "InvalidQuestion.__init__" = true)
    (kf8 : PySem.W.keepIn K (.ref f8) = true)
    (a9 : PySem.W.nsIn K mainGlobals "Undefined" = some (some (.ref c9)))
    (xL9 : K.lookup c9 = some (excClassObj nm9 q9 c9 N9 bs9 (.ref pe :: VE) true sn9 su9 ab9 co9 dd9 ka9 kb9 kc9 kd9 ke9 "ValueError.__new__"))
    (sa9 : PySem.W.findIn K (.ref c9) "__setattr__" = some (some (.builtin "object.__setattr__")))
    (ga9 : PySem.W.findIn K (.ref c9) "__getattribute__" = some (some (.builtin "BaseException.__getattribute__")))
    (gg9 : PySem.W.findIn K (.ref c9) "__getattr__" = some none)
    (ca9 : PySem.W.findIn K (.ref c9) "__class__" = some (some (.builtin "object.__class__")))
    (ty9 : PySem.W.typeIn K (.ref c9) = some (.type "type"))
    (kp9 : PySem.W.keepIn K (.ref c9) = true)
    (no9a : PySem.W.findIn K (.ref c9) "what" = some none)
    (in9 : PySem.W.findIn K (.ref c9) "__init__" = some (some (.ref f9)))
    (it9 : PySem.W.typeIn K (.ref f9) = some (.type "function"))
    (l9 : K.lookup f9 = some ⟨oc9, od9, .func (PySem.W.fnOf "__init__" "Undefined.__init__" (defArgs iUndefined) (defBody iUndefined) (defScope iUndefined) .none kV9 dc9 pm9 an9 cd9 ct9), sl9⟩)
    (cc9 : PySem.W.codeIn K cd9 "Undefined.__init__" = true)
    (kf9 : PySem.W.keepIn K (.ref f9) = true)
    (a10 : PySem.W.nsIn K mainGlobals "NothingToUndo" = some (some (.ref c10)))
    (xL10 : K.lookup c10 = some (excClassObj nm10 q10 c10 N10 bs10 (.ref pe :: VE) true sn10 su10 ab10 co10 dd10 ka10 kb10 kc10 kd10 ke10 "ValueError.__new__"))
    (sa10 : PySem.W.findIn K (.ref c10) "__setattr__" = some (some (.builtin "object.__setattr__")))
    (ga10 : PySem.W.findIn K (.ref c10) "__getattribute__" = some (some (.builtin "BaseException.__getattribute__")))
    (gg10 : PySem.W.findIn K (.ref c10) "__getattr__" = some none)
    (ca10 : PySem.W.findIn K (.ref c10) "__class__" = some (some (.builtin "object.__class__")))
    (ty10 : PySem.W.typeIn K (.ref c10) = some (.type "type"))
    (kp10 : PySem.W.keepIn K (.ref c10) = true)
    (no10a : PySem.W.findIn K (.ref c10) "word" = some none)
    (in10 : PySem.W.findIn K (.ref c10) "__init__" = some (some (.ref f10)))
    (it10 : PySem.W.typeIn K (.ref f10) = some (.type "function"))
    (l10 : K.lookup f10 = some ⟨oc10, od10, .func (PySem.W.fnOf "__init__" "NothingToUndo.__init__" (defArgs iNothingToUndo) (defBody iNothingToUndo) (defScope iNothingToUndo) .none kV10 dc10 pm10 an10 cd10 ct10), sl10⟩)
    (cc10 : PySem.W.codeIn K cd10 "NothingToUndo.__init__" = true)
    (kf10 : PySem.W.keepIn K (.ref f10) = true)
    (a11 : PySem.W.nsIn K mainGlobals "InvalidPuzzle" = some (some (.ref c11)))
    (xL11 : K.lookup c11 = some (excClassObj nm11 q11 c11 N11 bs11 (.ref pe :: VE) true sn11 su11 ab11 co11 dd11 ka11 kb11 kc11 kd11 ke11 "ValueError.__new__"))
    (sa11 : PySem.W.findIn K (.ref c11) "__setattr__" = some (some (.builtin "object.__setattr__")))
    (ga11 : PySem.W.findIn K (.ref c11) "__getattribute__" = some (some (.builtin "BaseException.__getattribute__")))
    (gg11 : PySem.W.findIn K (.ref c11) "__getattr__" = some none)
    (ca11 : PySem.W.findIn K (.ref c11) "__class__" = some (some (.builtin "object.__class__")))
    (ty11 : PySem.W.typeIn K (.ref c11) = some (.type "type"))
    (kp11 : PySem.W.keepIn K (.ref c11) = true)
    (no11a : PySem.W.findIn K (.ref c11) "part" = some none)
    (no11b : PySem.W.findIn K (.ref c11) "place" = some none)
    (in11 : PySem.W.findIn K (.ref c11) "__init__" = some (some (.ref f11)))
    (it11 : PySem.W.typeIn K (.ref f11) = some (.type "function"))
    (l11 : K.lookup f11 = some ⟨oc11, od11, .func (PySem.W.fnOf "__init__" "InvalidPuzzle.__init__" (defArgs iInvalidPuzzle) (defBody iInvalidPuzzle) (defScope iInvalidPuzzle) .none kV11 dc11 pm11 an11 cd11 ct11), sl11⟩)
    (cc11 : PySem.W.codeIn K cd11 "InvalidPuzzle.__init__" = true)
    (kf11 : PySem.W.keepIn K (.ref f11) = true)
    (a12 : PySem.W.nsIn K mainGlobals "InvalidText" = some (some (.ref c12)))
    (xL12 : K.lookup c12 = some (excClassObj nm12 q12 c12 N12 bs12 (.ref pe :: VE) true sn12 su12 ab12 co12 dd12 ka12 kb12 kc12 kd12 ke12 "ValueError.__new__"))
    (sa12 : PySem.W.findIn K (.ref c12) "__setattr__" = some (some (.builtin "object.__setattr__")))
    (ga12 : PySem.W.findIn K (.ref c12) "__getattribute__" = some (some (.builtin "BaseException.__getattribute__")))
    (gg12 : PySem.W.findIn K (.ref c12) "__getattr__" = some none)
    (ca12 : PySem.W.findIn K (.ref c12) "__class__" = some (some (.builtin "object.__class__")))
    (ty12 : PySem.W.typeIn K (.ref c12) = some (.type "type"))
    (kp12 : PySem.W.keepIn K (.ref c12) = true)
    (no12a : PySem.W.findIn K (.ref c12) "text" = some none)
    (no12b : PySem.W.findIn K (.ref c12) "at" = some none)
    (in12 : PySem.W.findIn K (.ref c12) "__init__" = some (some (.ref f12)))
    (it12 : PySem.W.typeIn K (.ref f12) = some (.type "function"))
    (l12 : K.lookup f12 = some ⟨oc12, od12, .func (PySem.W.fnOf "__init__" "InvalidText.__init__" (defArgs iInvalidText) (defBody iInvalidText) (defScope iInvalidText) .none kV12 dc12 pm12 an12 cd12 ct12), sl12⟩)
    (cc12 : PySem.W.codeIn K cd12 "InvalidText.__init__" = true)
    (kf12 : PySem.W.keepIn K (.ref f12) = true)
    (aXDraws : PySem.W.nsIn K mainGlobals "_law_draws" = some (some (.ref fXDraws)))
    (lXDraws : K.lookup fXDraws = some ⟨ocXDraws, odXDraws, .func (PySem.W.fnOf "_law_draws" "_law_draws" (defArgs sDraws) (defBody sDraws) (defScope sDraws) .none kVXDraws dcXDraws pmXDraws anXDraws cdXDraws ctXDraws), slXDraws⟩)
    (cXDraws : PySem.W.codeIn K cdXDraws "_law_draws" = true)
    (kXDraws : PySem.W.keepIn K (.ref fXDraws) = true)
    (aXTake : PySem.W.nsIn K mainGlobals "_law_take" = some (some (.ref fXTake)))
    (lXTake : K.lookup fXTake = some ⟨ocXTake, odXTake, .func (PySem.W.fnOf "_law_take" "_law_take" (defArgs sTake) (defBody sTake) (defScope sTake) .none kVXTake dcXTake pmXTake anXTake cdXTake ctXTake), slXTake⟩)
    (cXTake : PySem.W.codeIn K cdXTake "_law_take" = true)
    (kXTake : PySem.W.keepIn K (.ref fXTake) = true)
    (aXOdd : PySem.W.nsIn K mainGlobals "_law_odd" = some (some (.ref fXOdd)))
    (lXOdd : K.lookup fXOdd = some ⟨ocXOdd, odXOdd, .func (PySem.W.fnOf "_law_odd" "_law_odd" (defArgs sOdd) (defBody sOdd) (defScope sOdd) .none kVXOdd dcXOdd pmXOdd anXOdd cdXOdd ctXOdd), slXOdd⟩)
    (cXOdd : PySem.W.codeIn K cdXOdd "_law_odd" = true)
    (kXOdd : PySem.W.keepIn K (.ref fXOdd) = true)
    (aXMade : PySem.W.nsIn K mainGlobals "_law_made" = some (some (.ref fXMade)))
    (lXMade : K.lookup fXMade = some ⟨ocXMade, odXMade, .func (PySem.W.fnOf "_law_made" "_law_made" (defArgs sMade) (defBody sMade) (defScope sMade) .none kVXMade dcXMade pmXMade anXMade cdXMade ctXMade), slXMade⟩)
    (cXMade : PySem.W.codeIn K cdXMade "_law_made" = true)
    (kXMade : PySem.W.keepIn K (.ref fXMade) = true)
    (aXKinds : PySem.W.nsIn K mainGlobals "_law_kinds" = some (some (.ref fXKinds)))
    (lXKinds : K.lookup fXKinds = some ⟨ocXKinds, odXKinds, .func (PySem.W.fnOf "_law_kinds" "_law_kinds" (defArgs sKinds) (defBody sKinds) (defScope sKinds) .none kVXKinds dcXKinds pmXKinds anXKinds cdXKinds ctXKinds), slXKinds⟩)
    (cXKinds : PySem.W.codeIn K cdXKinds "_law_kinds" = true)
    (kXKinds : PySem.W.keepIn K (.ref fXKinds) = true)
    (aXLaw : PySem.W.nsIn K mainGlobals "law" = some (some (.ref fXLaw)))
    (lXLaw : K.lookup fXLaw = some ⟨ocXLaw, odXLaw, .func (PySem.W.fnOf "law" "law" (defArgs sLaw) (defBody sLaw) (defScope sLaw) .none kVXLaw dcXLaw pmXLaw anXLaw cdXLaw ctXLaw), slXLaw⟩)
    (cXLaw : PySem.W.codeIn K cdXLaw "law" = true)
    (kXLaw : PySem.W.keepIn K (.ref fXLaw) = true)
    (aP : PySem.W.nsIn K mainGlobals "PriceError" = some (some (.ref pe)))
    (hn : PySem.W.specialIn K (.builtin "object.__class__") "__get__" = some (some (.builtin "getset_descriptor.__get__")))
    (ht : PySem.W.takesIn K (.builtin "object.__class__") = some true)
    (cP : (PySem.W.clsIn K pe).isSome = true)
    (tP : PySem.W.typeIn K (.ref pe) = some (.type "type"))
    (zlen : PySem.W.nsIn K mainGlobals "len" = some none)
    (zint : PySem.W.nsIn K mainGlobals "int" = some none)
    (zabs : PySem.W.nsIn K mainGlobals "abs" = some none)
    (zrange : PySem.W.nsIn K mainGlobals "range" = some none)
    (zisinstance : PySem.W.nsIn K mainGlobals "isinstance" = some none)
    (zrepr : PySem.W.nsIn K mainGlobals "repr" = some none)
    (zValueError : PySem.W.nsIn K mainGlobals "ValueError" = some none)
    (nd : [pe, c0, c1, c2, c3, c4, c5, c6, c7, c8, c9, c10, c11, c12].Nodup)
    : ∃ fd : FuncData, (∀ (s : Shared) (v : Value), BindsTo s fd ⟨[v], []⟩ [("script", v)]) ∧ ∀ base : Heap, K.In base → base.Ns mainGlobals mg → FnG l.prog w K mg base CX0 4 fa fd ["script"] (spLaw K) := by
  have e := hfa.symm.trans (PySem.W.mg_of X G aXLaw)
  cases e
  have F0 := fun_mk (st := iInvalidNumber) l0 cc0 kf0
  have b0 := F0.binds (ps := ["self", "value"]) fun _ _ _ _ _ _ us hl => match us, hl with | [_, _], _ => rfl
  have o0 : OexC K c0 := ⟨⟨_, _, _, _, _, _, _, _, _, _, _, _, _, _, _, xL0, rfl⟩, sa0, exc_of xL0, ty0, kp0⟩
  have x0 : ExcC K c0 := ⟨ga0, gg0, exc_of xL0, hd_of xL0, ca0, hn, ht, by rw [mro_of xL0]; rfl⟩
  have F1 := fun_mk (st := iInvalidPrice) l1 cc1 kf1
  have b1 := F1.binds (ps := ["self", "value"]) fun _ _ _ _ _ _ us hl => match us, hl with | [_, _], _ => rfl
  have o1 : OexC K c1 := ⟨⟨_, _, _, _, _, _, _, _, _, _, _, _, _, _, _, xL1, rfl⟩, sa1, exc_of xL1, ty1, kp1⟩
  have x1 : ExcC K c1 := ⟨ga1, gg1, exc_of xL1, hd_of xL1, ca1, hn, ht, by rw [mro_of xL1]; rfl⟩
  have F2 := fun_mk (st := iInvalidBook) l2 cc2 kf2
  have b2 := F2.binds (ps := ["self", "value"]) fun _ _ _ _ _ _ us hl => match us, hl with | [_, _], _ => rfl
  have o2 : OexC K c2 := ⟨⟨_, _, _, _, _, _, _, _, _, _, _, _, _, _, _, xL2, rfl⟩, sa2, exc_of xL2, ty2, kp2⟩
  have x2 : ExcC K c2 := ⟨ga2, gg2, exc_of xL2, hd_of xL2, ca2, hn, ht, by rw [mro_of xL2]; rfl⟩
  have F3 := fun_mk (st := iInvalidStart) l3 cc3 kf3
  have b3 := F3.binds (ps := ["self", "value"]) fun _ _ _ _ _ _ us hl => match us, hl with | [_, _], _ => rfl
  have o3 : OexC K c3 := ⟨⟨_, _, _, _, _, _, _, _, _, _, _, _, _, _, _, xL3, rfl⟩, sa3, exc_of xL3, ty3, kp3⟩
  have x3 : ExcC K c3 := ⟨ga3, gg3, exc_of xL3, hd_of xL3, ca3, hn, ht, by rw [mro_of xL3]; rfl⟩
  have F4 := fun_mk (st := iInvalidFilling) l4 cc4 kf4
  have b4 := F4.binds (ps := ["self", "value"]) fun _ _ _ _ _ _ us hl => match us, hl with | [_, _], _ => rfl
  have o4 : OexC K c4 := ⟨⟨_, _, _, _, _, _, _, _, _, _, _, _, _, _, _, xL4, rfl⟩, sa4, exc_of xL4, ty4, kp4⟩
  have x4 : ExcC K c4 := ⟨ga4, gg4, exc_of xL4, hd_of xL4, ca4, hn, ht, by rw [mro_of xL4]; rfl⟩
  have F5 := fun_mk (st := iInvalidSum) l5 cc5 kf5
  have b5 := F5.binds (ps := ["self", "value"]) fun _ _ _ _ _ _ us hl => match us, hl with | [_, _], _ => rfl
  have o5 : OexC K c5 := ⟨⟨_, _, _, _, _, _, _, _, _, _, _, _, _, _, _, xL5, rfl⟩, sa5, exc_of xL5, ty5, kp5⟩
  have x5 : ExcC K c5 := ⟨ga5, gg5, exc_of xL5, hd_of xL5, ca5, hn, ht, by rw [mro_of xL5]; rfl⟩
  have F6 := fun_mk (st := iInvalidCells) l6 cc6 kf6
  have b6 := F6.binds (ps := ["self", "value"]) fun _ _ _ _ _ _ us hl => match us, hl with | [_, _], _ => rfl
  have o6 : OexC K c6 := ⟨⟨_, _, _, _, _, _, _, _, _, _, _, _, _, _, _, xL6, rfl⟩, sa6, exc_of xL6, ty6, kp6⟩
  have x6 : ExcC K c6 := ⟨ga6, gg6, exc_of xL6, hd_of xL6, ca6, hn, ht, by rw [mro_of xL6]; rfl⟩
  have F7 := fun_mk (st := iInvalidMove) l7 cc7 kf7
  have b7 := F7.binds (ps := ["self", "value"]) fun _ _ _ _ _ _ us hl => match us, hl with | [_, _], _ => rfl
  have o7 : OexC K c7 := ⟨⟨_, _, _, _, _, _, _, _, _, _, _, _, _, _, _, xL7, rfl⟩, sa7, exc_of xL7, ty7, kp7⟩
  have x7 : ExcC K c7 := ⟨ga7, gg7, exc_of xL7, hd_of xL7, ca7, hn, ht, by rw [mro_of xL7]; rfl⟩
  have F8 := fun_mk (st := iInvalidQuestion) l8 cc8 kf8
  have b8 := F8.binds (ps := ["self", "value"]) fun _ _ _ _ _ _ us hl => match us, hl with | [_, _], _ => rfl
  have o8 : OexC K c8 := ⟨⟨_, _, _, _, _, _, _, _, _, _, _, _, _, _, _, xL8, rfl⟩, sa8, exc_of xL8, ty8, kp8⟩
  have x8 : ExcC K c8 := ⟨ga8, gg8, exc_of xL8, hd_of xL8, ca8, hn, ht, by rw [mro_of xL8]; rfl⟩
  have F9 := fun_mk (st := iUndefined) l9 cc9 kf9
  have b9 := F9.binds (ps := ["self", "what"]) fun _ _ _ _ _ _ us hl => match us, hl with | [_, _], _ => rfl
  have o9 : OexC K c9 := ⟨⟨_, _, _, _, _, _, _, _, _, _, _, _, _, _, _, xL9, rfl⟩, sa9, exc_of xL9, ty9, kp9⟩
  have x9 : ExcC K c9 := ⟨ga9, gg9, exc_of xL9, hd_of xL9, ca9, hn, ht, by rw [mro_of xL9]; rfl⟩
  have F10 := fun_mk (st := iNothingToUndo) l10 cc10 kf10
  have b10 := F10.binds (ps := ["self", "word"]) fun _ _ _ _ _ _ us hl => match us, hl with | [_, _], _ => rfl
  have o10 : OexC K c10 := ⟨⟨_, _, _, _, _, _, _, _, _, _, _, _, _, _, _, xL10, rfl⟩, sa10, exc_of xL10, ty10, kp10⟩
  have x10 : ExcC K c10 := ⟨ga10, gg10, exc_of xL10, hd_of xL10, ca10, hn, ht, by rw [mro_of xL10]; rfl⟩
  have F11 := fun_mk (st := iInvalidPuzzle) l11 cc11 kf11
  have b11 := F11.binds (ps := ["self", "part", "place"]) fun _ _ _ _ _ _ us hl => match us, hl with | [_, _, _], _ => rfl
  have o11 : OexC K c11 := ⟨⟨_, _, _, _, _, _, _, _, _, _, _, _, _, _, _, xL11, rfl⟩, sa11, exc_of xL11, ty11, kp11⟩
  have x11 : ExcC K c11 := ⟨ga11, gg11, exc_of xL11, hd_of xL11, ca11, hn, ht, by rw [mro_of xL11]; rfl⟩
  have F12 := fun_mk (st := iInvalidText) l12 cc12 kf12
  have b12 := F12.binds (ps := ["self", "text", "at"]) fun _ _ _ _ _ _ us hl => match us, hl with | [_, _, _], _ => rfl
  have o12 : OexC K c12 := ⟨⟨_, _, _, _, _, _, _, _, _, _, _, _, _, _, _, xL12, rfl⟩, sa12, exc_of xL12, ty12, kp12⟩
  have x12 : ExcC K c12 := ⟨ga12, gg12, exc_of xL12, hd_of xL12, ca12, hn, ht, by rw [mro_of xL12]; rfl⟩
  have FXDraws := fun_mk (st := sDraws) lXDraws cXDraws kXDraws
  have bXDraws := FXDraws.binds (ps := ["script", "many"]) fun _ _ _ _ _ _ us hl => match us, hl with | [_, _], _ => rfl
  have FXTake := fun_mk (st := sTake) lXTake cXTake kXTake
  have bXTake := FXTake.binds (ps := ["hand", "many"]) fun _ _ _ _ _ _ us hl => match us, hl with | [_, _], _ => rfl
  have FXOdd := fun_mk (st := sOdd) lXOdd cXOdd kXOdd
  have bXOdd := FXOdd.binds (ps := ["hand"]) fun _ _ _ _ _ _ us hl => match us, hl with | [_], _ => rfl
  have FXMade := fun_mk (st := sMade) lXMade cXMade kXMade
  have bXMade := FXMade.binds (ps := ["one", "other", "by_name"]) fun _ _ _ _ _ _ us hl => match us, hl with | [_, _, _], _ => rfl
  have FXKinds := fun_mk (st := sKinds) lXKinds cXKinds kXKinds
  have bXKinds := FXKinds.binds (ps := ["error"]) fun _ _ _ _ _ _ us hl => match us, hl with | [_], _ => rfl
  have FXLaw := fun_mk (st := sLaw) lXLaw cXLaw kXLaw
  have bXLaw := FXLaw.binds (ps := ["script"]) fun _ _ _ _ _ _ us hl => match us, hl with | [_], _ => rfl
  have B : Bt mg := ⟨PySem.W.mg_none_of X G zlen, PySem.W.mg_none_of X G zint, PySem.W.mg_none_of X G zabs, PySem.W.mg_none_of X G zrange⟩
  have S : Nm mg := ⟨PySem.W.mg_none_of X G zisinstance, PySem.W.mg_none_of X G zrepr, PySem.W.mg_none_of X G zValueError⟩
  have cl : ∀ i, i < 13 → (PySem.W.clsIn K (cAt [c0, c1, c2, c3, c4, c5, c6, c7, c8, c9, c10, c11, c12] i)).isSome = true ∧ PySem.W.typeIn K (.ref (cAt [c0, c1, c2, c3, c4, c5, c6, c7, c8, c9, c10, c11, c12] i)) = some (.type "type")
    | 0, _ => ⟨by show (PySem.W.clsIn K c0).isSome = true; rw [cls_of xL0]; rfl, ty0⟩
    | 1, _ => ⟨by show (PySem.W.clsIn K c1).isSome = true; rw [cls_of xL1]; rfl, ty1⟩
    | 2, _ => ⟨by show (PySem.W.clsIn K c2).isSome = true; rw [cls_of xL2]; rfl, ty2⟩
    | 3, _ => ⟨by show (PySem.W.clsIn K c3).isSome = true; rw [cls_of xL3]; rfl, ty3⟩
    | 4, _ => ⟨by show (PySem.W.clsIn K c4).isSome = true; rw [cls_of xL4]; rfl, ty4⟩
    | 5, _ => ⟨by show (PySem.W.clsIn K c5).isSome = true; rw [cls_of xL5]; rfl, ty5⟩
    | 6, _ => ⟨by show (PySem.W.clsIn K c6).isSome = true; rw [cls_of xL6]; rfl, ty6⟩
    | 7, _ => ⟨by show (PySem.W.clsIn K c7).isSome = true; rw [cls_of xL7]; rfl, ty7⟩
    | 8, _ => ⟨by show (PySem.W.clsIn K c8).isSome = true; rw [cls_of xL8]; rfl, ty8⟩
    | 9, _ => ⟨by show (PySem.W.clsIn K c9).isSome = true; rw [cls_of xL9]; rfl, ty9⟩
    | 10, _ => ⟨by show (PySem.W.clsIn K c10).isSome = true; rw [cls_of xL10]; rfl, ty10⟩
    | 11, _ => ⟨by show (PySem.W.clsIn K c11).isSome = true; rw [cls_of xL11]; rfl, ty11⟩
    | 12, _ => ⟨by show (PySem.W.clsIn K c12).isSome = true; rw [cls_of xL12]; rfl, ty12⟩
    | n + 13, h => absurd h (by omega)
  have np : ∀ i, i < 13 → cAt [c0, c1, c2, c3, c4, c5, c6, c7, c8, c9, c10, c11, c12] i ≠ pe := fun i hi z => by
    have m : cAt [c0, c1, c2, c3, c4, c5, c6, c7, c8, c9, c10, c11, c12] i ∈ [c0, c1, c2, c3, c4, c5, c6, c7, c8, c9, c10, c11, c12] := by
      show [c0, c1, c2, c3, c4, c5, c6, c7, c8, c9, c10, c11, c12].getD i 0 ∈ [c0, c1, c2, c3, c4, c5, c6, c7, c8, c9, c10, c11, c12]
      rw [List.getD_eq_getElem?_getD, List.getElem?_eq_getElem (show i < [c0, c1, c2, c3, c4, c5, c6, c7, c8, c9, c10, c11, c12].length from hi)]
      exact List.getElem_mem _
    rw [z] at m
    exact (List.nodup_cons.mp nd).1 m
  have inj : ∀ i j, i < 13 → j < 13 → cAt [c0, c1, c2, c3, c4, c5, c6, c7, c8, c9, c10, c11, c12] i = cAt [c0, c1, c2, c3, c4, c5, c6, c7, c8, c9, c10, c11, c12] j → i = j := fun i j hi hj z => by
    have z' : [c0, c1, c2, c3, c4, c5, c6, c7, c8, c9, c10, c11, c12].getD i 0 = [c0, c1, c2, c3, c4, c5, c6, c7, c8, c9, c10, c11, c12].getD j 0 := z
    rw [List.getD_eq_getElem?_getD, List.getD_eq_getElem?_getD, List.getElem?_eq_getElem (show i < [c0, c1, c2, c3, c4, c5, c6, c7, c8, c9, c10, c11, c12].length from hi), List.getElem?_eq_getElem (show j < [c0, c1, c2, c3, c4, c5, c6, c7, c8, c9, c10, c11, c12].length from hj)] at z'
    exact (List.getElem_inj (List.nodup_cons.mp nd).2).mp z'
  have dij : ∀ i j, i < 13 → j < 13 → decide (j = i) = decide (cAt [c0, c1, c2, c3, c4, c5, c6, c7, c8, c9, c10, c11, c12] i = cAt [c0, c1, c2, c3, c4, c5, c6, c7, c8, c9, c10, c11, c12] j) := fun i j hi hj => by
    by_cases e : j = i
    · subst e
      rw [decide_eq_true rfl, decide_eq_true rfl]
    · rw [decide_eq_false e, decide_eq_false fun z => e (inj i j hi hj z).symm]
  have e1 : ∀ i, i < 13 → ExcC K (cAt [c0, c1, c2, c3, c4, c5, c6, c7, c8, c9, c10, c11, c12] i)
    | 0, _ => x0
    | 1, _ => x1
    | 2, _ => x2
    | 3, _ => x3
    | 4, _ => x4
    | 5, _ => x5
    | 6, _ => x6
    | 7, _ => x7
    | 8, _ => x8
    | 9, _ => x9
    | 10, _ => x10
    | 11, _ => x11
    | 12, _ => x12
    | n + 13, h => absurd h (by omega)
  have e2 : ∀ i, i < 13 → ∀ j, (PySem.W.clsIn K (cAt [c0, c1, c2, c3, c4, c5, c6, c7, c8, c9, c10, c11, c12] j)).isSome = true → PySem.W.typeIn K (.ref (cAt [c0, c1, c2, c3, c4, c5, c6, c7, c8, c9, c10, c11, c12] j)) = some (.type "type") → cAt [c0, c1, c2, c3, c4, c5, c6, c7, c8, c9, c10, c11, c12] j ≠ pe → ∀ b, b = decide (cAt [c0, c1, c2, c3, c4, c5, c6, c7, c8, c9, c10, c11, c12] i = cAt [c0, c1, c2, c3, c4, c5, c6, c7, c8, c9, c10, c11, c12] j) → PySem.W.kitOne K (.ref (cAt [c0, c1, c2, c3, c4, c5, c6, c7, c8, c9, c10, c11, c12] i)) (.ref (cAt [c0, c1, c2, c3, c4, c5, c6, c7, c8, c9, c10, c11, c12] j)) = some b
    | 0, _, _, h1, h2, h3, _, h4 => kit_of' xL0 h1 h2 h3 h4
    | 1, _, _, h1, h2, h3, _, h4 => kit_of' xL1 h1 h2 h3 h4
    | 2, _, _, h1, h2, h3, _, h4 => kit_of' xL2 h1 h2 h3 h4
    | 3, _, _, h1, h2, h3, _, h4 => kit_of' xL3 h1 h2 h3 h4
    | 4, _, _, h1, h2, h3, _, h4 => kit_of' xL4 h1 h2 h3 h4
    | 5, _, _, h1, h2, h3, _, h4 => kit_of' xL5 h1 h2 h3 h4
    | 6, _, _, h1, h2, h3, _, h4 => kit_of' xL6 h1 h2 h3 h4
    | 7, _, _, h1, h2, h3, _, h4 => kit_of' xL7 h1 h2 h3 h4
    | 8, _, _, h1, h2, h3, _, h4 => kit_of' xL8 h1 h2 h3 h4
    | 9, _, _, h1, h2, h3, _, h4 => kit_of' xL9 h1 h2 h3 h4
    | 10, _, _, h1, h2, h3, _, h4 => kit_of' xL10 h1 h2 h3 h4
    | 11, _, _, h1, h2, h3, _, h4 => kit_of' xL11 h1 h2 h3 h4
    | 12, _, _, h1, h2, h3, _, h4 => kit_of' xL12 h1 h2 h3 h4
    | n + 13, h, _, _, _, _, _, _ => absurd h (by omega)
  have e3 : ∀ i, i < 13 → cAt [c0, c1, c2, c3, c4, c5, c6, c7, c8, c9, c10, c11, c12] i ≠ pe → PySem.W.kitOne K (.ref (cAt [c0, c1, c2, c3, c4, c5, c6, c7, c8, c9, c10, c11, c12] i)) (.ref pe) = some true
    | 0, _, hp => kit_pe xL0 cP tP hp
    | 1, _, hp => kit_pe xL1 cP tP hp
    | 2, _, hp => kit_pe xL2 cP tP hp
    | 3, _, hp => kit_pe xL3 cP tP hp
    | 4, _, hp => kit_pe xL4 cP tP hp
    | 5, _, hp => kit_pe xL5 cP tP hp
    | 6, _, hp => kit_pe xL6 cP tP hp
    | 7, _, hp => kit_pe xL7 cP tP hp
    | 8, _, hp => kit_pe xL8 cP tP hp
    | 9, _, hp => kit_pe xL9 cP tP hp
    | 10, _, hp => kit_pe xL10 cP tP hp
    | 11, _, hp => kit_pe xL11 cP tP hp
    | 12, _, hp => kit_pe xL12 cP tP hp
    | n + 13, h, _ => absurd h (by omega)
  have e4 : ∀ i, i < 13 → PySem.W.kitOne K (.ref (cAt [c0, c1, c2, c3, c4, c5, c6, c7, c8, c9, c10, c11, c12] i)) (.type "ValueError") = some true
    | 0, _ => kit_ve xL0
    | 1, _ => kit_ve xL1
    | 2, _ => kit_ve xL2
    | 3, _ => kit_ve xL3
    | 4, _ => kit_ve xL4
    | 5, _ => kit_ve xL5
    | 6, _ => kit_ve xL6
    | 7, _ => kit_ve xL7
    | 8, _ => kit_ve xL8
    | 9, _ => kit_ve xL9
    | 10, _ => kit_ve xL10
    | 11, _ => kit_ve xL11
    | 12, _ => kit_ve xL12
    | n + 13, h => absurd h (by omega)
  have XK : Ks K (cAt [c0, c1, c2, c3, c4, c5, c6, c7, c8, c9, c10, c11, c12]) pe := ⟨e1, fun i j hi hj => e2 i hi j (cl j hj).1 (cl j hj).2 (np j hj) _ (dij i j hi hj), fun i hi => e3 i hi (np i hi), e4⟩
  refine ⟨PySem.W.fnOf "law" "law" (defArgs sLaw) (defBody sLaw) (defScope sLaw) .none kVXLaw dcXLaw pmXLaw anXLaw cdXLaw ctXLaw, fun s v => .of_eq rfl, fun base _ _ => ?_⟩
  have T : Cs l.prog w K mg base (cAt [c0, c1, c2, c3, c4, c5, c6, c7, c8, c9, c10, c11, c12]) :=
    { n0 := ⟨PySem.W.mg_of X G a0, o0, ⟨ga0, gg0, exc_of xL0, hd_of xL0⟩, x0, no0a, f0, _, in0, it0, ok_InvalidNumber F0, b0, fun s self ws hl => match ws, hl with | [_], _ => .of_eq rfl⟩,
      n1 := ⟨PySem.W.mg_of X G a1, o1, ⟨ga1, gg1, exc_of xL1, hd_of xL1⟩, x1, no1a, f1, _, in1, it1, ok_InvalidPrice F1, b1, fun s self ws hl => match ws, hl with | [_], _ => .of_eq rfl⟩,
      n2 := ⟨PySem.W.mg_of X G a2, o2, ⟨ga2, gg2, exc_of xL2, hd_of xL2⟩, x2, no2a, f2, _, in2, it2, ok_InvalidBook F2, b2, fun s self ws hl => match ws, hl with | [_], _ => .of_eq rfl⟩,
      n3 := ⟨PySem.W.mg_of X G a3, o3, ⟨ga3, gg3, exc_of xL3, hd_of xL3⟩, x3, no3a, f3, _, in3, it3, ok_InvalidStart F3, b3, fun s self ws hl => match ws, hl with | [_], _ => .of_eq rfl⟩,
      n4 := ⟨PySem.W.mg_of X G a4, o4, ⟨ga4, gg4, exc_of xL4, hd_of xL4⟩, x4, no4a, f4, _, in4, it4, ok_InvalidFilling F4, b4, fun s self ws hl => match ws, hl with | [_], _ => .of_eq rfl⟩,
      n5 := ⟨PySem.W.mg_of X G a5, o5, ⟨ga5, gg5, exc_of xL5, hd_of xL5⟩, x5, no5a, f5, _, in5, it5, ok_InvalidSum F5, b5, fun s self ws hl => match ws, hl with | [_], _ => .of_eq rfl⟩,
      n6 := ⟨PySem.W.mg_of X G a6, o6, ⟨ga6, gg6, exc_of xL6, hd_of xL6⟩, x6, no6a, f6, _, in6, it6, ok_InvalidCells F6, b6, fun s self ws hl => match ws, hl with | [_], _ => .of_eq rfl⟩,
      n7 := ⟨PySem.W.mg_of X G a7, o7, ⟨ga7, gg7, exc_of xL7, hd_of xL7⟩, x7, no7a, f7, _, in7, it7, ok_InvalidMove F7, b7, fun s self ws hl => match ws, hl with | [_], _ => .of_eq rfl⟩,
      n8 := ⟨PySem.W.mg_of X G a8, o8, ⟨ga8, gg8, exc_of xL8, hd_of xL8⟩, x8, no8a, f8, _, in8, it8, ok_InvalidQuestion F8, b8, fun s self ws hl => match ws, hl with | [_], _ => .of_eq rfl⟩,
      n9 := ⟨PySem.W.mg_of X G a9, o9, ⟨ga9, gg9, exc_of xL9, hd_of xL9⟩, x9, no9a, f9, _, in9, it9, ok_Undefined F9, b9, fun s self ws hl => match ws, hl with | [_], _ => .of_eq rfl⟩,
      n10 := ⟨PySem.W.mg_of X G a10, o10, ⟨ga10, gg10, exc_of xL10, hd_of xL10⟩, x10, no10a, f10, _, in10, it10, ok_NothingToUndo F10, b10, fun s self ws hl => match ws, hl with | [_], _ => .of_eq rfl⟩,
      n11 := ⟨PySem.W.mg_of X G a11, o11, ⟨ga11, gg11, exc_of xL11, hd_of xL11⟩, x11, no11a, no11b, f11, _, in11, it11, ok_InvalidPuzzle F11, b11, fun s self ws hl => match ws, hl with | [_, _], _ => .of_eq rfl⟩,
      n12 := ⟨PySem.W.mg_of X G a12, o12, ⟨ga12, gg12, exc_of xL12, hd_of xL12⟩, x12, no12a, no12b, f12, _, in12, it12, ok_InvalidText F12, b12, fun s self ws hl => match ws, hl with | [_, _], _ => .of_eq rfl⟩ }
  have GT := ok_take (P := l.prog) (w := w) (base := base) FXTake B
  exact ok_law FXLaw T XK S B (PySem.W.mg_of X G aP) (ok_draws FXDraws B) kXDraws bXDraws (PySem.W.mg_of X G aXDraws) (ok_odd FXOdd GT kXTake bXTake (PySem.W.mg_of X G aXTake)) kXOdd bXOdd (PySem.W.mg_of X G aXOdd) GT kXTake bXTake (PySem.W.mg_of X G aXTake) (ok_made FXMade T) kXMade bXMade (PySem.W.mg_of X G aXMade) (ok_kinds FXKinds T XK S) kXKinds bXKinds (PySem.W.mg_of X G aXKinds)
end C1

open PySem PySem.W PyProof.Rows
set_option maxHeartbeats 0 in
theorem PySem.Challenge.cw_cutorall_k01_errors_holds : PySem.Challenge.rw_cutorall_k01_errors.Holds := by
  w_on; o_law; k_head; (case hw => w_witness2)
  k_fill
  refine Ek.walk_ofG (l := PySem.Challenge.rw_cutorall_k01_errors) (n := 63) (k := 4) (x := "script") (sp := C1.spLaw) rfl (by decide) rfl ⟨rfl, by decide, by decide⟩ (fun w h Y => PySem.W.kIn_of Y) ?F (fun _ _ a ns hl _ hS => ⟨a, ns, rfl, hS, hl, fun _ => rfl⟩)
  case F =>
    intro w mg fa h KX G hmg
    refine' C1.all_mk KX G hmg ?a0 ?xL0 ?sa0 ?ga0 ?gg0 ?ca0 ?ty0 ?kp0 ?no0a ?in0 ?it0 ?l0 ?cc0 ?kf0 ?a1 ?xL1 ?sa1 ?ga1 ?gg1 ?ca1 ?ty1 ?kp1 ?no1a ?in1 ?it1 ?l1 ?cc1 ?kf1 ?a2 ?xL2 ?sa2 ?ga2 ?gg2 ?ca2 ?ty2 ?kp2 ?no2a ?in2 ?it2 ?l2 ?cc2 ?kf2 ?a3 ?xL3 ?sa3 ?ga3 ?gg3 ?ca3 ?ty3 ?kp3 ?no3a ?in3 ?it3 ?l3 ?cc3 ?kf3 ?a4 ?xL4 ?sa4 ?ga4 ?gg4 ?ca4 ?ty4 ?kp4 ?no4a ?in4 ?it4 ?l4 ?cc4 ?kf4 ?a5 ?xL5 ?sa5 ?ga5 ?gg5 ?ca5 ?ty5 ?kp5 ?no5a ?in5 ?it5 ?l5 ?cc5 ?kf5 ?a6 ?xL6 ?sa6 ?ga6 ?gg6 ?ca6 ?ty6 ?kp6 ?no6a ?in6 ?it6 ?l6 ?cc6 ?kf6 ?a7 ?xL7 ?sa7 ?ga7 ?gg7 ?ca7 ?ty7 ?kp7 ?no7a ?in7 ?it7 ?l7 ?cc7 ?kf7 ?a8 ?xL8 ?sa8 ?ga8 ?gg8 ?ca8 ?ty8 ?kp8 ?no8a ?in8 ?it8 ?l8 ?cc8 ?kf8 ?a9 ?xL9 ?sa9 ?ga9 ?gg9 ?ca9 ?ty9 ?kp9 ?no9a ?in9 ?it9 ?l9 ?cc9 ?kf9 ?a10 ?xL10 ?sa10 ?ga10 ?gg10 ?ca10 ?ty10 ?kp10 ?no10a ?in10 ?it10 ?l10 ?cc10 ?kf10 ?a11 ?xL11 ?sa11 ?ga11 ?gg11 ?ca11 ?ty11 ?kp11 ?no11a ?no11b ?in11 ?it11 ?l11 ?cc11 ?kf11 ?a12 ?xL12 ?sa12 ?ga12 ?gg12 ?ca12 ?ty12 ?kp12 ?no12a ?no12b ?in12 ?it12 ?l12 ?cc12 ?kf12 ?aXDraws ?lXDraws ?cXDraws ?kXDraws ?aXTake ?lXTake ?cXTake ?kXTake ?aXOdd ?lXOdd ?cXOdd ?kXOdd ?aXMade ?lXMade ?cXMade ?kXMade ?aXKinds ?lXKinds ?cXKinds ?kXKinds ?aXLaw ?lXLaw ?cXLaw ?kXLaw ?aP ?hn ?ht ?cP ?tP ?zlen ?zint ?zabs ?zrange ?zisinstance ?zrepr ?zValueError ?nd
    (case a0 => k_is)
    (case xL0 => k_is)
    (case sa0 => k_is)
    (case ga0 => k_is)
    (case gg0 => k_is)
    (case ca0 => k_is)
    (case ty0 => k_is)
    (case kp0 => k_is)
    (case no0a => k_is)
    (case in0 => k_is)
    (case it0 => k_is)
    (case l0 => k_is)
    (case cc0 => k_is)
    (case kf0 => k_is)
    (case a1 => k_is)
    (case xL1 => k_is)
    (case sa1 => k_is)
    (case ga1 => k_is)
    (case gg1 => k_is)
    (case ca1 => k_is)
    (case ty1 => k_is)
    (case kp1 => k_is)
    (case no1a => k_is)
    (case in1 => k_is)
    (case it1 => k_is)
    (case l1 => k_is)
    (case cc1 => k_is)
    (case kf1 => k_is)
    (case a2 => k_is)
    (case xL2 => k_is)
    (case sa2 => k_is)
    (case ga2 => k_is)
    (case gg2 => k_is)
    (case ca2 => k_is)
    (case ty2 => k_is)
    (case kp2 => k_is)
    (case no2a => k_is)
    (case in2 => k_is)
    (case it2 => k_is)
    (case l2 => k_is)
    (case cc2 => k_is)
    (case kf2 => k_is)
    (case a3 => k_is)
    (case xL3 => k_is)
    (case sa3 => k_is)
    (case ga3 => k_is)
    (case gg3 => k_is)
    (case ca3 => k_is)
    (case ty3 => k_is)
    (case kp3 => k_is)
    (case no3a => k_is)
    (case in3 => k_is)
    (case it3 => k_is)
    (case l3 => k_is)
    (case cc3 => k_is)
    (case kf3 => k_is)
    (case a4 => k_is)
    (case xL4 => k_is)
    (case sa4 => k_is)
    (case ga4 => k_is)
    (case gg4 => k_is)
    (case ca4 => k_is)
    (case ty4 => k_is)
    (case kp4 => k_is)
    (case no4a => k_is)
    (case in4 => k_is)
    (case it4 => k_is)
    (case l4 => k_is)
    (case cc4 => k_is)
    (case kf4 => k_is)
    (case a5 => k_is)
    (case xL5 => k_is)
    (case sa5 => k_is)
    (case ga5 => k_is)
    (case gg5 => k_is)
    (case ca5 => k_is)
    (case ty5 => k_is)
    (case kp5 => k_is)
    (case no5a => k_is)
    (case in5 => k_is)
    (case it5 => k_is)
    (case l5 => k_is)
    (case cc5 => k_is)
    (case kf5 => k_is)
    (case a6 => k_is)
    (case xL6 => k_is)
    (case sa6 => k_is)
    (case ga6 => k_is)
    (case gg6 => k_is)
    (case ca6 => k_is)
    (case ty6 => k_is)
    (case kp6 => k_is)
    (case no6a => k_is)
    (case in6 => k_is)
    (case it6 => k_is)
    (case l6 => k_is)
    (case cc6 => k_is)
    (case kf6 => k_is)
    (case a7 => k_is)
    (case xL7 => k_is)
    (case sa7 => k_is)
    (case ga7 => k_is)
    (case gg7 => k_is)
    (case ca7 => k_is)
    (case ty7 => k_is)
    (case kp7 => k_is)
    (case no7a => k_is)
    (case in7 => k_is)
    (case it7 => k_is)
    (case l7 => k_is)
    (case cc7 => k_is)
    (case kf7 => k_is)
    (case a8 => k_is)
    (case xL8 => k_is)
    (case sa8 => k_is)
    (case ga8 => k_is)
    (case gg8 => k_is)
    (case ca8 => k_is)
    (case ty8 => k_is)
    (case kp8 => k_is)
    (case no8a => k_is)
    (case in8 => k_is)
    (case it8 => k_is)
    (case l8 => k_is)
    (case cc8 => k_is)
    (case kf8 => k_is)
    (case a9 => k_is)
    (case xL9 => k_is)
    (case sa9 => k_is)
    (case ga9 => k_is)
    (case gg9 => k_is)
    (case ca9 => k_is)
    (case ty9 => k_is)
    (case kp9 => k_is)
    (case no9a => k_is)
    (case in9 => k_is)
    (case it9 => k_is)
    (case l9 => k_is)
    (case cc9 => k_is)
    (case kf9 => k_is)
    (case a10 => k_is)
    (case xL10 => k_is)
    (case sa10 => k_is)
    (case ga10 => k_is)
    (case gg10 => k_is)
    (case ca10 => k_is)
    (case ty10 => k_is)
    (case kp10 => k_is)
    (case no10a => k_is)
    (case in10 => k_is)
    (case it10 => k_is)
    (case l10 => k_is)
    (case cc10 => k_is)
    (case kf10 => k_is)
    (case a11 => k_is)
    (case xL11 => k_is)
    (case sa11 => k_is)
    (case ga11 => k_is)
    (case gg11 => k_is)
    (case ca11 => k_is)
    (case ty11 => k_is)
    (case kp11 => k_is)
    (case no11a => k_is)
    (case no11b => k_is)
    (case in11 => k_is)
    (case it11 => k_is)
    (case l11 => k_is)
    (case cc11 => k_is)
    (case kf11 => k_is)
    (case a12 => k_is)
    (case xL12 => k_is)
    (case sa12 => k_is)
    (case ga12 => k_is)
    (case gg12 => k_is)
    (case ca12 => k_is)
    (case ty12 => k_is)
    (case kp12 => k_is)
    (case no12a => k_is)
    (case no12b => k_is)
    (case in12 => k_is)
    (case it12 => k_is)
    (case l12 => k_is)
    (case cc12 => k_is)
    (case kf12 => k_is)
    (case aXDraws => k_is)
    (case lXDraws => k_is)
    (case cXDraws => k_is)
    (case kXDraws => k_is)
    (case aXTake => k_is)
    (case lXTake => k_is)
    (case cXTake => k_is)
    (case kXTake => k_is)
    (case aXOdd => k_is)
    (case lXOdd => k_is)
    (case cXOdd => k_is)
    (case kXOdd => k_is)
    (case aXMade => k_is)
    (case lXMade => k_is)
    (case cXMade => k_is)
    (case kXMade => k_is)
    (case aXKinds => k_is)
    (case lXKinds => k_is)
    (case cXKinds => k_is)
    (case kXKinds => k_is)
    (case aXLaw => k_is)
    (case lXLaw => k_is)
    (case cXLaw => k_is)
    (case kXLaw => k_is)
    (case aP => k_is)
    (case hn => k_is)
    (case ht => k_is)
    (case cP => (first | k_is | rfl))
    (case tP => k_is)
    (case zlen => k_is)
    (case zint => k_is)
    (case zabs => k_is)
    (case zrange => k_is)
    (case zisinstance => k_is)
    (case zrepr => k_is)
    (case zValueError => k_is)
    (case nd => decide)

