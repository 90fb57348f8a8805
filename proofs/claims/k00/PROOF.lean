import PyProof.Rows.All
import Wide.All
import OpenK.AllK
import Wide.FinOn
import HandS.ForExc
import HandS.ExcInit
import HandS.ExcInitHot
import HandS.ExcIs
import HandS.ExcField
import HandS.HotCalls
import HandS.RaiseMore
import HandS.Comp
import HandS.IsInst
import KE.KExcIs
import PyProof.ReprRoads
import HandS.Flow
import KE.KIntText
import PyProof.Rows.StrJoinMade
import PySem.Challenge.RW_ringsdecide_k00_errors_and_what_they_kee
set_option Elab.async false
set_option linter.all false
set_option maxRecDepth 100000
set_option maxHeartbeats 4000000
/-! Rules of our own: repr of data, isinstance of a pinned exception, an own base's __init__ that is ValueError's, a class called by keyword. -/
namespace Rd
open PySem PySem.Spec PyProof.Rows L2

/-- repr(x), x data without dicts -/
def rRepr (K : PySem.W.Frag) : List V → Hp → VK → Prop := fun xs H Q => ∃ (x : V) (d : PyData), xs = [x] ∧ Dp K H x d ∧ d.showable = true ∧ d.hasDict = false ∧ d.depth ≤ 50 ∧ d.shown.length ≤ sizeLine ∧ Q (.str d.shown) H
theorem call_repr {X : Cx} (hg : X.A.guards = some []) (hu : X.A.units + 100 < cLine) : CallR X (.builtin "repr") (rRepr X.K) := by
  intro pins s σ H xs us Q I r h
  obtain ⟨x, d, rfl, i, hs, hd, hdp, hz, q⟩ := h
  obtain ⟨u, rfl, ru⟩ := vals1 r
  obtain ⟨as, rd⟩ := Dp.reads I d x u i ru
  have leaf : ∀ tk, EP X pins σ Q (.str d.shown tk) { s with toks := s.toks + 1 } := fun tk => ⟨.str d.shown, H, I.tok _, ⟨_, rfl⟩, q⟩
  cases i with
  | non => cases ru; exact PySem.P.repr_of_none (leaf _)
  | bl b => cases ru; exact PySem.P.repr_of_bool (leaf _)
  | int n => obtain ⟨t, rfl⟩ := ru; exact PySem.P.repr_of_int (by simpa [PyData.showable] using hs) (leaf _)
  | str y => obtain ⟨t, rfl⟩ := ru; exact PySem.P.repr_of_str (leaf _) hz
  | lst _ _ =>
    cases ru
    exact repr_of_reads' rd hs (PyData.noDict_hsm hd) hg (by omega) (fun _ _ e => e) (fun h' u tk k => ⟨.str _, H, I.kept (t' := tk) k, ⟨_, rfl⟩, q⟩) hz
  | tup _ _ =>
    cases ru
    exact repr_of_reads' rd hs (PyData.noDict_hsm hd) hg (by omega) (fun _ _ e => e) (fun h' u tk k => ⟨.str _, H, I.kept (t' := tk) k, ⟨_, rfl⟩, q⟩) hz
end Rd
set_option maxRecDepth 100000
set_option maxHeartbeats 4000000
namespace Rd
open PySem PySem.Spec PyProof.Rows L2

/-! ### isinstance of an exception that is pinned -/
theorem instAt {H : Hp} {P : Program} {w : World} {h : Heap} {a D : Addr} {oe : Obj} {d : Option Addr} (ok : HOk P w H h) (hget : h.get? a = some oe) (hz : Zc (.ref D) d oe) (hf : ∃ vs, oe.data = .fields vs)
    (hd : d = none ∨ ∃ dd fs, d = some dd ∧ H dd = some (.xd fs)) : ∃ od, PySem.W.InstAt h a oe D od := by
  obtain ⟨vs, hv⟩ := hf
  have no : PySem.W.notCls oe = true := by unfold PySem.W.notCls; rw [hv] <;> rfl
  rcases hd with e | ⟨dd, fs, e, q⟩
  · exact ⟨none, hget, hz.1, no, by rw [hz.2, e]; trivial⟩
  · obtain ⟨mA, ⟨od, es, ep, ho, _⟩, _⟩ := ok dd _ q
    exact ⟨some od, hget, hz.1, no, by rw [hz.2, e]; exact ho⟩
def rIsP (K : PySem.W.Frag) (a : Addr) (cls : Value) (d : Option Addr) : List V → Hp → VK → Prop := fun xs H Q => ∃ (D : Addr) (c : V) (cv : Value) (b : Bool), cls = .ref D ∧ ExcC K D ∧ xs = [.ref a, c] ∧ (∀ u, RelV c u → u = cv) ∧ PySem.W.kitOne K (.ref D) cv = some b ∧
  (d = none ∨ ∃ dd fs, d = some dd ∧ H dd = some (.xd fs)) ∧ Q (.bl b) H
theorem call_isP {X : Cx} {a : Addr} {cls : Value} {oe : Obj} {d : Option Addr} (hp : (a, oe) ∈ X.pn) (hz : Zc cls d oe) (hf : ∃ vs, oe.data = .fields vs) : CallR X (.builtin "isinstance") (rIsP X.K a cls d) := by
  intro pins s σ H xs us Q I r h
  obtain ⟨D, c, cv, b, rfl, C, rfl, hcv, e, hd, q⟩ := h
  cases r with
  | cons rx rr =>
    cases rr with
    | cons rt rr =>
      cases rr
      cases rx
      have ec := hcv _ rt
      subst ec
      obtain ⟨hget, _⟩ := I.pin (a, oe) (List.mem_append.mpr (.inl hp))
      obtain ⟨od, J⟩ := instAt I.hok hget hz hf hd
      obtain ⟨cd, hc, _⟩ := PySem.W.any_some C.hd
      exact PySem.W.kia_one (PySem.W.kitx_exc (by rw [hc]; rfl) C.hg C.hk C.hs C.ha C.hn C.ht C.hm) I.kIn J e (fun z => nomatch z) fun tk => ⟨.bl b, H, I.kept (t' := tk) fun _ _ z => z, rfl, q⟩
/-- e.f of a pinned exception that has its dict -/
def tXfD (K : PySem.W.Frag) (a : Addr) (cls : Value) (d : Option Addr) (n : Str) (te : TE) : TE := fun σ H Q => te σ H fun x H1 => ∃ (C dd : Addr) (fs : List (Str × V)) (v : V), x = .ref a ∧ cls = .ref C ∧ XfC K C ∧ PySem.W.findIn K (.ref C) n = some none ∧ d = some dd ∧ H1 dd = some (.xd fs) ∧ fs.lookup n = some v ∧ Q v H1
theorem pe_xfD {X : Cx} {a : Addr} {oe : Obj} {cls : Value} {d : Option Addr} {e : Expr} {te : TE} {pos : Pos} {n : Str} (hp : (a, oe) ∈ X.pn) (hz : Zc cls d oe) (hf : ∃ vs, oe.data = .fields vs) (he : PE X e te)
    (hb : attributeBase e n X.env (eval e X.env) = eval e X.env := by rfl) : PE X (.Attribute e n pos) (tXfD X.K a cls d n te) := by
  refine ⟨fun pins s σ H Q I h => ?_⟩
  refine attr_of hb (thn (he.run pins s σ H _ I h) fun u s1 hh => ?_)
  obtain ⟨x, H1, I1, rx, C, dd, fs, v, ex, ec, T, hno, ed, ea, l, q⟩ := hh
  subst ex ec ed
  obtain rfl : u = Value.ref a := rx
  obtain ⟨ha, _⟩ := I1.pin (a, oe) (List.mem_append_left _ hp)
  obtain ⟨mA, hns, hr⟩ := I1.hok dd _ ea
  obtain ⟨od, ho, hl⟩ := lookIn_ns hns
  obtain ⟨u, hu, ru⟩ := RelO.some_of (v := v) (o := mA n) (by rw [← l]; exact hr n)
  obtain ⟨vs, hv⟩ := hf
  have J : PySem.W.InstAt s1.heap a oe C (some od) := ⟨ha, hz.1, by unfold PySem.W.notCls; rw [hv] <;> rfl, by rw [hz.2]; exact ho⟩
  exact HandSPX.exc_get I1.kIn J T.ga T.gg T.exC (PySem.W.findObj_own T.hdC hno rfl (by rw [hl, hu])) (handed_of ru) ⟨v, H1, I1.tok _, ru, q⟩
theorem pe_imp {X : Cx} {e : Expr} {t t' : TE} (h : PE X e t) (w : ∀ σ H Q, t' σ H Q → t σ H Q) : PE X e t' := ⟨fun pins s σ H Q I q => h.run pins s σ H Q I (w _ _ _ q)⟩

/-! ### Base.__init__(self, ..), Base an own class that has ValueError's -/
theorem pe_reinit {X : Cx} {e : Expr} {es : List Expr} {ta : TA} {x : Str} {C0 : Addr} {p1 p2 pos : Pos} {pl : Sem Bool} (hg : Gl X x) (hm : X.mg x = some (.ref C0))
    (h1 : PySem.W.specialIn X.K (.ref C0) "__getattribute__" = some (some (.builtin "type.__getattribute__"))) (h2 : PySem.W.readsIn X.K C0 (.type "type") = true) (h3 : PySem.W.findCls X.K (.ref C0) (.type "type") "__init__" = some (.val (.builtin "ValueError.__init__")))
    (ha : PA X (e :: es) ta)
    (hc : eval (.Call (.Attribute (.Name x p1) "__init__" p2) (e :: es) [] pos) X.env = (do
      let ov ← eval (.Name x p1) X.env
      standAt p2.atName
      let (f, first) ← holding [ov] (getMethod ov "__init__" pl)
      callWith pos f first (backTo pos (starEach (e :: es) X.env)) (backToKw pos (keywordEach [] X.env))) := by rfl)
    (he : starEach (e :: es) X.env = (false, eval e X.env) :: starEach es X.env := by rfl) (hpl : (backTo pos (starEach es X.env)).any (·.1) = false := by rfl) (hdb : (x == ("__debug__" : Str)) = false := by decide) :
    PE X (.Call (.Attribute (.Name x p1) "__init__" p2) (e :: es) [] pos) (tVeI X.K ta) := by
  refine ⟨fun pins s σ H Q I h => ?_⟩
  refine PySem.W.methodCall_KW (ld_glob I hg hm ?_ hdb) hc
  refine PySem.W.method_cls I.kIn h1 (PySem.W.cls_value I.kIn h2 h3 (by decide +kernel) ?_)
  show wpAny _ _ (callWith pos (Value.builtin "ValueError.__init__") [] (backTo pos (starEach (e :: es) X.env)) []) _ _ _
  refine PyProof.Rows.callWith_method1 (thn (ha.run pos pins _ σ H _ (I.tok _) h) fun us s1 ⟨vs, H1, I1, r1, a, C, ws, ev, hl, T, ea, q⟩ => ?_) he hpl
  subst ev
  cases r1 with
  | @cons _ u0 _ ur ra rw' =>
    obtain rfl : u0 = Value.ref a := ra
    have hlen : ur.length ≤ sizeLine := by
      rw [← Paired.length rw', sizeLine_eq]
      omega
    exact oinit_ok T I1 ea hlen fun s' J => ⟨.non, H1, J, rfl, q⟩

/-! ### raise C(e), C with its own __init__, its context None -/
theorem pmk_oexN {X : Cx} {CX : CXT} {x : Str} {e : Expr} {es : List Expr} {ta : TA} {p pos : Pos} {C fI : Addr} {k : Nat} {fd : FuncData} {ps : List Str} {sp : Sp} {ds : List Value} {dvs : List V} (T : OexC X.K C) (iC : PySem.W.findIn X.K (.ref C) "__init__" = some (some (.ref fI))) (tI : PySem.W.typeIn X.K (.ref fI) = some (.type "function"))
    (F1 : FnOk X.prog X.w X.K X.mg X.base CX k fI fd ps sp) (hr : Room (k + 1) X.A) (hb : Binds X.K fd ps ds) (hd : Vals dvs ds) (hx : Passes CX X (fun _ _ _ => False)) (hg : Gl X x) (hm : X.mg x = some (.ref C)) (ha : PA X (e :: es) ta)
    (hdb : (x == ("__debug__" : Str)) = false := by decide) (he : starEach (e :: es) X.env = (false, eval e X.env) :: starEach es X.env := by rfl) (hpl : (backTo pos (starEach es X.env)).any (·.1) = false := by rfl) :
    L2N.PMk X (.Call (.Name x p) (e :: es) [] pos) (tMkO C sp dvs ta) := by
  intro pins s σ H Q I h
  obtain ⟨nm, q, N, bs, bm, sn, sub, ab, col, dd, k0, k1, k2, k3, k5, hC, hbm⟩ := T.cls
  refine wpAny_Call_Name_kw (ld_glob I hg hm ?_ hdb)
  refine PySem.W.callWith_K (h₀ := X.base) I.ok.mod.kin T.kC (thn (ha.run pos pins s σ H _ I h) fun us s1 ⟨vs, H1, I1, r1, hz, q1⟩ => ⟨I1.kIn, ?_⟩) he hpl
  show wpAny _ _ (call (.ref C) us) _ _ _
  obtain ⟨hp, g, dr, tk, os⟩ := s1
  have hsz : hp.objs.size ≤ hp.objs.size + 1 := Nat.le_succ _
  have hn : H1 (hp.objs.size + 1) = none := I1.hok.fresh hsz
  have hq := q1 (hp.objs.size + 1) hn
  have kk : ∀ b o, hp.get? b = some o → ((hp.push (PySem.W.kdv_tup us)).push (PySem.HandSPX.excO C hp.objs.size)).get? b = some o := fun b o e => Heap.get?_push_of_some _ (Heap.get?_push_of_some _ e)
  have hget : ((hp.push (PySem.W.kdv_tup us)).push (PySem.HandSPX.excO C hp.objs.size)).get? (hp.objs.size + 1) = some (PySem.HandSPX.excO C hp.objs.size) := by heap_get
  have I2 : Inv X pins σ (upd H1 (hp.objs.size + 1) (exo (hp.objs.size + 1) C none)) ⟨(hp.push (PySem.W.kdv_tup us)).push (PySem.HandSPX.excO C hp.objs.size), g, dr, tk, os⟩ :=
    I1.laid (t' := tk) (a := hp.objs.size + 1) (o := exo (hp.objs.size + 1) C none) (h' := (hp.push (PySem.W.kdv_tup us)).push (PySem.HandSPX.excO C hp.objs.size)) kk hsz (exo_ok hget)
  have r2 : Vals (V.ref (hp.objs.size + 1) :: (vs ++ dvs)) (Value.ref (hp.objs.size + 1) :: (us ++ ds)) := .cons rfl (r1.append hd)
  have hl : (Value.ref (hp.objs.size + 1) :: us ++ ds).length = ps.length := by
    have e := r2.length
    rw [F1.len _ _ _ _ hq] at e
    exact e.symm
  have hus : us.length ≤ sizeLine := by
    rw [← Paired.length r1, sizeLine_eq]
    omega
  refine wpAny_call (PySem.HandSPX.call_own F.excBase_ValueError (fun Y => PySem.HandSPX.refsVE_contains Y bm hbm) (I1.kIn _ _ hC) (PySem.W.looks_findIn I1.kIn iC) (fun self => PySem.W.bind_fn I1.kIn self tI) hus
    (codeAny_mono (F1.run _ X.stack _ _ ⟨Value.ref (hp.objs.size + 1) :: us, []⟩ (Value.ref (hp.objs.size + 1) :: (us ++ ds)) _ _ (fun _ _ _ => False) (hr.make C us []) (I2.env0.make C us []) (hb _ (Value.ref (hp.objs.size + 1) :: us) I2.kIn hl) r2 hq) fun r s' hq' => ?_))
  cases r with
  | error er => exact hx pins σ _ _ er s' I2 hq'
  | ok fl =>
    cases fl with
    | ret u =>
      obtain ⟨v, H2, os2, bare2, un2, hok2, rv, ev, d, fs, ea, ed, hd1, q2⟩ := hq'
      subst ev
      obtain ⟨h2, g2, d2, t2, os'⟩ := s'
      obtain ⟨t0, G, J, kG, ge, hoe, na⟩ := mk_end0 (d2 := d2) (t2 := t2) I1 hsz kk un2 hok2 os2 bare2 ea ed hd1
      refine ⟨rv, ⟨hp.objs.size + 1, _, _, ⟨G, g2, d2, t2, os'⟩, _, .ref C, some d, rfl, J, kG, ge, hoe, ⟨rfl, rfl, fun vs hv => ?_⟩, rfl, rfl, na, rfl, bare2, raises_own T.exC T.tyC, q2⟩⟩
      cases hv
      rfl
    | next => exact False.elim hq'
    | brk => exact False.elim hq'
    | cont => exact False.elim hq'
/-- raise C(), C without an own __init__ -/
theorem pmk_own0 {X : Cx} {C : Addr} {bmB : List Value} {B newId initId : String} {x : Str} {p pos : Pos} (F : ExcBaseFacts B newId initId bmB) (q : PySem.W.excIn X.K C bmB newId = true) (gC : X.mg x = some (.ref C)) (kC : PySem.W.keepIn X.K (.ref C) = true) (r : Raises X (.ref C)) (hg : Gl X x)
    (hdb : (x == ("__debug__" : Str)) = false := by decide) : L2N.PMk X (.Call (.Name x p) [] [] pos) (fun _ H Q => Q (.ref C) none H) := by
  intro pins s σ H Q I h
  refine wpAny_Call_Name_kw (ld_glob I hg gC ?_ hdb)
  refine PySem.W.callWith_K0 I.kIn kC ?_
  show wpAny _ _ (call (.ref C) []) _ _ _
  obtain ⟨bm, N, nm, qn, bs, hdct, sn, sub, ab, col, dd, k0, k1, k2, k3, k5, mN, hC, hN, hni, T⟩ := exc_obj I.kIn q
  refine wpAny_call_exc_subT F T hC hN hni (fun h' e hm => ?_) (by show 0 ≤ sizeLine; omega)
  exact L2N.mk_of I hm r h (I.hok.gone hm.new)
end Rd
set_option maxRecDepth 100000
set_option maxHeartbeats 4000000
namespace PySem
namespace RdX
open PySem.HandSPX
/-! ### C(at=v): an own exception class over ValueError called with keywords alone -/
section
variable {M : Model} {prog : Program} {w : World} {A : Around} {E : Value → Shared → Prop} {R : Result → Shared → Prop} {h : Heap} {g : Array GenState} {d : Drawn} {t : Nat} {os : OsState}
variable {nm q : Str} {C N : Addr} {bs bm : List Value} {hdct : Bool} {sn : List Str} {sub : List Value} {ab : Bool} {col : Option Bool} {dd : Option Addr} {k0 k1 k2 k3 k5 : Option Value} {kw : List (Str × Value)}
theorem kw_check_type (hC : h.get? C = some (excClassObj nm q C N bs bm hdct sn sub ab col dd k0 k1 k2 k3 k5 "ValueError.__new__")) {Q : Unit → Shared → Prop}
    (hq : Q () ⟨h, g, d, t, os⟩) : wpAny M A (checkBuiltinCall "type.__call__" ⟨[.ref C], kw⟩) Q E ⟨h, g, d, t, os⟩ := by
  have typ : W.Looks M h (isInstance (.ref C) (.type "type")) true :=
    W.Looks.andThen (a := .type "type") (fun A Q E s k q => wpAny_typeOf_ref (k _ _ hC) q) (by show W.Looks M h (isSubtype (.type "type") (.type "type")) true; rw [tc_sub]; exact .now)
  exact W.check_slot tc_kind tc_split typ (W.tc_args _ _ _) hq
theorem kw_check_new (hbm : refsVE bm = true) (hC : h.get? C = some (excClassObj nm q C N bs bm hdct sn sub ab col dd k0 k1 k2 k3 k5 "ValueError.__new__")) {Q : Unit → Shared → Prop}
    (hq : Q () ⟨h, g, d, t, os⟩) : wpAny M A (checkBuiltinCall "ValueError.__new__" ⟨[.ref C], kw⟩) Q E ⟨h, g, d, t, os⟩ := by
  have F := F.excBase_ValueError
  have hB : (Value.ref C :: bm).contains (.type "ValueError") = true := by rw [List.contains_cons, refsVE_contains _ bm hbm, F.hasB, Bool.or_true]
  simp only [checkBuiltinCall, F.newKind, F.newSplit, F.newRow]
  repeat (first | refine wpAny_loadPart_at hC ?_ | (refine wpAny_isSubtype_exc hC ?_; rw [hB]) | refine wpAny_staticBase_exc hC ?_ | refine wpAny_madeBy_exc hC ?_ | simp only [bne_self_eq_false, Bool.false_eq_true, if_false] | wp_step)
  exact hq
theorem kw_new (hbm : refsVE bm = true) (hC : h.get? C = some (excClassObj nm q C N bs bm hdct sn sub ab col dd k0 k1 k2 k3 k5 "ValueError.__new__"))
    (hq : R (.ok (.ret (.ref (h.objs.size + 1)))) ⟨(h.push (W.kdv_tup [])).push (excO C h.objs.size), g, d, t, os⟩) :
    codeAny (model prog w) A (.builtin "ValueError.__new__" ⟨[.ref C], kw⟩) R ⟨h, g, d, t, os⟩ := by
  have F := F.excBase_ValueError
  have hends := F.ends
  have c1 : (Value.ref C :: bm).contains (.type "ValueError") = true := by rw [List.contains_cons, refsVE_contains _ bm hbm, F.hasB, Bool.or_true]
  have c2 : (Value.ref C :: bm).contains (.type "AttributeError") = false := by rw [List.contains_cons, refsVE_contains _ bm hbm, F.noAttr]; rfl
  have c3 : (Value.ref C :: bm).contains (.type "NameError") = false := by rw [List.contains_cons, refsVE_contains _ bm hbm, F.noName]; rfl
  refine codeAny_builtinAt F.entry ?_
  unfold Builtin.«BaseException.__new__»
  refine wpAt_bind ?_
  show wpAt _ _ _ (stack >>= _) _ _ _
  refine wpAt_bind (wpAt_stack fun p below => wpAt_of_wpAny ?_)
  wp_walk
  refine wpAt_of_wpAny ?_
  rw [F.owner]
  have hz : ([] : List Value).length ≤ sizeLine := Nat.zero_le _
  repeat (first | with_reducible refine wpAny_madeHere_exc F.canon hC ?_ | with_reducible refine wpAny_loadPart_at hC ?_ | (with_reducible refine wpAny_isSubtype_exc hC ?_; first | rw [c1] | rw [c2] | rw [c3]) | wp_step)
  show R _ _
  rw [Heap.size_push]
  exact hq
theorem kw_type_call {fI : Addr} {Q : Fin → Shared → Prop} (hbm : refsVE bm = true) (hC : h.get? C = some (excClassObj nm q C N bs bm hdct sn sub ab col dd k0 k1 k2 k3 k5 "ValueError.__new__"))
    (hi : W.Looks (model prog w) h (typeLookup (.ref C) "__init__") (some (.ref fI))) (hb : ∀ self, W.Looks (model prog w) h (bindSpecial (.ref fI) self) (.ref fI, [self]))
    (hq : codeAny (model prog w) A (.call (.ref fI) ⟨[.ref (h.objs.size + 1)], kw⟩)
      (fun r s' => match r with | .ok (.ret v) => v = .none ∧ Q (.done (.ret (.ref (h.objs.size + 1)))) s' | .ok _ => False | .error e => E e s') ⟨(h.push (W.kdv_tup [])).push (excO C h.objs.size), g, d, t, os⟩) :
    wpAny (model prog w) A (Builtin.«type.__call__» ⟨[.ref C], kw⟩) Q E ⟨h, g, d, t, os⟩ := by
  repeat (first | with_reducible refine wpAny_loadPart_at hC ?_ | with_reducible refine wpAny_madeBy_exc hC ?_ | wp_step)
  refine codeAny_call_builtin_code (Code.quiet_builtin _ F.excBase_ValueError.quiet) (kw_check_new hbm hC ?_)
  refine kw_new hbm hC ?_
  show wpAny _ _ _ _ _ _
  have k : ∀ b o, h.get? b = some o → ((h.push (W.kdv_tup [])).push (excO C h.objs.size)).get? b = some o := fun b o e => Heap.get?_push_of_some _ (Heap.get?_push_of_some _ e)
  have hC1 := k _ _ hC
  have hx : ((h.push (W.kdv_tup [])).push (excO C h.objs.size)).get? (h.objs.size + 1) = some (excO C h.objs.size) := by heap_get
  have cC : (Value.ref C :: bm).contains (.ref C) = true := by simp
  have i1 := hi.keeps k
  have b1 := (hb (.ref (h.objs.size + 1))).keeps k
  unfold isInstance
  repeat (first | with_reducible refine wpAny_loadPart_at hx ?_ | (with_reducible refine wpAny_isSubtype_exc hC1 ?_; rw [cC]) | wp_step)
  show wpAny _ _ (typeLookup (.ref C) _) _ _ _
  refine i1.at ?_
  refine wpAny_holding (wpAny_bind (b1.at ?_))
  refine wpAny_bind (wpAny_call (codeAny_mono hq fun r s' z => ?_))
  rcases r with e | (v | _ | _ | _) <;> first | exact z | exact z.elim | skip
  obtain ⟨rfl, z⟩ := z
  first
    | exact wpAny_pure (wpAny_pure z)
    | (wp_walk; exact z)
theorem kw_call {fI : Addr} (hbm : refsVE bm = true) (hC : h.get? C = some (excClassObj nm q C N bs bm hdct sn sub ab col dd k0 k1 k2 k3 k5 "ValueError.__new__"))
    (hi : W.Looks (model prog w) h (typeLookup (.ref C) "__init__") (some (.ref fI))) (hb : ∀ self, W.Looks (model prog w) h (bindSpecial (.ref fI) self) (.ref fI, [self]))
    (hq : codeAny (model prog w) (A.under (.builtin "type.__call__" ⟨[.ref C], kw⟩)) (.call (.ref fI) ⟨[.ref (h.objs.size + 1)], kw⟩) (W.InitBack (h.objs.size + 1) R) ⟨(h.push (W.kdv_tup [])).push (excO C h.objs.size), g, d, t, os⟩) :
    codeAny (model prog w) A (.call (.ref C) ⟨[], kw⟩) R ⟨h, g, d, t, os⟩ := by
  have f1 := tc_lookup
  have f2 := tc_bind (.ref C)
  have hTy : (⟨h, g, d, t, os⟩ : Shared).TypeIs (.ref C) "type" := ⟨_, hC, rfl⟩
  refine codeAny_of_tree ?_
  show wpAny _ _ (callAny (.ref C) _) _ _ _
  repeat (any_goals (first | assumption | with_reducible refine wpAny_loadPart_at hC ?_ | wp_step))
  refine ⟨rfl, ?_⟩
  refine codeAny_call_builtin_at (Code.quiet_builtin _ (by decide +kernel)) entry_typeCall (kw_check_type hC (kw_type_call hbm hC hi hb ?_))
  refine codeAny_mono hq fun r s' z => ?_
  rcases r with e | (v | _ | _ | _) <;> exact z
end
end RdX
end PySem
set_option maxRecDepth 100000
set_option maxHeartbeats 4000000
namespace Rd
open PySem PySem.Spec PyProof.Rows L2

/-- C(at=e) as a value: an exception of the class at C, as its own __init__ leaves it -/
def tMkE (C : Addr) (sp : Sp) (tk : TA) : TE := fun σ H Q => tk σ H fun vs H1 => ∀ a, H1 a = none → sp (.ref a :: vs) (upd H1 a (exo a C none)) (fun v H2 => v = .non ∧ Q (.ref a) H2) fun _ _ _ => False
theorem pe_mkE {X : Cx} {CX : CXT} {x : Str} {kws : List Keyword} {tk : TA} {p pos : Pos} {C fI : Addr} {k : Nat} {fd : FuncData} {ps ks : List Str} {sp : Sp} (T : OexC X.K C) (iC : PySem.W.findIn X.K (.ref C) "__init__" = some (some (.ref fI))) (tI : PySem.W.typeIn X.K (.ref fI) = some (.type "function"))
    (F1 : FnOk X.prog X.w X.K X.mg X.base CX k fI fd ps sp) (hr : Room (k + 1) X.A) (hb : ∀ (s : Shared) (u : Value) (ws : List Value), X.K.In s.heap → (u :: ws).length = ps.length → BindsTo s fd ⟨[u], ks.zip ws⟩ (ps.zip (u :: ws))) (hx : Passes CX X (fun _ _ _ => False)) (hg : Gl X x) (hm : X.mg x = some (.ref C)) (hkw : PK X kws tk)
    (hall : (backToKw pos (keywordEach kws X.env)).all (·.1.isSome) = true := by rfl) (hks : (backToKw pos (keywordEach kws X.env)).filterMap (·.1) = ks := by rfl) (hdb : (x == ("__debug__" : Str)) = false := by decide)
    (hpl : ((backTo pos (starEach [] X.env)).any (·.1) || (backToKw pos (keywordEach kws X.env)).any (·.1.isNone)) = false := by rfl) :
    PE X (.Call (.Name x p) [] kws pos) (tMkE C sp tk) := by
  refine ⟨fun pins s σ H Q I h => ?_⟩
  obtain ⟨nm, q, N, bs, bm, sn, sub, ab, col, dd, k0, k1, k2, k3, k5, hC, hbm⟩ := T.cls
  refine wpAny_Call_Name_kw (ld_glob I hg hm ?_ hdb)
  refine PySem.W.callWith_KW0 (h₀ := X.base) I.ok.mod.kin T.kC hall ?_ hpl
  refine thn (hkw.run pos pins s σ H _ I h) fun ws s1 ⟨vs, H1, I1, r1, q1⟩ => ⟨I1.kIn, ?_⟩
  rw [hks]
  show wpAny _ _ (call (.ref C) [] (ks.zip ws)) _ _ _
  obtain ⟨hp, g, dr, tk, os⟩ := s1
  have hsz : hp.objs.size ≤ hp.objs.size + 1 := Nat.le_succ _
  have hn : H1 (hp.objs.size + 1) = none := I1.hok.fresh hsz
  have hq := q1 (hp.objs.size + 1) hn
  have kk : ∀ b o, hp.get? b = some o → ((hp.push (PySem.W.kdv_tup [])).push (PySem.HandSPX.excO C hp.objs.size)).get? b = some o := fun b o e => Heap.get?_push_of_some _ (Heap.get?_push_of_some _ e)
  have hget : ((hp.push (PySem.W.kdv_tup [])).push (PySem.HandSPX.excO C hp.objs.size)).get? (hp.objs.size + 1) = some (PySem.HandSPX.excO C hp.objs.size) := by heap_get
  have I2 : Inv X pins σ (upd H1 (hp.objs.size + 1) (exo (hp.objs.size + 1) C none)) ⟨(hp.push (PySem.W.kdv_tup [])).push (PySem.HandSPX.excO C hp.objs.size), g, dr, tk, os⟩ :=
    I1.laid (t' := tk) (a := hp.objs.size + 1) (o := exo (hp.objs.size + 1) C none) (h' := (hp.push (PySem.W.kdv_tup [])).push (PySem.HandSPX.excO C hp.objs.size)) kk hsz (exo_ok hget)
  have r2 : Vals (V.ref (hp.objs.size + 1) :: vs) (Value.ref (hp.objs.size + 1) :: ws) := .cons rfl r1
  have hl : (Value.ref (hp.objs.size + 1) :: ws).length = ps.length := by
    rw [← r2.length]
    exact F1.len _ _ _ _ hq
  refine wpAny_call (PySem.RdX.kw_call hbm (I1.kIn _ _ hC) (PySem.W.looks_findIn I1.kIn iC) (fun self => PySem.W.bind_fn I1.kIn self tI)
    (codeAny_mono (F1.run _ X.stack _ _ ⟨[Value.ref (hp.objs.size + 1)], ks.zip ws⟩ (Value.ref (hp.objs.size + 1) :: ws) _ _ (fun _ _ _ => False) (hr.make C [] (ks.zip ws)) (I2.env0.make C [] (ks.zip ws)) (hb _ _ ws I2.kIn hl) r2 hq) fun r s' hq' => ?_))
  cases r with
  | error er => exact hx pins σ _ _ er s' I2 hq'
  | ok fl =>
    cases fl with
    | ret u =>
      obtain ⟨v, H2, I3, rv, ev, q3⟩ := I2.after hq'
      subst ev
      exact ⟨rv, ⟨V.ref (hp.objs.size + 1), H2, I3, rfl, q3⟩⟩
    | next => exact False.elim hq'
    | brk => exact False.elim hq'
    | cont => exact False.elim hq'

/-- e.f, e such an exception with its dict -/
def tExF (K : PySem.W.Frag) (n : Str) (te : TE) : TE := fun σ H Q => te σ H fun x H1 => ∃ (a C d : Addr) (fs : List (Str × V)) (v : V), x = .ref a ∧ XfC K C ∧ PySem.W.findIn K (.ref C) n = some none ∧ H1 a = some (exo a C (some d)) ∧ H1 d = some (exd d fs) ∧ fs.lookup n = some v ∧ Q v H1
theorem pe_exF {X : Cx} {e : Expr} {te : TE} {pos : Pos} {n : Str} (he : PE X e te) (hb : attributeBase e n X.env (eval e X.env) = eval e X.env := by rfl) : PE X (.Attribute e n pos) (tExF X.K n te) := by
  refine ⟨fun pins s σ H Q I h => ?_⟩
  refine attr_of hb (thn (he.run pins s σ H _ I h) fun u s1 hh => ?_)
  obtain ⟨x, H1, I1, rx, a, C, d, fs, v, ex, T, hno, ea, ed, l, q⟩ := hh
  subst ex
  obtain rfl : u = Value.ref a := rx
  obtain ⟨t1, ho⟩ := exo_at I1.hok ea
  obtain ⟨mA, hns, hr⟩ := exd_at I1.hok ed
  obtain ⟨od, hod, hl⟩ := lookIn_ns hns
  obtain ⟨u, hu, ru⟩ := RelO.some_of (v := v) (o := mA n) (by rw [← l]; exact hr n)
  have J : PySem.W.InstAt s1.heap a _ C (some od) := ⟨ho, rfl, rfl, hod⟩
  exact HandSPX.exc_get I1.kIn J T.ga T.gg T.exC (PySem.W.findObj_own T.hdC hno rfl (by rw [hl, hu])) (handed_of ru) ⟨v, H1, I1.tok _, ru, q⟩

theorem env0_kin {P : Program} {w : World} {K : PySem.W.Frag} {mg : Str → Option Value} {base : Heap} {A : Around} {outer : List Env} {s : Shared} {H : Hp} (e0 : Env0 P w K mg base A outer s H) : K.In s.heap := e0.mod.kin.keeps fun b o e => (e0.bs b o e).1
theorem env0_nolimit {P : Program} {w : World} {K : PySem.W.Frag} {mg : Str → Option Value} {base : Heap} {A : Around} {outer : List Env} {s : Shared} {H : Hp} (e0 : Env0 P w K mg base A outer s H) : s.heap.NoLimit := e0.mod.nolimit.keeps fun b o e => (e0.bs b o e).1
theorem binds_vis {N ps : List Str} {sc : Scope} {n : Nat} (S : FnScope N ps sc) (us : List Value) : ∀ y ∈ ps.zip us, sc.names.lookup y.1 = some .local ∨ (sc.names.lookup y.1 = some .cell ∧ ((cellsFrom n sc.names []).lookup y.1).isSome = true) := fun y hy =>
  (S.par y.1 (List.of_mem_zip (show (y.1, y.2) ∈ _ from hy)).1).imp id fun q => ⟨q, PySem.W.cellsFrom_some _ _ _ (.inl q)⟩
/-- a body's end is the call's end -/
def fv : Flow → Value
  | .ret v => v
  | _ => .none
theorem body_end {X : Cx} {Q : VK} {pins : List (Addr × Obj)} {fl : Flow} {s' : Shared} (h : SP X pins { nx := fun _ H' => Q .non H', rt := Q } fl s') (hex : X.ex = []) :
    CE X.outer X.prog X.w X.H_0 X.s_0 Q (fv fl) s' := by
  cases fl with
  | ret u =>
    obtain ⟨v, _, H', J, rv, q⟩ := h
    exact ⟨v, H', J.os, J.bare, hex ▸ J.base, J.hok, rv, q⟩
  | next =>
    obtain ⟨_, H', J, q⟩ := h
    exact ⟨.non, H', J.os, J.bare, hex ▸ J.base, J.hok, rfl, q⟩
  | brk => exact h.elim fun _ h => h.elim fun _ h => h.2.elim
  | cont => exact h.elim fun _ h => h.elim fun _ h => h.2.elim
/-! ### defs that are called where no guard stands (repr is not under way) -/
structure FnG (P : Program) (w : World) (K : PySem.W.Frag) (mg : Str → Option Value) (base : Heap) (CX : CXT) (k : Nat) (f : Addr) (fd : FuncData) (ps : List Str) (sp : Sp) : Prop where
  len : ∀ vs H Q E, sp vs H Q E → vs.length = ps.length
  run : ∀ (A : Around) (outer : List Env) (s : Shared) (H : Hp) (args : Args) (us : List Value) (vs : List V) (Q : VK) (E : XK), A.guards = some [] → Room k A → Env0 P w K mg base A outer s H → BindsTo s fd args (ps.zip us) → Vals vs us → sp vs H Q E →
    codeAny (model P w) A (.call (.ref f) args) (CR CX outer P w H s Q E) s
/-- by its body -/
theorem fn_ofG {CX : CXT} {P : Program} {w : World} {K : PySem.W.Frag} {mg : Str → Option Value} {base : Heap} {k : Nat} {x qual : Str} {st : Stmt} {f : Addr} {fd : FuncData} {N ps : List Str} {sp : Sp} (F : Fun K x qual st f fd) (S : FnScope N ps (defScope st))
    (len : ∀ vs H Q E, sp vs H Q E → vs.length = ps.length)
    (hbody : ∀ (cdv : Value) (A : Around) (outer : List Env) (s : Shared) (H : Hp) (vs : List V) (Q : VK) (E : XK), A.guards = some [] → Room k (A.deeper (envOfC qual (defScope st) s.heap.objs.size f cdv)) → sp vs H Q E →
      ∃ t, PSs (cxOf CX P w K mg base N qual (defScope st) f cdv A outer s H E) (defBody st) t ∧ t { nx := fun _ H' => Q .non H', rt := Q } (start N vs) H) :
    FnG P w K mg base CX (k + 1) f fd ps sp := by
  refine ⟨len, fun A outer s H args us vs Q E hgd hr e0 hb r hsp => ?_⟩
  obtain ⟨oc, od, kV, doc, pm, an, cdv, ct, osl, rfl, lk, hcd⟩ := F.ex
  have hl := len _ _ _ _ hsp
  refine codeAny_call_function hr.depth (env0_kin e0 _ _ lk) rfl S.co S.gen rfl (PySem.W.codeRec_of (env0_kin e0) hcd) (hb _ _ _ _ ?_)
  refine wpAny_newFunctionEnv_cells S.kind (binds_vis S us) fun env he s1 x => ?_
  subst he
  refine ⟨(env0_nolimit e0).keeps x.toInCall.keep, codeAny_func ?_⟩
  obtain ⟨t, ht, hq⟩ := hbody cdv A outer s H vs Q E hgd (hr.deeper _) hsp
  exact wpAny_mono (ht.run [] s1 (start N vs) H _ (inv_start S hr.hd e0 hl r x) hq) (fun fl s' hs => (by cases fl <;> exact body_end hs rfl)) fun e s' hs => hs

/-! ### defs that are called while an exception is handled, and that know its object -/
structure FnP (P : Program) (w : World) (K : PySem.W.Frag) (mg : Str → Option Value) (base : Heap) (CX : CXT) (k : Nat) (f : Addr) (fd : FuncData) (ps : List Str) (sp : Addr × Obj → Sp) : Prop where
  len : ∀ p vs H Q E, sp p vs H Q E → vs.length = ps.length
  run : ∀ (A : Around) (outer : List Env) (s : Shared) (H : Hp) (args : Args) (us : List Value) (vs : List V) (Q : VK) (E : XK) (p : Addr × Obj), L2H.RoomH k A → L2H.Hot1 A p → L2H.PinOk outer H s p → Env0 P w K mg base A outer s H → BindsTo s fd args (ps.zip us) → Vals vs us → sp p vs H Q E →
    codeAny (model P w) A (.call (.ref f) args) (CR CX outer P w H s Q E) s
theorem fn_ofP {CX : CXT} {P : Program} {w : World} {K : PySem.W.Frag} {mg : Str → Option Value} {base : Heap} {k : Nat} {x qual : Str} {st : Stmt} {f : Addr} {fd : FuncData} {N ps : List Str} {sp : Addr × Obj → Sp} (F : Fun K x qual st f fd) (S : FnScope N ps (defScope st))
    (len : ∀ p vs H Q E, sp p vs H Q E → vs.length = ps.length)
    (hbody : ∀ (cdv : Value) (A : Around) (outer : List Env) (s : Shared) (H : Hp) (vs : List V) (Q : VK) (E : XK) (p : Addr × Obj), L2H.Hot1 A p → L2H.RoomH k (A.deeper (envOfC qual (defScope st) s.heap.objs.size f cdv)) → sp p vs H Q E →
      ∃ t, PSs (L2H.cxH CX P w K mg base N qual (defScope st) f cdv A outer s H E p) (defBody st) t ∧ t { nx := fun _ H' => Q .non H', rt := Q } (start N vs) H) :
    FnP P w K mg base CX (k + 1) f fd ps sp := by
  refine ⟨len, fun A outer s H args us vs Q E p hr hot hpin e0 hb r hsp => ?_⟩
  obtain ⟨oc, od, kV, doc, pm, an, cdv, ct, osl, rfl, lk, hcd⟩ := F.ex
  have hl := len _ _ _ _ _ hsp
  refine codeAny_call_function hr.depth (env0_kin e0 _ _ lk) rfl S.co S.gen rfl (PySem.W.codeRec_of (env0_kin e0) hcd) (hb _ _ _ _ ?_)
  refine wpAny_newFunctionEnv_cells S.kind (binds_vis S us) fun env he s1 x => ?_
  subst he
  refine ⟨(env0_nolimit e0).keeps x.toInCall.keep, codeAny_func ?_⟩
  obtain ⟨t, ht, hq⟩ := hbody cdv A outer s H vs Q E p hot (hr.deeper _) hsp
  exact wpAny_mono (ht.run [] s1 (start N vs) H _ (L2H.inv_startH S hpin e0 hl r x) hq) (fun fl s' hs => (by cases fl <;> exact body_end hs rfl)) fun e s' hs => hs
end Rd
set_option maxRecDepth 100000
set_option maxHeartbeats 4000000
namespace Rd
open PySem PySem.Spec PyProof.Rows L2
abbrev St := L2.St
section
variable {X : Cx} {CX : CXT} {k : Nat} {f : Addr} {fd : FuncData} {ps : List Str} {sp : Sp} {E : XK} {x : Str} {p pos : Pos} {e : Expr} {es : List Expr} {t : TA}
/-- a call's end in the caller's context -/
theorem call_end {pins : List (Addr × Obj)} {σ : St} {H : Hp} {s s' : Shared} {Q : VK} {r : Result} (I : Inv X pins σ H s) (hx : ∀ e s', CX X.stack H s E e s' → X.xe e s') (hq : CR CX X.stack X.prog X.w H s Q E r s') :
    (∃ u, r = .ok (.ret u) ∧ EP X pins σ Q u s') ∨ ∃ e, r = .error e ∧ X.xe e s' := by
  cases r with
  | error e => exact .inr ⟨e, rfl, hx e s' hq⟩
  | ok fl =>
    cases fl with
    | ret u => exact .inl ⟨u, rfl, I.after hq⟩
    | next => exact False.elim hq
    | brk => exact False.elim hq
    | cont => exact False.elim hq
theorem call_back {pins : List (Addr × Obj)} {σ : St} {Q : VK} {r : Result} {s' : Shared} (h : (∃ u, r = .ok (.ret u) ∧ EP X pins σ Q u s') ∨ ∃ e, r = .error e ∧ X.xe e s') :
    (match r with | .ok (.ret v) => EP X pins σ Q v s' | .ok _ => False | .error e => X.xe e s') := by
  rcases h with ⟨u, rfl, q⟩ | ⟨e, rfl, q⟩ <;> exact q
theorem run_fnG {pins : List (Addr × Obj)} {σ : St} {H : Hp} {s : Shared} {Q : VK} {us : List Value} {vs : List V} (F : FnG X.prog X.w X.K X.mg X.base CX k f fd ps sp) (hgd : X.A.guards = some []) (hr : Room k X.A) (hb : Binds X.K fd ps []) (hx : Passes CX X E)
    (I : Inv X pins σ H s) (r : Vals vs us) (h : sp vs H Q E) : wpAny (model X.prog X.w) X.A (call (.ref f) us) (EP X pins σ Q) X.xe s := by
  have hl : us.length = ps.length := by rw [← r.length]; exact F.len _ _ _ _ h
  have b := hb s us I.kIn (by rw [List.append_nil]; exact hl)
  rw [List.append_nil] at b
  refine wpAny_call (codeAny_mono (F.run X.A X.stack s H ⟨us, []⟩ us vs Q E hgd hr I.env0 b r h) fun r s' hq => ?_)
  have z := call_back (call_end I (fun e s' => hx pins σ H s e s' I) hq)
  rcases r with e | (v | _ | _ | _) <;> exact z
theorem pe_callG (F : FnG X.prog X.w X.K X.mg X.base CX k f fd ps sp) (hgd : X.A.guards = some []) (hr : Room k X.A) (hg : Gl X x) (hm : X.mg x = some (.ref f)) (hk : PySem.W.keepIn X.K (.ref f) = true) (hb : Binds X.K fd ps []) (hx : Passes CX X E)
    (ha : PA X (e :: es) t) (hdb : (x == ("__debug__" : Str)) = false := by decide) (he : starEach (e :: es) X.env = (false, eval e X.env) :: starEach es X.env := by rfl) (hpl : (backTo pos (starEach es X.env)).any (·.1) = false := by rfl) :
    PE X (.Call (.Name x p) (e :: es) [] pos) (tCall sp [] E t) := by
  refine ⟨fun pins s σ H Q I h => ?_⟩
  refine wpAny_Call_Name_kw (ld_glob I hg hm ?_ hdb)
  refine PySem.W.callWith_K (h₀ := X.base) I.ok.mod.kin hk (thn (ha.run pos pins s σ H _ I h) fun us s1 ⟨vs, H1, I1, r, q⟩ => ⟨I1.kIn, ?_⟩) he hpl
  exact run_fnG F hgd hr hb hx I1 r (by simpa using q)
/-- f(e, ..) while the exception p is handled; f's promise knows p -/
theorem pe_callP {sp : Addr × Obj → Sp} (F : FnP X.prog X.w X.K X.mg X.base CX k f fd ps sp) {q : Addr × Obj} (hot : L2H.Hot1 X.A q) (hq : q ∈ X.pn) (hr : L2H.RoomH k X.A) (hg : Gl X x) (hm : X.mg x = some (.ref f)) (hk : PySem.W.keepIn X.K (.ref f) = true) (hb : Binds X.K fd ps []) (hx : Passes CX X E)
    (ha : PA X (e :: es) t) (hdb : (x == ("__debug__" : Str)) = false := by decide) (he : starEach (e :: es) X.env = (false, eval e X.env) :: starEach es X.env := by rfl) (hpl : (backTo pos (starEach es X.env)).any (·.1) = false := by rfl) :
    PE X (.Call (.Name x p) (e :: es) [] pos) (tCall (sp q) [] E t) := by
  refine ⟨fun pins s σ H Q I h => ?_⟩
  refine wpAny_Call_Name_kw (ld_glob I hg hm ?_ hdb)
  refine PySem.W.callWith_K (h₀ := X.base) I.ok.mod.kin hk (thn (ha.run pos pins s σ H _ I h) fun us s1 ⟨vs, H1, I1, r, h1⟩ => ⟨I1.kIn, ?_⟩) he hpl
  have h2 : sp q vs H1 Q E := by simpa using h1
  have hl : us.length = ps.length := by rw [← r.length]; exact F.len _ _ _ _ _ h2
  have b := hb s1 us I1.kIn (by rw [List.append_nil]; exact hl)
  rw [List.append_nil] at b
  have P1 := I1.pin q (List.mem_append_left _ hq)
  have hpin : L2H.PinOk X.stack H1 s1 q := ⟨P1.1, P1.2.1, fun hmm => (List.mem_cons.mp (I1.stkSub q.1 hmm)).elim P1.2.2.1 P1.2.2.2.1, P1.2.2.2.2⟩
  refine wpAny_call (codeAny_mono (F.run X.A X.stack s1 H1 ⟨us, []⟩ us vs Q E q hr hot hpin I1.env0 b r h2) fun r s' hq => ?_)
  have z := call_back (call_end I1 (fun e s' => hx pins σ H1 s1 e s' I1) hq)
  rcases r with e | (v | _ | _ | _) <;> exact z
end

/-! ### [elt for x in range(n)] while an exception is handled -/
/-- D the new list; Pv by the turn -/
def tLcR (n : Nat) (g : TG) (te : TE) (vs : List Nat) : TE := fun σ H Q => ∀ D, H D = none → ∃ Pv : Nat → Hp → Prop, Pv 0 (upd H D (.lst [])) ∧
  (∀ i H1, i < n → Pv i H1 → g (.int (i : Int)) (wipe σ vs) H1 fun σ2 H2 => wipe σ2 vs = wipe σ vs ∧ te σ2 H2 fun y H4 => ∃ acc, H4 D = some (.lst acc) ∧ acc.length < sizeLine ∧ Pv (i + 1) (upd H4 D (.lst (acc ++ [y])))) ∧
  ∀ H1, Pv n H1 → Q (.ref D) H1
section
variable {X : Cx}
/-- a walk over range(n), whatever is handled -/
theorem range_at {n : Nat} {j : Nat} {cp p rp : Pos} {pins : List (Addr × Obj)} {σ : St} {H : Hp} {s : Shared} (hn : n < 2 ^ 62) (hgl : Gl X "range") (hm : X.mg "range" = none) (I : Inv X pins σ H s) :
    wpAny (model X.prog X.w) X.A (eval (.Call (.Name "range" p) [.Constant (.int (n : Int)) j cp] [] rp) X.env) (fun v s1 => wpAny (model X.prog X.w) X.A (pyIter v)
      (fun itv s2 => ∃ it, itv = .ref it ∧ Inv X pins σ H s2 ∧ IsRangeIter s2.heap it ((0 : Nat) : Int) ((n : Int) - ((0 : Nat) : Int)) 1 ∧ FpOk X pins H it) X.xe s1) X.xe s := by
  have ha : PA X [.Constant (.int (n : Int)) j cp] (tCons (tC (.int n)) tNil) := pa_cons pe_int pa_nil
  refine Call_ (ld_blt I hgl hm boot_range (PyProof.Rows.callWith_type1 (thn (ha.run rp pins s σ H (fun vs H1 => vs = [.int (n : Int)] ∧ H1 = H) I ⟨rfl, rfl⟩) fun us s1 hx => ?_) rfl rfl))
  obtain ⟨vs, H1, I1, r1, ev, eH⟩ := hx
  subst ev
  subst eH
  obtain ⟨u, rfl, t, rfl⟩ := vals1 r1
  refine call_range_1 ?_
  refine wpAny_pyIter_range (IsRange.new ..) (small_one (by omega) (by omega) (by omega) (by omega)) ?_
  have I2 : Inv X pins σ H1 { s1 with heap := s1.heap.push { cls := .type "range", data := .fields #[.int 0 s1.toks, .int (n : Int) t, .int 1 (s1.toks + 1)] }, toks := s1.toks + 1 + 1 } := I1.kept fun b o e => Heap.get?_push_of_some _ e
  refine ⟨_, rfl, I2.kept (t' := s1.toks + 1 + 1) fun b o e => Heap.get?_push_of_some _ e, ?_, I2.fpOk (Nat.le_refl _) (I2.hok.fresh (Nat.le_refl _))⟩
  have e2 : (n : Int) - ((0 : Nat) : Int) = Builtin.Range.rangeSize 0 (n : Int) 1 := by rw [rangeSize_one]; split <;> omega
  rw [e2]
  exact Heap.get?_push_size _ rfl
theorem range_next {pins : List (Addr × Obj)} {σ : St} {H : Hp} {s : Shared} {it : Addr} {n i : Nat} {E : Value → Shared → Prop} {Q : Option Value → Shared → Prop} (I : Inv X pins σ H s) (f : FpOk X pins H it) (st : IsRangeIter s.heap it (i : Int) ((n : Int) - (i : Int)) 1) (hi : i < n)
    (h : ∀ h' t', IsRangeIter h' it ((i + 1 : Nat) : Int) ((n : Int) - ((i + 1 : Nat) : Int)) 1 → Inv X pins σ H { s with heap := h', toks := t' } → Q (some (.int (i : Int) s.toks)) { s with heap := h', toks := t' }) :
    wpAny (model X.prog X.w) X.A (pyNext (.ref it)) Q E s := by
  obtain ⟨f0, f1, f2, f3, f4, f5⟩ := f
  refine wpAny_pyNext_range_item st (by omega) fun h' st' sb => ?_
  have e1 : (i : Int) + 1 = ((i + 1 : Nat) : Int) := by omega
  have e2 : (n : Int) - (i : Int) - 1 = (n : Int) - ((i + 1 : Nat) : Int) := by omega
  rw [e1, e2] at st'
  exact h h' _ st' (I.turned (fun b o hb e => (sb.2 b hb).trans e) f0 f1 f3 f4 f5)
end
end Rd
set_option maxRecDepth 100000
set_option maxHeartbeats 4000000
namespace Rd
open PySem PySem.Spec PyProof.Rows L2 HotX
section
variable {X : Cx}
theorem pe_lcR {n : Nat} {elt tg : Expr} {scope : Scope} {own : List (Str × Nat)} {j : Nat} {cp p rp pos : Pos} {g : TG} {te : TE} (hn : n < 2 ^ 62) (hot : L2H.HotC X) (hN : X.N.Nodup) (ok : BlkOk X.N X.env.scope scope own) (hgl : Gl X "range") (hm : X.mg "range" = none)
    (hg : ∀ (s : Shared) (H : Hp) (C : Addr) (cl : List (Str × Addr)) (fp : List Addr), PG (X.blk s H scope (compEnvC scope cl C X.env) fp) tg g)
    (he : ∀ (s : Shared) (H : Hp) (C : Addr) (cl : List (Str × Addr)) (fp : List Addr), PE (X.blk s H scope (compEnvC scope cl C X.env) fp) elt te)
    (hs : ∀ x, foldedSetIterable (.Call (.Name "range" p) [.Constant (.int (n : Int)) j cp] [] rp) X.env x = pure x := by intro _; rfl) :
    PE X (.ListComp elt [⟨tg, .Call (.Name "range" p) [.Constant (.int (n : Int)) j cp] [] rp, [], 0⟩] scope pos) (tLcR n g te (own.map (·.2))) := by
  refine ⟨fun pins s σ H Q I h => ?_⟩
  rw [eval_ListComp]
  refine wpAny_comprehension_free (use := none) rfl hs (closure_ok fun y hy e => I.ok.has _ (ok.free y hy e)) ok.kind (fun y hy e => by rw [ok.uniq y hy, e])
    (thn (range_at hn hgl hm I) fun xv s1 hx => thn hx fun itv s2 h2 => ?_)
  obtain ⟨it, rfl, I2, st2, f2⟩ := h2
  refine wpAny_newObj_type (newEnv_comp ?_) (by show 0 ≤ sizeLine; decide)
  generalize hD : s2.heap.objs.size = D
  obtain ⟨Pv, p0, turn, fin⟩ := h D (I2.hok.fresh (Nat.le_of_eq hD))
  -- the new list stands
  generalize hs3 : ({ s2 with heap := s2.heap.push { cls := .type "list", data := .seq ([] : List Value).toArray } } : Shared) = s3
  have h3 : s3.heap = s2.heap.push { cls := .type "list", data := .seq ([] : List Value).toArray } := by rw [← hs3]
  have I3 : Inv X pins σ (upd H D (.lst [])) s3 := by
    rw [← hs3]
    refine I2.laid (t' := s2.toks) (fun b o e => Heap.get?_push_of_some _ e) (Nat.le_of_eq hD) ⟨Nat.zero_le _, [], 0, .nil, ?_⟩
    rw [← hD]
    exact Heap.get?_push_size _ rfl
  have itlt : it < s2.heap.objs.size := Heap.lt_size st2
  have f3 : FpOk X pins (upd H D (.lst [])) it := ⟨by rw [upd_ne (by rw [← hD]; exact Nat.ne_of_lt itlt)]; exact f2.1, f2.2⟩
  have f3' : ∀ b ∈ [it], FpOk X pins (upd H D (.lst [])) b ∧ b < s3.heap.objs.size := fun b hb => by
    obtain rfl : b = it := by simpa using hb
    exact ⟨f3, by rw [h3, Heap.size_push]; exact Nat.lt_succ_of_lt itlt⟩
  have st3 : IsRangeIter s3.heap it ((0 : Nat) : Int) ((n : Int) - ((0 : Nat) : Int)) 1 := by
    rw [h3]
    exact Heap.get?_push_of_some _ st2
  have I4 := block_start I3 ok hN f3'
  have pg := hg s3 (upd H D (.lst [])) s3.heap.objs.size (cellsFrom (s3.heap.objs.size + 1) scope.names (cloFrom X.env.cells scope.names [])) [it]
  have pe := he s3 (upd H D (.lst [])) s3.heap.objs.size (cellsFrom (s3.heap.objs.size + 1) scope.names (cloFrom X.env.cells scope.names [])) [it]
  show codeAny _ _ (.compStart _ 0 (.ref it) (.ref D) (compEnvC scope (cellsFrom (s3.heap.objs.size + 1) scope.names (cloFrom X.env.cells scope.names [])) s3.heap.objs.size X.env)) (compPost (model X.prog X.w) X.A X.xe none (EP X pins σ Q) (.ref D) s3.heap.objs.size) { s3 with heap := pushCells (s3.heap.push { cls := .type "dict", data := .dict #[] }) scope.names }
  generalize hce : compEnvC scope (cellsFrom (s3.heap.objs.size + 1) scope.names (cloFrom X.env.cells scope.names [])) s3.heap.objs.size X.env = ce at I4 pg pe ⊢
  have cL : ce.locals = s3.heap.objs.size := by subst hce; rfl
  generalize hH3 : upd H D (.lst []) = H3 at I3 I4 pg pe p0 f3 f3'
  generalize hs4 : ({ s3 with heap := pushCells (s3.heap.push { cls := .type "dict", data := .dict #[] }) scope.names } : Shared) = s4 at I4 ⊢
  have st4 : IsRangeIter s4.heap it ((0 : Nat) : Int) ((n : Int) - ((0 : Nat) : Int)) 1 := by
    rw [← hs4]
    exact pushCells_keeps _ _ _ _ (Heap.get?_push_of_some _ st3)
  have stat : ∀ {σ' : St} {H' : Hp} {s' : Shared}, Inv (X.blk s3 H3 scope ce [it]) [] σ' H' s' → H' it = none → FpOk (X.blk s3 H3 scope ce [it]) [] H' it := fun {σ' H' s'} I' hn =>
    ⟨hn, (I'.ok.exf it (by simp)).1, I'.ok.exfs it (by simp), .inl (by simp), fun x c e => (I'.ok.exf it (by simp)).2 x c e, fun p hp => absurd (show p ∈ ([] : List (Addr × Obj)) ++ [] from hp) (by simp)⟩
  have loop : codeAny (model X.prog X.w) X.A (.compLoop (.ListComp elt [⟨tg, .Call (.Name "range" p) [.Constant (.int (n : Int)) j cp] [] rp, [], 0⟩] scope pos) 0 (.ref it) (.ref D) ce) (compPost (model X.prog X.w) X.A X.xe none (EP X pins σ Q) (.ref D) s3.heap.objs.size) s4 := by
    refine compLoop_any (fun m s' => ∃ i H', m = n - i ∧ i ≤ n ∧ Inv (X.blk s3 H3 scope ce [it]) [] (wipe σ (own.map (·.2))) H' s' ∧ IsRangeIter s'.heap it (i : Int) ((n : Int) - (i : Int)) 1 ∧ H' it = none ∧ Pv i H') ?_ (n - 0) ⟨0, H3, rfl, Nat.zero_le _, I4, st4, f3.1, p0⟩
    rintro m s5 ⟨i, H5, rfl, hi, I5, st5, n5, w5⟩
    by_cases hlt : i < n
    · refine range_next (X := X.blk s3 H3 scope ce [it]) I5 (stat I5 n5) st5 hlt fun h6 t6 st6 I6 => ?_
      have go : ∀ {Q' : Unit → Shared → Prop} {E'}, Q' () { s5 with heap := h6, toks := t6 } → wpAny (model X.prog X.w) X.A (letOwnedTupleGo tg (.ref it) (.int (i : Int) s5.toks)) Q' E' { s5 with heap := h6, toks := t6 } := fun {Q' E'} q =>
        go_of (s := { s5 with heap := h6, toks := t6 }) (n := "range_iterator") st6 rfl rfl (by decide) q
      refine go ?_
      have I6' := I6.pinned (fp := [it]) (fun b hb => (by obtain rfl : b = it := by simpa using hb
                                                          exact stat I6 n5)) fun b hb => (by obtain rfl : b = it := by simpa using hb
                                                                                             exact ⟨_, st6, fun v z => by have z' : Data.fields _ = Data.cell v := z; cases z'⟩)
      refine thnF (pg.run _ _ _ H5 (.int (i : Int)) (.int (i : Int) s5.toks) _ I6' ⟨_, rfl⟩ (turn i H5 hlt w5)) fun _ s8 ⟨σ8, H8, I8, hw8, q8⟩ => ?_
      refine wpAny_tests_nil ?_
      rw [if_pos rfl]
      refine thnF (pe.run _ s8 σ8 H8 _ I8 q8) fun z s10 ⟨yv, H10, I10, r10, acc, hD10, hz10, nx⟩ => ?_
      refine app_ok (X := X.blk s3 H3 scope ce [it]) I10 hD10 hz10 r10 fun s11 I11 => ?_
      obtain ⟨e11, n11, _⟩ := I11.pin (it, _) (List.mem_append_right _ (List.mem_append_right _ (mem_pinsAt (by simp) st6)))
      refine ⟨n - (i + 1), by omega, i + 1, _, rfl, hlt, (I11.unpinned (pins := [])).weak (by rw [← hw8, wipe_length]) (fun jj v e => ?_), e11, n11, nx⟩
      rw [← hw8] at e
      exact (wipe_some e).1
    · have ei : i = n := by omega
      subst ei
      have I7 : Inv X pins σ H5 s5 := I3.call' (ch := [it]) I5.os I5.base I5.hok I5.bare fun b hb => (by
        obtain rfl : b = it := by simpa using hb
        exact ⟨f3.2.2.2.1, f3.2.1, f3.2.2.2.2.1, f3.2.2.2.2.2⟩)
      obtain ⟨x1, hat⟩ := hot.at I7
      refine pyNext_range_end_hot hat st5 (by omega) fun h' eb => ?_
      have I8 : Inv X pins σ H5 { s5 with heap := h' } := I7.kept (t' := s5.toks) fun b o e => eb b o e
      have nC : H5 s3.heap.objs.size = none := by
        have z : H5 ce.locals = none := I5.free
        rw [cL] at z
        exact z
      obtain ⟨mm, hns, _⟩ := I5.loc
      have hns : s5.heap.Ns ce.locals mm := hns
      rw [cL] at hns
      obtain ⟨f0, f1, f2', f3a, f4, f5⟩ := I3.fpOk (Nat.le_refl _) nC
      refine ⟨mm, hns.keeps fun b o e => eb b o e, fun h'' sb => ?_⟩
      exact ⟨.ref D, H5, I8.turned (t' := s5.toks) (fun b o hb e => (sb.2 b hb).trans e) f0 f1 f3a f4 f5, rfl, fin H5 w5⟩
  exact codeAny_compStart_list loop (wpAny_pyIter_rangeiter st4 loop)
end
end Rd
set_option maxRecDepth 100000
set_option maxHeartbeats 4000000
namespace Rd
open PySem PySem.Spec PyProof.Rows L2

/-! ### the end of a law whose def asks that no guard stands -/
/-- the script, locked, unless it is the module's own; nothing else -/
def scriptH (K : PySem.W.Frag) (a : Addr) (vs : List Value) (ns : List Int) : Hp := fun b =>
  if b = a ∧ K.lookup a = none then some (.frz { cls := .type "list", data := .seq vs.toArray } (.lst (ns.map V.int))) else none
theorem scriptH_only (K : PySem.W.Frag) (a : Addr) (vs : List Value) (ns : List Int) : Only (scriptH K a vs ns) := fun b => by
  unfold scriptH
  split
  · exact .inr ⟨_, _, rfl⟩
  · exact .inl rfl
theorem scriptH_at {K : PySem.W.Frag} {a b : Addr} {vs : List Value} {ns : List Int} {o : HO} (h : scriptH K a vs ns b = some o) : b = a ∧ K.lookup a = none ∧ o = .frz { cls := .type "list", data := .seq vs.toArray } (.lst (ns.map V.int)) := by
  unfold scriptH at h
  split at h
  · rename_i q
    exact ⟨q.1, q.2, (Option.some.inj h).symm⟩
  · cases h
theorem law_callG {P : Program} {w : World} {K : PySem.W.Frag} {mg mb : Str → Option Value} {CX : CXT} {k : Nat} {fa a : Addr} {fd : FuncData} {x : Str} {sp : Sp} {s1 : Shared} {vs : List Value} {ns : List Int}
    (KX : K.In s1.heap) (hns : s1.heap.Ns mainGlobals mg) (hb : s1.heap.Ns builtinsNs mb) (hbb : ∀ x : Str, x ≠ "__name__" → mb x = bootBuiltins x) (hlim : s1.heap.NoLimit) (hg : s1.gens = #[])
    (ha : s1.heap.get? a = some { cls := .type "list", data := .seq vs.toArray }) (hi : IntsAre vs ns) (hl : ns.length ≤ sizeLine) (hr : Room k callerA)
    (F : ∀ base : Heap, K.In base → base.Ns mainGlobals mg → FnG P w K mg base CX k fa fd [x] sp) (hbind : ∀ (s : Shared) (u : Value), BindsTo s fd ⟨[u], []⟩ [(x, u)])
    (hsp : ∀ H : Hp, Only H → SqL K H a (ns.map V.int) → sp [.ref a] H (fun v _ => v = .bl true) fun _ _ _ => False) (hCX : ∀ H e s', CX [] H s1 (fun _ _ _ => False) e s' → False) :
    codeAny (model P w) callerA (.call (.ref fa) ⟨[.ref a], []⟩) (fun r s' => r = .ok (.ret (.bool true)) ∧ OldK s1.heap s'.heap ∧ s'.os = s1.os ∧ AllBare s'.gens) s1 := by
  have rv := vals_ints hi
  have lenV := hi.length
  let H := scriptH K a vs ns
  have hS : SqL K H a (ns.map V.int) := by
    cases hk : K.lookup a with
    | none => exact .inl (.inr ⟨_, if_pos ⟨rfl, hk⟩⟩)
    | some o =>
      have e := KX a o hk
      rw [ha] at e
      cases e
      exact .inr ⟨_, vs.toArray, _, hk, rfl, rfl, rfl, by rw [List.size_toArray, lenV]; exact hl, by simpa using rv⟩
  have hok : HOk P w H s1.heap := fun b o z => by
    obtain ⟨rfl, hk, rfl⟩ := scriptH_at z
    exact ⟨ha, by rw [List.length_map]; exact hl, vs, _, rv, ha⟩
  -- what is read of the module lies outside of what is tracked
  have out : ∀ {b : Addr} {o : Obj}, s1.heap.get? b = some o → ((∃ es ep, o.data = .dict es ep) ∨ K.lookup b = some o) → (hidT s1.heap H).get? b = some o := fun {b o} e h => hidT_get e (by
    cases q : H b with
    | none => rfl
    | some u =>
      obtain ⟨rfl, hk, _⟩ := scriptH_at q
      rcases h with ⟨es, ep, d⟩ | h
      · rw [ha] at e
        cases e
        cases d
      · rw [hk] at h
        cases h)
  have nsK : ∀ {b : Addr} {m : Str → Option Value}, s1.heap.Ns b m → (hidT s1.heap H).Ns b m := fun ⟨o, es, ep, e, d, r⟩ => ⟨o, es, ep, out e (.inl ⟨es, ep, d⟩), d, r⟩
  have hKb : K.In (hidT s1.heap H) := fun b o e => out (KX b o e) (.inr e)
  have hM : Mod K mg (hidT s1.heap H) := ⟨hKb, nsK hns, ⟨mb, nsK hb, hbb⟩, let ⟨mc, h1, h2⟩ := hlim; ⟨mc, nsK h1, h2⟩⟩
  have e0 : Env0 P w K mg (hidT s1.heap H) callerA [] s1 H := ⟨rfl, hM, fun b o e => of_hidT e, Nat.le_of_eq (hidT_size _ _), trivial, fun b hb => absurd (show b ∈ ([] : List Addr) from hb) (by simp), hok, .of_eq hg⟩
  refine codeAny_mono ((F _ hKb (nsK hns)).run callerA [] s1 H ⟨[.ref a], []⟩ [.ref a] [.ref a] _ _ rfl hr e0 (hbind s1 (.ref a)) (.cons rfl .nil) (hsp H (scriptH_only K a vs ns) hS)) fun r s' h => ?_
  cases r with
  | error e => exact (hCX H e s' h).elim
  | ok fl =>
    cases fl with
    | next => exact False.elim h
    | brk => exact False.elim h
    | cont => exact False.elim h
    | ret u =>
      obtain ⟨v, H', os, bare, un, hok', r', q⟩ := h
      have q' : v = .bl true := q
      subst q'
      obtain rfl : u = Value.bool true := r'
      refine ⟨rfl, OldK.of_keep fun b o e => ?_, os, bare⟩
      cases q : H b with
      | none => exact un.keep b o e q (fun z => absurd (show b ∈ ([] : List Addr) from z) (by simp)) (by simp)
      | some u =>
        obtain ⟨rfl, hk, rfl⟩ := scriptH_at q
        obtain ⟨e1, _⟩ := hok _ _ q
        obtain ⟨e2, _⟩ := hok' _ _ (un.frzs _ _ _ q)
        rw [e] at e1
        cases e1
        exact e2
theorem walk_ofG {l : PySem.W.OpenLaw} {n k : Nat} {q : Program} {loose : List Str} {XP : (Str → Option Value) → Heap → Prop} {YP : World → Heap → Prop} {d : DefRec} {K : Params → PySem.W.Frag} {CX : World → CXT} {sp : World → Sp} {x : Str}
    (hn : l.most = some n) (hn2 : n ≤ sizeLine) (hdf : d.params.defaults = []) (hr : Room k callerA) (hY : ∀ (w : World) (h : Heap), YP w h → (K w.params).In h)
    (F : ∀ (w : World) (mg : Str → Option Value) (fa : Addr) (h : Heap), (K w.params).In h → h.Ns mainGlobals mg → mg d.name = some (.ref fa) →
      ∃ fd : FuncData, (∀ (s : Shared) (u : Value), BindsTo s fd ⟨[u], []⟩ [(x, u)]) ∧ ∀ base : Heap, (K w.params).In base → base.Ns mainGlobals mg → FnG l.prog w (K w.params) mg base (CX w) k fa fd [x] (sp w))
    (hsp : ∀ (w : World) (H : Hp) (a : Addr) (ns : List Int), ns.length ≤ n → Only H → SqL (K w.params) H a (ns.map V.int) → sp w [.ref a] H (fun v _ => v = .bl true) fun _ _ _ => False)
    (hCX : ∀ (w : World) (H : Hp) (s : Shared) (e : Value) (s' : Shared), CX w [] H s (fun _ _ _ => False) e s' → False) :
    PySem.W.WalkO q loose XP YP l.row.toRowW d [] (fun f vs => PySem.call f vs) := by
  refine Att.attach_call hn hdf fun w s₀ s₁ mg mb fa o pm cd doc a vs ns G Y ho hd hcd hmg hobj hints hlen hg => ?_
  obtain ⟨fd, hb, hF⟩ := F w mg fa _ (hY w _ Y) G.T.g hmg
  exact law_callG (hY w _ Y) G.T.g G.T.b G.T.builtins G.T.nolimit hg hobj hints (Nat.le_trans hlen hn2) hr hF hb (fun H hO hS => hsp w H a ns hlen hO hS) fun H e s' => hCX w H s₁ e s'
end Rd
set_option maxRecDepth 100000
set_option maxHeartbeats 4000000
namespace K00
open PySem PySem.Spec PyProof.Rows L2 Rd
def topS (i : Nat) : Stmt := PySem.Challenge.pw_ringsdecide_k00_errors_and_what_they_kee.main.body.getD i (.Pass ⟨0, 0, 0, 0⟩)
abbrev sInit (j : Nat) : Stmt := inClass (topS (2 + j)) 0
abbrev sMarks : Stmt := topS 11
abbrev sRaise : Stmt := topS 12
abbrev sHeard : Stmt := topS 13
abbrev sNamed : Stmt := topS 14
abbrev sLaw : Stmt := topS 15

/-- what the top has made of an error class with its own __init__ -/
structure Err (K : PySem.W.Frag) (mg : Str → Option Value) (x : Str) (C fI : Addr) : Prop where
  o : OexC K C
  xf : XfC K C
  ec : ExcC K C
  g : mg x = some (.ref C)
  i : PySem.W.findIn K (.ref C) "__init__" = some (some (.ref fI))
  t : PySem.W.typeIn K (.ref fI) = some (.type "function")
  n : PySem.W.findIn K (.ref C) "at" = some none
structure Bse (K : PySem.W.Frag) (mg : Str → Option Value) (C0 : Addr) : Prop where
  g : mg "RingsError" = some (.ref C0)
  h1 : PySem.W.specialIn K (.ref C0) "__getattribute__" = some (some (.builtin "type.__getattribute__"))
  h2 : PySem.W.readsIn K C0 (.type "type") = true
  h3 : PySem.W.findCls K (.ref C0) (.type "type") "__init__" = some (.val (.builtin "ValueError.__init__"))
/-- __init__(self, at): the field alone is kept -/
def spInit (C : Addr) : Sp := fun vs H Q _ => ∃ (a : Addr) (v : V), vs = [.ref a, v] ∧ H a = some (exo a C none) ∧ ∀ d, H d = none → d ≠ a → Q .non (upd (upd H d (exd d [("at", v)])) a (exo a C (some d)))
section
variable {P : Program} {w : World} {K : PySem.W.Frag} {mg : Str → Option Value} {base : Heap}
theorem scI0 : FnScope ["self", "at"] ["self", "at"] (defScope (sInit 0)) := ⟨rfl, rfl, rfl, by decide +kernel, rfl, by decide +kernel, by decide +kernel⟩
theorem ok_init0 {f C C0 : Addr} {fd : FuncData} (F : Fun K "__init__" "InvalidKind.__init__" (sInit 0) f fd) (B : Bse K mg C0) (T : Err K mg "InvalidKind" C f) : FnOk P w K mg base CX0 1 f fd ["self", "at"] (spInit C) := by
  refine F.ok scI0 (fun vs H Q E h => ?_) (fun cdv A outer s H vs Q E hr h => ?_)
  · obtain ⟨a, v, rfl, _⟩ := h
    rfl
  · obtain ⟨a, v, rfl, ha, k⟩ := h
    refine ⟨_, pss_cons (ps_expr (pe_reinit rfl B.g B.h1 B.h2 B.h3 (pa_cons (pv 0) (pa_cons pe_str pa_nil)))) (pss_one (ps_ost (pv 0) (pv 1))), ?_⟩
    exact ⟨_, rfl, a, C, _, rfl, by decide, T.o, ha, _, rfl, _, rfl, a, C, rfl, T.o, T.n, .inl ⟨ha, fun d hd hne => k d hd hne⟩⟩
theorem scI1 : FnScope ["self", "at"] ["self", "at"] (defScope (sInit 1)) := ⟨rfl, rfl, rfl, by decide +kernel, rfl, by decide +kernel, by decide +kernel⟩
theorem ok_init1 {f C C0 : Addr} {fd : FuncData} (F : Fun K "__init__" "InvalidNetwork.__init__" (sInit 1) f fd) (B : Bse K mg C0) (T : Err K mg "InvalidNetwork" C f) : FnOk P w K mg base CX0 1 f fd ["self", "at"] (spInit C) := by
  refine F.ok scI1 (fun vs H Q E h => ?_) (fun cdv A outer s H vs Q E hr h => ?_)
  · obtain ⟨a, v, rfl, _⟩ := h
    rfl
  · obtain ⟨a, v, rfl, ha, k⟩ := h
    refine ⟨_, pss_cons (ps_expr (pe_reinit rfl B.g B.h1 B.h2 B.h3 (pa_cons (pv 0) (pa_cons pe_str pa_nil)))) (pss_one (ps_ost (pv 0) (pv 1))), ?_⟩
    exact ⟨_, rfl, a, C, _, rfl, by decide, T.o, ha, _, rfl, _, rfl, a, C, rfl, T.o, T.n, .inl ⟨ha, fun d hd hne => k d hd hne⟩⟩
theorem scI2 : FnScope ["self", "at"] ["self", "at"] (defScope (sInit 2)) := ⟨rfl, rfl, rfl, by decide +kernel, rfl, by decide +kernel, by decide +kernel⟩
theorem ok_init2 {f C C0 : Addr} {fd : FuncData} (F : Fun K "__init__" "InvalidWord.__init__" (sInit 2) f fd) (B : Bse K mg C0) (T : Err K mg "InvalidWord" C f) : FnOk P w K mg base CX0 1 f fd ["self", "at"] (spInit C) := by
  refine F.ok scI2 (fun vs H Q E h => ?_) (fun cdv A outer s H vs Q E hr h => ?_)
  · obtain ⟨a, v, rfl, _⟩ := h
    rfl
  · obtain ⟨a, v, rfl, ha, k⟩ := h
    refine ⟨_, pss_cons (ps_expr (pe_reinit rfl B.g B.h1 B.h2 B.h3 (pa_cons (pv 0) (pa_cons pe_str pa_nil)))) (pss_one (ps_ost (pv 0) (pv 1))), ?_⟩
    exact ⟨_, rfl, a, C, _, rfl, by decide, T.o, ha, _, rfl, _, rfl, a, C, rfl, T.o, T.n, .inl ⟨ha, fun d hd hne => k d hd hne⟩⟩
theorem scI3 : FnScope ["self", "at"] ["self", "at"] (defScope (sInit 3)) := ⟨rfl, rfl, rfl, by decide +kernel, rfl, by decide +kernel, by decide +kernel⟩
theorem ok_init3 {f C C0 : Addr} {fd : FuncData} (F : Fun K "__init__" "InvalidQuestion.__init__" (sInit 3) f fd) (B : Bse K mg C0) (T : Err K mg "InvalidQuestion" C f) : FnOk P w K mg base CX0 1 f fd ["self", "at"] (spInit C) := by
  refine F.ok scI3 (fun vs H Q E h => ?_) (fun cdv A outer s H vs Q E hr h => ?_)
  · obtain ⟨a, v, rfl, _⟩ := h
    rfl
  · obtain ⟨a, v, rfl, ha, k⟩ := h
    refine ⟨_, pss_cons (ps_expr (pe_reinit rfl B.g B.h1 B.h2 B.h3 (pa_cons (pv 0) (pa_cons pe_str pa_nil)))) (pss_one (ps_ost (pv 0) (pv 1))), ?_⟩
    exact ⟨_, rfl, a, C, _, rfl, by decide, T.o, ha, _, rfl, _, rfl, a, C, rfl, T.o, T.n, .inl ⟨ha, fun d hd hne => k d hd hne⟩⟩
theorem scI4 : FnScope ["self", "at"] ["self", "at"] (defScope (sInit 4)) := ⟨rfl, rfl, rfl, by decide +kernel, rfl, by decide +kernel, by decide +kernel⟩
theorem ok_init4 {f C C0 : Addr} {fd : FuncData} (F : Fun K "__init__" "InvalidText.__init__" (sInit 4) f fd) (B : Bse K mg C0) (T : Err K mg "InvalidText" C f) : FnOk P w K mg base CX0 1 f fd ["self", "at"] (spInit C) := by
  refine F.ok scI4 (fun vs H Q E h => ?_) (fun cdv A outer s H vs Q E hr h => ?_)
  · obtain ⟨a, v, rfl, _⟩ := h
    rfl
  · obtain ⟨a, v, rfl, ha, k⟩ := h
    refine ⟨_, pss_cons (ps_expr (pe_reinit rfl B.g B.h1 B.h2 B.h3 (pa_cons (pv 0) (pa_cons pe_str pa_nil)))) (pss_one (ps_ost (pv 0) (pv 1))), ?_⟩
    exact ⟨_, rfl, a, C, _, rfl, by decide, T.o, ha, _, rfl, _, rfl, a, C, rfl, T.o, T.n, .inl ⟨ha, fun d hd hne => k d hd hne⟩⟩
theorem scI5 : FnScope ["self", "at"] ["self", "at"] (defScope (sInit 5)) := ⟨rfl, rfl, rfl, by decide +kernel, rfl, by decide +kernel, by decide +kernel⟩
theorem ok_init5 {f C C0 : Addr} {fd : FuncData} (F : Fun K "__init__" "NotDeciding.__init__" (sInit 5) f fd) (B : Bse K mg C0) (T : Err K mg "NotDeciding" C f) : FnOk P w K mg base CX0 1 f fd ["self", "at"] (spInit C) := by
  refine F.ok scI5 (fun vs H Q E h => ?_) (fun cdv A outer s H vs Q E hr h => ?_)
  · obtain ⟨a, v, rfl, _⟩ := h
    rfl
  · obtain ⟨a, v, rfl, ha, k⟩ := h
    refine ⟨_, pss_cons (ps_expr (pe_reinit rfl B.g B.h1 B.h2 B.h3 (pa_cons (pv 0) (pa_cons pe_str pa_nil)))) (pss_one (ps_ost (pv 0) (pv 1))), ?_⟩
    exact ⟨_, rfl, a, C, _, rfl, by decide, T.o, ha, _, rfl, _, rfl, a, C, rfl, T.o, T.n, .inl ⟨ha, fun d hd hne => k d hd hne⟩⟩
theorem scI6 : FnScope ["self", "at"] ["self", "at"] (defScope (sInit 6)) := ⟨rfl, rfl, rfl, by decide +kernel, rfl, by decide +kernel, by decide +kernel⟩
theorem ok_init6 {f C C0 : Addr} {fd : FuncData} (F : Fun K "__init__" "Refused.__init__" (sInit 6) f fd) (B : Bse K mg C0) (T : Err K mg "Refused" C f) : FnOk P w K mg base CX0 1 f fd ["self", "at"] (spInit C) := by
  refine F.ok scI6 (fun vs H Q E h => ?_) (fun cdv A outer s H vs Q E hr h => ?_)
  · obtain ⟨a, v, rfl, _⟩ := h
    rfl
  · obtain ⟨a, v, rfl, ha, k⟩ := h
    refine ⟨_, pss_cons (ps_expr (pe_reinit rfl B.g B.h1 B.h2 B.h3 (pa_cons (pv 0) (pa_cons pe_str pa_nil)))) (pss_one (ps_ost (pv 0) (pv 1))), ?_⟩
    exact ⟨_, rfl, a, C, _, rfl, by decide, T.o, ha, _, rfl, _, rfl, a, C, rfl, T.o, T.n, .inl ⟨ha, fun d hd hne => k d hd hne⟩⟩

/-- an error class and its __init__'s promise -/
structure Ini (P : Program) (w : World) (K : PySem.W.Frag) (mg : Str → Option Value) (base : Heap) (x : Str) (C : Addr) : Prop where
  e : ∃ fI, Err K mg x C fI ∧ ∃ fd, FnOk P w K mg base CX0 1 fI fd ["self", "at"] (spInit C) ∧ Binds K fd ["self", "at"] [] ∧
    ∀ (s : Shared) (u : Value) (ws : List Value), K.In s.heap → (u :: ws).length = (["self", "at"] : List Str).length → BindsTo s fd ⟨[u], (["at"] : List Str).zip ws⟩ ((["self", "at"] : List Str).zip (u :: ws))
/-- all that the defs of the law ask of the top -/
structure All (P : Program) (w : World) (K : PySem.W.Frag) (mg : Str → Option Value) (base : Heap) (C0 : Addr) (c : Nat → Addr) : Prop where
  b : Bse K mg C0
  e0 : Ini P w K mg base "InvalidKind" (c 0)
  e1 : Ini P w K mg base "InvalidNetwork" (c 1)
  e2 : Ini P w K mg base "InvalidWord" (c 2)
  e3 : Ini P w K mg base "InvalidQuestion" (c 3)
  e4 : Ini P w K mg base "InvalidText" (c 4)
  e5 : Ini P w K mg base "NotDeciding" (c 5)
  e6 : Ini P w K mg base "Refused" (c 6)
  m7 : mg "InvalidCommand" = some (.ref (c 7))
  x7 : PySem.W.excIn K (c 7) [.type "ValueError", .type "Exception", .type "BaseException", .type "object"] "ValueError.__new__" = true
  k7 : PySem.W.keepIn K (.ref (c 7)) = true
  s7 : PySem.W.subIn K (.ref (c 7)) (.type "BaseException") = some true
  t7 : PySem.W.typeIn K (.ref (c 7)) = some (.type "type")
  ec : ∀ i, i < 8 → ExcC K (c i)
  kit : ∀ i j, i < 8 → j < 8 → PySem.W.kitOne K (.ref (c i)) (.ref (c j)) = some (decide (i = j))
  kiv : ∀ i, i < 8 → PySem.W.kitOne K (.ref (c i)) (.type "ValueError") = some true
  exm : ∀ i, i < 8 → PySem.W.exmOne K (.ref (c i)) (.ref C0) = some true
  gn : ∀ x ∈ (["isinstance", "range", "repr", "ValueError", "len", "max", "min", "int", "str"] : List Str), mg x = none

theorem ifN {c : Bool} {A B : Prop} (h : c = false) (b : B) : if c = true then A else B := by
  subst h
  exact b
theorem ifY {c : Bool} {A B : Prop} (h : c = true) (a : A) : if c = true then A else B := by
  subst h
  exact a
theorem del_eq {H : Hp} {a d : Addr} {o1 o2 o3 o : HO} (na : H a = none) (ne : d ≠ a) : upd (del (upd (upd (upd H a o1) d o2) a o3) a) d o = upd H d o := by
  funext b
  by_cases hd : b = d
  · subst hd
    rw [upd_same, upd_same]
  · rw [upd_ne hd, upd_ne hd]
    by_cases ha : b = a
    · subst ha
      rw [del_same, na]
    · rw [del_ne ha, upd_ne ha, upd_ne hd, upd_ne ha]
/-- raises the error with the number i -/
def spRaise (c : Nat → Addr) : Sp := fun vs H Q E => ∃ (i : Nat) (v : V), vs = [.int i, v] ∧ i < 8 ∧ (i < 7 → ∀ d, H d = none → E (.ref (c i)) (some d) (upd H d (.xd [("at", v)]))) ∧ (i = 7 → E (.ref (c 7)) none H)
theorem raise_read {C : Addr} {E : XK} {H : Hp} {v : V} (k : ∀ d, H d = none → E (.ref C) (some d) (upd H d (.xd [("at", v)]))) (a : Addr) (na : H a = none) :
    spInit C [.ref a, v] (upd H a (exo a C none)) (fun z H2 => z = .non ∧ ∃ (d : Addr) (fs : List (Str × V)), H2 a = some (exo a C (some d)) ∧ H2 d = some (exd d fs) ∧ H d = none ∧ E (.ref C) (some d) (upd (del H2 a) d (.xd fs))) (fun _ _ _ => False) := by
  refine ⟨a, v, rfl, upd_same, fun d nd ne => ⟨rfl, d, [("at", v)], upd_same, by rw [upd_ne ne]; exact upd_same, ?_, ?_⟩⟩
  · rw [upd_ne ne] at nd
    exact nd
  · rw [upd_ne ne] at nd
    rw [del_eq na ne]
    exact k d nd
theorem scR : FnScope ["at", "thing"] ["at", "thing"] (defScope sRaise) := ⟨rfl, rfl, rfl, by decide +kernel, rfl, by decide +kernel, by decide +kernel⟩
theorem ok_raise {f C0 : Addr} {c : Nat → Addr} {fd : FuncData} (F : Fun K "_law_raise" "_law_raise" sRaise f fd) (T : All P w K mg base C0 c) : FnOk P w K mg base (L2N.CX P w) 3 f fd ["at", "thing"] (spRaise c) := by
  obtain ⟨oc, od, kV, doc, pm, an, cdv, ct, osl, rfl, lk, hcd⟩ := F.ex
  refine fn_of lk hcd scR (fun vs H Q E h => ?_) (fun A outer s H vs Q E hr h => ?_)
  · obtain ⟨i, v, rfl, _⟩ := h
    rfl
  · obtain ⟨i, v, rfl, hi, k1, k2⟩ := h
    obtain ⟨f0, T0, fd0, G0, b0, _⟩ := T.e0.e
    obtain ⟨f1, T1, fd1, G1, b1, _⟩ := T.e1.e
    obtain ⟨f2, T2, fd2, G2, b2, _⟩ := T.e2.e
    obtain ⟨f3, T3, fd3, G3, b3, _⟩ := T.e3.e
    obtain ⟨f4, T4, fd4, G4, b4, _⟩ := T.e4.e
    obtain ⟨f5, T5, fd5, G5, b5, _⟩ := T.e5.e
    obtain ⟨f6, T6, fd6, G6, b6, _⟩ := T.e6.e
    refine ⟨_, pss_cons (ps_if (pt_cmpR op_eq (pv 0) pe_int (nomark _)) (pss_one (L2N.ps_raise rfl (L2N.takes_of rfl rfl rfl rfl) (pmk_oexN T0.o T0.i T0.t G0 hr b0 .nil pass0 rfl T0.g (pa_cons (pv 1) pa_nil)))) pss_nil)
      (pss_cons (ps_if (pt_cmpR op_eq (pv 0) pe_int (nomark _)) (pss_one (L2N.ps_raise rfl (L2N.takes_of rfl rfl rfl rfl) (pmk_oexN T1.o T1.i T1.t G1 hr b1 .nil pass0 rfl T1.g (pa_cons (pv 1) pa_nil)))) pss_nil)
      (pss_cons (ps_if (pt_cmpR op_eq (pv 0) pe_int (nomark _)) (pss_one (L2N.ps_raise rfl (L2N.takes_of rfl rfl rfl rfl) (pmk_oexN T2.o T2.i T2.t G2 hr b2 .nil pass0 rfl T2.g (pa_cons (pv 1) pa_nil)))) pss_nil)
      (pss_cons (ps_if (pt_cmpR op_eq (pv 0) pe_int (nomark _)) (pss_one (L2N.ps_raise rfl (L2N.takes_of rfl rfl rfl rfl) (pmk_oexN T3.o T3.i T3.t G3 hr b3 .nil pass0 rfl T3.g (pa_cons (pv 1) pa_nil)))) pss_nil)
      (pss_cons (ps_if (pt_cmpR op_eq (pv 0) pe_int (nomark _)) (pss_one (L2N.ps_raise rfl (L2N.takes_of rfl rfl rfl rfl) (pmk_oexN T4.o T4.i T4.t G4 hr b4 .nil pass0 rfl T4.g (pa_cons (pv 1) pa_nil)))) pss_nil)
      (pss_cons (ps_if (pt_cmpR op_eq (pv 0) pe_int (nomark _)) (pss_one (L2N.ps_raise rfl (L2N.takes_of rfl rfl rfl rfl) (pmk_oexN T5.o T5.i T5.t G5 hr b5 .nil pass0 rfl T5.g (pa_cons (pv 1) pa_nil)))) pss_nil)
      (pss_cons (ps_if (pt_cmpR op_eq (pv 0) pe_int (nomark _)) (pss_one (L2N.ps_raise rfl (L2N.takes_of rfl rfl rfl rfl) (pmk_oexN T6.o T6.i T6.t G6 hr b6 .nil pass0 rfl T6.g (pa_cons (pv 1) pa_nil)))) pss_nil)
      (pss_one (L2N.ps_raise rfl (L2N.takes_of rfl rfl rfl rfl) (pmk_own0 PySem.F.excBase_ValueError T.x7 T.m7 T.k7 (raises_own T.s7 T.t7) rfl))))))))), ?_⟩
    match i, hi with
    | 0, _ => exact ⟨_, rfl, rfl, _, rfl, ifY (by decide) ⟨_, rfl, (show 1 ≤ 1000 by decide), fun a na => raise_read (fun d hd => k1 (by decide) d hd) a na⟩⟩
    | 1, _ => exact ⟨_, rfl, rfl, _, rfl, ifN (by decide) (⟨_, rfl, rfl, _, rfl, ifY (by decide) ⟨_, rfl, (show 1 ≤ 1000 by decide), fun a na => raise_read (fun d hd => k1 (by decide) d hd) a na⟩⟩)⟩
    | 2, _ => exact ⟨_, rfl, rfl, _, rfl, ifN (by decide) (⟨_, rfl, rfl, _, rfl, ifN (by decide) (⟨_, rfl, rfl, _, rfl, ifY (by decide) ⟨_, rfl, (show 1 ≤ 1000 by decide), fun a na => raise_read (fun d hd => k1 (by decide) d hd) a na⟩⟩)⟩)⟩
    | 3, _ => exact ⟨_, rfl, rfl, _, rfl, ifN (by decide) (⟨_, rfl, rfl, _, rfl, ifN (by decide) (⟨_, rfl, rfl, _, rfl, ifN (by decide) (⟨_, rfl, rfl, _, rfl, ifY (by decide) ⟨_, rfl, (show 1 ≤ 1000 by decide), fun a na => raise_read (fun d hd => k1 (by decide) d hd) a na⟩⟩)⟩)⟩)⟩
    | 4, _ => exact ⟨_, rfl, rfl, _, rfl, ifN (by decide) (⟨_, rfl, rfl, _, rfl, ifN (by decide) (⟨_, rfl, rfl, _, rfl, ifN (by decide) (⟨_, rfl, rfl, _, rfl, ifN (by decide) (⟨_, rfl, rfl, _, rfl, ifY (by decide) ⟨_, rfl, (show 1 ≤ 1000 by decide), fun a na => raise_read (fun d hd => k1 (by decide) d hd) a na⟩⟩)⟩)⟩)⟩)⟩
    | 5, _ => exact ⟨_, rfl, rfl, _, rfl, ifN (by decide) (⟨_, rfl, rfl, _, rfl, ifN (by decide) (⟨_, rfl, rfl, _, rfl, ifN (by decide) (⟨_, rfl, rfl, _, rfl, ifN (by decide) (⟨_, rfl, rfl, _, rfl, ifN (by decide) (⟨_, rfl, rfl, _, rfl, ifY (by decide) ⟨_, rfl, (show 1 ≤ 1000 by decide), fun a na => raise_read (fun d hd => k1 (by decide) d hd) a na⟩⟩)⟩)⟩)⟩)⟩)⟩
    | 6, _ => exact ⟨_, rfl, rfl, _, rfl, ifN (by decide) (⟨_, rfl, rfl, _, rfl, ifN (by decide) (⟨_, rfl, rfl, _, rfl, ifN (by decide) (⟨_, rfl, rfl, _, rfl, ifN (by decide) (⟨_, rfl, rfl, _, rfl, ifN (by decide) (⟨_, rfl, rfl, _, rfl, ifN (by decide) (⟨_, rfl, rfl, _, rfl, ifY (by decide) ⟨_, rfl, (show 1 ≤ 1000 by decide), fun a na => raise_read (fun d hd => k1 (by decide) d hd) a na⟩⟩)⟩)⟩)⟩)⟩)⟩)⟩
    | 7, _ => exact ⟨_, rfl, rfl, _, rfl, ifN (by decide) (⟨_, rfl, rfl, _, rfl, ifN (by decide) (⟨_, rfl, rfl, _, rfl, ifN (by decide) (⟨_, rfl, rfl, _, rfl, ifN (by decide) (⟨_, rfl, rfl, _, rfl, ifN (by decide) (⟨_, rfl, rfl, _, rfl, ifN (by decide) (⟨_, rfl, rfl, _, rfl, ifN (by decide) (k2 rfl)⟩)⟩)⟩)⟩)⟩)⟩)⟩
end
end K00
set_option maxRecDepth 100000
set_option maxHeartbeats 4000000
namespace K00
open PySem PySem.Spec PyProof.Rows L2 Rd
theorem smu {H H' : Hp} {l : Addr} {o : HO} (s : Same H H') (n : H' l = none) : Same H (upd H' l o) := fun b u q => by
  rw [upd_ne (ne_of_none (s b u q) n)]
  exact s b u q
/-- which classes the error with the number i is of -/
def mk (i : Nat) : List Bool := [decide (i = 0), decide (i = 1), decide (i = 2), decide (i = 3), decide (i = 4), decide (i = 5), decide (i = 6), decide (i = 7)]
def spMarks (c : Nat → Addr) (p : Addr × Obj) : Sp := fun vs H Q _ => ∃ (i : Nat) (d : Option Addr), vs = [.ref p.1] ∧ i < 8 ∧ Zc (.ref (c i)) d p.2 ∧ (∃ vs, p.2.data = .fields vs) ∧ (d = none ∨ ∃ dd fs, d = some dd ∧ H dd = some (.xd fs)) ∧
  ∀ (l : Addr) (H' : Hp), Same H H' → H' l = some (.lst ((mk i).map V.bl)) → Q (.ref l) H'
section
variable {P : Program} {w : World} {K : PySem.W.Frag} {mg : Str → Option Value} {base : Heap}
theorem scM : FnScope ["e", "found"] ["e"] (defScope sMarks) := ⟨rfl, rfl, rfl, by decide +kernel, rfl, by decide +kernel, by decide +kernel⟩
theorem ok_marks {f C0 : Addr} {c : Nat → Addr} {fd : FuncData} (F : Fun K "_law_marks" "_law_marks" sMarks f fd) (T : All P w K mg base C0 c) : FnP P w K mg base CX0 1 f fd ["e"] (spMarks c) := by
  refine fn_ofP F scM (fun p vs H Q E h => ?_) (fun cdv A outer s H vs Q E p hot hr h => ?_)
  · obtain ⟨i, d, rfl, _⟩ := h
    rfl
  · obtain ⟨i, d, rfl, hi, hz, hf, hd, k⟩ := h
    obtain ⟨f0, T0, _⟩ := T.e0.e
    obtain ⟨f1, T1, _⟩ := T.e1.e
    obtain ⟨f2, T2, _⟩ := T.e2.e
    obtain ⟨f3, T3, _⟩ := T.e3.e
    obtain ⟨f4, T4, _⟩ := T.e4.e
    obtain ⟨f5, T5, _⟩ := T.e5.e
    obtain ⟨f6, T6, _⟩ := T.e6.e
    have gi : mg "isinstance" = none := T.gn _ (by decide)
    have B : CallR (L2H.cxH CX0 P w K mg base ["e", "found"] "_law_marks" (defScope sMarks) f cdv A outer s H E p) (.builtin "isinstance") (rIsP K p.1 (.ref (c i)) d) := call_isP (oe := p.2) List.mem_cons_self hz hf
    have bi : bootBuiltins ("isinstance" : Str) = some (.builtin "isinstance") := by decide +kernel
    refine ⟨_, pss_cons (ps_set (i := 1) scM.nd rfl (.inl rfl) (pe_lst (pa_cons (pe_callB B rfl gi bi (pa_cons (pv 0) (pa_cons (pe_glob (v := .ref (c 0)) rfl T0.g rfl) pa_nil))) (pa_cons (pe_callB B rfl gi bi (pa_cons (pv 0) (pa_cons (pe_glob (v := .ref (c 1)) rfl T1.g rfl) pa_nil)))
        (pa_cons (pe_callB B rfl gi bi (pa_cons (pv 0) (pa_cons (pe_glob (v := .ref (c 2)) rfl T2.g rfl) pa_nil))) (pa_cons (pe_callB B rfl gi bi (pa_cons (pv 0) (pa_cons (pe_glob (v := .ref (c 3)) rfl T3.g rfl) pa_nil))) pa_nil))))))
      (pss_one (ps_ret (pe_op op_cat (pv 1) (pe_lst (pa_cons (pe_callB B rfl gi bi (pa_cons (pv 0) (pa_cons (pe_glob (v := .ref (c 4)) rfl T4.g rfl) pa_nil))) (pa_cons (pe_callB B rfl gi bi (pa_cons (pv 0) (pa_cons (pe_glob (v := .ref (c 5)) rfl T5.g rfl) pa_nil)))
        (pa_cons (pe_callB B rfl gi bi (pa_cons (pv 0) (pa_cons (pe_glob (v := .ref (c 6)) rfl T6.g rfl) pa_nil))) (pa_cons (pe_callB B rfl gi bi (pa_cons (pv 0) (pa_cons (pe_glob (v := .ref (c 7)) rfl T.m7 rfl) pa_nil))) pa_nil)))))))), ?_⟩
    have kt : ∀ j, j < 8 → PySem.W.kitOne K (.ref (c i)) (.ref (c j)) = some (decide (i = j)) := fun j hj => T.kit i j hi hj
    refine ⟨_, rfl, _, _, _, _, rfl, T.ec i hi, rfl, fun _ r => r, kt 0 (by decide), hd, _, rfl, _, _, _, _, rfl, T.ec i hi, rfl, fun _ r => r, kt 1 (by decide), hd, _, rfl, _, _, _, _, rfl, T.ec i hi, rfl, fun _ r => r, kt 2 (by decide), hd, _, rfl, _, _, _, _, rfl, T.ec i hi, rfl, fun _ r => r, kt 3 (by decide), hd,
      (by show 4 ≤ sizeLine; decide), fun l1 n1 => ?_⟩
    have hd1 : d = none ∨ ∃ dd fs, d = some dd ∧ (upd H l1 (.lst [.bl (decide (i = 0)), .bl (decide (i = 1)), .bl (decide (i = 2)), .bl (decide (i = 3))])) dd = some (.xd fs) := hd.imp id fun ⟨dd, fs, e, q⟩ => ⟨dd, fs, e, by rw [upd_ne (ne_of_none q n1)]; exact q⟩
    refine ⟨_, rfl, _, rfl, _, _, _, _, rfl, T.ec i hi, rfl, fun _ r => r, kt 4 (by decide), hd1, _, rfl, _, _, _, _, rfl, T.ec i hi, rfl, fun _ r => r, kt 5 (by decide), hd1, _, rfl, _, _, _, _, rfl, T.ec i hi, rfl, fun _ r => r, kt 6 (by decide), hd1, _, rfl, _, _, _, _, rfl, T.ec i hi, rfl, fun _ r => r, kt 7 (by decide), hd1,
      (by show 4 ≤ sizeLine; decide), fun l2 n2 => ?_⟩
    have n12 : l1 ≠ l2 := ne_of_none upd_same n2
    exact ⟨l1, l2, _, _, rfl, rfl, by rw [upd_ne n12]; exact upd_same, upd_same, (by show 8 ≤ sizeLine; decide), fun l3 n3 => k l3 _ (smu (smu (smu (fun _ _ q => q) n1) n2) n3) upd_same⟩
end
end K00
set_option maxRecDepth 100000
set_option maxHeartbeats 4000000
namespace K00
open PySem PySem.Spec PyProof.Rows L2 Rd
mutual
theorem dp_same {K : PySem.W.Frag} {H H' : Hp} (s : Same H H') : ∀ {v : V} {d : PyData}, Dp K H v d → Dp K H' v d
  | _, _, .non => .non
  | _, _, .bl b => .bl b
  | _, _, .int i => .int i
  | _, _, .str x => .str x
  | _, _, .lst h a => .lst (s.seq h) (dpAll_same s a)
  | _, _, .tup h a => .tup (h.imp (fun z => z.imp (s _ _) fun ⟨o, q⟩ => ⟨o, s _ _ q⟩) id) (dpAll_same s a)
theorem dpAll_same {K : PySem.W.Frag} {H H' : Hp} (s : Same H H') : ∀ {vs : List V} {ds : List PyData}, DpAll K H vs ds → DpAll K H' vs ds
  | _, _, .nil => .nil
  | _, _, .cons h t => .cons (dp_same s h) (dpAll_same s t)
end
theorem dp_bools {K : PySem.W.Frag} {H : Hp} : ∀ l : List Bool, DpAll K H (l.map V.bl) (l.map PyData.bool)
  | [] => .nil
  | b :: l => .cons (.bl b) (dp_bools l)
/-- a thing whose text can be told -/
def Thing (K : PySem.W.Frag) (H : Hp) (v : V) : Prop := ∃ d, Dp K H v d ∧ d.showable = true ∧ d.hasDict = false ∧ d.depth ≤ 50 ∧ d.shown.length ≤ sizeLine
theorem Thing.same {K : PySem.W.Frag} {H H' : Hp} {v : V} (t : Thing K H v) (s : Same H H') : Thing K H' v := t.imp fun _ h => ⟨dp_same s h.1, h.2⟩
def spHeard (K : PySem.W.Frag) : Sp := fun vs H Q _ => ∃ (i : Nat) (v : V), vs = [.int i, v] ∧ i < 8 ∧ Thing K H v ∧ ∀ H', Same H H' → Q (.bl true) H'
section
variable {P : Program} {w : World} {K : PySem.W.Frag} {mg : Str → Option Value} {base : Heap}
/-- _law_marks(e), e the exception that the suite holds -/
def spMarksE (c : Nat → Addr) (a : Addr) (cls : Value) (d : Option Addr) : Sp := fun vs H Q E => ∀ oe, Zc cls d oe → (∃ vs, oe.data = .fields vs) → spMarks c (a, oe) vs H Q E
theorem scH : FnScope ["at", "thing", "e", "spot"] ["at", "thing"] (defScope sHeard) := ⟨rfl, rfl, rfl, by decide +kernel, rfl, by decide +kernel, by decide +kernel⟩
abbrev XH (P : Program) (w : World) (K : PySem.W.Frag) (mg : Str → Option Value) (base : Heap) (f : Addr) (cdv : Value) (A : Around) (outer : List Env) (s : Shared) (H : Hp) (E : XK) (a : Addr) (oe : Obj) (pn : List (Addr × Obj)) : Cx :=
  (cxOf CX0 P w K mg base ["at", "thing", "e", "spot"] "_law_heard" (defScope sHeard) f cdv A outer s H E).suite a ((a, oe) :: pn)
theorem room_un {k n : Nat} {A : Around} (hr : Room k A) (h : n ≤ 200) : A.units + n < cLine := by
  have := hr.un
  omega
/-- the list that the comprehension makes -/
def spots (i n : Nat) : List V := (List.range n).map fun (t : Nat) => V.bl (decide (V.int (t : Int) = V.int (i : Int)))
theorem spots_succ (i n : Nat) : spots i (n + 1) = spots i n ++ [V.bl (decide (V.int (n : Int) = V.int (i : Int)))] := by
  unfold spots
  rw [List.range_succ, List.map_append]
  rfl
theorem spots_mk : ∀ i, i < 8 → spots i 8 = (mk i).map V.bl := by decide
theorem mk_eq : ∀ i, i < 8 → PyData.eqv (.list ((mk i).map PyData.bool)) (.list ((mk i).map PyData.bool)) = true := by decide
theorem mk_sh : ∀ i, i < 8 → SeqAt.shaped (.list ((mk i).map PyData.bool)) = true := by decide
theorem All.xf {C0 : Addr} {c : Nat → Addr} (T : All P w K mg base C0 c) : ∀ i, i < 7 → XfC K (c i) ∧ PySem.W.findIn K (.ref (c i)) "at" = some none
  | 0, _ => let ⟨_, t, _⟩ := T.e0.e; ⟨t.xf, t.n⟩
  | 1, _ => let ⟨_, t, _⟩ := T.e1.e; ⟨t.xf, t.n⟩
  | 2, _ => let ⟨_, t, _⟩ := T.e2.e; ⟨t.xf, t.n⟩
  | 3, _ => let ⟨_, t, _⟩ := T.e3.e; ⟨t.xf, t.n⟩
  | 4, _ => let ⟨_, t, _⟩ := T.e4.e; ⟨t.xf, t.n⟩
  | 5, _ => let ⟨_, t, _⟩ := T.e5.e; ⟨t.xf, t.n⟩
  | 6, _ => let ⟨_, t, _⟩ := T.e6.e; ⟨t.xf, t.n⟩
  | n + 7, h => absurd h (by omega)
theorem takesN0 {X : Cx} : L2N.Takes X (fun _ _ _ _ => False) := fun _ _ ⟨_, _, _, _, _, _, _, _, _, _, _, _, _, _, _, _, z⟩ => z.elim
theorem ok_heard {f fR fM C0 : Addr} {c : Nat → Addr} {fd fdR fdM : FuncData} (F : Fun K "_law_heard" "_law_heard" sHeard f fd) (T : All P w K mg base C0 c)
    (FR : Fun K "_law_raise" "_law_raise" sRaise fR fdR) (gR : mg "_law_raise" = some (.ref fR)) (bR : Binds K fdR ["at", "thing"] [])
    (FM : Fun K "_law_marks" "_law_marks" sMarks fM fdM) (gM : mg "_law_marks" = some (.ref fM)) (bM : Binds K fdM ["e"] []) : FnG P w K mg base CX0 4 f fd ["at", "thing"] (spHeard K) := by
  have GR : FnOk P w K mg base (L2N.CX P w) 3 fR fdR ["at", "thing"] (spRaise c) := ok_raise FR T
  have GM : FnP P w K mg base CX0 1 fM fdM ["e"] (spMarks c) := ok_marks FM T
  refine fn_ofG F scH (fun vs H Q E h => ?_) (fun cdv A outer s H vs Q E hgd hr h => ?_)
  · obtain ⟨i, v, rfl, _⟩ := h
    rfl
  · obtain ⟨i, v, rfl, hi, ht, k⟩ := h
    have h64 : (A.deeper (envOfC "_law_heard" (defScope sHeard) s.heap.objs.size f cdv)).units + 64 < cLine := room_un hr (by decide)
    have h100 : (A.deeper (envOfC "_law_heard" (defScope sHeard) s.heap.objs.size f cdv)).units + 100 < cLine := room_un hr (by decide)
    have gn : ∀ x ∈ (["isinstance", "range", "repr", "ValueError", "len", "max", "min", "int", "str"] : List Str), mg x = none := T.gn
    refine ⟨_, pss_cons (L2N.ps_try_as (i := 2) (tb := fun W => tDrop (tCallS (spRaise c) (WE W) (tCons (tVar 0) (tCons (tVar 1) tNil)))) (ts := _) (Wout := fun _ _ _ _ => False) rfl rfl scH.nd rfl rfl ⟨rfl, by decide, .inl T.b.g⟩ takesN0
      (fun W pn xe tk _ => pss_one (ps_expr (pe_callS GR hr rfl gR FR.kp bR (fun σ => L2N.passAt tk σ) (pa_cons (pv 0) (pa_cons (pv 1) pa_nil)))))
      (fun a oe cls d pn hz hf => 
       pss_cons (ps_if (PW.pt (pw_or (pt_cmpR (r := rNeD K) (op_neD (X := XH P w K mg base f cdv A outer s H E a oe pn) h64) (pe_imp (t' := tCall (spMarksE c a cls d) [] (fun _ _ _ => False) (tCons (tVar 2) tNil)) (pe_callP GM (q := (a, oe)) ⟨rfl, hf.elim fun vs e => ⟨vs, e, hz.2.2 vs e⟩⟩ List.mem_cons_self (L2H.roomH_mark (hr.mono (by decide)) (some (.ref a))) rfl gM FM.kp bM pass0 (pa_cons (pv 2) pa_nil))
            (fun σ H Q q => q.imp fun v z => ⟨z.1, z.2 oe hz.zc hf⟩))
          (pe_lcR (n := 8) (own := [("spot", 3)]) (g := gName 3) (by decide) ⟨(a, oe), ⟨rfl, hf.elim fun vs e => ⟨vs, e, hz.2.2 vs e⟩⟩, List.mem_cons_self⟩ scH.nd (blkOk_by (N := ["at", "thing", "e", "spot"]) (sc := defScope sHeard) (by decide +kernel)) rfl (gn _ (by decide)) (fun _ _ _ _ _ => pg_name (i := 3) scH.nd rfl (.inl rfl)) (fun _ _ _ _ _ => pe_cmpR op_eq (pv 3) (pv 0) (nomark _))) (nomark _))
          (pw_or1 (pt_not (pt_val (pe_callB (r := rIsP K a cls d) (call_isP (X := XH P w K mg base f cdv A outer s H E a oe pn) (oe := oe) List.mem_cons_self hz.zc hf) rfl (gn _ (by decide)) PyProof.Rows.boot_isinstance (pa_cons (pv 2) (pa_cons (pe_bltn (v := .ty "ValueError") rfl (gn _ (by decide)) PyProof.Rows.Boot.«ValueError» rfl) pa_nil))))))))
          (pss_one (ps_ret pe_bl)) pss_nil)
        (pss_one (ps_ret (pe_or (pe_cmpR op_gt (pv 0) pe_int (nomark _)) (pe_one (pe_cmpR op_eq
          (pe_callB (r := rRepr K) (call_repr (X := XH P w K mg base f cdv A outer s H E a oe pn) hgd h100) rfl (gn _ (by decide)) PyProof.Rows.boot_repr (pa_cons (pe_imp (t' := tXfD K a cls d "at" (tVar 2)) (pe_xfD (X := XH P w K mg base f cdv A outer s H E a oe pn) (oe := oe) List.mem_cons_self hz.zc hf (pv 2)) fun _ _ _ q => q) pa_nil))
          (pe_callB (r := rRepr K) (call_repr (X := XH P w K mg base f cdv A outer s H E a oe pn) hgd h100) rfl (gn _ (by decide)) PyProof.Rows.boot_repr (pa_cons (pv 1) pa_nil)) (nomark _)))))))) (pss_one (ps_ret pe_bl)), ?_⟩
    refine ⟨_, rfl, _, rfl, i, v, rfl, hi, fun h7 d hd => ?_, fun h7 => ?_⟩
    all_goals
      refine ⟨true, T.exm _ (by omega), fun _ a na => ?_, fun q => Bool.noConfusion q⟩
    · -- an error that keeps its argument
      have sd : Same H (upd H d (.xd [(("at" : Str), v)])) := smu (fun _ _ q => q) hd
      refine ⟨_, rfl, fun oe hz hf => ⟨i, some d, rfl, hi, hz, hf, .inr ⟨d, _, rfl, upd_same⟩, fun l H2 s2 hl D nD => ?_⟩⟩
      have nl : l ≠ D := ne_of_none hl nD
      refine ⟨fun t H3 => Same H2 H3 ∧ H3 D = some (.lst (spots i t)), ⟨smu (fun _ _ q => q) nD, upd_same⟩, fun t H3 ht ⟨s3, e3⟩ => ?_, fun H3 ⟨s3, e3⟩ => ?_⟩
      · refine ⟨rfl, _, rfl, _, rfl, rfl, spots i t, e3, (by unfold spots; rw [List.length_map, List.length_range]; have : 8 < sizeLine := by decide
                                                             omega), fun b o q => ?_, by rw [upd_same, spots_succ]⟩
        rw [upd_ne (ne_of_none q nD)]
        exact s3 b o q
      · rw [spots_mk i hi] at e3
        refine ⟨_, _, .lst (.of (s3 _ _ hl)) (dp_bools _), .lst (.of e3) (dp_bools _), mk_sh i hi, mk_sh i hi, _, rfl, ?_⟩
        rw [mk_eq i hi]
        refine iteF ⟨_, rfl, c i, _, _, _, rfl, T.ec i hi, rfl, fun _ r => r, T.kiv i hi, .inr ⟨d, _, rfl, s3 _ _ (s2 _ _ upd_same)⟩, _, rfl, ?_⟩
        refine iteF ?_
        have sH : Same H H3 := fun b o q => s3 _ _ (s2 _ _ (sd _ _ q))
        obtain ⟨dat, hdp, g1, g2, g3, g4⟩ := ht.same sH
        refine ⟨_, rfl, _, _, rfl, rfl, _, rfl, ifN (decide_eq_false (by omega)) ?_⟩
        refine ⟨_, rfl, c i, d, _, v, rfl, rfl, (T.xf i h7).1, (T.xf i h7).2, rfl, s3 _ _ (s2 _ _ upd_same), rfl, v, dat, rfl, hdp, g1, g2, g3, g4, _, rfl, v, dat, rfl, hdp, g1, g2, g3, g4, rfl, ?_⟩
        rw [decide_eq_true rfl]
        exact k H3 sH
    · -- the one without
      subst h7
      refine ⟨_, rfl, fun oe hz hf => ⟨7, none, rfl, hi, hz, hf, .inl rfl, fun l H2 s2 hl D nD => ?_⟩⟩
      refine ⟨fun t H3 => Same H2 H3 ∧ H3 D = some (.lst (spots 7 t)), ⟨smu (fun _ _ q => q) nD, upd_same⟩, fun t H3 ht ⟨s3, e3⟩ => ?_, fun H3 ⟨s3, e3⟩ => ?_⟩
      · refine ⟨rfl, _, rfl, _, rfl, rfl, spots 7 t, e3, (by unfold spots; rw [List.length_map, List.length_range]; have : 8 < sizeLine := by decide
                                                             omega), fun b o q => ?_, by rw [upd_same, spots_succ]⟩
        rw [upd_ne (ne_of_none q nD)]
        exact s3 b o q
      · rw [spots_mk 7 hi] at e3
        refine ⟨_, _, .lst (.of (s3 _ _ hl)) (dp_bools _), .lst (.of e3) (dp_bools _), mk_sh 7 hi, mk_sh 7 hi, _, rfl, ?_⟩
        rw [mk_eq 7 hi]
        refine iteF ⟨_, rfl, c 7, _, _, _, rfl, T.ec 7 hi, rfl, fun _ r => r, T.kiv 7 hi, .inl rfl, _, rfl, ?_⟩
        refine iteF ?_
        exact ⟨_, rfl, _, _, rfl, rfl, _, rfl, ifY (by decide) (k H3 fun b o q => s3 _ _ (s2 _ _ q))⟩
end
end K00
set_option maxRecDepth 100000
set_option maxHeartbeats 4000000
namespace K00
open PySem PySem.Spec PyProof.Rows L2 Rd
def spNamed (K : PySem.W.Frag) : Sp := fun vs H Q _ => ∃ v : V, vs = [v] ∧ Thing K H v ∧ ∀ H', Same H H' → Q (.bl true) H'
theorem sTr {A B C : Hp} (s : Same A B) (t : Same B C) : Same A C := fun b o q => t _ _ (s _ _ q)
theorem named_el {K : PySem.W.Frag} {C : Addr} {σ : L2.St} {H : Hp} {v : V} {Q : VK} (h0 : σ[0]? = some (some v)) (xf : XfC K C) (no : PySem.W.findIn K (.ref C) "at" = some none) (k : ∀ H', Same H H' → Q v H') :
    tExF K "at" (tMkE C (spInit C) (tCons (tVar 0) tNil)) σ H Q := by
  refine ⟨v, h0, fun a na => ⟨a, v, rfl, upd_same, fun d nd ne => ⟨rfl, a, C, d, _, v, rfl, xf, no, upd_same, (upd_ne ne).trans upd_same, rfl, k _ fun b o q => ?_⟩⟩⟩
  have nba : b ≠ a := ne_of_none q na
  rw [upd_ne ne] at nd
  have nbd : b ≠ d := ne_of_none q nd
  rw [upd_ne nba, upd_ne nbd, upd_ne nba]
  exact q
section
variable {P : Program} {w : World} {K : PySem.W.Frag} {mg : Str → Option Value} {base : Heap}
theorem scN : FnScope ["thing", "made", "one"] ["thing"] (defScope sNamed) := ⟨rfl, rfl, rfl, by decide +kernel, rfl, by decide +kernel, by decide +kernel⟩
theorem ok_named {f C0 : Addr} {c : Nat → Addr} {fd : FuncData} (F : Fun K "_law_named" "_law_named" sNamed f fd) (T : All P w K mg base C0 c) : FnG P w K mg base CX0 3 f fd ["thing"] (spNamed K) := by
  refine fn_ofG F scN (fun vs H Q E h => ?_) (fun cdv A outer s H vs Q E hgd hr h => ?_)
  · obtain ⟨v, rfl, _⟩ := h
    rfl
  · obtain ⟨v, rfl, ht, k⟩ := h
    obtain ⟨f0, T0, fd0, G0, _, b0⟩ := T.e0.e
    obtain ⟨f1, T1, fd1, G1, _, b1⟩ := T.e1.e
    obtain ⟨f2, T2, fd2, G2, _, b2⟩ := T.e2.e
    obtain ⟨f3, T3, fd3, G3, _, b3⟩ := T.e3.e
    obtain ⟨f4, T4, fd4, G4, _, b4⟩ := T.e4.e
    obtain ⟨f5, T5, fd5, G5, _, b5⟩ := T.e5.e
    obtain ⟨f6, T6, fd6, G6, _, b6⟩ := T.e6.e
    have h64 : (A.deeper (envOfC "_law_named" (defScope sNamed) s.heap.objs.size f cdv)).units + 64 < cLine := room_un hr (by decide)
    have h100 : (A.deeper (envOfC "_law_named" (defScope sNamed) s.heap.objs.size f cdv)).units + 100 < cLine := room_un hr (by decide)
    refine ⟨_, PSs.nox (pss_cons (ps_set (i := 1) scN.nd rfl (.inl rfl) (pe_lst (pa_cons (pe_exF (pe_mkE (ks := ["at"]) T0.o T0.i T0.t G0 hr b0 pass0 rfl T0.g (pk_cons (pv 0) pk_nil))) (pa_cons (pe_exF (pe_mkE (ks := ["at"]) T1.o T1.i T1.t G1 hr b1 pass0 rfl T1.g (pk_cons (pv 0) pk_nil)))
        (pa_cons (pe_exF (pe_mkE (ks := ["at"]) T2.o T2.i T2.t G2 hr b2 pass0 rfl T2.g (pk_cons (pv 0) pk_nil))) (pa_cons (pe_exF (pe_mkE (ks := ["at"]) T3.o T3.i T3.t G3 hr b3 pass0 rfl T3.g (pk_cons (pv 0) pk_nil))) pa_nil))))))
      (pss_cons (ps_set (i := 1) scN.nd rfl (.inl rfl) (pe_op op_cat (pv 1) (pe_lst (pa_cons (pe_exF (pe_mkE (ks := ["at"]) T4.o T4.i T4.t G4 hr b4 pass0 rfl T4.g (pk_cons (pv 0) pk_nil))) (pa_cons (pe_exF (pe_mkE (ks := ["at"]) T5.o T5.i T5.t G5 hr b5 pass0 rfl T5.g (pk_cons (pv 0) pk_nil)))
        (pa_cons (pe_exF (pe_mkE (ks := ["at"]) T6.o T6.i T6.t G6 hr b6 pass0 rfl T6.g (pk_cons (pv 0) pk_nil))) pa_nil))))))
      (pss_one (ps_ret (pe_cmpR (r := rEqD K) (op_eqD h64) (pe_lc (own := [("one", 2)]) (g := gName 2) (tt := _) rfl scN.nd (pi_list (pv 1)) (blkOk_by (N := ["thing", "made", "one"]) (sc := defScope sNamed) (by decide +kernel)) (fun _ _ _ _ _ => pg_name (i := 2) scN.nd rfl (.inl rfl))
        (fun _ _ _ _ _ => pts_one (pt_cmpR op_ne (pe_callB (r := rRepr K) (call_repr hgd h100) rfl (T.gn _ (by decide)) PyProof.Rows.boot_repr (pa_cons (pv 2) pa_nil)) (pe_callB (r := rRepr K) (call_repr hgd h100) rfl (T.gn _ (by decide)) PyProof.Rows.boot_repr (pa_cons (pv 0) pa_nil)) (nomark _)))
        (fun _ _ _ _ _ => pv 2)) (pe_lst pa_nil) (nomark _)))))), ?_⟩
    refine named_el rfl T0.xf T0.n fun Ha sa => named_el rfl T1.xf T1.n fun Hb sb => named_el rfl T2.xf T2.n fun Hc sc => named_el rfl T3.xf T3.n fun Hd sd => ⟨(by show 4 ≤ sizeLine; decide), fun l1 n1 => ?_⟩
    refine ⟨_, rfl, named_el rfl T4.xf T4.n fun He se => named_el rfl T5.xf T5.n fun Hf sf => named_el rfl T6.xf T6.n fun Hg sg => ⟨(by show 3 ≤ sizeLine; decide), fun l2 n2 => ?_⟩⟩
    have e1 := sg _ _ (sf _ _ (se _ _ upd_same))
    refine ⟨l1, l2, _, _, rfl, rfl, (upd_ne (ne_of_none e1 n2)).trans e1, upd_same, (by show 7 ≤ sizeLine; decide), fun l3 n3 => ?_⟩
    have s4 := smu (o := .lst ([v, v, v, v] ++ [v, v, v])) (smu (o := .lst [v, v, v]) (sTr (sTr (sTr (smu (o := .lst [v, v, v, v]) (sTr (sTr (sTr sa sb) sc) sd) n1) se) sf) sg) n2) n3
    refine ⟨_, rfl, l3, rfl, ⟨_, .of upd_same⟩, fun D nD => lc_list (K := K) (a := l3) (xs := [v, v, v, v] ++ [v, v, v]) (fun i H5 => Same _ H5 ∧ H5 D = some (.lst [])) ⟨smu (fun _ _ q => q) nD, upd_same⟩ (fun i H5 _ ⟨s5, _⟩ => .of (s5 _ _ upd_same)) (fun i x H5 hx ⟨s5, e5⟩ => ?_) fun H5 ⟨s5, e5⟩ => ?_⟩
    · have ex : x = v := by
        have := List.mem_of_getElem? hx
        simpa using this
      subst ex
      obtain ⟨dat, hdp, g1, g2, g3, g4⟩ := ht.same (fun b o q => s5 _ _ (s4 _ _ q))
      refine ⟨rfl, _, rfl, x, dat, rfl, hdp, g1, g2, g3, g4, _, rfl, x, dat, rfl, hdp, g1, g2, g3, g4, rfl, _, rfl, ?_⟩
      rw [decide_eq_true rfl]
      exact iteF ⟨s5, e5⟩
    · refine ⟨Nat.zero_le _, fun l4 n4 => ⟨.list [], .list [], .lst (.of ((upd_ne (ne_of_none e5 n4)).trans e5)) .nil, .lst (.of upd_same) .nil, rfl, rfl, ?_⟩⟩
      exact k _ (smu (fun b o q => s5 _ _ (s4 _ _ q)) n4)
end
end K00
set_option maxRecDepth 100000
set_option maxHeartbeats 4000000
namespace K00
open PySem PySem.Spec PyProof.Rows L2 Rd
theorem small_log {i : Int} (h : i.natAbs < 2 ^ 40) : i.natAbs.log2 < 1920 := by
  by_cases e : i.natAbs = 0
  · rw [e]
    decide
  · exact Nat.lt_of_lt_of_le ((Nat.log2_lt e).mpr h) (by decide)
theorem t_int {K : PySem.W.Frag} {H : Hp} {i : Int} (h : i.natAbs < 2 ^ 40) : Thing K H (.int i) :=
  ⟨.int i, .int i, by simp [PyData.showable, small_log h], rfl, by show (0 : Nat) ≤ 50; decide, int_text_fits (small_log h)⟩
theorem t_non {K : PySem.W.Frag} {H : Hp} : Thing K H .non := ⟨.none, .non, rfl, rfl, by show (0 : Nat) ≤ 50; decide, by decide +kernel⟩
theorem t_str {K : PySem.W.Frag} {H : Hp} {n : Nat} (h : n < 1000) : Thing K H (.str (toString (n : Int))) := by
  refine ⟨.str _, .str _, rfl, rfl, by show (0 : Nat) ≤ 50; decide, ?_⟩
  have h1 : (Str.ofString (toString (n : Int))).length ≤ 3 := toString_length_le (by omega) (by decide) (by omega)
  have h2 := StrLaws.reprText_len (Str.ofString (toString (n : Int))) fun c hc => by
    rw [PySem.W.KIN.signs_num] at hc
    obtain ⟨x, _, rfl⟩ := List.mem_map.mp hc
    have := x.val.toNat_lt
    exact Nat.lt_of_lt_of_le this (by decide)
  have h3 : 32 ≤ sizeLine := by decide
  show (reprText _).length ≤ sizeLine
  omega
theorem t_tup {K : PySem.W.Frag} {H : Hp} {t : Addr} {k : Nat} (h : k < 7) (ht : H t = some (.tup [.int k, .str "a"])) : Thing K H (.ref t) := by
  have z : ∀ k : Nat, k < 7 → (PyData.tuple [.int (k : Int), .str "a"]).shown.length ≤ sizeLine := by decide +kernel
  exact ⟨.tuple [.int k, .str "a"], .tup (.of ht) (.cons (.int _) (.cons (.str _) .nil)), by
    have : k.log2 < 1920 := by simpa using small_log (i := (k : Int)) (by omega)
    simp [PyData.showable, PyData.showableAll, this], rfl, by show (1 : Nat) ≤ 50; decide, z k h⟩
theorem t_lst {K : PySem.W.Frag} {H : Hp} {t : Addr} {k : Nat} (h : k < 11) (ht : H t = some (.lst [.int k])) : Thing K H (.ref t) := by
  have z : ∀ k : Nat, k < 11 → (PyData.list [.int (k : Int)]).shown.length ≤ sizeLine := by decide +kernel
  exact ⟨.list [.int k], .lst (.of ht) (.cons (.int _) .nil), by
    have : k.log2 < 1920 := by simpa using small_log (i := (k : Int)) (by omega)
    simp [PyData.showable, PyData.showableAll, this], rfl, by show (1 : Nat) ≤ 50; decide, z k h⟩
theorem md {σ : L2.St} {H : Hp} {Q : VK} {z n : Int} (h2 : σ[2]? = some (some (.int z))) (hn : 0 < n) (k : Q (.int (z % n)) H) :
    tOp (rI (fun _ j => 0 < j) fun i j => .int (i % j)) (tCB (fun xs H Q => (∃ i, xs = [.int i] ∧ Q (.int i) H) ∨ ∃ k, xs = [.bl k] ∧ Q (.int (if k then 1 else 0)) H) (tCons (tVar 2) tNil)) (tC (.int n)) σ H Q :=
  ⟨_, h2, .inl ⟨z, rfl, _, _, rfl, rfl, hn, k⟩⟩
theorem cell_read {K : PySem.W.Frag} {σ : L2.St} {H : Hp} {Q : VK} {a : Addr} {ns : List Int} {i : Nat} (hS : SqL K H a (ns.map V.int)) (h0 : σ[0]? = some (some (.ref a))) (h1 : σ[1]? = some (some (.int (0 + (i : Int))))) (k : ∀ z, Q (.int z) H) :
    tIf (tTest (tOp (rI0 fun i j => .bl (decide (i < j))) (tVar 1) (tCB (fun xs H Q => ∃ p ys, xs = [.ref p] ∧ (SqL K H p ys ∨ SqT K H p ys) ∧ Q (.int ys.length) H) (tCons (tVar 0) tNil)))) (tOp (rIxL K) (tVar 0) (tVar 1)) (tC (.int 0)) σ H Q := by
  refine ⟨_, h1, _, h0, a, _, rfl, .inl hS, _, _, rfl, rfl, _, rfl, ?_⟩
  refine ite2 (fun c => ?_) (fun _ => k 0)
  have c' : i < ns.length := by
    have := of_decide_eq_true c
    rw [List.length_map] at this
    omega
  refine ⟨_, h0, _, h1, a, _, _, .int ns[i], rfl, rfl, hS, ?_, k _⟩
  rw [Int.zero_add]
  exact atI_nat (by rw [List.getElem?_map, List.getElem?_eq_getElem c']; rfl)
def spLaw (K : PySem.W.Frag) : Sp := fun vs H Q _ => ∃ (a : Addr) (ns : List Int), vs = [.ref a] ∧ SqL K H a (ns.map V.int) ∧ ns.length ≤ 63 ∧ ∀ H', Q (.bl true) H'
section
variable {P : Program} {w : World} {K : PySem.W.Frag} {mg : Str → Option Value} {base : Heap}
theorem scL : FnScope ["script", "k", "cell", "things", "thing", "at"] ["script"] (defScope sLaw) := ⟨rfl, rfl, rfl, by decide +kernel, rfl, by decide +kernel, by decide +kernel⟩
theorem ok_law {f fH fN fR fM C0 : Addr} {c : Nat → Addr} {fd fdH fdN fdR fdM : FuncData} (F : Fun K "law" "law" sLaw f fd) (T : All P w K mg base C0 c)
    (FR : Fun K "_law_raise" "_law_raise" sRaise fR fdR) (gR : mg "_law_raise" = some (.ref fR)) (bR : Binds K fdR ["at", "thing"] [])
    (FM : Fun K "_law_marks" "_law_marks" sMarks fM fdM) (gM : mg "_law_marks" = some (.ref fM)) (bM : Binds K fdM ["e"] [])
    (FH : Fun K "_law_heard" "_law_heard" sHeard fH fdH) (gH : mg "_law_heard" = some (.ref fH)) (bH : Binds K fdH ["at", "thing"] [])
    (FN : Fun K "_law_named" "_law_named" sNamed fN fdN) (gN : mg "_law_named" = some (.ref fN)) (bN : Binds K fdN ["thing"] []) : FnG P w K mg base CX0 5 f fd ["script"] (spLaw K) := by
  have GH : FnG P w K mg base CX0 4 fH fdH ["at", "thing"] (spHeard K) := ok_heard FH T FR gR bR FM gM bM
  have GN : FnG P w K mg base CX0 3 fN fdN ["thing"] (spNamed K) := ok_named FN T
  refine fn_ofG F scL (fun vs H Q E h => ?_) (fun cdv A outer s H vs Q E hgd hr h => ?_)
  · obtain ⟨a, ns, rfl, _⟩ := h
    rfl
  · obtain ⟨a, ns, rfl, hS, hl, k⟩ := h
    have gn : ∀ x ∈ (["isinstance", "range", "repr", "ValueError", "len", "max", "min", "int", "str"] : List Str), mg x = none := T.gn
    have hr3 := hr.mono (show 3 ≤ 4 by decide)
    refine ⟨_, PSs.nox (pss_cons (ps_for PassesOwn.never rfl (pi_range1 rfl (gn _ (by decide)) (pa_cons (pe_callB (call_max2 rfl) rfl (gn _ (by decide)) PyProof.Rows.boot_max (pa_cons pe_int (pa_cons (pe_callB (call_min2 rfl) rfl (gn _ (by decide)) PyProof.Rows.boot_min (pa_cons pe_int (pa_cons (pe_callB call_len_seq rfl (gn _ (by decide)) PySem.boot_len (pa_cons (pv 0) pa_nil)) pa_nil))) pa_nil))) pa_nil)) (pg_name (i := 1) scL.nd rfl (.inl rfl))
        (pss_cons (ps_set (i := 2) scL.nd rfl (.inl rfl) (pe_ifExp (pt_cmpR op_lt (pv 1) (pe_callB call_len_seq rfl (gn _ (by decide)) PySem.boot_len (pa_cons (pv 0) pa_nil)) (nomark _)) (pe_ix ix_list (pv 0) (pv 1) (fun _ _ => rfl)) pe_int))
        (pss_cons (ps_set (i := 3) scL.nd rfl (.inl rfl) (pe_lst (pa_cons (pe_op op_mod (pe_callTy call_int1 rfl (gn _ (by decide)) PyProof.Rows.boot_int (pa_cons (pv 2) pa_nil)) pe_int)
          (pa_cons (pe_op op_sub pe_int (pe_op op_mod (pe_callTy call_int1 rfl (gn _ (by decide)) PyProof.Rows.boot_int (pa_cons (pv 2) pa_nil)) pe_int))
          (pa_cons (pe_callTy call_str_int rfl (gn _ (by decide)) PyProof.Rows.boot_str (pa_cons (pe_op op_mod (pe_callTy call_int1 rfl (gn _ (by decide)) PyProof.Rows.boot_int (pa_cons (pv 2) pa_nil)) pe_int) pa_nil))
          (pa_cons pe_non
          (pa_cons (pe_tup (pa_cons (pe_op op_mod (pe_callTy call_int1 rfl (gn _ (by decide)) PyProof.Rows.boot_int (pa_cons (pv 2) pa_nil)) pe_int) (pa_cons pe_str pa_nil)))
          (pa_cons (pe_lst (pa_cons (pe_op op_mod (pe_callTy call_int1 rfl (gn _ (by decide)) PyProof.Rows.boot_int (pa_cons (pv 2) pa_nil)) pe_int) pa_nil)) pa_nil))))))))
        (pss_one (ps_for PassesOwn.never rfl (pi_list (pv 3)) (pg_name (i := 4) scL.nd rfl (.inl rfl))
          (pss_cons (ps_if (pt_not (pt_val (pe_callG GN hgd hr3 rfl gN FN.kp bN pass0 (pa_cons (pv 4) pa_nil)))) (pss_one (ps_ret pe_bl)) pss_nil)
          (pss_one (ps_for PassesOwn.never rfl (pi_range1 rfl (gn _ (by decide)) (pa_cons pe_int pa_nil)) (pg_name (i := 5) scL.nd rfl (.inl rfl))
            (pss_one (ps_if (pt_not (pt_val (pe_callG GH hgd hr rfl gH FH.kp bH pass0 (pa_cons (pv 5) (pa_cons (pv 4) pa_nil))))) (pss_one (ps_ret pe_bl)) pss_nil))))))))))
      (pss_one (ps_ret pe_bl))), ?_⟩
    refine ⟨_, rfl, a, _, rfl, .inl hS, _, _, rfl, _, _, rfl, _, rfl, ?_, ?_, ?_⟩
    · rw [List.length_map]
      split <;> split <;> omega
    · rw [List.length_map]
      split <;> split <;> omega
    refine for_range (lo := 0) (fun i σ H2 => (∃ o1 o2 o3 o4 o5, σ = [some (.ref a), o1, o2, o3, o4, o5]) ∧ Same H H2) ⟨⟨_, _, _, _, _, rfl⟩, fun _ _ q => q⟩ (fun i σ H2 hi => ?_) (fun σ H2 ⟨_, s2⟩ => k H2)
    rintro ⟨⟨o1, o2, o3, o4, o5, rfl⟩, s2⟩
    refine cell_read (s2.seq hS) rfl rfl fun z => ?_
    -- the things
    refine md rfl (by decide) (md rfl (by decide) ⟨_, _, rfl, rfl, md rfl (by decide) ⟨_, rfl, ?_, md rfl (by decide) ⟨(by show 2 ≤ sizeLine; decide), fun t nt => md rfl (by decide) ⟨(by show 1 ≤ sizeLine; decide), fun q nq => ⟨(by show 6 ≤ sizeLine; decide), fun l nl => ?_⟩⟩⟩⟩⟩)
    · exact small_log (by have := Int.emod_nonneg z (show (1000 : Int) ≠ 0 by decide); have := Int.emod_lt_of_pos z (show (0 : Int) < 1000 by decide); omega)
    obtain ⟨n1, e1⟩ : ∃ n : Nat, z % 1000 = (n : Int) := ⟨(z % 1000).toNat, by have := Int.emod_nonneg z (show (1000 : Int) ≠ 0 by decide); omega⟩
    obtain ⟨n2, e2⟩ : ∃ n : Nat, z % 7 = (n : Int) := ⟨(z % 7).toNat, by have := Int.emod_nonneg z (show (7 : Int) ≠ 0 by decide); omega⟩
    obtain ⟨n3, e3⟩ : ∃ n : Nat, z % 11 = (n : Int) := ⟨(z % 11).toNat, by have := Int.emod_nonneg z (show (11 : Int) ≠ 0 by decide); omega⟩
    have l1 : n1 < 1000 := by have := Int.emod_lt_of_pos z (show (0 : Int) < 1000 by decide); omega
    have l2 : n2 < 7 := by have := Int.emod_lt_of_pos z (show (0 : Int) < 7 by decide); omega
    have l3 : n3 < 11 := by have := Int.emod_lt_of_pos z (show (0 : Int) < 11 by decide); omega
    rw [e2] at nq nl ⊢
    rw [e3] at nl ⊢
    rw [e1]
    have tq : t ≠ q := ne_of_none upd_same nq
    have u1 := (upd_ne (o := .lst [.int (n3 : Int)]) tq).trans (upd_same (H := H2) (a := t) (o := .tup [.int (n2 : Int), .str "a"]))
    have s4 := smu (o := .lst [.int (z % 1000000007), .int (0 - z % 97), .str (toString (n1 : Int)), .non, .ref t, .ref q]) (smu (o := .lst [.int (n3 : Int)]) (smu (o := .tup [.int (n2 : Int), .str "a"]) s2 nt) nq) nl
    have h4t := (upd_ne (o := .lst [.int (z % 1000000007), .int (0 - z % 97), .str (toString (n1 : Int)), .non, .ref t, .ref q]) (ne_of_none u1 nl)).trans u1
    have h4q := (upd_ne (o := .lst [.int (z % 1000000007), .int (0 - z % 97), .str (toString (n1 : Int)), .non, .ref t, .ref q]) (ne_of_none upd_same nl)).trans (upd_same (H := upd H2 t (.tup [.int (n2 : Int), .str "a"])) (a := q) (o := .lst [.int (n3 : Int)]))
    have h4l := upd_same (H := upd (upd H2 t (.tup [.int (n2 : Int), .str "a"])) q (.lst [.int (n3 : Int)])) (a := l) (o := .lst [.int (z % 1000000007), .int (0 - z % 97), .str (toString (n1 : Int)), .non, .ref t, .ref q])
    show gName 3 (V.ref l) _ (upd (upd (upd H2 t (.tup [.int (n2 : Int), .str "a"])) q (.lst [.int (n3 : Int)])) l (.lst [.int (z % 1000000007), .int (0 - z % 97), .str (toString (n1 : Int)), .non, .ref t, .ref q])) _
    generalize upd (upd (upd H2 t (.tup [.int (n2 : Int), .str "a"])) q (.lst [.int (n3 : Int)])) l (.lst [.int (z % 1000000007), .int (0 - z % 97), .str (toString (n1 : Int)), .non, .ref t, .ref q]) = H4 at s4 h4t h4q h4l ⊢
    have hth : ∀ x ∈ [V.int (z % 1000000007), .int (0 - z % 97), .str (toString (n1 : Int)), .non, .ref t, .ref q], Thing K H4 x := by
      intro x hx
      simp only [List.mem_cons, List.not_mem_nil, or_false] at hx
      rcases hx with rfl | rfl | rfl | rfl | rfl | rfl
      · exact t_int (by have := Int.emod_nonneg z (show (1000000007 : Int) ≠ 0 by decide); have := Int.emod_lt_of_pos z (show (0 : Int) < 1000000007 by decide); omega)
      · exact t_int (by have := Int.emod_nonneg z (show (97 : Int) ≠ 0 by decide); have := Int.emod_lt_of_pos z (show (0 : Int) < 97 by decide); omega)
      · exact t_str l1
      · exact t_non
      · exact t_tup l2 h4t
      · exact t_lst l3 h4q
    -- for thing in things
    refine ⟨_, rfl, l, rfl, ⟨_, .of h4l⟩, for_list (K := K) (a := l) (xs := [V.int (z % 1000000007), .int (0 - z % 97), .str (toString (n1 : Int)), .non, .ref t, .ref q]) (fun _ σ H5 => (∃ o1 o2 o4 o5, σ = [some (.ref a), o1, o2, some (.ref l), o4, o5]) ∧ Same H4 H5) ⟨⟨_, _, _, _, rfl⟩, fun _ _ q => q⟩
      (fun _ _ H5 _ ⟨_, s5⟩ => .of (s5 _ _ h4l)) (fun j x σ H5 hx => ?_) (fun σ H5 ⟨⟨p1, p2, p4, p5, e⟩, s5⟩ => ⟨⟨p1, p2, _, p4, p5, e⟩, sTr s4 s5⟩)⟩
    rintro ⟨⟨p1, p2, p4, p5, rfl⟩, s5⟩
    have tx := (hth x (List.mem_of_getElem? hx))
    refine ⟨_, rfl, x, rfl, tx.same s5, fun H6 s6 => ⟨_, rfl, iteF ?_⟩⟩
    -- for at in range(8)
    refine ⟨8, rfl, by decide, by decide, for_range (lo := 0) (n := 8) (fun _ σ H7 => (∃ o1 o2 o5, σ = [some (.ref a), o1, o2, some (.ref l), some x, o5]) ∧ Same H6 H7) ⟨⟨_, _, _, rfl⟩, fun _ _ q => q⟩ (fun y σ H7 hy => ?_)
      (fun σ H7 ⟨⟨p1, p2, p5, e⟩, s7⟩ => ⟨⟨p1, p2, _, p5, e⟩, sTr s5 (sTr s6 s7)⟩)⟩
    rintro ⟨⟨p1, p2, p5, rfl⟩, s7⟩
    refine ⟨_, rfl, _, rfl, y, x, by rw [Int.zero_add]; rfl, hy, tx.same (sTr s5 (sTr s6 s7)), fun H8 s8 => ⟨_, rfl, iteF ⟨⟨p1, p2, _, rfl⟩, sTr s7 s8⟩⟩⟩
end
end K00
set_option maxRecDepth 100000
set_option maxHeartbeats 4000000
namespace K00
open PySem PySem.Spec PyProof.Rows L2 Rd
/-- an error class, as the rules ask, by one look -/
def errB (K : PySem.W.Frag) (C : Addr) : Bool :=
  decide (PySem.W.findIn K (.ref C) "__setattr__" = some (some (.builtin "object.__setattr__"))) && (decide (PySem.W.subIn K (.ref C) (.type "BaseException") = some true) && (decide (PySem.W.typeIn K (.ref C) = some (.type "type")) && (PySem.W.keepIn K (.ref C) &&
  (decide (PySem.W.findIn K (.ref C) "__getattribute__" = some (some (.builtin "BaseException.__getattribute__"))) && (decide (PySem.W.findIn K (.ref C) "__getattr__" = some none) && (PySem.W.hasDictIn K C &&
  (decide (PySem.W.findIn K (.ref C) "__class__" = some (some (.builtin "object.__class__"))) && (decide (PySem.W.mroIn K C (.type "object") = some true) && decide (PySem.W.findIn K (.ref C) "at" = some none)))))))))
structure ErrB (K : PySem.W.Frag) (C : Addr) : Prop where
  sa : PySem.W.findIn K (.ref C) "__setattr__" = some (some (.builtin "object.__setattr__"))
  ex : PySem.W.subIn K (.ref C) (.type "BaseException") = some true
  ty : PySem.W.typeIn K (.ref C) = some (.type "type")
  kp : PySem.W.keepIn K (.ref C) = true
  ga : PySem.W.findIn K (.ref C) "__getattribute__" = some (some (.builtin "BaseException.__getattribute__"))
  gg : PySem.W.findIn K (.ref C) "__getattr__" = some none
  hd : PySem.W.hasDictIn K C = true
  ha : PySem.W.findIn K (.ref C) "__class__" = some (some (.builtin "object.__class__"))
  hm : PySem.W.mroIn K C (.type "object") = some true
  no : PySem.W.findIn K (.ref C) "at" = some none
theorem errB_ok {K : PySem.W.Frag} {C : Addr} (h : errB K C = true) : ErrB K C := by
  simp only [errB, Bool.and_eq_true, decide_eq_true_eq] at h
  obtain ⟨h1, h2, h3, h4, h5, h6, h7, h8, h9, h10⟩ := h
  exact ⟨h1, h2, h3, h4, h5, h6, h7, h8, h9, h10⟩
def kitB (K : PySem.W.Frag) (C0 : Addr) (cs : List Addr) : Bool :=
  cs.zipIdx.all fun p => decide (PySem.W.kitOne K (.ref p.1) (.type "ValueError") = some true) && (decide (PySem.W.exmOne K (.ref p.1) (.ref C0) = some true) && cs.zipIdx.all fun q => decide (PySem.W.kitOne K (.ref p.1) (.ref q.1) = some (decide (p.2 = q.2))))
def cls (cs : List Addr) (i : Nat) : Addr := cs.getD i 0
theorem kitB_ok {K : PySem.W.Frag} {C0 : Addr} {cs : List Addr} (h : kitB K C0 cs = true) (hl : cs.length = 8) : (∀ i j, i < 8 → j < 8 → PySem.W.kitOne K (.ref (cls cs i)) (.ref (cls cs j)) = some (decide (i = j))) ∧
    (∀ i, i < 8 → PySem.W.kitOne K (.ref (cls cs i)) (.type "ValueError") = some true) ∧ ∀ i, i < 8 → PySem.W.exmOne K (.ref (cls cs i)) (.ref C0) = some true := by
  have mem : ∀ i, i < 8 → (cls cs i, i) ∈ cs.zipIdx := fun i hi => by
    rw [List.mem_zipIdx_iff_getElem?]
    show cs[i]? = some (cls cs i)
    unfold cls
    rw [List.getD_eq_getElem?_getD, List.getElem?_eq_getElem (by omega)]
    rfl
  simp only [kitB, List.all_eq_true, Bool.and_eq_true, decide_eq_true_eq] at h
  exact ⟨fun i j hi hj => (h _ (mem i hi)).2.2 _ (mem j hj), fun i hi => (h _ (mem i hi)).1, fun i hi => (h _ (mem i hi)).2.1⟩
theorem err_mk {K : PySem.W.Frag} {h : Heap} {mg : Str → Option Value} {x : Str} {C C0 fI : Addr} (X : K.In h) (G : h.Ns mainGlobals mg)
    {nm q : Str} {N : Addr} {bs : List Value} {sn : List Str} {sub : List Value} {ab : Bool} {col : Option Bool} {dd : Option Addr} {m0 m1 m2 m3 m5 : Option Value}
    (aC : PySem.W.nsIn K mainGlobals x = some (some (.ref C)))
    (xL : K.lookup C = some (excClassObj nm q C N bs [.ref C0, .type "ValueError", .type "Exception", .type "BaseException", .type "object"] true sn sub ab col dd m0 m1 m2 m3 m5 "ValueError.__new__"))
    (eB : errB K C = true) (iC : PySem.W.findIn K (.ref C) "__init__" = some (some (.ref fI))) (tC : PySem.W.typeIn K (.ref fI) = some (.type "function"))
    (hn : PySem.W.specialIn K (.builtin "object.__class__") "__get__" = some (some (.builtin "getset_descriptor.__get__"))) (ht : PySem.W.takesIn K (.builtin "object.__class__") = some true) : Err K mg x C fI := by
  have e := errB_ok eB
  exact ⟨⟨⟨nm, q, N, bs, _, sn, sub, ab, col, dd, m0, m1, m2, m3, m5, xL, rfl⟩, e.sa, e.ex, e.ty, e.kp⟩, ⟨e.ga, e.gg, e.ex, e.hd⟩, ⟨e.ga, e.gg, e.ex, e.hd, e.ha, hn, ht, e.hm⟩, PySem.W.mg_of X G aC, iC, tC, e.no⟩
theorem all_mk {l : PySem.W.OpenLaw} {w : World} {K : PySem.W.Frag} {h : Heap} {mg : Str → Option Value} {fa C0 C1 C2 C3 C4 C5 C6 C7 C8 i0 i1 i2 i3 i4 i5 i6 f0 f1 f2 f3 f4 : Addr} (X : K.In h) (G : h.Ns mainGlobals mg) (hfa : mg "law" = some (.ref fa))
    (hn : PySem.W.specialIn K (.builtin "object.__class__") "__get__" = some (some (.builtin "getset_descriptor.__get__"))) (ht : PySem.W.takesIn K (.builtin "object.__class__") = some true)
    (gB : PySem.W.nsIn K mainGlobals "RingsError" = some (some (.ref C0))) (h1 : PySem.W.specialIn K (.ref C0) "__getattribute__" = some (some (.builtin "type.__getattribute__"))) (h2 : PySem.W.readsIn K C0 (.type "type") = true) (h3 : PySem.W.findCls K (.ref C0) (.type "type") "__init__" = some (.val (.builtin "ValueError.__init__")))
    {odi0 ani0 : Option Addr} {sli0 : Array (Option Value)} {oci0 kVi0 dci0 pmi0 cdi0 cti0 : Value} {nm0 q0 : Str} {N0 : Addr} {bs0 : List Value} {sn0 : List Str} {sub0 : List Value} {ab0 : Bool} {col0 : Option Bool} {dd0 : Option Addr} {m00 m10 m20 m30 m50 : Option Value}
    (a0 : PySem.W.nsIn K mainGlobals "InvalidKind" = some (some (.ref C1))) (x0 : K.lookup C1 = some (excClassObj nm0 q0 C1 N0 bs0 [.ref C0, .type "ValueError", .type "Exception", .type "BaseException", .type "object"] true sn0 sub0 ab0 col0 dd0 m00 m10 m20 m30 m50 "ValueError.__new__"))
    (e0 : errB K C1 = true) (n0 : PySem.W.findIn K (.ref C1) "__init__" = some (some (.ref i0))) (t0 : PySem.W.typeIn K (.ref i0) = some (.type "function"))
    (l0 : K.lookup i0 = some ⟨oci0, odi0, .func (PySem.W.fnOf "__init__" "InvalidKind.__init__" (defArgs (sInit 0)) (defBody (sInit 0)) (defScope (sInit 0)) .none kVi0 dci0 pmi0 ani0 cdi0 cti0), sli0⟩) (c0 : PySem.W.codeIn K cdi0 "InvalidKind.__init__" = true) (k0 : PySem.W.keepIn K (.ref i0) = true)
    {odi1 ani1 : Option Addr} {sli1 : Array (Option Value)} {oci1 kVi1 dci1 pmi1 cdi1 cti1 : Value} {nm1 q1 : Str} {N1 : Addr} {bs1 : List Value} {sn1 : List Str} {sub1 : List Value} {ab1 : Bool} {col1 : Option Bool} {dd1 : Option Addr} {m01 m11 m21 m31 m51 : Option Value}
    (a1 : PySem.W.nsIn K mainGlobals "InvalidNetwork" = some (some (.ref C2))) (x1 : K.lookup C2 = some (excClassObj nm1 q1 C2 N1 bs1 [.ref C0, .type "ValueError", .type "Exception", .type "BaseException", .type "object"] true sn1 sub1 ab1 col1 dd1 m01 m11 m21 m31 m51 "ValueError.__new__"))
    (e1 : errB K C2 = true) (n1 : PySem.W.findIn K (.ref C2) "__init__" = some (some (.ref i1))) (t1 : PySem.W.typeIn K (.ref i1) = some (.type "function"))
    (l1 : K.lookup i1 = some ⟨oci1, odi1, .func (PySem.W.fnOf "__init__" "InvalidNetwork.__init__" (defArgs (sInit 1)) (defBody (sInit 1)) (defScope (sInit 1)) .none kVi1 dci1 pmi1 ani1 cdi1 cti1), sli1⟩) (c1 : PySem.W.codeIn K cdi1 "InvalidNetwork.__init__" = true) (k1 : PySem.W.keepIn K (.ref i1) = true)
    {odi2 ani2 : Option Addr} {sli2 : Array (Option Value)} {oci2 kVi2 dci2 pmi2 cdi2 cti2 : Value} {nm2 q2 : Str} {N2 : Addr} {bs2 : List Value} {sn2 : List Str} {sub2 : List Value} {ab2 : Bool} {col2 : Option Bool} {dd2 : Option Addr} {m02 m12 m22 m32 m52 : Option Value}
    (a2 : PySem.W.nsIn K mainGlobals "InvalidWord" = some (some (.ref C3))) (x2 : K.lookup C3 = some (excClassObj nm2 q2 C3 N2 bs2 [.ref C0, .type "ValueError", .type "Exception", .type "BaseException", .type "object"] true sn2 sub2 ab2 col2 dd2 m02 m12 m22 m32 m52 "ValueError.__new__"))
    (e2 : errB K C3 = true) (n2 : PySem.W.findIn K (.ref C3) "__init__" = some (some (.ref i2))) (t2 : PySem.W.typeIn K (.ref i2) = some (.type "function"))
    (l2 : K.lookup i2 = some ⟨oci2, odi2, .func (PySem.W.fnOf "__init__" "InvalidWord.__init__" (defArgs (sInit 2)) (defBody (sInit 2)) (defScope (sInit 2)) .none kVi2 dci2 pmi2 ani2 cdi2 cti2), sli2⟩) (c2 : PySem.W.codeIn K cdi2 "InvalidWord.__init__" = true) (k2 : PySem.W.keepIn K (.ref i2) = true)
    {odi3 ani3 : Option Addr} {sli3 : Array (Option Value)} {oci3 kVi3 dci3 pmi3 cdi3 cti3 : Value} {nm3 q3 : Str} {N3 : Addr} {bs3 : List Value} {sn3 : List Str} {sub3 : List Value} {ab3 : Bool} {col3 : Option Bool} {dd3 : Option Addr} {m03 m13 m23 m33 m53 : Option Value}
    (a3 : PySem.W.nsIn K mainGlobals "InvalidQuestion" = some (some (.ref C4))) (x3 : K.lookup C4 = some (excClassObj nm3 q3 C4 N3 bs3 [.ref C0, .type "ValueError", .type "Exception", .type "BaseException", .type "object"] true sn3 sub3 ab3 col3 dd3 m03 m13 m23 m33 m53 "ValueError.__new__"))
    (e3 : errB K C4 = true) (n3 : PySem.W.findIn K (.ref C4) "__init__" = some (some (.ref i3))) (t3 : PySem.W.typeIn K (.ref i3) = some (.type "function"))
    (l3 : K.lookup i3 = some ⟨oci3, odi3, .func (PySem.W.fnOf "__init__" "InvalidQuestion.__init__" (defArgs (sInit 3)) (defBody (sInit 3)) (defScope (sInit 3)) .none kVi3 dci3 pmi3 ani3 cdi3 cti3), sli3⟩) (c3 : PySem.W.codeIn K cdi3 "InvalidQuestion.__init__" = true) (k3 : PySem.W.keepIn K (.ref i3) = true)
    {odi4 ani4 : Option Addr} {sli4 : Array (Option Value)} {oci4 kVi4 dci4 pmi4 cdi4 cti4 : Value} {nm4 q4 : Str} {N4 : Addr} {bs4 : List Value} {sn4 : List Str} {sub4 : List Value} {ab4 : Bool} {col4 : Option Bool} {dd4 : Option Addr} {m04 m14 m24 m34 m54 : Option Value}
    (a4 : PySem.W.nsIn K mainGlobals "InvalidText" = some (some (.ref C5))) (x4 : K.lookup C5 = some (excClassObj nm4 q4 C5 N4 bs4 [.ref C0, .type "ValueError", .type "Exception", .type "BaseException", .type "object"] true sn4 sub4 ab4 col4 dd4 m04 m14 m24 m34 m54 "ValueError.__new__"))
    (e4 : errB K C5 = true) (n4 : PySem.W.findIn K (.ref C5) "__init__" = some (some (.ref i4))) (t4 : PySem.W.typeIn K (.ref i4) = some (.type "function"))
    (l4 : K.lookup i4 = some ⟨oci4, odi4, .func (PySem.W.fnOf "__init__" "InvalidText.__init__" (defArgs (sInit 4)) (defBody (sInit 4)) (defScope (sInit 4)) .none kVi4 dci4 pmi4 ani4 cdi4 cti4), sli4⟩) (c4 : PySem.W.codeIn K cdi4 "InvalidText.__init__" = true) (k4 : PySem.W.keepIn K (.ref i4) = true)
    {odi5 ani5 : Option Addr} {sli5 : Array (Option Value)} {oci5 kVi5 dci5 pmi5 cdi5 cti5 : Value} {nm5 q5 : Str} {N5 : Addr} {bs5 : List Value} {sn5 : List Str} {sub5 : List Value} {ab5 : Bool} {col5 : Option Bool} {dd5 : Option Addr} {m05 m15 m25 m35 m55 : Option Value}
    (a5 : PySem.W.nsIn K mainGlobals "NotDeciding" = some (some (.ref C6))) (x5 : K.lookup C6 = some (excClassObj nm5 q5 C6 N5 bs5 [.ref C0, .type "ValueError", .type "Exception", .type "BaseException", .type "object"] true sn5 sub5 ab5 col5 dd5 m05 m15 m25 m35 m55 "ValueError.__new__"))
    (e5 : errB K C6 = true) (n5 : PySem.W.findIn K (.ref C6) "__init__" = some (some (.ref i5))) (t5 : PySem.W.typeIn K (.ref i5) = some (.type "function"))
    (l5 : K.lookup i5 = some ⟨oci5, odi5, .func (PySem.W.fnOf "__init__" "NotDeciding.__init__" (defArgs (sInit 5)) (defBody (sInit 5)) (defScope (sInit 5)) .none kVi5 dci5 pmi5 ani5 cdi5 cti5), sli5⟩) (c5 : PySem.W.codeIn K cdi5 "NotDeciding.__init__" = true) (k5 : PySem.W.keepIn K (.ref i5) = true)
    {odi6 ani6 : Option Addr} {sli6 : Array (Option Value)} {oci6 kVi6 dci6 pmi6 cdi6 cti6 : Value} {nm6 q6 : Str} {N6 : Addr} {bs6 : List Value} {sn6 : List Str} {sub6 : List Value} {ab6 : Bool} {col6 : Option Bool} {dd6 : Option Addr} {m06 m16 m26 m36 m56 : Option Value}
    (a6 : PySem.W.nsIn K mainGlobals "Refused" = some (some (.ref C7))) (x6 : K.lookup C7 = some (excClassObj nm6 q6 C7 N6 bs6 [.ref C0, .type "ValueError", .type "Exception", .type "BaseException", .type "object"] true sn6 sub6 ab6 col6 dd6 m06 m16 m26 m36 m56 "ValueError.__new__"))
    (e6 : errB K C7 = true) (n6 : PySem.W.findIn K (.ref C7) "__init__" = some (some (.ref i6))) (t6 : PySem.W.typeIn K (.ref i6) = some (.type "function"))
    (l6 : K.lookup i6 = some ⟨oci6, odi6, .func (PySem.W.fnOf "__init__" "Refused.__init__" (defArgs (sInit 6)) (defBody (sInit 6)) (defScope (sInit 6)) .none kVi6 dci6 pmi6 ani6 cdi6 cti6), sli6⟩) (c6 : PySem.W.codeIn K cdi6 "Refused.__init__" = true) (k6 : PySem.W.keepIn K (.ref i6) = true)
    (a7 : PySem.W.nsIn K mainGlobals "InvalidCommand" = some (some (.ref C8))) (x7 : PySem.W.excIn K C8 [.type "ValueError", .type "Exception", .type "BaseException", .type "object"] "ValueError.__new__" = true) (e7 : errB K C8 = true) (kb : kitB K C0 [C1, C2, C3, C4, C5, C6, C7, C8] = true)
    {odd0 and0 : Option Addr} {sld0 : Array (Option Value)} {ocd0 kVd0 dcd0 pmd0 cdd0 ctd0 : Value}
    (A0 : PySem.W.nsIn K mainGlobals "_law_marks" = some (some (.ref f0))) (L0 : K.lookup f0 = some ⟨ocd0, odd0, .func (PySem.W.fnOf "_law_marks" "_law_marks" (defArgs sMarks) (defBody sMarks) (defScope sMarks) .none kVd0 dcd0 pmd0 and0 cdd0 ctd0), sld0⟩) (D0 : PySem.W.codeIn K cdd0 "_law_marks" = true) (K0 : PySem.W.keepIn K (.ref f0) = true)
    {odd1 and1 : Option Addr} {sld1 : Array (Option Value)} {ocd1 kVd1 dcd1 pmd1 cdd1 ctd1 : Value}
    (A1 : PySem.W.nsIn K mainGlobals "_law_raise" = some (some (.ref f1))) (L1 : K.lookup f1 = some ⟨ocd1, odd1, .func (PySem.W.fnOf "_law_raise" "_law_raise" (defArgs sRaise) (defBody sRaise) (defScope sRaise) .none kVd1 dcd1 pmd1 and1 cdd1 ctd1), sld1⟩) (D1 : PySem.W.codeIn K cdd1 "_law_raise" = true) (K1 : PySem.W.keepIn K (.ref f1) = true)
    {odd2 and2 : Option Addr} {sld2 : Array (Option Value)} {ocd2 kVd2 dcd2 pmd2 cdd2 ctd2 : Value}
    (A2 : PySem.W.nsIn K mainGlobals "_law_heard" = some (some (.ref f2))) (L2 : K.lookup f2 = some ⟨ocd2, odd2, .func (PySem.W.fnOf "_law_heard" "_law_heard" (defArgs sHeard) (defBody sHeard) (defScope sHeard) .none kVd2 dcd2 pmd2 and2 cdd2 ctd2), sld2⟩) (D2 : PySem.W.codeIn K cdd2 "_law_heard" = true) (K2 : PySem.W.keepIn K (.ref f2) = true)
    {odd3 and3 : Option Addr} {sld3 : Array (Option Value)} {ocd3 kVd3 dcd3 pmd3 cdd3 ctd3 : Value}
    (A3 : PySem.W.nsIn K mainGlobals "_law_named" = some (some (.ref f3))) (L3 : K.lookup f3 = some ⟨ocd3, odd3, .func (PySem.W.fnOf "_law_named" "_law_named" (defArgs sNamed) (defBody sNamed) (defScope sNamed) .none kVd3 dcd3 pmd3 and3 cdd3 ctd3), sld3⟩) (D3 : PySem.W.codeIn K cdd3 "_law_named" = true) (K3 : PySem.W.keepIn K (.ref f3) = true)
    {odd4 and4 : Option Addr} {sld4 : Array (Option Value)} {ocd4 kVd4 dcd4 pmd4 cdd4 ctd4 : Value}
    (A4 : PySem.W.nsIn K mainGlobals "law" = some (some (.ref f4))) (L4 : K.lookup f4 = some ⟨ocd4, odd4, .func (PySem.W.fnOf "law" "law" (defArgs sLaw) (defBody sLaw) (defScope sLaw) .none kVd4 dcd4 pmd4 and4 cdd4 ctd4), sld4⟩) (D4 : PySem.W.codeIn K cdd4 "law" = true) (K4 : PySem.W.keepIn K (.ref f4) = true)
    (z0 : PySem.W.nsIn K mainGlobals "isinstance" = some none)    (z1 : PySem.W.nsIn K mainGlobals "range" = some none)    (z2 : PySem.W.nsIn K mainGlobals "repr" = some none)    (z3 : PySem.W.nsIn K mainGlobals "ValueError" = some none)    (z4 : PySem.W.nsIn K mainGlobals "len" = some none)    (z5 : PySem.W.nsIn K mainGlobals "max" = some none)    (z6 : PySem.W.nsIn K mainGlobals "min" = some none)    (z7 : PySem.W.nsIn K mainGlobals "int" = some none)    (z8 : PySem.W.nsIn K mainGlobals "str" = some none) :
    ∃ fd : FuncData, (∀ (s : Shared) (v : Value), BindsTo s fd ⟨[v], []⟩ [("script", v)]) ∧ ∀ base : Heap, K.In base → base.Ns mainGlobals mg → FnG l.prog w K mg base CX0 5 fa fd ["script"] (spLaw K) := by
  have e := hfa.symm.trans (PySem.W.mg_of X G A4)
  cases e
  have B : Bse K mg C0 := ⟨PySem.W.mg_of X G gB, h1, h2, h3⟩
  have E0 := err_mk X G a0 x0 e0 n0 t0 hn ht
  have I0 := fun_mk (st := sInit 0) l0 c0 k0
  have b0 := I0.binds (ps := ["self", "at"]) fun _ _ _ _ _ _ us hl => match us, hl with | [_, _], _ => rfl
  have E1 := err_mk X G a1 x1 e1 n1 t1 hn ht
  have I1 := fun_mk (st := sInit 1) l1 c1 k1
  have b1 := I1.binds (ps := ["self", "at"]) fun _ _ _ _ _ _ us hl => match us, hl with | [_, _], _ => rfl
  have E2 := err_mk X G a2 x2 e2 n2 t2 hn ht
  have I2 := fun_mk (st := sInit 2) l2 c2 k2
  have b2 := I2.binds (ps := ["self", "at"]) fun _ _ _ _ _ _ us hl => match us, hl with | [_, _], _ => rfl
  have E3 := err_mk X G a3 x3 e3 n3 t3 hn ht
  have I3 := fun_mk (st := sInit 3) l3 c3 k3
  have b3 := I3.binds (ps := ["self", "at"]) fun _ _ _ _ _ _ us hl => match us, hl with | [_, _], _ => rfl
  have E4 := err_mk X G a4 x4 e4 n4 t4 hn ht
  have I4 := fun_mk (st := sInit 4) l4 c4 k4
  have b4 := I4.binds (ps := ["self", "at"]) fun _ _ _ _ _ _ us hl => match us, hl with | [_, _], _ => rfl
  have E5 := err_mk X G a5 x5 e5 n5 t5 hn ht
  have I5 := fun_mk (st := sInit 5) l5 c5 k5
  have b5 := I5.binds (ps := ["self", "at"]) fun _ _ _ _ _ _ us hl => match us, hl with | [_, _], _ => rfl
  have E6 := err_mk X G a6 x6 e6 n6 t6 hn ht
  have I6 := fun_mk (st := sInit 6) l6 c6 k6
  have b6 := I6.binds (ps := ["self", "at"]) fun _ _ _ _ _ _ us hl => match us, hl with | [_, _], _ => rfl
  have F0 := fun_mk (st := sMarks) L0 D0 K0
  have B0 := F0.binds (ps := ["e"]) fun _ _ _ _ _ _ us hl => match us, hl with | [_], _ => rfl
  have F1 := fun_mk (st := sRaise) L1 D1 K1
  have B1 := F1.binds (ps := ["at", "thing"]) fun _ _ _ _ _ _ us hl => match us, hl with | [_, _], _ => rfl
  have F2 := fun_mk (st := sHeard) L2 D2 K2
  have B2 := F2.binds (ps := ["at", "thing"]) fun _ _ _ _ _ _ us hl => match us, hl with | [_, _], _ => rfl
  have F3 := fun_mk (st := sNamed) L3 D3 K3
  have B3 := F3.binds (ps := ["thing"]) fun _ _ _ _ _ _ us hl => match us, hl with | [_], _ => rfl
  have F4 := fun_mk (st := sLaw) L4 D4 K4
  have B4 := F4.binds (ps := ["script"]) fun _ _ _ _ _ _ us hl => match us, hl with | [_], _ => rfl
  have q7 := errB_ok e7
  obtain ⟨kt1, kt2, kt3⟩ := kitB_ok kb rfl
  have gn : ∀ x ∈ (["isinstance", "range", "repr", "ValueError", "len", "max", "min", "int", "str"] : List Str), mg x = none := by
    intro x hx
    simp only [List.mem_cons, List.not_mem_nil, or_false] at hx
    rcases hx with rfl | rfl | rfl | rfl | rfl | rfl | rfl | rfl | rfl
    · exact PySem.W.mg_none_of X G z0
    · exact PySem.W.mg_none_of X G z1
    · exact PySem.W.mg_none_of X G z2
    · exact PySem.W.mg_none_of X G z3
    · exact PySem.W.mg_none_of X G z4
    · exact PySem.W.mg_none_of X G z5
    · exact PySem.W.mg_none_of X G z6
    · exact PySem.W.mg_none_of X G z7
    · exact PySem.W.mg_none_of X G z8
  have T : ∀ base : Heap, All l.prog w K mg base C0 (cls [C1, C2, C3, C4, C5, C6, C7, C8]) := fun base =>
    { b := B
      e0 := ⟨_, E0, _, ok_init0 I0 B E0, b0, fun s u ws _ hl => match ws, hl with | [_], _ => .of_eq rfl⟩
      e1 := ⟨_, E1, _, ok_init1 I1 B E1, b1, fun s u ws _ hl => match ws, hl with | [_], _ => .of_eq rfl⟩
      e2 := ⟨_, E2, _, ok_init2 I2 B E2, b2, fun s u ws _ hl => match ws, hl with | [_], _ => .of_eq rfl⟩
      e3 := ⟨_, E3, _, ok_init3 I3 B E3, b3, fun s u ws _ hl => match ws, hl with | [_], _ => .of_eq rfl⟩
      e4 := ⟨_, E4, _, ok_init4 I4 B E4, b4, fun s u ws _ hl => match ws, hl with | [_], _ => .of_eq rfl⟩
      e5 := ⟨_, E5, _, ok_init5 I5 B E5, b5, fun s u ws _ hl => match ws, hl with | [_], _ => .of_eq rfl⟩
      e6 := ⟨_, E6, _, ok_init6 I6 B E6, b6, fun s u ws _ hl => match ws, hl with | [_], _ => .of_eq rfl⟩
      m7 := PySem.W.mg_of X G a7
      x7 := x7
      k7 := q7.kp
      s7 := q7.ex
      t7 := q7.ty
      ec := fun i hi => match i, hi with
        | 0, _ => E0.ec
        | 1, _ => E1.ec
        | 2, _ => E2.ec
        | 3, _ => E3.ec
        | 4, _ => E4.ec
        | 5, _ => E5.ec
        | 6, _ => E6.ec
        | 7, _ => ⟨q7.ga, q7.gg, q7.ex, q7.hd, q7.ha, hn, ht, q7.hm⟩
      kit := kt1
      kiv := kt2
      exm := kt3
      gn := gn }
  exact ⟨_, fun s v => .of_eq rfl, fun base _ _ => ok_law F4 (T base) F1 (PySem.W.mg_of X G A1) B1 F0 (PySem.W.mg_of X G A0) B0 F2 (PySem.W.mg_of X G A2) B2 F3 (PySem.W.mg_of X G A3) B3⟩
end K00
open PySem PySem.W PyProof.Rows
set_option maxRecDepth 100000 in
set_option maxHeartbeats 0 in
theorem PySem.Challenge.cw_ringsdecide_k00_errors_and_what_they_kee_holds : PySem.Challenge.rw_ringsdecide_k00_errors_and_what_they_kee.Holds := by
  w_on; o_law; k_head; (case hw => w_witness2)
  k_fill
  refine Rd.walk_ofG (l := PySem.Challenge.rw_ringsdecide_k00_errors_and_what_they_kee) (n := 63) (k := 5) (x := "script") (CX := fun _ => L2.CX0) (sp := fun w => K00.spLaw _) rfl (by decide) rfl ⟨rfl, by decide, by decide⟩ (fun w h Y => PySem.W.kIn_of Y) ?F (fun _ _ a ns hl _ hS => ⟨a, ns, rfl, hS, hl, fun _ => rfl⟩) fun _ _ _ _ _ z => z
  case F =>
    intro w mg fa h KX G hmg
    refine' K00.all_mk KX G hmg ?hn ?ht ?gB ?h1 ?h2 ?h3 ?a0 ?x0 ?e0 ?n0 ?t0 ?l0 ?c0 ?k0 ?a1 ?x1 ?e1 ?n1 ?t1 ?l1 ?c1 ?k1 ?a2 ?x2 ?e2 ?n2 ?t2 ?l2 ?c2 ?k2 ?a3 ?x3 ?e3 ?n3 ?t3 ?l3 ?c3 ?k3 ?a4 ?x4 ?e4 ?n4 ?t4 ?l4 ?c4 ?k4 ?a5 ?x5 ?e5 ?n5 ?t5 ?l5 ?c5 ?k5 ?a6 ?x6 ?e6 ?n6 ?t6 ?l6 ?c6 ?k6 ?a7 ?x7 ?e7 ?kb ?A0 ?L0 ?D0 ?K0 ?A1 ?L1 ?D1 ?K1 ?A2 ?L2 ?D2 ?K2 ?A3 ?L3 ?D3 ?K3 ?A4 ?L4 ?D4 ?K4 ?z0 ?z1 ?z2 ?z3 ?z4 ?z5 ?z6 ?z7 ?z8
    (case hn => k_is)
    (case ht => k_is)
    (case gB => k_is)
    (case h1 => k_is)
    (case h2 => k_is)
    (case h3 => k_is)
    (case a0 => k_is)
    (case x0 => k_is)
    (case e0 => kernel_rfl)
    (case n0 => k_is)
    (case t0 => k_is)
    (case l0 => k_is)
    (case c0 => k_is)
    (case k0 => k_is)
    (case a1 => k_is)
    (case x1 => k_is)
    (case e1 => kernel_rfl)
    (case n1 => k_is)
    (case t1 => k_is)
    (case l1 => k_is)
    (case c1 => k_is)
    (case k1 => k_is)
    (case a2 => k_is)
    (case x2 => k_is)
    (case e2 => kernel_rfl)
    (case n2 => k_is)
    (case t2 => k_is)
    (case l2 => k_is)
    (case c2 => k_is)
    (case k2 => k_is)
    (case a3 => k_is)
    (case x3 => k_is)
    (case e3 => kernel_rfl)
    (case n3 => k_is)
    (case t3 => k_is)
    (case l3 => k_is)
    (case c3 => k_is)
    (case k3 => k_is)
    (case a4 => k_is)
    (case x4 => k_is)
    (case e4 => kernel_rfl)
    (case n4 => k_is)
    (case t4 => k_is)
    (case l4 => k_is)
    (case c4 => k_is)
    (case k4 => k_is)
    (case a5 => k_is)
    (case x5 => k_is)
    (case e5 => kernel_rfl)
    (case n5 => k_is)
    (case t5 => k_is)
    (case l5 => k_is)
    (case c5 => k_is)
    (case k5 => k_is)
    (case a6 => k_is)
    (case x6 => k_is)
    (case e6 => kernel_rfl)
    (case n6 => k_is)
    (case t6 => k_is)
    (case l6 => k_is)
    (case c6 => k_is)
    (case k6 => k_is)
    (case a7 => k_is)
    (case x7 => kernel_rfl)
    (case e7 => kernel_rfl)
    (case kb => kernel_rfl)
    (case A0 => k_is)
    (case L0 => k_is)
    (case D0 => k_is)
    (case K0 => k_is)
    (case A1 => k_is)
    (case L1 => k_is)
    (case D1 => k_is)
    (case K1 => k_is)
    (case A2 => k_is)
    (case L2 => k_is)
    (case D2 => k_is)
    (case K2 => k_is)
    (case A3 => k_is)
    (case L3 => k_is)
    (case D3 => k_is)
    (case K3 => k_is)
    (case A4 => k_is)
    (case L4 => k_is)
    (case D4 => k_is)
    (case K4 => k_is)
    (case z0 => k_is)
    (case z1 => k_is)
    (case z2 => k_is)
    (case z3 => k_is)
    (case z4 => k_is)
    (case z5 => k_is)
    (case z6 => k_is)
    (case z7 => k_is)
    (case z8 => k_is)
