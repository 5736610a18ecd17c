import PyProof.Rows.All
import Wide.All
import OpenK.AllK
import Wide.FinOn
import HandS.ForMost
import HandS.ForExc
import HandS.ExcInit
import HandS.ExcIs
import HandS.IsInst
import PySem.Challenge.RW_leastmend_k06_errors_are_apart
set_option Elab.async false
set_option linter.all false
set_option maxRecDepth 100000
set_option maxHeartbeats 4000000
/-! Errors of own classes as values: made by a call, their field read, isinstance asked. -/
namespace PySem.W
open PySem PySem.Spec PySem.Calls PyProof.Rows
section
variable {prog : Program} {w : World} {A : Around} {E : Value → Shared → Prop} {s : Shared} {K : Frag} {x D : Addr} {ox : Obj} {od : Option Obj}
/-- its class, where the error has a dict of its own -/
theorem ask_class {Q : Option Value → Shared → Prop} (lead : findIn K (.ref D) "__getattribute__" = some (some (.builtin "BaseException.__getattribute__"))) (noGet : findIn K (.ref D) "__getattr__" = some none) (below : subIn K (.ref D) (.type "BaseException") = some true)
    (found : findObj K D od "__class__" = some (.bind (.builtin "getset_descriptor.__get__") (.builtin "object.__class__"))) (top : mroIn K D (.type "object") = some true) (Y : K.In s.heap) (J : InstAt s.heap x ox D od) (done : Q (some (.ref D)) { s with toks := s.toks + 1 }) :
    wpAny (model prog w) A (getAttr? (.ref x) "__class__") Q E s := by
  obtain ⟨hp, g, d, t, os⟩ := s
  have its := J.type (M := model prog w)
  have other : (Value.builtin "BaseException.__getattribute__" == Value.builtin "object.__getattribute__") = false := by decide +kernel
  have plain : (onTheHeap (Value.ref D) && Value.builtin "BaseException.__getattribute__" == Value.builtin "object.__getattribute__") = false := by rw [other, Bool.and_false]
  unfold getAttr? getAttrBy? getAttrBy
  refine wpAny_bind (wpAny_mkText (wpAny_bind (wpAny_attempt (wpAny_holding (wpAny_bind (its.at (wpAny_bind ((looks_findIn Y lead).at ?_))))))))
  show wpAny _ _ (ite ((onTheHeap (Value.ref D) && Value.builtin "BaseException.__getattribute__" == Value.builtin "object.__getattribute__") = true) _ _) _ _ _
  rw [plain, if_neg Bool.false_ne_true]
  unfold getAttrByItsOwn hookBefore
  refine wpAny_bind ?_
  rw [if_pos (show onTheHeap (Value.ref D) = true from rfl)]
  refine (looks_findIn Y noGet).at (wpAny_bind (wpAny_attempt (wpAny_holding ?_)))
  unfold callGetattribute
  rw [show (false && onTheHeap (Value.builtin "BaseException.__getattribute__")) = false from rfl, if_neg Bool.false_ne_true]
  unfold boundAndCalled
  rw [PySem.F.excAttr_ValueError.ga.bind (.ref x)]
  refine wpAny_bind (wpAny_pure ?_)
  show wpAny _ _ (call (.builtin "BaseException.__getattribute__") [.ref x, .str "__class__" t]) _ _ _
  refine wpAny_call (codeAny_call_builtin PySem.F.excAttr_ValueError.ga.plain PySem.F.entry_bexc_ga ?_)
  refine @check_slot (model prog w) _ _ ⟨hp, g, d, t + 1, os⟩ "BaseException.__getattribute__" "BaseException" "__getattribute__" (.ref x) [.str "__class__" t] [] _ (by decide +kernel) (by decide +kernel) (its.andThen (looks_subIn Y below)) (PySem.F.args_bexc_ga (.ref x) (.str "__class__" t)) ?_
  unfold Builtin.«object.__getattribute__»
  refine wpAny_bind (wpAny_of_eq (a := ((Value.ref x : Value), [Value.str "__class__" t])) (by first | rfl | (simp only [slotArgs]; rfl)) ?_)
  refine wpAny_bind (wpAny_pure (wpAny_bind (its.at (wpAny_bind ((looks_find Y J found).at ?_)))))
  show wpAny _ _ (holding [Value.builtin "object.__class__"] (call (.builtin "getset_descriptor.__get__") [.builtin "object.__class__", .ref x, .ref D]) >>= ret) _ _ _
  refine wpAny_bind (wpAny_holding (wpAny_call (class_get (s := ⟨hp, g, d, t + 1, os⟩) (ox := ox) (od := od) Y J top (wpAny_pure ?_))))
  show wpAny _ _ (handedOut (.ref D)) _ _ _
  rw [handedOut_of (v := .ref D) rfl]
  first
    | exact wpAny_pure (wpAny_pure done)
    | exact wpAny_pure done
    | exact wpAny_pure (wpAny_bind (wpAny_pure (wpAny_pure done)))
theorem cls_there (have_ : hasDictIn K D = true) : ∃ c d cd sl, K.lookup D = some ⟨c, d, .cls cd, sl⟩ := by
  obtain ⟨cd, hc, _⟩ := any_some have_
  unfold clsIn at hc
  split at hc
  · rename_i c d cd' sl ho
    exact ⟨c, d, cd', sl, ho⟩
  · cases hc
end
end PySem.W
namespace PySem.W
open PySem PySem.Spec PySem.Calls PyProof.Rows
theorem kit_err {K : Frag} {x D : Addr} {ox od : Obj} (lead : findIn K (.ref D) "__getattribute__" = some (some (.builtin "BaseException.__getattribute__"))) (noGet : findIn K (.ref D) "__getattr__" = some none) (below : subIn K (.ref D) (.type "BaseException") = some true) (have_ : hasDictIn K D = true)
    (found : findObj K D (some od) "__class__" = some (.bind (.builtin "getset_descriptor.__get__") (.builtin "object.__class__"))) (top : mroIn K D (.type "object") = some true) : KitX K (.ref x) (.ref D) (fun h => InstAt h x ox D (some od)) := by
  obtain ⟨c, d, cd, sl, at_⟩ := cls_there have_
  refine ⟨fun _ _ _ J => J.type, fun _ _ Y _ => ?_, fun h tp dd its n sl Y e => ?_, fun Y J q => ask_class lead noGet below found top Y J q⟩
  · intro A' Q' E' s' up q
    unfold isType loadHead
    exact wpAny_bind (wpAny_loadPart (up _ _ (Y _ _ at_)) (wpAny_pure q))
  · refine Bool.eq_false_iff.mpr fun q => ?_
    have same : D = tp := Value.ref.inj (beq_iff_eq.mp q)
    rw [← same] at e
    have two := (Y _ _ at_).symm.trans e
    cases two
end PySem.W
namespace Le
open PySem PySem.Spec PyProof.Rows L2
/-- what the written part says of an error's class, for its making, its field «at», and isinstance -/
structure ErrC (K : PySem.W.Frag) (C fI : Addr) : Prop where
  oex : OexC K C
  exc : ExcC K C
  ini : PySem.W.findIn K (.ref C) "__init__" = some (some (.ref fI))
  tyI : PySem.W.typeIn K (.ref fI) = some (.type "function")
  noAt : PySem.W.findIn K (.ref C) "at" = some none
/-- at a: an error of the class at C, made of the integer n -/
def ErrAt (H : Hp) (a C d : Addr) (n : Int) : Prop := H a = some (exo a C (some d)) ∧ H d = some (exd d [(("at" : Str), V.int n)])
def spInit (K : PySem.W.Frag) : Sp := fun vs H Q _ => ∃ (a C fI : Addr) (n : Int), vs = [.ref a, .int n] ∧ ErrC K C fI ∧ H a = some (exo a C none) ∧
  ∀ d, H d = none → d ≠ a → Q .non (upd (upd H d (exd d [(("at" : Str), V.int n)])) a (exo a C (some d)))
section
variable {X : Cx}
/-- C(e, ..) as a value, C's __init__ keeping sp -/
def tErr (C : Addr) (sp : Sp) (ta : TA) : TE := fun σ H Q => ta σ H fun vs H1 => vs.length ≤ 1000 ∧ ∀ a, H1 a = none → sp (.ref a :: (vs ++ [])) (upd H1 a (exo a C none)) (fun v H2 => v = .non ∧ Q (.ref a) H2) (fun _ _ _ => False)
theorem pe_err {e : Expr} {es : List Expr} {ta : TA} {CX : CXT} {x : Str} {C fI : Addr} {k : Nat} {fd : FuncData} {ps : List Str} {sp : Sp} {p pos : Pos} (T : ErrC X.K C fI) (G : FnOk X.prog X.w X.K X.mg X.base CX k fI fd ps sp) (hr : Room (k + 1) X.A) (hb : Binds X.K fd ps []) (hx : Passes CX X (fun _ _ _ => False)) (hg : Gl X x) (hm : X.mg x = some (.ref C)) (ha : PA X (e :: es) ta)
    (hdb : (x == ("__debug__" : Str)) = false := by decide) (he : starEach (e :: es) X.env = (false, eval e X.env) :: starEach es X.env := by rfl) (hpl : (backTo pos (starEach es X.env)).any (·.1) = false := by rfl) : PE X (.Call (.Name x p) (e :: es) [] pos) (tErr C sp ta) := by
  refine ⟨fun pins s σ H Q I h => ?_⟩
  obtain ⟨nm, q, N, bs, bm, sn, sub, ab, col, dd, k0, k1, k2, k3, k5, obj, base⟩ := T.oex.cls
  refine wpAny_Call_Name_kw (ld_glob I hg hm ?_ hdb)
  refine PySem.W.callWith_K (h₀ := X.base) I.ok.mod.kin T.oex.kC (thn (ha.run pos pins s σ H _ I h) fun us s1 got => ?_) he hpl
  obtain ⟨vs, H1, J, rel, few, want⟩ := got
  refine ⟨J.kIn, ?_⟩
  obtain ⟨hp, g, dr, tk, os⟩ := s1
  have next : hp.objs.size ≤ hp.objs.size + 1 := Nat.le_succ _
  have promise := want _ (J.hok.fresh next)
  have J2 : Inv X pins σ (upd H1 (hp.objs.size + 1) (exo (hp.objs.size + 1) C none)) ⟨(hp.push (PySem.W.kdv_tup us)).push (PySem.HandSPX.excO C hp.objs.size), g, dr, tk, os⟩ :=
    J.laid (t' := tk) (fun b o e => Heap.get?_push_of_some _ (Heap.get?_push_of_some _ e)) next (exo_ok (show Heap.get? _ (hp.objs.size + 1) = some (PySem.HandSPX.excO C hp.objs.size) by heap_get))
  have rel2 : Vals (V.ref (hp.objs.size + 1) :: (vs ++ [])) (Value.ref (hp.objs.size + 1) :: (us ++ [])) := .cons rfl (rel.append .nil)
  have count : (Value.ref (hp.objs.size + 1) :: us ++ []).length = ps.length := by
    have e := rel2.length
    rw [G.len _ _ _ _ promise] at e
    exact e.symm
  have room : us.length ≤ sizeLine := by
    rw [← Paired.length rel, sizeLine_eq]
    omega
  show wpAny _ _ (call (.ref C) us) _ _ _
  refine wpAny_call (PySem.HandSPX.call_own F.excBase_ValueError (fun Y => PySem.HandSPX.refsVE_contains Y bm base) (J.kIn _ _ obj) (PySem.W.looks_findIn J.kIn T.ini) (fun self => PySem.W.bind_fn J.kIn self T.tyI) room
    (codeAny_mono (G.run _ X.stack _ _ ⟨Value.ref (hp.objs.size + 1) :: us, []⟩ (Value.ref (hp.objs.size + 1) :: (us ++ [])) _ _ (fun _ _ _ => False) (hr.make C us []) (J2.env0.make C us []) (by have z := hb _ (Value.ref (hp.objs.size + 1) :: us) J2.kIn count; rw [List.cons_append] at z; exact z) rel2 promise) fun r s' left => ?_))
  cases r with
  | error er => exact hx pins σ _ _ er s' J2 left
  | ok fl =>
    cases fl with
    | ret u =>
      obtain ⟨v, H2, os2, bare2, un2, ok2, rv, isNon, q2⟩ := left
      subst isNon
      exact ⟨rv, .ref (hp.objs.size + 1), H2, J2.call' (ch := []) os2 un2 ok2 bare2 (fun b z => absurd z (by simp)), rfl, q2⟩
    | next => exact False.elim left
    | brk => exact False.elim left
    | cont => exact False.elim left
/-- e.at, e an error -/
def tAt (K : PySem.W.Frag) (te : TE) : TE := fun σ H Q => te σ H fun x H1 => ∃ (a C d fI : Addr) (n : Int), x = .ref a ∧ ErrC K C fI ∧ ErrAt H1 a C d n ∧ Q (.int n) H1
theorem inst_of {pins : List (Addr × Obj)} {σ : L2.St} {H : Hp} {s : Shared} {a C d : Addr} {n : Int} (I : Inv X pins σ H s) (h : ErrAt H a C d n) : ∃ (ox od : Obj) (mA : Str → Option Value), PySem.W.InstAt s.heap a ox C (some od) ∧ (∀ f : Str, PySem.W.lookIn f od = some (mA f)) ∧ ∀ f : Str, RelO ([(("at" : Str), V.int n)].lookup f) (mA f) := by
  obtain ⟨t1, ho⟩ := exo_at I.hok h.1
  obtain ⟨mA, ns, rel⟩ := exd_at I.hok h.2
  obtain ⟨od, hd, hl⟩ := lookIn_ns ns
  exact ⟨_, od, mA, ⟨ho, rfl, rfl, hd⟩, hl, rel⟩
theorem pe_at {e : Expr} {te : TE} {pos : Pos} (he : PE X e te) (hb : attributeBase e "at" X.env (eval e X.env) = eval e X.env := by rfl) : PE X (.Attribute e "at" pos) (tAt X.K te) := by
  refine ⟨fun pins s σ H Q I h => ?_⟩
  refine attr_of hb (thn (he.run pins s σ H _ I h) fun u s1 got => ?_)
  obtain ⟨x, H1, J, rx, a, C, d, fI, n, rfl, T, at_, q⟩ := got
  obtain rfl : u = Value.ref a := rx
  obtain ⟨ox, od, mA, inst, look, rel⟩ := inst_of J at_
  have l : List.lookup ("at" : Str) [(("at" : Str), V.int n)] = some (V.int n) := by simp [List.lookup]
  obtain ⟨v, hv, rv⟩ := RelO.some_of (v := V.int n) (o := mA "at") (by rw [← l]; exact rel "at")
  exact HandSPX.exc_get J.kIn inst T.exc.hg T.exc.hk T.exc.hs (PySem.W.findObj_own T.exc.hd T.noAt rfl (by rw [look, hv])) (handed_of rv) ⟨.int n, H1, J.tok _, rv, q⟩
/-- isinstance(e, c), e an error -/
def rIsErr (K : PySem.W.Frag) : List V → Hp → VK → Prop := fun xs H Q => ∃ (a C d fI : Addr) (n : Int) (c : V) (cv : Value) (b : Bool), xs = [.ref a, c] ∧ ClsV c cv ∧ ErrC K C fI ∧ ErrAt H a C d n ∧ PySem.W.kitOne K (.ref C) cv = some b ∧ Q (.bl b) H
theorem call_isErr : CallR X (.builtin "isinstance") (rIsErr X.K) := by
  intro pins s σ H xs us Q I r h
  obtain ⟨a, C, d, fI, n, c, cv, b, rfl, cl, T, at_, kit, q⟩ := h
  obtain ⟨u1, u2, rfl, r1, r2⟩ := vals2 r
  obtain rfl := cl.eq r2
  obtain rfl : u1 = Value.ref a := r1
  obtain ⟨ox, od, mA, inst, _, _⟩ := inst_of I at_
  have there : (PySem.W.clsIn X.K C).isSome = true := by
    obtain ⟨cd, hc, _⟩ := PySem.W.any_some T.exc.hd
    rw [hc]
    rfl
  exact PySem.W.kia_one (PySem.W.kit_err T.exc.hg T.exc.hk T.exc.hs T.exc.hd (PySem.W.findObj_data there T.exc.ha T.exc.hn T.exc.ht) T.exc.hm) I.kIn inst kit (fun z => nomatch z) fun tk => ⟨.bl b, H, I.tok tk, rfl, q⟩
end
end Le

set_option Elab.async false
set_option linter.all false
set_option maxRecDepth 100000
set_option maxHeartbeats 4000000
namespace Le
open PySem PySem.Spec PyProof.Rows L2
def topS (i : Nat) : Stmt := PySem.Challenge.pw_leastmend_k06_errors_are_apart.main.body.getD i (.Pass ⟨0, 0, 0, 0⟩)
abbrev sInit : Stmt := inClass (topS 1) 0
abbrev sFirst : Stmt := topS 14
abbrev sSecond : Stmt := topS 15
abbrev sKinds : Stmt := topS 16
abbrev sLaw : Stmt := topS 17
section
variable {P : Program} {w : World} {K : PySem.W.Frag} {mg : Str → Option Value} {base : Heap}
/-! ### MendError.__init__ -/
theorem scI : FnScope ["self", "at"] ["self", "at"] (defScope sInit) := ⟨rfl, rfl, rfl, by decide +kernel, rfl, by decide +kernel, by decide +kernel⟩
theorem ok_init {f : Addr} {fd : FuncData} {k : Nat} (F : Fun K "__init__" "MendError.__init__" sInit f fd) : FnOk P w K mg base CX0 (k + 1) f fd ["self", "at"] (spInit K) := by
  refine F.ok scI (fun vs H Q E h => ?_) (fun cdv A outer s H vs Q E hr h => ?_)
  · obtain ⟨a, C, fI, n, rfl, _⟩ := h
    rfl
  · obtain ⟨a, C, fI, n, rfl, T, ea, q⟩ := h
    refine ⟨_, pss_one (ps_ost (pv 0) (pv 1)), ?_⟩
    exact ⟨_, rfl, _, rfl, a, C, rfl, T.oex, T.noAt, .inl ⟨ea, fun d nd ne => q d nd ne⟩⟩
theorem made_err {C fI : Addr} {n : Int} {i : Nat} {σ : L2.St} {H : Hp} {Q : VK} (T : ErrC K C fI) (hv : σ[i]? = some (some (.int n))) (want : ∀ (a d : Addr) (H' : Hp), Same H H' → ErrAt H' a C d n → Q (.ref a) H') : tErr C (spInit K) (tCons (tVar i) tNil) σ H Q := by
  refine ⟨_, hv, by show 1 ≤ 1000; decide, fun a na => ⟨a, C, fI, n, rfl, T, upd_same, fun d nd ne => ⟨rfl, want a d _ (fun b o e => ?_) ⟨upd_same, ?_⟩⟩⟩⟩
  · have nb : b ≠ a := ne_of_none e na
    have nd' : H d = none := by
      rw [upd_ne ne] at nd
      exact nd
    rw [upd_ne nb, upd_ne (ne_of_none e nd'), upd_ne nb]
    exact e
  · rw [upd_ne ne, upd_same]
theorem scF : FnScope ["k", "n"] ["k", "n"] (defScope sFirst) := ⟨rfl, rfl, rfl, by decide +kernel, rfl, by decide +kernel, by decide +kernel⟩
theorem scS : FnScope ["k", "n"] ["k", "n"] (defScope sSecond) := ⟨rfl, rfl, rfl, by decide +kernel, rfl, by decide +kernel, by decide +kernel⟩
/-- an error of the class at C, new, made of n -/
def Made (C : Addr) (n : Int) (H : Hp) (Q : VK) : Prop := ∀ (a d : Addr) (H' : Hp), Same H H' → ErrAt H' a C d n → Q (.ref a) H'
def spFirst (c0 c1 c2 c3 c4 c5 : Addr) : Sp := fun vs H Q _ => ∃ k n : Int, vs = [.int k, .int n] ∧
  ((k = 0 ∧ Made c0 n H Q) ∨ (k = 1 ∧ Made c1 n H Q) ∨ (k = 2 ∧ Made c2 n H Q) ∨ (k = 3 ∧ Made c3 n H Q) ∨ (k = 4 ∧ Made c4 n H Q) ∨ (k = 5 ∧ Made c5 n H Q) ∨ (6 ≤ k ∧ Q .non H))
def spSecond (c6 c7 c8 c9 c10 : Addr) : Sp := fun vs H Q _ => ∃ k n : Int, vs = [.int k, .int n] ∧
  ((k = 6 ∧ Made c6 n H Q) ∨ (k = 7 ∧ Made c7 n H Q) ∨ (k = 8 ∧ Made c8 n H Q) ∨ (k = 9 ∧ Made c9 n H Q) ∨ (k = 10 ∧ Made c10 n H Q))
theorem iteEq {i j : Int} {A B : Prop} (h1 : i = j → A) (h2 : i ≠ j → B) : if decide (V.int i = V.int j) = true then A else B := by
  by_cases e : i = j
  · subst e
    rw [decide_eq_true rfl]
    exact iteT (h1 rfl)
  · rw [decide_eq_false (fun z => e (V.int.inj z))]
    exact iteF (h2 e)
theorem ok_first {f fI c0 c1 c2 c3 c4 c5 : Addr} {fd fdI : FuncData} {k : Nat} (F : Fun K "_law_first" "_law_first" sFirst f fd) (GI : FnOk P w K mg base CX0 (k + 1) fI fdI ["self", "at"] (spInit K)) (bI : Binds K fdI ["self", "at"] [])
    (T0 : ErrC K c0 fI) (T1 : ErrC K c1 fI) (T2 : ErrC K c2 fI) (T3 : ErrC K c3 fI) (T4 : ErrC K c4 fI) (T5 : ErrC K c5 fI)
    (g0 : mg "BadLine" = some (.ref c0)) (g1 : mg "TakenRule" = some (.ref c1)) (g2 : mg "TooLarge" = some (.ref c2)) (g3 : mg "UnknownSymbol" = some (.ref c3)) (g4 : mg "NoRow" = some (.ref c4)) (g5 : mg "NotReached" = some (.ref c5)) :
    FnOk P w K mg base CX0 (k + 3) f fd ["k", "n"] (spFirst c0 c1 c2 c3 c4 c5) := by
  refine F.ok scF (fun vs H Q E h => ?_) (fun cdv A outer s H vs Q E hr h => ?_)
  · obtain ⟨k, n, rfl, _⟩ := h
    rfl
  · obtain ⟨k, n, rfl, h⟩ := h
    refine ⟨_, pss_cons (ps_if (pt_cmpR op_eq (pv 0) pe_int (nomark _)) (pss_one (ps_ret (pe_err T0 GI hr bI pass0 rfl g0 (pa_cons (pv 1) pa_nil)))) pss_nil)
      (pss_cons (ps_if (pt_cmpR op_eq (pv 0) pe_int (nomark _)) (pss_one (ps_ret (pe_err T1 GI hr bI pass0 rfl g1 (pa_cons (pv 1) pa_nil)))) pss_nil)
      (pss_cons (ps_if (pt_cmpR op_eq (pv 0) pe_int (nomark _)) (pss_one (ps_ret (pe_err T2 GI hr bI pass0 rfl g2 (pa_cons (pv 1) pa_nil)))) pss_nil)
      (pss_cons (ps_if (pt_cmpR op_eq (pv 0) pe_int (nomark _)) (pss_one (ps_ret (pe_err T3 GI hr bI pass0 rfl g3 (pa_cons (pv 1) pa_nil)))) pss_nil)
      (pss_cons (ps_if (pt_cmpR op_eq (pv 0) pe_int (nomark _)) (pss_one (ps_ret (pe_err T4 GI hr bI pass0 rfl g4 (pa_cons (pv 1) pa_nil)))) pss_nil)
      (pss_cons (ps_if (pt_cmpR op_eq (pv 0) pe_int (nomark _)) (pss_one (ps_ret (pe_err T5 GI hr bI pass0 rfl g5 (pa_cons (pv 1) pa_nil)))) pss_nil)
      (pss_one (ps_ret pe_non))))))), ?_⟩
    have pick : ∀ {j : Int} {C : Addr}, k = j → (k = j → Made C n H Q) → Made C n H Q := fun e f => f e
    refine ⟨_, rfl, rfl, _, rfl, iteEq (fun e => made_err T0 rfl ?_) fun n0 => ?_⟩
    · rcases h with ⟨_, m⟩ | ⟨_, _⟩ | ⟨_, _⟩ | ⟨_, _⟩ | ⟨_, _⟩ | ⟨_, _⟩ | ⟨_, _⟩ <;> first | exact m | omega
    refine ⟨_, rfl, rfl, _, rfl, iteEq (fun e => made_err T1 rfl ?_) fun n1 => ?_⟩
    · rcases h with ⟨_, m⟩ | ⟨_, m⟩ | ⟨_, _⟩ | ⟨_, _⟩ | ⟨_, _⟩ | ⟨_, _⟩ | ⟨_, _⟩ <;> first | omega | exact m
    refine ⟨_, rfl, rfl, _, rfl, iteEq (fun e => made_err T2 rfl ?_) fun n2 => ?_⟩
    · rcases h with ⟨_, m⟩ | ⟨_, m⟩ | ⟨_, m⟩ | ⟨_, _⟩ | ⟨_, _⟩ | ⟨_, _⟩ | ⟨_, _⟩ <;> first | omega | exact m
    refine ⟨_, rfl, rfl, _, rfl, iteEq (fun e => made_err T3 rfl ?_) fun n3 => ?_⟩
    · rcases h with ⟨_, m⟩ | ⟨_, m⟩ | ⟨_, m⟩ | ⟨_, m⟩ | ⟨_, _⟩ | ⟨_, _⟩ | ⟨_, _⟩ <;> first | omega | exact m
    refine ⟨_, rfl, rfl, _, rfl, iteEq (fun e => made_err T4 rfl ?_) fun n4 => ?_⟩
    · rcases h with ⟨_, m⟩ | ⟨_, m⟩ | ⟨_, m⟩ | ⟨_, m⟩ | ⟨_, m⟩ | ⟨_, _⟩ | ⟨_, _⟩ <;> first | omega | exact m
    refine ⟨_, rfl, rfl, _, rfl, iteEq (fun e => made_err T5 rfl ?_) fun n5 => ?_⟩
    · rcases h with ⟨_, m⟩ | ⟨_, m⟩ | ⟨_, m⟩ | ⟨_, m⟩ | ⟨_, m⟩ | ⟨_, m⟩ | ⟨_, _⟩ <;> first | omega | exact m
    rcases h with ⟨_, _⟩ | ⟨_, _⟩ | ⟨_, _⟩ | ⟨_, _⟩ | ⟨_, _⟩ | ⟨_, _⟩ | ⟨_, m⟩
    all_goals first | omega | exact m
theorem ok_second {f fI c6 c7 c8 c9 c10 : Addr} {fd fdI : FuncData} {k : Nat} (F : Fun K "_law_second" "_law_second" sSecond f fd) (GI : FnOk P w K mg base CX0 (k + 1) fI fdI ["self", "at"] (spInit K)) (bI : Binds K fdI ["self", "at"] [])
    (T6 : ErrC K c6 fI) (T7 : ErrC K c7 fI) (T8 : ErrC K c8 fI) (T9 : ErrC K c9 fI) (T10 : ErrC K c10 fI)
    (g6 : mg "BadKinds" = some (.ref c6)) (g7 : mg "OutOfRange" = some (.ref c7)) (g8 : mg "TooManySigns" = some (.ref c8)) (g9 : mg "TooLong" = some (.ref c9)) (g10 : mg "BadMend" = some (.ref c10)) :
    FnOk P w K mg base CX0 (k + 3) f fd ["k", "n"] (spSecond c6 c7 c8 c9 c10) := by
  refine F.ok scS (fun vs H Q E h => ?_) (fun cdv A outer s H vs Q E hr h => ?_)
  · obtain ⟨k, n, rfl, _⟩ := h
    rfl
  · obtain ⟨k, n, rfl, h⟩ := h
    refine ⟨_, pss_cons (ps_if (pt_cmpR op_eq (pv 0) pe_int (nomark _)) (pss_one (ps_ret (pe_err T6 GI hr bI pass0 rfl g6 (pa_cons (pv 1) pa_nil)))) pss_nil)
      (pss_cons (ps_if (pt_cmpR op_eq (pv 0) pe_int (nomark _)) (pss_one (ps_ret (pe_err T7 GI hr bI pass0 rfl g7 (pa_cons (pv 1) pa_nil)))) pss_nil)
      (pss_cons (ps_if (pt_cmpR op_eq (pv 0) pe_int (nomark _)) (pss_one (ps_ret (pe_err T8 GI hr bI pass0 rfl g8 (pa_cons (pv 1) pa_nil)))) pss_nil)
      (pss_cons (ps_if (pt_cmpR op_eq (pv 0) pe_int (nomark _)) (pss_one (ps_ret (pe_err T9 GI hr bI pass0 rfl g9 (pa_cons (pv 1) pa_nil)))) pss_nil)
      (pss_cons (ps_if (pt_cmpR op_eq (pv 0) pe_int (nomark _)) (pss_one (ps_ret (pe_err T10 GI hr bI pass0 rfl g10 (pa_cons (pv 1) pa_nil)))) pss_nil)
      (pss_one (ps_ret pe_non)))))), ?_⟩
    refine ⟨_, rfl, rfl, _, rfl, iteEq (fun e => made_err T6 rfl ?_) fun n0 => ?_⟩
    · rcases h with ⟨_, m⟩ | ⟨_, _⟩ | ⟨_, _⟩ | ⟨_, _⟩ | ⟨_, _⟩ <;> first | exact m | omega
    refine ⟨_, rfl, rfl, _, rfl, iteEq (fun e => made_err T7 rfl ?_) fun n1 => ?_⟩
    · rcases h with ⟨_, m⟩ | ⟨_, m⟩ | ⟨_, _⟩ | ⟨_, _⟩ | ⟨_, _⟩ <;> first | omega | exact m
    refine ⟨_, rfl, rfl, _, rfl, iteEq (fun e => made_err T8 rfl ?_) fun n2 => ?_⟩
    · rcases h with ⟨_, m⟩ | ⟨_, m⟩ | ⟨_, m⟩ | ⟨_, _⟩ | ⟨_, _⟩ <;> first | omega | exact m
    refine ⟨_, rfl, rfl, _, rfl, iteEq (fun e => made_err T9 rfl ?_) fun n3 => ?_⟩
    · rcases h with ⟨_, m⟩ | ⟨_, m⟩ | ⟨_, m⟩ | ⟨_, m⟩ | ⟨_, _⟩ <;> first | omega | exact m
    refine ⟨_, rfl, rfl, _, rfl, iteEq (fun e => made_err T10 rfl ?_) fun n4 => ?_⟩
    · rcases h with ⟨_, m⟩ | ⟨_, m⟩ | ⟨_, m⟩ | ⟨_, m⟩ | ⟨_, m⟩ <;> first | omega | exact m
    rcases h with ⟨_, _⟩ | ⟨_, _⟩ | ⟨_, _⟩ | ⟨_, _⟩ | ⟨_, _⟩
    all_goals omega
theorem scKd : FnScope ["e"] ["e"] (defScope sKinds) := ⟨rfl, rfl, rfl, by decide +kernel, rfl, by decide +kernel, by decide +kernel⟩
/-- the eleven classes, and what isinstance says of an error of the class at C -/
structure Kit (K : PySem.W.Frag) (C c0 c1 c2 c3 c4 c5 c6 c7 c8 c9 c10 : Addr) (b : Nat → Bool) : Prop where
  k0 : PySem.W.kitOne K (.ref C) (.ref c0) = some (b 0)
  k1 : PySem.W.kitOne K (.ref C) (.ref c1) = some (b 1)
  k2 : PySem.W.kitOne K (.ref C) (.ref c2) = some (b 2)
  k3 : PySem.W.kitOne K (.ref C) (.ref c3) = some (b 3)
  k4 : PySem.W.kitOne K (.ref C) (.ref c4) = some (b 4)
  k5 : PySem.W.kitOne K (.ref C) (.ref c5) = some (b 5)
  k6 : PySem.W.kitOne K (.ref C) (.ref c6) = some (b 6)
  k7 : PySem.W.kitOne K (.ref C) (.ref c7) = some (b 7)
  k8 : PySem.W.kitOne K (.ref C) (.ref c8) = some (b 8)
  k9 : PySem.W.kitOne K (.ref C) (.ref c9) = some (b 9)
  k10 : PySem.W.kitOne K (.ref C) (.ref c10) = some (b 10)
structure Globs (mg : Str → Option Value) (c0 c1 c2 c3 c4 c5 c6 c7 c8 c9 c10 : Addr) : Prop where
  g0 : mg "BadLine" = some (.ref c0)
  g1 : mg "TakenRule" = some (.ref c1)
  g2 : mg "TooLarge" = some (.ref c2)
  g3 : mg "UnknownSymbol" = some (.ref c3)
  g4 : mg "NoRow" = some (.ref c4)
  g5 : mg "NotReached" = some (.ref c5)
  g6 : mg "BadKinds" = some (.ref c6)
  g7 : mg "OutOfRange" = some (.ref c7)
  g8 : mg "TooManySigns" = some (.ref c8)
  g9 : mg "TooLong" = some (.ref c9)
  g10 : mg "BadMend" = some (.ref c10)
def bits (b : Nat → Bool) : List Bool := (List.range 11).map b
def spKinds (K : PySem.W.Frag) (c0 c1 c2 c3 c4 c5 c6 c7 c8 c9 c10 : Addr) : Sp := fun vs H Q _ => ∃ (a C d fI : Addr) (n : Int) (b : Nat → Bool), vs = [.ref a] ∧ ErrC K C fI ∧ ErrAt H a C d n ∧ Kit K C c0 c1 c2 c3 c4 c5 c6 c7 c8 c9 c10 b ∧
  ∀ p, H p = none → Q (.ref p) (upd H p (.lst ((bits b).map V.bl)))
theorem ok_kinds {f c0 c1 c2 c3 c4 c5 c6 c7 c8 c9 c10 : Addr} {fd : FuncData} {k : Nat} (F : Fun K "_law_kinds" "_law_kinds" sKinds f fd) (G : Globs mg c0 c1 c2 c3 c4 c5 c6 c7 c8 c9 c10) (mi : mg "isinstance" = none) :
    FnOk P w K mg base CX0 (k + 1) f fd ["e"] (spKinds K c0 c1 c2 c3 c4 c5 c6 c7 c8 c9 c10) := by
  refine F.ok scKd (fun vs H Q E h => ?_) (fun cdv A outer s H vs Q E hr h => ?_)
  · obtain ⟨a, C, d, fI, n, b, rfl, _⟩ := h
    rfl
  · obtain ⟨a, C, d, fI, n, b, rfl, T, at_, B, q⟩ := h
    refine ⟨_, pss_one (ps_ret (pe_lst
      (pa_cons (pe_callB call_isErr (by rfl) mi (by decide +kernel) (pa_cons (pv 0) (pa_cons (pe_glob (v := .ref c0) rfl G.g0 rfl) pa_nil)))
      (pa_cons (pe_callB call_isErr (by rfl) mi (by decide +kernel) (pa_cons (pv 0) (pa_cons (pe_glob (v := .ref c1) rfl G.g1 rfl) pa_nil)))
      (pa_cons (pe_callB call_isErr (by rfl) mi (by decide +kernel) (pa_cons (pv 0) (pa_cons (pe_glob (v := .ref c2) rfl G.g2 rfl) pa_nil)))
      (pa_cons (pe_callB call_isErr (by rfl) mi (by decide +kernel) (pa_cons (pv 0) (pa_cons (pe_glob (v := .ref c3) rfl G.g3 rfl) pa_nil)))
      (pa_cons (pe_callB call_isErr (by rfl) mi (by decide +kernel) (pa_cons (pv 0) (pa_cons (pe_glob (v := .ref c4) rfl G.g4 rfl) pa_nil)))
      (pa_cons (pe_callB call_isErr (by rfl) mi (by decide +kernel) (pa_cons (pv 0) (pa_cons (pe_glob (v := .ref c5) rfl G.g5 rfl) pa_nil)))
      (pa_cons (pe_callB call_isErr (by rfl) mi (by decide +kernel) (pa_cons (pv 0) (pa_cons (pe_glob (v := .ref c6) rfl G.g6 rfl) pa_nil)))
      (pa_cons (pe_callB call_isErr (by rfl) mi (by decide +kernel) (pa_cons (pv 0) (pa_cons (pe_glob (v := .ref c7) rfl G.g7 rfl) pa_nil)))
      (pa_cons (pe_callB call_isErr (by rfl) mi (by decide +kernel) (pa_cons (pv 0) (pa_cons (pe_glob (v := .ref c8) rfl G.g8 rfl) pa_nil)))
      (pa_cons (pe_callB call_isErr (by rfl) mi (by decide +kernel) (pa_cons (pv 0) (pa_cons (pe_glob (v := .ref c9) rfl G.g9 rfl) pa_nil)))
      (pa_cons (pe_callB call_isErr (by rfl) mi (by decide +kernel) (pa_cons (pv 0) (pa_cons (pe_glob (v := .ref c10) rfl G.g10 rfl) pa_nil)))
      pa_nil))))))))))))), ?_⟩
    refine ⟨_, rfl, a, C, d, fI, n, _, _, _, rfl, .own _, T, at_, B.k0, ?_⟩
    refine ⟨_, rfl, a, C, d, fI, n, _, _, _, rfl, .own _, T, at_, B.k1, ?_⟩
    refine ⟨_, rfl, a, C, d, fI, n, _, _, _, rfl, .own _, T, at_, B.k2, ?_⟩
    refine ⟨_, rfl, a, C, d, fI, n, _, _, _, rfl, .own _, T, at_, B.k3, ?_⟩
    refine ⟨_, rfl, a, C, d, fI, n, _, _, _, rfl, .own _, T, at_, B.k4, ?_⟩
    refine ⟨_, rfl, a, C, d, fI, n, _, _, _, rfl, .own _, T, at_, B.k5, ?_⟩
    refine ⟨_, rfl, a, C, d, fI, n, _, _, _, rfl, .own _, T, at_, B.k6, ?_⟩
    refine ⟨_, rfl, a, C, d, fI, n, _, _, _, rfl, .own _, T, at_, B.k7, ?_⟩
    refine ⟨_, rfl, a, C, d, fI, n, _, _, _, rfl, .own _, T, at_, B.k8, ?_⟩
    refine ⟨_, rfl, a, C, d, fI, n, _, _, _, rfl, .own _, T, at_, B.k9, ?_⟩
    refine ⟨_, rfl, a, C, d, fI, n, _, _, _, rfl, .own _, T, at_, B.k10, ?_⟩
    exact ⟨by show 11 ≤ sizeLine; decide, fun p np => q p np⟩
/-! ### lists of bools, compared -/
theorem dp_bits {H : Hp} {a : Addr} {bs : List Bool} (h : SqL K H a (bs.map V.bl)) : Dp K H (.ref a) (.list (bs.map PyData.bool)) := by
  refine .lst h ?_
  clear h
  induction bs with
  | nil => exact .nil
  | cons b r ih => exact .cons (.bl b) ih
theorem eqv_bits : ∀ bs : List Bool, PyData.eqv (.list (bs.map PyData.bool)) (.list (bs.map PyData.bool)) = true
  | [] => rfl
  | b :: r => by
    have ih : PyData.eqvAll (r.map PyData.bool) (r.map PyData.bool) = true := eqv_bits r
    show ((b == b) && PyData.eqvAll (r.map PyData.bool) (r.map PyData.bool)) = true
    rw [ih]
    simp
theorem shaped_of {d : PyData} (h1 : d.canLay0 = true) (h2 : d.depth ≤ 64) : SeqAt.shaped d = true := by
  unfold SeqAt.shaped
  rw [h1, decide_eq_true h2]
  rfl
theorem depth_bits : ∀ bs : List Bool, PyData.depthAll (bs.map PyData.bool) = 0
  | [] => rfl
  | b :: r => by
    show max (PyData.depth (.bool b)) (PyData.depthAll (r.map PyData.bool)) = 0
    rw [depth_bits r]
    rfl
theorem lay_bits : ∀ bs : List Bool, PyData.canLayAll0 (bs.map PyData.bool) = true
  | [] => rfl
  | b :: r => by
    show (PyData.canLay0 (.bool b) && PyData.canLayAll0 (r.map PyData.bool)) = true
    rw [lay_bits r]
    rfl
theorem shaped_bits (bs : List Bool) : SeqAt.shaped (.list (bs.map PyData.bool)) = true := by
  refine shaped_of ?_ ?_
  · exact lay_bits bs
  · show PyData.depthAll (bs.map PyData.bool) + 1 ≤ 64
    rw [depth_bits bs]
    decide
theorem scL : FnScope ["script", "number", "k", "e", "base", "j"] ["script"] (defScope sLaw) := ⟨rfl, rfl, rfl, by decide +kernel, rfl, by decide +kernel, by decide +kernel⟩
def spLaw (K : PySem.W.Frag) : Sp := fun vs H Q _ => ∃ (a : Addr) (ns : List Int), vs = [.ref a] ∧ SqL K H a (ns.map V.int) ∧ ns.length ≤ 63 ∧ ∀ H', Q (.bl true) H'
/-- the comprehension's list so far -/
def eqs (k : Int) (i : Nat) : List V := (List.range i).map fun (j : Nat) => V.bl (decide (V.int (0 + (j : Int)) = V.int k))
theorem eqs_more (k : Int) (i : Nat) : eqs k (i + 1) = eqs k i ++ [V.bl (decide (V.int (0 + (i : Int)) = V.int k))] := by
  unfold eqs
  rw [List.range_succ, List.map_append]
  rfl
theorem eqs_len (k : Int) (i : Nat) : (eqs k i).length = i := by
  unfold eqs
  rw [List.length_map, List.length_range]
def falses (i : Nat) : List V := (List.range i).map fun _ => V.bl false
theorem falses_more (i : Nat) : falses (i + 1) = falses i ++ [V.bl false] := by
  unfold falses
  rw [List.range_succ, List.map_append]
  rfl
theorem falses_len (i : Nat) : (falses i).length = i := by
  unfold falses
  rw [List.length_map, List.length_range]
theorem eqs_bits (i : Nat) : eqs (0 + (i : Int)) 11 = (bits fun j => decide (j = i)).map V.bl := by
  unfold eqs bits
  rw [List.map_map]
  refine List.map_congr_left fun j _ => ?_
  show V.bl (decide (V.int (0 + (j : Int)) = V.int (0 + (i : Int)))) = V.bl (decide (j = i))
  congr 1
  by_cases e : j = i
  · subst e
    rw [decide_eq_true rfl, decide_eq_true rfl]
  · rw [decide_eq_false e]
    exact decide_eq_false fun z => e (by
      have z' := V.int.inj z
      omega)
theorem falses_bits : falses 11 = (bits fun _ => false).map V.bl := by
  unfold falses bits
  rw [List.map_map]
  rfl
/-- all that is asked of the class at C, the i-th of the eleven -/
structure ClsF (K : PySem.W.Frag) (fI cM c0 c1 c2 c3 c4 c5 c6 c7 c8 c9 c10 C : Addr) (i : Nat) : Prop where
  err : ErrC K C fI
  kit : Kit K C c0 c1 c2 c3 c4 c5 c6 c7 c8 c9 c10 fun j => decide (j = i)
  men : PySem.W.kitOne K (.ref C) (.ref cM) = some true
  val : PySem.W.kitOne K (.ref C) (.type "ValueError") = some true
structure AllC (K : PySem.W.Frag) (fI cM c0 c1 c2 c3 c4 c5 c6 c7 c8 c9 c10 : Addr) : Prop where
  d0 : ClsF K fI cM c0 c1 c2 c3 c4 c5 c6 c7 c8 c9 c10 c0 0
  d1 : ClsF K fI cM c0 c1 c2 c3 c4 c5 c6 c7 c8 c9 c10 c1 1
  d2 : ClsF K fI cM c0 c1 c2 c3 c4 c5 c6 c7 c8 c9 c10 c2 2
  d3 : ClsF K fI cM c0 c1 c2 c3 c4 c5 c6 c7 c8 c9 c10 c3 3
  d4 : ClsF K fI cM c0 c1 c2 c3 c4 c5 c6 c7 c8 c9 c10 c4 4
  d5 : ClsF K fI cM c0 c1 c2 c3 c4 c5 c6 c7 c8 c9 c10 c5 5
  d6 : ClsF K fI cM c0 c1 c2 c3 c4 c5 c6 c7 c8 c9 c10 c6 6
  d7 : ClsF K fI cM c0 c1 c2 c3 c4 c5 c6 c7 c8 c9 c10 c7 7
  d8 : ClsF K fI cM c0 c1 c2 c3 c4 c5 c6 c7 c8 c9 c10 c8 8
  d9 : ClsF K fI cM c0 c1 c2 c3 c4 c5 c6 c7 c8 c9 c10 c9 9
  d10 : ClsF K fI cM c0 c1 c2 c3 c4 c5 c6 c7 c8 c9 c10 c10 10
section
variable {fI cM c0 c1 c2 c3 c4 c5 c6 c7 c8 c9 c10 : Addr}
theorem firstOf (D : AllC K fI cM c0 c1 c2 c3 c4 c5 c6 c7 c8 c9 c10) {n : Int} {H : Hp} {Q : VK} : ∀ {i : Nat}, i < 6 → (∀ C, ClsF K fI cM c0 c1 c2 c3 c4 c5 c6 c7 c8 c9 c10 C i → Made C n H Q) → ((0 + (i : Int)) = 0 ∧ Made c0 n H Q) ∨ ((0 + (i : Int)) = 1 ∧ Made c1 n H Q) ∨ ((0 + (i : Int)) = 2 ∧ Made c2 n H Q) ∨ ((0 + (i : Int)) = 3 ∧ Made c3 n H Q) ∨ ((0 + (i : Int)) = 4 ∧ Made c4 n H Q) ∨ ((0 + (i : Int)) = 5 ∧ Made c5 n H Q) ∨ (6 ≤ (0 + (i : Int)) ∧ Q .non H)
  | 0, _, h => .inl ⟨rfl, h _ D.d0⟩
  | 1, _, h => .inr (.inl ⟨rfl, h _ D.d1⟩)
  | 2, _, h => .inr (.inr (.inl ⟨rfl, h _ D.d2⟩))
  | 3, _, h => .inr (.inr (.inr (.inl ⟨rfl, h _ D.d3⟩)))
  | 4, _, h => .inr (.inr (.inr (.inr (.inl ⟨rfl, h _ D.d4⟩))))
  | 5, _, h => .inr (.inr (.inr (.inr (.inr (.inl ⟨rfl, h _ D.d5⟩)))))
  | i + 6, hi, _ => absurd hi (by omega)
theorem secondOf (D : AllC K fI cM c0 c1 c2 c3 c4 c5 c6 c7 c8 c9 c10) {n : Int} {H : Hp} {Q : VK} : ∀ {i : Nat}, ¬ i < 6 → i < 11 → (∀ C, ClsF K fI cM c0 c1 c2 c3 c4 c5 c6 c7 c8 c9 c10 C i → Made C n H Q) → ((0 + (i : Int)) = 6 ∧ Made c6 n H Q) ∨ ((0 + (i : Int)) = 7 ∧ Made c7 n H Q) ∨ ((0 + (i : Int)) = 8 ∧ Made c8 n H Q) ∨ ((0 + (i : Int)) = 9 ∧ Made c9 n H Q) ∨ ((0 + (i : Int)) = 10 ∧ Made c10 n H Q)
  | 6, _, _, h => .inl ⟨rfl, h _ D.d6⟩
  | 7, _, _, h => .inr (.inl ⟨rfl, h _ D.d7⟩)
  | 8, _, _, h => .inr (.inr (.inl ⟨rfl, h _ D.d8⟩))
  | 9, _, _, h => .inr (.inr (.inr (.inl ⟨rfl, h _ D.d9⟩)))
  | 10, _, _, h => .inr (.inr (.inr (.inr (⟨rfl, h _ D.d10⟩))))
  | 0, h, _, _ | 1, h, _, _ | 2, h, _, _ | 3, h, _, _ | 4, h, _, _ | 5, h, _, _ => absurd (by decide) h
  | i + 11, _, hi, _ => absurd hi (by omega)
end
theorem same_upd {H : Hp} {p : Addr} {o : HO} (h : H p = none) : Same H (upd H p o) := fun b x e => by
  rw [upd_ne (ne_of_none e h)]
  exact e
theorem law_rest {f fI fF fS fK cM c0 c1 c2 c3 c4 c5 c6 c7 c8 c9 c10 : Addr} {fd fdI fdF fdS fdK : FuncData} {k : Nat} (G : Globs mg c0 c1 c2 c3 c4 c5 c6 c7 c8 c9 c10) (gM : mg "MendError" = some (.ref cM)) (TM : ErrC K cM fI) (BM : Kit K cM c0 c1 c2 c3 c4 c5 c6 c7 c8 c9 c10 fun _ => false) (D : AllC K fI cM c0 c1 c2 c3 c4 c5 c6 c7 c8 c9 c10)
    (GI : FnOk P w K mg base CX0 (k + 1) fI fdI ["self", "at"] (spInit K)) (bI : Binds K fdI ["self", "at"] [])
    (GF : FnOk P w K mg base CX0 (k + 3) fF fdF ["k", "n"] (spFirst c0 c1 c2 c3 c4 c5)) (kF : PySem.W.keepIn K (.ref fF) = true) (bF : Binds K fdF ["k", "n"] []) (gF : mg "_law_first" = some (.ref fF))
    (GS : FnOk P w K mg base CX0 (k + 3) fS fdS ["k", "n"] (spSecond c6 c7 c8 c9 c10)) (kS : PySem.W.keepIn K (.ref fS) = true) (bS : Binds K fdS ["k", "n"] []) (gS : mg "_law_second" = some (.ref fS))
    (GK : FnOk P w K mg base CX0 (k + 3) fK fdK ["e"] (spKinds K c0 c1 c2 c3 c4 c5 c6 c7 c8 c9 c10)) (kK : PySem.W.keepIn K (.ref fK) = true) (bK : Binds K fdK ["e"] []) (gK : mg "_law_kinds" = some (.ref fK))
    (ml : mg "len" = none) (mi : mg "int" = none) (mr : mg "range" = none) (ms : mg "isinstance" = none) (mv : mg "ValueError" = none) (mb : mg "bool" = none) (cdv : Value) (A : Around) (outer : List Env) (s : Shared) (H : Hp) (E : XK) (hr : Room (k + 3) (A.deeper (envOfC "law" (defScope sLaw) s.heap.objs.size f cdv))) :
    ∃ t, PSs (cxOf CX0 P w K mg base ["script", "number", "k", "e", "base", "j"] "law" (defScope sLaw) f cdv A outer s H E).nox ((defBody sLaw).drop 2) t ∧
      ∀ (v0 : V) (N : Int) (Q : VK), (∀ H', Q (.bl true) H') → t { nx := fun _ H' => Q .non H', rt := Q } [some v0, some (.int N), none, none, none, none] H := by
  have hr2 : Room (k + 2) _ := hr.mono (by omega)
  refine ⟨_, (pss_cons (ps_for PassesOwn.never rfl (pi_range1 rfl mr (pa_cons pe_int pa_nil)) (pg_name (i := 2) scL.nd rfl (.inr rfl))
        (pss_cons (ps_set (i := 3) scL.nd rfl (.inl rfl) (pe_call GF hr (by rfl) gF kF bF .nil pass0 (pa_cons (pv 2) (pa_cons (pe_op op_add (pv 1) (pv 2)) pa_nil))))
        (pss_cons (ps_if (pt_cmpR op_ge (pv 2) pe_int (nomark _)) (pss_one (ps_set (i := 3) scL.nd rfl (.inl rfl) (pe_call GS hr (by rfl) gS kS bS .nil pass0 (pa_cons (pv 2) (pa_cons (pe_op op_add (pv 1) (pv 2)) pa_nil))))) pss_nil)
        (pss_cons (ps_if (PW.pt (pw_or (pt_not (pt_val (pe_callB call_isErr (by rfl) ms (by decide +kernel) (pa_cons (pv 3) (pa_cons (pe_glob (v := .ref cM) rfl gM rfl) pa_nil)))))
            (pw_or1 (pt_not (pt_val (pe_callB call_isErr (by rfl) ms (by decide +kernel) (pa_cons (pv 3) (pa_cons (pe_bltn (v := .ty "ValueError") (by rfl) mv (by decide +kernel) rfl) pa_nil)))))))) (pss_one (ps_ret pe_bl)) pss_nil)
        (pss_cons (ps_if (PW.pt (pw_or (pt_not (pt_val (pe_callB call_isi (by rfl) ms (by decide +kernel) (pa_cons (pe_at (pv 3)) (pa_cons (pe_bltn (v := .ty "int") (by rfl) mi (by decide +kernel) rfl) pa_nil)))))
            (pw_or (pt_val (pe_callB call_isi (by rfl) ms (by decide +kernel) (pa_cons (pe_at (pv 3)) (pa_cons (pe_bltn (v := .ty "bool") (by rfl) mb (by decide +kernel) rfl) pa_nil))))
            (pw_or1 (pt_cmpR op_ne (pe_at (pv 3)) (pe_op op_add (pv 1) (pv 2)) (nomark _)))))) (pss_one (ps_ret pe_bl)) pss_nil)
        (pss_one (ps_if (pt_cmpR (op_neD hr.units) (pe_call GK hr (by rfl) gK kK bK .nil pass0 (pa_cons (pv 3) pa_nil))
            (pe_lc (own := [("j", 5)]) (g := gName 5) rfl scL.nd (pi_range1 rfl mr (pa_cons pe_int pa_nil)) (blkOk_by (N := ["script", "number", "k", "e", "base", "j"]) (sc := defScope sLaw) (by decide +kernel)) (fun _ _ _ _ _ => pg_name (i := 5) scL.nd rfl (Or.inl rfl)) (fun _ _ _ _ _ => pts_nil)
              (fun _ _ _ _ _ => pe_cmpR op_eq (pv 5) (pv 2) (nomark _))) (nomark _)) (pss_one (ps_ret pe_bl)) pss_nil)))))))
      (pss_cons (ps_set (i := 4) scL.nd rfl (.inl rfl) (pe_err TM GI hr2 bI pass0 rfl gM (pa_cons (pv 1) pa_nil)))
      (pss_one (ps_ret (pe_and (pe_cmpR op_eq (pe_at (pv 4)) (pv 1) (nomark _)) (pe_one (pe_cmpR (op_eqD hr.units) (pe_call GK hr (by rfl) gK kK bK .nil pass0 (pa_cons (pv 4) pa_nil))
            (pe_lc (own := [("j", 5)]) (g := gName 5) rfl scL.nd (pi_range1 rfl mr (pa_cons pe_int pa_nil)) (blkOk_by (N := ["script", "number", "k", "e", "base", "j"]) (sc := defScope sLaw) (by decide +kernel)) (fun _ _ _ _ _ => pg_name (i := 5) scL.nd rfl (Or.inl rfl)) (fun _ _ _ _ _ => pts_nil)
              (fun _ _ _ _ _ => pe_bl)) (nomark _)))))))), fun v0 N Q q => ?_⟩
  refine ⟨11, rfl, by decide, by decide, for_range (lo := 0) (n := 11) (fun i σ H' => ∃ v2 v3, σ = [some v0, some (.int N), v2, v3, none, none] ∧ Same H H') ⟨none, none, rfl, Same.refl H⟩ ?_ ?_⟩
  · rintro i σ H1 hi ⟨v2, v3, rfl, s1⟩
    by_cases h6 : i < 6
    all_goals first
      | (refine ⟨_, rfl, _, rfl, _, rfl, _, _, rfl, rfl, _, _, rfl, firstOf D h6 fun C T a d H2 s2 at2 => ?_⟩
         refine ⟨_, rfl, _, _, rfl, rfl, _, rfl, ite2 (fun c => absurd (of_decide_eq_true c) (by omega)) fun _ => ?_⟩)
      | (refine ⟨_, rfl, _, rfl, _, rfl, _, _, rfl, rfl, _, _, rfl, .inr (.inr (.inr (.inr (.inr (.inr ⟨by omega, ?_⟩)))))⟩
         refine ⟨_, rfl, _, _, rfl, rfl, _, rfl, ite2 (fun _ => ?_) (fun c => absurd (decide_eq_true (by omega)) c)⟩
         refine ⟨_, rfl, _, rfl, _, rfl, _, _, rfl, rfl, _, _, rfl, secondOf D h6 hi fun C T a d H2 s2 at2 => ?_⟩)
    all_goals
      -- the error is a MendError and a ValueError
      refine ⟨_, rfl, a, C, d, fI, _, _, _, _, rfl, .own _, T.err, at2, T.men, _, rfl, iteF ?_⟩
      refine ⟨_, rfl, a, C, d, fI, _, _, _, _, rfl, .ty _, T.err, at2, T.val, _, rfl, iteF ?_⟩
      -- its integer
      refine ⟨_, rfl, a, C, d, fI, _, rfl, T.err, at2, _, _, _, _, _, rfl, .ty "int", .base (.int _), kit_ty (r := true) (by decide +kernel), _, rfl, iteF ?_⟩
      refine ⟨_, rfl, a, C, d, fI, _, rfl, T.err, at2, _, _, _, _, _, rfl, .ty "bool", .base (.int _), kit_ty (r := false) (by decide +kernel), _, rfl, iteF ?_⟩
      refine ⟨_, rfl, a, C, d, fI, _, rfl, T.err, at2, _, rfl, _, rfl, _, _, rfl, rfl, rfl, _, rfl, iteNS rfl ?_⟩
      -- its classes
      refine ⟨_, rfl, a, C, d, fI, _, _, rfl, T.err, at2, T.kit, fun p np => ?_⟩
      refine ⟨11, rfl, by decide, by decide, fun l nl => lc_range (lo := 0) (n := 11) (fun j H' => H' = upd (upd H2 p (.lst ((bits fun j => decide (j = i)).map V.bl))) l (.lst (eqs (0 + (i : Int)) j))) rfl ?_ ?_⟩
      · rintro j H3 hj rfl
        refine ⟨rfl, _, rfl, _, rfl, rfl, _, upd_same, by rw [eqs_len]; exact Nat.lt_trans hj (by decide), ?_⟩
        rw [upd_upd, eqs_more]
      · rintro H3 rfl
        have npl : p ≠ l := fun z => by
          rw [z] at nl
          rw [upd_same] at nl
          cases nl
        have hp : SqL K (upd (upd H2 p (.lst ((bits fun j => decide (j = i)).map V.bl))) l (.lst (eqs (0 + (i : Int)) 11))) p ((bits fun j => decide (j = i)).map V.bl) := SqL.of (by rw [upd_ne npl, upd_same])
        have hl : SqL K (upd (upd H2 p (.lst ((bits fun j => decide (j = i)).map V.bl))) l (.lst (eqs (0 + (i : Int)) 11))) l ((bits fun j => decide (j = i)).map V.bl) := SqL.of (by rw [upd_same, eqs_bits])
        refine ⟨_, _, dp_bits hp, dp_bits hl, shaped_bits _, shaped_bits _, _, rfl, ?_⟩
        rw [eqv_bits]
        refine iteF ⟨_, _, rfl, fun b o e => ?_⟩
        have e2 := s2 _ _ (s1 _ _ e)
        rw [upd_ne (ne_of_none ((same_upd np) _ _ e2) nl)]
        exact (same_upd np) _ _ e2
  · rintro σ H1 ⟨v2, v3, rfl, s1⟩
    refine ⟨_, rfl, by show 1 ≤ 1000; decide, fun a na => ⟨a, cM, fI, N, rfl, TM, upd_same, fun d nd ne => ⟨rfl, ?_⟩⟩⟩
    have at2 : ErrAt (upd (upd (upd H1 a (exo a cM none)) d (exd d [(("at" : Str), V.int N)])) a (exo a cM (some d))) a cM d N := ⟨upd_same, by rw [upd_ne ne, upd_same]⟩
    revert at2
    generalize upd (upd (upd H1 a (exo a cM none)) d (exd d [(("at" : Str), V.int N)])) a (exo a cM (some d)) = H2
    intro at2
    refine ⟨_, rfl, a, cM, d, fI, _, rfl, TM, at2, _, rfl, rfl, _, rfl, ?_⟩
    rw [decide_eq_true rfl]
    refine iteT ?_
    refine ⟨_, rfl, a, cM, d, fI, _, _, rfl, TM, at2, BM, fun p np => ?_⟩
    refine ⟨11, rfl, by decide, by decide, fun l nl => lc_range (lo := 0) (n := 11) (fun j H' => H' = upd (upd H2 p (.lst ((bits fun _ => false).map V.bl))) l (.lst (falses j))) rfl ?_ ?_⟩
    · rintro j H3 hj rfl
      refine ⟨rfl, ?_⟩
      refine ⟨_, upd_same, by rw [falses_len]; exact Nat.lt_trans hj (by decide), ?_⟩
      rw [upd_upd, falses_more]
    · rintro H3 rfl
      have npl : p ≠ l := fun z => by
        rw [z] at nl
        rw [upd_same] at nl
        cases nl
      have hp : SqL K (upd (upd H2 p (.lst ((bits fun _ => false).map V.bl))) l (.lst (falses 11))) p ((bits fun _ => false).map V.bl) := SqL.of (by rw [upd_ne npl, upd_same])
      have hl : SqL K (upd (upd H2 p (.lst ((bits fun _ => false).map V.bl))) l (.lst (falses 11))) l ((bits fun _ => false).map V.bl) := SqL.of (by rw [upd_same, falses_bits])
      refine ⟨_, _, dp_bits hp, dp_bits hl, shaped_bits _, shaped_bits _, ?_⟩
      rw [eqv_bits]
      exact q _
theorem ok_law {f fI fF fS fK cM c0 c1 c2 c3 c4 c5 c6 c7 c8 c9 c10 : Addr} {fd fdI fdF fdS fdK : FuncData} {k : Nat} (G : Globs mg c0 c1 c2 c3 c4 c5 c6 c7 c8 c9 c10) (gM : mg "MendError" = some (.ref cM)) (TM : ErrC K cM fI) (BM : Kit K cM c0 c1 c2 c3 c4 c5 c6 c7 c8 c9 c10 fun _ => false) (D : AllC K fI cM c0 c1 c2 c3 c4 c5 c6 c7 c8 c9 c10)
    (GI : FnOk P w K mg base CX0 (k + 1) fI fdI ["self", "at"] (spInit K)) (bI : Binds K fdI ["self", "at"] [])
    (GF : FnOk P w K mg base CX0 (k + 3) fF fdF ["k", "n"] (spFirst c0 c1 c2 c3 c4 c5)) (kF : PySem.W.keepIn K (.ref fF) = true) (bF : Binds K fdF ["k", "n"] []) (gF : mg "_law_first" = some (.ref fF))
    (GS : FnOk P w K mg base CX0 (k + 3) fS fdS ["k", "n"] (spSecond c6 c7 c8 c9 c10)) (kS : PySem.W.keepIn K (.ref fS) = true) (bS : Binds K fdS ["k", "n"] []) (gS : mg "_law_second" = some (.ref fS))
    (GK : FnOk P w K mg base CX0 (k + 3) fK fdK ["e"] (spKinds K c0 c1 c2 c3 c4 c5 c6 c7 c8 c9 c10)) (kK : PySem.W.keepIn K (.ref fK) = true) (bK : Binds K fdK ["e"] []) (gK : mg "_law_kinds" = some (.ref fK))
    (ml : mg "len" = none) (mi : mg "int" = none) (mr : mg "range" = none) (ms : mg "isinstance" = none) (mv : mg "ValueError" = none) (mb : mg "bool" = none) (F : Fun K "law" "law" sLaw f fd) : FnOk P w K mg base CX0 (k + 4) f fd ["script"] (spLaw K) := by
  refine F.ok scL (fun vs H Q E h => ?_) (fun cdv A outer s H vs Q E hr h => ?_)
  · obtain ⟨a, ns, rfl, _⟩ := h
    rfl
  · obtain ⟨a, ns, rfl, hS, hlen, q⟩ := h
    obtain ⟨t3, p3, q3⟩ := law_rest (P := P) (w := w) (base := base) (fd := fd) G gM TM BM D GI bI GF kF bF gF GS kS bS gS GK kK bK gK ml mi mr ms mv mb cdv A outer s H E hr
    refine ⟨_, pss_cons (ps_set (i := 1) scL.nd rfl (.inl rfl) pe_int)
      (pss_cons (ps_if (pt_cmpR op_gt (pe_callB call_len_seq (by rfl) ml PySem.boot_len (pa_cons (pv 0) pa_nil)) pe_int (nomark _))
        (pss_one (ps_set (i := 1) scL.nd rfl (.inl rfl) (pe_op op_sub (pe_op op_mod (pe_callTy call_int1 (by rfl) mi (by decide +kernel) (pa_cons (pe_ix ix_list (pv 0) pe_int (fun _ _ => rfl)) pa_nil)) (pe_op op_pow pe_int pe_int)) (pe_op op_pow pe_int pe_int)))) pss_nil) p3), ?_⟩
    refine ⟨_, rfl, a, _, rfl, .inl hS, _, _, rfl, rfl, _, rfl, ite2 (fun c => ?_) (fun _ => q3 _ _ _ q)⟩
    have c1 : (0 : Int) < ((ns.map V.int).length : Int) := of_decide_eq_true c
    rw [List.length_map] at c1
    obtain ⟨z, hz⟩ : ∃ z, ns[0]? = some z := ⟨_, List.getElem?_eq_getElem (by omega)⟩
    have gi : (ns.map V.int)[0]? = some (V.int z) := by rw [List.getElem?_map, hz]; rfl
    refine ⟨_, rfl, a, _, _, _, rfl, rfl, hS, atI_nat (j := 0) gi, .inl ⟨_, rfl, _, _, rfl, rfl, ⟨by decide, by decide, by decide⟩, _, _, rfl, rfl, (by show (0 : Int) < 10 ^ (30 : Int).toNat; decide), _, _, rfl, rfl, ⟨by decide, by decide, by decide⟩, _, _, rfl, rfl, q3 _ _ _ q⟩⟩
end
/-! ### what the top has written -/
def clsOk (K : PySem.W.Frag) (C fI : Addr) (cs : List (Addr × Nat)) (bit : Nat → Bool) : Bool :=
  PySem.W.findIn K (.ref C) "__setattr__" == some (some (.builtin "object.__setattr__")) && (PySem.W.subIn K (.ref C) (.type "BaseException") == some true && (PySem.W.typeIn K (.ref C) == some (.type "type") && (PySem.W.keepIn K (.ref C) &&
  (PySem.W.findIn K (.ref C) "__getattribute__" == some (some (.builtin "BaseException.__getattribute__")) && (PySem.W.findIn K (.ref C) "__getattr__" == some none && (PySem.W.hasDictIn K C && (PySem.W.findIn K (.ref C) "__class__" == some (some (.builtin "object.__class__")) &&
  (PySem.W.specialIn K (.builtin "object.__class__") "__get__" == some (some (.builtin "getset_descriptor.__get__")) && (PySem.W.takesIn K (.builtin "object.__class__") == some true && (PySem.W.mroIn K C (.type "object") == some true && (PySem.W.findIn K (.ref C) "__init__" == some (some (.ref fI)) &&
  (PySem.W.typeIn K (.ref fI) == some (.type "function") && (PySem.W.findIn K (.ref C) "at" == some none && cs.all fun c => PySem.W.kitOne K (.ref C) (.ref c.1) == some (bit c.2))))))))))))))
theorem cls_err {K : PySem.W.Frag} {C fI : Addr} {cs : List (Addr × Nat)} {bit : Nat → Bool} {nm q : Str} {N : Addr} {bs bm : List Value} {sn : List Str} {sub : List Value} {ab : Bool} {col : Option Bool} {dd : Option Addr} {m0 m1 m2 m3 m5 : Option Value}
    (h : clsOk K C fI cs bit = true) (xL : K.lookup C = some (excClassObj nm q C N bs bm true sn sub ab col dd m0 m1 m2 m3 m5 "ValueError.__new__")) (hb : PySem.HandSPX.refsVE bm = true) :
    ErrC K C fI ∧ ∀ c ∈ cs, PySem.W.kitOne K (.ref C) (.ref c.1) = some (bit c.2) := by
  unfold clsOk at h
  simp only [Bool.and_eq_true, beq_iff_eq, List.all_eq_true] at h
  obtain ⟨h1, h2, h3, h4, h5, h6, h7, h8, h9, h10, h11, h12, h13, h14, h15⟩ := h
  exact ⟨⟨⟨⟨nm, q, N, bs, bm, sn, sub, ab, col, dd, m0, m1, m2, m3, m5, xL, hb⟩, h1, h2, h3, h4⟩, ⟨h5, h6, h2, h7, h8, h9, h10, h11⟩, h12, h13, h14⟩, h15⟩
theorem kit_of_all {K : PySem.W.Frag} {C c0 c1 c2 c3 c4 c5 c6 c7 c8 c9 c10 : Addr} {bit : Nat → Bool} (h : ∀ c ∈ ([(c0, 0), (c1, 1), (c2, 2), (c3, 3), (c4, 4), (c5, 5), (c6, 6), (c7, 7), (c8, 8), (c9, 9), (c10, 10)] : List (Addr × Nat)), PySem.W.kitOne K (.ref C) (.ref c.1) = some (bit c.2)) : Kit K C c0 c1 c2 c3 c4 c5 c6 c7 c8 c9 c10 bit :=
  ⟨h (c0, 0) (by simp), h (c1, 1) (by simp), h (c2, 2) (by simp), h (c3, 3) (by simp), h (c4, 4) (by simp), h (c5, 5) (by simp), h (c6, 6) (by simp), h (c7, 7) (by simp), h (c8, 8) (by simp), h (c9, 9) (by simp), h (c10, 10) (by simp)⟩
theorem all_mk {l : PySem.W.OpenLaw} {w : World} {K : PySem.W.Frag} {h : Heap} {mg : Str → Option Value} {fa fI f14 f15 f16 f17 cM c0 c1 c2 c3 c4 c5 c6 c7 c8 c9 c10 : Addr} (X : K.In h) (G : h.Ns mainGlobals mg) (hfa : mg "law" = some (.ref fa))
    {odI anI od14 an14 od15 an15 od16 an16 od17 an17 : Option Addr} {slI sl14 sl15 sl16 sl17 : Array (Option Value)} {ocI kVI dcI pmI cdI ctI oc14 kV14 dc14 pm14 cd14 ct14 oc15 kV15 dc15 pm15 cd15 ct15 oc16 kV16 dc16 pm16 cd16 ct16 oc17 kV17 dc17 pm17 cd17 ct17 : Value}
    {nmM qM : Str} {NM : Addr} {bsM bmM : List Value} {snM : List Str} {subM : List Value} {abM : Bool} {colM : Option Bool} {ddM : Option Addr} {m0M m1M m2M m3M m5M : Option Value}
    {nm0 q0 : Str} {N0 : Addr} {bs0 bm0 : List Value} {sn0 : List Str} {sub0 : List Value} {ab0 : Bool} {col0 : Option Bool} {dd0 : Option Addr} {m00 m10 m20 m30 m50 : Option Value}
    {nm1 q1 : Str} {N1 : Addr} {bs1 bm1 : List Value} {sn1 : List Str} {sub1 : List Value} {ab1 : Bool} {col1 : Option Bool} {dd1 : Option Addr} {m01 m11 m21 m31 m51 : Option Value}
    {nm2 q2 : Str} {N2 : Addr} {bs2 bm2 : List Value} {sn2 : List Str} {sub2 : List Value} {ab2 : Bool} {col2 : Option Bool} {dd2 : Option Addr} {m02 m12 m22 m32 m52 : Option Value}
    {nm3 q3 : Str} {N3 : Addr} {bs3 bm3 : List Value} {sn3 : List Str} {sub3 : List Value} {ab3 : Bool} {col3 : Option Bool} {dd3 : Option Addr} {m03 m13 m23 m33 m53 : Option Value}
    {nm4 q4 : Str} {N4 : Addr} {bs4 bm4 : List Value} {sn4 : List Str} {sub4 : List Value} {ab4 : Bool} {col4 : Option Bool} {dd4 : Option Addr} {m04 m14 m24 m34 m54 : Option Value}
    {nm5 q5 : Str} {N5 : Addr} {bs5 bm5 : List Value} {sn5 : List Str} {sub5 : List Value} {ab5 : Bool} {col5 : Option Bool} {dd5 : Option Addr} {m05 m15 m25 m35 m55 : Option Value}
    {nm6 q6 : Str} {N6 : Addr} {bs6 bm6 : List Value} {sn6 : List Str} {sub6 : List Value} {ab6 : Bool} {col6 : Option Bool} {dd6 : Option Addr} {m06 m16 m26 m36 m56 : Option Value}
    {nm7 q7 : Str} {N7 : Addr} {bs7 bm7 : List Value} {sn7 : List Str} {sub7 : List Value} {ab7 : Bool} {col7 : Option Bool} {dd7 : Option Addr} {m07 m17 m27 m37 m57 : Option Value}
    {nm8 q8 : Str} {N8 : Addr} {bs8 bm8 : List Value} {sn8 : List Str} {sub8 : List Value} {ab8 : Bool} {col8 : Option Bool} {dd8 : Option Addr} {m08 m18 m28 m38 m58 : Option Value}
    {nm9 q9 : Str} {N9 : Addr} {bs9 bm9 : List Value} {sn9 : List Str} {sub9 : List Value} {ab9 : Bool} {col9 : Option Bool} {dd9 : Option Addr} {m09 m19 m29 m39 m59 : Option Value}
    {nm10 q10 : Str} {N10 : Addr} {bs10 bm10 : List Value} {sn10 : List Str} {sub10 : List Value} {ab10 : Bool} {col10 : Option Bool} {dd10 : Option Addr} {m010 m110 m210 m310 m510 : Option Value}
    (aM : PySem.W.nsIn K mainGlobals "MendError" = some (some (.ref cM))) (xM : K.lookup cM = some (excClassObj nmM qM cM NM bsM bmM true snM subM abM colM ddM m0M m1M m2M m3M m5M "ValueError.__new__")) (bM : PySem.HandSPX.refsVE bmM = true)
    (a0 : PySem.W.nsIn K mainGlobals "BadLine" = some (some (.ref c0))) (x0 : K.lookup c0 = some (excClassObj nm0 q0 c0 N0 bs0 bm0 true sn0 sub0 ab0 col0 dd0 m00 m10 m20 m30 m50 "ValueError.__new__")) (b0 : PySem.HandSPX.refsVE bm0 = true)
    (a1 : PySem.W.nsIn K mainGlobals "TakenRule" = some (some (.ref c1))) (x1 : K.lookup c1 = some (excClassObj nm1 q1 c1 N1 bs1 bm1 true sn1 sub1 ab1 col1 dd1 m01 m11 m21 m31 m51 "ValueError.__new__")) (b1 : PySem.HandSPX.refsVE bm1 = true)
    (a2 : PySem.W.nsIn K mainGlobals "TooLarge" = some (some (.ref c2))) (x2 : K.lookup c2 = some (excClassObj nm2 q2 c2 N2 bs2 bm2 true sn2 sub2 ab2 col2 dd2 m02 m12 m22 m32 m52 "ValueError.__new__")) (b2 : PySem.HandSPX.refsVE bm2 = true)
    (a3 : PySem.W.nsIn K mainGlobals "UnknownSymbol" = some (some (.ref c3))) (x3 : K.lookup c3 = some (excClassObj nm3 q3 c3 N3 bs3 bm3 true sn3 sub3 ab3 col3 dd3 m03 m13 m23 m33 m53 "ValueError.__new__")) (b3 : PySem.HandSPX.refsVE bm3 = true)
    (a4 : PySem.W.nsIn K mainGlobals "NoRow" = some (some (.ref c4))) (x4 : K.lookup c4 = some (excClassObj nm4 q4 c4 N4 bs4 bm4 true sn4 sub4 ab4 col4 dd4 m04 m14 m24 m34 m54 "ValueError.__new__")) (b4 : PySem.HandSPX.refsVE bm4 = true)
    (a5 : PySem.W.nsIn K mainGlobals "NotReached" = some (some (.ref c5))) (x5 : K.lookup c5 = some (excClassObj nm5 q5 c5 N5 bs5 bm5 true sn5 sub5 ab5 col5 dd5 m05 m15 m25 m35 m55 "ValueError.__new__")) (b5 : PySem.HandSPX.refsVE bm5 = true)
    (a6 : PySem.W.nsIn K mainGlobals "BadKinds" = some (some (.ref c6))) (x6 : K.lookup c6 = some (excClassObj nm6 q6 c6 N6 bs6 bm6 true sn6 sub6 ab6 col6 dd6 m06 m16 m26 m36 m56 "ValueError.__new__")) (b6 : PySem.HandSPX.refsVE bm6 = true)
    (a7 : PySem.W.nsIn K mainGlobals "OutOfRange" = some (some (.ref c7))) (x7 : K.lookup c7 = some (excClassObj nm7 q7 c7 N7 bs7 bm7 true sn7 sub7 ab7 col7 dd7 m07 m17 m27 m37 m57 "ValueError.__new__")) (b7 : PySem.HandSPX.refsVE bm7 = true)
    (a8 : PySem.W.nsIn K mainGlobals "TooManySigns" = some (some (.ref c8))) (x8 : K.lookup c8 = some (excClassObj nm8 q8 c8 N8 bs8 bm8 true sn8 sub8 ab8 col8 dd8 m08 m18 m28 m38 m58 "ValueError.__new__")) (b8 : PySem.HandSPX.refsVE bm8 = true)
    (a9 : PySem.W.nsIn K mainGlobals "TooLong" = some (some (.ref c9))) (x9 : K.lookup c9 = some (excClassObj nm9 q9 c9 N9 bs9 bm9 true sn9 sub9 ab9 col9 dd9 m09 m19 m29 m39 m59 "ValueError.__new__")) (b9 : PySem.HandSPX.refsVE bm9 = true)
    (a10 : PySem.W.nsIn K mainGlobals "BadMend" = some (some (.ref c10))) (x10 : K.lookup c10 = some (excClassObj nm10 q10 c10 N10 bs10 bm10 true sn10 sub10 ab10 col10 dd10 m010 m110 m210 m310 m510 "ValueError.__new__")) (b10 : PySem.HandSPX.refsVE bm10 = true)
    (i0 : PySem.W.findIn K (.ref cM) "__init__" = some (some (.ref fI)))
    (oM : clsOk K cM fI [(c0, 0), (c1, 1), (c2, 2), (c3, 3), (c4, 4), (c5, 5), (c6, 6), (c7, 7), (c8, 8), (c9, 9), (c10, 10)] (fun _ => false) = true)
    (o0 : clsOk K c0 fI [(c0, 0), (c1, 1), (c2, 2), (c3, 3), (c4, 4), (c5, 5), (c6, 6), (c7, 7), (c8, 8), (c9, 9), (c10, 10)] (fun j => decide (j = 0)) = true) (p0 : PySem.W.kitOne K (.ref c0) (.ref cM) = some true) (v0 : PySem.W.kitOne K (.ref c0) (.type "ValueError") = some true)
    (o1 : clsOk K c1 fI [(c0, 0), (c1, 1), (c2, 2), (c3, 3), (c4, 4), (c5, 5), (c6, 6), (c7, 7), (c8, 8), (c9, 9), (c10, 10)] (fun j => decide (j = 1)) = true) (p1 : PySem.W.kitOne K (.ref c1) (.ref cM) = some true) (v1 : PySem.W.kitOne K (.ref c1) (.type "ValueError") = some true)
    (o2 : clsOk K c2 fI [(c0, 0), (c1, 1), (c2, 2), (c3, 3), (c4, 4), (c5, 5), (c6, 6), (c7, 7), (c8, 8), (c9, 9), (c10, 10)] (fun j => decide (j = 2)) = true) (p2 : PySem.W.kitOne K (.ref c2) (.ref cM) = some true) (v2 : PySem.W.kitOne K (.ref c2) (.type "ValueError") = some true)
    (o3 : clsOk K c3 fI [(c0, 0), (c1, 1), (c2, 2), (c3, 3), (c4, 4), (c5, 5), (c6, 6), (c7, 7), (c8, 8), (c9, 9), (c10, 10)] (fun j => decide (j = 3)) = true) (p3 : PySem.W.kitOne K (.ref c3) (.ref cM) = some true) (v3 : PySem.W.kitOne K (.ref c3) (.type "ValueError") = some true)
    (o4 : clsOk K c4 fI [(c0, 0), (c1, 1), (c2, 2), (c3, 3), (c4, 4), (c5, 5), (c6, 6), (c7, 7), (c8, 8), (c9, 9), (c10, 10)] (fun j => decide (j = 4)) = true) (p4 : PySem.W.kitOne K (.ref c4) (.ref cM) = some true) (v4 : PySem.W.kitOne K (.ref c4) (.type "ValueError") = some true)
    (o5 : clsOk K c5 fI [(c0, 0), (c1, 1), (c2, 2), (c3, 3), (c4, 4), (c5, 5), (c6, 6), (c7, 7), (c8, 8), (c9, 9), (c10, 10)] (fun j => decide (j = 5)) = true) (p5 : PySem.W.kitOne K (.ref c5) (.ref cM) = some true) (v5 : PySem.W.kitOne K (.ref c5) (.type "ValueError") = some true)
    (o6 : clsOk K c6 fI [(c0, 0), (c1, 1), (c2, 2), (c3, 3), (c4, 4), (c5, 5), (c6, 6), (c7, 7), (c8, 8), (c9, 9), (c10, 10)] (fun j => decide (j = 6)) = true) (p6 : PySem.W.kitOne K (.ref c6) (.ref cM) = some true) (v6 : PySem.W.kitOne K (.ref c6) (.type "ValueError") = some true)
    (o7 : clsOk K c7 fI [(c0, 0), (c1, 1), (c2, 2), (c3, 3), (c4, 4), (c5, 5), (c6, 6), (c7, 7), (c8, 8), (c9, 9), (c10, 10)] (fun j => decide (j = 7)) = true) (p7 : PySem.W.kitOne K (.ref c7) (.ref cM) = some true) (v7 : PySem.W.kitOne K (.ref c7) (.type "ValueError") = some true)
    (o8 : clsOk K c8 fI [(c0, 0), (c1, 1), (c2, 2), (c3, 3), (c4, 4), (c5, 5), (c6, 6), (c7, 7), (c8, 8), (c9, 9), (c10, 10)] (fun j => decide (j = 8)) = true) (p8 : PySem.W.kitOne K (.ref c8) (.ref cM) = some true) (v8 : PySem.W.kitOne K (.ref c8) (.type "ValueError") = some true)
    (o9 : clsOk K c9 fI [(c0, 0), (c1, 1), (c2, 2), (c3, 3), (c4, 4), (c5, 5), (c6, 6), (c7, 7), (c8, 8), (c9, 9), (c10, 10)] (fun j => decide (j = 9)) = true) (p9 : PySem.W.kitOne K (.ref c9) (.ref cM) = some true) (v9 : PySem.W.kitOne K (.ref c9) (.type "ValueError") = some true)
    (o10 : clsOk K c10 fI [(c0, 0), (c1, 1), (c2, 2), (c3, 3), (c4, 4), (c5, 5), (c6, 6), (c7, 7), (c8, 8), (c9, 9), (c10, 10)] (fun j => decide (j = 10)) = true) (p10 : PySem.W.kitOne K (.ref c10) (.ref cM) = some true) (v10 : PySem.W.kitOne K (.ref c10) (.type "ValueError") = some true)
    (lI : K.lookup fI = some ⟨ocI, odI, .func (PySem.W.fnOf "__init__" "MendError.__init__" (defArgs sInit) (defBody sInit) (defScope sInit) .none kVI dcI pmI anI cdI ctI), slI⟩) (eI : PySem.W.codeIn K cdI "MendError.__init__" = true) (kI : PySem.W.keepIn K (.ref fI) = true)
    (n14 : PySem.W.nsIn K mainGlobals "_law_first" = some (some (.ref f14)))
    (l14 : K.lookup f14 = some ⟨oc14, od14, .func (PySem.W.fnOf "_law_first" "_law_first" (defArgs sFirst) (defBody sFirst) (defScope sFirst) .none kV14 dc14 pm14 an14 cd14 ct14), sl14⟩) (e14 : PySem.W.codeIn K cd14 "_law_first" = true) (k14 : PySem.W.keepIn K (.ref f14) = true)
    (n15 : PySem.W.nsIn K mainGlobals "_law_second" = some (some (.ref f15)))
    (l15 : K.lookup f15 = some ⟨oc15, od15, .func (PySem.W.fnOf "_law_second" "_law_second" (defArgs sSecond) (defBody sSecond) (defScope sSecond) .none kV15 dc15 pm15 an15 cd15 ct15), sl15⟩) (e15 : PySem.W.codeIn K cd15 "_law_second" = true) (k15 : PySem.W.keepIn K (.ref f15) = true)
    (n16 : PySem.W.nsIn K mainGlobals "_law_kinds" = some (some (.ref f16)))
    (l16 : K.lookup f16 = some ⟨oc16, od16, .func (PySem.W.fnOf "_law_kinds" "_law_kinds" (defArgs sKinds) (defBody sKinds) (defScope sKinds) .none kV16 dc16 pm16 an16 cd16 ct16), sl16⟩) (e16 : PySem.W.codeIn K cd16 "_law_kinds" = true) (k16 : PySem.W.keepIn K (.ref f16) = true)
    (n17 : PySem.W.nsIn K mainGlobals "law" = some (some (.ref f17)))
    (l17 : K.lookup f17 = some ⟨oc17, od17, .func (PySem.W.fnOf "law" "law" (defArgs sLaw) (defBody sLaw) (defScope sLaw) .none kV17 dc17 pm17 an17 cd17 ct17), sl17⟩) (e17 : PySem.W.codeIn K cd17 "law" = true) (k17 : PySem.W.keepIn K (.ref f17) = true)
    (z0 : PySem.W.nsIn K mainGlobals "len" = some none)
    (z1 : PySem.W.nsIn K mainGlobals "int" = some none)
    (z2 : PySem.W.nsIn K mainGlobals "range" = some none)
    (z3 : PySem.W.nsIn K mainGlobals "isinstance" = some none)
    (z4 : PySem.W.nsIn K mainGlobals "ValueError" = some none)
    (z5 : PySem.W.nsIn K mainGlobals "bool" = some none)
    : ∃ fd : FuncData, (∀ (s : Shared) (v : Value), BindsTo s fd ⟨[v], []⟩ [("script", v)]) ∧ ∀ base : Heap, K.In base → base.Ns mainGlobals mg → FnOk l.prog w K mg base CX0 4 fa fd ["script"] (spLaw K) := by
  have e := hfa.symm.trans (PySem.W.mg_of X G n17)
  cases e
  have m := fun {x : Str} (z : PySem.W.nsIn K mainGlobals x = some none) => PySem.W.mg_none_of X G z
  have g := fun {x : Str} {v : Value} (z : PySem.W.nsIn K mainGlobals x = some (some v)) => PySem.W.mg_of X G z
  obtain ⟨TM, BM⟩ := cls_err oM xM bM
  obtain ⟨T0, B0⟩ := cls_err o0 x0 b0
  obtain ⟨T1, B1⟩ := cls_err o1 x1 b1
  obtain ⟨T2, B2⟩ := cls_err o2 x2 b2
  obtain ⟨T3, B3⟩ := cls_err o3 x3 b3
  obtain ⟨T4, B4⟩ := cls_err o4 x4 b4
  obtain ⟨T5, B5⟩ := cls_err o5 x5 b5
  obtain ⟨T6, B6⟩ := cls_err o6 x6 b6
  obtain ⟨T7, B7⟩ := cls_err o7 x7 b7
  obtain ⟨T8, B8⟩ := cls_err o8 x8 b8
  obtain ⟨T9, B9⟩ := cls_err o9 x9 b9
  obtain ⟨T10, B10⟩ := cls_err o10 x10 b10
  have D : AllC K fI cM c0 c1 c2 c3 c4 c5 c6 c7 c8 c9 c10 := ⟨⟨T0, kit_of_all B0, p0, v0⟩, ⟨T1, kit_of_all B1, p1, v1⟩, ⟨T2, kit_of_all B2, p2, v2⟩, ⟨T3, kit_of_all B3, p3, v3⟩, ⟨T4, kit_of_all B4, p4, v4⟩, ⟨T5, kit_of_all B5, p5, v5⟩, ⟨T6, kit_of_all B6, p6, v6⟩, ⟨T7, kit_of_all B7, p7, v7⟩, ⟨T8, kit_of_all B8, p8, v8⟩, ⟨T9, kit_of_all B9, p9, v9⟩, ⟨T10, kit_of_all B10, p10, v10⟩⟩
  have FI := fun_mk (st := sInit) lI eI kI
  have F14 := fun_mk (st := sFirst) l14 e14 k14
  have F15 := fun_mk (st := sSecond) l15 e15 k15
  have F16 := fun_mk (st := sKinds) l16 e16 k16
  have F17 := fun_mk (st := sLaw) l17 e17 k17
  have bI := FI.binds (ps := ["self", "at"]) fun _ _ _ _ _ _ us hl => match us, hl with | [_, _], _ => rfl
  have b14 := F14.binds (ps := ["k", "n"]) fun _ _ _ _ _ _ us hl => match us, hl with | [_, _], _ => rfl
  have b15 := F15.binds (ps := ["k", "n"]) fun _ _ _ _ _ _ us hl => match us, hl with | [_, _], _ => rfl
  have b16 := F16.binds (ps := ["e"]) fun _ _ _ _ _ _ us hl => match us, hl with | [_], _ => rfl
  refine ⟨PySem.W.fnOf "law" "law" (defArgs sLaw) (defBody sLaw) (defScope sLaw) .none kV17 dc17 pm17 an17 cd17 ct17, fun s v => .of_eq rfl, fun base _ _ => ?_⟩
  have GG : Globs mg c0 c1 c2 c3 c4 c5 c6 c7 c8 c9 c10 := ⟨g a0, g a1, g a2, g a3, g a4, g a5, g a6, g a7, g a8, g a9, g a10⟩
  have GI : FnOk l.prog w K mg base CX0 1 fI _ ["self", "at"] (spInit K) := ok_init (k := 0) FI
  exact ok_law (k := 0) GG (g aM) TM (kit_of_all BM) D GI bI (ok_first (k := 0) F14 GI bI T0 T1 T2 T3 T4 T5 GG.g0 GG.g1 GG.g2 GG.g3 GG.g4 GG.g5) k14 b14 (g n14)
    (ok_second (k := 0) F15 GI bI T6 T7 T8 T9 T10 GG.g6 GG.g7 GG.g8 GG.g9 GG.g10) k15 b15 (g n15) (ok_kinds (k := 2) F16 GG (m z3)) k16 b16 (g n16) (m z0) (m z1) (m z2) (m z3) (m z4) (m z5) F17
end Le
open PySem PySem.W PyProof.Rows
set_option maxRecDepth 100000 in
set_option maxHeartbeats 0 in
theorem PySem.Challenge.cw_leastmend_k06_errors_are_apart_holds : PySem.Challenge.rw_leastmend_k06_errors_are_apart.Holds := by
  w_on; o_law; k_head; (case hw => w_witness2)
  k_fill
  refine L2.walk_of (l := PySem.Challenge.rw_leastmend_k06_errors_are_apart) (n := 63) (k := 4) (x := "script") (CX := fun _ => L2.CX0) (sp := fun w => Le.spLaw _) rfl (by decide) rfl ⟨rfl, by decide, by decide⟩ (fun w h Y => PySem.W.kIn_of Y) ?F (fun _ _ a ns hl _ hS => ⟨a, ns, rfl, hS, hl, fun _ => rfl⟩) (fun _ _ _ _ _ h => h)
  case F =>
    intro w mg fa h KX G hmg
    refine' Le.all_mk KX G hmg ?aM ?xM ?bM ?a0 ?x0 ?b0 ?a1 ?x1 ?b1 ?a2 ?x2 ?b2 ?a3 ?x3 ?b3 ?a4 ?x4 ?b4 ?a5 ?x5 ?b5 ?a6 ?x6 ?b6 ?a7 ?x7 ?b7 ?a8 ?x8 ?b8 ?a9 ?x9 ?b9 ?a10 ?x10 ?b10 ?i0 ?oM ?o0 ?p0 ?v0 ?o1 ?p1 ?v1 ?o2 ?p2 ?v2 ?o3 ?p3 ?v3 ?o4 ?p4 ?v4 ?o5 ?p5 ?v5 ?o6 ?p6 ?v6 ?o7 ?p7 ?v7 ?o8 ?p8 ?v8 ?o9 ?p9 ?v9 ?o10 ?p10 ?v10 ?lI ?eI ?kI ?n14 ?l14 ?e14 ?k14 ?n15 ?l15 ?e15 ?k15 ?n16 ?l16 ?e16 ?k16 ?n17 ?l17 ?e17 ?k17 ?z0 ?z1 ?z2 ?z3 ?z4 ?z5
    (case aM => k_is)
    (case xM => k_is)
    (case bM => decide +kernel)
    (case a0 => k_is)
    (case x0 => k_is)
    (case b0 => decide +kernel)
    (case a1 => k_is)
    (case x1 => k_is)
    (case b1 => decide +kernel)
    (case a2 => k_is)
    (case x2 => k_is)
    (case b2 => decide +kernel)
    (case a3 => k_is)
    (case x3 => k_is)
    (case b3 => decide +kernel)
    (case a4 => k_is)
    (case x4 => k_is)
    (case b4 => decide +kernel)
    (case a5 => k_is)
    (case x5 => k_is)
    (case b5 => decide +kernel)
    (case a6 => k_is)
    (case x6 => k_is)
    (case b6 => decide +kernel)
    (case a7 => k_is)
    (case x7 => k_is)
    (case b7 => decide +kernel)
    (case a8 => k_is)
    (case x8 => k_is)
    (case b8 => decide +kernel)
    (case a9 => k_is)
    (case x9 => k_is)
    (case b9 => decide +kernel)
    (case a10 => k_is)
    (case x10 => k_is)
    (case b10 => decide +kernel)
    (case i0 => k_is)
    (case oM => kernel_rfl)
    (case o0 => kernel_rfl)
    (case p0 => first | k_is | kernel_rfl)
    (case v0 => first | k_is | kernel_rfl)
    (case o1 => kernel_rfl)
    (case p1 => first | k_is | kernel_rfl)
    (case v1 => first | k_is | kernel_rfl)
    (case o2 => kernel_rfl)
    (case p2 => first | k_is | kernel_rfl)
    (case v2 => first | k_is | kernel_rfl)
    (case o3 => kernel_rfl)
    (case p3 => first | k_is | kernel_rfl)
    (case v3 => first | k_is | kernel_rfl)
    (case o4 => kernel_rfl)
    (case p4 => first | k_is | kernel_rfl)
    (case v4 => first | k_is | kernel_rfl)
    (case o5 => kernel_rfl)
    (case p5 => first | k_is | kernel_rfl)
    (case v5 => first | k_is | kernel_rfl)
    (case o6 => kernel_rfl)
    (case p6 => first | k_is | kernel_rfl)
    (case v6 => first | k_is | kernel_rfl)
    (case o7 => kernel_rfl)
    (case p7 => first | k_is | kernel_rfl)
    (case v7 => first | k_is | kernel_rfl)
    (case o8 => kernel_rfl)
    (case p8 => first | k_is | kernel_rfl)
    (case v8 => first | k_is | kernel_rfl)
    (case o9 => kernel_rfl)
    (case p9 => first | k_is | kernel_rfl)
    (case v9 => first | k_is | kernel_rfl)
    (case o10 => kernel_rfl)
    (case p10 => first | k_is | kernel_rfl)
    (case v10 => first | k_is | kernel_rfl)
    (case lI => k_is)
    (case eI => k_is)
    (case kI => k_is)
    (case n14 => k_is)
    (case l14 => k_is)
    (case e14 => k_is)
    (case k14 => k_is)
    (case n15 => k_is)
    (case l15 => k_is)
    (case e15 => k_is)
    (case k15 => k_is)
    (case n16 => k_is)
    (case l16 => k_is)
    (case e16 => k_is)
    (case k16 => k_is)
    (case n17 => k_is)
    (case l17 => k_is)
    (case e17 => k_is)
    (case k17 => k_is)
    (case z0 => k_is)
    (case z1 => k_is)
    (case z2 => k_is)
    (case z3 => k_is)
    (case z4 => k_is)
    (case z5 => k_is)
