import PyProof.Rows.All
import Wide.All
import OpenK.AllK
import Wide.FinOn
import HandS.ForMost
import HandS.AnyAll
import HandS.Walk
import HandS.IsInst
import HandS.EndTab
import HandS.Deep
import PyProof.ReprRoads
import HandS.DeepEq
import HandS.DictComp
import HandS.DictEq
import PyProof.P3Eq
import PyProof.DictFindH
import HandS.NoneIn
import KE.LtData
import PyProof.Rows.StrReprFit
import HandS.Style
import HandS.SortKw
import KE.DataMinMax
import HandS.Zip
import HandS.List
import KE.KDictZip
import KE.KItemsList
import KE.GoesZip
import KE.GoesMore
import HandS.Iter
import PySem.Challenge.RW_leastmend_k21_told_mendings
set_option Elab.async false
set_option linter.all false
set_option maxRecDepth 100000
set_option maxHeartbeats 4000000
/-! all(test for x in e): any thing that is walked, any test that leaves the heap's objects as they stand; the test may read what the def holds. -/
namespace Gc
open PySem PySem.Spec PyProof.Rows L2 GxR
/-- the code object of the inner block, found in the table or made and entered there: one end for both -/
theorem code_either {M : Model} {A : Around} {E : Value → Shared → Prop} {s : Shared} {env : Env} {c P : Addr} {ps : Array Value} {gp : Pos} {qn : Str} {scope : Scope} {Q : Value → Shared → Prop}
    (hc : env.code = .ref c) (C : PySem.W.CodeHd s.heap c P) (tab : s.heap.get? P = some { cls := .none, data := .fields ps }) (ok : TriplesOk ps.toList)
    (go : ∀ (code : Value) (h3 : Heap) (tk : Nat) (more : Array Value), Heap.ExtBut P s.heap h3 → s.heap.objs.size ≤ h3.objs.size → h3.get? P = some { cls := .none, data := .fields (ps ++ more) } → TriplesOk (ps ++ more).toList → Q code { s with heap := h3, toks := tk }) :
    wpAny M A (genexprCode env gp qn scope) Q E s := by
  cases found : codeAmong gp ps.toList with
  | some cv =>
    have q := go cv s.heap s.toks #[] (Heap.ExtBut.refl _ _) (Nat.le_refl _) (by rw [Array.append_empty]; exact tab) (by rw [Array.append_empty]; exact ok)
    exact wpAny_genexprCode_hit hc (C.code tab ok) found q
  | none =>
    refine wpAny_genexprCodeX hc (C.code tab ok) (C.tab tab) found fun c' h3 tk ext big small made _ entered _ => ?_
    obtain ⟨_, _, _, _, _, _, _, _, _, _, _, _, _, _, _, _, _, _, _, ok3, _⟩ := made
    exact go (.ref c') h3 tk _ ext (Nat.le_of_lt (Nat.lt_of_le_of_lt big small)) entered.2 ok3
/-- what is walked: xv in the heap h1 gives n items, the i-th under Pf i; its iterator is the next new object; it reads nothing of the table at P -/
def SrcOk (prog : Program) (w : World) (h1 : Heap) (P : Addr) (xv : Value) (n : Nat) (Pf : Nat → Value → Prop) : Prop :=
  ∃ fp : List Addr, (∀ b ∈ fp, b ≤ h1.objs.size) ∧ P ∉ fp ∧
    ∀ (A : Around) (E : Value → Shared → Prop) (s : Shared) (Q : Value → Shared → Prop), s.heap = h1 →
      (∀ (o : Obj) (St : Nat → Heap → Prop), (∀ A' : Around, A'.handled = none → Walks prog w A' h1.objs.size fp [h1.objs.size] n Pf St) → St 0 (h1.push o) → Q (.ref h1.objs.size) { s with heap := h1.push o }) → wpAny (model prog w) A (pyIter xv) Q E s
/-- the environment in which the inner block runs -/
abbrev blkEnv (X : Cx) (scope : Scope) (C : Addr) (code : Value) : Env := genEnv scope (cloFrom X.env.cells scope.names []) C code builtinsNs X.env
/-- the test: of an item under Pf i it gives pb i, wherever all that stood in h1 (but the table at P) stands -/
def EltG (X : Cx) (scope : Scope) (x : Str) (elt : Expr) (P : Addr) (h1 : Heap) (Pf : Nat → Value → Prop) (pb : Nat → Bool) : Prop :=
  ∀ (C : Addr) (code : Value) (A' : Around) (E' : Value → Shared → Prop) (i : Nat) (v : Value) (s₂ : Shared) (m₂ : Str → Option Value), A'.handled = none → A'.depth ≤ X.A.depth + 1 → A'.units ≤ X.A.units + 8 → Pf i v →
    (∀ b o, b ≠ P → h1.get? b = some o → s₂.heap.get? b = some o) → s₂.heap.Ns C m₂ → m₂ x = some v →
    wpAny (model X.prog X.w) A' (eval elt (blkEnv X scope C code)) (fun y s₃ => y = .bool (pb i) ∧ Keeps s₂ s₃) E' s₂
/-- the block's own scope, over the def's scope sc -/
structure GenSc (sc scope : Scope) (x : Str) : Prop where
  kind : scope.kind = .function
  co : scope.isCoroutine = false
  cell : ∀ y ∈ scope.names, y.2 ≠ .cell
  dot : scope.names.lookup (".0" : Str) = some NameKind.local
  loc : scope.names.lookup x = some .local
  free : ∀ y ∈ scope.names, y.2 = .free → sc.names.lookup y.1 = some .cell
section
variable {X : Cx}
/-- all(test for x in e) -/
def tAllG (X : Cx) (scope : Scope) (x : Str) (elt : Expr) (P : Addr) (te : TE) : TE := fun σ H Q => te σ H fun v H1 => ∃ (n : Nat) (Pf : Nat → Value → Prop) (pb : Nat → Bool),
  (∀ (pins : List (Addr × Obj)) (s1 : Shared) (xv : Value), Inv X pins σ H1 s1 → RelV v xv → SrcOk X.prog X.w s1.heap P xv n Pf ∧ EltG X scope x elt P s1.heap Pf pb) ∧ TabG H1 P ∧ ∀ H2, Tabbed P H1 H2 → Q (.bl ((List.range n).all pb)) H2
theorem pe_allG {c P : Addr} {elt iter : Expr} {x : Str} {px p pos gpos : Pos} {scope : Scope} {te : TE} {k : Nat}
    (hr : Room k X.A) (hg : Gl X "all") (hm : X.mg "all" = none) (hb : bootBuiltins "all" = some (.builtin "all")) (TB : TabB X.base X.mg c P) (hcode : X.env.code = .ref c) (S : GenSc X.env.scope scope x) (hi : PE X iter te)
    (hs : ∀ v, genFold iter X.env v = pure v)
    (he : starEach [.GeneratorExp elt [⟨.Name x px, iter, [], 0⟩] scope gpos] X.env = (false, eval (.GeneratorExp elt [⟨.Name x px, iter, [], 0⟩] scope gpos) X.env) :: starEach [] X.env := by rfl) :
    PE X (.Call (.Name "all" p) [.GeneratorExp elt [⟨.Name x px, iter, [], 0⟩] scope gpos] [] pos) (tAllG X scope x elt P te) := by
  refine ⟨fun pins s σ H Q I h => ?_⟩
  have has : ∀ y ∈ scope.names, y.2 = .free → ∃ a, X.env.cells.lookup y.1 = some a := fun y hy e => I.ok.has _ (.inl (S.free y hy e))
  refine wpAny_Call_Name_kw (ld_blt I hg hm hb ?_)
  refine PyProof.Rows.callWith_builtin1 ?_ he (by rfl)
  rw [he]
  show wpAny _ _ (spliced (_ :: backTo pos (starEach [] X.env))) _ _ _
  refine Calls.spliced_cons ?_
  refine wpAny_GeneratorExp_walksQD hr.hd S.co (closure_ok has) S.cell S.dot S.loc S.kind (by have := hr.dp; omega) ?_ hs
  refine thn (hi.run pins s σ H _ I h) fun xv s1 hv => ?_
  obtain ⟨v, H1, J, rv, n, Pf, pb, sem, ⟨ps, hP, trip⟩, fin⟩ := hv
  obtain ⟨⟨fp, below, apart, begins⟩, test⟩ := sem pins s1 xv J rv
  refine begins _ _ s1 _ rfl fun o St W at0 => ⟨J.nolimit.push o, ?_⟩
  have tab1 : s1.heap.get? P = some { cls := .none, data := .fields ps } := J.hok P _ hP
  have tabLt : P < s1.heap.objs.size := Heap.lt_size tab1
  have tab2 := Heap.get?_push_of_some o tab1
  have big2 : (s1.heap.push o).objs.size = s1.heap.objs.size + 1 := Heap.size_push ..
  refine code_either hcode (TB.code.keeps fun b u e => Heap.get?_push_of_some _ (J.bk b u e)) tab2 trip fun code h3 tk more ext big tab3 trip3 => ?_
  -- what stood in s1 stands in h3, the table grown
  have stands : ∀ b u, b ≠ P → s1.heap.get? b = some u → h3.get? b = some u := fun b u ne e => ext b u ne (Heap.get?_push_of_some _ e)
  obtain ⟨statLt, statNe⟩ : cStatics < s1.heap.objs.size ∧ cStatics ≠ P := by
    obtain ⟨mc, ns, _⟩ := J.nolimit
    refine ⟨ns.lt, fun z => ?_⟩
    obtain ⟨o1, es, ep, ho, hd, _⟩ := ns
    rw [z, tab1] at ho
    cases ho
    cases hd
  obtain ⟨bm, ob, b1, b2, b3, b4, b5, b6, b7, b8⟩ := TB.bm
  have globs : h3.Ns X.env.globals X.mg := by
    rw [J.ok.glob]
    exact ((J.mod.glob.keeps J.bk).push o).extBut ext TB.gP
  refine wpAny_builtinsFor globs b1 b2 (stands _ _ b4 (J.bk _ _ b5)) b6 b7 b8 ?_
  have newLt : s1.heap.objs.size < h3.objs.size := by
    have big' : (s1.heap.push o).objs.size ≤ h3.objs.size := big
    omega
  refine ⟨s1.heap.objs.size, fp, [s1.heap.objs.size], n, Pf, St, (fun _ => true), (fun i y => y = .bool (pb i)), rfl, W, ?_, fun b hb => ?_, (J.nolimit.push o).extBut ext statNe, fun z => ?_, fun href up => ?_, ?_⟩
  · exact (W X.A hr.hd).frame _ _ _ at0 fun b hb u e => ext b u (fun z => apart (by rw [← z]; exact hb)) e
  · exact Nat.lt_of_le_of_lt (below b hb) newLt
  · exact Nat.ne_of_lt statLt (List.mem_singleton.mp z)
  · refine ⟨fun A' E' i v s₂ m₂ _ _ _ _ _ _ _ => ?_, fun A' E' i v s₂ m₂ h1 h2 h3' hv _ hn hx old => ?_⟩
    · rw [List.forIn_nil]
      exact wpAny_pure ⟨rfl, keeps_refl _⟩
    · refine test _ _ A' E' i v s₂ m₂ h1 h2 h3' hv (fun b u ne e => ?_) hn hx
      have lt := Heap.lt_size e
      refine old b (List.mem_range.mpr (Nat.lt_trans lt newLt)) (fun z => ?_) u (up _ _ (stands b u ne e))
      exact Nat.ne_of_lt lt (List.mem_singleton.mp z)
  · intro g h5 tk5 gs bare gBig gLast up5 WG atG
    rw [GxR.passing_true, List.length_range] at WG
    refine Calls.spliced_nil (call_all_walkS (WG.in4_1.self 0 _ _ _ atG ⟨g, _, _, _, n, _, _, pb, rfl, WG.in4_1, atG, fun j y sj Qj Ej item q => ?_, fun s' mv => ?_⟩))
    · obtain ⟨i, at_, rfl⟩ := item
      obtain ⟨_, ij⟩ := List.getElem?_eq_some_iff.mp at_
      rw [List.getElem_range] at ij
      rw [← ij]
      exact wpAny_truthy_bool q
    · -- behind the walk: the table has grown, all else stands
      have off : ∀ b u, s1.heap.get? b = some u → b ∉ h3.objs.size :: [s1.heap.objs.size] := fun b u e hb => by
        have lt := Heap.lt_size e
        rcases List.mem_cons.mp hb with z | z
        · exact Nat.lt_irrefl _ (Nat.lt_trans (by rw [← z]; exact lt) newLt)
        · exact Nat.ne_of_lt lt (List.mem_singleton.mp z)
      have K := inv_tab (more := more) (h' := s'.heap) (g' := s'.gens) (d' := s'.drawn) (t' := s'.toks) J hP (fun b u ne e => mv.heap b u (off b u e) (up5 b u (stands b u ne e)))
        (mv.heap P _ (off P _ tab1) (up5 P _ tab3)) (AllBare.movedS (J.bare.push bare) mv)
      rw [sh_eta s1 s' mv.os] at K
      exact ⟨.bl _, _, K, rfl, fin _ ⟨⟨ps ++ more, upd_same, trip3⟩, fun b ne => upd_ne ne⟩⟩
end
/-! ### captured names -/
theorem mem_of_lookup {α : Type} {n : Str} {c : α} : ∀ {l : List (Str × α)}, l.lookup n = some c → (n, c) ∈ l
  | (k, v) :: r, h => by
    rw [List.lookup_cons] at h
    by_cases e : n = k
    · have e' : (n == k) = true := by rw [e]; simp
      rw [e'] at h
      cases h
      rw [e]
      exact List.mem_cons_self
    · rw [beq_eq_false_iff_ne.mpr e] at h
      exact List.mem_cons_of_mem _ (mem_of_lookup h)
theorem cap_lookup {cells : List (Str × Addr)} {names : List (Str × NameKind)} {n : Str} {c : Addr} (hm : (n, NameKind.free) ∈ names) (hc : cells.lookup n = some c) : (cloFrom cells names []).lookup n = some c := by
  obtain ⟨d, hd⟩ := mem_lookup (cloFrom_has (acc := []) (cells := cells) hm)
  rcases cloFrom_mem (mem_of_lookup hd) with z | ⟨_, z⟩
  · cases z
  · rw [hd, z, hc]
    rfl
section
variable {X : Cx} {pins : List (Addr × Obj)} {σ : L2.St} {H : Hp} {s : Shared}
/-- the def's name y, captured, in slot i: what the block reads of it, wherever all that stood stands -/
theorem captured {scope : Scope} {y : Str} {i : Nat} {v : V} {P : Addr} {ps : Array Value} (I : Inv X pins σ H s) (hP : H P = some (.tbl ps)) (hc : X.env.scope.names.lookup y = some .cell) (hf : (y, NameKind.free) ∈ scope.names) (hN : X.N[i]? = some y) (hv : σ[i]? = some (some v)) :
    ∃ a u, (cloFrom X.env.cells scope.names []).lookup y = some a ∧ RelV v u ∧ ∀ h : Heap, (∀ b o, b ≠ P → s.heap.get? b = some o → h.get? b = some o) → h.IsCell a (some u) := by
  obtain ⟨m, _, hl⟩ := I.loc
  obtain ⟨u, ru, l⟩ := hl i y v hN hv (.inr (.inl hc))
  rcases l with ⟨k, _⟩ | ⟨_, a, ha, o, ho, hd⟩
  · have k' : X.env.scope.names.lookup y = some NameKind.local := k
    rw [hc] at k'
    cases k'
  · refine ⟨a, u, cap_lookup hf ha, ru, fun h up => ⟨o, up a o (fun z => ?_) ho, hd⟩⟩
    have t : s.heap.get? P = some { cls := .none, data := .fields ps } := I.hok P _ hP
    rw [z, t] at ho
    cases ho
    cases hd
/-- a text, sign by sign -/
theorem src_str {P : Addr} {ps : Array Value} {z : Str} {t : Tok} (I : Inv X pins σ H s) (hP : H P = some (.tbl ps)) : SrcOk X.prog X.w s.heap P (.str z t) z.cps.size (SignAt z) := by
  have tab : s.heap.get? P = some { cls := .none, data := .fields ps } := I.hok P _ hP
  refine ⟨[s.heap.objs.size], fun b hb => Nat.le_of_eq (List.mem_singleton.mp hb), fun hb => ?_, fun A E s2 Q e q => ?_⟩
  · exact Nat.ne_of_lt (Heap.lt_size tab) (List.mem_singleton.mp hb)
  · obtain ⟨h2, g2, d2, t2, o2⟩ := s2
    obtain rfl : h2 = s.heap := e
    exact wpAny_pyIter_str fun o St W at0 => q o St W at0
theorem walks_weaker {prog : Program} {w : World} {A : Around} {I : Addr} {fp wr : List Addr} {n : Nat} {Pf Pg : Nat → Value → Prop} {St : Nat → Heap → Prop} (W : Walks prog w A I fp wr n Pf St) (f : ∀ i v, Pf i v → Pg i v) : Walks prog w A I fp wr n Pg St :=
  ⟨W.sub, W.frame, fun i s Q E hi st q => W.item i s Q E hi st fun v h' tk y => q v h' tk (f i v y), W.done, W.self⟩
/-- a list -/
theorem src_lst {P l : Addr} {ps : Array Value} {xs : List V} (I : Inv X pins σ H s) (hP : H P = some (.tbl ps)) (hl : SqL X.K H l xs) : SrcOk X.prog X.w s.heap P (.ref l) xs.length (fun i v => ∃ x, xs[i]? = some x ∧ RelV x v) := by
  have tab : s.heap.get? P = some { cls := .none, data := .fields ps } := I.hok P _ hP
  obtain ⟨its, rv, pl, _⟩ := I.list hl
  have lst := pl.isList
  have len : its.toArray.size = xs.length := by rw [List.size_toArray, rv.length]
  have lt : l < s.heap.objs.size := by
    obtain ⟨_, e, _⟩ := _root_.id lst
    exact Heap.lt_size e
  refine ⟨[s.heap.objs.size, l], fun b hb => ?_, fun hb => ?_, fun A E s2 Q e q => ?_⟩
  rotate_left 2
  · obtain ⟨h2, g2, d2, t2, o2⟩ := s2
    obtain rfl : h2 = s.heap := e
    refine wpAny_pyIter_list lst (q _ (fun i h => h.IsListIter s.heap.objs.size l i ∧ h.IsList l its.toArray) (fun A' hA => ?_) ⟨⟨_, Heap.get?_push_size _ rfl, rfl, rfl⟩, lst.push _⟩)
    have W := Walks.list (prog := X.prog) (w := X.w) hA s.heap.objs.size l (Nat.ne_of_lt lt) its.toArray
    rw [len] at W
    refine walks_weaker W fun i v e => ?_
    have e' : its[i]? = some v := by simpa using e
    have hi : i < its.length := (List.getElem?_eq_some_iff.mp e').1
    have hi2 : i < xs.length := by rw [rv.length]; exact hi
    obtain ⟨u, hu, ru⟩ := rv.get (List.getElem?_eq_getElem hi2)
    rw [e'] at hu
    cases hu
    exact ⟨xs[i], List.getElem?_eq_getElem hi2, ru⟩
  · rcases List.mem_cons.mp hb with z | z
    · exact Nat.le_of_eq z
    · rw [List.mem_singleton.mp z]
      exact Nat.le_of_lt lt
  · rcases List.mem_cons.mp hb with z | z
    · exact Nat.ne_of_lt (Heap.lt_size tab) z
    · have z' := List.mem_singleton.mp z
      obtain ⟨o1, e1, _, _, d1⟩ := _root_.id lst
      rw [← z', tab] at e1
      cases e1
      cases d1
end
/-! ### «lo <= x <= hi», lo and hi captured texts -/
def between (lo hi : Str) (c : Nat) : Bool := !(decide ([c] < lo.cps.toList)) && !(decide (hi.cps.toList < [c]))
theorem elt_between {X : Cx} {pins : List (Addr × Obj)} {σ : L2.St} {H : Hp} {s : Shared} {scope : Scope} {x lo hi : Str} {z zl zh : Str} {P : Addr} {ps : Array Value} {i j : Nat} {p1 p2 p3 p4 : Pos} (I : Inv X pins σ H s) (hP : H P = some (.tbl ps))
    (hk : scope.kind = .function) (hl : scope.names.lookup x = some .local) (h1 : scope.names.lookup lo = some .free) (h2 : scope.names.lookup hi = some .free)
    (c1 : X.env.scope.names.lookup lo = some .cell) (c2 : X.env.scope.names.lookup hi = some .cell) (n1 : X.N[i]? = some lo) (n2 : X.N[j]? = some hi) (v1 : σ[i]? = some (some (.str zl))) (v2 : σ[j]? = some (some (.str zh)))
    (d0 : (x == ("__debug__" : Str)) = false := by decide) (d1 : (lo == ("__debug__" : Str)) = false := by decide) (d2 : (hi == ("__debug__" : Str)) = false := by decide) (e1 : (lo == ("__classdict__" : Str)) = false := by decide) (e2 : (hi == ("__classdict__" : Str)) = false := by decide) :
    EltG X scope x (.Compare (.Name lo p1) [.LtE, .LtE] [.Name x p2, .Name hi p3] p4) P s.heap (SignAt z) (fun k => between zl zh (z.cps.getD k 0)) := by
  obtain ⟨a, u, la, ru, ca⟩ := captured (scope := scope) I hP c1 (mem_of_lookup h1) n1 v1
  obtain ⟨b, v, lb, rv, cb⟩ := captured (scope := scope) I hP c2 (mem_of_lookup h2) n2 v2
  obtain ⟨ta, rfl⟩ := ru
  obtain ⟨tb, rfl⟩ := rv
  intro C code A' E' k item s₂ m₂ _ _ _ sign old ns hx
  obtain ⟨cc, tc, hcc, rfl⟩ := sign
  have gd : z.cps.getD k 0 = cc := by
    rw [Array.getD_eq_getD_getElem?, hcc]
    rfl
  refine Compare_chain ?_ (by with_unfolding_all rfl)
  refine wpAny_Name (wpAny_loadName_free hk (show scope.names.lookup lo = some .free from h1) la (ca _ old) ?_ e1) d1
  refine chain_link (wpAny_Name (wpAny_loadName_local hk (show scope.names.lookup x = some .local from hl) ns hx ?_) d0)
  refine PySem.P.le_str (wpAny_truthy_bool ?_)
  show (if (!decide (([cc] : List Nat) < zl.cps.toList)) = true then _ else _)
  by_cases q : ([cc] : List Nat) < zl.cps.toList
  · rw [decide_eq_true q]
    refine ite_ff ⟨?_, keeps_refl _⟩
    show _ = Value.bool (between zl zh (z.cps.getD k 0))
    rw [gd]
    unfold between
    rw [decide_eq_true q]
    rfl
  · rw [decide_eq_false q]
    refine ite_tt (chain_last ?_)
    refine wpAny_Name (wpAny_loadName_free hk (show scope.names.lookup hi = some .free from h2) lb (cb _ old) ?_ e2) d2
    refine PySem.P.le_str ⟨?_, keeps_refl _⟩
    show _ = Value.bool (between zl zh (z.cps.getD k 0))
    rw [gd]
    unfold between
    rw [decide_eq_false q]
    rfl
theorem range_all (z : Array Nat) (p : Nat → Bool) : (List.range z.size).all (fun k => p (z.getD k 0)) = z.toList.all p := by
  rw [Bool.eq_iff_iff, List.all_eq_true, List.all_eq_true]
  constructor
  · intro h b hb
    obtain ⟨j, hj, e⟩ := List.getElem_of_mem hb
    have hj' : j < z.size := by simpa using hj
    have q := h j (List.mem_range.mpr hj')
    rw [Array.getD_eq_getD_getElem?, Array.getElem?_eq_getElem hj'] at q
    rw [← e]
    simpa using q
  · intro h j hj
    have hj' := List.mem_range.mp hj
    rw [Array.getD_eq_getD_getElem?, Array.getElem?_eq_getElem hj']
    exact h _ (by simp)
end Gc

set_option Elab.async false
set_option linter.all false
set_option maxRecDepth 100000
set_option maxHeartbeats 4000000
namespace Ld
open PySem PySem.Spec PyProof.Rows L2
/-! ### the draws: mathematics -/
def dstep (p : Int × List Int) : Int × List Int := if p.1 > 0 then (p.1 / 65536, p.2 ++ [p.1 % 65536]) else p
def diter : Nat → Int × List Int → Int × List Int
  | 0, p => p
  | n + 1, p => dstep (diter n p)
def dabs (x : Int) : Int := if x < 0 then -x else x
def dmix1 (k r : Int) : Int := (r * 48271 + (k + 1) * 69621) % 2147483647
def dmix2 (k r : Int) : Int := (dmix1 k r * 16807 + 11 * k + 5) % 2147483629
def dcell (k x : Int) (ds : List Int) : List Int :=
  if (10 : Int) ^ (18 : Int).toNat ≤ dabs x then (diter 60 (dabs x, ds)).2
  else ds ++ [dmix2 k (dabs x) % 65536] ++ [dmix2 k (dabs x) / 65536 % 32768]
def drawsN (ns : List Int) : Nat → List Int
  | 0 => []
  | i + 1 => dcell (i : Nat) (ns.getD i 0) (drawsN ns i)
def drawsOf (ns : List Int) : List Int := drawsN ns ns.length
def DOk (ds : List Int) : Prop := ∀ x ∈ ds, 0 ≤ x ∧ x < 65536
theorem DOk.app {ds : List Int} {x : Int} (h : DOk ds) (h0 : 0 ≤ x) (h1 : x < 65536) : DOk (ds ++ [x]) := fun y hy => by
  rcases List.mem_append.mp hy with z | z
  · exact h y z
  · rw [List.mem_singleton.mp z]
    exact ⟨h0, h1⟩
theorem dstep_ok {p : Int × List Int} (h : DOk p.2) : DOk (dstep p).2 := by
  unfold dstep
  split
  · exact h.app (Int.emod_nonneg _ (by decide)) (Int.emod_lt_of_pos _ (by decide))
  · exact h
theorem dstep_len (p : Int × List Int) : (dstep p).2.length ≤ p.2.length + 1 := by
  unfold dstep
  split
  · show (p.2 ++ [p.1 % 65536]).length ≤ _
    rw [List.length_append, List.length_singleton]
    exact Nat.le_refl _
  · omega
theorem diter_ok {p : Int × List Int} (h : DOk p.2) : ∀ n, DOk (diter n p).2
  | 0 => h
  | n + 1 => dstep_ok (diter_ok h n)
theorem diter_len (p : Int × List Int) : ∀ n, (diter n p).2.length ≤ p.2.length + n
  | 0 => Nat.le_refl _
  | n + 1 => by
    have := dstep_len (diter n p)
    have := diter_len p n
    show (dstep (diter n p)).2.length ≤ _
    omega
theorem dcell_ok {k x : Int} {ds : List Int} (h : DOk ds) : DOk (dcell k x ds) := by
  unfold dcell
  split
  · exact diter_ok (p := (dabs x, ds)) h 60
  · have h1 : DOk (ds ++ [dmix2 k (dabs x) % 65536]) := h.app (Int.emod_nonneg _ (by decide)) (Int.emod_lt_of_pos _ (by decide))
    refine h1.app (Int.emod_nonneg _ (by decide)) ?_
    have : dmix2 k (dabs x) / 65536 % 32768 < 32768 := Int.emod_lt_of_pos _ (by decide)
    omega
theorem dcell_len (k x : Int) (ds : List Int) : (dcell k x ds).length ≤ ds.length + 60 := by
  unfold dcell
  split
  · exact diter_len (dabs x, ds) 60
  · simp only [List.length_append, List.length_singleton]
    omega
theorem drawsN_ok (ns : List Int) : ∀ n, DOk (drawsN ns n)
  | 0 => fun _ h => nomatch h
  | n + 1 => dcell_ok (drawsN_ok ns n)
theorem drawsN_len (ns : List Int) : ∀ n, (drawsN ns n).length ≤ 60 * n
  | 0 => Nat.le_refl _
  | n + 1 => by
    have := dcell_len (n : Nat) (ns.getD n 0) (drawsN ns n)
    have := drawsN_len ns n
    show (dcell _ _ _).length ≤ _
    omega
theorem drawsOf_len {ns : List Int} (h : ns.length ≤ 63) : (drawsOf ns).length ≤ 3780 := by
  have := drawsN_len ns ns.length
  unfold drawsOf
  omega
/-- a draw below many -/
def atD (ds : List Int) (k many : Int) : Int := if k < (ds.length : Int) then ds.getD k.toNat 0 % many else 0
theorem atD_lo (ds : List Int) (k : Int) {many : Int} (h : 0 < many) : 0 ≤ atD ds k many := by
  unfold atD
  split
  · exact Int.emod_nonneg _ (by omega)
  · exact Int.le_refl _
theorem atD_hi (ds : List Int) (k : Int) {many : Int} (h : 0 < many) : atD ds k many < many := by
  unfold atD
  split
  · exact Int.emod_lt_of_pos _ h
  · exact h
theorem getI {ns : List Int} {i : Nat} (h : i < ns.length) : (ns.map V.int)[i]? = some (V.int (ns.getD i 0)) := by
  rw [List.getElem?_map, List.getElem?_eq_getElem h, List.getD_eq_getElem?_getD, List.getElem?_eq_getElem h]
  rfl
theorem same_upd {H : Hp} {p : Addr} {o : HO} (h : H p = none) : Same H (upd H p o) := fun b x e => by
  rw [upd_ne (ne_of_none e h)]
  exact e
theorem small4000 {n : Nat} (h : n ≤ 4000) : n < sizeLine := Nat.lt_of_le_of_lt h (by decide)
end Ld

set_option Elab.async false
set_option linter.all false
set_option maxRecDepth 100000
set_option maxHeartbeats 4000000
/-! Reading a line, two ways: over codes alone. -/
namespace Ld
open PySem PySem.Spec PyProof.Rows L2 TL
/-! ### words (as in the law of words) -/
def wordB (z lo hi : Str) : Bool := decide (1 ≤ (z.length : Int)) && (decide ((z.length : Int) ≤ 12) && z.cps.toList.all (Gc.between lo hi))
def kindB (z : Str) : Bool := wordB z "A" "Z" && !decide (z = "OTHER")
def nameB (z : Str) : Bool := wordB z "a" "z"
def symB (z : Str) : Bool := kindB z || nameB z
theorem lt_one (a b : Nat) : (([a] : List Nat) < [b]) ↔ a < b := by
  simp [List.cons_lt_cons_iff]
theorem name_codes {z : Str} (h : nameB z = true) : ∀ c ∈ tl z, 97 ≤ c ∧ c ≤ 122 := by
  intro c hc
  unfold nameB wordB at h
  rw [Bool.and_eq_true, Bool.and_eq_true] at h
  have q := List.all_eq_true.mp h.2.2 c hc
  unfold Gc.between at q
  rw [show ("a" : Str).cps.toList = [97] from by decide +kernel, show ("z" : Str).cps.toList = [122] from by decide +kernel] at q
  simp only [Bool.and_eq_true, Bool.not_eq_true', decide_eq_false_iff_not, lt_one] at q
  omega
theorem name_no {z : Str} (h : nameB z = true) {c : Nat} (hc : c < 97) : c ∉ tl z := fun m => by
  have := name_codes h c m
  omega
abbrev Rule := Str × List Str
/-- the text's parts at a space, at a newline -/
theorem colon_tl : tl (":" : Str) = [58] := by decide +kernel
theorem space_tl : tl (" " : Str) = [32] := by decide +kernel
theorem nl_tl : tl ("\n" : Str) = [10] := by decide +kernel
theorem kind_space (x : Str) : ¬ Builtin.Str.strKind x < Builtin.Str.strKind (" " : Str) := kind_ok (by decide +kernel)
theorem kind_nl (x : Str) : ¬ Builtin.Str.strKind x < Builtin.Str.strKind ("\n" : Str) := kind_ok (by decide +kernel)
def spS (x : Str) : List Str := Txt.split x " "
theorem spS_tl (x : Str) : (spS x).map tl = spl [32] 0 [] (tl x) := by
  have h := split_spl x " " (by rw [space_tl]; simp) (kind_space x)
  rw [space_tl] at h
  exact h
theorem cut_first (s : Nat) : ∀ L : List Nat, s ∉ L ∨ ∃ p r, L = p ++ s :: r ∧ s ∉ p
  | [] => .inl (by simp)
  | c :: L => by
    by_cases e : c = s
    · exact .inr ⟨[], L, by rw [e]; rfl, by simp⟩
    · rcases cut_first s L with h | ⟨p, r, h1, h2⟩
      · exact .inl fun m => (List.mem_cons.mp m).elim (fun z => e z.symm) h
      · exact .inr ⟨c :: p, r, by rw [h1]; rfl, fun m => (List.mem_cons.mp m).elim (fun z => e z.symm) h2⟩
theorem spl_no {s : Nat} {p : List Nat} (h : s ∉ p) : spl [s] 0 [] p = [p] := by
  have := spl_last1 (S := []) (acc := []) h
  rw [this]
  rfl
theorem spl_at1 {s : Nat} {p r : List Nat} (h : s ∉ p) : spl [s] 0 [] (p ++ s :: r) = p :: spl [s] 0 [] r := by
  have := spl_part1 (S := []) (acc := []) (rest := r) h
  exact this
/-- split never gives the empty list; its head -/
theorem spl_ne (s : Nat) (L : List Nat) : ∃ p r, spl [s] 0 [] L = p :: r ∧ s ∉ p ∧ ∀ c ∈ p, c ∈ L := by
  rcases cut_first s L with h | ⟨p, r, rfl, h⟩
  · exact ⟨L, [], spl_no h, h, fun _ z => z⟩
  · exact ⟨p, _, spl_at1 h, h, fun c z => List.mem_append_left _ z⟩
/-! ### the program's way -/
def ruleOf (l : Str) : Option Rule :=
  if nameB (Txt.partition l ":").1 = true ∧ (Txt.partition l ":").2.1 ≠ Str.empty ∧ (spS (Txt.partition l ":").2.2).head? = some Str.empty ∧ (spS (Txt.partition l ":").2.2).tail.length ≤ 6 ∧ (spS (Txt.partition l ":").2.2).tail.all symB = true
  then some ((Txt.partition l ":").1, (spS (Txt.partition l ":").2.2).tail) else none
/-- the law's way; b0: the first word without its last sign -/
def endsColon (w : Str) : Prop := ∃ b : List Nat, tl w = b ++ [58]
def lawLine (l : Str) (w0 : Str) (ws : List Str) : Option Rule → Prop := fun o =>
  (o = none ∧ ¬ ∃ n : Str, tl w0 = tl n ++ [58] ∧ nameB n = true ∧ ws.length ≤ 6 ∧ ws.all symB = true) ∨
  ∃ n : Str, o = some (n, ws) ∧ tl w0 = tl n ++ [58] ∧ nameB n = true ∧ ws.length ≤ 6 ∧ ws.all symB = true
theorem str_of (l : List Nat) : ∃ z : Str, tl z = l := ⟨⟨l.toArray⟩, rfl⟩
theorem tl_inj {x y : Str} (h : tl x = tl y) : x = y := ext_tl h
theorem line_eq (l : Str) : ∃ w0 ws, spS l = w0 :: ws ∧ lawLine l w0 ws (ruleOf l) := by
  have hs := spS_tl l
  rcases cut_first 58 (tl l) with h | ⟨A, R, hL, hA⟩
  · -- no colon
    obtain ⟨p, r, e, _, sub⟩ := spl_ne 32 (tl l)
    rw [e] at hs
    cases hsl : spS l with
    | nil => rw [hsl] at hs; cases hs
    | cons w0 ws =>
      rw [hsl, List.map_cons] at hs
      injection hs with h1 h2
      refine ⟨w0, ws, rfl, .inl ⟨?_, ?_⟩⟩
      · unfold ruleOf
        rw [partition_none colon_tl h]
        rw [if_neg (fun z => z.2.1 rfl)]
      · rintro ⟨n, hn, _⟩
        refine h (sub 58 ?_)
        rw [← h1, hn]
        exact List.mem_append_right _ (List.mem_singleton.mpr rfl)
  · obtain ⟨a, ha⟩ := str_of A
    obtain ⟨r, hr⟩ := str_of R
    have el : l = a ++ (":" : Str) ++ r := tl_inj (by rw [tl_append, tl_append, ha, hr, colon_tl, hL]; simp)
    have ep : Txt.partition l ":" = (a, (":" : Str), r) := by
      rw [el]
      exact partition_app colon_tl (by rw [ha]; exact hA)
    have rr := spS_tl r
    rw [hr] at rr
    by_cases h32 : 32 ∈ A
    · -- a space ahead of the colon: no name
      obtain ⟨p, q, hp, np⟩ : ∃ p q, A = p ++ 32 :: q ∧ 32 ∉ p := by
        rcases cut_first 32 A with z | z
        · exact absurd h32 z
        · exact z
      rw [hL, hp, List.append_assoc, List.cons_append, spl_at1 np] at hs
      cases hsl : spS l with
      | nil => rw [hsl] at hs; cases hs
      | cons w0 ws =>
        rw [hsl, List.map_cons] at hs
        injection hs with h1 h2
        refine ⟨w0, ws, rfl, .inl ⟨?_, ?_⟩⟩
        · unfold ruleOf
          rw [ep, if_neg]
          intro z
          exact name_no z.1 (by decide : 32 < 97) (by rw [ha]; exact h32)
        · rintro ⟨n, hn, _⟩
          refine hA ?_
          rw [hp]
          refine List.mem_append_left _ ?_
          rw [← h1, hn]
          exact List.mem_append_right _ (List.mem_singleton.mpr rfl)
    · have h32' : 32 ∉ A ++ [58] := fun z => (List.mem_append.mp z).elim h32 fun z => by simp at z
      cases R with
      | nil =>
        rw [hL, spl_no h32'] at hs
        rw [spl_no (by simp)] at rr
        cases hsl : spS l with
        | nil => rw [hsl] at hs; cases hs
        | cons w0 ws =>
          rw [hsl, List.map_cons] at hs
          injection hs with h1 h2
          have ews : ws = [] := List.map_eq_nil_iff.mp h2
          subst ews
          cases hsr : spS r with
          | nil => rw [hsr] at rr; cases rr
          | cons v0 vs =>
            rw [hsr, List.map_cons] at rr
            injection rr with g1 g2
            have evs : vs = [] := List.map_eq_nil_iff.mp g2
            subst evs
            have ev0 : v0 = Str.empty := tl_inj g1
            refine ⟨w0, [], rfl, ?_⟩
            by_cases hn : nameB a = true
            · refine .inr ⟨a, ?_, by rw [h1, ha], hn, by decide, rfl⟩
              unfold ruleOf
              rw [ep]
              simp only [hsr]
              rw [if_pos ⟨hn, by decide +kernel, by rw [ev0]; rfl, Nat.zero_le _, rfl⟩]
              rfl
            · refine .inl ⟨?_, ?_⟩
              · unfold ruleOf
                rw [ep, if_neg fun z => hn z.1]
              · rintro ⟨n, hn2, hn3, _⟩
                have : n = a := tl_inj (by
                  rw [h1] at hn2
                  rw [ha]
                  exact (List.append_cancel_right hn2).symm)
                rw [this] at hn3
                exact hn hn3
      | cons c R' =>
        by_cases hc : c = 32
        · subst hc
          have e2 : tl l = (A ++ [58]) ++ 32 :: R' := by rw [hL]; simp
          rw [e2, spl_at1 h32'] at hs
          have e3 : spl [32] 0 [] (32 :: R') = [] :: spl [32] 0 [] R' := spl_at1 (p := []) (by simp)
          rw [e3] at rr
          cases hsl : spS l with
          | nil => rw [hsl] at hs; cases hs
          | cons w0 ws =>
            rw [hsl, List.map_cons] at hs
            injection hs with h1 h2
            cases hsr : spS r with
            | nil => rw [hsr] at rr; cases rr
            | cons v0 vs =>
              rw [hsr, List.map_cons] at rr
              injection rr with g1 g2
              have evs : vs = ws := map_tl_inj (g2.trans h2.symm)
              subst evs
              have ev0 : v0 = Str.empty := tl_inj g1
              refine ⟨w0, vs, rfl, ?_⟩
              by_cases hn : nameB a = true ∧ vs.length ≤ 6 ∧ vs.all symB = true
              · refine .inr ⟨a, ?_, by rw [h1, ha], hn⟩
                unfold ruleOf
                rw [ep]
                simp only [hsr]
                rw [if_pos ⟨hn.1, by decide +kernel, by rw [ev0]; rfl, hn.2.1, hn.2.2⟩]
                rfl
              · refine .inl ⟨?_, ?_⟩
                · unfold ruleOf
                  rw [ep]
                  simp only [hsr]
                  rw [if_neg fun z => hn ⟨z.1, z.2.2.2.1, z.2.2.2.2⟩]
                · rintro ⟨n, hn2, hn3, hn4⟩
                  have : n = a := tl_inj (by
                    rw [h1] at hn2
                    rw [ha]
                    exact (List.append_cancel_right hn2).symm)
                  rw [this] at hn3
                  exact hn ⟨hn3, hn4⟩
        · -- a sign right behind the colon
          have e2 : tl l = (A ++ [58]) ++ c :: R' := by rw [hL]; simp
          have first : ∀ (pp : List Nat), 32 ∉ pp → ∃ q t, spl [32] 0 [] (pp ++ c :: R') = (pp ++ c :: q) :: t := by
            intro pp hpp
            rcases cut_first 32 (c :: R') with z | ⟨p, q, hp, np⟩
            · refine ⟨R', [], spl_no fun m => ?_⟩
              rcases List.mem_append.mp m with m | m
              · exact hpp m
              · exact z m
            · cases p with
              | nil =>
                injection hp with x1 x2
                exact absurd x1 hc
              | cons d p' =>
                injection hp with x1 x2
                subst x1
                refine ⟨p', spl [32] 0 [] q, ?_⟩
                rw [x2]
                have n2 : 32 ∉ pp ++ c :: p' := fun m => (List.mem_append.mp m).elim hpp np
                have := spl_at1 (r := q) n2
                rw [List.append_assoc] at this
                exact this
          obtain ⟨q1, t1, f1⟩ := first (A ++ [58]) h32'
          obtain ⟨q2, t2, f2⟩ := first [] (by simp)
          rw [e2, f1] at hs
          rw [List.nil_append] at f2
          rw [f2, List.nil_append] at rr
          cases hsl : spS l with
          | nil => rw [hsl] at hs; cases hs
          | cons w0 ws =>
            rw [hsl, List.map_cons] at hs
            injection hs with h1 h2
            cases hsr : spS r with
            | nil => rw [hsr] at rr; cases rr
            | cons v0 vs =>
              rw [hsr, List.map_cons] at rr
              injection rr with g1 g2
              refine ⟨w0, ws, rfl, .inl ⟨?_, ?_⟩⟩
              · unfold ruleOf
                rw [ep]
                simp only [hsr]
                rw [if_neg]
                intro z
                have z3 := z.2.2.1
                rw [List.head?_cons] at z3
                have z4 : v0 = Str.empty := Option.some.inj z3
                rw [z4] at g1
                cases g1
              · rintro ⟨n, hn2, hn3, _⟩
                rw [h1] at hn2
                -- the name would hold the colon
                refine name_no hn3 (by decide : 58 < 97) ?_
                have e4 : tl n = (A ++ [58] ++ c :: q1).dropLast := by
                  rw [hn2, List.dropLast_concat]
                rw [e4, List.dropLast_append_of_ne_nil (by simp)]
                exact List.mem_append_left _ (List.mem_append_right _ (List.mem_singleton.mpr rfl))
end Ld

set_option Elab.async false
set_option linter.all false
set_option maxRecDepth 100000
set_option maxHeartbeats 4000000
/-! Grammars as texts, read and written: over codes alone; and as data that is compared. -/
namespace Ld
open PySem PySem.Spec PyProof.Rows L2 TL
/-! ### a word's signs, two ways -/
def bigL : Str := "ABCDEFGHIJKLMNOPQRSTUVWXYZ"
def lowL : Str := "abcdefghijklmnopqrstuvwxyz"
theorem bigL_codes : bigL.cps.toList = [65, 66, 67, 68, 69, 70, 71, 72, 73, 74, 75, 76, 77, 78, 79, 80, 81, 82, 83, 84, 85, 86, 87, 88, 89, 90] := by decide +kernel
theorem lowL_codes : lowL.cps.toList = [97, 98, 99, 100, 101, 102, 103, 104, 105, 106, 107, 108, 109, 110, 111, 112, 113, 114, 115, 116, 117, 118, 119, 120, 121, 122] := by decide +kernel
theorem between_big (c : Nat) : Gc.between "A" "Z" c = decide (c ∈ bigL.cps.toList) := by
  unfold Gc.between
  rw [show ("A" : Str).cps.toList = [65] from by decide +kernel, show ("Z" : Str).cps.toList = [90] from by decide +kernel, bigL_codes]
  rw [Bool.eq_iff_iff]
  simp only [Bool.and_eq_true, Bool.not_eq_true', decide_eq_false_iff_not, decide_eq_true_eq, lt_one, List.mem_cons, List.not_mem_nil, or_false]
  omega
theorem between_low (c : Nat) : Gc.between "a" "z" c = decide (c ∈ lowL.cps.toList) := by
  unfold Gc.between
  rw [show ("a" : Str).cps.toList = [97] from by decide +kernel, show ("z" : Str).cps.toList = [122] from by decide +kernel, lowL_codes]
  rw [Bool.eq_iff_iff]
  simp only [Bool.and_eq_true, Bool.not_eq_true', decide_eq_false_iff_not, decide_eq_true_eq, lt_one, List.mem_cons, List.not_mem_nil, or_false]
  omega
def outs (z l : List Nat) : List Nat := z.filter fun c => !decide (c ∈ l)
theorem outs_more {z l : List Nat} {i c : Nat} (h : z[i]? = some c) : outs (z.take (i + 1)) l = outs (z.take i) l ++ (if c ∈ l then [] else [c]) := by
  unfold outs
  rw [List.take_add_one, h, List.filter_append]
  congr 1
  by_cases e : c ∈ l
  · simp [e]
  · simp [e]
theorem outs_len (z l : List Nat) : (outs z l).length ≤ z.length := List.length_filter_le _ _
theorem all_outs (l m : List Nat) (p : Nat → Bool) (hp : ∀ c, p c = decide (c ∈ m)) : l.all p = decide (outs l m = []) := by
  rw [Bool.eq_iff_iff, List.all_eq_true, decide_eq_true_eq]
  unfold outs
  rw [List.filter_eq_nil_iff]
  constructor
  · intro h c hc
    have h2 := h c hc
    rw [hp] at h2
    rw [h2]
    simp
  · intro h c hc
    have h2 := h c hc
    rw [hp]
    simpa using h2
def sizeB (z : Str) : Bool := decide (1 ≤ (z.length : Int)) && decide ((z.length : Int) ≤ 12)
theorem word_big (z : Str) : wordB z "A" "Z" = (sizeB z && decide (outs (tl z) (tl bigL) = [])) := by
  unfold wordB sizeB
  rw [all_outs _ bigL.cps.toList _ between_big, Bool.and_assoc]
theorem word_low (z : Str) : wordB z "a" "z" = (sizeB z && decide (outs (tl z) (tl lowL) = [])) := by
  unfold wordB sizeB
  rw [all_outs _ lowL.cps.toList _ between_low, Bool.and_assoc]
/-! ### lines and texts -/
def lineT (r : Rule) : List Nat := tl r.1 ++ 58 :: r.2.flatMap (fun s => 32 :: tl s)
def writeT (G : List Rule) : List Nat := G.flatMap (fun r => lineT r ++ [10])
def lineS (r : Rule) : Str := r.1 ++ (":" : Str) ++ Txt.join "" (r.2.map (fun s => (" " : Str) ++ s)) ++ ("\n" : Str)
def writeS (G : List Rule) : Str := Txt.join "" (G.map lineS)
theorem nil_tl : tl ("" : Str) = [] := by decide +kernel
theorem joinL_nil : ∀ l : List (List Nat), joinL [] l = l.flatten
  | [] => rfl
  | [p] => by simp [joinL]
  | p :: q :: r => by
    show p ++ ([] ++ joinL [] (q :: r)) = _
    rw [joinL_nil (q :: r)]
    simp
theorem join0_tl (parts : List Str) : tl (Txt.join "" parts) = parts.flatMap tl := by
  rw [join_eq, tl_join, nil_tl, joinL_nil, List.flatMap_def]
theorem lineS_tl (r : Rule) : tl (lineS r) = lineT r ++ [10] := by
  unfold lineS lineT
  rw [tl_append, tl_append, tl_append, join0_tl, colon_tl, nl_tl, List.flatMap_map]
  have : (fun s : Str => tl ((" " : Str) ++ s)) = fun s => 32 :: tl s := by
    funext s
    rw [tl_append, space_tl]
    rfl
  rw [this]
  simp
theorem writeS_tl (G : List Rule) : tl (writeS G) = writeT G := by
  unfold writeS writeT
  rw [join0_tl, List.flatMap_map]
  congr 1
  funext r
  exact lineS_tl r
theorem joinL_space : ∀ (l : List (List Nat)) (p : List Nat), joinL [32] (p :: l) = p ++ l.flatMap (fun s => 32 :: s)
  | [], p => by simp [joinL]
  | q :: r, p => by
    show p ++ ([32] ++ joinL [32] (q :: r)) = _
    rw [joinL_space r q]
    simp
theorem law_line (r : Rule) : Txt.join " " ((r.1 ++ (":" : Str)) :: r.2) ++ ("\n" : Str) = lineS r := by
  refine tl_inj ?_
  rw [tl_append, join_eq, tl_join, List.map_cons, space_tl, joinL_space, lineS_tl, tl_append, colon_tl, nl_tl, List.flatMap_map]
  unfold lineT
  simp
theorem writeS_nil : writeS [] = ("" : Str) := by decide +kernel
theorem writeS_snoc (G : List Rule) (r : Rule) : writeS (G ++ [r]) = writeS G ++ Txt.join " " ((r.1 ++ (":" : Str)) :: r.2) ++ ("\n" : Str) := by
  refine tl_inj ?_
  have e := law_line r
  have e2 := congrArg tl e
  rw [tl_append, lineS_tl] at e2
  rw [writeS_tl, tl_append, tl_append, writeS_tl, List.append_assoc, e2]
  unfold writeT
  simp
/-! ### the reading -/
def GoodR (r : Rule) : Prop := nameB r.1 = true ∧ r.2.length ≤ 6 ∧ r.2.all symB = true
theorem kind_codes {z : Str} (h : kindB z = true) : ∀ c ∈ tl z, 65 ≤ c ∧ c ≤ 90 := by
  intro c hc
  unfold kindB wordB at h
  rw [Bool.and_eq_true, Bool.and_eq_true, Bool.and_eq_true] at h
  have q := List.all_eq_true.mp h.1.2.2 c hc
  unfold Gc.between at q
  rw [show ("A" : Str).cps.toList = [65] from by decide +kernel, show ("Z" : Str).cps.toList = [90] from by decide +kernel] at q
  simp only [Bool.and_eq_true, Bool.not_eq_true', decide_eq_false_iff_not, lt_one] at q
  omega
theorem sym_codes {z : Str} (h : symB z = true) : ∀ c ∈ tl z, 65 ≤ c ∧ c ≤ 122 := by
  intro c hc
  unfold symB at h
  rw [Bool.or_eq_true] at h
  rcases h with h | h
  · have := kind_codes h c hc
    omega
  · have := name_codes h c hc
    omega
theorem spl_syms : ∀ (ss : List (List Nat)), (∀ p ∈ ss, 32 ∉ p) → spl [32] 0 [] (ss.flatMap fun s => 32 :: s) = [] :: ss
  | [], _ => spl_no (p := []) (fun m => nomatch m)
  | q :: r, h => by
    have e : ((q :: r).flatMap fun s => 32 :: s) = [] ++ 32 :: joinL [32] (q :: r) := by
      rw [joinL_space]
      simp
    rw [e, spl_at1 (by simp), spl_join (by simp) h]
theorem rule_back {l : Str} {r : Rule} (h : tl l = lineT r) (g : GoodR r) : ruleOf l = some r := by
  obtain ⟨rest, hr⟩ := str_of (r.2.flatMap fun s => 32 :: tl s)
  have el : l = r.1 ++ (":" : Str) ++ rest := tl_inj (by rw [h, tl_append, tl_append, hr, colon_tl]; unfold lineT; simp)
  have ep : Txt.partition l ":" = (r.1, (":" : Str), rest) := by
    rw [el]
    exact partition_app colon_tl (name_no g.1 (by decide))
  have es : spS rest = Str.empty :: r.2 := by
    refine map_tl_inj ?_
    rw [spS_tl, hr, List.map_cons]
    have := spl_syms (r.2.map tl) fun p hp => by
      obtain ⟨s, hs, rfl⟩ := List.mem_map.mp hp
      intro z
      have := sym_codes (List.all_eq_true.mp g.2.2 s hs) 32 z
      omega
    rw [List.flatMap_map] at this
    rw [this]
    rfl
  unfold ruleOf
  rw [ep]
  simp only [es]
  rw [if_pos ⟨g.1, by decide +kernel, rfl, g.2.1, g.2.2⟩]
  rfl
theorem rule_good {l : Str} {r : Rule} (h : ruleOf l = some r) : GoodR r := by
  unfold ruleOf at h
  split at h
  · rename_i c
    obtain rfl := Option.some.inj h
    exact ⟨c.1, c.2.2.2.1, c.2.2.2.2⟩
  · cases h
inductive Rd
  | line (k : Nat)
  | taken (k : Nat)
  | large (k : Nat)
  | good (G : List Rule)
def rdGo : Nat → List Rule → List Str → Rd
  | _, G, [] => .good G
  | k, G, l :: ls => match ruleOf l with
    | none => .line k
    | some r => if r ∈ G then .taken k else if 24 ≤ k then .large k else rdGo (k + 1) (G ++ [r]) ls
def rdEnd (n : Nat) (u : Str) : Rd → Rd
  | .good G => if u ≠ "" ∨ n = 0 then .line n else .good G
  | x => x
/-- what reading a text gives: of its parts at newlines, the last one apart -/
def rd (ls : List Str) : Rd := rdEnd ls.dropLast.length (ls.getLast?.getD "") (rdGo 0 [] ls.dropLast)
def linesOf (x : Str) : List Str := Txt.split x "\n"
theorem linesOf_tl (x : Str) : (linesOf x).map tl = spl [10] 0 [] (tl x) := by
  have h := split_spl x "\n" (by rw [nl_tl]; simp) (kind_nl x)
  rw [nl_tl] at h
  exact h
theorem linesOf_ne (x : Str) : linesOf x ≠ [] := fun e => by
  have h := linesOf_tl x
  obtain ⟨p, r, q, _⟩ := spl_ne 10 (tl x)
  rw [e, q] at h
  cases h
theorem spl_lines : ∀ G : List Rule, (∀ r ∈ G, 10 ∉ lineT r) → spl [10] 0 [] (writeT G) = G.map lineT ++ [[]]
  | [], _ => spl_no (p := []) (fun m => nomatch m)
  | r :: G, h => by
    have e : writeT (r :: G) = lineT r ++ 10 :: writeT G := by
      unfold writeT
      simp
    rw [e, spl_at1 (h r List.mem_cons_self), spl_lines G fun q hq => h q (List.mem_cons_of_mem _ hq)]
    rfl
theorem line_no10 {r : Rule} (g : GoodR r) : 10 ∉ lineT r := by
  intro m
  unfold lineT at m
  rcases List.mem_append.mp m with m | m
  · exact name_no g.1 (by decide) m
  · rcases List.mem_cons.mp m with m | m
    · cases m
    · obtain ⟨s, hs, q⟩ := List.mem_flatMap.mp m
      rcases List.mem_cons.mp q with q | q
      · cases q
      · have := sym_codes (List.all_eq_true.mp g.2.2 s hs) 10 q
        omega
def lineO (r : Rule) : Str := ⟨(lineT r).toArray⟩
theorem lines_back {x : Str} {G : List Rule} (h : tl x = writeT G) (g : ∀ r ∈ G, GoodR r) : linesOf x = G.map lineO ++ [("" : Str)] := by
  refine map_tl_inj ?_
  rw [linesOf_tl, h, spl_lines G fun r hr => line_no10 (g r hr), List.map_append, List.map_map]
  rfl
theorem rdGo_back : ∀ (G A : List Rule), (∀ r ∈ G, GoodR r) → (A ++ G).Nodup → A.length + G.length ≤ 24 → rdGo A.length A (G.map lineO) = .good (A ++ G)
  | [], A, _, _, _ => by
    rw [List.append_nil]
    rfl
  | r :: G, A, g, nd, h => by
    rw [List.map_cons]
    unfold rdGo
    rw [rule_back (l := lineO r) (r := r) rfl (g r List.mem_cons_self)]
    have h2 : r ∉ A := fun m => by
      rw [List.nodup_append] at nd
      exact nd.2.2 r m r List.mem_cons_self rfl
    have h3 : A.length + G.length + 1 ≤ 24 := by
      rw [List.length_cons] at h
      omega
    simp only
    rw [if_neg h2, if_neg (by omega)]
    have e : A ++ r :: G = (A ++ [r]) ++ G := by simp
    have l : A.length + 1 = (A ++ [r]).length := by simp
    rw [e, l]
    refine rdGo_back G (A ++ [r]) (fun q hq => g q (List.mem_cons_of_mem _ hq)) (by rw [← e]; exact nd) ?_
    rw [← l]
    omega
/-- THE READ-BACK -/
theorem rd_back {G : List Rule} (g : ∀ r ∈ G, GoodR r) (nd : G.Nodup) (n0 : G ≠ []) (h : G.length ≤ 24) : rd (linesOf (writeS G)) = .good G := by
  rw [lines_back (writeS_tl G) g]
  unfold rd
  rw [List.dropLast_concat, List.getLast?_concat]
  have := rdGo_back G [] g nd (by simpa using h)
  rw [List.length_nil, List.nil_append] at this
  rw [this]
  unfold rdEnd
  simp only
  rw [if_neg]
  rintro (z | z)
  · exact z rfl
  · rw [List.length_map] at z
    exact n0 (List.eq_nil_of_length_eq_zero z)
theorem rd_empty : rd (linesOf "") = .line 0 := by
  have e : linesOf "" = [("" : Str)] := by
    refine map_tl_inj ?_
    rw [linesOf_tl, nil_tl, spl_no (by simp)]
    rfl
  rw [e]
  unfold rd rdEnd rdGo
  simp
/-! ### lengths of parts -/
theorem spl_bound (s : Nat) : ∀ (n : Nat) (L : List Nat), L.length ≤ n → ∀ p ∈ spl [s] 0 [] L, p.length ≤ L.length
  | n, L, h => by
    rcases cut_first s L with c | ⟨p, r, rfl, c⟩
    · rw [spl_no c]
      intro q hq
      rw [List.mem_singleton.mp hq]
      exact Nat.le_refl _
    · rw [spl_at1 c]
      intro q hq
      rw [List.length_append, List.length_cons] at h ⊢
      rcases List.mem_cons.mp hq with z | z
      · rw [z]
        omega
      · cases n with
        | zero => omega
        | succ m =>
          have := spl_bound s m r (by omega) q z
          omega
theorem spl_count (s : Nat) : ∀ (n : Nat) (L : List Nat), L.length ≤ n → (spl [s] 0 [] L).length ≤ L.length + 1
  | n, L, h => by
    rcases cut_first s L with c | ⟨p, r, rfl, c⟩
    · rw [spl_no c]
      show 1 ≤ _
      omega
    · rw [spl_at1 c]
      rw [List.length_append, List.length_cons] at h ⊢
      cases n with
      | zero => omega
      | succ m =>
        have := spl_count s m r (by omega)
        rw [List.length_cons]
        omega
theorem map_len {l : List Str} {p : Str} (h : p ∈ l) {n : Nat} (b : ∀ q ∈ l.map tl, q.length ≤ n) : p.length ≤ n := by
  rw [len_tl]
  exact b _ (List.mem_map.mpr ⟨p, h, rfl⟩)
theorem spS_len {x p : Str} (h : p ∈ spS x) : p.length ≤ x.length := map_len h (by rw [spS_tl, len_tl]; exact spl_bound 32 _ _ (Nat.le_refl _))
theorem lines_len {x p : Str} (h : p ∈ linesOf x) : p.length ≤ x.length := map_len h (by rw [linesOf_tl, len_tl]; exact spl_bound 10 _ _ (Nat.le_refl _))
theorem spS_count (x : Str) : (spS x).length ≤ x.length + 1 := by
  have := spl_count 32 _ (tl x) (Nat.le_refl _)
  rw [← spS_tl, List.length_map, ← len_tl] at this
  exact this
theorem lines_count (x : Str) : (linesOf x).length ≤ x.length + 1 := by
  have := spl_count 10 _ (tl x) (Nat.le_refl _)
  rw [← linesOf_tl, List.length_map, ← len_tl] at this
  exact this
theorem spS_cons (x : Str) : ∃ w ws, spS x = w :: ws := by
  cases h : spS x with
  | cons w ws => exact ⟨w, ws, rfl⟩
  | nil =>
    obtain ⟨p, r, e, _⟩ := spl_ne 32 (tl x)
    have := spS_tl x
    rw [h, e] at this
    cases this
theorem part_len (z : Str) : (Txt.partition z ":").1.length ≤ z.length ∧ (Txt.partition z ":").2.2.length ≤ z.length := by
  rcases cut_first 58 (tl z) with h | ⟨A, R, hL, hA⟩
  · rw [partition_none colon_tl h]
    exact ⟨Nat.le_refl _, Nat.zero_le _⟩
  · obtain ⟨a, ha⟩ := str_of A
    obtain ⟨r, hr⟩ := str_of R
    have el : z = a ++ (":" : Str) ++ r := tl_inj (by rw [tl_append, tl_append, ha, hr, colon_tl, hL]; simp)
    have ep : Txt.partition z ":" = (a, (":" : Str), r) := by
      rw [el]
      exact partition_app colon_tl (by rw [ha]; exact hA)
    rw [ep, len_tl z, hL, List.length_append, List.length_cons, len_tl a, len_tl r, ha, hr]
    omega
theorem cutV_tail (x : V) (xs : List V) : cutV (x :: xs) (some 1) none = xs := by
  unfold cutV HT.sIx
  simp only [List.length_cons]
  have e : min (1 : Int).toNat (xs.length + 1) = 1 := by
    have : (1 : Int).toNat = 1 := rfl
    omega
  rw [if_neg (by decide)]
  rw [e]
  simp
/-! ### as data -/
def ruleD (r : Rule) : PyData := .tuple [.str r.1, .list (r.2.map PyData.str)]
def gD (G : List Rule) : PyData := .list (G.map ruleD)
theorem strs_eqv : ∀ xs ys : List Str, PyData.eqvAll (xs.map PyData.str) (ys.map PyData.str) = decide (xs = ys)
  | [], [] => by simp [PyData.eqvAll]
  | [], _ :: _ => by simp [PyData.eqvAll]
  | _ :: _, [] => by simp [PyData.eqvAll]
  | x :: xs, y :: ys => by
    rw [List.map_cons, List.map_cons, PyData.eqvAll, strs_eqv xs ys, PyData.eqv, Bool.eq_iff_iff]
    simp
theorem ruleD_eqv (r q : Rule) : PyData.eqv (ruleD r) (ruleD q) = decide (r = q) := by
  obtain ⟨a, s⟩ := r
  obtain ⟨b, t⟩ := q
  unfold ruleD
  rw [PyData.eqv, PyData.eqvAll, PyData.eqvAll, PyData.eqvAll, PyData.eqv, PyData.eqv, strs_eqv, Bool.eq_iff_iff]
  simp
theorem ruleD_in (G : List Rule) (r : Rule) : ((G.map ruleD).any fun z => PyData.eqv z (ruleD r)) = decide (r ∈ G) := by
  rw [Bool.eq_iff_iff, List.any_eq_true, decide_eq_true_eq]
  constructor
  · rintro ⟨z, hz, e⟩
    obtain ⟨q, hq, rfl⟩ := List.mem_map.mp hz
    rw [ruleD_eqv, decide_eq_true_eq] at e
    rw [← e]
    exact hq
  · intro h
    exact ⟨ruleD r, List.mem_map.mpr ⟨r, h, rfl⟩, by rw [ruleD_eqv]; simp⟩
theorem strOk_sym {z : Str} (h : symB z = true) : PyData.strOk z = true := by
  unfold PyData.strOk
  rw [Array.all_eq_true']
  intro c hc
  have := sym_codes h c (by simpa using hc)
  exact decide_eq_true (by omega)
theorem strs_lay : ∀ {ss : List Str}, (∀ s ∈ ss, PyData.strOk s = true) → PyData.canLayAll0 (ss.map PyData.str) = true
  | [], _ => by simp [PyData.canLayAll0]
  | s :: ss, h => by
    rw [List.map_cons, PyData.canLayAll0, PyData.canLay0, h s List.mem_cons_self, strs_lay fun z hz => h z (List.mem_cons_of_mem _ hz)]
    rfl
theorem strs_depth : ∀ ss : List Str, PyData.depthAll (ss.map PyData.str) ≤ 0
  | [] => by simp [PyData.depthAll]
  | s :: ss => by
    have := strs_depth ss
    simp only [List.map_cons, PyData.depthAll, PyData.depth]
    omega
theorem rule_lay {r : Rule} (g : GoodR r) : (ruleD r).canLay0 = true := by
  have h1 : PyData.strOk r.1 = true := strOk_sym (by unfold symB; rw [g.1, Bool.or_true])
  have h2 := strs_lay (ss := r.2) fun s hs => strOk_sym (List.all_eq_true.mp g.2.2 s hs)
  simp [ruleD, PyData.canLay0, PyData.canLayAll0, h1, h2]
theorem rule_depth (r : Rule) : (ruleD r).depth ≤ 2 := by
  have h := strs_depth r.2
  simp only [ruleD, PyData.depth, PyData.depthAll]
  omega
theorem rules_lay : ∀ {G : List Rule}, (∀ r ∈ G, GoodR r) → PyData.canLayAll0 (G.map ruleD) = true
  | [], _ => by simp [PyData.canLayAll0]
  | r :: G, g => by
    rw [List.map_cons, PyData.canLayAll0, rule_lay (g r List.mem_cons_self), rules_lay fun q hq => g q (List.mem_cons_of_mem _ hq)]
    rfl
theorem rules_depth : ∀ G : List Rule, PyData.depthAll (G.map ruleD) ≤ 2
  | [] => by simp [PyData.depthAll]
  | r :: G => by
    have h1 := rules_depth G
    have h2 := rule_depth r
    simp only [List.map_cons, PyData.depthAll]
    omega
theorem shaped_mk {d : PyData} (h1 : d.canLay0 = true) (h2 : d.depth ≤ 64) : SeqAt.shaped d = true := by
  unfold SeqAt.shaped
  rw [h1, decide_eq_true h2]
  rfl
theorem rule_shaped {r : Rule} (g : GoodR r) : SeqAt.shaped (ruleD r) = true := shaped_mk (rule_lay g) (by have := rule_depth r; omega)
theorem gD_shaped {G : List Rule} (g : ∀ r ∈ G, GoodR r) : SeqAt.shaped (gD G) = true := shaped_mk (by unfold gD; rw [PyData.canLay0]; exact rules_lay g) (by
  have := rules_depth G
  unfold gD
  simp only [PyData.depth]
  omega)
theorem eqv_self {d : PyData} (h : SeqAt.shaped d = true) : PyData.eqv d d = true := SeqAt.eqv_refl d (SeqAt.canLay_of_shaped h)
/-! ### what a reading gives, as data -/
def rdD : Rd → PyData
  | .line k => .tuple [.str "line", .int k]
  | .taken k => .tuple [.str "taken", .int k]
  | .large k => .tuple [.str "large", .int k]
  | .good G => .tuple [.str "grammar", gD G]
def RdOk : Rd → Prop
  | .good G => ∀ r ∈ G, GoodR r
  | _ => True
theorem rd_shaped {x : Rd} (h : RdOk x) : SeqAt.shaped (rdD x) = true := by
  cases x with
  | line k => exact shaped_mk (by simp [rdD, PyData.canLay0, PyData.canLayAll0]; decide +kernel) (by simp [rdD, PyData.depth, PyData.depthAll])
  | taken k => exact shaped_mk (by simp [rdD, PyData.canLay0, PyData.canLayAll0]; decide +kernel) (by simp [rdD, PyData.depth, PyData.depthAll])
  | large k => exact shaped_mk (by simp [rdD, PyData.canLay0, PyData.canLayAll0]; decide +kernel) (by simp [rdD, PyData.depth, PyData.depthAll])
  | good G =>
    have h1 : (gD G).canLay0 = true := SeqAt.canLay_of_shaped (gD_shaped h)
    have h2 : (gD G).depth ≤ 64 - 1 := by
      have := rules_depth G
      unfold gD
      simp only [PyData.depth]
      omega
    refine shaped_mk ?_ ?_
    · simp only [rdD, PyData.canLay0, PyData.canLayAll0, h1, Bool.and_true]
      decide +kernel
    · simp only [rdD, PyData.depth, PyData.depthAll]
      omega
end Ld

set_option Elab.async false
set_option linter.all false
set_option maxRecDepth 100000
set_option maxHeartbeats 4000000
/-! What stands stands, tables may grow; grammars in the heap. -/
namespace Ld
open PySem PySem.Spec PyProof.Rows L2 TL
/-- what stood stands, but that tables stay tables -/
def Up (H H2 : Hp) : Prop := ∀ b o, H b = some o → H2 b = some o ∨ ∃ ps qs, o = .tbl ps ∧ H2 b = some (.tbl qs)
theorem Up.refl (H : Hp) : Up H H := fun _ _ h => .inl h
theorem Up.trans {A B C : Hp} (u : Up A B) (v : Up B C) : Up A C := fun b o h => by
  rcases u b o h with e | ⟨ps, qs, rfl, e⟩
  · exact v b o e
  · rcases v b _ e with e2 | ⟨_, q2, _, e2⟩
    · exact .inr ⟨ps, qs, rfl, e2⟩
    · exact .inr ⟨ps, q2, rfl, e2⟩
theorem Up.dom {A B : Hp} (u : Up A B) {b : Addr} (h : B b = none) : A b = none := by
  cases e : A b with
  | none => rfl
  | some o =>
    rcases u b o e with e2 | ⟨_, _, _, e2⟩
    · rw [h] at e2; cases e2
    · rw [h] at e2; cases e2
theorem Up.lst {A B : Hp} (u : Up A B) {a : Addr} {xs : List V} (h : A a = some (.lst xs)) : B a = some (.lst xs) := by
  rcases u a _ h with e | ⟨_, _, z, _⟩
  · exact e
  · cases z
theorem Up.tup {A B : Hp} (u : Up A B) {a : Addr} {xs : List V} (h : A a = some (.tup xs)) : B a = some (.tup xs) := by
  rcases u a _ h with e | ⟨_, _, z, _⟩
  · exact e
  · cases z
theorem Up.xd {A B : Hp} (u : Up A B) {a : Addr} {fs : List (Str × V)} (h : A a = some (.xd fs)) : B a = some (.xd fs) := by
  rcases u a _ h with e | ⟨_, _, z, _⟩
  · exact e
  · cases z
theorem Up.seq {K : PySem.W.Frag} {A B : Hp} (u : Up A B) {a : Addr} {xs : List V} (h : SqL K A a xs) : SqL K B a xs := by
  rcases h with h | h
  · left
    rcases h with h | ⟨o, h⟩
    · exact .inl (u.lst h)
    · right
      refine ⟨o, ?_⟩
      rcases u a _ h with e | ⟨_, _, z, _⟩
      · exact e
      · cases z
  · exact .inr h
theorem Up.seqT {K : PySem.W.Frag} {A B : Hp} (u : Up A B) {a : Addr} {xs : List V} (h : SqT K A a xs) : SqT K B a xs := by
  rcases h with h | h
  · left
    rcases h with h | ⟨o, h⟩
    · exact .inl (u.tup h)
    · right
      refine ⟨o, ?_⟩
      rcases u a _ h with e | ⟨_, _, z, _⟩
      · exact e
      · cases z
  · exact .inr h
theorem Up.of_same {A B : Hp} (h : Same A B) : Up A B := fun b o e => .inl (h b o e)
theorem Up.upd {A B : Hp} (u : Up A B) {p : Addr} {o : HO} (n : A p = none) : Up A (upd B p o) := fun b x e => by
  have ne : b ≠ p := fun z => by rw [z, n] at e; cases e
  rw [upd_ne ne]
  exact u b x e
theorem Up.put (A : Hp) {p : Addr} {o : HO} (n : A p = none) : Up A (L2.upd A p o) := (Up.refl A).upd n
theorem Up.tabbed {A B : Hp} {T : Addr} (t : GxR.TabG A T) (h : GxR.Tabbed T A B) : Up A B := fun b o e => by
  by_cases z : b = T
  · subst z
    obtain ⟨ps, e1, _⟩ := t
    obtain ⟨qs, e2, _⟩ := h.1
    rw [e1] at e
    cases e
    exact .inr ⟨ps, qs, rfl, e2⟩
  · rw [← h.2 b z] at e
    exact .inl e
/-- the two tables -/
def Tb (T1 T2 : Addr) (H : Hp) : Prop := GxR.TabG H T1 ∧ GxR.TabG H T2
theorem tabG_upd {H : Hp} {T p : Addr} {o : HO} (h : GxR.TabG H T) (n : p ≠ T) : GxR.TabG (upd H p o) T := by
  obtain ⟨ps, e, t⟩ := h
  exact ⟨ps, by rw [upd_ne (Ne.symm n)]; exact e, t⟩
theorem tabG_new {H : Hp} {T p : Addr} {o : HO} (h : GxR.TabG H T) (n : H p = none) : GxR.TabG (upd H p o) T := tabG_upd h fun z => by
  obtain ⟨ps, e, _⟩ := h
  rw [z, e] at n
  cases n
theorem tabG_in {H : Hp} {T p : Addr} {o u : HO} (h : GxR.TabG H T) (n : H p = some u) (k : ∀ ps, u ≠ .tbl ps) : GxR.TabG (upd H p o) T := tabG_upd h fun z => by
  obtain ⟨ps, e, _⟩ := h
  rw [z, e] at n
  cases n
  exact k _ rfl
theorem Tb.new {T1 T2 : Addr} {H : Hp} (t : Tb T1 T2 H) {p : Addr} {o : HO} (n : H p = none) : Tb T1 T2 (upd H p o) := ⟨tabG_new t.1 n, tabG_new t.2 n⟩
theorem Tb.lst {T1 T2 : Addr} {H : Hp} (t : Tb T1 T2 H) {p : Addr} {o : HO} {xs : List V} (n : H p = some (.lst xs)) : Tb T1 T2 (upd H p o) := ⟨tabG_in t.1 n (fun _ z => by cases z), tabG_in t.2 n fun _ z => by cases z⟩
theorem tabbed_other {H H2 : Hp} {T T2 : Addr} (t : GxR.TabG H T2) (h : GxR.Tabbed T H H2) : GxR.TabG H2 T2 := by
  by_cases z : T2 = T
  · rw [z]
    exact h.1
  · obtain ⟨ps, e, k⟩ := t
    exact ⟨ps, by rw [h.2 T2 z]; exact e, k⟩
theorem Tb.on1 {T1 T2 : Addr} {H H2 : Hp} (t : Tb T1 T2 H) (h : GxR.Tabbed T1 H H2) : Tb T1 T2 H2 := ⟨h.1, tabbed_other t.2 h⟩
theorem Tb.on2 {T1 T2 : Addr} {H H2 : Hp} (t : Tb T1 T2 H) (h : GxR.Tabbed T2 H H2) : Tb T1 T2 H2 := ⟨tabbed_other t.1 h, h.1⟩
/-! ### what is new -/
def News (A B : Hp) : Hp := fun a => match A a with
  | none => B a
  | some _ => none
theorem news_of {A B : Hp} {a : Addr} (h : A a = none) : News A B a = B a := by
  unfold News
  rw [h]
theorem news_at {A B : Hp} {a : Addr} {o : HO} (h : News A B a = some o) : A a = none ∧ B a = some o := by
  unfold News at h
  cases e : A a with
  | none =>
    rw [e] at h
    exact ⟨rfl, h⟩
  | some _ =>
    rw [e] at h
    cases h
theorem news_same {A B : Hp} : Same (News A B) B := fun _ _ h => (news_at h).2
theorem News.up {A B C : Hp} (u : Up B C) : Up (News A B) (News A C) := fun b o h => by
  obtain ⟨n, e⟩ := news_at h
  rw [news_of n]
  exact u b o e
theorem News.less {A A2 B : Hp} (d : ∀ b, A2 b = none → A b = none) : Same (News A2 B) (News A B) := fun b o h => by
  obtain ⟨n, e⟩ := news_at h
  rw [news_of (d b n)]
  exact e
theorem News.put {A B : Hp} {p : Addr} {o u : HO} (h : A p = some u) : News A (upd B p o) = News A B := by
  funext b
  unfold News
  cases e : A b with
  | some _ => rfl
  | none =>
    have : b ≠ p := fun z => by rw [z, h] at e; cases e
    simp only
    rw [upd_ne this]
/-! ### rules and grammars in the heap -/
def RuleA (H : Hp) (v : V) (r : Rule) : Prop := ∃ t l, v = .ref t ∧ H t = some (.tup [.str r.1, .ref l]) ∧ H l = some (.lst (r.2.map V.str))
theorem RuleA.up {A B : Hp} (u : Up A B) {v : V} {r : Rule} (h : RuleA A v r) : RuleA B v r := by
  obtain ⟨t, l, e, h1, h2⟩ := h
  exact ⟨t, l, e, u.tup h1, u.lst h2⟩
def GrA (H : Hp) : List V → List Rule → Prop
  | [], [] => True
  | v :: vs, r :: G => RuleA H v r ∧ GrA H vs G
  | _, _ => False
theorem GrA.up {A B : Hp} (u : Up A B) : ∀ {vs : List V} {G : List Rule}, GrA A vs G → GrA B vs G
  | [], [], _ => True.intro
  | _ :: _, _ :: _, h => ⟨h.1.up u, h.2.up u⟩
  | [], _ :: _, h => h.elim
  | _ :: _, [], h => h.elim
theorem GrA.len {A : Hp} : ∀ {vs : List V} {G : List Rule}, GrA A vs G → vs.length = G.length
  | [], [], _ => rfl
  | _ :: _, _ :: _, h => by rw [List.length_cons, List.length_cons, h.2.len]
  | [], _ :: _, h => h.elim
  | _ :: _, [], h => h.elim
theorem GrA.get {A : Hp} : ∀ {vs : List V} {G : List Rule} {i : Nat} {v : V}, GrA A vs G → vs[i]? = some v → ∃ r, G[i]? = some r ∧ RuleA A v r
  | _ :: _, r :: _, 0, _, h, e => by
    cases e
    exact ⟨r, rfl, h.1⟩
  | _ :: _, _ :: _, i + 1, _, h, e => h.2.get (i := i) e
  | [], _, _, _, _, e => by cases e
  | _ :: _, [], _, _, h, _ => h.elim
theorem GrA.snoc {A : Hp} : ∀ {vs : List V} {G : List Rule} {v : V} {r : Rule}, GrA A vs G → RuleA A v r → GrA A (vs ++ [v]) (G ++ [r])
  | [], [], _, _, _, q => ⟨q, True.intro⟩
  | _ :: _, _ :: _, _, _, h, q => ⟨h.1, h.2.snoc q⟩
  | [], _ :: _, _, _, h, _ => h.elim
  | _ :: _, [], _, _, h, _ => h.elim
def GraA (H : Hp) (g : Addr) (G : List Rule) : Prop := ∃ vs, H g = some (.lst vs) ∧ GrA H vs G
theorem GraA.up {A B : Hp} (u : Up A B) {g : Addr} {G : List Rule} (h : GraA A g G) : GraA B g G := by
  obtain ⟨vs, e, q⟩ := h
  exact ⟨vs, u.lst e, q.up u⟩
theorem dp_strs {K : PySem.W.Frag} {H : Hp} : ∀ xs : List Str, DpAll K H (xs.map V.str) (xs.map PyData.str)
  | [] => .nil
  | x :: xs => .cons (.str x) (dp_strs xs)
theorem RuleA.dp {K : PySem.W.Frag} {H : Hp} {v : V} {r : Rule} (h : RuleA H v r) : Dp K H v (ruleD r) := by
  obtain ⟨t, l, rfl, h1, h2⟩ := h
  exact .tup (SqT.of h1) (.cons (.str _) (.cons (.lst (SqL.of h2) (dp_strs _)) .nil))
theorem GrA.dp {K : PySem.W.Frag} {H : Hp} : ∀ {vs : List V} {G : List Rule}, GrA H vs G → DpAll K H vs (G.map ruleD)
  | [], [], _ => .nil
  | _ :: _, _ :: _, h => .cons h.1.dp h.2.dp
  | [], _ :: _, h => h.elim
  | _ :: _, [], h => h.elim
theorem GraA.dp {K : PySem.W.Frag} {H : Hp} {g : Addr} {G : List Rule} (h : GraA H g G) : Dp K H (.ref g) (gD G) := by
  obtain ⟨vs, e, q⟩ := h
  exact .lst (SqL.of e) q.dp
/-- grammars that a law hands in -/
def GoodG (most : Nat) (G : List Rule) : Prop := (∀ r ∈ G, GoodR r) ∧ G.Nodup ∧ G ≠ [] ∧ G.length ≤ most
end Ld

set_option Elab.async false
set_option linter.all false
set_option maxRecDepth 100000
set_option maxHeartbeats 4000000
/-! Small facts that many laws use. -/
namespace Ld
open PySem PySem.Spec PyProof.Rows L2
theorem same_put {A B : Hp} (u : Same A B) {p : Addr} {o : HO} (n : A p = none) : Same A (upd B p o) := fun b x e => by
  rw [upd_ne (ne_of_none e n)]
  exact u b x e
theorem million0 {n : Nat} (h : n ≤ 1000000) : n ≤ sizeLine := Nat.le_trans h (by decide)
theorem million1 {n : Nat} (h : n ≤ 1000000) : n < sizeLine := Nat.lt_of_le_of_lt h (by decide)
theorem str_at {ss : List Str} {j : Nat} {x : V} (h : (ss.map V.str)[j]? = some x) : ∃ s, ss[j]? = some s ∧ x = V.str s := by
  rw [List.getElem?_map] at h
  cases e : ss[j]? with
  | none =>
    rw [e] at h
    cases h
  | some s =>
    rw [e] at h
    exact ⟨s, rfl, (Option.some.inj h).symm⟩
theorem cut_map {ss : List Str} {i k : Nat} (h : k ≤ ss.length) (h2 : i ≤ k) : cutV (ss.map V.str) (some (i : Int)) (some (k : Int)) = ((ss.drop i).take (k - i)).map V.str := by
  unfold cutV
  rw [HT.sIx_nat, HT.sIx_nat, List.length_map, Nat.min_eq_left h, Nat.min_eq_left (Nat.le_trans h2 h), List.map_take, List.map_drop]
end Ld

set_option Elab.async false
set_option linter.all false
set_option maxRecDepth 100000
set_option maxHeartbeats 4000000
/-! repr of data, where nothing is being shown already; a law that is called where nothing is being shown. -/
namespace Lg
open PySem PySem.Spec PyProof.Rows L2 LamX GxR
/-- repr of data at any depth -/
def rRepr (K : PySem.W.Frag) : List V → Hp → VK → Prop := fun xs H Q => ∃ (a : Addr) (d : PyData), xs = [.ref a] ∧ Dp K H (.ref a) d ∧ d.showable = true ∧ SeqAt.shaped d = true ∧ d.shown.length ≤ sizeLine ∧ Q (.str d.shown) H
theorem call_repr {X : Cx} (hg : X.A.guards = some []) (hu : X.A.units + 66 < cLine) : CallR X (.builtin "repr") (rRepr X.K) := by
  intro pins s σ H xs us Q I r h
  obtain ⟨a, d, rfl, hd, show_, shp, sz, q⟩ := h
  obtain ⟨u, rfl, rx⟩ := vals1 r
  obtain rfl : u = Value.ref a := rx
  obtain ⟨as, r1⟩ := Dp.reads I d _ _ hd rfl
  have dep := SeqAt.depth_of_shaped shp
  refine repr_of_reads' r1 show_ (PyData.noDict_hsm (PyData.hasDict_of_canLay d (SeqAt.canLay_of_shaped shp))) hg (by omega) (fun _ _ e => e) (fun h2 v tk up => ?_) sz
  exact ⟨.str _, H, I.kept up, ⟨v, rfl⟩, q⟩
/-- the def at fa keeps sp where it is called by no def at all -/
structure Top (P : Program) (w : World) (K : PySem.W.Frag) (mg : Str → Option Value) (base : Heap) (CX : CXT) (fa : Addr) (fd : FuncData) (ps : List Str) (sp : Sp) : Prop where
  len : ∀ vs H Q E, sp vs H Q E → vs.length = ps.length
  run : ∀ (s : Shared) (H : Hp) (args : Args) (us : List Value) (vs : List V) (Q : VK) (E : XK), Env0 P w K mg base callerA [] s H → BindsTo s fd args (ps.zip us) → Vals vs us → sp vs H Q E →
    codeAny (model P w) callerA (.call (.ref fa) args) (CR CX [] P w H s Q E) s
section
variable {P : Program} {w : World} {K : PySem.W.Frag} {mg : Str → Option Value} {base : Heap}
theorem top_ok {x qual : Str} {st : Stmt} {f : Addr} {fd : FuncData} {N ps : List Str} {k : Nat} {sp : Sp} (F : Fun K x qual st f fd) (S : FnScope N ps (defScope st)) (room : Room (k + 1) callerA) (len : ∀ vs H Q E, sp vs H Q E → vs.length = ps.length)
    (hbody : ∀ (cdv : Value) (s : Shared) (H : Hp) (vs : List V) (Q : VK) (E : XK), Room k (callerA.deeper (envOfC qual (defScope st) s.heap.objs.size f cdv)) → sp vs H Q E →
      ∃ t, PSs (cxOf CX0 P w K mg base N qual (defScope st) f cdv callerA [] s H E).nox (defBody st) t ∧ t { nx := fun _ H' => Q .non H', rt := Q } (start N vs) H) : Top P w K mg base CX0 f fd ps sp := by
  obtain ⟨oc, od, kV, doc, pm, an, cdv, ct, osl, rfl, lk, code⟩ := F.ex
  refine ⟨len, fun s H args us vs Q E e0 bind rel want => ?_⟩
  have count := len _ _ _ _ want
  have inK : K.In s.heap := e0.mod.kin.keeps fun b o e => (e0.bs b o e).1
  have lim : s.heap.NoLimit := e0.mod.nolimit.keeps fun b o e => (e0.bs b o e).1
  have kinds : ∀ y ∈ ps.zip us, (defScope st).names.lookup y.1 = some .local ∨ ((defScope st).names.lookup y.1 = some .cell ∧ ((cellsFrom (s.heap.objs.size + 1) (defScope st).names []).lookup y.1).isSome = true) := by
    rintro ⟨n, v⟩ hy
    exact (S.par n (List.of_mem_zip hy).1).imp_right fun q => ⟨q, PySem.W.cellsFrom_some _ _ _ (.inl q)⟩
  refine codeAny_call_function room.depth (inK _ _ lk) rfl S.co S.gen rfl (PySem.W.codeRec_of inK code) (bind _ _ _ _ ?_)
  refine wpAny_newFunctionEnv_cells S.kind kinds fun env made s1 x => ?_
  subst made
  refine ⟨lim.keeps x.toInCall.keep, codeAny_func ?_⟩
  obtain ⟨t, body, reads⟩ := hbody cdv s H vs Q E (room.deeper _) want
  have I : Inv (cxOf CX0 P w K mg base N qual (defScope st) f cdv callerA [] s H E) [] (start N vs) H s1 := inv_start S room.hd e0 count rel x
  refine wpAny_mono (body.nox.run [] s1 (start N vs) H _ I reads) (fun fl s2 ends => ?_) fun e s2 z => z
  cases fl with
  | brk =>
    obtain ⟨_, _, _, z⟩ := ends
    exact False.elim z
  | cont =>
    obtain ⟨_, _, _, z⟩ := ends
    exact False.elim z
  | next =>
    obtain ⟨σ2, H2, J, q⟩ := ends
    exact ⟨V.non, H2, J.os, J.bare, J.base, J.hok, rfl, q⟩
  | ret u =>
    obtain ⟨v, σ2, H2, J, rv, q⟩ := ends
    exact ⟨v, H2, J.os, J.bare, J.base, J.hok, rv, q⟩
/-- an object that is no table's and no list's is as it is where tables and the script are hidden -/
theorem top_call {cs : List (Addr × Addr)} {fd : FuncData} {x : Str} {sp : Sp} {t1 : Shared} {mb : Str → Option Value} {vals : List Value} {nums : List Int} {fa a : Addr} (inK : K.In t1.heap) (top : t1.heap.Ns mainGlobals mg) (blt : t1.heap.Ns builtinsNs mb) (sameB : ∀ x : Str, x ≠ "__name__" → mb x = bootBuiltins x)
    (lim : t1.heap.NoLimit) (noGens : t1.gens = #[]) (tabs : ∀ p ∈ cs, t1.heap.get? p.2 = some { cls := .none, data := .fields #[] }) (tabsK : ∀ p ∈ cs, K.lookup p.2 = none) (codes : ∀ p ∈ cs, PySem.W.CodeHd t1.heap p.1 p.2)
    (modB : ∃ (bm : Addr) (ob : Obj), mg "__builtins__" = some (.ref bm) ∧ bm ≠ builtinsNs ∧ t1.heap.get? bm = some ob ∧ ob.cls = .type "module" ∧ ob.dict = some builtinsNs ∧ ob.data = .plain)
    (script : t1.heap.get? a = some { cls := .type "list", data := .seq vals.toArray }) (areInts : IntsAre vals nums) (fits : nums.length ≤ sizeLine)
    (F : ∀ base : Heap, K.In base → base.Ns mainGlobals mg → (∀ p ∈ cs, LamX.TabB base mg p.1 p.2) → Top P w K mg base CX0 fa fd [x] sp) (bind : ∀ (s : Shared) (u : Value), BindsTo s fd ⟨[u], []⟩ [(x, u)])
    (want : ∀ H : Hp, (∀ p ∈ cs, H p.2 = some (.tbl #[])) → SqL K H a (nums.map V.int) → sp [.ref a] H (fun v _ => v = .bl true) fun _ _ _ => False) :
    codeAny (model P w) callerA (.call (.ref fa) ⟨[.ref a], []⟩) (fun r s' => r = .ok (.ret (.bool true)) ∧ OldK t1.heap s'.heap ∧ s'.os = t1.os ∧ AllBare s'.gens) t1 := by
  have rel := vals_ints areInts
  have lenV := areInts.length
  let Tm := cs.map (·.2)
  let lst : Obj := { cls := .type "list", data := .seq vals.toArray }
  have memT : ∀ p ∈ cs, p.2 ∈ Tm := fun p hp => List.mem_map.mpr ⟨p, hp, rfl⟩
  have isT : ∀ b ∈ Tm, ∃ p ∈ cs, p.2 = b ∧ t1.heap.get? b = some { cls := .none, data := .fields #[] } := fun b mem => by
    obtain ⟨p, hp, rfl⟩ := List.mem_map.mp mem
    exact ⟨p, hp, rfl, tabs p hp⟩
  have aT : a ∉ Tm := fun mem => by
    obtain ⟨_, _, _, e⟩ := isT a mem
    have := (congrArg Obj.data (Option.some.inj (script.symm.trans e)))
    cases this
  -- the tables, and the script unless it is written: nothing else is tracked
  obtain ⟨H, hT, hS, cases_⟩ : ∃ H : Hp, (∀ p ∈ cs, H p.2 = some (.tbl #[])) ∧ SqL K H a (nums.map V.int) ∧ ∀ b u, H b = some u → (b ∈ Tm ∧ u = .tbl #[]) ∨ (b = a ∧ K.lookup a = none ∧ u = .frz lst (.lst (nums.map V.int))) := by
    cases at_ : K.lookup a with
    | some o =>
      have e := inK a o at_
      rw [script] at e
      cases e
      refine ⟨fun b => if b ∈ Tm then some (.tbl #[]) else none, fun p hp => if_pos (memT p hp), .inr ⟨_, vals.toArray, _, at_, rfl, rfl, rfl, by rw [List.size_toArray, lenV]; exact fits, by simpa using rel⟩, fun b u z => ?_⟩
      by_cases mem : b ∈ Tm
      · exact .inl ⟨mem, (Option.some.inj ((if_pos mem).symm.trans z)).symm⟩
      · cases (if_neg mem).symm.trans z
    | none =>
      refine ⟨fun b => if b ∈ Tm then some (.tbl #[]) else if b = a then some (.frz lst (.lst (nums.map V.int))) else none, fun p hp => if_pos (memT p hp), .inl (.inr ⟨lst, (if_neg aT).trans (if_pos rfl)⟩), fun b u z => ?_⟩
      by_cases mem : b ∈ Tm
      · exact .inl ⟨mem, (Option.some.inj ((if_pos mem).symm.trans z)).symm⟩
      · have z2 := (if_neg mem).symm.trans z
        by_cases e : b = a
        · exact .inr ⟨e, rfl, (Option.some.inj ((if_pos e).symm.trans z2)).symm⟩
        · cases (if_neg e).symm.trans z2
  have off : ∀ {b : Addr} {o : Obj}, t1.heap.get? b = some o → o.data ≠ .fields #[] → (b = a → K.lookup a = none → False) → H b = none := fun {b o} e d n => by
    cases q : H b with
    | none => rfl
    | some u =>
      rcases cases_ b u q with ⟨mem, _⟩ | ⟨e2, k, _⟩
      · obtain ⟨_, _, _, e3⟩ := isT b mem
        rw [e3] at e
        cases e
        exact (d rfl).elim
      · exact (n e2 k).elim
  have offD : ∀ {b : Addr} {o : Obj}, t1.heap.get? b = some o → o.data ≠ .fields #[] → o.data ≠ .seq vals.toArray → H b = none := fun {b o} e d1 d2 => off e d1 fun e2 _ => by
    rw [e2, script] at e
    cases e
    exact d2 rfl
  have ok : HOk P w H t1.heap := fun b u z => by
    rcases cases_ b u z with ⟨mem, rfl⟩ | ⟨rfl, _, rfl⟩
    · obtain ⟨_, _, _, e⟩ := isT b mem
      exact e
    · exact ⟨script, by rw [List.length_map]; exact fits, vals, _, rel, script⟩
  have nsB : ∀ {b : Addr} {m : Str → Option Value}, t1.heap.Ns b m → (hidT t1.heap H).Ns b m := fun {b m} ⟨o, es, ep, e, d, r⟩ => by
    refine ⟨o, es, ep, hidT_get e (offD e ?_ ?_), d, r⟩
    · rw [d]
      intro z
      cases z
    · rw [d]
      intro z
      cases z
  have inB : K.In (hidT t1.heap H) := fun b o e => by
    refine hidT_get (inK b o e) ?_
    cases q : H b with
    | none => rfl
    | some u =>
      rcases cases_ b u q with ⟨mem, _⟩ | ⟨e2, k, _⟩
      · obtain ⟨p, hp, e3, _⟩ := isT b mem
        rw [← e3, tabsK p hp] at e
        cases e
      · rw [e2, k] at e
        cases e
  have tabB : ∀ p ∈ cs, LamX.TabB (hidT t1.heap H) mg p.1 p.2 := fun p hp => by
    obtain ⟨og, eg, epg, atG, dG, _⟩ := id top
    have tp := tabs p hp
    refine ⟨?_, ?_, fun z => ?_⟩
    · obtain ⟨o, us, file, tf, flags, tg, inF, text, tt, e1, r1, r2, r3, r4, r5, r6, r7, r8, ne⟩ := codes p hp
      refine ⟨o, us, file, tf, flags, tg, inF, text, tt, hidT_get e1 (offD e1 ?_ ?_), r1, r2, r3, r4, r5, r6, r7, r8, ne⟩
      · rw [r2]
        intro z
        cases z
        simp at r3
      · rw [r2]
        intro z
        cases z
    · obtain ⟨bm, ob, b1, b2, b3, b4, b5, b6⟩ := modB
      refine ⟨bm, ob, b1, b2, fun q => ?_, fun q => ?_, hidT_get b3 (offD b3 (by rw [b6]; intro z; cases z) (by rw [b6]; intro z; cases z)), b4, b5, b6⟩
      · rw [q, atG] at b3
        cases b3
        rw [dG] at b6
        cases b6
      · rw [q, tp] at b3
        cases b3
        cases b6
    · rw [z, tp] at atG
      cases atG
      cases dG
  have env0 : Env0 P w K mg (hidT t1.heap H) callerA [] t1 H := ⟨rfl, ⟨inB, nsB top, ⟨mb, nsB blt, sameB⟩, let ⟨mc, h1, h2⟩ := lim; ⟨mc, nsB h1, h2⟩⟩, fun b o e => of_hidT e, Nat.le_of_eq (hidT_size _ _), trivial, fun b hb => (List.not_mem_nil hb).elim, ok, .of_eq noGens⟩
  refine codeAny_mono ((F _ inB (nsB top) tabB).run t1 H ⟨[.ref a], []⟩ [.ref a] [.ref a] _ _ env0 (bind t1 (.ref a)) (.cons rfl .nil) (want H hT hS)) fun r s2 left => ?_
  cases r with
  | error e => exact (show False from left).elim
  | ok fl =>
    cases fl with
    | next => exact (show False from left).elim
    | brk => exact (show False from left).elim
    | cont => exact (show False from left).elim
    | ret u =>
      obtain ⟨v, H2, os2, bare2, un, ok2, ru, isTrue_⟩ := left
      obtain rfl : v = .bl true := isTrue_
      obtain rfl : u = Value.bool true := ru
      have grown : ∀ p ∈ cs, ∃ more : Array Value, s2.heap.get? p.2 = some { cls := .none, data := .fields more } := fun p hp => by
        obtain ⟨more, z⟩ := un.tbls p.2 #[] (hT p hp)
        exact ⟨_, ok2 p.2 _ z⟩
      have kept : ∀ b o, b ∉ Tm → t1.heap.get? b = some o → s2.heap.get? b = some o := fun b o out e => by
        cases q : H b with
        | none => exact un.keep b o e q (fun z => (List.not_mem_nil z).elim) (fun z => (List.not_mem_nil z).elim)
        | some u =>
          rcases cases_ b u q with ⟨mem, _⟩ | ⟨_, _, rfl⟩
          · exact (out mem).elim
          · obtain ⟨e1, _⟩ := ok b _ q
            obtain ⟨e2, _⟩ := ok2 b _ (un.frzs b _ _ q)
            rw [e] at e1
            cases e1
            exact e2
      refine ⟨rfl, ⟨fun b o e => ?_, fun b o e => ?_⟩, os2, bare2⟩
      · by_cases mem : b ∈ Tm
        · obtain ⟨p, hp, rfl, at_⟩ := isT b mem
          obtain ⟨more, hm⟩ := grown p hp
          rw [at_] at e
          cases e
          exact .inr (.inl ⟨((codes p hp).tab at_).isCodeTable, rfl, #[], more, rfl, by rw [Array.empty_append]; exact hm⟩)
        · exact .inl (kept b o mem e)
      · by_cases mem : b ∈ Tm
        · obtain ⟨p, hp, rfl, _⟩ := isT b mem
          obtain ⟨more, hm⟩ := grown p hp
          exact ⟨_, hm⟩
        · exact ⟨o, kept b o mem e⟩
end
/-- what is known of the law's promise at the head's heap -/
def LawTop (l : PySem.W.OpenLaw) (w : World) (K : PySem.W.Frag) (n : Nat) (x : Str) (mg : Str → Option Value) (fa : Addr) (h : Heap) : Prop :=
  ∃ (fd : FuncData) (cs : List (Addr × Addr)) (sp : Sp), (∀ p ∈ cs, PySem.W.CodeHd h p.1 p.2 ∧ h.get? p.2 = some { cls := .none, data := .fields #[] } ∧ K.lookup p.2 = none) ∧ (∀ (s : Shared) (u : Value), BindsTo s fd ⟨[u], []⟩ [(x, u)]) ∧
    (∀ (H : Hp) (a : Addr) (ns : List Int), ns.length ≤ n → (∀ p ∈ cs, H p.2 = some (.tbl #[])) → SqL K H a (ns.map V.int) → sp [.ref a] H (fun v _ => v = .bl true) fun _ _ _ => False) ∧
    ∀ base : Heap, K.In base → base.Ns mainGlobals mg → (∀ p ∈ cs, LamX.TabB base mg p.1 p.2) → Top l.prog w K mg base CX0 fa fd [x] sp
theorem walk_top {l : PySem.W.OpenLaw} {n : Nat} {q : Program} {loose : List Str} {XP : (Str → Option Value) → Heap → Prop} {YP : World → Heap → Prop} {d : PySem.DefRec} {K : Params → PySem.W.Frag} {x : Str}
    (most : l.most = some n) (fits : n ≤ sizeLine) (plain : d.params.defaults = []) (hY : ∀ (w : World) (h : Heap), YP w h → (K w.params).In h)
    (F : ∀ (w : World) (mg : Str → Option Value) (fa : Addr) (h : Heap), YP w h → (K w.params).In h → h.Ns mainGlobals mg → mg d.name = some (.ref fa) →
      (∀ (y : Str) (d' : PySem.DefRec) (c T : Addr), (recsOf q).find? (fun e => e.name == y) = some d' → PySem.W.tabIn (K w.params) y = some (c, T) → PySem.W.CodeHd h c T ∧ h.get? T = some { cls := .none, data := .fields #[] }) → LawTop l w (K w.params) n x mg fa h) :
    PySem.W.WalkO q loose XP YP l.row.toRowW d [] (fun f vs => PySem.call f vs) := by
  refine Att.attach_callB most plain fun w s₀ s1 mg mb fa o pm cd doc a vs ns G Y ho hd hcd hmg hobj hints hlen hbits hg => ?_
  have inK := hY w _ Y
  obtain ⟨fd, cs, sp, tabs, bind, want, prom⟩ := F w mg fa _ Y inK G.T.g hmg fun y d' c T found at_ => PySem.W.tab_of G.T inK found at_
  exact top_call inK G.T.g G.T.b G.T.builtins G.T.nolimit hg (fun p hp => (tabs p hp).2.1) (fun p hp => (tabs p hp).2.2) (fun p hp => (tabs p hp).1) G.T.bmain hobj hints (Nat.le_trans hlen fits) prom bind fun H hH hS => want H a ns hlen hH hS
end Lg

set_option Elab.async false
set_option linter.all false
set_option maxRecDepth 100000
set_option maxHeartbeats 4000000
/-! a != b of two dicts that are equal, their values lists. -/
namespace PySem.W
open PySem PySem.Spec PyProof.Rows
section
variable {K : Type} [DecidableEq K] {prog : Program} {w : World} {A : Around} {E : Value → Shared → Prop} {s : Shared} {knd : KeyKind prog w K}
theorem rcP_dictsNe {a b : Addr} {ka kb : List (K × Value)} {r : Bool} {Q : Value → Shared → Prop} (ha : (a == sysModules) = false) (hb : (b == sysModules) = false)
    (da : s.heap.DictOf knd a ka) (db : s.heap.DictOf knd b kb) (hu : A.units < cLine) (hits : ka.length = kb.length → KeqHitsP prog w A.in1 s kb ka r) (h : Q (.bool (!(ka.length == kb.length && r))) s) : wpAny (model prog w) A (compareOp .NotEq (.ref a) (.ref b)) Q E s := by
  refine wpAny_richCompare_same_room (op := .NotEq) da.typeIs db.typeIs PySem.F.slot_dict_ne (wpAny_call_entry PySem.F.slot_dict_ne da.typeIs PySem.F.entry_dict_ne ?_ (PySem.F.args_dict_ne_2 _ _)) hu
  show wpAny _ _ (Builtin.Dict.dictSlotArgs "__ne__" ⟨[.ref a, .ref b], []⟩ >>= _) _ _ s
  refine wpAny_bind ?_
  unfold Builtin.Dict.dictSlotArgs
  refine wpAny_bind (wpAny_notOrdered_dict da.typeIs ?_)
  show wpAny _ _ (pure (Value.ref a, Value.ref b)) _ _ s
  refine wpAny_pure ?_
  refine wpAny_bind (wpAny_isInstance (T := "dict") db.typeIs PySem.F.sub_dict_dict ?_)
  simp only [Bool.not_true, Bool.false_eq_true, if_false]
  refine wpAny_bind (wpAny_pure (wpAny_bind (wpAny_pure ?_)))
  refine wpAny_bind (samePairsP ha hb da db hits ?_)
  refine wpAny_pure ⟨_, rfl, ?_, ?_⟩
  · exact fun x => nomatch x
  · simpa using h
end
end PySem.W
namespace Ld
open PySem PySem.Spec PyProof.Rows L2
def rNeVD (K : PySem.W.Frag) : R2 := fun x y H Q => ∃ a b ks ls n, n ≤ 60 ∧ x = .ref a ∧ y = .ref b ∧ H a = some (.dK ks) ∧ H b = some (.dK ls) ∧ ks.length = ls.length ∧ (∀ p ∈ ks, ∃ u, valV ls p.1 = some u ∧ EqV K H n p.2 u) ∧ Q (.bl false) H
theorem op_neVD {X : Cx} (hu : X.A.units + 64 < cLine) : OpR X (compareOp .NotEq) (rNeVD X.K) := by
  intro pins s σ H x y v u Q I rx ry h
  obtain ⟨a, b, ks, ls, n, hn, rfl, rfl, ea, eb, hlen, hp, q⟩ := h
  obtain rfl : v = Value.ref a := rx
  obtain rfl : u = Value.ref b := ry
  obtain ⟨_, ya, va, ra, da⟩ := (show ObjOk X.prog X.w H s.heap a (.dK ks) from I.hok a _ ea)
  obtain ⟨_, yb, vb, rb, db⟩ := (show ObjOk X.prog X.w H s.heap b (.dK ls) from I.hok b _ eb)
  have hl : va.length = vb.length := by rw [← ra.length, ← rb.length]; exact hlen
  refine PySem.W.rcP_dictsNe (knd := mixKind X.prog X.w) (r := true) ya yb da db (by omega) (fun _ => hits_run (eqV_run I n X.A.in1 (by show X.A.units + 1 + n < cLine; omega)) rb ra hp) ?_
  rw [show (!(va.length == vb.length && true)) = false from by rw [hl]; simp]
  exact ⟨.bl false, H, I, rfl, q⟩
end Ld

set_option Elab.async false
set_option linter.all false
set_option maxRecDepth 100000
set_option maxHeartbeats 4000000
/-! a == b and a != b of equal values that hold dicts with tuples for keys. -/
namespace PySem.W
open PySem PySem.Spec PyProof.Rows
section
variable {K : Type} [DecidableEq K] {prog : Program} {w : World} {A : Around} {E : Value → Shared → Prop} {s : Shared} {knd : HeapKind prog w K}
/-- each key of the one has an equal value in the other -/
inductive HitsT (prog : Program) (w : World) (A : Around) (s : Shared) (ys : List (K × Addr × Value)) : List (K × Addr × Value) → Prop
  | nil : HitsT prog w A s ys []
  | cons {x : K × Addr × Value} {p : Addr × Value} {r : List (K × Addr × Value)} : atKey ys x.1 = some p → SeqAt.EqP prog w A s x.2.2 p.2 true → HitsT prog w A s ys r → HitsT prog w A s ys (x :: r)
theorem samePairsT {nm : String} {a b : Addr} {xs ys : List (K × Addr × Value)} {Q : Bool → Shared → Prop} (hu : knd.room A) (ha : (a == sysModules) = false) (hb : (b == sysModules) = false)
    (da : s.heap.DictOfH knd a xs) (db : s.heap.DictOfH knd b ys) (len : xs.length = ys.length) (hits : HitsT prog w A s ys xs) (h : Q true s) :
    wpAny (model prog w) A (Builtin.Dict.samePairs nm a b) Q E s := by
  obtain ⟨oa, es, ep, hoa, _, hda, hea, hka, hna⟩ := da
  obtain ⟨ob, es', ep', hob, _, hdb, heb, hkb, hnb⟩ := db
  have hla := size_of_entries hea
  have hlb := size_of_entries heb
  have hsz : es.size = es'.size := by rw [hla, hlb, len]
  unfold Builtin.Dict.samePairs Builtin.Dict.showsAll
  rw [if_neg (show ¬ (a == sysModules) = true by rw [ha]; exact Bool.false_ne_true), if_neg (show ¬ (b == sysModules) = true by rw [hb]; exact Bool.false_ne_true)]
  refine wpAny_bind (wpAny_pure (wpAny_bind (wpAny_pure ?_)))
  refine wpAny_bind (wpAny_dictEntries hoa hda ?_)
  dsimp only
  refine wpAny_bind (wpAny_dictEntries hob hdb ?_)
  rw [if_neg (by rw [hsz]; simp)]
  refine wpAny_bind (wpAny_dictEpoch hoa hda ?_)
  refine wpAny_bind ?_
  rw [Std.Legacy.Range.forIn_eq_forIn_range']
  simp only [Std.Legacy.Range.size, Nat.sub_zero, Nat.add_sub_cancel, Nat.div_one]
  refine wpAny_forIn_list _
    (fun rest q s' => s' = s ∧ q = (none, ()) ∧ ∃ i, rest = List.range' i (es.size - i) ∧ i ≤ es.size ∧ HitsT prog w A s ys (xs.drop i))
    _ ?_ ?_ _ _ ⟨rfl, rfl, 0, by simp, Nat.zero_le _, hits⟩
  · rintro x rest q s' ⟨rfl, rfl, i, hr, hi, hpre⟩
    have hlt : i < es.size := by
      rcases Nat.lt_or_ge i es.size with h | h
      · exact h
      · rw [Nat.sub_eq_zero_of_le h] at hr; simp at hr
    obtain ⟨rfl, hrest⟩ : x = i ∧ rest = List.range' (i + 1) (es.size - (i + 1)) := by
      have e : es.size - i = (es.size - (i + 1)) + 1 := by omega
      rw [e, List.range'_succ] at hr
      injection hr with h1 h2
      exact ⟨h1, h2⟩
    refine wpAny_bind (wpAny_dictEntries hoa hda ?_)
    have hlt' : x < xs.length := by rw [← hla]; exact hlt
    rw [entry_at hea x, List.getElem?_eq_getElem hlt']
    obtain ⟨⟨k, c, v⟩, hkv⟩ : ∃ y, xs[x] = y := ⟨_, rfl⟩
    have hdrop : xs.drop x = (k, c, v) :: xs.drop (x + 1) := by rw [← hkv]; exact List.drop_eq_getElem_cons hlt'
    rw [hkv]
    have hin : (k, c, v) ∈ xs := by rw [← hkv]; exact List.getElem_mem hlt'
    rw [hdrop] at hpre
    cases hpre with
    | cons hat heq hrr =>
      rename_i p
      show wpAny _ _ (holding [Value.ref c, v] _ >>= _) _ _ _
      refine wpAny_bind (wpAny_holding (wpAny_bind (wpAny_dictFind_heap hu (hka _ hin) hob hdb heb hkb hnb (fun no => ?_) fun j p2 hj => ?_)))
      · rw [atKey_none_of_get no] at hat
        cases hat
      · have ep : p = p2 := Option.some.inj (hat.symm.trans (atKey_of_get hnb hj))
        subst ep
        refine wpAny_bind (wpAny_dictEntries hob hdb ?_)
        rw [entry_at heb j, hj]
        refine wpAny_holding (heq _ _ ?_)
        show wpAny _ _ (if (!true) = true then _ else _) _ _ _
        rw [if_neg (by decide)]
        refine wpAny_bind (wpAny_dictEpoch hoa hda ?_)
        rw [if_neg (by simp)]
        exact wpAny_pure ⟨rfl, rfl, x + 1, hrest, hlt, hrr⟩
  · rintro q s' ⟨rfl, rfl, i, hr, hi, hpre⟩
    exact wpAny_pure h
theorem rcP_dictsT {a b : Addr} {xs ys : List (K × Addr × Value)} {op : CmpOp} (hop : op = .Eq ∨ op = .NotEq) (hr : knd.room A.in1) (ha : (a == sysModules) = false) (hb : (b == sysModules) = false)
    (da : s.heap.DictOfH knd a xs) (db : s.heap.DictOfH knd b ys) (hu : A.units < cLine) (len : xs.length = ys.length) (hits : HitsT prog w A.in1 s ys xs) (E Q : Value → Shared → Prop) (h : Q (.bool (op == .Eq)) s) : wpAny (model prog w) A (richCompare op (.ref a) (.ref b)) Q E s := by
  rcases hop with rfl | rfl
  · refine wpAny_richCompare_same_room (op := .Eq) da.typeIs db.typeIs PySem.F.slot_dict_eq (wpAny_call_entry PySem.F.slot_dict_eq da.typeIs PySem.F.entry_dict_eq ?_ (PySem.F.args_dict_eq_2 _ _)) hu
    show wpAny _ _ (Builtin.Dict.dictSlotArgs "__eq__" ⟨[.ref a, .ref b], []⟩ >>= _) _ _ s
    refine wpAny_bind ?_
    unfold Builtin.Dict.dictSlotArgs
    refine wpAny_bind (wpAny_notOrdered_dict da.typeIs ?_)
    show wpAny _ _ (pure (Value.ref a, Value.ref b)) _ _ s
    refine wpAny_pure ?_
    refine wpAny_bind (wpAny_isInstance (T := "dict") db.typeIs PySem.F.sub_dict_dict ?_)
    simp only [Bool.not_true, Bool.false_eq_true, if_false]
    refine wpAny_bind (wpAny_pure (wpAny_bind (wpAny_pure ?_)))
    refine wpAny_bind (samePairsT hr ha hb da db len hits ?_)
    refine wpAny_pure ⟨_, rfl, ?_, ?_⟩
    · exact fun x => nomatch x
    · simpa using h
  · refine wpAny_richCompare_same_room (op := .NotEq) da.typeIs db.typeIs PySem.F.slot_dict_ne (wpAny_call_entry PySem.F.slot_dict_ne da.typeIs PySem.F.entry_dict_ne ?_ (PySem.F.args_dict_ne_2 _ _)) hu
    show wpAny _ _ (Builtin.Dict.dictSlotArgs "__ne__" ⟨[.ref a, .ref b], []⟩ >>= _) _ _ s
    refine wpAny_bind ?_
    unfold Builtin.Dict.dictSlotArgs
    refine wpAny_bind (wpAny_notOrdered_dict da.typeIs ?_)
    show wpAny _ _ (pure (Value.ref a, Value.ref b)) _ _ s
    refine wpAny_pure ?_
    refine wpAny_bind (wpAny_isInstance (T := "dict") db.typeIs PySem.F.sub_dict_dict ?_)
    simp only [Bool.not_true, Bool.false_eq_true, if_false]
    refine wpAny_bind (wpAny_pure (wpAny_bind (wpAny_pure ?_)))
    refine wpAny_bind (samePairsT hr ha hb da db len hits ?_)
    refine wpAny_pure ⟨_, rfl, ?_, ?_⟩
    · exact fun x => nomatch x
    · have e : (CmpOp.NotEq == CmpOp.Eq) = false := by decide
      rw [e] at h
      simpa using h
end
end PySem.W
namespace Ld
open PySem PySem.Spec PyProof.Rows L2
/-- equal values, of nesting below n; tuples and lists as data -/
def EqT (K : PySem.W.Frag) (H : Hp) : Nat → V → V → Prop
  | 0 => fun _ _ => False
  | n + 1 => fun x y => (x = y ∧ flatB x = true) ∨ (∃ a, x = .ref a ∧ y = .ref a) ∨ (∃ d, Dp K H x d ∧ Dp K H y d ∧ SeqAt.shaped d = true) ∨
      (∃ a b ks ls, x = .ref a ∧ y = .ref b ∧ H a = some (.dT ks) ∧ H b = some (.dT ls) ∧ ks.length = ls.length ∧ ∀ p ∈ ks, ∃ u, valV ls p.1 = some u ∧ EqT K H n p.2 u) ∨
      (∃ a b ks ls, x = .ref a ∧ y = .ref b ∧ H a = some (.dK ks) ∧ H b = some (.dK ls) ∧ ks.length = ls.length ∧ ∀ p ∈ ks, ∃ u, valV ls p.1 = some u ∧ EqT K H n p.2 u)
theorem hitsT_run {P : Program} {w : World} {A : Around} {s : Shared} {H : Hp} {F : V → V → Prop} (ih : ∀ x y v u, F x y → RelV x v → RelV y u → SeqAt.EqP P w A s v u true) {ls : List (List Key × V)} {yb : List (List Key × Addr × Value)} (rb : KT H ls yb) {ks : List (List Key × V)} {ya : List (List Key × Addr × Value)}
    (ra : KT H ks ya) : (∀ p ∈ ks, ∃ u, valV ls p.1 = some u ∧ F p.2 u) → PySem.W.HitsT P w A s yb ya := by
  unfold KT at ra
  induction ra with
  | nil => intro _; exact .nil
  | @cons p q ps qs h t k =>
    intro hp
    obtain ⟨h1, _, h2⟩ := h
    obtain ⟨u, e, f⟩ := hp p List.mem_cons_self
    have rr : RelO (some u) ((atKey yb p.1).map (·.2)) := by rw [← e]; exact rb.val p.1
    obtain ⟨y, hy, ry⟩ := rr.some_of
    obtain ⟨p2, hp2, rfl⟩ := Option.map_eq_some_iff.mp hy
    exact .cons (by rw [← h1]; exact hp2) (ih _ _ _ _ f h2 ry) (k fun p' hm => hp p' (List.mem_cons_of_mem _ hm))
section
variable {X : Cx} {pins : List (Addr × Obj)} {σ : L2.St} {H : Hp} {s : Shared}
theorem eqT_dT (I : Inv X pins σ H s) {A : Around} {F : V → V → Prop} {op : CmpOp} (hop : op = .Eq ∨ op = .NotEq) (hu : A.units + 1 < cLine) (ih : ∀ x y v u, F x y → RelV x v → RelV y u → SeqAt.EqP X.prog X.w A.in1 s v u true) {a b : Addr} {ks ls : List (List Key × V)}
    (ha : H a = some (.dT ks)) (hb : H b = some (.dT ls)) (hl : ks.length = ls.length) (hp : ∀ p ∈ ks, ∃ u, valV ls p.1 = some u ∧ F p.2 u)
    (E Q : Value → Shared → Prop) (q : Q (.bool (op == .Eq)) s) : wpAny (model X.prog X.w) A (richCompare op (.ref a) (.ref b)) Q E s := by
  obtain ⟨_, za, xa, ra, da⟩ := dt_of I.hok ha
  obtain ⟨_, zb, xb, rb, db⟩ := dt_of I.hok hb
  exact PySem.W.rcP_dictsT hop (show A.units + 1 < cLine from hu) za zb da db (by omega) (by rw [← Paired.length ra, ← Paired.length rb]; exact hl) (hitsT_run ih rb ra hp) E Q q
theorem eqT_dK (I : Inv X pins σ H s) {A : Around} {F : V → V → Prop} {op : CmpOp} (hop : op = .Eq ∨ op = .NotEq) (hu : A.units + 1 < cLine) (ih : ∀ x y v u, F x y → RelV x v → RelV y u → SeqAt.EqP X.prog X.w A.in1 s v u true) {a b : Addr} {ks ls : List (Key × V)}
    (ha : H a = some (.dK ks)) (hb : H b = some (.dK ls)) (hl : ks.length = ls.length) (hp : ∀ p ∈ ks, ∃ u, valV ls p.1 = some u ∧ F p.2 u)
    (E Q : Value → Shared → Prop) (q : Q (.bool (op == .Eq)) s) : wpAny (model X.prog X.w) A (richCompare op (.ref a) (.ref b)) Q E s := by
  obtain ⟨_, ya, va, ra, da⟩ := (show ObjOk X.prog X.w H s.heap a (.dK ks) from I.hok a _ ha)
  obtain ⟨_, yb, vb, rb, db⟩ := (show ObjOk X.prog X.w H s.heap b (.dK ls) from I.hok b _ hb)
  have hl2 : va.length = vb.length := by rw [← ra.length, ← rb.length]; exact hl
  rcases hop with rfl | rfl
  · refine PySem.W.rcP_dicts (knd := mixKind X.prog X.w) (r := true) ya yb da db (by omega) (fun _ => hits_run ih rb ra hp) E Q ?_
    rw [show (va.length == vb.length && true) = true from by rw [hl2]; simp]
    exact q
  · refine PySem.W.rcP_dictsNe (knd := mixKind X.prog X.w) (r := true) ya yb da db (by omega) (fun _ => hits_run ih rb ra hp) ?_
    rw [show (!(va.length == vb.length && true)) = false from by rw [hl2]; simp]
    exact q
theorem eqT_run (I : Inv X pins σ H s) : ∀ (n : Nat) (A : Around), A.units + n + 65 < cLine → ∀ (x y : V) (v u : Value), EqT X.K H n x y → RelV x v → RelV y u → SeqAt.EqP X.prog X.w A s v u true
  | 0, _, _, _, _, _, _, h, _, _ => (show False from h).elim
  | n + 1, A, hu, x, y, v, u, h, rx, ry => by
    have nx := eqT_run I n A.in1 (by show A.units + 1 + n + 65 < cLine; omega)
    rcases h with ⟨rfl, f⟩ | ⟨a, rfl, rfl⟩ | ⟨d, hx, hy, sh⟩ | ⟨a, b, ks, ls, rfl, rfl, ha, hb, hl, hp⟩ | ⟨a, b, ks, ls, rfl, rfl, ha, hb, hl, hp⟩
    · exact (eqAt_same rx ry f).eqP
    · cases (show v = Value.ref a from rx)
      cases (show u = Value.ref a from ry)
      exact (SeqAt.EqAt.same _).eqP
    · obtain ⟨as, r1⟩ := Dp.reads I d x v hx rx
      obtain ⟨bs, r2⟩ := Dp.reads I d y u hy ry
      have e := SeqAt.eqAt_reads d d A s v u as bs r1 r2 (SeqAt.canLay_of_shaped sh) (SeqAt.canLay_of_shaped sh) (SeqAt.room_of_shaped sh (by omega))
      rw [SeqAt.eqv_refl d (SeqAt.canLay_of_shaped sh)] at e
      exact e.eqP
    · cases (show v = Value.ref a from rx)
      cases (show u = Value.ref b from ry)
      by_cases e : a = b
      · subst e
        exact (SeqAt.EqAt.same _).eqP
      · exact SeqAt.eqP_refs e fun E Q q => eqT_dT I (.inl rfl) (by omega) nx ha hb hl hp E Q q
    · cases (show v = Value.ref a from rx)
      cases (show u = Value.ref b from ry)
      by_cases e : a = b
      · subst e
        exact (SeqAt.EqAt.same _).eqP
      · exact SeqAt.eqP_refs e fun E Q q => eqT_dK I (.inl rfl) (by omega) nx ha hb hl hp E Q q
end
/-- a == b and a != b of two dicts that are equal -/
def rEqT (K : PySem.W.Frag) (ne : Bool) : R2 := fun x y H Q => ∃ n, n ≤ 40 ∧ ((∃ a b ks ls, x = .ref a ∧ y = .ref b ∧ H a = some (.dT ks) ∧ H b = some (.dT ls) ∧ ks.length = ls.length ∧ ∀ p ∈ ks, ∃ u, valV ls p.1 = some u ∧ EqT K H n p.2 u) ∨
  (∃ a b ks ls, x = .ref a ∧ y = .ref b ∧ H a = some (.dK ks) ∧ H b = some (.dK ls) ∧ ks.length = ls.length ∧ ∀ p ∈ ks, ∃ u, valV ls p.1 = some u ∧ EqT K H n p.2 u)) ∧ Q (.bl (!ne)) H
theorem op_eqT {X : Cx} (hu : X.A.units + 120 < cLine) : OpR X (compareOp .Eq) (rEqT X.K false) := by
  intro pins s σ H x y v u Q I rx ry h
  obtain ⟨n, hn, h, q⟩ := h
  have nx := eqT_run I n X.A.in1 (by show X.A.units + 1 + n + 65 < cLine; omega)
  rcases h with ⟨a, b, ks, ls, rfl, rfl, ha, hb, hl, hp⟩ | ⟨a, b, ks, ls, rfl, rfl, ha, hb, hl, hp⟩
  · cases (show v = Value.ref a from rx)
    cases (show u = Value.ref b from ry)
    exact eqT_dT I (.inl rfl) (by omega) nx ha hb hl hp _ _ ⟨.bl true, H, I, rfl, q⟩
  · cases (show v = Value.ref a from rx)
    cases (show u = Value.ref b from ry)
    exact eqT_dK I (.inl rfl) (by omega) nx ha hb hl hp _ _ ⟨.bl true, H, I, rfl, q⟩
theorem op_neT {X : Cx} (hu : X.A.units + 120 < cLine) : OpR X (compareOp .NotEq) (rEqT X.K true) := by
  intro pins s σ H x y v u Q I rx ry h
  obtain ⟨n, hn, h, q⟩ := h
  have nx := eqT_run I n X.A.in1 (by show X.A.units + 1 + n + 65 < cLine; omega)
  rcases h with ⟨a, b, ks, ls, rfl, rfl, ha, hb, hl, hp⟩ | ⟨a, b, ks, ls, rfl, rfl, ha, hb, hl, hp⟩
  · cases (show v = Value.ref a from rx)
    cases (show u = Value.ref b from ry)
    exact eqT_dT I (.inr rfl) (by omega) nx ha hb hl hp _ _ ⟨.bl false, H, I, rfl, q⟩
  · cases (show v = Value.ref a from rx)
    cases (show u = Value.ref b from ry)
    exact eqT_dK I (.inr rfl) (by omega) nx ha hb hl hp _ _ ⟨.bl false, H, I, rfl, q⟩
end Ld

set_option Elab.async false
set_option linter.all false
set_option maxRecDepth 100000
set_option maxHeartbeats 4000000
/-! repr of data with dicts in it; a dict's keys may be tuples. -/
namespace Lr
open PySem PyProof.Rows
mutual
/-- v is the data d in h; no dict in it is the one of the modules -/
inductive RdS (h : Heap) : Value → PyData → Prop
  | plain {v : Value} {d : PyData} {as : List Addr} : Reads h v d as → d.hasDict = false → RdS h v d
  | list {a : Addr} {o : Obj} {vs : Array Value} {n : Nat} {xs : List PyData} : h.get? a = some o → o.cls = .type "list" → o.data = .seq vs n → RdSAll h vs.toList xs → RdS h (.ref a) (.list xs)
  | tuple {a : Addr} {o : Obj} {vs : Array Value} {n : Nat} {xs : List PyData} : h.get? a = some o → o.cls = .type "tuple" → o.data = .seq vs n → RdSAll h vs.toList xs → RdS h (.ref a) (.tuple xs)
  | dict {a : Addr} {o : Obj} {es : Array DictEntry} {n : Nat} {kvs : List (PyData × PyData)} : h.get? a = some o → o.cls = .type "dict" → o.data = .dict es n → (a == sysModules) = false →
      RdSAll h (es.toList.map (·.key)) (kvs.map (·.1)) → RdSAll h (es.toList.map (·.val)) (kvs.map (·.2)) → RdS h (.ref a) (.dict kvs)
inductive RdSAll (h : Heap) : List Value → List PyData → Prop
  | nil : RdSAll h [] []
  | cons {v : Value} {vs : List Value} {d : PyData} {ds : List PyData} : RdS h v d → RdSAll h vs ds → RdSAll h (v :: vs) (d :: ds)
end
mutual
theorem RdS.reads {h : Heap} : ∀ {v : Value} {d : PyData}, RdS h v d → ∃ as, Reads h v d as
  | _, _, .plain r _ => ⟨_, r⟩
  | _, _, .list h1 h2 h3 k => let ⟨_, r⟩ := RdSAll.reads k; ⟨_, .list h1 h2 h3 r⟩
  | _, _, .tuple h1 h2 h3 k => let ⟨_, r⟩ := RdSAll.reads k; ⟨_, .tuple h1 h2 h3 r⟩
  | _, _, .dict h1 h2 h3 _ k1 k2 => let ⟨_, r1⟩ := RdSAll.reads k1; let ⟨_, r2⟩ := RdSAll.reads k2; ⟨_, .dict h1 h2 h3 r1 r2⟩
theorem RdSAll.reads {h : Heap} : ∀ {vs : List Value} {ds : List PyData}, RdSAll h vs ds → ∃ as, ReadsAll h vs ds as
  | _, _, .nil => ⟨_, .nil⟩
  | _, _, .cons k r => let ⟨_, r1⟩ := RdS.reads k; let ⟨_, r2⟩ := RdSAll.reads r; ⟨_, .cons r1 r2⟩
end
section
variable {prog : Program} {w : World} {h₀ : Heap}
mutual
theorem RdS.shows : ∀ {v : Value} {d : PyData}, RdS h₀ v d → d.showable = true → d.shown.length ≤ sizeLine → ∃ bs, ReadAtMost h₀ d.depth bs ∧ ReprK prog w bs h₀ d.depth v d.shown
  | _, _, .plain r nd, sh, sz => ReprK.of_reads r sh (PyData.noDict_hsm nd) sz
  | _, _, .list (a := a) (vs := vs) (xs := xs) h1 h2 h3 k, sh, sz => by
    have sz2 : (listText (PyData.shownAll xs)).length ≤ sizeLine := by simpa only [PyData.shown] using sz
    obtain ⟨bs, b1, b2⟩ := RdSAll.shows k (by simpa [PyData.showable] using sh) fun t m => Nat.le_trans (listText_mem_le m) sz2
    obtain ⟨as, r0⟩ := RdSAll.reads k
    have r : Reads h₀ (.ref a) (.list xs) _ := .list h1 h2 h3 r0
    have deep : PyData.depthAll xs < (PyData.list xs).depth := by simp only [PyData.depth]; omega
    have out := not_mem_of_deeper r deep b1
    refine ⟨a :: bs, ReadAtMost.cons r (Nat.le_of_lt deep) b1, ?_⟩
    simp only [PyData.depth, PyData.shown]
    obtain ⟨l⟩ := vs
    cases l with
    | nil =>
      cases (show RdSAll h₀ [] xs from k)
      simp only [PyData.shownAll, listText_nil]
      exact ReprK.listEmpty h1 h2 h3
    | cons x l => exact ReprK.list h1 h2 h3 out (by simpa using b2.length_eq) fun i y e => b2.item i y (by simpa using e)
  | _, _, .tuple (a := a) (xs := xs) h1 h2 h3 k, sh, sz => by
    have sz2 : (tupleText (PyData.shownAll xs)).length ≤ sizeLine := by simpa only [PyData.shown] using sz
    obtain ⟨bs, b1, b2⟩ := RdSAll.shows k (by simpa [PyData.showable] using sh) fun t m => Nat.le_trans (tupleText_mem_le m) sz2
    obtain ⟨as, r0⟩ := RdSAll.reads k
    have r : Reads h₀ (.ref a) (.tuple xs) _ := .tuple h1 h2 h3 r0
    have deep : PyData.depthAll xs < (PyData.tuple xs).depth := by simp only [PyData.depth]; omega
    refine ⟨a :: bs, ReadAtMost.cons r (Nat.le_of_lt deep) b1, ?_⟩
    simp only [PyData.depth, PyData.shown]
    exact ReprK.tuple h1 h2 h3 (not_mem_of_deeper r deep b1) b2
  | _, _, .dict (a := a) (es := es) (kvs := kvs) h1 h2 h3 nsys k1 k2, sh, sz => by
    have sz2 : (dictText (PyData.shownKv kvs)).length ≤ sizeLine := by simpa only [PyData.shown] using sz
    obtain ⟨s1, s2⟩ := PyData.showableKv_split kvs (by simpa [PyData.showable] using sh)
    obtain ⟨bs, b1, b2⟩ := RdSAll.shows k1 s1 fun t m => let ⟨p, hp, hl⟩ := PyData.shownKv_key_le kvs t m; Nat.le_trans hl (Nat.le_trans (dictText_mem_le hp) sz2)
    obtain ⟨cs, c1, c2⟩ := RdSAll.shows k2 s2 fun t m => let ⟨p, hp, hl⟩ := PyData.shownKv_val_le kvs t m; Nat.le_trans hl (Nat.le_trans (dictText_mem_le hp) sz2)
    obtain ⟨as, r0⟩ := RdSAll.reads k1
    obtain ⟨as2, r1⟩ := RdSAll.reads k2
    have r : Reads h₀ (.ref a) (.dict kvs) _ := .dict h1 h2 h3 r0 r1
    have all : ReadAtMost h₀ (PyData.depthKv kvs) (bs ++ cs) := (b1.mono (PyData.depthAll_keys_le kvs)).append (c1.mono (PyData.depthAll_vals_le kvs))
    have deep : PyData.depthKv kvs < (PyData.dict kvs).depth := by simp only [PyData.depth]; omega
    refine ⟨a :: (bs ++ cs), ReadAtMost.cons r (Nat.le_of_lt deep) all, ?_⟩
    simp only [PyData.depth, PyData.shown, PyData.shownKv_eq]
    exact ReprK.dict h1 h2 h3 nsys (not_mem_of_deeper r deep all) (ReprEntriesK.of_two es.toList _ _
      (b2.more_le (fun b m => List.mem_append_left _ m) (PyData.depthAll_keys_le kvs)) (c2.more_le (fun b m => List.mem_append_right _ m) (PyData.depthAll_vals_le kvs)))
theorem RdSAll.shows : ∀ {vs : List Value} {ds : List PyData}, RdSAll h₀ vs ds → PyData.showableAll ds = true → (∀ t ∈ PyData.shownAll ds, t.length ≤ sizeLine) → ∃ bs, ReadAtMost h₀ (PyData.depthAll ds) bs ∧ ReprAllK prog w bs h₀ (PyData.depthAll ds) vs (PyData.shownAll ds)
  | _, _, .nil, _, _ => ⟨[], (fun _ m => nomatch m), by simp only [PyData.shownAll]; exact .nil⟩
  | _, _, .cons (d := d) (ds := ds) k r, sh, sz => by
    have sh2 : d.showable = true ∧ PyData.showableAll ds = true := by simpa [PyData.showableAll] using sh
    obtain ⟨bs, b1, b2⟩ := RdS.shows k sh2.1 (sz _ (by simp only [PyData.shownAll]; exact List.mem_cons_self ..))
    obtain ⟨cs, c1, c2⟩ := RdSAll.shows r sh2.2 fun t m => sz t (by simp only [PyData.shownAll]; exact List.mem_cons_of_mem _ m)
    have u1 : d.depth ≤ PyData.depthAll (d :: ds) := by simp only [PyData.depthAll]; omega
    have u2 : PyData.depthAll ds ≤ PyData.depthAll (d :: ds) := by simp only [PyData.depthAll]; omega
    refine ⟨bs ++ cs, (b1.mono u1).append (c1.mono u2), ?_⟩
    simp only [PyData.shownAll]
    exact .cons ((b2.more fun b m => List.mem_append_left _ m).level_le u1) (c2.more_le (fun b m => List.mem_append_right _ m) u2)
end
/-- repr of a tuple or a dict, where nothing is being shown -/
theorem repr_rdS {a : Addr} {d : PyData} {A : Around} {E : Value → Shared → Prop} {s : Shared} {Q : Value → Shared → Prop} (r : RdS s.heap (.ref a) d) (hd : d.hasDict = true) (sh : d.showable = true) (sz : d.shown.length ≤ sizeLine) (hg : A.guards = some []) (hu : A.units + (d.depth + 1) < cLine)
    (hQ : ∀ h' u tk, (∀ b o, s.heap.get? b = some o → h'.get? b = some o) → Q (.str d.shown u) { s with heap := h', toks := tk }) : wpAny (model prog w) A (call (.builtin "repr") [.ref a]) Q E s := by
  cases r with
  | plain r nd =>
    rw [nd] at hd
    cases hd
  | list h1 h2 h3 k =>
    rename_i o vs n xs
    have sz2 : (listText (PyData.shownAll xs)).length ≤ sizeLine := by simpa only [PyData.shown] using sz
    obtain ⟨bs, b1, b2⟩ := RdSAll.shows (prog := prog) (w := w) k (by simpa [PyData.showable] using sh) fun t m => Nat.le_trans (listText_mem_le m) sz2
    obtain ⟨as, r0⟩ := RdSAll.reads k
    have deep : PyData.depthAll xs < (PyData.list xs).depth := by simp only [PyData.depth]; omega
    have out := not_mem_of_deeper (.list h1 h2 h3 r0) deep b1
    simp only [PyData.depth] at hu
    simp only [PyData.shown] at hQ
    obtain ⟨l⟩ := vs
    cases l with
    | nil =>
      cases (show RdSAll s.heap [] xs from k)
      exact absurd hd (by decide)
    | cons x l =>
      exact call_repr_slot (by omega) ⟨o, h1, h2⟩ F.slot_list_repr.toG (call_list_reprK h1 h2 h3 out (by simpa using b2.length_eq) (fun i y e => b2.item i y (by simpa using e)) (A := A.in1) hg (fun b _ => Clear.nil b) (by show A.units + 1 + _ < cLine; omega) (fun _ _ e => e) (fun h' u tk up => ⟨_, _, rfl, hQ h' u tk up⟩) sz2)
  | tuple h1 h2 h3 k =>
    rename_i o vs n xs
    have sz2 : (tupleText (PyData.shownAll xs)).length ≤ sizeLine := by simpa only [PyData.shown] using sz
    obtain ⟨bs, b1, b2⟩ := RdSAll.shows (prog := prog) (w := w) k (by simpa [PyData.showable] using sh) fun t m => Nat.le_trans (tupleText_mem_le m) sz2
    obtain ⟨as, r0⟩ := RdSAll.reads k
    have deep : PyData.depthAll xs < (PyData.tuple xs).depth := by simp only [PyData.depth]; omega
    simp only [PyData.depth] at hu
    simp only [PyData.shown] at hQ
    exact call_repr_slot (by omega) ⟨o, h1, h2⟩ F.slot_tuple_repr (call_tuple_reprK h1 h2 h3 (not_mem_of_deeper (.tuple h1 h2 h3 r0) deep b1) b2 (A := A.in1) hg (fun b _ => Clear.nil b) (by show A.units + 1 + _ < cLine; omega) (fun _ _ e => e) (fun h' u tk up => ⟨_, _, rfl, hQ h' u tk up⟩) sz2)
  | dict h1 h2 h3 nsys k1 k2 =>
    rename_i o es n kvs
    have sz2 : (dictText (PyData.shownKv kvs)).length ≤ sizeLine := by simpa only [PyData.shown] using sz
    obtain ⟨s1, s2⟩ := PyData.showableKv_split kvs (by simpa [PyData.showable] using sh)
    obtain ⟨bs, b1, b2⟩ := RdSAll.shows (prog := prog) (w := w) k1 s1 fun t m => let ⟨p, hp, hl⟩ := PyData.shownKv_key_le kvs t m; Nat.le_trans hl (Nat.le_trans (dictText_mem_le hp) sz2)
    obtain ⟨cs, c1, c2⟩ := RdSAll.shows (prog := prog) (w := w) k2 s2 fun t m => let ⟨p, hp, hl⟩ := PyData.shownKv_val_le kvs t m; Nat.le_trans hl (Nat.le_trans (dictText_mem_le hp) sz2)
    obtain ⟨as, r0⟩ := RdSAll.reads k1
    obtain ⟨as2, r1⟩ := RdSAll.reads k2
    have all : ReadAtMost s.heap (PyData.depthKv kvs) (bs ++ cs) := (b1.mono (PyData.depthAll_keys_le kvs)).append (c1.mono (PyData.depthAll_vals_le kvs))
    have deep : PyData.depthKv kvs < (PyData.dict kvs).depth := by simp only [PyData.depth]; omega
    simp only [PyData.depth] at hu
    simp only [PyData.shown, PyData.shownKv_eq] at hQ
    exact call_repr_slot (by omega) ⟨o, h1, h2⟩ F.slot_dict_repr (call_dict_reprK h1 h2 h3 nsys (not_mem_of_deeper (.dict h1 h2 h3 r0 r1) deep all) (ReprEntriesK.of_two es.toList _ _
      (b2.more_le (fun b m => List.mem_append_left _ m) (PyData.depthAll_keys_le kvs)) (c2.more_le (fun b m => List.mem_append_right _ m) (PyData.depthAll_vals_le kvs))) (A := A.in1) hg (fun b _ => Clear.nil b) (by show A.units + 1 + _ < cLine; omega) (fun _ _ e => e) (fun h' u tk up => ⟨_, _, rfl, hQ h' u tk up⟩) (by rw [← PyData.shownKv_eq]; exact sz2))
end
end Lr
namespace Lr
open PySem PySem.Spec PyProof.Rows L2
/-- the data of a dict's key -/
def keyD : Key → PyData
  | .inl n => .int n
  | .inr s => .str s
mutual
/-- v is the data d, dicts among it -/
inductive Dq (K : PySem.W.Frag) (H : Hp) : V → PyData → Prop
  | dp {v : V} {d : PyData} : Dp K H v d → Dq K H v d
  | lst {a : Addr} {xs : List V} {ds : List PyData} : SqL K H a xs → DqAll K H xs ds → Dq K H (.ref a) (.list ds)
  | tup {a : Addr} {xs : List V} {ds : List PyData} : SqT K H a xs → DqAll K H xs ds → Dq K H (.ref a) (.tuple ds)
  | dT {a : Addr} {kvs : List (List Key × V)} {ds : List (PyData × PyData)} : H a = some (.dT kvs) → DqT K H kvs ds → Dq K H (.ref a) (.dict ds)
inductive DqAll (K : PySem.W.Frag) (H : Hp) : List V → List PyData → Prop
  | nil : DqAll K H [] []
  | cons {v : V} {vs : List V} {d : PyData} {ds : List PyData} : Dq K H v d → DqAll K H vs ds → DqAll K H (v :: vs) (d :: ds)
inductive DqT (K : PySem.W.Frag) (H : Hp) : List (List Key × V) → List (PyData × PyData) → Prop
  | nil : DqT K H [] []
  | cons {k : List Key} {v : V} {kvs : List (List Key × V)} {d : PyData} {ds : List (PyData × PyData)} : Dq K H v d → DqT K H kvs ds → DqT K H ((k, v) :: kvs) ((.tuple (k.map keyD), d) :: ds)
end
mutual
theorem dp_noDict {K : PySem.W.Frag} {H : Hp} : ∀ (d : PyData) (v : V), Dp K H v d → d.hasDict = false
  | .none, _, _ => rfl
  | .bool _, _, _ => rfl
  | .int _, _, _ => rfl
  | .str _, _, _ => rfl
  | .list ds, _, h => by
    cases h with
    | lst _ h2 => simpa [PyData.hasDict] using dps_noDict ds _ h2
  | .tuple ds, _, h => by
    cases h with
    | tup _ h2 => simpa [PyData.hasDict] using dps_noDict ds _ h2
  | .dict _, _, h => by cases h
theorem dps_noDict {K : PySem.W.Frag} {H : Hp} : ∀ (ds : List PyData) (vs : List V), DpAll K H vs ds → PyData.hasDictAll ds = false
  | [], _, _ => rfl
  | d :: ds, _, h => by
    cases h with
    | cons h1 h2 => simp [PyData.hasDictAll, dp_noDict d _ h1, dps_noDict ds _ h2]
end
theorem dp_keys {K : PySem.W.Frag} {H : Hp} : ∀ k : List Key, DpAll K H (k.map kV) (k.map keyD)
  | [] => .nil
  | .inl n :: k => .cons (.int n) (dp_keys k)
  | .inr s :: k => .cons (.str s) (dp_keys k)
section
variable {X : Cx} {pins : List (Addr × Obj)} {σ : L2.St} {H : Hp} {s : Shared}
theorem dp_rdS (I : Inv X pins σ H s) {v : V} {d : PyData} {u : Value} (h : Dp X.K H v d) (r : RelV v u) : RdS s.heap u d :=
  let ⟨_, z⟩ := Dp.reads I d v u h r
  .plain z (dp_noDict d v h)
mutual
theorem Dq.rdS (I : Inv X pins σ H s) : ∀ {v : V} {d : PyData} {u : Value}, Dq X.K H v d → RelV v u → RdS s.heap u d
  | _, _, _, .dp h, r => dp_rdS I h r
  | _, _, _, .lst hs ha, r => by
    cases r
    obtain ⟨its, rv, ⟨o, n, ho, hc, _, hd⟩, _⟩ := I.list hs
    exact .list ho hc hd (DqAll.rdS I ha rv)
  | _, _, _, .tup hs ha, r => by
    cases r
    obtain ⟨its, rv, ⟨o, ho, hc, n, hd⟩, _⟩ := I.tuple hs
    exact .tuple ho hc hd (DqAll.rdS I ha rv)
  | _, _, _, .dT hs ha, r => by
    cases r
    obtain ⟨_, y, xs, kt, o, es, ep, h1, h2, h3, h4, _⟩ := dt_of I.hok hs
    obtain ⟨k1, k2⟩ := DqT.rdS I ha kt
    refine .dict h1 h2.1 h3 y ?_ ?_
    · rw [h4, List.map_map]
      exact k1
    · rw [h4, List.map_map]
      exact k2
theorem DqAll.rdS (I : Inv X pins σ H s) : ∀ {vs : List V} {ds : List PyData} {us : List Value}, DqAll X.K H vs ds → Vals vs us → RdSAll s.heap us ds
  | _, _, _, .nil, r => by
    cases r
    exact .nil
  | _, _, _, .cons h t, r => by
    cases r with
    | cons r1 r2 => exact .cons (Dq.rdS I h r1) (DqAll.rdS I t r2)
theorem DqT.rdS (I : Inv X pins σ H s) : ∀ {kvs : List (List Key × V)} {ds : List (PyData × PyData)} {xs : List (List Key × Addr × Value)}, DqT X.K H kvs ds → KT H kvs xs →
    RdSAll s.heap (xs.map fun x => Value.ref x.2.1) (ds.map (·.1)) ∧ RdSAll s.heap (xs.map fun x => x.2.2) (ds.map (·.2))
  | _, _, _, .nil, r => by
    cases r
    exact ⟨.nil, .nil⟩
  | _, _, _, .cons (k := k) h t, r => by
    cases r with
    | cons r1 r2 =>
      obtain ⟨_, e, rv⟩ := r1
      obtain ⟨z1, z2⟩ := DqT.rdS I t r2
      exact ⟨.cons (dp_rdS I (.tup (SqT.of e) (dp_keys k)) rfl) z1, .cons (Dq.rdS I h rv) z2⟩
end
end
/-- repr of a tuple or a list or a dict, with dicts in it -/
def rReprQ (K : PySem.W.Frag) : List V → Hp → VK → Prop := fun xs H Q => ∃ (a : Addr) (d : PyData), xs = [.ref a] ∧ Dq K H (.ref a) d ∧ d.hasDict = true ∧ d.showable = true ∧ d.depth ≤ 60 ∧ d.shown.length ≤ sizeLine ∧ Q (.str d.shown) H
theorem call_reprQ {X : Cx} (hg : X.A.guards = some []) (hu : X.A.units + 66 < cLine) : CallR X (.builtin "repr") (rReprQ X.K) := by
  intro pins s σ H xs us Q I r h
  obtain ⟨a, d, rfl, hd, has, show_, dep, sz, q⟩ := h
  obtain ⟨u, rfl, rx⟩ := vals1 r
  obtain rfl : u = Value.ref a := rx
  exact repr_rdS (Dq.rdS I hd rfl) has show_ sz hg (by omega) fun h2 v tk up => ⟨.str _, H, I.kept up, ⟨v, rfl⟩, q⟩
/-! ### how long shown data is -/
mutual
/-- a bound of the length of what is shown -/
def wt : PyData → Nat
  | .none => 4
  | .bool _ => 5
  | .int i => (toString i : Str).length
  | .str s => (PySem.reprText s).length
  | .list xs => wtAll xs + 4
  | .tuple xs => wtAll xs + 4
  | .dict kvs => wtKv kvs + 4
def wtAll : List PyData → Nat
  | [] => 0
  | x :: xs => wt x + 2 + wtAll xs
def wtKv : List (PyData × PyData) → Nat
  | [] => 0
  | (k, v) :: r => wt k + wt v + 4 + wtKv r
end
theorem listText_piled (ts : List Str) : (listText ts).length ≤ piled ts + 4 := by
  have : ∀ (ts : List Str) (k : Nat) (acc : Str), (textFrom k acc ts).length ≤ acc.length + piled ts := by
    intro ts
    induction ts with
    | nil =>
      intro k acc
      rw [textFrom, piled_nil]
      exact Nat.le_refl _
    | cons t ts ih =>
      intro k acc
      have h1 := ih (k + 1) (acc ++ (if k > 0 then ", " else "" : String) ++ t)
      have h2 : (acc ++ (if k > 0 then ", " else "" : String) ++ t).length ≤ acc.length + 2 + t.length := by
        rw [strLen_append, strLen_append]
        have : ((if k > 0 then ", " else "" : String) : Str).length ≤ 2 := by
          split
          · exact Nat.le_refl 2
          · exact Nat.zero_le 2
        omega
      rw [textFrom, piled_cons]
      omega
  have h := this ts 0 "["
  have e1 : (("[" : String) : Str).length = 1 := rfl
  have e2 : (("]" : String) : Str).length = 1 := rfl
  unfold listText
  rw [strLen_append]
  omega
theorem joined_piled (ts : List Str) : (Str.join ", " ts).length ≤ piled ts := by
  by_cases h : ts = []
  · subst h
    exact Nat.zero_le _
  · have := join_length_add ts h
    omega
theorem tupleText_piled (ts : List Str) : (tupleText ts).length ≤ piled ts + 4 := by
  have h := joined_piled ts
  have e1 : (("(" : String) : Str).length = 1 := rfl
  have e2 : ((if ts.length == 1 then ",)" else ")" : String) : Str).length ≤ 2 := by
    split
    · exact Nat.le_refl 2
    · exact Nat.le_succ 1
  unfold tupleText
  rw [strLen_append, strLen_append]
  omega
theorem dictText_piled (ts : List Str) : (dictText ts).length ≤ piled ts + 4 := by
  have h := joined_piled ts
  have e1 : (("{" : String) : Str).length = 1 := rfl
  have e2 : (("}" : String) : Str).length = 1 := rfl
  unfold dictText
  rw [strLen_append, strLen_append]
  omega
mutual
theorem shown_wt : ∀ d : PyData, d.shown.length ≤ wt d
  | .none => by
    rw [PyData.shown, wt]
    exact Nat.le_refl _
  | .bool b => by
    rw [PyData.shown, wt]
    cases b
    · exact Nat.le_refl _
    · exact Nat.le_succ _
  | .int i => by
    rw [PyData.shown, wt]
    exact Nat.le_refl _
  | .str s => by
    rw [PyData.shown, wt]
    exact Nat.le_refl _
  | .list xs => by
    rw [PyData.shown, wt]
    have := listText_piled (PyData.shownAll xs)
    have := shownAll_wt xs
    omega
  | .tuple xs => by
    rw [PyData.shown, wt]
    have := tupleText_piled (PyData.shownAll xs)
    have := shownAll_wt xs
    omega
  | .dict kvs => by
    rw [PyData.shown, wt]
    have := dictText_piled (PyData.shownKv kvs)
    have := shownKv_wt kvs
    omega
theorem shownAll_wt : ∀ ds : List PyData, piled (PyData.shownAll ds) ≤ wtAll ds
  | [] => by
    rw [PyData.shownAll, wtAll, piled_nil]
    exact Nat.le_refl _
  | d :: ds => by
    rw [PyData.shownAll, wtAll, piled_cons]
    have := shown_wt d
    have := shownAll_wt ds
    omega
theorem shownKv_wt : ∀ ds : List (PyData × PyData), piled (PyData.shownKv ds) ≤ wtKv ds
  | [] => by
    rw [PyData.shownKv, wtKv, piled_nil]
    exact Nat.le_refl _
  | (k, v) :: ds => by
    rw [PyData.shownKv, wtKv, piled_cons]
    have := shown_wt k
    have := shown_wt v
    have := shownKv_wt ds
    have e : ((": " : String) : Str).length = 2 := rfl
    rw [strLen_append, strLen_append]
    omega
end
theorem wtAll_up {B : Nat} : ∀ {ds : List PyData}, (∀ d ∈ ds, wt d ≤ B) → wtAll ds ≤ (B + 2) * ds.length
  | [], _ => by
    rw [wtAll]
    exact Nat.zero_le _
  | d :: ds, h => by
    rw [wtAll, List.length_cons, Nat.mul_succ]
    have := h d List.mem_cons_self
    have := wtAll_up (ds := ds) fun x m => h x (List.mem_cons_of_mem _ m)
    omega
theorem wtKv_up {B : Nat} : ∀ {ds : List (PyData × PyData)}, (∀ d ∈ ds, wt d.1 + wt d.2 ≤ B) → wtKv ds ≤ (B + 4) * ds.length
  | [], _ => by
    rw [wtKv]
    exact Nat.zero_le _
  | (k, v) :: ds, h => by
    rw [wtKv, List.length_cons, Nat.mul_succ]
    have h1 : wt k + wt v ≤ B := h (k, v) List.mem_cons_self
    have := wtKv_up (ds := ds) fun x m => h x (List.mem_cons_of_mem _ m)
    omega
end Lr

set_option Elab.async false
set_option linter.all false
set_option maxRecDepth 100000
set_option maxHeartbeats 4000000
namespace Ld
open PySem PySem.Spec PyProof.Rows L2 Lg Lr
def topS (i : Nat) : Stmt := PySem.Challenge.pw_leastmend_k21_told_mendings.main.body.getD i (.Pass ⟨0, 0, 0, 0⟩)
abbrev s_names_of : Stmt := topS 1
abbrev s_added : Stmt := topS 3
abbrev s_put_price : Stmt := topS 5
abbrev s_out_price : Stmt := topS 6
abbrev s_change_price : Stmt := topS 7
abbrev s_leaf_price : Stmt := topS 8
abbrev s_whole_cost : Stmt := topS 10
abbrev s_best_tree : Stmt := topS 12
abbrev s__first_rule : Stmt := topS 13
abbrev s__first_ends : Stmt := topS 14
abbrev s__split_cost : Stmt := topS 15
abbrev s__symbol_cost : Stmt := topS 16
abbrev s_told_mending : Stmt := topS 17
abbrev s_nodes_of : Stmt := topS 19
abbrev s_leaves_of : Stmt := topS 20
abbrev s_mends : Stmt := topS 22
abbrev s__mends_of_leaf : Stmt := topS 23
abbrev s__is_kept : Stmt := topS 24
abbrev s_mends_price : Stmt := topS 25
abbrev s__mend_price : Stmt := topS 26
abbrev s__law_draws : Stmt := topS 28
abbrev sDraws : Stmt := topS 28
abbrev s__law_at : Stmt := topS 29
abbrev sAt : Stmt := topS 29
abbrev s__law_is_integer : Stmt := topS 30
abbrev sLInt : Stmt := topS 30
abbrev s__law_grammar : Stmt := topS 31
abbrev sGram : Stmt := topS 31
abbrev s__law_prices : Stmt := topS 32
abbrev sPrices : Stmt := topS 32
abbrev s__law_row : Stmt := topS 33
abbrev sRow : Stmt := topS 33
abbrev s__law_put : Stmt := topS 34
abbrev sLPut : Stmt := topS 34
abbrev s__law_out : Stmt := topS 35
abbrev sLOut : Stmt := topS 35
abbrev s__law_change : Stmt := topS 36
abbrev sLChg : Stmt := topS 36
abbrev s__law_leaf : Stmt := topS 37
abbrev sLLeaf : Stmt := topS 37
abbrev s__law_is_name : Stmt := topS 38
abbrev sLIsName : Stmt := topS 38
abbrev s__law_least : Stmt := topS 39
abbrev sLeast : Stmt := topS 39
abbrev s__law_start : Stmt := topS 40
abbrev sStart : Stmt := topS 40
abbrev s__law_round : Stmt := topS 41
abbrev sRound : Stmt := topS 41
abbrev s__law_table : Stmt := topS 42
abbrev sTable : Stmt := topS 42
abbrev s__law_first : Stmt := topS 43
abbrev s__law_parts : Stmt := topS 44
abbrev s__law_leaves : Stmt := topS 45
abbrev s__law_size : Stmt := topS 46
abbrev s__law_tree_cost : Stmt := topS 47
abbrev s_law : Stmt := topS 48
abbrev sLaw : Stmt := topS 48
section
variable {P : Program} {w : World} {K : PySem.W.Frag} {mg : Str → Option Value} {base : Heap}
/-! ### the law's own draws -/
theorem scDr : FnScope ["script", "draws", "k", "rest", "turn", "mixed"] ["script"] (defScope sDraws) := ⟨rfl, rfl, rfl, by decide +kernel, rfl, by decide +kernel, by decide +kernel⟩
/-- a new list of the draws; what stood stands -/
def spDraws (K : PySem.W.Frag) : Sp := fun vs H Q _ => ∃ (a : Addr) (ns : List Int), vs = [.ref a] ∧ SqL K H a (ns.map V.int) ∧ ns.length ≤ 63 ∧
  ∀ p, H p = none → Q (.ref p) (upd H p (.lst ((drawsOf ns).map V.int)))
theorem ok_draws {f : Addr} {fd : FuncData} {k : Nat} (F : Fun K "_law_draws" "_law_draws" sDraws f fd) (mr : mg "range" = none) (mm : mg "min" = none) (ml : mg "len" = none) (ma : mg "abs" = none) (mi : mg "int" = none) :
    FnOk P w K mg base CX0 (k + 1) f fd ["script"] (spDraws K) := by
  refine F.ok scDr (fun vs H Q E h => ?_) (fun cdv A outer s H vs Q E hr h => ?_)
  · obtain ⟨a, ns, rfl, _⟩ := h
    rfl
  · obtain ⟨a, ns, rfl, hS, hlen, q⟩ := h
    refine ⟨_, pss_cons (ps_set (i := 1) scDr.nd rfl (.inl rfl) (pe_lst pa_nil))
      (pss_cons (ps_for PassesOwn.never rfl (pi_range1 rfl mr (pa_cons (pe_callB (call_min2 rfl) (by rfl) mm (by decide +kernel) (pa_cons pe_int (pa_cons (pe_callB call_len_seq (by rfl) ml PySem.boot_len (pa_cons (pv 0) pa_nil)) pa_nil))) pa_nil))
          (pg_name (i := 2) scDr.nd rfl (.inl rfl))
        (pss_cons (ps_set (i := 3) scDr.nd rfl (.inl rfl) (pe_callB call_abs (by rfl) ma (by decide +kernel) (pa_cons (pe_ix ix_list (pv 0) (pv 2) (fun _ _ => rfl)) pa_nil)))
        (pss_one (ps_if (pt_cmpR op_ge (pv 3) (pe_op op_pow pe_int pe_int) (nomark _))
          (pss_one (ps_for PassesOwn.never rfl (pi_range1 rfl mr (pa_cons pe_int pa_nil)) (pg_name (i := 4) scDr.nd rfl (.inl rfl))
            (pss_one (ps_if (pt_cmpR op_gt (pv 3) pe_int (nomark _))
              (pss_cons (ps_expr (pe_bm PySem.F.plainAttrs_list PySem.F.slot_list_append PySem.F.type_list_append mt_append (pv 1) (pa_cons (pe_op op_mod (pe_callTy call_int1 (by rfl) mi (by decide +kernel) (pa_cons (pv 3) pa_nil)) pe_int) pa_nil)))
              (pss_one (ps_set (i := 3) scDr.nd rfl (.inl rfl) (pe_op op_fdiv (pv 3) pe_int)))) pss_nil))))
          (pss_cons (ps_set (i := 5) scDr.nd rfl (.inl rfl) (pe_op op_mod (pe_callTy call_int1 (by rfl) mi (by decide +kernel) (pa_cons (pe_op op_add (pe_op op_mul (pv 3) pe_int) (pe_op op_mul (pe_op op_add (pv 2) pe_int) pe_int)) pa_nil)) pe_int))
          (pss_cons (ps_set (i := 5) scDr.nd rfl (.inl rfl) (pe_op op_mod (pe_callTy call_int1 (by rfl) mi (by decide +kernel) (pa_cons (pe_op op_add (pe_op op_add (pe_op op_mul (pv 5) pe_int) (pe_op op_mul pe_int (pv 2))) pe_int) pa_nil)) pe_int))
          (pss_cons (ps_expr (pe_bm PySem.F.plainAttrs_list PySem.F.slot_list_append PySem.F.type_list_append mt_append (pv 1) (pa_cons (pe_op op_mod (pe_callTy call_int1 (by rfl) mi (by decide +kernel) (pa_cons (pv 5) pa_nil)) pe_int) pa_nil)))
          (pss_one (ps_expr (pe_bm PySem.F.plainAttrs_list PySem.F.slot_list_append PySem.F.type_list_append mt_append (pv 1) (pa_cons (pe_op op_mod (pe_callTy call_int1 (by rfl) mi (by decide +kernel) (pa_cons (pe_op op_fdiv (pv 5) pe_int) pa_nil)) pe_int) pa_nil)))))))))))
      (pss_one (ps_ret (pv 1)))), ?_⟩
    -- draws = []
    refine ⟨Nat.zero_le _, fun o no => ?_⟩
    have s1 : Same H (upd H o (.lst [])) := same_upd no
    have nao : ∀ G : HO, SqL K (upd H o G) a (ns.map V.int) := fun G => (same_upd no).seq hS
    have hi62 : (ns.length : Int) < 2 ^ 62 := by omega
    -- range(min(63, len(script)))
    have ej : (if ((ns.map V.int).length : Int) < 63 then ((ns.map V.int).length : Int) else 63) = (ns.length : Int) := by
      rw [List.length_map]
      split <;> omega
    refine ⟨.ref a, rfl, a, ns.map V.int, rfl, .inl (s1.seq hS), 63, _, rfl, _, rfl, by rw [ej]; omega, by rw [ej]; omega, ?_⟩
    rw [ej]
    refine for_range (lo := 0) (n := ns.length) (fun i σ H' => ∃ v2 v3 v4 v5, σ = [some (.ref a), some (.ref o), v2, v3, v4, v5] ∧ H' = upd H o (.lst ((drawsN ns i).map V.int))) ⟨none, none, none, none, rfl, rfl⟩ ?_ ?_
    · rintro i σ H' hi ⟨v2, v3, v4, v5, rfl, rfl⟩
      have gi := getI hi
      have hSi := nao (.lst ((drawsN ns i).map V.int))
      have hl := drawsN_len ns i
      -- rest = abs(script[k])
      refine ⟨.ref a, rfl, _, rfl, a, _, _, _, rfl, rfl, hSi, at_of (j := i) (by omega) gi, ns.getD i 0, rfl, ?_⟩
      rw [Int.zero_add]
      refine ⟨_, rfl, _, _, rfl, rfl, ⟨by decide, by decide, by decide⟩, _, _, rfl, rfl, _, rfl, ite2 (fun c => ?_) (fun c => ?_)⟩
      · -- the digits
        have c1 : (10 : Int) ^ (18 : Int).toNat ≤ dabs (ns.getD i 0) := of_decide_eq_true c
        have e1 : drawsN ns (i + 1) = (diter 60 (dabs (ns.getD i 0), drawsN ns i)).2 := if_pos c1
        refine ⟨60, rfl, by decide, by decide, for_range (lo := 0) (n := 60) (fun j σ H' => ∃ v4, σ = [some (.ref a), some (.ref o), some (.int i), some (.int (diter j (dabs (ns.getD i 0), drawsN ns i)).1), v4, v5] ∧ H' = upd H o (.lst ((diter j (dabs (ns.getD i 0), drawsN ns i)).2.map V.int)))
          ⟨v4, rfl, rfl⟩ ?_ ?_⟩
        · rintro j σ H' hj ⟨w4, rfl, rfl⟩
          have hl2 := diter_len (dabs (ns.getD i 0), drawsN ns i) j
          generalize hp : diter j (dabs (ns.getD i 0), drawsN ns i) = p at hl2
          have e2 : diter (j + 1) (dabs (ns.getD i 0), drawsN ns i) = dstep p := by rw [← hp]; rfl
          refine ⟨_, rfl, _, _, rfl, rfl, _, rfl, ite2 (fun c2 => ?_) (fun c2 => ?_)⟩
          · have e3 : dstep p = (p.1 / 65536, p.2 ++ [p.1 % 65536]) := if_pos (of_decide_eq_true c2)
            refine ⟨.ref o, rfl, .inl ⟨rfl, _, SqL.of upd_same⟩, _, rfl, .inl ⟨_, rfl, _, _, rfl, rfl, (by show (0 : Int) < 65536; decide), o, _, _, rfl, rfl, upd_same, ?_, _, rfl, _, _, rfl, rfl, ⟨by decide, by decide⟩, some (.int (0 + j)), ?_, ?_⟩⟩
            · rw [List.length_map]
              refine small4000 ?_
              have hl3 : (drawsN ns i).length ≤ 60 * i := hl
              have hl4 : p.2.length ≤ (drawsN ns i).length + j := hl2
              omega
            · rw [e2, e3]
              rfl
            · rw [e2, e3, upd_upd, List.map_append]
              rfl
          · have e3 : dstep p = p := if_neg fun z => c2 (decide_eq_true z)
            refine ⟨some (.int (0 + j)), ?_, ?_⟩
            · rw [e2, e3]
              rfl
            · rw [e2, e3]
        · rintro σ H' ⟨w4, rfl, rfl⟩
          exact ⟨_, _, _, _, rfl, by rw [e1]⟩
      · -- two mixed numbers
        have e1 : drawsN ns (i + 1) = drawsN ns i ++ [dmix2 i (dabs (ns.getD i 0)) % 65536] ++ [dmix2 i (dabs (ns.getD i 0)) / 65536 % 32768] := if_neg fun z => c (decide_eq_true z)
        refine ⟨_, rfl, _, _, rfl, rfl, .inr ⟨by decide, by decide⟩, _, rfl, _, _, rfl, rfl, _, _, rfl, rfl, .inr ⟨by decide, by decide⟩, _, _, rfl, rfl, .inl ⟨_, rfl, _, _, rfl, rfl, (by show (0 : Int) < 2147483647; decide), ?_⟩⟩
        refine ⟨_, rfl, _, _, rfl, rfl, .inr ⟨by decide, by decide⟩, _, rfl, _, _, rfl, rfl, .inl ⟨by decide, by decide⟩, _, _, rfl, rfl, _, _, rfl, rfl, .inl ⟨_, rfl, _, _, rfl, rfl, (by show (0 : Int) < 2147483629; decide), ?_⟩⟩
        refine ⟨.ref o, rfl, .inl ⟨rfl, _, SqL.of upd_same⟩, _, rfl, .inl ⟨_, rfl, _, _, rfl, rfl, (by show (0 : Int) < 65536; decide), o, _, _, rfl, rfl, upd_same, ?_, ?_⟩⟩
        · rw [List.length_map]
          exact small4000 (by omega)
        refine ⟨.ref o, rfl, .inl ⟨rfl, _, SqL.of upd_same⟩, _, rfl, _, _, rfl, rfl, ⟨by decide, by decide⟩, .inl ⟨_, rfl, _, _, rfl, rfl, (by show (0 : Int) < 32768; decide), o, _, _, rfl, rfl, upd_same, ?_, ?_⟩⟩
        · rw [List.length_append, List.length_map]
          exact small4000 (by show (drawsN ns i).length + 1 ≤ 4000; omega)
        refine ⟨_, _, _, _, rfl, ?_⟩
        rw [e1, upd_upd, upd_upd, List.map_append, List.map_append]
        rfl
    · rintro σ H' ⟨v2, v3, v4, v5, rfl, rfl⟩
      exact ⟨.ref o, rfl, q o no⟩
/-! ### a draw below many -/
theorem scAt : FnScope ["draws", "k", "many"] ["draws", "k", "many"] (defScope sAt) := ⟨rfl, rfl, rfl, by decide +kernel, rfl, by decide +kernel, by decide +kernel⟩
def spAt (K : PySem.W.Frag) : Sp := fun vs H Q _ => ∃ (a : Addr) (ds : List Int) (k many : Int), vs = [.ref a, .int k, .int many] ∧ SqL K H a (ds.map V.int) ∧ 0 ≤ k ∧ 0 < many ∧ Q (.int (atD ds k many)) H
theorem ok_at {f : Addr} {fd : FuncData} {k : Nat} (F : Fun K "_law_at" "_law_at" sAt f fd) (ml : mg "len" = none) (mi : mg "int" = none) :
    FnOk P w K mg base CX0 (k + 1) f fd ["draws", "k", "many"] (spAt K) := by
  refine F.ok scAt (fun vs H Q E h => ?_) (fun cdv A outer s H vs Q E hr h => ?_)
  · obtain ⟨a, ds, k, many, rfl, _⟩ := h
    rfl
  · obtain ⟨a, ds, k, many, rfl, hS, h0, hm, q⟩ := h
    refine ⟨_, pss_cons (ps_if (pt_cmpR op_lt (pv 1) (pe_callB call_len_seq (by rfl) ml PySem.boot_len (pa_cons (pv 0) pa_nil)) (nomark _))
        (pss_one (ps_ret (pe_op op_mod (pe_callTy call_int1 (by rfl) mi (by decide +kernel) (pa_cons (pe_ix ix_list (pv 0) (pv 1) (fun _ _ => rfl)) pa_nil)) (pv 2)))) pss_nil)
      (pss_one (ps_ret pe_int)), ?_⟩
    refine ⟨_, rfl, _, rfl, a, _, rfl, .inl hS, _, _, rfl, rfl, _, rfl, ite2 (fun c => ?_) (fun c => ?_)⟩
    · have c1 : k < ((ds.map V.int).length : Int) := of_decide_eq_true c
      rw [List.length_map] at c1
      have gi := getI (ns := ds) (i := k.toNat) (by omega)
      refine ⟨_, rfl, _, rfl, a, _, _, _, rfl, rfl, hS, at_of (j := k.toNat) (by omega) gi, .inl ⟨_, rfl, _, rfl, _, _, rfl, rfl, hm, ?_⟩⟩
      have e : atD ds k many = ds.getD k.toNat 0 % many := if_pos c1
      show Q (.int (ds.getD k.toNat 0 % many)) H
      rw [← e]
      exact q
    · have c1 : ¬ k < ((ds.map V.int).length : Int) := fun z => c (decide_eq_true z)
      rw [List.length_map] at c1
      have e : atD ds k many = 0 := if_neg c1
      show Q (.int 0) H
      rw [← e]
      exact q
theorem units1 {k : Nat} {A : Around} (h : Room k A) : A.units + 1 < cLine := by
  have := h.un
  omega
theorem units64 {k : Nat} {A : Around} (h : Room k A) : A.units + 64 < cLine := by
  have := h.un
  omega
theorem units66 {k : Nat} {A : Around} (h : Room k A) : A.units + 66 < cLine := by
  have := h.un
  omega
theorem units120 {k : Nat} {A : Around} (h : Room k A) : A.units + 120 < cLine := by
  have := h.un
  omega
end
end Ld

set_option Elab.async false
set_option linter.all false
set_option maxRecDepth 100000
set_option maxHeartbeats 4000000
/-! Prices: mathematics, and how they lie in the heap. -/
namespace Ld
open PySem PySem.Spec PyProof.Rows L2 Lr
abbrev sk (s : Str) : Key := Sum.inr s
def P3 : List Str := ["A", "BB", "C"]
def P4 : List Str := ["A", "BB", "C", "OTHER"]
structure Prc where
  put : Int
  out : Int
  chg : Int
  ex : List (List Key × V)
def exOk (k : List Key) : Prop := (∃ a ∈ P3, k = [sk "put", sk a]) ∨ (∃ a ∈ P4, k = [sk "out", sk a]) ∨ ∃ a ∈ P4, ∃ b ∈ P3, a ≠ b ∧ k = [sk "change", sk a, sk b]
structure PrcOk (Z : Prc) : Prop where
  put : 1 ≤ Z.put ∧ Z.put ≤ 1000
  out : 1 ≤ Z.out ∧ Z.out ≤ 1000
  chg : 1 ≤ Z.chg ∧ Z.chg ≤ 1000
  ex : ∀ p ∈ Z.ex, exOk p.1 ∧ ∃ i : Int, 1 ≤ i ∧ i ≤ 1000 ∧ p.2 = .int i
  nd : (Z.ex.map (·.1)).Nodup
  few : Z.ex.length ≤ 5
/-- the number at a key, or another -/
def exI (Z : Prc) (k : List Key) (d : Int) : Int := match valV Z.ex k with
  | some (.int i) => i
  | _ => d
def putP (Z : Prc) (k : Str) : Int := exI Z [sk "put", sk k] Z.put
def outP (Z : Prc) (k : Str) : Int := exI Z [sk "out", sk k] Z.out
def chgP (Z : Prc) (a b : Str) : Int := if a = b then 0 else exI Z [sk "change", sk a, sk b] Z.chg
/-- the sum of the prices of leaving out -/
def outsP (Z : Prc) (ks : List Str) : Int := (ks.map (outP Z)).sum
/-- the price of the leaf of k over the stretch from i to j -/
def leafP (Z : Prc) (row : List Str) (k : Str) (i j : Nat) : Int :=
  if i = j then putP Z k else outsP Z ((row.drop i).take (j - 1 - i)) + chgP Z (row.getD (j - 1) "") k
theorem valV_from {κ : Type} [DecidableEq κ] {kvs : List (κ × V)} {k : κ} {v : V} (h : valV kvs k = some v) : (k, v) ∈ kvs := by
  unfold valV at h
  obtain ⟨p, hp, e⟩ := Option.map_eq_some_iff.mp h
  have e1 := List.find?_some hp
  have e2 : p.1 = k := of_decide_eq_true e1
  have m := List.mem_of_find?_eq_some hp
  rw [← e, ← e2]
  exact m
theorem exI_is {Z : Prc} (ok : PrcOk Z) (k : List Key) (d : Int) : (valV Z.ex k).getD (.int d) = .int (exI Z k d) := by
  unfold exI
  cases e : valV Z.ex k with
  | none => rfl
  | some v =>
    obtain ⟨_, i, _, _, rfl⟩ := ok.ex _ (valV_from e)
    rfl
theorem exI_in {Z : Prc} (ok : PrcOk Z) (k : List Key) {d : Int} (h : 1 ≤ d ∧ d ≤ 1000) : 1 ≤ exI Z k d ∧ exI Z k d ≤ 1000 := by
  unfold exI
  cases e : valV Z.ex k with
  | none => exact h
  | some v =>
    obtain ⟨_, i, h1, h2, e2⟩ := ok.ex _ (valV_from e)
    dsimp only at e2
    rw [e2]
    exact ⟨h1, h2⟩
theorem putP_in {Z : Prc} (ok : PrcOk Z) (k : Str) : 1 ≤ putP Z k ∧ putP Z k ≤ 1000 := exI_in ok _ ok.put
theorem outP_in {Z : Prc} (ok : PrcOk Z) (k : Str) : 1 ≤ outP Z k ∧ outP Z k ≤ 1000 := exI_in ok _ ok.out
theorem chgP_in {Z : Prc} (ok : PrcOk Z) (a b : Str) : 0 ≤ chgP Z a b ∧ chgP Z a b ≤ 1000 := by
  unfold chgP
  split
  · exact ⟨by decide, by decide⟩
  · have := exI_in ok [sk "change", sk a, sk b] ok.chg
    exact ⟨by omega, this.2⟩
theorem outsP_in {Z : Prc} (ok : PrcOk Z) : ∀ ks : List Str, 0 ≤ outsP Z ks ∧ outsP Z ks ≤ 1000 * ks.length
  | [] => ⟨Int.le_refl 0, Int.le_refl 0⟩
  | k :: ks => by
    have h1 := outP_in ok k
    have h2 := outsP_in ok ks
    unfold outsP at h2 ⊢
    rw [List.map_cons, List.sum_cons, List.length_cons]
    omega
theorem leafP_in {Z : Prc} (ok : PrcOk Z) (row : List Str) (k : Str) (i j : Nat) : 0 ≤ leafP Z row k i j ∧ leafP Z row k i j ≤ 1000 * (row.length + 1) := by
  unfold leafP
  split
  · have := putP_in ok k
    omega
  · have h1 := outsP_in ok ((row.drop i).take (j - 1 - i))
    have h2 := chgP_in ok (row.getD (j - 1) "") k
    have h3 : ((row.drop i).take (j - 1 - i)).length ≤ row.length := by
      rw [List.length_take, List.length_drop]
      omega
    omega
/-- the prices Z stand at t -/
def PrA (H : Hp) (t : Addr) (Z : Prc) : Prop := ∃ d, H t = some (.tup [.int Z.put, .int Z.out, .int Z.chg, .ref d]) ∧ H d = some (.dT Z.ex)
theorem Up.dT {A B : Hp} (u : Up A B) {a : Addr} {kvs : List (List Key × V)} (h : A a = some (.dT kvs)) : B a = some (.dT kvs) := by
  rcases u a _ h with e | ⟨_, _, z, _⟩
  · exact e
  · cases z
theorem PrA.up {A B : Hp} (u : Up A B) {t : Addr} {Z : Prc} (h : PrA A t Z) : PrA B t Z := by
  obtain ⟨d, h1, h2⟩ := h
  exact ⟨d, u.tup h1, u.dT h2⟩
/-! ### prices as data -/
def vD : V → PyData
  | .int i => .int i
  | .str s => .str s
  | _ => .none
def exD (kvs : List (List Key × V)) : List (PyData × PyData) := kvs.map fun p => (.tuple (p.1.map keyD), vD p.2)
def prD (Z : Prc) : PyData := .tuple [.int Z.put, .int Z.out, .int Z.chg, .dict (exD Z.ex)]
theorem dqT_ints {K : PySem.W.Frag} {H : Hp} : ∀ {kvs : List (List Key × V)}, (∀ p ∈ kvs, ∃ i : Int, p.2 = .int i) → DqT K H kvs (exD kvs)
  | [], _ => .nil
  | (k, v) :: kvs, h => by
    obtain ⟨i, e⟩ := h (k, v) List.mem_cons_self
    dsimp only at e
    subst e
    exact .cons (.dp (.int i)) (dqT_ints fun p m => h p (List.mem_cons_of_mem _ m))
theorem PrA.dq {K : PySem.W.Frag} {H : Hp} {t : Addr} {Z : Prc} (ok : PrcOk Z) (h : PrA H t Z) : Dq K H (.ref t) (prD Z) := by
  obtain ⟨d, h1, h2⟩ := h
  exact .tup (SqT.of h1) (.cons (.dp (.int _)) (.cons (.dp (.int _)) (.cons (.dp (.int _)) (.cons (.dT h2 (dqT_ints fun p m => let ⟨_, i, _, _, e⟩ := ok.ex p m; ⟨i, e⟩)) .nil))))
theorem int_small {i : Int} (h0 : 0 ≤ i) (h1 : i ≤ 1000) : (PyData.int i).showable = true := by
  rw [PyData.showable]
  have a : i.natAbs ≤ 1000 := by omega
  refine decide_eq_true ?_
  have : i.natAbs.log2 ≤ (1000 : Nat).log2 := by
    rcases Nat.eq_zero_or_pos i.natAbs with z | z
    · rw [z]
      exact Nat.zero_le _
    · exact (Nat.le_log2 (by decide)).mpr (Nat.le_trans (Nat.log2_self_le (Nat.ne_of_gt z)) a)
  have e : (1000 : Nat).log2 ≤ 10 := by decide
  omega
theorem int_wt {i : Int} (h0 : 0 ≤ i) (h1 : i < 10 ^ 9) : wt (.int i) ≤ 9 := by
  rw [wt]
  exact toString_length_le h0 (by decide) h1
theorem keys_show : ∀ ks : List Key, (∀ k ∈ ks, ∃ s, k = sk s) → PyData.showableAll (ks.map keyD) = true
  | [], _ => rfl
  | k :: ks, h => by
    obtain ⟨s, rfl⟩ := h k List.mem_cons_self
    rw [List.map_cons, PyData.showableAll, keys_show ks fun x m => h x (List.mem_cons_of_mem _ m)]
    rfl
theorem exOk_keys {k : List Key} (h : exOk k) : ∀ x ∈ k, ∃ s, x = sk s := by
  rcases h with ⟨a, _, rfl⟩ | ⟨a, _, rfl⟩ | ⟨a, _, b, _, _, rfl⟩
  all_goals
    intro x hx
    simp only [List.mem_cons, List.not_mem_nil, or_false] at hx
    rcases hx with rfl | rfl | rfl <;> exact ⟨_, rfl⟩
theorem ex_show : ∀ {kvs : List (List Key × V)}, (∀ p ∈ kvs, exOk p.1 ∧ ∃ i : Int, 1 ≤ i ∧ i ≤ 1000 ∧ p.2 = .int i) → PyData.showableKv (exD kvs) = true
  | [], _ => rfl
  | (k, v) :: kvs, h => by
    obtain ⟨h1, i, h2, h3, e⟩ := h (k, v) List.mem_cons_self
    dsimp only at e
    subst e
    have r := ex_show (kvs := kvs) fun p m => h p (List.mem_cons_of_mem _ m)
    show PyData.showableKv ((.tuple (k.map keyD), .int i) :: exD kvs) = true
    rw [PyData.showableKv, r, int_small (by omega) h3, PyData.showable, keys_show k (exOk_keys h1)]
    rfl
theorem prD_show {Z : Prc} (ok : PrcOk Z) : (prD Z).showable = true := by
  unfold prD
  rw [PyData.showable, PyData.showableAll, PyData.showableAll, PyData.showableAll, PyData.showableAll, PyData.showableAll, int_small (by have := ok.put; omega) ok.put.2, int_small (by have := ok.out; omega) ok.out.2,
    int_small (by have := ok.chg; omega) ok.chg.2, PyData.showable, ex_show ok.ex]
  rfl
theorem keys_wt {k : List Key} (h : exOk k) : wt (.tuple (k.map keyD)) ≤ 60 := by
  have c : ∀ a ∈ P4, wt (.tuple ([sk "out", sk a].map keyD)) ≤ 60 := by decide +kernel
  have b : ∀ a ∈ P3, wt (.tuple ([sk "put", sk a].map keyD)) ≤ 60 := by decide +kernel
  have d : ∀ a ∈ P4, ∀ b ∈ P3, wt (.tuple ([sk "change", sk a, sk b].map keyD)) ≤ 60 := by decide +kernel
  rcases h with ⟨a, ha, rfl⟩ | ⟨a, ha, rfl⟩ | ⟨a, ha, e, he, _, rfl⟩
  · exact b a ha
  · exact c a ha
  · exact d a ha e he
theorem prD_wt {Z : Prc} (ok : PrcOk Z) : wt (prD Z) ≤ 500 := by
  have e0 : wt (prD Z) = wt (.int Z.put) + 2 + (wt (.int Z.out) + 2 + (wt (.int Z.chg) + 2 + (wtKv (exD Z.ex) + 4 + 2 + 0))) + 4 := by
    unfold prD
    simp only [wt, wtAll]
  have h1 := int_wt (i := Z.put) (by have := ok.put; omega) (by have := ok.put; omega)
  have h2 := int_wt (i := Z.out) (by have := ok.out; omega) (by have := ok.out; omega)
  have h3 := int_wt (i := Z.chg) (by have := ok.chg; omega) (by have := ok.chg; omega)
  have h4 := wtKv_up (B := 69) (ds := exD Z.ex) fun p m => by
    obtain ⟨q, hq, rfl⟩ := List.mem_map.mp m
    obtain ⟨k1, i, k2, k3, e⟩ := ok.ex q hq
    have a := keys_wt k1
    have b : wt (vD q.2) ≤ 9 := by
      rw [e]
      exact int_wt (by omega) (by omega)
    dsimp only
    omega
  have h5 : (exD Z.ex).length ≤ 5 := by
    unfold exD
    rw [List.length_map]
    exact ok.few
  have : (69 + 4) * (exD Z.ex).length ≤ (69 + 4) * 5 := Nat.mul_le_mul_left _ h5
  omega
end Ld

set_option Elab.async false
set_option linter.all false
set_option maxRecDepth 100000
set_option maxHeartbeats 4000000
/-! The law's own prices: of putting in, leaving out, exchanging, of a leaf. -/
namespace Ld
open PySem PySem.Spec PyProof.Rows L2 Lg Lr
section
variable {P : Program} {w : World} {K : PySem.W.Frag} {mg : Str → Option Value} {base : Heap}
theorem scPut : FnScope ["prices", "kind"] ["prices", "kind"] (defScope sLPut) := ⟨rfl, rfl, rfl, by decide +kernel, rfl, by decide +kernel, by decide +kernel⟩
theorem scOut : FnScope ["prices", "kind"] ["prices", "kind"] (defScope sLOut) := ⟨rfl, rfl, rfl, by decide +kernel, rfl, by decide +kernel, by decide +kernel⟩
theorem scChg : FnScope ["prices", "kind", "other"] ["prices", "kind", "other"] (defScope sLChg) := ⟨rfl, rfl, rfl, by decide +kernel, rfl, by decide +kernel, by decide +kernel⟩
theorem scLeaf : FnScope ["prices", "row", "kind", "i", "j", "one"] ["prices", "row", "kind", "i", "j"] (defScope sLLeaf) := ⟨rfl, rfl, rfl, by decide +kernel, rfl, by decide +kernel, by decide +kernel⟩
def spPrice (f : Prc → Str → Int) : Sp := fun vs H Q _ => ∃ (t : Addr) (Z : Prc) (k : Str), vs = [.ref t, .str k] ∧ PrA H t Z ∧ PrcOk Z ∧ ∀ H2, Same H H2 → Q (.int (f Z k)) H2
def spChange : Sp := fun vs H Q _ => ∃ (t : Addr) (Z : Prc) (a b : Str), vs = [.ref t, .str a, .str b] ∧ PrA H t Z ∧ PrcOk Z ∧ ∀ H2, Same H H2 → Q (.int (chgP Z a b)) H2
theorem ok_lput {f : Addr} {fd : FuncData} (F : Fun K "_law_put" "_law_put" sLPut f fd) : FnOk P w K mg base CX0 1 f fd ["prices", "kind"] (spPrice putP) := by
  refine F.ok scPut (fun vs H Q E h => ?_) (fun cdv A outer s H vs Q E hr h => ?_)
  · obtain ⟨t, Z, k, rfl, _⟩ := h
    rfl
  · obtain ⟨t, Z, k, rfl, ⟨d, ht, hd⟩, ok, q⟩ := h
    refine ⟨_, pss_one (ps_ret (pe_dget2 (units1 hr) (pe_ix ix_tup (pv 0) pe_int (fun _ _ => rfl)) (pe_tup (pa_cons pe_str (pa_cons (pv 1) pa_nil))) (pe_ix ix_tup (pv 0) pe_int (fun _ _ => rfl)) ⟨rfl, rfl, rfl, rfl⟩)), ?_⟩
    refine ⟨_, rfl, t, _, _, _, rfl, rfl, SqT.of ht, at_of (j := 3) rfl rfl, d, rfl, .inr ⟨_, .inl hd⟩, _, rfl, (by show 2 ≤ sizeLine; decide), fun p np => ?_⟩
    have s1 : Same H (upd H p (.tup [.str "put", .str k])) := same_upd np
    have g := DGet.t (k := [sk "put", sk k]) (s1 _ _ hd) (b := p) upd_same
    refine ⟨_, rfl, t, _, _, _, rfl, rfl, SqT.of (s1 _ _ ht), at_of (j := 0) rfl rfl, _, g, ?_⟩
    rw [exI_is ok]
    exact q _ s1
theorem ok_lout {f : Addr} {fd : FuncData} (F : Fun K "_law_out" "_law_out" sLOut f fd) : FnOk P w K mg base CX0 1 f fd ["prices", "kind"] (spPrice outP) := by
  refine F.ok scOut (fun vs H Q E h => ?_) (fun cdv A outer s H vs Q E hr h => ?_)
  · obtain ⟨t, Z, k, rfl, _⟩ := h
    rfl
  · obtain ⟨t, Z, k, rfl, ⟨d, ht, hd⟩, ok, q⟩ := h
    refine ⟨_, pss_one (ps_ret (pe_dget2 (units1 hr) (pe_ix ix_tup (pv 0) pe_int (fun _ _ => rfl)) (pe_tup (pa_cons pe_str (pa_cons (pv 1) pa_nil))) (pe_ix ix_tup (pv 0) pe_int (fun _ _ => rfl)) ⟨rfl, rfl, rfl, rfl⟩)), ?_⟩
    refine ⟨_, rfl, t, _, _, _, rfl, rfl, SqT.of ht, at_of (j := 3) rfl rfl, d, rfl, .inr ⟨_, .inl hd⟩, _, rfl, (by show 2 ≤ sizeLine; decide), fun p np => ?_⟩
    have s1 : Same H (upd H p (.tup [.str "out", .str k])) := same_upd np
    have g := DGet.t (k := [sk "out", sk k]) (s1 _ _ hd) (b := p) upd_same
    refine ⟨_, rfl, t, _, _, _, rfl, rfl, SqT.of (s1 _ _ ht), at_of (j := 1) rfl rfl, _, g, ?_⟩
    rw [exI_is ok]
    exact q _ s1
theorem ok_lchg {f : Addr} {fd : FuncData} (F : Fun K "_law_change" "_law_change" sLChg f fd) : FnOk P w K mg base CX0 1 f fd ["prices", "kind", "other"] spChange := by
  refine F.ok scChg (fun vs H Q E h => ?_) (fun cdv A outer s H vs Q E hr h => ?_)
  · obtain ⟨t, Z, a, b, rfl, _⟩ := h
    rfl
  · obtain ⟨t, Z, a, b, rfl, ⟨d, ht, hd⟩, ok, q⟩ := h
    refine ⟨_, pss_cons (ps_if (pt_cmpR op_eq (pv 1) (pv 2) (nomark _)) (pss_one (ps_ret pe_int)) pss_nil)
      (pss_one (ps_ret (pe_dget2 (units1 hr) (pe_ix ix_tup (pv 0) pe_int (fun _ _ => rfl)) (pe_tup (pa_cons pe_str (pa_cons (pv 1) (pa_cons (pv 2) pa_nil)))) (pe_ix ix_tup (pv 0) pe_int (fun _ _ => rfl)) ⟨rfl, rfl, rfl, rfl⟩))), ?_⟩
    refine ⟨_, rfl, _, rfl, rfl, _, rfl, ite2 (fun c => ?_) (fun c => ?_)⟩
    · have e : a = b := V.str.inj (of_decide_eq_true c)
      have := q H (Same.refl H)
      rw [show chgP Z a b = 0 from if_pos e] at this
      exact this
    · have e : ¬ a = b := fun z => c (by rw [z]; exact decide_eq_true rfl)
      refine ⟨_, rfl, t, _, _, _, rfl, rfl, SqT.of ht, at_of (j := 3) rfl rfl, d, rfl, .inr ⟨_, .inl hd⟩, _, rfl, _, rfl, (by show 3 ≤ sizeLine; decide), fun p np => ?_⟩
      have s1 : Same H (upd H p (.tup [.str "change", .str a, .str b])) := same_upd np
      have g := DGet.t (k := [sk "change", sk a, sk b]) (s1 _ _ hd) (b := p) upd_same
      refine ⟨_, rfl, t, _, _, _, rfl, rfl, SqT.of (s1 _ _ ht), at_of (j := 2) rfl rfl, _, g, ?_⟩
      rw [exI_is ok]
      have := q _ s1
      rw [show chgP Z a b = exI Z [sk "change", sk a, sk b] Z.chg from if_neg e] at this
      exact this
end
end Ld

set_option Elab.async false
set_option linter.all false
set_option maxRecDepth 100000
set_option maxHeartbeats 4000000
/-! The law's own prices of leaves. -/
namespace Ld
open PySem PySem.Spec PyProof.Rows L2 Lg Lr
theorem take_out {Z : Prc} {ss : List Str} {j : Nat} {s : Str} (h : ss[j]? = some s) : ((ss.take (j + 1)).map (outP Z)).map V.int = ((ss.take j).map (outP Z)).map V.int ++ [V.int (outP Z s)] := by
  rw [List.take_add_one, h, List.map_append, List.map_append]
  rfl
section
variable {P : Program} {w : World} {K : PySem.W.Frag} {mg : Str → Option Value} {base : Heap}
def spLeaf : Sp := fun vs H Q _ => ∃ (t r : Addr) (Z : Prc) (row : List Str) (k : Str) (i j : Nat), vs = [.ref t, .ref r, .str k, .int i, .int j] ∧ PrA H t Z ∧ PrcOk Z ∧ H r = some (.lst (row.map V.str)) ∧ i ≤ j ∧ j ≤ row.length ∧ row.length ≤ 60 ∧
  ∀ H2, Same H H2 → Q (.int (leafP Z row k i j)) H2
theorem ok_lleaf {f fP fO fC : Addr} {fd fdP fdO fdC : FuncData} (F : Fun K "_law_leaf" "_law_leaf" sLLeaf f fd)
    (GP : FnOk P w K mg base CX0 1 fP fdP ["prices", "kind"] (spPrice putP)) (kP : PySem.W.keepIn K (.ref fP) = true) (bP : Binds K fdP ["prices", "kind"] []) (gP : mg "_law_put" = some (.ref fP))
    (GO : FnOk P w K mg base CX0 1 fO fdO ["prices", "kind"] (spPrice outP)) (kO : PySem.W.keepIn K (.ref fO) = true) (bO : Binds K fdO ["prices", "kind"] []) (gO : mg "_law_out" = some (.ref fO))
    (GC : FnOk P w K mg base CX0 1 fC fdC ["prices", "kind", "other"] spChange) (kC : PySem.W.keepIn K (.ref fC) = true) (bC : Binds K fdC ["prices", "kind", "other"] []) (gC : mg "_law_change" = some (.ref fC))
    (msu : mg "sum" = none) : FnOk P w K mg base CX0 2 f fd ["prices", "row", "kind", "i", "j"] spLeaf := by
  refine F.ok scLeaf (fun vs H Q E h => ?_) (fun cdv A outer s H vs Q E hr h => ?_)
  · obtain ⟨t, r, Z, row, k, i, j, rfl, _⟩ := h
    rfl
  · obtain ⟨t, r, Z, row, k, i, j, rfl, hZ, ok, hrow, ij, jn, len, q⟩ := h
    refine ⟨_, pss_cons (ps_if (pt_cmpR op_eq (pv 3) (pv 4) (nomark _)) (pss_one (ps_ret (pe_call GP hr (by rfl) gP kP bP .nil pass0 (pa_cons (pv 0) (pa_cons (pv 2) pa_nil))))) pss_nil)
      (pss_one (ps_ret (pe_op op_add
        (pe_callB (cr_sum rfl) (by rfl) msu (by decide +kernel) (pa_cons (pe_lc (own := [("one", 5)]) (g := gName 5) rfl scLeaf.nd (pi_list (pe_slice sl_list (pv 1) (po_some (pv 3)) (po_some (pe_op op_sub (pv 4) pe_int))))
          (blkOk_by (N := ["prices", "row", "kind", "i", "j", "one"]) (sc := defScope sLLeaf) (by decide +kernel)) (fun _ _ _ _ _ => pg_name (i := 5) scLeaf.nd rfl (Or.inl rfl)) (fun _ _ _ _ _ => pts_nil)
          (fun _ _ _ _ _ => pe_call GO hr (by rfl) gO kO bO .nil pass0 (pa_cons (pv 0) (pa_cons (pv 5) pa_nil)))) pa_nil))
        (pe_call GC hr (by rfl) gC kC bC .nil pass0 (pa_cons (pv 0) (pa_cons (pe_ix ix_list (pv 1) (pe_op op_sub (pv 4) pe_int) (fun _ _ => rfl)) (pa_cons (pv 2) pa_nil))))))), ?_⟩
    refine ⟨_, rfl, _, rfl, rfl, _, rfl, ite2 (fun c => ?_) (fun c => ?_)⟩
    · have e : i = j := Int.ofNat_inj.mp (V.int.inj (of_decide_eq_true c))
      refine ⟨_, rfl, _, rfl, t, Z, k, rfl, hZ, ok, fun H2 s2 => ?_⟩
      have := q H2 s2
      rw [show leafP Z row k i j = putP Z k from if_pos e] at this
      exact this
    · have ne : ¬ i = j := fun z => c (by rw [z]; exact decide_eq_true rfl)
      have ej : (j : Int) - 1 = ((j - 1 : Nat) : Int) := by omega
      refine ⟨_, rfl, _, rfl, _, rfl, ?_⟩
      refine ⟨_, rfl, _, _, rfl, rfl, _, rfl, r, row.map V.str, rfl, SqL.of hrow, ?_⟩
      rw [ej, cut_map (by omega) (by omega)]
      intro p np
      generalize ess : (row.drop i).take (j - 1 - i) = ss
      have lss : ss.length ≤ 60 := by
        rw [← ess, List.length_take, List.length_drop]
        omega
      have s1 : Same H (upd H p (.lst (ss.map V.str))) := same_upd np
      have hp : upd H p (.lst (ss.map V.str)) p = some (.lst (ss.map V.str)) := upd_same
      generalize upd H p (.lst (ss.map V.str)) = H1 at s1 hp
      refine ⟨p, rfl, ⟨_, SqL.of hp⟩, fun D hD => lc_list (a := p) (xs := ss.map V.str) (fun n H' => Same H1 H' ∧ H' D = some (.lst (((ss.take n).map (outP Z)).map V.int))) ⟨same_upd hD, upd_same⟩ (fun n H' _ ⟨s', _⟩ => SqL.of (s' _ _ hp)) ?_ ?_⟩
      · rintro n x H' hx ⟨s', hd⟩
        obtain ⟨sy, hsy, rfl⟩ := str_at hx
        refine ⟨rfl, _, rfl, _, rfl, t, Z, sy, rfl, hZ.up (Up.of_same (s1.trans s')), ok, fun H2 s2 => ⟨_, s2 _ _ hd, ?_, ?_, ?_⟩⟩
        · rw [List.length_map, List.length_map]
          exact Nat.lt_of_le_of_lt (Nat.le_trans (List.length_take_le' _ _) lss) (by decide)
        · exact same_put (s'.trans s2) hD
        · rw [take_out hsy]
          exact upd_same
      · rintro H2 ⟨s2, hd⟩
        rw [List.length_map, List.take_length] at hd
        have s02 := s1.trans s2
        obtain ⟨last, hlast⟩ : ∃ last, row[j - 1]? = some last := ⟨_, List.getElem?_eq_getElem (by omega)⟩
        refine ⟨D, _, rfl, SqL.of hd, ?_⟩
        refine ⟨_, rfl, _, rfl, _, rfl, _, _, rfl, rfl, r, _, _, _, rfl, rfl, SqL.of (s02 _ _ hrow), at_of (j := j - 1) ej (by rw [List.getElem?_map, hlast]; rfl), _, rfl, t, Z, last, k, rfl, hZ.up (Up.of_same s02), ok, fun H3 s3 => ⟨_, _, rfl, rfl, ?_⟩⟩
        have := q H3 (s02.trans s3)
        rw [show leafP Z row k i j = outsP Z ss + chgP Z last k from by
          unfold leafP
          rw [if_neg ne, ess, List.getD_eq_getElem?_getD, hlast]
          rfl] at this
        exact this
end
end Ld

set_option Elab.async false
set_option linter.all false
set_option maxRecDepth 100000
set_option maxHeartbeats 4000000
/-! The law's own rows and prices. -/
namespace Ld
open PySem PySem.Spec PyProof.Rows L2 Lg Lr
def row5 : List Str := ["A", "BB", "C", "OTHER", "A"]
theorem pick5 {v : Int} (h0 : 0 ≤ v) (h1 : v < 5) : ∃ s, (row5.map V.str)[v.toNat]? = some (V.str s) ∧ s ∈ P4 := by
  have e : v.toNat = 0 ∨ v.toNat = 1 ∨ v.toNat = 2 ∨ v.toNat = 3 ∨ v.toNat = 4 := by omega
  rcases e with e | e | e | e | e <;> rw [e] <;> exact ⟨_, rfl, by decide⟩
theorem pick4 {v : Int} (h0 : 0 ≤ v) (h1 : v < 4) : ∃ s, (P4.map V.str)[v.toNat]? = some (V.str s) ∧ s ∈ P4 ∧ (v < 3 → s ∈ P3) := by
  have e : v.toNat = 0 ∨ v.toNat = 1 ∨ v.toNat = 2 ∨ v.toNat = 3 := by omega
  rcases e with e | e | e | e
  · rw [e]
    exact ⟨_, rfl, by decide, fun _ => by decide⟩
  · rw [e]
    exact ⟨_, rfl, by decide, fun _ => by decide⟩
  · rw [e]
    exact ⟨_, rfl, by decide, fun _ => by decide⟩
  · rw [e]
    exact ⟨_, rfl, by decide, fun z => by omega⟩
theorem pick_top {v : Int} (h0 : 0 ≤ v) (h1 : v < 3) : ∃ c : Int, ([V.int 1, V.int 3, V.int 1000] : List V)[v.toNat]? = some (V.int c) ∧ 1 ≤ c ∧ c ≤ 1000 := by
  have e : v.toNat = 0 ∨ v.toNat = 1 ∨ v.toNat = 2 := by omega
  rcases e with e | e | e <;> rw [e]
  · exact ⟨1, rfl, by decide, by decide⟩
  · exact ⟨3, rfl, by decide, by decide⟩
  · exact ⟨1000, rfl, by decide, by decide⟩
section
variable {P : Program} {w : World} {K : PySem.W.Frag} {mg : Str → Option Value} {base : Heap}
theorem scRow : FnScope ["draws", "first", "most", "k"] ["draws", "first", "most"] (defScope sRow) := ⟨rfl, rfl, rfl, by decide +kernel, rfl, by decide +kernel, by decide +kernel⟩
def spRow (K : PySem.W.Frag) : Sp := fun vs H Q _ => ∃ (a : Addr) (ds : List Int) (first : Int) (most : Nat), vs = [.ref a, .int first, .int most] ∧ H a = some (.lst (ds.map V.int)) ∧ 0 ≤ first ∧ most ≤ 60 ∧
  ∀ (p : Addr) (H2 : Hp) (row : List Str), Same H H2 → H p = none → H2 p = some (.lst (row.map V.str)) → row.length ≤ most → (∀ k ∈ row, k ∈ P4) → Q (.ref p) H2
theorem ok_row {f fA : Addr} {fd fdA : FuncData} (F : Fun K "_law_row" "_law_row" sRow f fd)
    (GA : FnOk P w K mg base CX0 1 fA fdA ["draws", "k", "many"] (spAt K)) (kA : PySem.W.keepIn K (.ref fA) = true) (bA : Binds K fdA ["draws", "k", "many"] []) (gA : mg "_law_at" = some (.ref fA))
    (mr : mg "range" = none) : FnOk P w K mg base CX0 2 f fd ["draws", "first", "most"] (spRow K) := by
  refine F.ok scRow (fun vs H Q E h => ?_) (fun cdv A outer s H vs Q E hr h => ?_)
  · obtain ⟨a, ds, first, most, rfl, _⟩ := h
    rfl
  · obtain ⟨a, ds, first, most, rfl, ha, f0, m60, q⟩ := h
    refine ⟨_, pss_one (ps_ret (pe_lc (own := [("k", 3)]) (g := gName 3) rfl scRow.nd (pi_range1 rfl mr (pa_cons (pe_call GA hr (by rfl) gA kA bA .nil pass0 (pa_cons (pv 0) (pa_cons (pv 1) (pa_cons (pe_op op_add (pv 2) pe_int) pa_nil)))) pa_nil))
      (blkOk_by (N := ["draws", "first", "most", "k"]) (sc := defScope sRow) (by decide +kernel)) (fun _ _ _ _ _ => pg_name (i := 3) scRow.nd rfl (Or.inl rfl)) (fun _ _ _ _ _ => pts_nil)
      (fun _ _ _ _ _ => pe_ix (r := rIxL K) ix_list (pe_lst (pa_cons pe_str (pa_cons pe_str (pa_cons pe_str (pa_cons pe_str (pa_cons pe_str pa_nil)))))) (pe_call GA hr (by rfl) gA kA bA .nil pass0 (pa_cons (pv 0) (pa_cons (pe_op op_add (pe_op op_add (pv 1) pe_int) (pv 3)) (pa_cons pe_int pa_nil)))) (fun _ _ => rfl)))), ?_⟩
    have n0 : (0 : Int) < (most : Int) + 1 := by omega
    refine ⟨_, rfl, _, rfl, _, rfl, _, _, rfl, rfl, a, ds, first, _, rfl, SqL.of ha, f0, n0, ?_⟩
    have l0 := atD_lo ds first n0
    have l1 := atD_hi ds first n0
    generalize atD ds first ((most : Int) + 1) = n at l0 l1
    refine ⟨n, rfl, by omega, by omega, fun D hD => lc_range (lo := 0) (n := n.toNat) (fun j H' => ∃ row : List Str, Same H H' ∧ H' D = some (.lst (row.map V.str)) ∧ row.length = j ∧ ∀ k ∈ row, k ∈ P4) ⟨[], same_upd hD, upd_same, rfl, fun _ m => nomatch m⟩ ?_ ?_⟩
    · rintro j H' hj ⟨row, s', hd, lr, r4⟩
      refine ⟨rfl, (by show 5 ≤ sizeLine; decide), fun p np => ?_⟩
      have s1 : Same H' (upd H' p (.lst (row5.map V.str))) := same_upd np
      have hp : upd H' p (.lst (row5.map V.str)) p = some (.lst (row5.map V.str)) := upd_same
      show _
      refine ⟨_, rfl, _, rfl, _, _, rfl, rfl, _, rfl, _, _, rfl, rfl, a, ds, _, 5, rfl, SqL.of ((s'.trans s1) _ _ ha), by omega, by decide, ?_⟩
      have k0 := atD_lo ds (first + 1 + (0 + (j : Int))) (show (0 : Int) < 5 by decide)
      have k1 := atD_hi ds (first + 1 + (0 + (j : Int))) (show (0 : Int) < 5 by decide)
      generalize atD ds (first + 1 + (0 + (j : Int))) 5 = x at k0 k1
      obtain ⟨sy, gsy, s4⟩ := pick5 k0 k1
      refine ⟨p, _, _, _, rfl, rfl, SqL.of hp, at_of (j := x.toNat) (by omega) gsy, _, s1 _ _ hd, ?_, row ++ [sy], same_put (s'.trans s1) hD, ?_, ?_, fun k hk => ?_⟩
      · rw [List.length_map]
        exact million1 (by omega)
      · rw [upd_same, List.map_append]
        rfl
      · rw [List.length_append, List.length_singleton, lr]
      · rcases List.mem_append.mp hk with m | m
        · exact r4 k m
        · rw [List.mem_singleton.mp m]
          exact s4
    · rintro H' ⟨row, s', hd, lr, r4⟩
      exact q D H' row s' hD hd (by omega) r4
theorem put_mem {kvs : List (List Key × V)} {k : List Key} {v : V} : ∀ p ∈ putK kvs k v, p ∈ kvs ∨ p = (k, v) := fun p hp => by
  unfold putK at hp
  split at hp
  · obtain ⟨q, hq, e⟩ := List.mem_map.mp hp
    split at e
    · rename_i z
      right
      rw [← e, z]
    · left
      rw [← e]
      exact hq
  · rcases List.mem_append.mp hp with m | m
    · exact .inl m
    · exact .inr (List.mem_singleton.mp m)
theorem put_nodup {kvs : List (List Key × V)} {k : List Key} {v : V} (h : (kvs.map (·.1)).Nodup) : ((putK kvs k v).map (·.1)).Nodup := by
  unfold putK
  split
  · have e : (kvs.map fun kv => if kv.1 = k then (kv.1, v) else kv).map (·.1) = kvs.map (·.1) := by
      rw [List.map_map]
      refine List.map_congr_left fun q hq => ?_
      show (if q.1 = k then (q.1, v) else q).1 = q.1
      split <;> rfl
    rw [e]
    exact h
  · rename_i out
    rw [List.map_append, List.nodup_append]
    refine ⟨h, by simp, fun a ha b hb e => out ?_⟩
    rw [List.map_singleton, List.mem_singleton] at hb
    obtain ⟨q, hq, e2⟩ := List.mem_map.mp ha
    refine List.any_eq_true.mpr ⟨q, hq, decide_eq_true ?_⟩
    rw [e2, e, hb]
/-- exceptions so far -/
structure ExS (kvs : List (List Key × V)) (n : Nat) : Prop where
  ex : ∀ p ∈ kvs, exOk p.1 ∧ ∃ i : Int, 1 ≤ i ∧ i ≤ 1000 ∧ p.2 = .int i
  nd : (kvs.map (·.1)).Nodup
  few : kvs.length ≤ n
theorem ExS.nil (n : Nat) : ExS [] n := ⟨(fun _ m => nomatch m), List.nodup_nil, Nat.zero_le _⟩
theorem ExS.put {kvs : List (List Key × V)} {n : Nat} (h : ExS kvs n) {k : List Key} {i : Int} (hk : exOk k) (h0 : 1 ≤ i) (h1 : i ≤ 1000) : ExS (putK kvs k (.int i)) (n + 1) := by
  refine ⟨fun p hp => ?_, put_nodup h.nd, Nat.le_trans (length_putK _ _ _) (Nat.succ_le_succ h.few)⟩
  rcases put_mem p hp with m | rfl
  · exact h.ex p m
  · exact ⟨hk, i, h0, h1, rfl⟩
theorem ExS.up {kvs : List (List Key × V)} {n : Nat} (h : ExS kvs n) : ExS kvs (n + 1) := ⟨h.ex, h.nd, Nat.le_succ_of_le h.few⟩
theorem scPr : FnScope ["draws", "first", "top", "put", "out", "change", "kinds", "exceptions", "k", "cell", "one", "two", "value"] ["draws", "first"] (defScope sPrices) := ⟨rfl, rfl, rfl, by decide +kernel, rfl, by decide +kernel, by decide +kernel⟩
def spPrices (K : PySem.W.Frag) : Sp := fun vs H Q _ => ∃ (a : Addr) (ds : List Int) (first : Int), vs = [.ref a, .int first] ∧ H a = some (.lst (ds.map V.int)) ∧ 0 ≤ first ∧
  ∀ (t : Addr) (H2 : Hp) (Z : Prc), Same H H2 → H t = none → PrcOk Z → PrA (News H H2) t Z → Q (.ref t) H2
theorem ok_prices {f fA : Addr} {fd fdA : FuncData} (F : Fun K "_law_prices" "_law_prices" sPrices f fd)
    (GA : FnOk P w K mg base CX0 1 fA fdA ["draws", "k", "many"] (spAt K)) (kA : PySem.W.keepIn K (.ref fA) = true) (bA : Binds K fdA ["draws", "k", "many"] []) (gA : mg "_law_at" = some (.ref fA))
    (mr : mg "range" = none) (mi : mg "int" = none) : FnOk P w K mg base CX0 2 f fd ["draws", "first"] (spPrices K) := by
  refine F.ok scPr (fun vs H Q E h => ?_) (fun cdv A outer s H vs Q E hr h => ?_)
  · obtain ⟨a, ds, first, rfl, _⟩ := h
    rfl
  · obtain ⟨a, ds, first, rfl, ha, f0, q⟩ := h
    refine ⟨_, pss_cons (ps_set (i := 2) scPr.nd rfl (.inr rfl) (pe_ix ix_list (pe_lst (pa_cons pe_int (pa_cons pe_int (pa_cons pe_int pa_nil)))) (pe_call GA hr (by rfl) gA kA bA .nil pass0 (pa_cons (pv 0) (pa_cons (pv 1) (pa_cons pe_int pa_nil)))) (fun _ _ => rfl)))
      (pss_cons (ps_asg (pe_lc (own := [("k", 8)]) (g := gName 8) rfl scPr.nd (pi_range1 rfl mr (pa_cons pe_int pa_nil))
          (blkOk_by (N := ["draws", "first", "top", "put", "out", "change", "kinds", "exceptions", "k", "cell", "one", "two", "value"]) (sc := defScope sPrices) (by decide +kernel)) (fun _ _ _ _ _ => pg_name (i := 8) scPr.nd rfl (Or.inl rfl)) (fun _ _ _ _ _ => pts_nil)
          (fun _ _ _ _ _ => pe_op op_add pe_int (pe_call GA hr (by rfl) gA kA bA .nil pass0 (pa_cons (pv 0) (pa_cons (pe_op op_add (pe_op op_add (pv 1) pe_int) (pv 8)) (pa_cons (pv 2) pa_nil))))))
        (pg_unl rfl (pgs_cons (pg_name (i := 3) scPr.nd rfl (.inl rfl)) (pgs_cons (pg_name (i := 4) scPr.nd rfl (.inl rfl)) (pgs_cons (pg_name (i := 5) scPr.nd rfl (.inl rfl)) pgs_nil)))))
      (pss_cons (ps_set (i := 6) scPr.nd rfl (.inl rfl) (pe_lst (pa_cons pe_str (pa_cons pe_str (pa_cons pe_str (pa_cons pe_str pa_nil))))))
      (pss_cons (ps_set (i := 7) scPr.nd rfl (.inl rfl) pe_dnewT)
      (pss_cons (ps_for PassesOwn.never rfl (pi_range1 rfl mr (pa_cons (pe_call GA hr (by rfl) gA kA bA .nil pass0 (pa_cons (pv 0) (pa_cons (pe_op op_add (pv 1) pe_int) (pa_cons pe_int pa_nil)))) pa_nil)) (pg_name (i := 8) scPr.nd rfl (.inl rfl))
        (pss_cons (ps_set (i := 9) scPr.nd rfl (.inl rfl) (pe_call GA hr (by rfl) gA kA bA .nil pass0 (pa_cons (pv 0) (pa_cons (pe_op op_add (pe_op op_add (pv 1) pe_int) (pv 8)) (pa_cons pe_int pa_nil)))))
        (pss_cons (ps_set (i := 10) scPr.nd rfl (.inl rfl) (pe_ix ix_list (pv 6) (pe_op op_mod (pe_callTy call_int1 (by rfl) mi (by decide +kernel) (pa_cons (pe_op op_fdiv (pv 9) pe_int) pa_nil)) pe_int) (fun _ _ => rfl)))
        (pss_cons (ps_set (i := 11) scPr.nd rfl (.inl rfl) (pe_ix ix_list (pv 6) (pe_op op_mod (pe_callTy call_int1 (by rfl) mi (by decide +kernel) (pa_cons (pe_op op_fdiv (pv 9) pe_int) pa_nil)) pe_int) (fun _ _ => rfl)))
        (pss_cons (ps_set (i := 12) scPr.nd rfl (.inl rfl) (pe_op op_add pe_int (pe_op op_mod (pe_callTy call_int1 (by rfl) mi (by decide +kernel) (pa_cons (pe_op op_fdiv (pv 9) pe_int) pa_nil)) (pv 2))))
        (pss_one (ps_if (pt_cmpR op_eq (pe_op op_mod (pe_callTy call_int1 (by rfl) mi (by decide +kernel) (pa_cons (pv 9) pa_nil)) pe_int) pe_int (nomark _))
          (pss_one (ps_dput (units1 hr) (pv 7) (pe_tup (pa_cons pe_str (pa_cons (pv 11) pa_nil))) (pv 12) (by rfl)))
          (pss_one (ps_if (pt_cmpR op_eq (pe_op op_mod (pe_callTy call_int1 (by rfl) mi (by decide +kernel) (pa_cons (pv 9) pa_nil)) pe_int) pe_int (nomark _))
            (pss_one (ps_dput (units1 hr) (pv 7) (pe_tup (pa_cons pe_str (pa_cons (pv 10) pa_nil))) (pv 12) (by rfl)))
            (pss_one (ps_if (pt_cmpR op_ne (pv 10) (pv 11) (nomark _))
              (pss_one (ps_dput (units1 hr) (pv 7) (pe_tup (pa_cons pe_str (pa_cons (pv 10) (pa_cons (pv 11) pa_nil)))) (pv 12) (by rfl))) pss_nil)))))))))))
      (pss_one (ps_ret (pe_tup (pa_cons (pv 3) (pa_cons (pv 4) (pa_cons (pv 5) (pa_cons (pv 7) pa_nil))))))))))), ?_⟩
    refine ⟨(by show 3 ≤ sizeLine; decide), fun p np => ?_⟩
    have s1 : Same H (upd H p (.lst [.int 1, .int 3, .int 1000])) := same_upd np
    have hp : upd H p (.lst [.int 1, .int 3, .int 1000]) p = some (.lst [.int 1, .int 3, .int 1000]) := upd_same
    show _
    generalize upd H p (.lst [.int 1, .int 3, .int 1000]) = H1 at s1 hp
    have three : (0 : Int) < 3 := by decide
    refine ⟨_, rfl, _, rfl, a, ds, first, 3, rfl, SqL.of (s1 _ _ ha), f0, three, ?_⟩
    have t0 := atD_lo ds first three
    have t1 := atD_hi ds first three
    generalize atD ds first 3 = x at t0 t1
    obtain ⟨top, gtop, top0, top1⟩ := pick_top t0 t1
    refine ⟨p, _, _, _, rfl, rfl, SqL.of hp, at_of (j := x.toNat) (by omega) gtop, ?_⟩
    refine ⟨3, rfl, by decide, by decide, fun D hD => lc_range (lo := 0) (n := 3) (fun j H' => ∃ xs : List Int, Same H1 H' ∧ H' D = some (.lst (xs.map V.int)) ∧ xs.length = j ∧ ∀ y ∈ xs, 1 ≤ y ∧ y ≤ 1000) ⟨[], same_upd hD, upd_same, rfl, fun _ m => nomatch m⟩ ?_ ?_⟩
    · rintro j H' hj ⟨xs, s', hd, lx, gx⟩
      have tp : (0 : Int) < top := by omega
      refine ⟨rfl, _, rfl, _, rfl, _, _, rfl, rfl, _, rfl, _, _, rfl, rfl, _, rfl, a, ds, _, top, rfl, SqL.of ((s1.trans s') _ _ ha), by omega, tp, ?_⟩
      have y0 := atD_lo ds (first + 1 + (0 + (j : Int))) tp
      have y1 := atD_hi ds (first + 1 + (0 + (j : Int))) tp
      generalize atD ds (first + 1 + (0 + (j : Int))) top = y at y0 y1
      refine ⟨_, _, rfl, rfl, _, hd, ?_, xs ++ [1 + y], same_put s' hD, ?_, ?_, fun z hz => ?_⟩
      · rw [List.length_map]
        exact million1 (by omega)
      · rw [upd_same, List.map_append]
        rfl
      · rw [List.length_append, List.length_singleton, lx]
      · rcases List.mem_append.mp hz with m | m
        · exact gx z m
        · rw [List.mem_singleton.mp m]
          omega
    · rintro H2 ⟨xs, s2, hd, lx, gx⟩
      obtain ⟨x1, x2, x3, rfl⟩ : ∃ x1 x2 x3, xs = [x1, x2, x3] := by
        match xs, lx with
        | [x1, x2, x3], _ => exact ⟨x1, x2, x3, rfl⟩
      have g1 := gx x1 (by simp)
      have g2 := gx x2 (by simp)
      have g3 := gx x3 (by simp)
      have s02 := s1.trans s2
      refine ⟨D, _, rfl, SqL.of hd, rfl, _, _, rfl, _, _, rfl, _, _, rfl, rfl, ?_⟩
      refine ⟨(by show 4 ≤ sizeLine; decide), fun kl nkl => ?_⟩
      have s3 : Same H2 (upd H2 kl (.lst (P4.map V.str))) := same_upd nkl
      have hkl : upd H2 kl (.lst (P4.map V.str)) kl = some (.lst (P4.map V.str)) := upd_same
      have s03 := s02.trans s3
      show _
      generalize hH3 : upd H2 kl (.lst (P4.map V.str)) = H3 at hkl s03
      have hH3' : upd H2 kl (.lst [V.str "A", V.str "BB", V.str "C", V.str "OTHER"]) = H3 := hH3
      simp only [hH3']
      intro d nd
      have six : (0 : Int) < 6 := by decide
      have s4 : Same H3 (upd H3 d (.dT [])) := same_upd nd
      refine ⟨_, rfl, _, rfl, _, _, rfl, rfl, a, ds, _, 6, rfl, SqL.of (s4 _ _ (s03 _ _ ha)), by omega, six, ?_⟩
      have n0 := atD_lo ds (first + 4) six
      have n1 := atD_hi ds (first + 4) six
      generalize atD ds (first + 4) 6 = n at n0 n1
      refine ⟨n, rfl, by omega, by omega, for_range (lo := 0) (n := n.toNat) (fun i σ H' => ∃ v8 v9 v10 v11 v12 kvs, σ = [some (.ref a), some (.int first), some (.int top), some (.int x1), some (.int x2), some (.int x3), some (.ref kl), some (.ref d), v8, v9, v10, v11, v12] ∧ Same H3 H' ∧ H' d = some (.dT kvs) ∧ ExS kvs i)
        ⟨none, none, none, none, none, [], rfl, s4, upd_same, ExS.nil 0⟩ ?_ ?_⟩
      · rintro i σ H' hi ⟨v8, v9, v10, v11, v12, kvs, rfl, s', hd', ok⟩
        have big : (0 : Int) < 65536 := by decide
        refine ⟨_, rfl, _, rfl, _, _, rfl, rfl, _, rfl, _, _, rfl, rfl, a, ds, _, 65536, rfl, SqL.of (s' _ _ (s03 _ _ ha)), by omega, big, ?_⟩
        generalize atD ds (first + 5 + (0 + (i : Int))) 65536 = cell
        have a0 := Int.emod_nonneg (cell / 3) (show (4 : Int) ≠ 0 by decide)
        have a1 := Int.emod_lt_of_pos (cell / 3) (show (0 : Int) < 4 by decide)
        have b0 := Int.emod_nonneg (cell / 12) (show (3 : Int) ≠ 0 by decide)
        have b1 := Int.emod_lt_of_pos (cell / 12) three
        have c0 := Int.emod_nonneg (cell / 36) (show top ≠ 0 by omega)
        have c1 := Int.emod_lt_of_pos (cell / 36) (show 0 < top by omega)
        obtain ⟨one, gone, one4, _⟩ := pick4 a0 a1
        obtain ⟨two, gtwo, two4, two3⟩ := pick4 b0 (by omega)
        have two3 := two3 b1
        refine ⟨_, rfl, _, rfl, _, _, rfl, rfl, ⟨by decide, by decide⟩, .inl ⟨_, rfl, _, _, rfl, rfl, (by show (0 : Int) < _; decide), kl, _, _, _, rfl, rfl, SqL.of (s' _ _ hkl), at_of (j := (cell / 3 % 4).toNat) (by omega) gone, ?_⟩⟩
        refine ⟨_, rfl, _, rfl, _, _, rfl, rfl, ⟨by decide, by decide⟩, .inl ⟨_, rfl, _, _, rfl, rfl, (by show (0 : Int) < _; decide), kl, _, _, _, rfl, rfl, SqL.of (s' _ _ hkl), at_of (j := (cell / 12 % 3).toNat) (by omega) gtwo, ?_⟩⟩
        refine ⟨_, rfl, _, _, rfl, rfl, ⟨by decide, by decide⟩, .inl ⟨_, rfl, _, rfl, _, _, rfl, rfl, by omega, _, _, rfl, rfl, ?_⟩⟩
        have small : kvs.length < sizeLine := million1 (by have := ok.few; omega)
        refine ⟨_, rfl, .inl ⟨_, rfl, _, _, rfl, rfl, three, rfl, _, rfl, ite2 (fun _ => ?_) (fun _ => ?_)⟩⟩
        · refine ⟨_, rfl, _, rfl, _, rfl, (by show 2 ≤ sizeLine; decide), fun t nt => ?_⟩
          have st : Same H' (upd H' t (.tup [.str "put", .str two])) := same_upd nt
          exact ⟨d, _, rfl, DPut.t (k := [sk "put", sk two]) (st _ _ hd') upd_same small, _, _, _, _, _, _, rfl, same_put (s'.trans st) nd, upd_same, ok.put (.inl ⟨two, two3, rfl⟩) (by omega) (by omega)⟩
        · refine ⟨_, rfl, .inl ⟨_, rfl, _, _, rfl, rfl, three, rfl, _, rfl, ite2 (fun _ => ?_) (fun _ => ?_)⟩⟩
          · refine ⟨_, rfl, _, rfl, _, rfl, (by show 2 ≤ sizeLine; decide), fun t nt => ?_⟩
            have st : Same H' (upd H' t (.tup [.str "out", .str one])) := same_upd nt
            exact ⟨d, _, rfl, DPut.t (k := [sk "out", sk one]) (st _ _ hd') upd_same small, _, _, _, _, _, _, rfl, same_put (s'.trans st) nd, upd_same, ok.put (.inr (.inl ⟨one, one4, rfl⟩)) (by omega) (by omega)⟩
          · refine ⟨_, rfl, _, rfl, rfl, _, rfl, ite2 (fun c => ?_) (fun _ => ?_)⟩
            · have ne : one ≠ two := fun z => by
                rw [z] at c
                simp at c
              refine ⟨_, rfl, _, rfl, _, rfl, _, rfl, (by show 3 ≤ sizeLine; decide), fun t nt => ?_⟩
              have st : Same H' (upd H' t (.tup [.str "change", .str one, .str two])) := same_upd nt
              exact ⟨d, _, rfl, DPut.t (k := [sk "change", sk one, sk two]) (st _ _ hd') upd_same small, _, _, _, _, _, _, rfl, same_put (s'.trans st) nd, upd_same, ok.put (.inr (.inr ⟨one, one4, two, two3, ne, rfl⟩)) (by omega) (by omega)⟩
            · exact ⟨_, _, _, _, _, kvs, rfl, s', hd', ok.up⟩
      · rintro σ H' ⟨v8, v9, v10, v11, v12, kvs, rfl, s', hd', ok⟩
        refine ⟨_, rfl, _, rfl, _, rfl, _, rfl, (by show 4 ≤ sizeLine; decide), fun t nt => ?_⟩
        have st : Same H' (upd H' t (.tup [.int x1, .int x2, .int x3, .ref d])) := same_upd nt
        have sf := (s03.trans s').trans st
        have nd0 : H d = none := s03.free nd
        have nt0 : H t = none := (s03.trans s').free nt
        refine q t _ ⟨x1, x2, x3, kvs⟩ sf nt0 ⟨g1, g2, g3, ok.ex, ok.nd, Nat.le_trans ok.few (by omega)⟩ ⟨d, ?_, ?_⟩
        · rw [news_of nt0]
          exact upd_same
        · rw [news_of nd0]
          exact st _ _ hd'
end
end Ld

set_option Elab.async false
set_option linter.all false
set_option maxRecDepth 100000
set_option maxHeartbeats 4000000
/-! Least costs of trees over stretches: mathematics. Stretches may be known. -/
namespace Lb
open PySem Ld
abbrev Cost := Int × Int
def cle (a b : Cost) : Prop := a.1 < b.1 ∨ (a.1 = b.1 ∧ a.2 ≤ b.2)
def clt (a b : Cost) : Prop := a.1 < b.1 ∨ (a.1 = b.1 ∧ a.2 < b.2)
theorem cle_refl (a : Cost) : cle a a := .inr ⟨rfl, Int.le_refl _⟩
theorem cle_trans {a b c : Cost} (h : cle a b) (k : cle b c) : cle a c := by
  unfold cle at *
  omega
theorem cle_anti {a b : Cost} (h : cle a b) (k : cle b a) : a = b := by
  unfold cle at *
  exact Prod.ext (by omega) (by omega)
theorem cle_of_clt {a b : Cost} (h : clt a b) : cle a b := by
  unfold cle clt at *
  omega
theorem cle_or (a b : Cost) : cle a b ∨ clt b a := by
  unfold cle clt
  omega
theorem clt_not {a b : Cost} (h : clt a b) (k : cle b a) : False := by
  unfold cle clt at *
  omega
theorem clt_of {a b c : Cost} (h : cle a b) (k : clt b c) : clt a c := by
  unfold cle clt at *
  omega
theorem cle_add {a b c d : Cost} (h : cle a b) (k : cle c d) : cle (a.1 + c.1, a.2 + c.2) (b.1 + d.1, b.2 + d.2) := by
  unfold cle at *
  dsimp only
  omega
/-- the least of the costs of S; none where there is none -/
def LeastO (S : Cost → Prop) : Option Cost → Prop
  | none => ∀ c, ¬ S c
  | some c => S c ∧ ∀ d, S d → cle c d
theorem least_one {S : Cost → Prop} {a b : Option Cost} (h : LeastO S a) (k : LeastO S b) : a = b := by
  match a, b with
  | none, none => rfl
  | none, some c => exact (h c k.1).elim
  | some c, none => exact (k c h.1).elim
  | some c, some d => rw [cle_anti (h.2 d k.1) (k.2 c h.1)]
theorem LeastO.up {S : Cost → Prop} {o : Option Cost} (h : LeastO S o) {c : Cost} (m : S c) : ∃ d, o = some d ∧ cle d c := by
  match o with
  | none => exact (h c m).elim
  | some d => exact ⟨d, rfl, h.2 c m⟩
theorem LeastO.mem {S : Cost → Prop} {c : Cost} (h : LeastO S (some c)) : S c := h.1
theorem LeastO.of {S : Cost → Prop} {o : Option Cost} (h1 : ∀ c, o = some c → S c) (h2 : ∀ c, S c → ∃ d, o = some d ∧ cle d c) : LeastO S o := by
  match o with
  | none =>
    intro c m
    obtain ⟨d, e, _⟩ := h2 c m
    cases e
  | some c =>
    refine ⟨h1 c rfl, fun d m => ?_⟩
    obtain ⟨e, q, z⟩ := h2 d m
    rw [Option.some.inj q]
    exact z
theorem least1 {S : Cost → Prop} (pos : ∀ c, S c → 0 ≤ c.1 ∧ 0 ≤ c.2) : ∀ (n : Nat) (c : Cost), S c → c.1.toNat = n → ∃ d, S d ∧ ∀ x, S x → d.1 ≤ x.1 := by
  intro n
  induction n using Nat.strongRecOn with
  | _ n ih =>
    intro c hc e
    by_cases h : ∃ d, S d ∧ d.1 < c.1
    · obtain ⟨d, hd, lt⟩ := h
      have := pos d hd
      exact ih d.1.toNat (by omega) d hd rfl
    · exact ⟨c, hc, fun x hx => Int.not_lt.mp fun z => h ⟨x, hx, z⟩⟩
theorem least2 {S : Cost → Prop} (pos : ∀ c, S c → 0 ≤ c.1 ∧ 0 ≤ c.2) : ∀ (n : Nat) (c : Cost), S c → c.2.toNat = n → ∃ d, S d ∧ ∀ x, S x → d.2 ≤ x.2 := by
  intro n
  induction n using Nat.strongRecOn with
  | _ n ih =>
    intro c hc e
    by_cases h : ∃ d, S d ∧ d.2 < c.2
    · obtain ⟨d, hd, lt⟩ := h
      have := pos d hd
      exact ih d.2.toNat (by omega) d hd rfl
    · exact ⟨c, hc, fun x hx => Int.not_lt.mp fun z => h ⟨x, hx, z⟩⟩
theorem least_ex {S : Cost → Prop} (pos : ∀ c, S c → 0 ≤ c.1 ∧ 0 ≤ c.2) : ∃ o, LeastO S o := by
  by_cases h : ∃ c, S c
  · obtain ⟨c, hc⟩ := h
    obtain ⟨d, hd, le⟩ := least1 pos _ c hc rfl
    obtain ⟨e, ⟨he, e1⟩, le2⟩ := least2 (S := fun x => S x ∧ x.1 = d.1) (fun x hx => pos x hx.1) _ d ⟨hd, rfl⟩ rfl
    refine ⟨some e, he, fun x hx => ?_⟩
    have a := le x hx
    by_cases q : x.1 = d.1
    · have := le2 x ⟨hx, q⟩
      unfold cle
      omega
    · unfold cle
      omega
  · exact ⟨none, fun c hc => h ⟨c, hc⟩⟩
/-- the entries of a stretch -/
structure Ent where
  nm : Str → Option Cost
  rs : Nat → Nat → Option Cost
/-- rules, leaves' prices, which symbols are names, what is known -/
structure Pb where
  G : List Rule
  leaf : Str → Nat → Nat → Int
  isN : Str → Bool
  kn : Nat → Nat → Option Ent
mutual
/-- costs of the trees of a name over a stretch -/
inductive TreeC (B : Pb) : Str → Nat → Nat → Cost → Prop
  | known {N : Str} {i j : Nat} {e : Ent} {c : Cost} : B.kn i j = some e → e.nm N = some c → TreeC B N i j c
  | mk {N : Str} {i j r : Nat} {ss : List Str} {c : Cost} : B.kn i j = none → B.G[r]? = some (N, ss) → RestC B r 0 i j c → TreeC B N i j (c.1, c.2 + 1)
/-- costs of the parts for the symbols of a rule from a dot on -/
inductive RestC (B : Pb) : Nat → Nat → Nat → Nat → Cost → Prop
  | known {r d i j : Nat} {e : Ent} {c : Cost} : B.kn i j = some e → e.rs r d = some c → RestC B r d i j c
  | nil {r d i : Nat} {N : Str} {ss : List Str} : B.kn i i = none → B.G[r]? = some (N, ss) → d = ss.length → RestC B r d i i (0, 0)
  | leaf {r d i j e : Nat} {N k : Str} {ss : List Str} {c : Cost} : B.kn i j = none → B.G[r]? = some (N, ss) → ss[d]? = some k → B.isN k = false → i ≤ e → e ≤ j → RestC B r (d + 1) e j c → RestC B r d i j (B.leaf k i e + c.1, 1 + c.2)
  | tree {r d i j e : Nat} {N k : Str} {ss : List Str} {a c : Cost} : B.kn i j = none → B.G[r]? = some (N, ss) → ss[d]? = some k → B.isN k = true → i ≤ e → e ≤ j → TreeC B k i e a → RestC B r (d + 1) e j c → RestC B r d i j (a.1 + c.1, a.2 + c.2)
end
/-- nothing costs less than nothing -/
structure PbOk (B : Pb) : Prop where
  leaf : ∀ k i e, 0 ≤ B.leaf k i e
  kn : ∀ i j e, B.kn i j = some e → (∀ N c, e.nm N = some c → 0 ≤ c.1 ∧ 0 ≤ c.2) ∧ ∀ r d c, e.rs r d = some c → 0 ≤ c.1 ∧ 0 ≤ c.2
mutual
theorem TreeC.pos {B : Pb} (ok : PbOk B) : ∀ {N : Str} {i j : Nat} {c : Cost}, TreeC B N i j c → 0 ≤ c.1 ∧ 0 ≤ c.2
  | _, _, _, _, .known h k => (ok.kn _ _ _ h).1 _ _ k
  | _, _, _, _, .mk _ _ k => by
    have := RestC.pos ok k
    dsimp only
    omega
theorem RestC.pos {B : Pb} (ok : PbOk B) : ∀ {r d i j : Nat} {c : Cost}, RestC B r d i j c → 0 ≤ c.1 ∧ 0 ≤ c.2
  | _, _, _, _, _, .known h k => (ok.kn _ _ _ h).2 _ _ _ k
  | _, _, _, _, _, .nil _ _ _ => ⟨Int.le_refl _, Int.le_refl _⟩
  | _, _, _, _, _, .leaf (k := k) (i := i) (e := e) _ _ _ _ _ _ z => by
    have := RestC.pos ok z
    have := ok.leaf k i e
    dsimp only
    omega
  | _, _, _, _, _, .tree _ _ _ _ _ _ y z => by
    have := TreeC.pos ok y
    have := RestC.pos ok z
    dsimp only
    omega
end
/-- what the parts of a rule from a dot on cost by the entries of T -/
def CombC (B : Pb) (T : Nat → Nat → Ent) (r d i j : Nat) (c : Cost) : Prop := ∃ N ss, B.G[r]? = some (N, ss) ∧ ((d = ss.length ∧ i = j ∧ c = (0, 0)) ∨
  ∃ (k : Str) (e : Nat) (a b : Cost), ss[d]? = some k ∧ i ≤ e ∧ e ≤ j ∧ (T e j).rs r (d + 1) = some b ∧ ((B.isN k = false ∧ a = (B.leaf k i e, 1)) ∨ (B.isN k = true ∧ (T i e).nm k = some a)) ∧ c = (a.1 + b.1, a.2 + b.2))
structure SoundAt (B : Pb) (e : Ent) (i j : Nat) : Prop where
  nm : ∀ N c, e.nm N = some c → TreeC B N i j c
  rs : ∀ r d c, e.rs r d = some c → RestC B r d i j c
structure LeastAt (B : Pb) (e : Ent) (i j : Nat) : Prop where
  nm : ∀ N, LeastO (TreeC B N i j) (e.nm N)
  rs : ∀ r d, LeastO (RestC B r d i j) (e.rs r d)
theorem LeastAt.sound {B : Pb} {e : Ent} {i j : Nat} (h : LeastAt B e i j) : SoundAt B e i j := by
  refine ⟨fun N c q => ?_, fun r d c q => ?_⟩
  · have := h.nm N
    rw [q] at this
    exact this.1
  · have := h.rs r d
    rw [q] at this
    exact this.1
theorem known_least {B : Pb} {e : Ent} {i j : Nat} (h : B.kn i j = some e) : LeastAt B e i j := by
  constructor
  · intro N
    refine LeastO.of (fun c q => .known h q) fun c m => ?_
    cases m with
    | known h2 q =>
      rw [h] at h2
      rw [Option.some.inj h2]
      exact ⟨c, q, cle_refl c⟩
    | mk h2 _ _ =>
      rw [h] at h2
      cases h2
  · intro r d
    refine LeastO.of (fun c q => .known h q) fun c m => ?_
    cases m with
    | known h2 q =>
      rw [h] at h2
      rw [Option.some.inj h2]
      exact ⟨c, q, cle_refl c⟩
    | nil h2 _ _ =>
      rw [h] at h2
      cases h2
    | leaf h2 _ _ _ _ _ _ =>
      rw [h] at h2
      cases h2
    | tree h2 _ _ _ _ _ _ _ =>
      rw [h] at h2
      cases h2
/-- the table T with e at one stretch -/
def wi (T : Nat → Nat → Ent) (i j : Nat) (e : Ent) : Nat → Nat → Ent := fun a b => if a = i ∧ b = j then e else T a b
theorem wi_same {T : Nat → Nat → Ent} {i j : Nat} {e : Ent} : wi T i j e i j = e := if_pos ⟨rfl, rfl⟩
theorem wi_other {T : Nat → Nat → Ent} {i j a b : Nat} {e : Ent} (h : ¬ (a = i ∧ b = j)) : wi T i j e a b = T a b := if_neg h
section
variable {B : Pb} {T : Nat → Nat → Ent} {i j : Nat}
/-- all stretches within, but this one, are done -/
def Short (B : Pb) (T : Nat → Nat → Ent) (i j : Nat) : Prop := ∀ a b, i ≤ a → a ≤ b → b ≤ j → ¬ (a = i ∧ b = j) → LeastAt B (T a b) a b
theorem Short.sound (h : Short B T i j) {e : Ent} (s : SoundAt B e i j) {a b : Nat} (h1 : i ≤ a) (h2 : a ≤ b) (h3 : b ≤ j) : SoundAt B (wi T i j e a b) a b := by
  by_cases q : a = i ∧ b = j
  · rw [q.1, q.2, wi_same]
    exact s
  · rw [wi_other q]
    exact (h a b h1 h2 h3 q).sound
theorem comb_sound (short : Short B T i j) (hk : B.kn i j = none) {e : Ent} (s : SoundAt B e i j) {r d : Nat} {c : Cost} (h : CombC B (wi T i j e) r d i j c) : RestC B r d i j c := by
  obtain ⟨N, ss, hr, ⟨e1, e2, e3⟩ | ⟨k, f, a, b, hs, h1, h2, hb, ha, rfl⟩⟩ := h
  · subst e2
    rw [e3]
    exact .nil hk hr e1
  · have rb := (short.sound s h1 h2 (Nat.le_refl j)).rs _ _ _ hb
    rcases ha with ⟨n, rfl⟩ | ⟨n, q⟩
    · exact .leaf hk hr hs n h1 h2 rb
    · exact .tree hk hr hs n h1 h2 ((short.sound s (Nat.le_refl i) h1 h2).nm _ _ q) rb
/-- names of cost within A have their entries -/
def NB (B : Pb) (i j : Nat) (A : Cost → Prop) (e : Ent) : Prop := ∀ N c, TreeC B N i j c → A c → ∃ d, e.nm N = some d ∧ cle d c
def RB (B : Pb) (i j : Nat) (A : Cost → Prop) (e : Ent) (r d : Nat) : Prop := ∀ c, RestC B r d i j c → A (c.1, c.2 + 1) → ∃ x, e.rs r d = some x ∧ cle x c
/-- A holds what is less than something in A' -/
structure Under (A A' : Cost → Prop) : Prop where
  lt : ∀ a b, A' a → clt b a → A b
  le : ∀ a b, A' a → cle b a → A' b
theorem rest_bound (ok : PbOk B) (short : Short B T i j) (hk : B.kn i j = none) {e : Ent} {A A' : Cost → Prop} (U : Under A A') (nb : NB B i j A e) {r d : Nat} (next : RB B i j A' e r (d + 1)) {o : Option Cost} (ho : LeastO (CombC B (wi T i j e) r d i j) o) :
    ∀ c, RestC B r d i j c → A' (c.1, c.2 + 1) → ∃ x, o = some x ∧ cle x c := by
  have down : ∀ {f : Nat} {c : Cost}, i ≤ f → f ≤ j → RestC B r (d + 1) f j c → (f = i → A' (c.1, c.2 + 1)) → ∃ x, (wi T i j e f j).rs r (d + 1) = some x ∧ cle x c := fun {f c} h1 h2 z q => by
    by_cases w : f = i ∧ j = j
    · rw [w.1, wi_same]
      rw [w.1] at z
      exact next c z (q w.1)
    · rw [wi_other w]
      exact ((short f j h1 h2 (Nat.le_refl j) w).rs r (d + 1)).up z
  intro c hc ha
  cases hc with
  | known h _ =>
    rw [hk] at h
    cases h
  | nil _ hr hd => exact ho.up ⟨_, _, hr, .inl ⟨hd, rfl, rfl⟩⟩
  | leaf h0 hr hs hn h1 h2 z =>
    rename_i f N k ss c
    have p0 := ok.leaf k i f
    obtain ⟨x, ex, lx⟩ := down h1 h2 z fun _ => U.le _ _ ha (by unfold cle; dsimp only; omega)
    obtain ⟨y, ey, ly⟩ := ho.up ⟨N, ss, hr, .inr ⟨k, f, (B.leaf k i f, 1), x, hs, h1, h2, ex, .inl ⟨hn, rfl⟩, rfl⟩⟩
    exact ⟨y, ey, cle_trans ly (cle_add (cle_refl (B.leaf k i f, 1)) lx)⟩
  | tree h0 hr hs hn h1 h2 t z =>
    rename_i f N k ss a c
    have pa := TreeC.pos ok t
    have pc := RestC.pos ok z
    obtain ⟨x, ex, lx⟩ := down h1 h2 z fun _ => U.le _ _ ha (by unfold cle; dsimp only; omega)
    obtain ⟨y, ey, ly⟩ : ∃ y, (wi T i j e i f).nm k = some y ∧ cle y a := by
      by_cases w : i = i ∧ f = j
      · rw [w.2, wi_same]
        rw [w.2] at t
        exact nb k a t (U.lt _ _ ha (by unfold clt; dsimp only; omega))
      · rw [wi_other w]
        exact ((short i f (Nat.le_refl i) h1 h2 w).nm k).up t
    obtain ⟨v, ev, lv⟩ := ho.up ⟨N, ss, hr, .inr ⟨k, f, y, x, hs, h1, h2, ex, .inr ⟨hn, ey⟩, rfl⟩⟩
    exact ⟨v, ev, cle_trans lv (cle_add ly lx)⟩
end
end Lb

set_option Elab.async false
set_option linter.all false
set_option maxRecDepth 100000
set_option maxHeartbeats 4000000
/-! Entries that are bettered in rounds: when they are the least ones. -/
namespace Lb
open PySem Ld
section
variable {B : Pb} {T : Nat → Nat → Ent} {i j : Nat} {e : Ent}
mutual
theorem closedT (short : Short B T i j) (hk : B.kn i j = none) (crs : ∀ r d, LeastO (CombC B (wi T i j e) r d i j) (e.rs r d)) (cnm : ∀ r N ss c, B.G[r]? = some (N, ss) → e.rs r 0 = some c → ∃ x, e.nm N = some x ∧ cle x (c.1, c.2 + 1)) :
    ∀ {N : Str} {a b : Nat} {c : Cost}, TreeC B N a b c → i ≤ a → a ≤ b → b ≤ j → ∃ x, (wi T i j e a b).nm N = some x ∧ cle x c
  | N, a, b, c, .known h q, h1, h2, h3 => by
    by_cases w : a = i ∧ b = j
    · rw [w.1, w.2, hk] at h
      cases h
    · rw [wi_other w]
      exact ((short a b h1 h2 h3 w).nm N).up (.known h q)
  | N, a, b, _, .mk (c := c) h0 hr z, h1, h2, h3 => by
    by_cases w : a = i ∧ b = j
    · obtain ⟨x, ex, lx⟩ := closedR short hk crs cnm z h1 h2 h3
      rw [w.1, w.2, wi_same] at ex ⊢
      obtain ⟨y, ey, ly⟩ := cnm _ _ _ _ hr ex
      refine ⟨y, ey, cle_trans ly ?_⟩
      unfold cle at *
      dsimp only
      omega
    · rw [wi_other w]
      exact ((short a b h1 h2 h3 w).nm N).up (.mk h0 hr z)
theorem closedR (short : Short B T i j) (hk : B.kn i j = none) (crs : ∀ r d, LeastO (CombC B (wi T i j e) r d i j) (e.rs r d)) (cnm : ∀ r N ss c, B.G[r]? = some (N, ss) → e.rs r 0 = some c → ∃ x, e.nm N = some x ∧ cle x (c.1, c.2 + 1)) :
    ∀ {r d a b : Nat} {c : Cost}, RestC B r d a b c → i ≤ a → a ≤ b → b ≤ j → ∃ x, (wi T i j e a b).rs r d = some x ∧ cle x c
  | r, d, a, b, c, .known h q, h1, h2, h3 => by
    by_cases w : a = i ∧ b = j
    · rw [w.1, w.2, hk] at h
      cases h
    · rw [wi_other w]
      exact ((short a b h1 h2 h3 w).rs r d).up (.known h q)
  | r, d, a, _, _, .nil h0 hr hd, h1, h2, h3 => by
    by_cases w : a = i ∧ a = j
    · obtain ⟨w1, w2⟩ := w
      subst w1
      subst w2
      rw [wi_same]
      exact (crs r d).up ⟨_, _, hr, .inl ⟨hd, rfl, rfl⟩⟩
    · rw [wi_other w]
      exact ((short a a h1 h2 h3 w).rs r d).up (.nil h0 hr hd)
  | r, d, a, b, _, .leaf (e := f) (k := k) (c := c) h0 hr hs hn k1 k2 z, h1, h2, h3 => by
    by_cases w : a = i ∧ b = j
    · obtain ⟨x, ex, lx⟩ := closedR short hk crs cnm z (Nat.le_trans h1 k1) k2 h3
      obtain ⟨w1, w2⟩ := w
      subst w1
      subst w2
      rw [wi_same]
      obtain ⟨y, ey, ly⟩ := (crs r d).up ⟨_, _, hr, .inr ⟨k, f, (B.leaf k a f, 1), x, hs, k1, k2, ex, .inl ⟨hn, rfl⟩, rfl⟩⟩
      exact ⟨y, ey, cle_trans ly (cle_add (cle_refl (B.leaf k a f, 1)) lx)⟩
    · rw [wi_other w]
      exact ((short a b h1 h2 h3 w).rs r d).up (.leaf h0 hr hs hn k1 k2 z)
  | r, d, a, b, _, .tree (e := f) (k := k) (a := ca) (c := c) h0 hr hs hn k1 k2 t z, h1, h2, h3 => by
    by_cases w : a = i ∧ b = j
    · obtain ⟨x, ex, lx⟩ := closedR short hk crs cnm z (Nat.le_trans h1 k1) k2 h3
      obtain ⟨y, ey, ly⟩ := closedT short hk crs cnm t h1 k1 (Nat.le_trans k2 h3)
      obtain ⟨w1, w2⟩ := w
      subst w1
      subst w2
      rw [wi_same]
      obtain ⟨v, ev, lv⟩ := (crs r d).up ⟨_, _, hr, .inr ⟨k, f, y, x, hs, k1, k2, ex, .inr ⟨hn, ey⟩, rfl⟩⟩
      exact ⟨v, ev, cle_trans lv (cle_add ly lx)⟩
    · rw [wi_other w]
      exact ((short a b h1 h2 h3 w).rs r d).up (.tree h0 hr hs hn k1 k2 t z)
end
/-- entries that no round betters are the least ones -/
theorem closed_least (ij : i ≤ j) (short : Short B T i j) (hk : B.kn i j = none) (snd : SoundAt B e i j) (crs : ∀ r d, LeastO (CombC B (wi T i j e) r d i j) (e.rs r d))
    (cnm : ∀ r N ss c, B.G[r]? = some (N, ss) → e.rs r 0 = some c → ∃ x, e.nm N = some x ∧ cle x (c.1, c.2 + 1)) : LeastAt B e i j := by
  refine ⟨fun N => LeastO.of (snd.nm N) fun c m => ?_, fun r d => LeastO.of (snd.rs r d) fun c m => ?_⟩
  · obtain ⟨x, ex, lx⟩ := closedT short hk crs cnm m (Nat.le_refl i) ij (Nat.le_refl j)
    rw [wi_same] at ex
    exact ⟨x, ex, lx⟩
  · obtain ⟨x, ex, lx⟩ := closedR short hk crs cnm m (Nat.le_refl i) ij (Nat.le_refl j)
    rw [wi_same] at ex
    exact ⟨x, ex, lx⟩
theorem rest_in (hk : B.kn i j = none) {r d : Nat} {c : Cost} (h : RestC B r d i j c) : ∃ N ss, B.G[r]? = some (N, ss) ∧ d ≤ ss.length := by
  cases h with
  | known h _ =>
    rw [hk] at h
    cases h
  | nil _ hr hd => exact ⟨_, _, hr, Nat.le_of_eq hd⟩
  | leaf _ hr hs _ _ _ _ => exact ⟨_, _, hr, Nat.le_of_lt (List.getElem?_eq_some_iff.mp hs).1⟩
  | tree _ hr hs _ _ _ _ _ => exact ⟨_, _, hr, Nat.le_of_lt (List.getElem?_eq_some_iff.mp hs).1⟩
def setR (e : Ent) (r d : Nat) (o : Option Cost) : Ent := ⟨e.nm, fun a b => if a = r ∧ b = d then o else e.rs a b⟩
def setN (e : Ent) (N : Str) (o : Option Cost) : Ent := ⟨fun M => if M = N then o else e.nm M, e.rs⟩
/-- within a round: the rules before r, and r from the dot d on, are made -/
structure RInv (B : Pb) (i j : Nat) (e0 e : Ent) (r d : Nat) : Prop where
  snd : SoundAt B e i j
  mono : ∀ N c, e0.nm N = some c → ∃ x, e.nm N = some x ∧ cle x c
  up : ∀ A A', Under A A' → NB B i j A e0 → NB B i j A e ∧ (∀ a b, a < r → RB B i j A' e a b) ∧ (∀ b, d ≤ b → RB B i j A' e r b) ∧
    ∀ a N ss c, a < r → B.G[a]? = some (N, ss) → RestC B a 0 i j c → A' (c.1, c.2 + 1) → ∃ x, e.nm N = some x ∧ cle x (c.1, c.2 + 1)
theorem RInv.start (snd : SoundAt B e i j) {d : Nat} (out : ∀ b c, d ≤ b → ¬ RestC B 0 b i j c) : RInv B i j e e 0 d :=
  ⟨snd, fun N c h => ⟨c, h, cle_refl c⟩, fun A A' U nb => ⟨nb, fun a b h => absurd h (Nat.not_lt_zero a), fun b h c m => (out b c h m).elim, fun a N ss c h => absurd h (Nat.not_lt_zero a)⟩⟩
theorem RInv.rest (ok : PbOk B) (short : Short B T i j) (hk : B.kn i j = none) {e0 : Ent} {r d : Nat} (h : RInv B i j e0 e r (d + 1)) {o : Option Cost} (ho : LeastO (CombC B (wi T i j e) r d i j) o) : RInv B i j e0 (setR e r d o) r d := by
  refine ⟨⟨h.snd.nm, fun a b c q => ?_⟩, h.mono, fun A A' U nb => ?_⟩
  · change (if a = r ∧ b = d then o else e.rs a b) = some c at q
    split at q
    · rename_i w
      rw [w.1, w.2]
      rw [q] at ho
      exact comb_sound short hk h.snd ho.1
    · exact h.snd.rs a b c q
  · obtain ⟨u1, u2, u3, u4⟩ := h.up A A' U nb
    refine ⟨u1, fun a b lt c m ha => ?_, fun b le c m ha => ?_, u4⟩
    · obtain ⟨x, ex, lx⟩ := u2 a b lt c m ha
      refine ⟨x, ?_, lx⟩
      show (if a = r ∧ b = d then o else e.rs a b) = some x
      rw [if_neg (by omega)]
      exact ex
    · by_cases w : b = d
      · rw [w] at m ⊢
        obtain ⟨x, ex, lx⟩ := rest_bound ok short hk U u1 (u3 (d + 1) (Nat.le_refl _)) ho c m ha
        refine ⟨x, ?_, lx⟩
        show (if r = r ∧ d = d then o else e.rs r d) = some x
        rw [if_pos ⟨rfl, rfl⟩]
        exact ex
      · obtain ⟨x, ex, lx⟩ := u3 b (by omega) c m ha
        refine ⟨x, ?_, lx⟩
        show (if r = r ∧ b = d then o else e.rs r b) = some x
        rw [if_neg (by omega)]
        exact ex
/-- the name of a rule, looked at behind its rests: o is what stands at the name then -/
theorem RInv.name (hk : B.kn i j = none) {e0 : Ent} {r d : Nat} {N : Str} {ss : List Str} (h : RInv B i j e0 e r 0) (hr : B.G[r]? = some (N, ss)) {o : Option Cost} (own : ∀ c, o = some c → e.nm N = some c ∨ ∃ x, e.rs r 0 = some x ∧ c = (x.1, x.2 + 1))
    (old : ∀ c, e.nm N = some c → ∃ x, o = some x ∧ cle x c) (new : ∀ c, e.rs r 0 = some c → ∃ x, o = some x ∧ cle x (c.1, c.2 + 1)) (out : ∀ b c, d ≤ b → ¬ RestC B (r + 1) b i j c) : RInv B i j e0 (setN e N o) (r + 1) d := by
  have less : ∀ M c, e.nm M = some c → ∃ x, (setN e N o).nm M = some x ∧ cle x c := fun M c q => by
    show ∃ x, (if M = N then o else e.nm M) = some x ∧ cle x c
    by_cases w : M = N
    · rw [if_pos w]
      rw [w] at q
      exact old c q
    · rw [if_neg w]
      exact ⟨c, q, cle_refl c⟩
  have more : ∀ {M : Str} {c : Cost}, (∃ x, e.nm M = some x ∧ cle x c) → ∃ x, (setN e N o).nm M = some x ∧ cle x c := fun {M c} ⟨x, ex, lx⟩ => by
    obtain ⟨y, ey, ly⟩ := less M x ex
    exact ⟨y, ey, cle_trans ly lx⟩
  refine ⟨⟨fun M c q => ?_, h.snd.rs⟩, fun M c q => ?_, fun A A' U nb => ?_⟩
  · change (if M = N then o else e.nm M) = some c at q
    split at q
    · rename_i w
      rw [w]
      rcases own c q with z | ⟨x, ex, rfl⟩
      · exact h.snd.nm N c z
      · exact .mk hk hr (h.snd.rs r 0 x ex)
    · exact h.snd.nm M c q
  · exact more (h.mono M c q)
  · obtain ⟨u1, u2, u3, u4⟩ := h.up A A' U nb
    refine ⟨fun M c m ha => more (u1 M c m ha), fun a b lt => ?_, fun b le c m => (out b c le m).elim, fun a M ts c lt ha m hb => ?_⟩
    · rcases Nat.lt_succ_iff_lt_or_eq.mp lt with q | q
      · exact u2 a b q
      · rw [q]
        exact u3 b (Nat.zero_le b)
    · rcases Nat.lt_succ_iff_lt_or_eq.mp lt with q | q
      · exact more (u4 a M ts c q ha m hb)
      · rw [q] at ha m
        rw [hr] at ha
        obtain ⟨e1, e2⟩ := Prod.mk.inj (Option.some.inj ha)
        obtain ⟨x, ex, lx⟩ := u3 0 (Nat.le_refl 0) c m hb
        obtain ⟨y, ey, ly⟩ := new x ex
        refine ⟨y, ?_, cle_trans ly ?_⟩
        · show (if M = N then o else e.nm M) = some y
          rw [if_pos e1.symm]
          exact ey
        · unfold cle at *
          dsimp only
          omega
/-- what a whole round gives -/
structure RoundOk (B : Pb) (i j : Nat) (e0 e : Ent) : Prop where
  snd : SoundAt B e i j
  mono : ∀ N c, e0.nm N = some c → ∃ x, e.nm N = some x ∧ cle x c
  up : ∀ A A', Under A A' → NB B i j A e0 → NB B i j A' e ∧ ∀ r d, RB B i j A' e r d
theorem RInv.all (hk : B.kn i j = none) {e0 : Ent} {d : Nat} (h : RInv B i j e0 e B.G.length d) : RoundOk B i j e0 e := by
  refine ⟨h.snd, h.mono, fun A A' U nb => ?_⟩
  obtain ⟨u1, u2, u3, u4⟩ := h.up A A' U nb
  refine ⟨fun N c m ha => ?_, fun r d c m ha => ?_⟩
  · cases m with
    | known q _ =>
      rw [hk] at q
      cases q
    | mk _ hr z => exact u4 _ _ _ _ (List.getElem?_eq_some_iff.mp hr).1 hr z ha
  · obtain ⟨N, ss, hr, _⟩ := rest_in hk m
    exact u2 r d (List.getElem?_eq_some_iff.mp hr).1 c m ha
theorem countP_less {α : Type} {p q : α → Bool} : ∀ {l : List α}, (∀ x ∈ l, p x = true → q x = true) → ∀ {a : α}, a ∈ l → q a = true → p a = false → l.countP p + 1 ≤ l.countP q
  | x :: l, h, a, ha, hq, hp => by
    have le : l.countP p ≤ l.countP q := List.countP_mono_left fun y hy => h y (List.mem_cons_of_mem _ hy)
    rw [List.countP_cons, List.countP_cons]
    rcases List.mem_cons.mp ha with e | m
    · rw [← e, hp, hq]
      simp
      omega
    · have := countP_less (fun y hy => h y (List.mem_cons_of_mem _ hy)) m hq hp
      by_cases z : p x = true
      · rw [z, h x List.mem_cons_self z]
        simp
        omega
      · rw [if_neg z]
        split <;> omega
open Classical in
/-- names whose entry is not the least one yet -/
noncomputable def nfin (B : Pb) (i j : Nat) (Ns : List Str) (e : Ent) : Nat := Ns.countP fun N => !decide (LeastO (TreeC B N i j) (e.nm N))
theorem tree_in (hk : B.kn i j = none) {Ns : List Str} (cover : ∀ (r : Nat) N ss, B.G[r]? = some (N, ss) → N ∈ Ns) {N : Str} {c : Cost} (h : TreeC B N i j c) : N ∈ Ns := by
  cases h with
  | known q _ =>
    rw [hk] at q
    cases q
  | mk _ hr _ => exact cover _ _ _ hr
theorem RoundOk.final {e0 : Ent} (h : RoundOk B i j e0 e) (s0 : SoundAt B e0 i j) {N : Str} (f : LeastO (TreeC B N i j) (e0.nm N)) : LeastO (TreeC B N i j) (e.nm N) := by
  refine LeastO.of (h.snd.nm N) fun c m => ?_
  obtain ⟨x, ex, lx⟩ := f.up m
  obtain ⟨y, ey, ly⟩ := h.mono N x ex
  exact ⟨y, ey, cle_trans ly lx⟩
open Classical in
theorem RoundOk.fewer (ok : PbOk B) (hk : B.kn i j = none) {Ns : List Str} (cover : ∀ (r : Nat) N ss, B.G[r]? = some (N, ss) → N ∈ Ns) {e0 : Ent} (s0 : SoundAt B e0 i j) (h : RoundOk B i j e0 e) : nfin B i j Ns e ≤ nfin B i j Ns e0 - 1 := by
  have stay : ∀ N ∈ Ns, (!decide (LeastO (TreeC B N i j) (e.nm N))) = true → (!decide (LeastO (TreeC B N i j) (e0.nm N))) = true := fun N _ q => by
    by_cases f : LeastO (TreeC B N i j) (e0.nm N)
    · rw [decide_eq_true (h.final s0 f)] at q
      cases q
    · rw [decide_eq_false f]
      rfl
  by_cases z : ∃ N ∈ Ns, ¬ LeastO (TreeC B N i j) (e0.nm N)
  · have some_of : ∀ {N : Str}, ¬ LeastO (TreeC B N i j) (e0.nm N) → ∃ c, LeastO (TreeC B N i j) (some c) := fun {N} nf => by
      obtain ⟨o, ho⟩ := least_ex (S := TreeC B N i j) fun c m => TreeC.pos ok m
      cases o with
      | some c => exact ⟨c, ho⟩
      | none =>
        refine (nf ?_).elim
        cases q : e0.nm N with
        | none => exact ho
        | some c => exact (ho c (s0.nm N c q)).elim
    obtain ⟨o, ho⟩ := least_ex (S := fun c => ∃ N ∈ Ns, ¬ LeastO (TreeC B N i j) (e0.nm N) ∧ LeastO (TreeC B N i j) (some c)) fun c ⟨N, _, _, m⟩ => TreeC.pos ok m.1
    cases o with
    | none =>
      obtain ⟨N, hN, nf⟩ := z
      obtain ⟨c, hc⟩ := some_of nf
      exact (ho c ⟨N, hN, nf, hc⟩).elim
    | some c =>
      obtain ⟨⟨N, hN, nf, hc⟩, low⟩ := ho
      have nb : NB B i j (fun x => clt x c) e0 := fun M x m lt => by
        by_cases f : LeastO (TreeC B M i j) (e0.nm M)
        · exact f.up m
        · obtain ⟨y, hy⟩ := some_of f
          have l1 := low y ⟨M, tree_in hk cover m, f, hy⟩
          exact (clt_not lt (cle_trans l1 (hy.2 x m))).elim
      have U : Under (fun x => clt x c) (fun x => cle x c) := ⟨fun a b h1 h2 => by unfold clt cle at *; omega, fun a b h1 h2 => cle_trans h2 h1⟩
      obtain ⟨u1, _⟩ := h.up _ _ U nb
      have fin : LeastO (TreeC B N i j) (e.nm N) := LeastO.of (h.snd.nm N) fun x m => by
        obtain ⟨y, ey, ly⟩ := u1 N c hc.1 (cle_refl c)
        exact ⟨y, ey, cle_trans ly (hc.2 x m)⟩
      have := countP_less stay hN (by rw [decide_eq_false nf]; rfl) (by rw [decide_eq_true fin]; rfl)
      unfold nfin
      omega
  · have all : nfin B i j Ns e = 0 := by
      unfold nfin
      refine List.countP_eq_zero.mpr fun N hN q => ?_
      by_cases f : LeastO (TreeC B N i j) (e0.nm N)
      · rw [decide_eq_true (h.final s0 f)] at q
        cases q
      · exact z ⟨N, hN, f⟩
    omega
open Classical in
theorem RoundOk.done (hk : B.kn i j = none) {Ns : List Str} (cover : ∀ (r : Nat) N ss, B.G[r]? = some (N, ss) → N ∈ Ns) {e0 : Ent} (h : RoundOk B i j e0 e) (z : nfin B i j Ns e0 = 0) : LeastAt B e i j := by
  have fin : ∀ N ∈ Ns, LeastO (TreeC B N i j) (e0.nm N) := fun N hN => by
    unfold nfin at z
    have q := List.countP_eq_zero.mp z N hN
    by_cases f : LeastO (TreeC B N i j) (e0.nm N)
    · exact f
    · rw [decide_eq_false f] at q
      exact (q rfl).elim
  obtain ⟨u1, u2⟩ := h.up (fun _ => True) (fun _ => True) ⟨fun _ _ _ _ => trivial, fun _ _ _ _ => trivial⟩ fun N c m _ => (fin N (tree_in hk cover m)).up m
  exact ⟨fun N => LeastO.of (h.snd.nm N) fun c m => u1 N c m trivial, fun r d => LeastO.of (h.snd.rs r d) fun c m => u2 r d c m trivial⟩
/-- behind t rounds, where there are m names -/
structure Prog (B : Pb) (i j : Nat) (Ns : List Str) (t : Nat) (e : Ent) : Prop where
  snd : SoundAt B e i j
  few : nfin B i j Ns e ≤ Ns.length - t
  done : Ns.length + 1 ≤ t → LeastAt B e i j
theorem Prog.start (Ns : List Str) (snd : SoundAt B e i j) : Prog B i j Ns 0 e := by
  refine ⟨snd, ?_, fun h => absurd h (Nat.not_succ_le_zero _)⟩
  unfold nfin
  exact List.countP_le_length
theorem Prog.step (ok : PbOk B) (hk : B.kn i j = none) {Ns : List Str} (cover : ∀ (r : Nat) N ss, B.G[r]? = some (N, ss) → N ∈ Ns) {t : Nat} {e0 : Ent} (h : Prog B i j Ns t e0) (k : RoundOk B i j e0 e) : Prog B i j Ns (t + 1) e := by
  refine ⟨k.snd, ?_, fun q => k.done hk cover (Ns := Ns) ?_⟩
  · have := k.fewer ok hk cover h.snd
    have := h.few
    omega
  · have := h.few
    omega
end
end Lb

set_option Elab.async false
set_option linter.all false
set_option maxRecDepth 100000
set_option maxHeartbeats 4000000
/-! x < y of data; costs, entries and tables in the heap. -/
namespace Ld
open PySem PySem.Spec PyProof.Rows L2 Lr Lb
def rLtD (K : PySem.W.Frag) : R2 := fun x y H Q => ∃ d e, Dp K H x d ∧ Dp K H y e ∧ PySem.W.alike d e = true ∧ d ≠ .none ∧ d.depth ≤ 64 ∧ Q (.bl (PySem.W.dataLt d e)) H
theorem op_ltD {X : Cx} (hu : X.A.units + 65 < cLine) : OpR X (compareOp .Lt) (rLtD X.K) := by
  intro pins s σ H x y v u Q I rx ry h
  obtain ⟨d, e, hd, he, al, nn, dep, q⟩ := h
  obtain ⟨as, r1⟩ := Dp.reads I d x v hd rx
  obtain ⟨bs, r2⟩ := Dp.reads I e y u he ry
  have : min d.depth e.depth ≤ d.depth := Nat.min_le_left _ _
  exact PySem.W.rcLt_alike d e X.A s v u as bs r1 r2 al nn (by omega) X.prog X.w X.xe _ ⟨.bl _, H, I, rfl, q⟩
/-- a cost as data -/
def cD (c : Cost) : PyData := .tuple [.int c.1, .int c.2]
open PySem.W in
theorem cost_lt (a b : Cost) : dataLt (cD a) (cD b) = decide (a.1 < b.1 ∨ (a.1 = b.1 ∧ a.2 < b.2)) := by
  unfold cD
  rw [dataLt_tuple]
  have al : ∀ x y : Int, alike (.int x) (.int y) = true := fun x y => by simp [alike]
  by_cases e : a.1 = b.1
  · have ev : PyData.eqv (.int a.1) (.int b.1) = true := by simp [PyData.eqv, e]
    rw [dataLt_all_yes (al _ _) ev]
    by_cases e2 : a.2 = b.2
    · have ev2 : PyData.eqv (.int a.2) (.int b.2) = true := by simp [PyData.eqv, e2]
      rw [dataLt_all_yes (al _ _) ev2]
      rw [show lexLt itemOrd (keyToksAll []) (keyToksAll []) = false from by decide +kernel]
      refine (decide_eq_false ?_).symm
      omega
    · have ev2 : PyData.eqv (.int a.2) (.int b.2) = false := by simp [PyData.eqv, e2]
      rw [dataLt_all_no (al _ _) ev2, dataLt_int, Bool.eq_iff_iff, decide_eq_true_eq, decide_eq_true_eq]
      omega
  · have ev : PyData.eqv (.int a.1) (.int b.1) = false := by simp [PyData.eqv, e]
    rw [dataLt_all_no (al _ _) ev, dataLt_int, Bool.eq_iff_iff, decide_eq_true_eq, decide_eq_true_eq]
    omega
theorem cD_alike (a b : Cost) : PySem.W.alike (cD a) (cD b) = true := by simp [cD, PySem.W.alike, PySem.W.alikeAll]
theorem cD_shaped (a : Cost) : SeqAt.shaped (cD a) = true := by
  refine shaped_mk ?_ (by simp [cD, PyData.depth, PyData.depthAll])
  simp [cD, PyData.canLay0, PyData.canLayAll0]
/-- the value of a cost, or None -/
def CostV (H : Hp) (v : V) : Option Cost → Prop
  | none => v = .non
  | some c => ∃ t, v = .ref t ∧ H t = some (.tup [.int c.1, .int c.2])
theorem CostV.up {A B : Hp} (u : Up A B) {v : V} : ∀ {o : Option Cost}, CostV A v o → CostV B v o
  | none, h => h
  | some _, ⟨t, e, h⟩ => ⟨t, e, u.tup h⟩
theorem CostV.dp {K : PySem.W.Frag} {H : Hp} {v : V} {c : Cost} (h : CostV H v (some c)) : Dp K H v (cD c) := by
  obtain ⟨t, rfl, h⟩ := h
  exact .tup (SqT.of h) (.cons (.int _) (.cons (.int _) .nil))
def kN (N : Str) : List Key := [sk "name", sk N]
def kR (r d : Nat) : List Key := [sk "rest", Sum.inl (r : Int), Sum.inl (d : Int)]
def kS (i j : Nat) : List Key := [Sum.inl (i : Int), Sum.inl (j : Int)]
theorem kN_ne (N : Str) (r d : Nat) : kN N ≠ kR r d := fun h => by
  have := congrArg List.length h
  cases this
theorem kN_inj {N M : Str} (h : kN N = kN M) : N = M := by
  unfold kN at h
  simp at h
  exact h
theorem kR_inj {r d r2 d2 : Nat} (h : kR r d = kR r2 d2) : r = r2 ∧ d = d2 := by
  unfold kR at h
  simp at h
  exact ⟨Int.ofNat_inj.mp h.1, Int.ofNat_inj.mp h.2⟩
theorem kS_inj {i j a b : Nat} (h : kS i j = kS a b) : i = a ∧ j = b := by
  unfold kS at h
  simp at h
  exact ⟨Int.ofNat_inj.mp h.1, Int.ofNat_inj.mp h.2⟩
/-- the dict of a stretch's entries -/
structure EntK (H : Hp) (G : List Rule) (kvs : List (List Key × V)) (e : Ent) : Prop where
  nm : ∀ N, (∃ r ∈ G, r.1 = N) → ∃ v, valV kvs (kN N) = some v ∧ CostV H v (e.nm N)
  rs : ∀ (r d : Nat) N ss, G[r]? = some (N, ss) → d ≤ ss.length → ∃ v, valV kvs (kR r d) = some v ∧ CostV H v (e.rs r d)
  ks : ∀ p ∈ kvs, (∃ N, (∃ r ∈ G, r.1 = N) ∧ p.1 = kN N) ∨ ∃ (r d : Nat) (N : Str) (ss : List Str), G[r]? = some (N, ss) ∧ d ≤ ss.length ∧ p.1 = kR r d
  nd : (kvs.map (·.1)).Nodup
theorem EntK.up {A B : Hp} (u : Up A B) {G : List Rule} {kvs : List (List Key × V)} {e : Ent} (h : EntK A G kvs e) : EntK B G kvs e := by
  refine ⟨fun N q => ?_, fun r d N ss h1 h2 => ?_, h.ks, h.nd⟩
  · obtain ⟨v, e1, c⟩ := h.nm N q
    exact ⟨v, e1, c.up u⟩
  · obtain ⟨v, e1, c⟩ := h.rs r d N ss h1 h2
    exact ⟨v, e1, c.up u⟩
/-- the table of a row of n signs: the dict of stretches -/
structure TabK (H : Hp) (G : List Rule) (n : Nat) (F : List (List Key × V)) (T : Nat → Nat → Ent) : Prop where
  at_ : ∀ i j, i ≤ j → j ≤ n → ∃ d kvs, valV F (kS i j) = some (.ref d) ∧ H d = some (.dT kvs) ∧ EntK H G kvs (T i j)
  ks : ∀ p ∈ F, ∃ i j, i ≤ j ∧ j ≤ n ∧ p.1 = kS i j
  nd : (F.map (·.1)).Nodup
  apart : ∀ p ∈ F, ∀ q ∈ F, p.2 = q.2 → p.1 = q.1
theorem TabK.up {A B : Hp} (u : Up A B) {G : List Rule} {n : Nat} {F : List (List Key × V)} {T : Nat → Nat → Ent} (h : TabK A G n F T) : TabK B G n F T := by
  refine ⟨fun i j h1 h2 => ?_, h.ks, h.nd, h.apart⟩
  obtain ⟨d, kvs, e1, e2, e3⟩ := h.at_ i j h1 h2
  exact ⟨d, kvs, e1, u.dT e2, e3.up u⟩
theorem valV_at2 : ∀ {kvs : List (List Key × V)} {p : List Key × V}, (kvs.map (·.1)).Nodup → p ∈ kvs → valV kvs p.1 = some p.2
  | q :: r, p, nd, h => by
    rw [List.map_cons, List.nodup_cons] at nd
    rcases List.mem_cons.mp h with e | m
    · rw [e]
      exact valV_pos rfl
    · have ne : ¬ q.1 = p.1 := fun z => nd.1 (by rw [z]; exact List.mem_map.mpr ⟨p, m, rfl⟩)
      rw [valV_neg ne]
      exact valV_at2 nd.2 m
theorem nodup_le2 {α : Type} [DecidableEq α] : ∀ {l m : List α}, l.Nodup → (∀ x ∈ l, x ∈ m) → l.length ≤ m.length
  | [], _, _, _ => Nat.zero_le _
  | x :: l, m, nd, h => by
    have hx := h x List.mem_cons_self
    have h2 := nodup_le2 (l := l) (m := m.erase x) (List.nodup_cons.mp nd).2 fun y hy => by
      have ne : y ≠ x := fun e => (List.nodup_cons.mp nd).1 (e ▸ hy)
      exact (List.mem_erase_of_ne ne).mpr (h y (List.mem_cons_of_mem _ hy))
    have h3 := List.length_erase_of_mem hx
    have h4 := List.length_pos_of_mem hx
    rw [List.length_cons]
    omega
theorem key_in {kvs : List (List Key × V)} {k : List Key} {v : V} (h : valV kvs k = some v) : k ∈ kvs.map (·.1) := List.mem_map.mpr ⟨(k, v), valV_from h, rfl⟩
theorem CostV.eqT {K : PySem.W.Frag} {H : Hp} {v u : V} {o : Option Cost} (h : CostV H v o) (k : CostV H u o) : EqT K H 1 v u := by
  cases o with
  | none =>
    rw [show v = .non from h, show u = .non from k]
    exact .inl ⟨rfl, rfl⟩
  | some c => exact .inr (.inr (.inl ⟨cD c, h.dp, k.dp, cD_shaped c⟩))
/-- two dicts of the same entries are equal -/
theorem EntK.eqT {K : PySem.W.Frag} {H : Hp} {G : List Rule} {ks ls : List (List Key × V)} {e : Ent} (h : EntK H G ks e) (k : EntK H G ls e) : ks.length = ls.length ∧ ∀ p ∈ ks, ∃ u, valV ls p.1 = some u ∧ EqT K H 1 p.2 u := by
  have look : ∀ {ks ls : List (List Key × V)}, EntK H G ks e → EntK H G ls e → ∀ p ∈ ks, ∃ u, valV ls p.1 = some u ∧ EqT K H 1 p.2 u := fun {ks ls} h k p hp => by
    have v1 := valV_at2 h.nd hp
    rcases h.ks p hp with ⟨N, hN, e1⟩ | ⟨r, d, N, ss, h1, h2, e1⟩
    · obtain ⟨v, ev, cv⟩ := h.nm N hN
      obtain ⟨u, eu, cu⟩ := k.nm N hN
      rw [e1, ev] at v1
      rw [e1]
      exact ⟨u, eu, by rw [← Option.some.inj v1]; exact cv.eqT cu⟩
    · obtain ⟨v, ev, cv⟩ := h.rs r d N ss h1 h2
      obtain ⟨u, eu, cu⟩ := k.rs r d N ss h1 h2
      rw [e1, ev] at v1
      rw [e1]
      exact ⟨u, eu, by rw [← Option.some.inj v1]; exact cv.eqT cu⟩
  have sub : ∀ {ks ls : List (List Key × V)}, EntK H G ks e → EntK H G ls e → ks.length ≤ ls.length := fun {ks ls} h k => by
    have := nodup_le2 h.nd fun x hx => by
      obtain ⟨p, hp, rfl⟩ := List.mem_map.mp hx
      obtain ⟨u, eu, _⟩ := look h k p hp
      exact key_in eu
    rwa [List.length_map, List.length_map] at this
  exact ⟨Nat.le_antisymm (sub h k) (sub k h), look h k⟩
/-- two tables of the same entries are equal -/
theorem TabK.eqT {K : PySem.W.Frag} {H : Hp} {G : List Rule} {n : Nat} {F F2 : List (List Key × V)} {T : Nat → Nat → Ent} (h : TabK H G n F T) (k : TabK H G n F2 T) : F.length = F2.length ∧ ∀ p ∈ F, ∃ u, valV F2 p.1 = some u ∧ EqT K H 2 p.2 u := by
  have look : ∀ {F F2 : List (List Key × V)}, TabK H G n F T → TabK H G n F2 T → ∀ p ∈ F, ∃ u, valV F2 p.1 = some u ∧ EqT K H 2 p.2 u := fun {F F2} h k p hp => by
    have v1 := valV_at2 h.nd hp
    obtain ⟨i, j, h1, h2, e1⟩ := h.ks p hp
    obtain ⟨d, kvs, e2, e3, e4⟩ := h.at_ i j h1 h2
    obtain ⟨d2, kvs2, f2, f3, f4⟩ := k.at_ i j h1 h2
    rw [e1, e2] at v1
    rw [e1]
    obtain ⟨l, z⟩ := e4.eqT (K := K) f4
    exact ⟨_, f2, .inr (.inr (.inr (.inl ⟨d, d2, kvs, kvs2, (Option.some.inj v1).symm, rfl, e3, f3, l, z⟩)))⟩
  have sub : ∀ {F F2 : List (List Key × V)}, TabK H G n F T → TabK H G n F2 T → F.length ≤ F2.length := fun {F F2} h k => by
    have := nodup_le2 h.nd fun x hx => by
      obtain ⟨p, hp, rfl⟩ := List.mem_map.mp hx
      obtain ⟨u, eu, _⟩ := look h k p hp
      exact key_in eu
    rwa [List.length_map, List.length_map] at this
  exact ⟨Nat.le_antisymm (sub h k) (sub k h), look h k⟩
/-- where both hold the least costs, the entries agree -/
theorem ent_agree {B : Pb} {i j : Nat} {a b : Ent} (h : LeastAt B a i j) (k : LeastAt B b i j) : a = b := by
  obtain ⟨n1, r1⟩ := a
  obtain ⟨n2, r2⟩ := b
  have e1 : n1 = n2 := funext fun N => least_one (h.nm N) (k.nm N)
  have e2 : r1 = r2 := funext fun r => funext fun d => least_one (h.rs r d) (k.rs r d)
  rw [e1, e2]
end Ld

set_option Elab.async false
set_option linter.all false
set_option maxRecDepth 100000
set_option maxHeartbeats 4000000
/-! The least over the ends of a symbol. -/
namespace Ld
open PySem PySem.Spec PyProof.Rows L2 Lr Lb
/-- does a symbol begin with a small letter -/
def isLow (z : Str) : Bool := match z.cps.toList with
  | c :: _ => decide (c ∈ ("abcdefghijklmnopqrstuvwxyz" : Str).cps.toList)
  | [] => false
def pbOf (G : List Rule) (Z : Prc) (row : List Str) (kn : Nat → Nat → Option Ent) : Pb := ⟨G, leafP Z row, isLow, kn⟩
theorem pbOf_ok {G : List Rule} {Z : Prc} (ok : PrcOk Z) {row : List Str} {kn : Nat → Nat → Option Ent} (hk : ∀ i j e, kn i j = some e → (∀ N c, e.nm N = some c → 0 ≤ c.1 ∧ 0 ≤ c.2) ∧ ∀ r d c, e.rs r d = some c → 0 ≤ c.1 ∧ 0 ≤ c.2) : PbOk (pbOf G Z row kn) :=
  ⟨fun k i e => (leafP_in ok row k i e).1, hk⟩
/-- the cost of the symbol at the dot over i to e, by the entries -/
def headC (B : Pb) (T : Nat → Nat → Ent) (k : Str) (i e : Nat) : Option Cost := if B.isN k = true then (T i e).nm k else some (B.leaf k i e, 1)
/-- what the end e gives -/
def endC (B : Pb) (T : Nat → Nat → Ent) (k : Str) (r d i j e : Nat) : Option Cost := match headC B T k i e, (T e j).rs r (d + 1) with
  | some a, some b => some (a.1 + b.1, a.2 + b.2)
  | _, _ => none
/-- what the ends below lim give -/
def UpC (B : Pb) (T : Nat → Nat → Ent) (k : Str) (r d i j lim : Nat) (c : Cost) : Prop := ∃ e, i ≤ e ∧ e < lim ∧ endC B T k r d i j e = some c
theorem upC_start {B : Pb} {T : Nat → Nat → Ent} {k : Str} {r d i j : Nat} : LeastO (UpC B T k r d i j i) none := fun c ⟨e, h1, h2, _⟩ => by omega
theorem endC_is {B : Pb} {T : Nat → Nat → Ent} {k : Str} {r d i j e : Nat} {c : Cost} : endC B T k r d i j e = some c ↔ ∃ a b, (T e j).rs r (d + 1) = some b ∧ ((B.isN k = false ∧ a = (B.leaf k i e, 1)) ∨ (B.isN k = true ∧ (T i e).nm k = some a)) ∧ c = (a.1 + b.1, a.2 + b.2) := by
  unfold endC headC
  by_cases n : B.isN k = true
  · rw [if_pos n]
    cases h1 : (T i e).nm k with
    | none =>
      constructor
      · intro h
        cases h
      · rintro ⟨a, b, _, ⟨q, _⟩ | ⟨_, q⟩, _⟩
        · rw [n] at q
          cases q
        · cases q
    | some a =>
      cases h2 : (T e j).rs r (d + 1) with
      | none =>
        constructor
        · intro h
          cases h
        · rintro ⟨_, b, q, _⟩
          cases q
      | some b =>
        constructor
        · intro h
          exact ⟨a, b, rfl, .inr ⟨n, rfl⟩, (Option.some.inj h).symm⟩
        · rintro ⟨a2, b2, q1, ⟨q, _⟩ | ⟨_, q⟩, rfl⟩
          · rw [n] at q
            cases q
          · cases q
            cases q1
            rfl
  · have n2 : B.isN k = false := by
      cases q : B.isN k with
      | true => exact (n q).elim
      | false => rfl
    rw [if_neg n]
    cases h2 : (T e j).rs r (d + 1) with
    | none =>
      constructor
      · intro h
        cases h
      · rintro ⟨_, b, q, _⟩
        cases q
    | some b =>
      constructor
      · intro h
        exact ⟨_, b, rfl, .inl ⟨n2, rfl⟩, (Option.some.inj h).symm⟩
      · rintro ⟨a2, b2, q1, ⟨_, rfl⟩ | ⟨q, _⟩, rfl⟩
        · cases q1
          rfl
        · exact (n q).elim
theorem upC_end {B : Pb} {T : Nat → Nat → Ent} {k N : Str} {ss : List Str} {r d i j : Nat} (hr : B.G[r]? = some (N, ss)) (hs : ss[d]? = some k) {o : Option Cost} (h : LeastO (UpC B T k r d i j (j + 1)) o) : LeastO (CombC B T r d i j) o := by
  have iff : ∀ c, CombC B T r d i j c ↔ UpC B T k r d i j (j + 1) c := fun c => by
    constructor
    · rintro ⟨N2, s2, hr2, ⟨e1, _, _⟩ | ⟨k2, e, a, b, hs2, h1, h2, hb, ha, hc⟩⟩
      · rw [hr] at hr2
        cases hr2
        have := (List.getElem?_eq_some_iff.mp hs).1
        omega
      · rw [hr] at hr2
        cases hr2
        rw [hs] at hs2
        cases hs2
        exact ⟨e, h1, by omega, endC_is.mpr ⟨a, b, hb, ha, hc⟩⟩
    · rintro ⟨e, h1, h2, he⟩
      obtain ⟨a, b, hb, ha, hc⟩ := endC_is.mp he
      exact ⟨N, ss, hr, .inr ⟨k, e, a, b, hs, h1, by omega, hb, ha, hc⟩⟩
  have eq : CombC B T r d i j = UpC B T k r d i j (j + 1) := funext fun c => propext (iff c)
  rw [eq]
  exact h
theorem comb_full {B : Pb} {T : Nat → Nat → Ent} {N : Str} {ss : List Str} {r i j : Nat} (hr : B.G[r]? = some (N, ss)) : LeastO (CombC B T r ss.length i j) (if i = j then some (0, 0) else none) := by
  refine LeastO.of (fun c h => ?_) fun c h => ?_
  · split at h
    · rename_i e
      exact ⟨N, ss, hr, .inl ⟨rfl, e, (Option.some.inj h).symm⟩⟩
    · cases h
  · obtain ⟨N2, s2, hr2, ⟨_, e, rfl⟩ | ⟨k2, e, a, b, hs2, _⟩⟩ := h
    · rw [if_pos e]
      exact ⟨_, rfl, cle_refl _⟩
    · rw [hr] at hr2
      cases hr2
      have := (List.getElem?_eq_some_iff.mp hs2).1
      omega
/-- the better one of the two -/
def better (b x : Option Cost) : Option Cost := match b, x with
  | b, none => b
  | none, some x => some x
  | some b, some x => if x.1 < b.1 ∨ (x.1 = b.1 ∧ x.2 < b.2) then some x else some b
theorem better_least {S S2 : Cost → Prop} {b x : Option Cost} (h : LeastO S b) (iff : ∀ c, S2 c ↔ S c ∨ x = some c) : LeastO S2 (better b x) := by
  refine LeastO.of (fun c q => (iff c).mpr ?_) fun c q => ?_
  · cases x with
    | none =>
      have e : b = some c := by
        cases b <;> exact q
      left
      rw [e] at h
      exact h.1
    | some x =>
      cases b with
      | none => exact .inr q
      | some b =>
        unfold better at q
        dsimp only at q
        split at q
        · exact .inr q
        · left
          rw [← Option.some.inj q]
          exact h.1
  · rcases (iff c).mp q with s | s
    · obtain ⟨d, e, l⟩ := h.up s
      rw [e]
      cases x with
      | none => exact ⟨d, rfl, l⟩
      | some x =>
        unfold better
        dsimp only
        split
        · refine ⟨x, rfl, cle_trans ?_ l⟩
          unfold cle
          omega
        · exact ⟨d, rfl, l⟩
    · rw [s]
      cases b with
      | none => exact ⟨c, rfl, cle_refl c⟩
      | some b =>
        unfold better
        dsimp only
        split
        · exact ⟨c, rfl, cle_refl c⟩
        · refine ⟨b, rfl, ?_⟩
          unfold cle
          omega
theorem upC_step {B : Pb} {T : Nat → Nat → Ent} {k : Str} {r d i j lim : Nat} (h : i ≤ lim) {b : Option Cost} (l : LeastO (UpC B T k r d i j lim) b) : LeastO (UpC B T k r d i j (lim + 1)) (better b (endC B T k r d i j lim)) := by
  refine better_least l fun c => ?_
  constructor
  · rintro ⟨e, h1, h2, he⟩
    rcases Nat.lt_succ_iff_lt_or_eq.mp h2 with q | q
    · exact .inl ⟨e, h1, q, he⟩
    · rw [q] at he
      exact .inr he
  · rintro (⟨e, h1, h2, he⟩ | he)
    · exact ⟨e, h1, by omega, he⟩
    · exact ⟨lim, h, by omega, he⟩
end Ld

set_option Elab.async false
set_option linter.all false
set_option maxRecDepth 100000
set_option maxHeartbeats 4000000
/-! A table whose entries of one stretch are changed. -/
namespace Ld
open PySem PySem.Spec PyProof.Rows L2 Lr Lb
/-- all but d stays -/
def But (d : Addr) (A B : Hp) : Prop := ∀ b o, b ≠ d → A b = some o → B b = some o
theorem But.of_same {d : Addr} {A B : Hp} (h : Same A B) : But d A B := fun b o _ e => h b o e
theorem But.trans {d : Addr} {A B C : Hp} (h : But d A B) (k : But d B C) : But d A C := fun b o n e => k b o n (h b o n e)
theorem But.upd {d : Addr} {A B : Hp} {o : HO} (h : But d A B) : But d A (L2.upd B d o) := fun b x n e => by
  rw [upd_ne n]
  exact h b x n e
theorem But.same {d : Addr} {A B : Hp} (h : But d A B) (n : A d = none) : Same A B := fun b o e => h b o (fun z => by rw [z, n] at e; cases e) e
section
variable {A B : Hp} {d : Addr} {kd : List (List Key × V)}
theorem But.tup (h : But d A B) (hd : A d = some (.dT kd)) {a : Addr} {xs : List V} (e : A a = some (.tup xs)) : B a = some (.tup xs) := h a _ (fun z => by rw [z, hd] at e; cases e) e
theorem But.lst (h : But d A B) (hd : A d = some (.dT kd)) {a : Addr} {xs : List V} (e : A a = some (.lst xs)) : B a = some (.lst xs) := h a _ (fun z => by rw [z, hd] at e; cases e) e
theorem CostV.but (h : But d A B) (hd : A d = some (.dT kd)) {v : V} : ∀ {o : Option Cost}, CostV A v o → CostV B v o
  | none, q => q
  | some _, ⟨t, e, q⟩ => ⟨t, e, h.tup hd q⟩
theorem EntK.but (h : But d A B) (hd : A d = some (.dT kd)) {G : List Rule} {kvs : List (List Key × V)} {e : Ent} (q : EntK A G kvs e) : EntK B G kvs e := by
  refine ⟨fun N z => ?_, fun r d N ss h1 h2 => ?_, q.ks, q.nd⟩
  · obtain ⟨v, e1, c⟩ := q.nm N z
    exact ⟨v, e1, c.but h hd⟩
  · obtain ⟨v, e1, c⟩ := q.rs r d N ss h1 h2
    exact ⟨v, e1, c.but h hd⟩
theorem RuleA.but (h : But d A B) (hd : A d = some (.dT kd)) {v : V} {r : Rule} (q : RuleA A v r) : RuleA B v r := by
  obtain ⟨t, l, e, h1, h2⟩ := q
  exact ⟨t, l, e, h.tup hd h1, h.lst hd h2⟩
theorem GrA.but (h : But d A B) (hd : A d = some (.dT kd)) : ∀ {vs : List V} {G : List Rule}, GrA A vs G → GrA B vs G
  | [], [], _ => True.intro
  | v :: vs, r :: G, q => ⟨RuleA.but h hd q.1, GrA.but h hd q.2⟩
  | [], _ :: _, q => q.elim
  | _ :: _, [], q => q.elim
theorem GraA.but (h : But d A B) (hd : A d = some (.dT kd)) {g : Addr} {G : List Rule} (q : GraA A g G) : GraA B g G := by
  obtain ⟨vs, e, z⟩ := q
  exact ⟨vs, h.lst hd e, GrA.but h hd z⟩
/-- the table behind a change of the entries of one stretch -/
theorem TabK.but {G : List Rule} {n : Nat} {F : List (List Key × V)} {T : Nat → Nat → Ent} (q : TabK A G n F T) {i j : Nat} (ij : i ≤ j) (jn : j ≤ n) (hF : valV F (kS i j) = some (.ref d)) (hd : A d = some (.dT kd)) (h : But d A B)
    {kvs : List (List Key × V)} {e : Ent} (hd2 : B d = some (.dT kvs)) (he : EntK B G kvs e) : TabK B G n F (wi T i j e) := by
  refine ⟨fun a b h1 h2 => ?_, q.ks, q.nd, q.apart⟩
  by_cases w : a = i ∧ b = j
  · rw [w.1, w.2, wi_same]
    exact ⟨d, kvs, hF, hd2, he⟩
  · obtain ⟨d2, kv2, e1, e2, e3⟩ := q.at_ a b h1 h2
    rw [wi_other w]
    refine ⟨d2, kv2, e1, h d2 _ (fun z => w ?_) e2, e3.but h hd⟩
    have k1 := valV_from e1
    have k2 := valV_from hF
    have := q.apart _ k1 _ k2 (by show V.ref d2 = V.ref d; rw [z])
    exact kS_inj this
end
theorem put_mem2 {kvs : List (List Key × V)} {k : List Key} {v : V} : ∀ p ∈ putK kvs k v, p ∈ kvs ∨ p = (k, v) := fun p hp => by
  unfold putK at hp
  split at hp
  · obtain ⟨q, hq, e⟩ := List.mem_map.mp hp
    split at e
    · rename_i z
      right
      rw [← e, z]
    · left
      rw [← e]
      exact hq
  · rcases List.mem_append.mp hp with m | m
    · exact .inl m
    · exact .inr (List.mem_singleton.mp m)
theorem put_nodup2 {kvs : List (List Key × V)} {k : List Key} {v : V} (h : (kvs.map (·.1)).Nodup) : ((putK kvs k v).map (·.1)).Nodup := by
  unfold putK
  split
  · have e : (kvs.map fun kv => if kv.1 = k then (kv.1, v) else kv).map (·.1) = kvs.map (·.1) := by
      rw [List.map_map]
      refine List.map_congr_left fun q hq => ?_
      show (if q.1 = k then (q.1, v) else q).1 = q.1
      split <;> rfl
    rw [e]
    exact h
  · rename_i out
    rw [List.map_append, List.nodup_append]
    refine ⟨h, by simp, fun a ha b hb e => out ?_⟩
    rw [List.map_singleton, List.mem_singleton] at hb
    obtain ⟨q, hq, e2⟩ := List.mem_map.mp ha
    refine List.any_eq_true.mpr ⟨q, hq, decide_eq_true ?_⟩
    rw [e2, e, hb]
/-- entries with one put anew -/
theorem EntK.putR {H : Hp} {G : List Rule} {kvs : List (List Key × V)} {e : Ent} (h : EntK H G kvs e) {r d : Nat} {N : Str} {ss : List Str} (hr : G[r]? = some (N, ss)) (hd : d ≤ ss.length) {v : V} {o : Option Cost} (hv : CostV H v o) : EntK H G (putK kvs (kR r d) v) (setR e r d o) := by
  refine ⟨fun M hM => ?_, fun a b M ts h1 h2 => ?_, fun p hp => ?_, ?_⟩
  · obtain ⟨u, e1, c⟩ := h.nm M hM
    refine ⟨u, ?_, c⟩
    rw [valV_put, if_neg (kN_ne M r d)]
    exact e1
  · rw [valV_put]
    by_cases w : a = r ∧ b = d
    · rw [w.1, w.2, if_pos rfl]
      refine ⟨v, rfl, ?_⟩
      show CostV H v (if r = r ∧ d = d then o else e.rs r d)
      rw [if_pos ⟨rfl, rfl⟩]
      exact hv
    · rw [if_neg fun z => w (kR_inj z)]
      obtain ⟨u, e1, c⟩ := h.rs a b M ts h1 h2
      refine ⟨u, e1, ?_⟩
      show CostV H u (if a = r ∧ b = d then o else e.rs a b)
      rw [if_neg w]
      exact c
  · rcases put_mem2 p hp with m | rfl
    · exact h.ks p m
    · exact .inr ⟨r, d, N, ss, hr, hd, rfl⟩
  · exact put_nodup2 h.nd
theorem EntK.putN {H : Hp} {G : List Rule} {kvs : List (List Key × V)} {e : Ent} (h : EntK H G kvs e) {N : Str} (hN : ∃ r ∈ G, r.1 = N) {v : V} {o : Option Cost} (hv : CostV H v o) : EntK H G (putK kvs (kN N) v) (setN e N o) := by
  refine ⟨fun M hM => ?_, fun a b M ts h1 h2 => ?_, fun p hp => ?_, ?_⟩
  · rw [valV_put]
    by_cases w : M = N
    · rw [w, if_pos rfl]
      refine ⟨v, rfl, ?_⟩
      show CostV H v (if N = N then o else e.nm N)
      rw [if_pos rfl]
      exact hv
    · rw [if_neg fun z => w (kN_inj z)]
      obtain ⟨u, e1, c⟩ := h.nm M hM
      refine ⟨u, e1, ?_⟩
      show CostV H u (if M = N then o else e.nm M)
      rw [if_neg w]
      exact c
  · obtain ⟨u, e1, c⟩ := h.rs a b M ts h1 h2
    refine ⟨u, ?_, c⟩
    rw [valV_put, if_neg (Ne.symm (kN_ne N a b))]
    exact e1
  · rcases put_mem2 p hp with m | rfl
    · exact h.ks p m
    · exact .inl ⟨N, hN, rfl⟩
  · exact put_nodup2 h.nd
/-- None or a cost, as data -/
def oD : Option Cost → PyData
  | none => .none
  | some c => cD c
theorem CostV.oD {K : PySem.W.Frag} {H : Hp} {v : V} : ∀ {o : Option Cost}, CostV H v o → Dp K H v (oD o)
  | none, h => by
    rw [show v = .non from h]
    exact .non
  | some _, h => h.dp
theorem oD_shaped : ∀ o : Option Cost, SeqAt.shaped (oD o) = true
  | none => shaped_mk rfl (by simp [oD, PyData.depth])
  | some c => cD_shaped c
theorem oD_eqv (a b : Option Cost) : PyData.eqv (oD a) (oD b) = decide (a = b) := by
  cases a with
  | none =>
    cases b with
    | none => simp [oD, PyData.eqv]
    | some c => simp [oD, cD, PyData.eqv]
  | some a =>
    cases b with
    | none => simp [oD, cD, PyData.eqv]
    | some b =>
      rw [Bool.eq_iff_iff, decide_eq_true_eq]
      simp only [oD, cD, PyData.eqv, PyData.eqvAll, Bool.and_true, Bool.and_eq_true, Option.some.injEq]
      constructor
      · intro h
        exact Prod.ext (by simpa using h.1) (by simpa using h.2)
      · rintro rfl
        simp
/-- a round in which nothing moved so far: rules before r, and r from the dot d on -/
structure Still (B : Pb) (T : Nat → Nat → Ent) (i j : Nat) (r d : Nat) : Prop where
  rs : ∀ a b N ss, B.G[a]? = some (N, ss) → b ≤ ss.length → (a < r ∨ (a = r ∧ d ≤ b)) → LeastO (CombC B T a b i j) ((T i j).rs a b)
  nm : ∀ (a : Nat) N ss c, B.G[a]? = some (N, ss) → a < r → (T i j).rs a 0 = some c → ∃ x, (T i j).nm N = some x ∧ cle x (c.1, c.2 + 1)
/-- all of a grammar, nothing moved: the least entries -/
theorem Still.least {B : Pb} {T : Nat → Nat → Ent} {i j d : Nat} (h : Still B T i j B.G.length d) (ij : i ≤ j) (short : Short B T i j) (hk : B.kn i j = none) (snd : SoundAt B (T i j) i j) : LeastAt B (T i j) i j := by
  have e : wi T i j (T i j) = T := funext fun a => funext fun b => by
    by_cases w : a = i ∧ b = j
    · rw [w.1, w.2, wi_same]
    · rw [wi_other w]
  refine closed_least ij short hk snd (fun r d => ?_) fun r N ss c hr hc => h.nm r N ss c hr (List.getElem?_eq_some_iff.mp hr).1 hc
  rw [e]
  refine LeastO.of (fun c q => ?_) fun c q => ?_
  · obtain ⟨N, ss, hr, hd⟩ := rest_in hk (snd.rs r d c q)
    have := h.rs r d N ss hr hd (.inl (List.getElem?_eq_some_iff.mp hr).1)
    rw [q] at this
    exact this.1
  · obtain ⟨N, ss, hr, z⟩ := id q
    have hd : d ≤ ss.length := by
      rcases z with ⟨e1, _⟩ | ⟨k, f, a, b, hs, _⟩
      · omega
      · exact Nat.le_of_lt (List.getElem?_eq_some_iff.mp hs).1
    exact (h.rs r d N ss hr hd (.inl (List.getElem?_eq_some_iff.mp hr).1)).up q
end Ld

set_option Elab.async false
set_option linter.all false
set_option maxRecDepth 100000
set_option maxHeartbeats 4000000
/-! A table of empty entries, while it is made. -/
namespace Ld
open PySem PySem.Spec PyProof.Rows L2 Lr Lb
/-- a dict of Nones at the keys of D -/
structure NonK (D : List Key → Prop) (kvs : List (List Key × V)) : Prop where
  all : ∀ k, D k → valV kvs k = some .non
  ks : ∀ p ∈ kvs, D p.1
  nd : (kvs.map (·.1)).Nodup
theorem NonK.start {D : List Key → Prop} (h : ∀ k, ¬ D k) : NonK D [] := ⟨fun k q => (h k q).elim, (fun _ m => nomatch m), List.nodup_nil⟩
theorem NonK.put {D D2 : List Key → Prop} {kvs : List (List Key × V)} (h : NonK D kvs) {k : List Key} (iff : ∀ x, D2 x ↔ D x ∨ x = k) : NonK D2 (putK kvs k .non) := by
  refine ⟨fun x q => ?_, fun p hp => (iff _).mpr ?_, put_nodup2 h.nd⟩
  · rw [valV_put]
    split
    · rfl
    · rename_i ne
      rcases (iff x).mp q with z | z
      · exact h.all x z
      · exact (ne z).elim
  · rcases put_mem2 p hp with m | rfl
    · exact .inl (h.ks p m)
    · exact .inr rfl
theorem NonK.iff {D D2 : List Key → Prop} {kvs : List (List Key × V)} (h : NonK D kvs) (iff : ∀ x, D2 x ↔ D x) : NonK D2 kvs := ⟨fun k q => h.all k ((iff k).mp q), fun p m => (iff _).mpr (h.ks p m), h.nd⟩
/-- the keys that are there when the names of the first a rules, and the rests before (r, d), are -/
def KeyD (G : List Rule) (a r d : Nat) (k : List Key) : Prop := (∃ (b : Nat) (N : Str) (ss : List Str), b < a ∧ G[b]? = some (N, ss) ∧ k = kN N) ∨
  ∃ (b c : Nat) (N : Str) (ss : List Str), G[b]? = some (N, ss) ∧ c ≤ ss.length ∧ (b < r ∨ (b = r ∧ c < d)) ∧ k = kR b c
theorem keyD_start (G : List Rule) : ∀ k, ¬ KeyD G 0 0 0 k := by
  rintro k (⟨b, N, ss, h, _⟩ | ⟨b, c, N, ss, _, _, h, _⟩)
  · omega
  · omega
theorem keyD_name {G : List Rule} {a d : Nat} {N : Str} {ss : List Str} (h : G[a]? = some (N, ss)) (x : List Key) : KeyD G (a + 1) a d x ↔ KeyD G a a d x ∨ x = kN N := by
  constructor
  · rintro (⟨b, M, ts, h1, h2, rfl⟩ | z)
    · rcases Nat.lt_succ_iff_lt_or_eq.mp h1 with q | q
      · exact .inl (.inl ⟨b, M, ts, q, h2, rfl⟩)
      · rw [q, h] at h2
        cases h2
        exact .inr rfl
    · exact .inl (.inr z)
  · rintro ((⟨b, M, ts, h1, h2, rfl⟩ | z) | rfl)
    · exact .inl ⟨b, M, ts, by omega, h2, rfl⟩
    · exact .inr z
    · exact .inl ⟨a, N, ss, by omega, h, rfl⟩
theorem keyD_rest {G : List Rule} {a r d : Nat} {N : Str} {ss : List Str} (h : G[r]? = some (N, ss)) (hd : d ≤ ss.length) (x : List Key) : KeyD G a r (d + 1) x ↔ KeyD G a r d x ∨ x = kR r d := by
  constructor
  · rintro (z | ⟨b, c, M, ts, h1, h2, h3, rfl⟩)
    · exact .inl (.inl z)
    · by_cases w : b = r ∧ c = d
      · rw [w.1, w.2]
        exact .inr rfl
      · exact .inl (.inr ⟨b, c, M, ts, h1, h2, by omega, rfl⟩)
  · rintro ((z | ⟨b, c, M, ts, h1, h2, h3, rfl⟩) | rfl)
    · exact .inl z
    · exact .inr ⟨b, c, M, ts, h1, h2, by omega, rfl⟩
    · exact .inr ⟨r, d, N, ss, h, hd, by omega, rfl⟩
theorem keyD_next {G : List Rule} {a r : Nat} {N : Str} {ss : List Str} (h : G[r]? = some (N, ss)) (x : List Key) : KeyD G a (r + 1) 0 x ↔ KeyD G a r (ss.length + 1) x := by
  constructor
  · rintro (z | ⟨b, c, M, ts, h1, h2, h3, rfl⟩)
    · exact .inl z
    · refine .inr ⟨b, c, M, ts, h1, h2, ?_, rfl⟩
      by_cases w : b = r
      · rw [w, h] at h1
        cases h1
        exact .inr ⟨w, by omega⟩
      · exact .inl (by omega)
  · rintro (z | ⟨b, c, M, ts, h1, h2, h3, rfl⟩)
    · exact .inl z
    · exact .inr ⟨b, c, M, ts, h1, h2, .inl (by omega), rfl⟩
def ent0 : Ent := ⟨fun _ => none, fun _ _ => none⟩
theorem NonK.ent {H : Hp} {G : List Rule} {kvs : List (List Key × V)} (h : NonK (KeyD G G.length G.length 0) kvs) : EntK H G kvs ent0 := by
  refine ⟨fun N hN => ?_, fun r d N ss h1 h2 => ?_, fun p hp => ?_, h.nd⟩
  · obtain ⟨q, hq, rfl⟩ := hN
    obtain ⟨b, hb⟩ := List.mem_iff_getElem?.mp hq
    exact ⟨.non, h.all _ (.inl ⟨b, q.1, q.2, (List.getElem?_eq_some_iff.mp hb).1, hb, rfl⟩), rfl⟩
  · exact ⟨.non, h.all _ (.inr ⟨r, d, N, ss, h1, h2, .inl (List.getElem?_eq_some_iff.mp h1).1, rfl⟩), rfl⟩
  · rcases h.ks p hp with ⟨b, N, ss, _, h2, e⟩ | ⟨b, c, N, ss, h1, h2, _, e⟩
    · exact .inl ⟨N, ⟨_, List.mem_of_getElem? h2, rfl⟩, e⟩
    · exact .inr ⟨b, c, N, ss, h1, h2, e⟩
/-- a table, as far as it is made -/
structure TabD (H : Hp) (G : List Rule) (D : Nat → Nat → Prop) (F : List (List Key × V)) : Prop where
  at_ : ∀ i j, D i j → ∃ d kvs, valV F (kS i j) = some (.ref d) ∧ H d = some (.dT kvs) ∧ EntK H G kvs ent0
  ks : ∀ p ∈ F, ∃ i j, D i j ∧ p.1 = kS i j
  nd : (F.map (·.1)).Nodup
  apart : ∀ p ∈ F, ∀ q ∈ F, p.2 = q.2 → p.1 = q.1
theorem TabD.start {H : Hp} {G : List Rule} {D : Nat → Nat → Prop} (h : ∀ i j, ¬ D i j) : TabD H G D [] := ⟨fun i j q => (h i j q).elim, (fun _ m => nomatch m), List.nodup_nil, fun _ m => nomatch m⟩
theorem TabD.iff {H : Hp} {G : List Rule} {D D2 : Nat → Nat → Prop} {F : List (List Key × V)} (h : TabD H G D F) (iff : ∀ i j, D2 i j ↔ D i j) : TabD H G D2 F :=
  ⟨fun i j q => h.at_ i j ((iff i j).mp q), fun p m => let ⟨i, j, q, e⟩ := h.ks p m; ⟨i, j, (iff i j).mpr q, e⟩, h.nd, h.apart⟩
theorem TabD.live {H : Hp} {G : List Rule} {D : Nat → Nat → Prop} {F : List (List Key × V)} (h : TabD H G D F) : ∀ p ∈ F, ∃ d kvs, p.2 = .ref d ∧ H d = some (.dT kvs) := fun p hp => by
  obtain ⟨i, j, q, e⟩ := h.ks p hp
  obtain ⟨d, kvs, e1, e2, _⟩ := h.at_ i j q
  have v := valV_at2 h.nd hp
  rw [e, e1] at v
  exact ⟨d, kvs, (Option.some.inj v).symm, e2⟩
theorem TabD.but {A B : Hp} {d : Addr} {kd : List (List Key × V)} {G : List Rule} {D : Nat → Nat → Prop} {F : List (List Key × V)} (h : TabD A G D F) (hd : A d = some (.dT kd)) (out : ∀ p ∈ F, p.2 ≠ .ref d) (b : But d A B) : TabD B G D F := by
  refine ⟨fun i j q => ?_, h.ks, h.nd, h.apart⟩
  obtain ⟨a, kvs, e1, e2, e3⟩ := h.at_ i j q
  refine ⟨a, kvs, e1, b a _ (fun z => out _ (valV_from e1) (by rw [z])) e2, e3.but b hd⟩
theorem TabD.up {A B : Hp} (u : Up A B) {G : List Rule} {D : Nat → Nat → Prop} {F : List (List Key × V)} (h : TabD A G D F) : TabD B G D F := by
  refine ⟨fun i j q => ?_, h.ks, h.nd, h.apart⟩
  obtain ⟨a, kvs, e1, e2, e3⟩ := h.at_ i j q
  exact ⟨a, kvs, e1, u.dT e2, e3.up u⟩
theorem TabD.put {H : Hp} {d : Addr} {kvs : List (List Key × V)} {G : List Rule} {D D2 : Nat → Nat → Prop} {F : List (List Key × V)} (h : TabD H G D F) (out : ∀ p ∈ F, p.2 ≠ .ref d) (hd : H d = some (.dT kvs)) (he : EntK H G kvs ent0) {i j : Nat} (iff : ∀ a b, D2 a b ↔ D a b ∨ (a = i ∧ b = j))
    (nD : ¬ D i j) : TabD H G D2 (putK F (kS i j) (.ref d)) := by
  have nk : valV F (kS i j) = none := by
    cases q : valV F (kS i j) with
    | none => rfl
    | some v =>
      obtain ⟨a, b, hab, e⟩ := h.ks _ (valV_from q)
      obtain ⟨e1, e2⟩ := kS_inj e
      rw [e1, e2] at nD
      exact (nD hab).elim
  refine ⟨fun a b q => ?_, fun p hp => ?_, put_nodup2 h.nd, fun p hp q hq e => ?_⟩
  · rw [valV_put]
    by_cases w : a = i ∧ b = j
    · rw [w.1, w.2, if_pos rfl]
      exact ⟨d, kvs, rfl, hd, he⟩
    · rw [if_neg fun z => w (kS_inj z)]
      rcases (iff a b).mp q with z | z
      · exact h.at_ a b z
      · exact (w z).elim
  · rcases put_mem2 p hp with m | rfl
    · obtain ⟨a, b, hab, e⟩ := h.ks p m
      exact ⟨a, b, (iff a b).mpr (.inl hab), e⟩
    · exact ⟨i, j, (iff i j).mpr (.inr ⟨rfl, rfl⟩), rfl⟩
  · rcases put_mem2 p hp with m | rfl
    · rcases put_mem2 q hq with k | rfl
      · exact h.apart p m q k e
      · exact (out p m e).elim
    · rcases put_mem2 q hq with k | rfl
      · exact (out q k e.symm).elim
      · rfl
theorem TabD.tab {H : Hp} {G : List Rule} {n : Nat} {F : List (List Key × V)} (h : TabD H G (fun i j => i ≤ j ∧ j ≤ n) F) : TabK H G n F (fun _ _ => ent0) :=
  ⟨fun i j h1 h2 => h.at_ i j ⟨h1, h2⟩, fun p m => let ⟨i, j, q, e⟩ := h.ks p m; ⟨i, j, q.1, q.2, e⟩, h.nd, h.apart⟩
end Ld

set_option Elab.async false
set_option linter.all false
set_option maxRecDepth 100000
set_option maxHeartbeats 4000000
/-! A round over the entries of one stretch: what each step gives. -/
namespace Ld
open PySem PySem.Spec PyProof.Rows L2 Lr Lb
/-- a grammar that the table's parts walk over -/
structure GraT (G : List Rule) : Prop where
  name : ∀ r ∈ G, ∀ s ∈ r.2, isLow s = true → ∃ q ∈ G, q.1 = s
  some_ : ∀ r ∈ G, ∀ s ∈ r.2, 0 < s.length ∧ s.length ≤ 100
  few : ∀ r ∈ G, r.2.length ≤ 20
  rules : G.length ≤ 60
theorem setR_self (e : Ent) (r d : Nat) {o : Option Cost} (h : o = e.rs r d) : setR e r d o = e := by
  obtain ⟨n, s⟩ := e
  unfold setR
  have : (fun a b => if a = r ∧ b = d then o else s a b) = s := funext fun a => funext fun b => by
    split
    · rename_i w
      rw [w.1, w.2, h]
    · rfl
  simp only [this]
theorem setN_self (e : Ent) (N : Str) {o : Option Cost} (h : o = e.nm N) : setN e N o = e := by
  obtain ⟨n, s⟩ := e
  unfold setN
  have : (fun M => if M = N then o else n M) = n := funext fun M => by
    split
    · rename_i w
      rw [w, h]
    · rfl
  simp only [this]
section
variable {B : Pb} {T : Nat → Nat → Ent} {i j : Nat} {e0 e : Ent}
theorem RInv.out {r d d2 : Nat} (h : RInv B i j e0 e r d) (out : ∀ b c, d2 ≤ b → ¬ RestC B r b i j c) : RInv B i j e0 e r d2 :=
  ⟨h.snd, h.mono, fun A A' U nb => let ⟨u1, u2, _, u4⟩ := h.up A A' U nb; ⟨u1, u2, fun b le c m => (out b c le m).elim, u4⟩⟩
theorem rest_none (hk : B.kn i j = none) {r : Nat} {N : Str} {ss : List Str} (hr : B.G[r]? = some (N, ss)) {d : Nat} (h : ss.length < d) : ∀ b c, d ≤ b → ¬ RestC B r b i j c := fun b c le m => by
  obtain ⟨M, ts, h1, h2⟩ := rest_in hk m
  rw [hr] at h1
  cases h1
  omega
theorem rest_none2 (hk : B.kn i j = none) (few : ∀ r ∈ B.G, r.2.length ≤ 20) (r : Nat) : ∀ b c, 21 ≤ b → ¬ RestC B r b i j c := fun b c le m => by
  obtain ⟨M, ts, h1, h2⟩ := rest_in hk m
  have := few _ (List.mem_of_getElem? h1)
  dsimp only at this
  omega
theorem Still.rest {r d : Nat} (h : Still B T i j r (d + 1)) (ho : LeastO (CombC B T r d i j) ((T i j).rs r d)) : Still B T i j r d := by
  refine ⟨fun a b N ss h1 h2 h3 => ?_, h.nm⟩
  by_cases w : a = r ∧ b = d
  · rw [w.1, w.2]
    exact ho
  · exact h.rs a b N ss h1 h2 (by omega)
theorem Still.out {r d : Nat} (h : Still B T i j r d) {N : Str} {ss : List Str} (hr : B.G[r]? = some (N, ss)) : Still B T i j r (ss.length + 1) := by
  refine ⟨fun a b M ts h1 h2 h3 => ?_, h.nm⟩
  by_cases w : a = r
  · rw [w, hr] at h1
    cases h1
    omega
  · exact h.rs a b M ts h1 h2 (by omega)
theorem Still.name {r d : Nat} (h : Still B T i j r 0) (few : ∀ r ∈ B.G, r.2.length ≤ 20) {N : Str} {ss : List Str} (hr : B.G[r]? = some (N, ss)) (hn : ∀ c, (T i j).rs r 0 = some c → ∃ x, (T i j).nm N = some x ∧ cle x (c.1, c.2 + 1)) (hd : 21 ≤ d) : Still B T i j (r + 1) d := by
  refine ⟨fun a b M ts h1 h2 h3 => ?_, fun a M ts c h1 h2 h3 => ?_⟩
  · have := few _ (List.mem_of_getElem? h1)
    dsimp only at this
    exact h.rs a b M ts h1 h2 (by omega)
  · by_cases w : a = r
    · rw [w] at h1 h3
      rw [hr] at h1
      cases h1
      exact hn c h3
    · exact h.nm a M ts c h1 (by omega) h3
theorem Still.start (few : ∀ r ∈ B.G, r.2.length ≤ 20) : Still B T i j 0 21 := by
  refine ⟨fun a b M ts h1 h2 h3 => ?_, fun a M ts c h1 h2 => absurd h2 (Nat.not_lt_zero a)⟩
  have := few _ (List.mem_of_getElem? h1)
  dsimp only at this
  omega
end
def keysAll (G : List Rule) : List (List Key) := G.map (fun r => kN r.1) ++ (List.range 60).flatMap fun r => (List.range 21).map fun d => kR r d
theorem keysAll_len {G : List Rule} (h : G.length ≤ 60) : (keysAll G).length ≤ 1320 := by
  unfold keysAll
  rw [List.length_append, List.length_map]
  have : ((List.range 60).flatMap fun r => (List.range 21).map fun d => kR r d).length = 1260 := by
    rw [List.length_flatMap]
    simp only [List.length_map, List.length_range]
    decide
  omega
theorem EntK.few {H : Hp} {G : List Rule} {kvs : List (List Key × V)} {e : Ent} (gt : GraT G) (h : EntK H G kvs e) : kvs.length ≤ 1320 := by
  have := nodup_le2 (l := kvs.map (·.1)) (m := keysAll G) h.nd fun x hx => by
    obtain ⟨p, hp, rfl⟩ := List.mem_map.mp hx
    unfold keysAll
    rcases h.ks p hp with ⟨N, ⟨r, hr, rfl⟩, e1⟩ | ⟨r, d, N, ss, h1, h2, e1⟩
    · rw [e1]
      exact List.mem_append_left _ (List.mem_map.mpr ⟨r, hr, rfl⟩)
    · rw [e1]
      have l1 := (List.getElem?_eq_some_iff.mp h1).1
      have l2 := gt.rules
      have l3 := gt.few _ (List.mem_of_getElem? h1)
      dsimp only at l3
      exact List.mem_append_right _ (List.mem_flatMap.mpr ⟨r, List.mem_range.mpr (by omega), List.mem_map.mpr ⟨d, List.mem_range.mpr (by omega), rfl⟩⟩)
  rw [List.length_map] at this
  exact Nat.le_trans this (keysAll_len gt.rules)
end Ld

set_option Elab.async false
set_option linter.all false
set_option maxRecDepth 100000
set_option maxHeartbeats 4000000
/-! The law's own least over the ends. -/
namespace Ld
open PySem PySem.Spec PyProof.Rows L2 Lg Lr Lb
theorem units65 {k : Nat} {A : Around} (h : Room k A) : A.units + 65 < cLine := by
  have := h.un
  omega
section
variable {P : Program} {w : World} {K : PySem.W.Frag} {mg : Str → Option Value} {base : Heap}
theorem scIn : FnScope ["symbol"] ["symbol"] (defScope sLIsName) := ⟨rfl, rfl, rfl, by decide +kernel, rfl, by decide +kernel, by decide +kernel⟩
def spIsName : Sp := fun vs H Q _ => ∃ z : Str, vs = [.str z] ∧ 0 < z.length ∧ z.length ≤ 100 ∧ Q (.bl (isLow z)) H
theorem ok_lisname {f : Addr} {fd : FuncData} (F : Fun K "_law_is_name" "_law_is_name" sLIsName f fd) : FnOk P w K mg base CX0 1 f fd ["symbol"] spIsName := by
  refine F.ok scIn (fun vs H Q E h => ?_) (fun cdv A outer s H vs Q E hr h => ?_)
  · obtain ⟨z, rfl, _⟩ := h
    rfl
  · obtain ⟨z, rfl, pos, len, q⟩ := h
    refine ⟨_, pss_one (ps_ret (pe_cmpR op_in_sign (pe_ix ix_str (pv 0) pe_int (fun _ _ => rfl)) pe_str rfl)), ?_⟩
    obtain ⟨c, cs, e⟩ : ∃ c cs, z.cps.toList = c :: cs := by
      cases q : z.cps.toList with
      | nil =>
        have : z.length = z.cps.toList.length := (Array.length_toList).symm
        rw [q] at this
        rw [this] at pos
        cases pos
      | cons c cs => exact ⟨c, cs, rfl⟩
    refine ⟨_, rfl, z, _, c, rfl, rfl, million0 (by omega), ?_, c, _, rfl, rfl, ?_⟩
    · rw [e]
      exact atI_nat (j := 0) rfl
    · have e2 : isLow z = decide (c ∈ ("abcdefghijklmnopqrstuvwxyz" : Str).cps.toList) := by
        unfold isLow
        rw [e]
      rw [← e2]
      exact q
theorem scLe : FnScope ["grammar", "prices", "row", "found", "rule", "dot", "i", "j", "symbols", "best", "end", "after", "cost"] ["grammar", "prices", "row", "found", "rule", "dot", "i", "j"] (defScope sLeast) := ⟨rfl, rfl, rfl, by decide +kernel, rfl, by decide +kernel, by decide +kernel⟩
def spLeast : Sp := fun vs H Q _ => ∃ (g t r f : Addr) (G : List Rule) (Z : Prc) (row : List Str) (F : List (List Key × V)) (T : Nat → Nat → Ent) (N : Str) (ss : List Str) (rule dot i j : Nat) (kn : Nat → Nat → Option Ent),
  vs = [.ref g, .ref t, .ref r, .ref f, .int rule, .int dot, .int i, .int j] ∧ GraA H g G ∧ GraT G ∧ PrA H t Z ∧ PrcOk Z ∧ H r = some (.lst (row.map V.str)) ∧ row.length ≤ 60 ∧ H f = some (.dT F) ∧ TabK H G row.length F T ∧
  G[rule]? = some (N, ss) ∧ dot ≤ ss.length ∧ i ≤ j ∧ j ≤ row.length ∧ ∀ v o H2, Same H H2 → CostV H2 v o → LeastO (CombC (pbOf G Z row kn) T rule dot i j) o → Q v H2
theorem ok_least {f fL fN : Addr} {fd fdL fdN : FuncData} (F : Fun K "_law_least" "_law_least" sLeast f fd)
    (GL : FnOk P w K mg base CX0 2 fL fdL ["prices", "row", "kind", "i", "j"] spLeaf) (kL : PySem.W.keepIn K (.ref fL) = true) (bL : Binds K fdL ["prices", "row", "kind", "i", "j"] []) (gL : mg "_law_leaf" = some (.ref fL))
    (GN : FnOk P w K mg base CX0 1 fN fdN ["symbol"] spIsName) (kN' : PySem.W.keepIn K (.ref fN) = true) (bN : Binds K fdN ["symbol"] []) (gN : mg "_law_is_name" = some (.ref fN))
    (mr : mg "range" = none) (ml : mg "len" = none) : FnOk P w K mg base CX0 3 f fd ["grammar", "prices", "row", "found", "rule", "dot", "i", "j"] spLeast := by
  refine F.ok scLe (fun vs H Q E h => ?_) (fun cdv A outer s H vs Q E hr h => ?_)
  · obtain ⟨g, t, r, f, G, Z, row, F, T, N, ss, rule, dot, i, j, kn, rfl, _⟩ := h
    rfl
  · obtain ⟨g, t, r, fo, G, Z, row, F, T, N, ss, rule, dot, i, j, kn, rfl, hG, gt, hZ, ok, hrow, len, hf, tab, hrl, hd, ij, jn, q⟩ := h
    have hr1 := hr.mono (show 1 ≤ 2 by decide)
    have hu := units1 hr
    refine ⟨_, pss_cons (ps_set (i := 8) scLe.nd rfl (.inl rfl) (pe_ix ix_tup (pe_ix ix_list (pv 0) (pv 4) (fun _ _ => rfl)) pe_int (fun _ _ => rfl)))
      (pss_cons (ps_if (pt_cmpR op_eq (pv 5) (pe_callB call_len_seq (by rfl) ml PySem.boot_len (pa_cons (pv 8) pa_nil)) (nomark _))
        (pss_one (ps_ret (pe_ifExp (pt_cmpR op_eq (pv 6) (pv 7) (nomark _)) (pe_tup (pa_cons pe_int (pa_cons pe_int pa_nil))) pe_non))) pss_nil)
      (pss_cons (ps_set (i := 9) scLe.nd rfl (.inl rfl) pe_non)
      (pss_cons (ps_for PassesOwn.never rfl (pi_range2 (by rfl) mr (pa_cons (pv 6) (pa_cons (pe_op op_add (pv 7) pe_int) pa_nil))) (pg_name (i := 10) scLe.nd rfl (.inl rfl))
        (pss_cons (ps_set (i := 11) scLe.nd rfl (.inl rfl) (pe_dget hu (pe_dget hu (pv 3) (pe_tup (pa_cons (pv 10) (pa_cons (pv 7) pa_nil))) (fun _ _ => rfl)) (pe_tup (pa_cons pe_str (pa_cons (pv 4) (pa_cons (pe_op op_add (pv 5) pe_int) pa_nil)))) (fun _ _ => rfl)))
        (pss_cons (ps_set (i := 12) scLe.nd rfl (.inl rfl) (pe_tup (pa_cons (pe_call GL hr (by rfl) gL kL bL .nil pass0 (pa_cons (pv 1) (pa_cons (pv 2) (pa_cons (pe_ix ix_list (pv 8) (pv 5) (fun _ _ => rfl)) (pa_cons (pv 6) (pa_cons (pv 10) pa_nil)))))) (pa_cons pe_int pa_nil))))
        (pss_cons (ps_if (pt_val (pe_call GN hr1 (by rfl) gN kN' bN .nil pass0 (pa_cons (pe_ix ix_list (pv 8) (pv 5) (fun _ _ => rfl)) pa_nil)))
          (pss_one (ps_set (i := 12) scLe.nd rfl (.inl rfl) (pe_dget hu (pe_dget hu (pv 3) (pe_tup (pa_cons (pv 6) (pa_cons (pv 10) pa_nil))) (fun _ _ => rfl)) (pe_tup (pa_cons pe_str (pa_cons (pe_ix ix_list (pv 8) (pv 5) (fun _ _ => rfl)) pa_nil))) (fun _ _ => rfl)))) pss_nil)
        (pss_one (ps_if (PW.pt (pw_and (pt_cmpR op_notN (pv 11) pe_non (nomark _)) (pw_and1 (pt_cmpR op_notN (pv 12) pe_non (nomark _)))))
          (pss_cons (ps_set (i := 12) scLe.nd rfl (.inl rfl) (pe_tup (pa_cons (pe_op op_add (pe_ix ix_tup (pv 12) pe_int (fun _ _ => rfl)) (pe_ix ix_tup (pv 11) pe_int (fun _ _ => rfl))) (pa_cons (pe_op op_add (pe_ix ix_tup (pv 12) pe_int (fun _ _ => rfl)) (pe_ix ix_tup (pv 11) pe_int (fun _ _ => rfl))) pa_nil))))
          (pss_one (ps_if (PW.pt (pw_or (pt_cmpR op_isN (pv 9) pe_non (nomark _)) (pw_or1 (pt_cmpR (op_ltD (units65 hr)) (pv 12) (pv 9) (nomark _))))) (pss_one (ps_set (i := 9) scLe.nd rfl (.inl rfl) (pv 12))) pss_nil))) pss_nil))))))
      (pss_one (ps_ret (pv 9)))))), ?_⟩
    obtain ⟨vs, hg, gr⟩ := id hG
    obtain ⟨v0, hv0, t0, l0, rfl, h1, h2⟩ : ∃ v0, vs[rule]? = some v0 ∧ RuleA H v0 (N, ss) := by
      have hlt : rule < vs.length := by
        rw [gr.len]
        exact (List.getElem?_eq_some_iff.mp hrl).1
      obtain ⟨x, hx⟩ : ∃ x, vs[rule]? = some x := ⟨_, List.getElem?_eq_getElem hlt⟩
      obtain ⟨q2, hq2, ra⟩ := gr.get hx
      rw [hrl] at hq2
      cases hq2
      exact ⟨x, hx, ra⟩
    have inG : (N, ss) ∈ G := List.mem_of_getElem? hrl
    have lss := gt.few _ inG
    refine ⟨_, rfl, _, rfl, g, _, _, _, rfl, rfl, SqL.of hg, at_of (j := rule) rfl hv0, t0, _, _, _, rfl, rfl, SqT.of h1, at_of (j := 1) rfl rfl, ?_⟩
    refine ⟨_, rfl, _, rfl, l0, _, rfl, .inl (SqL.of h2), rfl, _, rfl, ite2 (fun c => ?_) (fun c => ?_)⟩
    · have e : dot = ss.length := by
        have := V.int.inj (of_decide_eq_true c)
        rw [List.length_map] at this
        exact Int.ofNat_inj.mp this
      have full := comb_full (B := pbOf G Z row kn) (T := T) (i := i) (j := j) hrl
      rw [← e] at full
      refine ⟨_, rfl, _, rfl, rfl, _, rfl, ite2 (fun c => ?_) (fun c => ?_)⟩
      · have e2 : i = j := Int.ofNat_inj.mp (V.int.inj (of_decide_eq_true c))
        rw [if_pos e2] at full
        refine ⟨(by show 2 ≤ sizeLine; decide), fun p np => ?_⟩
        exact q _ (some (0, 0)) _ (same_upd np) ⟨p, rfl, upd_same⟩ full
      · have e2 : ¬ i = j := fun z => c (by rw [z]; exact decide_eq_true rfl)
        rw [if_neg e2] at full
        exact q _ _ _ (Same.refl H) (show CostV H .non none from rfl) full
    · have lt : dot < ss.length := by
        rcases Nat.lt_or_eq_of_le hd with z | z
        · exact z
        · refine (c ?_).elim
          rw [z, List.length_map]
          exact decide_eq_true rfl
      obtain ⟨k, hk⟩ : ∃ k, ss[dot]? = some k := ⟨_, List.getElem?_eq_getElem lt⟩
      have inS : k ∈ ss := List.mem_of_getElem? hk
      have gk := gt.some_ _ inG k inS
      have hat : (ss.map V.str)[dot]? = some (.str k) := by
        rw [List.getElem?_map, hk]
        rfl
      refine ⟨_, rfl, _, rfl, _, _, rfl, rfl, i, ((j : Int) + 1), rfl, ⟨by omega, by omega, by omega, by omega⟩, ?_⟩
      have en : ((j : Int) + 1 - (i : Int)).toNat = j + 1 - i := by omega
      rw [en]
      refine for_range (lo := i) (n := j + 1 - i) (fun n σ H' => ∃ v10 v11 v12 bv bo, σ = [some (.ref g), some (.ref t), some (.ref r), some (.ref fo), some (.int rule), some (.int dot), some (.int i), some (.int j), some (.ref l0), some bv, v10, v11, v12] ∧ Same H H' ∧ CostV H' bv bo ∧ LeastO (UpC (pbOf G Z row kn) T k rule dot i j (i + n)) bo)
        ⟨none, none, none, .non, none, rfl, Same.refl H, rfl, upC_start⟩ ?_ ?_
      · rintro n σ H1 hn ⟨v10, v11, v12, bv, bo, rfl, s1, hb, least⟩
        have ee : (i : Int) + (n : Int) = ((i + n : Nat) : Int) := by omega
        rw [ee]
        have step := upC_step (Nat.le_add_right i n) least
        rw [Nat.add_assoc] at step
        generalize eE : i + n = e at step
        have h1e : i ≤ e := by omega
        have h2e : e ≤ j := by omega
        -- after
        obtain ⟨d1, kv1, a1, a2, a3⟩ := tab.at_ e j h2e jn
        obtain ⟨av, b1, b2⟩ := a3.rs rule (dot + 1) N ss hrl (by omega)
        refine ⟨_, rfl, _, rfl, _, rfl, (by show 2 ≤ sizeLine; decide), fun p np => ?_⟩
        have s2 : Same H1 (upd H1 p (.tup [.int e, .int j])) := same_upd np
        have s02 := s1.trans s2
        have g1 := DGet.t (k := kS e j) (s02 _ _ hf) (b := p) upd_same
        rw [a1] at g1
        refine ⟨fo, _, rfl, g1, _, rfl, _, rfl, _, _, rfl, rfl, (by show 3 ≤ sizeLine; decide), fun p2 np2 => ?_⟩
        have s3 := s02.trans (same_upd np2 (o := .tup [.str "rest", .int rule, .int ((dot : Int) + 1)]))
        have g2 := DGet.t (k := kR rule (dot + 1)) (s3 _ _ a2) (b := p2) upd_same
        rw [b1] at g2
        refine ⟨d1, av, rfl, g2, ?_⟩
        have hav := b2.up (Up.of_same s3)
        have hb3 := hb.up (Up.of_same (s2.trans (same_upd np2 (o := .tup [.str "rest", .int rule, .int ((dot : Int) + 1)]))))
        generalize upd (upd H1 p (.tup [.int e, .int j])) p2 (.tup [.str "rest", .int rule, .int ((dot : Int) + 1)]) = H3 at s3 hav hb3
        clear g1 g2 s02 s2 np2 np hb s1
        -- cost
        refine ⟨_, rfl, _, rfl, _, rfl, _, rfl, l0, _, _, _, rfl, rfl, SqL.of (s3 _ _ h2), at_of (j := dot) rfl hat, _, rfl, _, rfl, t, r, Z, row, k, i, e, rfl, hZ.up (Up.of_same s3), ok, s3 _ _ hrow, h1e, by omega, len, fun H4 s4 => ⟨(by show 2 ≤ sizeLine; decide), fun p3 np3 => ?_⟩⟩
        have s5 : Same H3 (upd H4 p3 (.tup [.int (leafP Z row k i e), .int 1])) := s4.trans (same_upd np3)
        have hc5 : CostV (upd H4 p3 (.tup [.int (leafP Z row k i e), .int 1])) (.ref p3) (some (leafP Z row k i e, 1)) := ⟨p3, rfl, upd_same⟩
        have hav5 := hav.up (Up.of_same s5)
        have hb5 := hb3.up (Up.of_same s5)
        have s05 := s3.trans s5
        generalize upd H4 p3 (.tup [.int (leafP Z row k i e), .int 1]) = H5 at s5 hc5 hav5 hb5 s05
        clear hav hb3 s5 s3
        refine ⟨_, rfl, _, rfl, l0, _, _, _, rfl, rfl, SqL.of (s05 _ _ h2), at_of (j := dot) rfl hat, k, rfl, gk.1, gk.2, _, rfl, ?_⟩
        by_cases low : isLow k = true
        · rw [low]
          refine iteT ?_
          obtain ⟨q3, hq3, eq3⟩ := gt.name _ inG k inS low
          obtain ⟨d2, kv2, c1, c2, c3⟩ := tab.at_ i e h1e (Nat.le_trans h2e jn)
          obtain ⟨cv, k1, k2⟩ := c3.nm k ⟨q3, hq3, eq3⟩
          refine ⟨_, rfl, _, rfl, _, rfl, (by show 2 ≤ sizeLine; decide), fun p4 np4 => ?_⟩
          have s6 : Same H5 (upd H5 p4 (.tup [.int i, .int e])) := same_upd np4
          have s06 := s05.trans s6
          have g3 := DGet.t (k := kS i e) (s06 _ _ hf) (b := p4) upd_same
          rw [c1] at g3
          refine ⟨fo, _, rfl, g3, _, rfl, _, rfl, l0, _, _, _, rfl, rfl, SqL.of (s06 _ _ h2), at_of (j := dot) rfl hat, (by show 2 ≤ sizeLine; decide), fun p5 np5 => ?_⟩
          have s7 := s6.trans (same_upd np5 (o := .tup [.str "name", .str k]))
          have s07 := s05.trans s7
          have g4 := DGet.t (k := kN k) (s07 _ _ c2) (b := p5) upd_same
          rw [k1] at g4
          refine ⟨d2, cv, rfl, g4, ?_⟩
          have hc7 := k2.up (Up.of_same s07)
          have hav7 := hav5.up (Up.of_same s7)
          have hb7 := hb5.up (Up.of_same s7)
          have ehd : (T i e).nm k = headC (pbOf G Z row kn) T k i e := by
            unfold headC
            rw [if_pos (show (pbOf G Z row kn).isN k = true from low)]
          rw [ehd] at hc7
          show _
          generalize upd (upd H5 p4 (.tup [.int i, .int e])) p5 (.tup [.str "name", .str k]) = H7 at s07 hc7 hav7 hb7
          clear g3 g4 s7 s06 s6 hc5 hav5 hb5 np4 np5
          cases eo : (T e j).rs rule (dot + 1) with
          | none =>
            rw [eo] at hav7
            obtain rfl : av = .non := hav7
            have eE : endC (pbOf G Z row kn) T k rule dot i j e = none := by
              unfold endC
              rw [eo]
              split
              · rename_i z
                cases z
              · rfl
            rw [eE] at step
            refine ⟨_, rfl, rfl, _, rfl, iteF ⟨_, _, _, bv, bo, rfl, s07, hb7, ?_⟩⟩
            cases bo <;> exact step
          | some b =>
            rw [eo] at hav7
            obtain ⟨tb, rfl, htb⟩ := hav7
            refine ⟨_, rfl, rfl, _, rfl, iteT ⟨_, rfl, rfl, _, rfl, ?_⟩⟩
            cases eh : headC (pbOf G Z row kn) T k i e with
            | none =>
              have eE : endC (pbOf G Z row kn) T k rule dot i j e = none := by
                unfold endC
                rw [eh]
              rw [eE] at step
              rw [eh] at hc7
              obtain rfl : cv = .non := hc7
              refine iteF ⟨_, _, _, bv, bo, rfl, s07, hb7, ?_⟩
              cases bo <;> exact step
            | some a =>
              have eE : endC (pbOf G Z row kn) T k rule dot i j e = some (a.1 + b.1, a.2 + b.2) := by
                unfold endC
                rw [eh, eo]
              rw [eE] at step
              rw [eh] at hc7
              obtain ⟨ta, rfl, hta⟩ := hc7
              refine iteT ?_
              refine ⟨_, rfl, ta, _, _, _, rfl, rfl, SqT.of hta, at_of (j := 0) rfl rfl, _, rfl, tb, _, _, _, rfl, rfl, SqT.of htb, at_of (j := 0) rfl rfl, _, _, rfl, rfl, ?_⟩
              refine ⟨_, rfl, ta, _, _, _, rfl, rfl, SqT.of hta, at_of (j := 1) rfl rfl, _, rfl, tb, _, _, _, rfl, rfl, SqT.of htb, at_of (j := 1) rfl rfl, _, _, rfl, rfl, ?_⟩
              refine ⟨(by show 2 ≤ sizeLine; decide), fun p9 np9 => ?_⟩
              have s9 : Same H7 (upd H7 p9 (.tup [.int (a.1 + b.1), .int (a.2 + b.2)])) := same_upd np9
              have hp9 : CostV (upd H7 p9 (.tup [.int (a.1 + b.1), .int (a.2 + b.2)])) (.ref p9) (some (a.1 + b.1, a.2 + b.2)) := ⟨p9, rfl, upd_same⟩
              have hb9 := hb7.up (Up.of_same s9)
              have sA := s07.trans s9
              show _
              generalize upd H7 p9 (.tup [.int (a.1 + b.1), .int (a.2 + b.2)]) = H9 at hp9 hb9 sA
              cases bo with
              | none =>
                obtain rfl : bv = .non := hb9
                exact ⟨_, rfl, rfl, _, rfl, iteT ⟨_, rfl, _, _, _, _, some (a.1 + b.1, a.2 + b.2), rfl, sA, hp9, step⟩⟩
              | some b0 =>
                obtain ⟨t9, rfl, ht9⟩ := id hb9
                refine ⟨_, rfl, rfl, _, rfl, iteF ⟨_, rfl, _, rfl, cD (a.1 + b.1, a.2 + b.2), cD b0, hp9.dp, hb9.dp, cD_alike _ _, (fun z => by cases z), (by simp [cD, PyData.depth, PyData.depthAll]), _, rfl, ?_⟩⟩
                rw [cost_lt]
                unfold better at step
                dsimp only at step ⊢
                by_cases lt : a.1 + b.1 < b0.1 ∨ (a.1 + b.1 = b0.1 ∧ a.2 + b.2 < b0.2)
                · rw [if_pos lt] at step
                  rw [decide_eq_true lt]
                  exact iteT ⟨_, rfl, _, _, _, _, some (a.1 + b.1, a.2 + b.2), rfl, sA, hp9, step⟩
                · rw [if_neg lt] at step
                  rw [decide_eq_false lt]
                  exact iteF ⟨_, _, _, _, some b0, rfl, sA, hb9, step⟩
        · rw [Bool.not_eq_true] at low
          rw [low]
          refine iteF ?_
          have low : ¬ isLow k = true := by rw [low]; exact Bool.false_ne_true
          have ehd : some (leafP Z row k i e, (1 : Int)) = headC (pbOf G Z row kn) T k i e := by
            unfold headC
            rw [if_neg (show ¬ (pbOf G Z row kn).isN k = true from low)]
            rfl
          rw [ehd] at hc5
          cases eo : (T e j).rs rule (dot + 1) with
          | none =>
            rw [eo] at hav5
            obtain rfl : av = .non := hav5
            have eE : endC (pbOf G Z row kn) T k rule dot i j e = none := by
              unfold endC
              rw [eo]
              split
              · rename_i z
                cases z
              · rfl
            rw [eE] at step
            refine ⟨_, rfl, rfl, _, rfl, iteF ⟨_, _, _, bv, bo, rfl, s05, hb5, ?_⟩⟩
            cases bo <;> exact step
          | some b =>
            rw [eo] at hav5
            obtain ⟨tb, rfl, htb⟩ := hav5
            refine ⟨_, rfl, rfl, _, rfl, iteT ⟨_, rfl, rfl, _, rfl, ?_⟩⟩
            cases eh : headC (pbOf G Z row kn) T k i e with
            | none =>
              have eE : endC (pbOf G Z row kn) T k rule dot i j e = none := by
                unfold endC
                rw [eh]
              rw [eE] at step
              unfold headC at eh
              rw [if_neg (show ¬ (pbOf G Z row kn).isN k = true from low)] at eh
              cases eh
            | some a =>
              have eE : endC (pbOf G Z row kn) T k rule dot i j e = some (a.1 + b.1, a.2 + b.2) := by
                unfold endC
                rw [eh, eo]
              rw [eE] at step
              rw [eh] at hc5
              obtain ⟨ta, eta, hta⟩ := hc5
              cases eta
              refine iteT ?_
              refine ⟨_, rfl, p3, _, _, _, rfl, rfl, SqT.of hta, at_of (j := 0) rfl rfl, _, rfl, tb, _, _, _, rfl, rfl, SqT.of htb, at_of (j := 0) rfl rfl, _, _, rfl, rfl, ?_⟩
              refine ⟨_, rfl, p3, _, _, _, rfl, rfl, SqT.of hta, at_of (j := 1) rfl rfl, _, rfl, tb, _, _, _, rfl, rfl, SqT.of htb, at_of (j := 1) rfl rfl, _, _, rfl, rfl, ?_⟩
              refine ⟨(by show 2 ≤ sizeLine; decide), fun p9 np9 => ?_⟩
              have s9 : Same H5 (upd H5 p9 (.tup [.int (a.1 + b.1), .int (a.2 + b.2)])) := same_upd np9
              have hp9 : CostV (upd H5 p9 (.tup [.int (a.1 + b.1), .int (a.2 + b.2)])) (.ref p9) (some (a.1 + b.1, a.2 + b.2)) := ⟨p9, rfl, upd_same⟩
              have hb9 := hb5.up (Up.of_same s9)
              have sA := s05.trans s9
              show _
              generalize upd H5 p9 (.tup [.int (a.1 + b.1), .int (a.2 + b.2)]) = H9 at hp9 hb9 sA
              cases bo with
              | none =>
                obtain rfl : bv = .non := hb9
                exact ⟨_, rfl, rfl, _, rfl, iteT ⟨_, rfl, _, _, _, _, some (a.1 + b.1, a.2 + b.2), rfl, sA, hp9, step⟩⟩
              | some b0 =>
                obtain ⟨t9, rfl, ht9⟩ := id hb9
                refine ⟨_, rfl, rfl, _, rfl, iteF ⟨_, rfl, _, rfl, cD (a.1 + b.1, a.2 + b.2), cD b0, hp9.dp, hb9.dp, cD_alike _ _, (fun z => by cases z), (by simp [cD, PyData.depth, PyData.depthAll]), _, rfl, ?_⟩⟩
                rw [cost_lt]
                unfold better at step
                dsimp only at step ⊢
                by_cases lt : a.1 + b.1 < b0.1 ∨ (a.1 + b.1 = b0.1 ∧ a.2 + b.2 < b0.2)
                · rw [if_pos lt] at step
                  rw [decide_eq_true lt]
                  exact iteT ⟨_, rfl, _, _, _, _, some (a.1 + b.1, a.2 + b.2), rfl, sA, hp9, step⟩
                · rw [if_neg lt] at step
                  rw [decide_eq_false lt]
                  exact iteF ⟨_, _, _, _, some b0, rfl, sA, hb9, step⟩
      · rintro σ H2 ⟨v10, v11, v12, bv, bo, rfl, s2, hb, least⟩
        rw [show i + (j + 1 - i) = j + 1 from by omega] at least
        exact ⟨bv, rfl, q _ _ _ s2 hb (upC_end hrl hk least)⟩
end
end Ld

set_option Elab.async false
set_option linter.all false
set_option maxRecDepth 100000
set_option maxHeartbeats 4000000
/-! The law's own empty table. -/
namespace Ld
open PySem PySem.Spec PyProof.Rows L2 Lg Lr Lb
section
variable {P : Program} {w : World} {K : PySem.W.Frag} {mg : Str → Option Value} {base : Heap}
theorem scSt : FnScope ["grammar", "row", "found", "i", "j", "rule", "dot"] ["grammar", "row"] (defScope sStart) := ⟨rfl, rfl, rfl, by decide +kernel, rfl, by decide +kernel, by decide +kernel⟩
def spStart : Sp := fun vs H Q _ => ∃ (g r : Addr) (G : List Rule) (row : List Str), vs = [.ref g, .ref r] ∧ GraA H g G ∧ GraT G ∧ H r = some (.lst (row.map V.str)) ∧ row.length ≤ 60 ∧
  ∀ (f : Addr) (H2 : Hp) (F : List (List Key × V)), Same H H2 → H f = none → H2 f = some (.dT F) → TabK H2 G row.length F (fun _ _ => ent0) → (∀ p ∈ F, ∃ d, p.2 = .ref d ∧ H d = none ∧ d ≠ f) → F.length ≤ 4000 → Q (.ref f) H2
/-- while the entries of one stretch are made -/
structure StI (G : List Rule) (H : Hp) (fo d : Addr) (D : Nat → Nat → Prop) (F F1 : List (List Key × V)) (DK : List Key → Prop) (n : Nat) (H2 : Hp) : Prop where
  same : Same H H2
  fo : H2 fo = some (.dT F1)
  tab : TabD H2 G D F
  ent : ∃ kvs, H2 d = some (.dT kvs) ∧ NonK DK kvs ∧ kvs.length ≤ n
theorem StI.put {G : List Rule} {H H2 : Hp} {fo d : Addr} {D : Nat → Nat → Prop} {F F1 : List (List Key × V)} {DK DK2 : List Key → Prop} {n : Nat} (h : StI G H fo d D F F1 DK n H2) (fd : fo ≠ d) (nd : H d = none) (out : ∀ p ∈ F, p.2 ≠ .ref d) {H3 : Hp} (s : Same H2 H3) {kvs : List (List Key × V)}
    (hk : H2 d = some (.dT kvs)) (nk : NonK DK kvs) (len : kvs.length ≤ n) {k : List Key} (iff : ∀ x, DK2 x ↔ DK x ∨ x = k) : StI G H fo d D F F1 DK2 (n + 1) (upd H3 d (.dT (putK kvs k .non))) := by
  have b : But d H2 (upd H3 d (.dT (putK kvs k .non))) := (But.of_same s).upd
  refine ⟨same_put (h.same.trans s) nd, b _ _ fd h.fo, h.tab.but hk out b, _, upd_same, nk.put iff, Nat.le_trans (length_putK _ _ _) (Nat.succ_le_succ len)⟩
theorem ok_start {f : Addr} {fd : FuncData} (F : Fun K "_law_start" "_law_start" sStart f fd) (mr : mg "range" = none) (ml : mg "len" = none) : FnOk P w K mg base CX0 1 f fd ["grammar", "row"] spStart := by
  refine F.ok scSt (fun vs H Q E h => ?_) (fun cdv A outer s H vs Q E hr h => ?_)
  · obtain ⟨g, r, G, row, rfl, _⟩ := h
    rfl
  · obtain ⟨g, r, G, row, rfl, hG, gt, hrow, len, q⟩ := h
    have hu := units1 hr
    refine ⟨_, pss_cons (ps_set (i := 2) scSt.nd rfl (.inl rfl) pe_dnewT)
      (pss_cons (ps_for PassesOwn.never rfl (pi_range1 rfl mr (pa_cons (pe_op op_add (pe_callB call_len_seq (by rfl) ml PySem.boot_len (pa_cons (pv 1) pa_nil)) pe_int) pa_nil)) (pg_name (i := 3) scSt.nd rfl (.inl rfl))
        (pss_one (ps_for PassesOwn.never rfl (pi_range2 (by rfl) mr (pa_cons (pv 3) (pa_cons (pe_op op_add (pe_callB call_len_seq (by rfl) ml PySem.boot_len (pa_cons (pv 1) pa_nil)) pe_int) pa_nil))) (pg_name (i := 4) scSt.nd rfl (.inl rfl))
          (pss_cons (ps_dput hu (pv 2) (pe_tup (pa_cons (pv 3) (pa_cons (pv 4) pa_nil))) pe_dnewT (by rfl))
          (pss_one (ps_for PassesOwn.never rfl (pi_range1 rfl mr (pa_cons (pe_callB call_len_seq (by rfl) ml PySem.boot_len (pa_cons (pv 0) pa_nil)) pa_nil)) (pg_name (i := 5) scSt.nd rfl (.inl rfl))
            (pss_cons (ps_dput hu (pe_dget hu (pv 2) (pe_tup (pa_cons (pv 3) (pa_cons (pv 4) pa_nil))) (fun _ _ => rfl)) (pe_tup (pa_cons pe_str (pa_cons (pe_ix ix_tup (pe_ix ix_list (pv 0) (pv 5) (fun _ _ => rfl)) pe_int (fun _ _ => rfl)) pa_nil))) pe_non (by rfl))
            (pss_one (ps_for PassesOwn.never rfl (pi_range1 rfl mr (pa_cons (pe_op op_add (pe_callB call_len_seq (by rfl) ml PySem.boot_len (pa_cons (pe_ix ix_tup (pe_ix ix_list (pv 0) (pv 5) (fun _ _ => rfl)) pe_int (fun _ _ => rfl)) pa_nil)) pe_int) pa_nil)) (pg_name (i := 6) scSt.nd rfl (.inl rfl))
              (pss_one (ps_dput hu (pe_dget hu (pv 2) (pe_tup (pa_cons (pv 3) (pa_cons (pv 4) pa_nil))) (fun _ _ => rfl)) (pe_tup (pa_cons pe_str (pa_cons (pv 5) (pa_cons (pv 6) pa_nil)))) pe_non (by rfl))))))))))))
      (pss_one (ps_ret (pv 2)))), ?_⟩
    obtain ⟨vs, hg, gr⟩ := id hG
    have lvs : (vs.length : Int) = (G.length : Int) := by rw [gr.len]
    have lG := gt.rules
    intro fo nfo
    have s0 : Same H (upd H fo (.dT [])) := same_upd nfo
    refine ⟨_, rfl, r, _, rfl, .inl (SqL.of (s0 _ _ hrow)), _, _, rfl, rfl, _, rfl, by rw [List.length_map]; omega, by rw [List.length_map]; omega, ?_⟩
    have en : (((row.map V.str).length : Int) + 1).toNat = row.length + 1 := by
      rw [List.length_map]
      omega
    rw [en]
    refine for_range (lo := 0) (n := row.length + 1) (fun i σ H' => ∃ v3 v4 v5 v6 F, σ = [some (.ref g), some (.ref r), some (.ref fo), v3, v4, v5, v6] ∧ Same H H' ∧ H' fo = some (.dT F) ∧ TabD H' G (fun a b => a < i ∧ a ≤ b ∧ b ≤ row.length) F ∧ (∀ p ∈ F, ∃ d, p.2 = .ref d ∧ H d = none ∧ d ≠ fo) ∧ F.length ≤ 62 * i)
      ⟨none, none, none, none, [], rfl, s0, upd_same, TabD.start (fun a b z => absurd z.1 (Nat.not_lt_zero a)), (fun _ m => nomatch m), Nat.le_refl _⟩ ?_ ?_
    · rintro i σ H1 hi ⟨v3, v4, v5, v6, F, rfl, s1, hf1, tab1, new1, len1⟩
      rw [Int.zero_add]
      refine ⟨_, rfl, _, rfl, r, _, rfl, .inl (SqL.of (s1 _ _ hrow)), _, _, rfl, rfl, i, _, rfl, ⟨by omega, by omega, by rw [List.length_map]; omega, by rw [List.length_map]; omega⟩, ?_⟩
      have en2 : (((row.map V.str).length : Int) + 1 - (i : Int)).toNat = row.length + 1 - i := by
        rw [List.length_map]
        omega
      rw [en2]
      refine for_range (lo := i) (n := row.length + 1 - i) (fun m σ H' => ∃ v4 v5 v6 F, σ = [some (.ref g), some (.ref r), some (.ref fo), some (.int i), v4, v5, v6] ∧ Same H H' ∧ H' fo = some (.dT F) ∧ TabD H' G (fun a b => (a < i ∧ a ≤ b ∧ b ≤ row.length) ∨ (a = i ∧ i ≤ b ∧ b < i + m)) F ∧ (∀ p ∈ F, ∃ d, p.2 = .ref d ∧ H d = none ∧ d ≠ fo) ∧ F.length ≤ 62 * i + m)
        ⟨v4, v5, v6, F, rfl, s1, hf1, tab1.iff (fun a b => by omega), new1, len1⟩ ?_ ?_
      · rintro m σ H2 hm ⟨v4, v5, v6, F, rfl, s2, hf2, tab2, new2, len2⟩
        have ej : (i : Int) + (m : Int) = ((i + m : Nat) : Int) := by omega
        rw [ej]
        generalize eJ : i + m = j at ej tab2
        intro d nd
        have sd : Same H2 (upd H2 d (.dT [])) := same_upd nd
        have hd0 : upd H2 d (.dT []) d = some (.dT []) := upd_same
        have nfd : fo ≠ d := ne_of_none hf2 nd
        have nd0 : H d = none := s2.free nd
        refine ⟨_, rfl, _, rfl, _, rfl, (by show 2 ≤ sizeLine; decide), fun p np => ?_⟩
        have sp := sd.trans (same_upd np (o := .tup [.int i, .int j]))
        have hdp : upd (upd H2 d (.dT [])) p (.tup [.int i, .int j]) d = some (.dT []) := by
          rw [upd_ne (ne_of_none hd0 np)]
          exact hd0
        have out : ∀ q ∈ F, q.2 ≠ .ref d := fun x hx z => by
          obtain ⟨c, kv, e1, e2⟩ := tab2.live x hx
          rw [e1] at z
          cases z
          rw [nd] at e2
          cases e2
        have outf : ∀ q ∈ F, q.2 ≠ .ref fo := fun x hx z => by
          obtain ⟨c, e1, _, ne⟩ := new2 x hx
          rw [e1] at z
          cases z
          exact ne rfl
        refine ⟨fo, _, rfl, DPut.t (k := kS i j) (sp _ _ hf2) upd_same (million1 (by omega)), ?_⟩
        have b0 : But fo H2 (upd (upd (upd H2 d (.dT [])) p (.tup [.int i, .int j])) fo (.dT (putK F (kS i j) (.ref d)))) := (But.of_same sp).upd
        have st0 : StI G H fo d (fun a b => (a < i ∧ a ≤ b ∧ b ≤ row.length) ∨ (a = i ∧ i ≤ b ∧ b < j)) F (putK F (kS i j) (.ref d)) (KeyD G 0 0 0) 0 (upd (upd (upd H2 d (.dT [])) p (.tup [.int i, .int j])) fo (.dT (putK F (kS i j) (.ref d)))) :=
          ⟨same_put (s2.trans sp) nfo, upd_same, tab2.but hf2 outf b0, [], by rw [upd_ne (Ne.symm nfd)]; exact hdp, NonK.start (keyD_start G), Nat.le_refl _⟩
        generalize upd (upd (upd H2 d (.dT [])) p (.tup [.int i, .int j])) fo (.dT (putK F (kS i j) (.ref d))) = H3 at st0
        have at_d : valV (putK F (kS i j) (.ref d)) (kS i j) = some (.ref d) := by rw [valV_put, if_pos rfl]
        clear b0 hdp sp np hd0 sd
        refine ⟨_, rfl, g, _, rfl, .inl (SqL.of (st0.same _ _ hg)), _, rfl, by rw [lvs]; omega, by rw [lvs]; omega, ?_⟩
        rw [show ((vs.length : Int)).toNat = G.length from by omega]
        refine for_range (lo := 0) (n := G.length) (fun ρ σ H' => ∃ v5 v6, σ = [some (.ref g), some (.ref r), some (.ref fo), some (.int i), some (.int j), v5, v6] ∧ StI G H fo d (fun a b => (a < i ∧ a ≤ b ∧ b ≤ row.length) ∨ (a = i ∧ i ≤ b ∧ b < j)) F (putK F (kS i j) (.ref d)) (KeyD G ρ ρ 0) (22 * ρ) H') ⟨v5, v6, rfl, st0⟩ ?_ ?_
        · rintro ρ σ H4 hρ ⟨v5, v6, rfl, st⟩
          rw [Int.zero_add]
          obtain ⟨⟨N, ss⟩, hrl⟩ : ∃ x, G[ρ]? = some x := ⟨_, List.getElem?_eq_getElem hρ⟩
          obtain ⟨v0, hv0, t0, l0, rfl, h1, h2⟩ : ∃ v0, vs[ρ]? = some v0 ∧ RuleA H v0 (N, ss) := by
            obtain ⟨x, hx⟩ : ∃ x, vs[ρ]? = some x := ⟨_, List.getElem?_eq_getElem (by rw [gr.len]; exact hρ)⟩
            obtain ⟨q2, hq2, ra⟩ := gr.get hx
            rw [hrl] at hq2
            cases hq2
            exact ⟨x, hx, ra⟩
          have lss : ss.length ≤ 20 := gt.few _ (List.mem_of_getElem? hrl)
          -- the name
          obtain ⟨kvs, hk, nk, lk⟩ := st.ent
          refine ⟨_, rfl, _, rfl, _, rfl, (by show 2 ≤ sizeLine; decide), fun p np => ?_⟩
          have s5 : Same H4 (upd H4 p (.tup [.int i, .int j])) := same_upd np
          have g1 := DGet.t (k := kS i j) (s5 _ _ st.fo) (b := p) upd_same
          rw [at_d] at g1
          refine ⟨fo, _, rfl, g1, _, rfl, _, rfl, g, _, _, _, rfl, rfl, SqL.of (s5 _ _ (st.same _ _ hg)), at_of (j := ρ) rfl hv0, t0, _, _, _, rfl, rfl, SqT.of (s5 _ _ (st.same _ _ h1)), at_of (j := 0) rfl rfl, (by show 2 ≤ sizeLine; decide), fun p2 np2 => ?_⟩
          have s6 := s5.trans (same_upd np2 (o := .tup [.str "name", .str N]))
          refine ⟨d, _, rfl, DPut.t (k := kN N) (s6 _ _ hk) upd_same (million1 (by omega)), ?_⟩
          have st2 := st.put nfd nd0 out s6 hk nk lk (keyD_name (d := 0) hrl)
          generalize upd (upd (upd H4 p (.tup [.int i, .int j])) p2 (.tup [.str "name", .str N])) d (.dT (putK kvs (kN N) .non)) = H5 at st2
          clear g1 s6 np2 s5 np lk nk hk st
          refine ⟨_, rfl, _, rfl, g, _, _, _, rfl, rfl, SqL.of (st2.same _ _ hg), at_of (j := ρ) rfl hv0, t0, _, _, _, rfl, rfl, SqT.of (st2.same _ _ h1), at_of (j := 1) rfl rfl, l0, ss.map V.str, rfl, .inl (SqL.of (st2.same _ _ h2)), _, _, rfl, rfl, _, rfl, by rw [List.length_map]; omega, by rw [List.length_map]; omega, ?_⟩
          rw [show (((ss.map V.str).length : Int) + 1).toNat = ss.length + 1 from by rw [List.length_map]; omega]
          refine for_range (lo := 0) (n := ss.length + 1) (fun δ σ H' => ∃ v6, σ = [some (.ref g), some (.ref r), some (.ref fo), some (.int i), some (.int j), some (.int ρ), v6] ∧ StI G H fo d (fun a b => (a < i ∧ a ≤ b ∧ b ≤ row.length) ∨ (a = i ∧ i ≤ b ∧ b < j)) F (putK F (kS i j) (.ref d)) (KeyD G (ρ + 1) ρ δ) (22 * ρ + 1 + δ) H') ⟨v6, rfl, st2⟩ ?_ ?_
          · rintro δ σ H6 hδ ⟨v6, rfl, st⟩
            rw [Int.zero_add]
            obtain ⟨kvs, hk, nk, lk⟩ := st.ent
            refine ⟨_, rfl, _, rfl, _, rfl, (by show 2 ≤ sizeLine; decide), fun p np => ?_⟩
            have s5 : Same H6 (upd H6 p (.tup [.int i, .int j])) := same_upd np
            have g1 := DGet.t (k := kS i j) (s5 _ _ st.fo) (b := p) upd_same
            rw [at_d] at g1
            refine ⟨fo, _, rfl, g1, _, rfl, _, rfl, (by show 3 ≤ sizeLine; decide), fun p2 np2 => ?_⟩
            have s6 := s5.trans (same_upd np2 (o := .tup [.str "rest", .int ρ, .int δ]))
            refine ⟨d, _, rfl, DPut.t (k := kR ρ δ) (s6 _ _ hk) upd_same (million1 (by omega)), _, rfl, ?_⟩
            exact st.put nfd nd0 out s6 hk nk lk (keyD_rest hrl (by omega))
          · rintro σ H6 ⟨v6, rfl, st⟩
            obtain ⟨kvs, hk, nk, lk⟩ := st.ent
            exact ⟨_, _, rfl, st.same, st.fo, st.tab, kvs, hk, nk.iff (keyD_next hrl), by omega⟩
        · rintro σ H4 ⟨v5, v6, rfl, st⟩
          obtain ⟨kvs, hk, nk, lk⟩ := st.ent
          refine ⟨_, _, _, _, rfl, st.same, st.fo, ?_, fun x hx => ?_, Nat.le_trans (length_putK _ _ _) (by omega)⟩
          · exact st.tab.put out hk nk.ent (fun a b => by omega) (by omega)
          · rcases put_mem2 x hx with y | rfl
            · exact new2 x y
            · exact ⟨d, rfl, nd0, Ne.symm nfd⟩
      · rintro σ H2 ⟨v4, v5, v6, F, rfl, s2, hf2, tab2, new2, len2⟩
        exact ⟨_, _, _, _, F, rfl, s2, hf2, tab2.iff (fun a b => by omega), new2, by omega⟩
    · rintro σ H1 ⟨v3, v4, v5, v6, F, rfl, s1, hf1, tab1, new1, len1⟩
      exact ⟨_, rfl, q fo H1 F s1 nfo hf1 (TabD.tab (tab1.iff fun a b => by omega)) new1 (by omega)⟩
end
end Ld

set_option Elab.async false
set_option linter.all false
set_option maxRecDepth 100000
set_option maxHeartbeats 4000000
/-! The law's own round over a stretch. -/
namespace Ld
open PySem PySem.Spec PyProof.Rows L2 Lg Lr Lb
/-- the prices at t, their dict none of F's -/
def PrX (H : Hp) (t : Addr) (Z : Prc) (F : List (List Key × V)) : Prop := ∃ d, H t = some (.tup [.int Z.put, .int Z.out, .int Z.chg, .ref d]) ∧ H d = some (.dT Z.ex) ∧ ∀ p ∈ F, p.2 ≠ .ref d
theorem PrX.pr {H : Hp} {t : Addr} {Z : Prc} {F : List (List Key × V)} (h : PrX H t Z F) : PrA H t Z := let ⟨d, h1, h2, _⟩ := h; ⟨d, h1, h2⟩
theorem PrX.but {A B : Hp} {t d : Addr} {kd : List (List Key × V)} {Z : Prc} {F : List (List Key × V)} (h : PrX A t Z F) (hd : A d = some (.dT kd)) (inF : ∃ p ∈ F, p.2 = .ref d) (b : But d A B) : PrX B t Z F := by
  obtain ⟨dp, h1, h2, h3⟩ := h
  obtain ⟨p, hp, e⟩ := inF
  exact ⟨dp, b.tup hd h1, b dp _ (fun z => h3 p hp (by rw [e, z])) h2, h3⟩
section
variable {P : Program} {w : World} {K : PySem.W.Frag} {mg : Str → Option Value} {base : Heap}
theorem scRo : FnScope ["grammar", "prices", "row", "found", "i", "j", "moved", "entries", "rule", "dot", "cost", "key"] ["grammar", "prices", "row", "found", "i", "j"] (defScope sRound) := ⟨rfl, rfl, rfl, by decide +kernel, rfl, by decide +kernel, by decide +kernel⟩
def spRound (kn : Nat → Nat → Option Ent) : Sp := fun vs H Q _ => ∃ (g t r f : Addr) (G : List Rule) (Z : Prc) (row : List Str) (F : List (List Key × V)) (T : Nat → Nat → Ent) (i j : Nat),
  vs = [.ref g, .ref t, .ref r, .ref f, .int i, .int j] ∧ GraA H g G ∧ GraT G ∧ PrX H t Z F ∧ PrcOk Z ∧ H r = some (.lst (row.map V.str)) ∧ row.length ≤ 60 ∧ H f = some (.dT F) ∧ (∀ p ∈ F, p.2 ≠ .ref f) ∧ TabK H G row.length F T ∧ i ≤ j ∧ j ≤ row.length ∧
  PbOk (pbOf G Z row kn) ∧ Short (pbOf G Z row kn) T i j ∧ kn i j = none ∧ SoundAt (pbOf G Z row kn) (T i j) i j ∧
  ∀ (b : Bool) (H2 : Hp) (d : Addr) (kvs : List (List Key × V)) (e : Ent), valV F (kS i j) = some (.ref d) → But d H H2 → H2 d = some (.dT kvs) → EntK H2 G kvs e → RoundOk (pbOf G Z row kn) i j (T i j) e →
    (b = false → e = T i j ∧ LeastAt (pbOf G Z row kn) e i j) → Q (.bl b) H2
theorem ok_round {f fL : Addr} {fd fdL : FuncData} {kn : Nat → Nat → Option Ent} (F : Fun K "_law_round" "_law_round" sRound f fd)
    (GL : FnOk P w K mg base CX0 3 fL fdL ["grammar", "prices", "row", "found", "rule", "dot", "i", "j"] spLeast) (kL : PySem.W.keepIn K (.ref fL) = true) (bL : Binds K fdL ["grammar", "prices", "row", "found", "rule", "dot", "i", "j"] []) (gL : mg "_law_least" = some (.ref fL))
    (mr : mg "range" = none) (ml : mg "len" = none) : FnOk P w K mg base CX0 4 f fd ["grammar", "prices", "row", "found", "i", "j"] (spRound kn) := by
  refine F.ok scRo (fun vs H Q E h => ?_) (fun cdv A outer s H vs Q E hr h => ?_)
  · obtain ⟨g, t, r, f, G, Z, row, F, T, i, j, rfl, _⟩ := h
    rfl
  · obtain ⟨g, t, r, fo, G, Z, row, F, T, i, j, rfl, hG, gt, hZ, ok, hrow, len, hf, outf, tab, ij, jn, pok, short, hkn, snd, q⟩ := h
    have hu := units1 hr
    refine ⟨_, pss_cons (ps_set (i := 6) scRo.nd rfl (.inl rfl) pe_bl)
      (pss_cons (ps_set (i := 7) scRo.nd rfl (.inl rfl) (pe_dget hu (pv 3) (pe_tup (pa_cons (pv 4) (pa_cons (pv 5) pa_nil))) (fun _ _ => rfl)))
      (pss_cons (ps_for PassesOwn.never rfl (pi_range1 rfl mr (pa_cons (pe_callB call_len_seq (by rfl) ml PySem.boot_len (pa_cons (pv 0) pa_nil)) pa_nil)) (pg_name (i := 8) scRo.nd rfl (.inl rfl))
        (pss_cons (ps_for PassesOwn.never rfl (pi_range3 rfl mr (pa_cons (pe_callB call_len_seq (by rfl) ml PySem.boot_len (pa_cons (pe_ix ix_tup (pe_ix ix_list (pv 0) (pv 8) (fun _ _ => rfl)) pe_int (fun _ _ => rfl)) pa_nil)) (pa_cons (pe_un un_neg pe_int) (pa_cons (pe_un un_neg pe_int) pa_nil)))) (pg_name (i := 9) scRo.nd rfl (.inl rfl))
          (pss_cons (ps_set (i := 10) scRo.nd rfl (.inl rfl) (pe_call GL hr (by rfl) gL kL bL .nil pass0 (pa_cons (pv 0) (pa_cons (pv 1) (pa_cons (pv 2) (pa_cons (pv 3) (pa_cons (pv 8) (pa_cons (pv 9) (pa_cons (pv 4) (pa_cons (pv 5) pa_nil))))))))))
          (pss_one (ps_if (pt_cmpR (op_neD (units64 hr)) (pv 10) (pe_dget hu (pv 7) (pe_tup (pa_cons pe_str (pa_cons (pv 8) (pa_cons (pv 9) pa_nil)))) (fun _ _ => rfl)) (nomark _))
            (pss_cons (ps_dput hu (pv 7) (pe_tup (pa_cons pe_str (pa_cons (pv 8) (pa_cons (pv 9) pa_nil)))) (pv 10) (by rfl))
            (pss_one (ps_set (i := 6) scRo.nd rfl (.inl rfl) pe_bl))) pss_nil))))
        (pss_cons (ps_set (i := 10) scRo.nd rfl (.inl rfl) (pe_dget hu (pv 7) (pe_tup (pa_cons pe_str (pa_cons (pv 8) (pa_cons pe_int pa_nil)))) (fun _ _ => rfl)))
        (pss_cons (ps_set (i := 11) scRo.nd rfl (.inl rfl) (pe_tup (pa_cons pe_str (pa_cons (pe_ix ix_tup (pe_ix ix_list (pv 0) (pv 8) (fun _ _ => rfl)) pe_int (fun _ _ => rfl)) pa_nil))))
        (pss_one (ps_if (PW.pt (pw_and (pt_cmpR op_notN (pv 10) pe_non (nomark _)) (pw_and1 (PW.pt (pw_or (pt_cmpR op_isN (pe_dget hu (pv 7) (pv 11) (fun _ _ => rfl)) pe_non (nomark _))
            (pw_or1 (pt_cmpR (op_ltD (units65 hr)) (pe_tup (pa_cons (pe_ix ix_tup (pv 10) pe_int (fun _ _ => rfl)) (pa_cons (pe_op op_add (pe_ix ix_tup (pv 10) pe_int (fun _ _ => rfl)) pe_int) pa_nil))) (pe_dget hu (pv 7) (pv 11) (fun _ _ => rfl)) (nomark _))))))))
          (pss_cons (ps_dput hu (pv 7) (pv 11) (pe_tup (pa_cons (pe_ix ix_tup (pv 10) pe_int (fun _ _ => rfl)) (pa_cons (pe_op op_add (pe_ix ix_tup (pv 10) pe_int (fun _ _ => rfl)) pe_int) pa_nil))) (by rfl))
          (pss_one (ps_set (i := 6) scRo.nd rfl (.inl rfl) pe_bl))) pss_nil))))))
      (pss_one (ps_ret (pv 6))))), ?_⟩
    obtain ⟨vs, hg, gr⟩ := id hG
    have lvs : (vs.length : Int) = (G.length : Int) := by rw [gr.len]
    have lG := gt.rules
    obtain ⟨d, kd, v1, v2, v3⟩ := tab.at_ i j ij jn
    have inF : ∃ p ∈ F, p.2 = V.ref d := ⟨_, valV_from v1, rfl⟩
    have fd : fo ≠ d := fun z => outf _ (valV_from v1) (by rw [z])
    refine ⟨_, rfl, _, rfl, _, rfl, (by show 2 ≤ sizeLine; decide), fun p np => ?_⟩
    have s1 : Same H (upd H p (.tup [.int i, .int j])) := same_upd np
    have g1 := DGet.t (k := kS i j) (s1 _ _ hf) (b := p) upd_same
    rw [v1] at g1
    refine ⟨fo, _, rfl, g1, ?_⟩
    have b1 : But d H (upd H p (.tup [.int i, .int j])) := But.of_same s1
    have hd1 := s1 _ _ v2
    have en1 := v3.up (Up.of_same s1)
    show _
    generalize upd H p (.tup [.int i, .int j]) = H1 at b1 hd1 en1 s1
    clear g1 np
    refine ⟨_, rfl, g, _, rfl, .inl (SqL.of (s1 _ _ hg)), _, rfl, by rw [lvs]; omega, by rw [lvs]; omega, ?_⟩
    rw [show ((vs.length : Int)).toNat = G.length from by omega]
    refine for_range (lo := 0) (n := G.length) (fun ρ σ H' => ∃ v8 v9 v10 v11 mv e kvs, σ = [some (.ref g), some (.ref t), some (.ref r), some (.ref fo), some (.int i), some (.int j), some (.bl mv), some (.ref d), v8, v9, v10, v11] ∧ But d H H' ∧ H' d = some (.dT kvs) ∧ EntK H' G kvs e ∧
        RInv (pbOf G Z row kn) i j (T i j) e ρ 21 ∧ (mv = false → e = T i j ∧ Still (pbOf G Z row kn) T i j ρ 21))
      ⟨none, none, none, none, false, T i j, kd, rfl, b1, hd1, en1, RInv.start snd (rest_none2 hkn gt.few 0), fun _ => ⟨rfl, Still.start gt.few⟩⟩ ?_ ?_
    · rintro ρ σ H2 hρ ⟨v8, v9, v10, v11, mv, e, kvs, rfl, b2, hd2, en2, ri, still⟩
      rw [Int.zero_add]
      obtain ⟨⟨N, ss⟩, hrl⟩ : ∃ x, G[ρ]? = some x := ⟨_, List.getElem?_eq_getElem hρ⟩
      obtain ⟨v0, hv0, t0, l0, rfl, h1, h2⟩ : ∃ v0, vs[ρ]? = some v0 ∧ RuleA H v0 (N, ss) := by
        obtain ⟨x, hx⟩ : ∃ x, vs[ρ]? = some x := ⟨_, List.getElem?_eq_getElem (by rw [gr.len]; exact hρ)⟩
        obtain ⟨q2, hq2, ra⟩ := gr.get hx
        rw [hrl] at hq2
        cases hq2
        exact ⟨x, hx, ra⟩
      have inG : (N, ss) ∈ G := List.mem_of_getElem? hrl
      have lss : ss.length ≤ 20 := gt.few _ inG
      refine ⟨_, rfl, _, rfl, g, _, _, _, rfl, rfl, SqL.of (b2.lst v2 hg), at_of (j := ρ) rfl hv0, t0, _, _, _, rfl, rfl, SqT.of (b2.tup v2 h1), at_of (j := 1) rfl rfl, l0, ss.map V.str, rfl, .inl (SqL.of (b2.lst v2 h2)), _, rfl, _, rfl, _, _, _, _, rfl, RgC.neg (by rw [List.length_map]; omega) (by rw [List.length_map]; omega) (by decide) (by decide), ?_⟩
      rw [show (((ss.map V.str).length : Int) - (-1)).toNat = ss.length + 1 from by rw [List.length_map]; omega]
      refine for_rangeC (lo := ((ss.map V.str).length : Int)) (c := -1) (n := ss.length + 1) (fun δ σ H' => ∃ v9 v10 mv e kvs, σ = [some (.ref g), some (.ref t), some (.ref r), some (.ref fo), some (.int i), some (.int j), some (.bl mv), some (.ref d), some (.int ρ), v9, v10, v11] ∧ But d H H' ∧ H' d = some (.dT kvs) ∧ EntK H' G kvs e ∧
          RInv (pbOf G Z row kn) i j (T i j) e ρ (ss.length + 1 - δ) ∧ (mv = false → e = T i j ∧ Still (pbOf G Z row kn) T i j ρ (ss.length + 1 - δ)))
        ⟨v9, v10, mv, e, kvs, rfl, b2, hd2, en2, Ld.RInv.out ri (rest_none hkn hrl (Nat.lt_succ_self _)), fun z => ⟨(still z).1, (still z).2.out hrl⟩⟩ ?_ ?_
      · rintro δ σ H3 hδ ⟨v9, v10, mv, e, kvs, rfl, b3, hd3, en3, ri, still⟩
        rw [show ((ss.map V.str).length : Int) + (δ : Int) * (-1) = ((ss.length - δ : Nat) : Int) from by rw [List.length_map]; omega]
        have ed : ss.length + 1 - δ = (ss.length - δ) + 1 := by omega
        rw [ed] at ri still
        rw [show ss.length + 1 - (δ + 1) = ss.length - δ from by omega]
        have hdot : ss.length - δ ≤ ss.length := Nat.sub_le _ _
        generalize ss.length - δ = dot at ri still hdot
        have tab3 := tab.but ij jn v1 v2 b3 hd3 en3
        refine ⟨_, rfl, _, rfl, _, rfl, _, rfl, _, rfl, _, rfl, _, rfl, _, rfl, g, t, r, fo, G, Z, row, F, wi T i j e, N, ss, ρ, dot, i, j, kn, rfl, hG.but b3 v2, gt, (hZ.but v2 inF b3).pr, ok, b3.lst v2 hrow, len, b3 _ _ fd hf, tab3, hrl, hdot, ij, jn, fun v o H4 s4 hv lo => ?_⟩
        have b4 := b3.trans (But.of_same s4)
        have hd4 := s4 _ _ hd3
        have en4 := en3.up (Up.of_same s4)
        obtain ⟨u, k1, k2⟩ := en4.rs ρ dot N ss hrl hdot
        refine ⟨_, rfl, _, rfl, _, rfl, _, rfl, (by show 3 ≤ sizeLine; decide), fun p2 np2 => ?_⟩
        have s5 : Same H4 (upd H4 p2 (.tup [.str "rest", .int ρ, .int dot])) := same_upd np2
        have g2 := DGet.t (k := kR ρ dot) (s5 _ _ hd4) (b := p2) upd_same
        rw [k1] at g2
        refine ⟨d, u, rfl, g2, oD o, oD (e.rs ρ dot), (hv.up (Up.of_same s5)).oD, (k2.up (Up.of_same s5)).oD, oD_shaped _, oD_shaped _, _, rfl, ?_⟩
        rw [oD_eqv]
        have b5 := b4.trans (But.of_same s5)
        have hd5 := s5 _ _ hd4
        have en5 := en4.up (Up.of_same s5)
        have hv5 := hv.up (Up.of_same s5)
        generalize upd H4 p2 (.tup [.str "rest", .int ρ, .int dot]) = H5 at b5 hd5 en5 hv5
        clear g2 s5 np2 k2 k1 en4 hd4 b4 s4 hv tab3
        have ri2 := ri.rest pok short hkn lo
        by_cases same_ : o = e.rs ρ dot
        · rw [decide_eq_true same_]
          rw [setR_self e ρ dot same_] at ri2
          refine iteF ⟨_, _, mv, e, kvs, rfl, b5, hd5, en5, ri2, fun z => ?_⟩
          obtain ⟨e1, st⟩ := still z
          refine ⟨e1, st.rest ?_⟩
          rw [same_, e1] at lo
          have ew : wi T i j (T i j) = T := funext fun a => funext fun b => by
            by_cases w : a = i ∧ b = j
            · rw [w.1, w.2, wi_same]
            · rw [wi_other w]
          rw [ew] at lo
          exact lo
        · rw [decide_eq_false same_]
          refine iteT ⟨_, rfl, _, rfl, _, rfl, _, rfl, (by show 3 ≤ sizeLine; decide), fun p3 np3 => ?_⟩
          have s6 : Same H5 (upd H5 p3 (.tup [.str "rest", .int ρ, .int dot])) := same_upd np3
          have hd6 := s6 _ _ hd5
          have hv6 := hv5.up (Up.of_same s6)
          have en6 := en5.up (Up.of_same s6)
          refine ⟨d, _, rfl, DPut.t (k := kR ρ dot) hd6 upd_same (million1 (by have := en5.few gt; omega)), ?_⟩
          have b7 : But d (upd H5 p3 (.tup [.str "rest", .int ρ, .int dot])) (upd (upd H5 p3 (.tup [.str "rest", .int ρ, .int dot])) d (.dT (putK kvs (kR ρ dot) v))) := (But.of_same (Same.refl _)).upd
          exact ⟨_, _, true, setR e ρ dot o, putK kvs (kR ρ dot) v, rfl, (b5.trans (But.of_same s6)).trans b7, upd_same, (en6.but b7 hd6).putR hrl hdot (hv6.but b7 hd6), ri2, fun z => by cases z⟩
      · rintro σ H3 ⟨v9, v10, mv, e, kvs, rfl, b3, hd3, en3, ri, still⟩
        rw [Nat.sub_self] at ri still
        obtain ⟨cv, k1, k2⟩ := en3.rs ρ 0 N ss hrl (Nat.zero_le _)
        obtain ⟨nv, n1, n2⟩ := en3.nm N ⟨_, inG, rfl⟩
        refine ⟨_, rfl, _, rfl, (by show 3 ≤ sizeLine; decide), fun p2 np2 => ?_⟩
        have s4 : Same H3 (upd H3 p2 (.tup [.str "rest", .int ρ, .int 0])) := same_upd np2
        have g2 := DGet.t (k := kR ρ 0) (s4 _ _ hd3) (b := p2) upd_same
        rw [k1] at g2
        refine ⟨d, cv, rfl, g2, ?_⟩
        refine ⟨_, rfl, _, rfl, g, _, _, _, rfl, rfl, SqL.of (s4 _ _ (b3.lst v2 hg)), at_of (j := ρ) rfl hv0, t0, _, _, _, rfl, rfl, SqT.of (s4 _ _ (b3.tup v2 h1)), at_of (j := 0) rfl rfl, (by show 2 ≤ sizeLine; decide), fun kt nkt => ?_⟩
        have s5 := s4.trans (same_upd nkt (o := .tup [.str "name", .str N]))
        have hkt : upd (upd H3 p2 (.tup [.str "rest", .int ρ, .int 0])) kt (.tup [.str "name", .str N]) kt = some (.tup [.str "name", .str N]) := upd_same
        show _
        generalize upd (upd H3 p2 (.tup [.str "rest", .int ρ, .int 0])) kt (.tup [.str "name", .str N]) = H5 at s5 hkt
        clear g2 s4
        have b5 := b3.trans (But.of_same s5)
        have hd5 := s5 _ _ hd3
        have en5 := en3.up (Up.of_same s5)
        have k5 := k2.up (Up.of_same s5)
        have n5 := n2.up (Up.of_same s5)
        have out21 := rest_none2 (i := i) (j := j) hkn (show ∀ r ∈ (pbOf G Z row kn).G, r.2.length ≤ 20 from gt.few) (ρ + 1)
        -- the name stays
        have stay : (∀ c, e.rs ρ 0 = some c → ∃ x, e.nm N = some x ∧ cle x (c.1, c.2 + 1)) → RInv (pbOf G Z row kn) i j (T i j) e (ρ + 1) 21 ∧ (mv = false → e = T i j ∧ Still (pbOf G Z row kn) T i j (ρ + 1) 21) := fun new => by
          have := ri.name hkn hrl (o := e.nm N) (d := 21) (fun c z => .inl z) (fun c z => ⟨c, z, cle_refl c⟩) new out21
          rw [setN_self e N rfl] at this
          refine ⟨this, fun z => ?_⟩
          obtain ⟨e1, st⟩ := still z
          exact ⟨e1, st.name gt.few hrl (by rw [← e1]; exact new) (Nat.le_refl 21)⟩
        have getN : ∀ {B : Hp}, Same H5 B → DGet B d (.ref kt) (some nv) := fun {B} sB => by
          have := DGet.t (k := kN N) (sB _ _ hd5) (b := kt) (sB _ _ hkt)
          rw [n1] at this
          exact this
        cases ec : e.rs ρ 0 with
        | none =>
          rw [ec] at k5
          obtain rfl : cv = .non := k5
          obtain ⟨r1, r2⟩ := stay fun c z => by rw [ec] at z; cases z
          exact ⟨_, rfl, rfl, _, rfl, iteF ⟨_, _, _, _, mv, e, kvs, rfl, b5, hd5, en5, r1, r2⟩⟩
        | some c =>
          rw [ec] at k5
          obtain ⟨tc, rfl, htc⟩ := id k5
          refine ⟨_, rfl, rfl, _, rfl, iteT ?_⟩
          refine ⟨_, rfl, _, rfl, d, nv, rfl, getN (Same.refl H5), rfl, _, rfl, ?_⟩
          -- the name is lowered
          have lower : ∀ {B : Hp}, Same H5 B → (∀ x, e.nm N = some x → cle (c.1, c.2 + 1) x) → ∀ pt, B pt = none → ∃ kvs2, DPut (upd B pt (.tup [.int c.1, .int (c.2 + 1)])) d (.ref kt) (.ref pt) (upd (upd B pt (.tup [.int c.1, .int (c.2 + 1)])) d (.dT kvs2)) ∧ But d H (upd (upd B pt (.tup [.int c.1, .int (c.2 + 1)])) d (.dT kvs2)) ∧
              EntK (upd (upd B pt (.tup [.int c.1, .int (c.2 + 1)])) d (.dT kvs2)) G kvs2 (setN e N (some (c.1, c.2 + 1))) ∧ RInv (pbOf G Z row kn) i j (T i j) (setN e N (some (c.1, c.2 + 1))) (ρ + 1) 21 := fun {B} sB old pt npt => by
            have s6 := sB.trans (same_upd npt (o := .tup [.int c.1, .int (c.2 + 1)]))
            have hd6 := s6 _ _ hd5
            have en6 := en5.up (Up.of_same s6)
            have b7 : But d (upd B pt (.tup [.int c.1, .int (c.2 + 1)])) (upd (upd B pt (.tup [.int c.1, .int (c.2 + 1)])) d (.dT (putK kvs (kN N) (.ref pt)))) := (But.of_same (Same.refl _)).upd
            have hv6 : CostV (upd B pt (.tup [.int c.1, .int (c.2 + 1)])) (.ref pt) (some (c.1, c.2 + 1)) := ⟨pt, rfl, upd_same⟩
            refine ⟨putK kvs (kN N) (.ref pt), DPut.t (k := kN N) hd6 (s6 _ _ hkt) (million1 (by have := en5.few gt; omega)), (b5.trans (But.of_same s6)).trans b7, (en6.but b7 hd6).putN ⟨_, inG, rfl⟩ (hv6.but b7 hd6), ?_⟩
            refine ri.name hkn hrl (fun c2 z => .inr ⟨c, ec, (Option.some.inj z).symm⟩) (fun x z => ⟨_, rfl, old x z⟩) (fun c2 z => ⟨_, rfl, ?_⟩) out21
            rw [ec] at z
            rw [Option.some.inj z]
            exact cle_refl _
          cases en : e.nm N with
          | none =>
            rw [en] at n5
            obtain rfl : nv = .non := n5
            refine iteT ?_
            refine iteT ⟨_, rfl, tc, _, _, _, rfl, rfl, SqT.of htc, at_of (j := 0) rfl rfl, _, rfl, tc, _, _, _, rfl, rfl, SqT.of htc, at_of (j := 1) rfl rfl, _, _, rfl, rfl, (by show 2 ≤ sizeLine; decide), fun pt npt => ?_⟩
            obtain ⟨kvs2, dp, bt, et, rt⟩ := lower (Same.refl H5) (fun x z => by rw [en] at z; cases z) pt npt
            exact ⟨_, rfl, _, rfl, d, _, rfl, dp, _, _, _, _, true, _, kvs2, rfl, bt, upd_same, et, rt, fun z => by cases z⟩
          | some x =>
            rw [en] at n5
            obtain ⟨tn, rfl, htn⟩ := id n5
            refine iteF ⟨_, rfl, tc, _, _, _, rfl, rfl, SqT.of htc, at_of (j := 0) rfl rfl, _, rfl, tc, _, _, _, rfl, rfl, SqT.of htc, at_of (j := 1) rfl rfl, _, _, rfl, rfl, (by show 2 ≤ sizeLine; decide), fun p6 np6 => ?_⟩
            have s6 : Same H5 (upd H5 p6 (.tup [.int c.1, .int (c.2 + 1)])) := same_upd np6
            have h6 : CostV (upd H5 p6 (.tup [.int c.1, .int (c.2 + 1)])) (.ref p6) (some (c.1, c.2 + 1)) := ⟨p6, rfl, upd_same⟩
            have n6 := n5.up (Up.of_same s6)
            refine ⟨_, rfl, _, rfl, d, _, rfl, getN s6, cD (c.1, c.2 + 1), cD x, h6.dp, n6.dp, cD_alike _ _, (fun z => by cases z), (by simp [cD, PyData.depth, PyData.depthAll]), _, rfl, ?_⟩
            rw [cost_lt]
            show _
            generalize upd H5 p6 (.tup [.int c.1, .int (c.2 + 1)]) = H6 at s6 h6 n6
            by_cases lt : c.1 < x.1 ∨ (c.1 = x.1 ∧ c.2 + 1 < x.2)
            · rw [decide_eq_true lt]
              refine iteT ⟨_, rfl, tc, _, _, _, rfl, rfl, SqT.of (s6 _ _ htc), at_of (j := 0) rfl rfl, _, rfl, tc, _, _, _, rfl, rfl, SqT.of (s6 _ _ htc), at_of (j := 1) rfl rfl, _, _, rfl, rfl, (by show 2 ≤ sizeLine; decide), fun pt npt => ?_⟩
              obtain ⟨kvs2, dp, bt, et, rt⟩ := lower s6 (fun y z => by rw [en] at z; cases z; unfold cle; dsimp only; omega) pt npt
              exact ⟨_, rfl, _, rfl, d, _, rfl, dp, _, _, _, _, true, _, kvs2, rfl, bt, upd_same, et, rt, fun z => by cases z⟩
            · rw [decide_eq_false lt]
              obtain ⟨r1, r2⟩ := stay fun c2 z => by
                rw [ec] at z
                cases z
                refine ⟨x, en, ?_⟩
                unfold cle
                dsimp only
                omega
              exact iteF ⟨_, _, _, _, mv, e, kvs, rfl, b5.trans (But.of_same s6), s6 _ _ hd5, en5.up (Up.of_same s6), r1, r2⟩
    · rintro σ H2 ⟨v8, v9, v10, v11, mv, e, kvs, rfl, b2, hd2, en2, ri, still⟩
      refine ⟨_, rfl, q mv H2 d kvs e v1 b2 hd2 en2 (RInv.all hkn ri) fun z => ?_⟩
      obtain ⟨e1, st⟩ := still z
      exact ⟨e1, by rw [e1]; exact Still.least st ij short hkn snd⟩
end
end Ld

set_option Elab.async false
set_option linter.all false
set_option maxRecDepth 100000
set_option maxHeartbeats 4000000
/-! The law's own table: the least costs. -/
namespace Ld
open PySem PySem.Spec PyProof.Rows L2 Lg Lr Lb
def kn0 : Nat → Nat → Option Ent := fun _ _ => none
theorem kn0_ok {G : List Rule} {Z : Prc} (ok : PrcOk Z) (row : List Str) : PbOk (pbOf G Z row kn0) := pbOf_ok ok fun _ _ _ h => by cases h
theorem ent0_sound {B : Pb} {i j : Nat} : SoundAt B ent0 i j := ⟨(fun _ _ h => by cases h), (fun _ _ _ h => by cases h)⟩
section
variable {P : Program} {w : World} {K : PySem.W.Frag} {mg : Str → Option Value} {base : Heap}
theorem scTb : FnScope ["grammar", "prices", "row", "found", "size", "i", "turn"] ["grammar", "prices", "row"] (defScope sTable) := ⟨rfl, rfl, rfl, by decide +kernel, rfl, by decide +kernel, by decide +kernel⟩
def spTable : Sp := fun vs H Q _ => ∃ (g t r : Addr) (G : List Rule) (Z : Prc) (row Ns : List Str), vs = [.ref g, .ref t, .ref r] ∧ GraA H g G ∧ GraT G ∧ PrA H t Z ∧ PrcOk Z ∧ H r = some (.lst (row.map V.str)) ∧ row.length ≤ 60 ∧ (∀ q ∈ G, q.1 ∈ Ns) ∧ Ns.length ≤ 39 ∧
  ∀ (f : Addr) (H2 : Hp) (F : List (List Key × V)) (T : Nat → Nat → Ent), Same H H2 → H f = none → H2 f = some (.dT F) → TabK H2 G row.length F T → (∀ p ∈ F, ∃ d, p.2 = .ref d ∧ H d = none ∧ d ≠ f) → F.length ≤ 4000 → (∀ i j, i ≤ j → j ≤ row.length → LeastAt (pbOf G Z row kn0) (T i j) i j) → Q (.ref f) H2
theorem ok_table {f fS fR : Addr} {fd fdS fdR : FuncData} (F : Fun K "_law_table" "_law_table" sTable f fd)
    (GS : FnOk P w K mg base CX0 1 fS fdS ["grammar", "row"] spStart) (kS' : PySem.W.keepIn K (.ref fS) = true) (bS : Binds K fdS ["grammar", "row"] []) (gS : mg "_law_start" = some (.ref fS))
    (GR : FnOk P w K mg base CX0 4 fR fdR ["grammar", "prices", "row", "found", "i", "j"] (spRound kn0)) (kR' : PySem.W.keepIn K (.ref fR) = true) (bR : Binds K fdR ["grammar", "prices", "row", "found", "i", "j"] []) (gR : mg "_law_round" = some (.ref fR))
    (mr : mg "range" = none) (ml : mg "len" = none) : FnOk P w K mg base CX0 5 f fd ["grammar", "prices", "row"] spTable := by
  refine F.ok scTb (fun vs H Q E h => ?_) (fun cdv A outer s H vs Q E hr h => ?_)
  · obtain ⟨g, t, r, G, Z, row, Ns, rfl, _⟩ := h
    rfl
  · obtain ⟨g, t, r, G, Z, row, Ns, rfl, hG, gt, hZ, ok, hrow, len, cover, few, q⟩ := h
    have hr1 := hr.mono (show 1 ≤ 4 by decide)
    refine ⟨_, pss_cons (ps_set (i := 3) scTb.nd rfl (.inl rfl) (pe_call GS hr1 (by rfl) gS kS' bS .nil pass0 (pa_cons (pv 0) (pa_cons (pv 2) pa_nil))))
      (pss_cons (ps_for PassesOwn.never rfl (pi_range1 rfl mr (pa_cons (pe_op op_add (pe_callB call_len_seq (by rfl) ml PySem.boot_len (pa_cons (pv 2) pa_nil)) pe_int) pa_nil)) (pg_name (i := 4) scTb.nd rfl (.inl rfl))
        (pss_one (ps_for PassesOwn.never rfl (pi_range1 rfl mr (pa_cons (pe_op op_sub (pe_op op_add (pe_callB call_len_seq (by rfl) ml PySem.boot_len (pa_cons (pv 2) pa_nil)) pe_int) (pv 4)) pa_nil)) (pg_name (i := 5) scTb.nd rfl (.inl rfl))
          (pss_one (ps_for PassesOwn.never rfl (pi_range1 rfl mr (pa_cons pe_int pa_nil)) (pg_name (i := 6) scTb.nd rfl (.inl rfl))
            (pss_one (ps_if (pt_not (pt_val (pe_call GR hr (by rfl) gR kR' bR .nil pass0 (pa_cons (pv 0) (pa_cons (pv 1) (pa_cons (pv 2) (pa_cons (pv 3) (pa_cons (pv 5) (pa_cons (pe_op op_add (pv 5) (pv 4)) pa_nil))))))))) (pss_one ps_break) pss_nil)))))))
      (pss_one (ps_ret (pv 3)))), ?_⟩
    have pok := kn0_ok (G := G) ok row
    have cov : ∀ (a : Nat) N ss, (pbOf G Z row kn0).G[a]? = some (N, ss) → N ∈ Ns := fun a N ss h => cover _ (List.mem_of_getElem? h)
    refine ⟨_, rfl, _, rfl, g, r, G, row, rfl, hG, gt, hrow, len, fun fo H1 F s1 nfo hf1 tab1 new lenF => ?_⟩
    have outf : ∀ p ∈ F, p.2 ≠ V.ref fo := fun x hx z => by
      obtain ⟨c, e1, _, ne⟩ := new x hx
      rw [e1] at z
      cases z
      exact ne rfl
    have prx : ∀ {B : Hp}, Same H B → PrX B t Z F := fun {B} s => by
      obtain ⟨dp, h1, h2⟩ := hZ
      refine ⟨dp, s _ _ h1, s _ _ h2, fun x hx z => ?_⟩
      obtain ⟨c, e1, nc, _⟩ := new x hx
      rw [e1] at z
      cases z
      rw [nc] at h2
      cases h2
    refine ⟨_, rfl, r, row.map V.str, rfl, .inl (SqL.of (s1 _ _ hrow)), _, _, rfl, rfl, _, rfl, by rw [List.length_map]; omega, by rw [List.length_map]; omega, ?_⟩
    rw [show (((row.map V.str).length : Int) + 1).toNat = row.length + 1 from by rw [List.length_map]; omega]
    refine for_range (lo := 0) (n := row.length + 1) (fun sz σ H' => ∃ v4 v5 v6 T, σ = [some (.ref g), some (.ref t), some (.ref r), some (.ref fo), v4, v5, v6] ∧ Same H H' ∧ H' fo = some (.dT F) ∧ TabK H' G row.length F T ∧
        (∀ a b, a ≤ b → b ≤ row.length → b - a < sz → LeastAt (pbOf G Z row kn0) (T a b) a b) ∧ ∀ a b, a ≤ b → sz ≤ b - a → T a b = ent0)
      ⟨none, none, none, _, rfl, s1, hf1, tab1, fun a b _ _ h => absurd h (Nat.not_lt_zero _), fun _ _ _ _ => rfl⟩ ?_ ?_
    · rintro sz σ H2 hsz ⟨v4, v5, v6, T, rfl, s2, hf2, tab2, done2, rest2⟩
      rw [Int.zero_add]
      refine ⟨_, rfl, r, row.map V.str, rfl, .inl (SqL.of (s2 _ _ hrow)), _, _, rfl, rfl, _, rfl, _, _, rfl, rfl, _, rfl, by rw [List.length_map]; omega, by rw [List.length_map]; omega, ?_⟩
      rw [show (((row.map V.str).length : Int) + 1 - (sz : Int)).toNat = row.length + 1 - sz from by rw [List.length_map]; omega]
      refine for_range (lo := 0) (n := row.length + 1 - sz) (fun i σ H' => ∃ v5 v6 T, σ = [some (.ref g), some (.ref t), some (.ref r), some (.ref fo), some (.int sz), v5, v6] ∧ Same H H' ∧ H' fo = some (.dT F) ∧ TabK H' G row.length F T ∧
          (∀ a b, a ≤ b → b ≤ row.length → (b - a < sz ∨ (b - a = sz ∧ a < i)) → LeastAt (pbOf G Z row kn0) (T a b) a b) ∧ ∀ a b, a ≤ b → (sz < b - a ∨ (b - a = sz ∧ i ≤ a)) → T a b = ent0)
        ⟨v5, v6, T, rfl, s2, hf2, tab2, fun a b h1 h2 h3 => done2 a b h1 h2 (by omega), fun a b h1 h2 => rest2 a b h1 (by omega)⟩ ?_ ?_
      · rintro i σ H3 hi ⟨v5, v6, T, rfl, s3, hf3, tab3, done3, rest3⟩
        rw [Int.zero_add]
        have ej : (i : Int) + (sz : Int) = ((i + sz : Nat) : Int) := by omega
        have ij : i ≤ i + sz := Nat.le_add_right _ _
        have jn : i + sz ≤ row.length := by omega
        generalize eJ : i + sz = j at ej ij jn
        have short : Short (pbOf G Z row kn0) T i j := fun a b h1 h2 h3 h4 => done3 a b h2 (by omega) (by omega)
        have snd0 : SoundAt (pbOf G Z row kn0) (T i j) i j := by
          rw [rest3 i j ij (by omega)]
          exact ent0_sound
        -- behind the turns
        have fin : ∀ (x6 : Option V) (T' : Nat → Nat → Ent) (H' : Hp), Same H H' → H' fo = some (.dT F) → TabK H' G row.length F T' → (∀ a b, ¬ (a = i ∧ b = j) → T' a b = T a b) → LeastAt (pbOf G Z row kn0) (T' i j) i j →
            ∃ v5 v6 T, [some (V.ref g), some (.ref t), some (.ref r), some (.ref fo), some (.int sz), some (.int i), x6] = [some (V.ref g), some (.ref t), some (.ref r), some (.ref fo), some (.int sz), v5, v6] ∧ Same H H' ∧ H' fo = some (.dT F) ∧ TabK H' G row.length F T ∧
              (∀ a b, a ≤ b → b ≤ row.length → (b - a < sz ∨ (b - a = sz ∧ a < i + 1)) → LeastAt (pbOf G Z row kn0) (T a b) a b) ∧ ∀ a b, a ≤ b → (sz < b - a ∨ (b - a = sz ∧ i + 1 ≤ a)) → T a b = ent0 := fun x6 T' H' s' hf' tab' oth least => by
          refine ⟨_, x6, T', rfl, s', hf', tab', fun a b h1 h2 h3 => ?_, fun a b h1 h2 => ?_⟩
          · by_cases w : a = i ∧ b = j
            · rw [w.1, w.2]
              exact least
            · rw [oth a b w]
              exact done3 a b h1 h2 (by omega)
          · rw [oth a b (by omega)]
            exact rest3 a b h1 (by omega)
        refine ⟨40, rfl, by decide, by decide, ?_⟩
        refine for_range (lo := 0) (n := 40) (fun tn σ H' => ∃ v6 T', σ = [some (.ref g), some (.ref t), some (.ref r), some (.ref fo), some (.int sz), some (.int i), v6] ∧ Same H H' ∧ H' fo = some (.dT F) ∧ TabK H' G row.length F T' ∧
            (∀ a b, ¬ (a = i ∧ b = j) → T' a b = T a b) ∧ Prog (pbOf G Z row kn0) i j Ns tn (T' i j))
          ⟨v6, T, rfl, s3, hf3, tab3, fun _ _ _ => rfl, Prog.start Ns snd0⟩ ?_ ?_
        · rintro tn σ H4 htn ⟨v6, T', rfl, s4, hf4, tab4, oth, prog⟩
          have short4 : Short (pbOf G Z row kn0) T' i j := fun a b h1 h2 h3 h4 => by
            rw [oth a b h4]
            exact short a b h1 h2 h3 h4
          refine ⟨_, rfl, _, rfl, _, rfl, _, rfl, _, rfl, _, rfl, _, rfl, _, _, rfl, rfl, g, t, r, fo, G, Z, row, F, T', i, j, (by show [V.ref g, V.ref t, V.ref r, V.ref fo, V.int i, V.int ((i : Int) + (sz : Int))] = _; rw [ej]), hG.up (Up.of_same s4), gt, prx s4, ok, s4 _ _ hrow, len, hf4, outf, tab4, ij, jn, pok, short4, rfl, prog.snd, fun b H5 d kvs e v1 bt hd5 en5 ro still => ?_⟩
          obtain ⟨c, e1, nc, ncf⟩ := new _ (valV_from v1)
          cases e1
          obtain ⟨d2, kv2, w1, w2, w3⟩ := tab4.at_ i j ij jn
          rw [v1] at w1
          cases w1
          have s5 : Same H H5 := fun x o h => bt x o (fun z => by rw [z, nc] at h; cases h) (s4 _ _ h)
          have tab5 := tab4.but ij jn v1 w2 bt hd5 en5
          have hf5 := bt _ _ (Ne.symm ncf) hf4
          have oth5 : ∀ a b, ¬ (a = i ∧ b = j) → wi T' i j e a b = T a b := fun a b h => by rw [wi_other h, oth a b h]
          refine ⟨_, rfl, ?_⟩
          cases b with
          | true => exact iteF ⟨_, wi T' i j e, rfl, s5, hf5, tab5, oth5, by rw [wi_same]; exact prog.step pok rfl cov ro⟩
          | false =>
            obtain ⟨_, least⟩ := still rfl
            refine iteT ?_
            unfold tBreak
            exact fin (some (.int (0 + (tn : Int)))) (wi T' i j e) H5 s5 hf5 tab5 oth5 (by rw [wi_same]; exact least)
        · rintro σ H4 ⟨v6, T', rfl, s4, hf4, tab4, oth, prog⟩
          exact fin v6 T' H4 s4 hf4 tab4 oth (prog.done (by omega))
      · rintro σ H3 ⟨v5, v6, T, rfl, s3, hf3, tab3, done3, rest3⟩
        exact ⟨_, _, _, T, rfl, s3, hf3, tab3, fun a b h1 h2 h3 => done3 a b h1 h2 (by omega), fun a b h1 h2 => rest3 a b h1 (by omega)⟩
    · rintro σ H2 ⟨v4, v5, v6, T, rfl, s2, hf2, tab2, done2, _⟩
      exact ⟨_, rfl, q fo H2 F T s2 nfo hf2 tab2 new lenF fun a b h1 h2 => done2 a b h1 h2 (by omega)⟩
end
end Ld

set_option Elab.async false
set_option linter.all false
set_option maxRecDepth 100000
set_option maxHeartbeats 4000000
/-! The grammars that the laws of tables and trees make: mathematics. -/
namespace Ld
open PySem PySem.Spec PyProof.Rows L2 Lr Lb
def N4t : List Str := ["s", "expr", "b", "items"]
structure GramT (G : List Rule) : Prop where
  good : ∀ r ∈ G, r.1 ∈ N4t ∧ r.2.length ≤ 3 ∧ ∀ s ∈ r.2, s ∈ N4t ∨ s ∈ P3
  names : ∀ r ∈ G, ∀ s ∈ r.2, s ∈ N4t → ∃ q ∈ G, q.1 = s
  own : ∀ r ∈ G, ∃ q ∈ G, q.1 = r.1 ∧ ∀ x ∈ q.2, x ∈ P3
  ne : G ≠ []
  few : G.length ≤ 12
  nd : G.Nodup
theorem n4t_low : ∀ s ∈ N4t, isLow s = true := by decide +kernel
theorem p3_low : ∀ s ∈ P3, isLow s = false := by decide +kernel
theorem p3_not : ∀ s ∈ P3, s ∉ N4t := by decide +kernel
theorem n4t_name : ∀ s ∈ N4t, nameB s = true := by decide +kernel
theorem p3_kind : ∀ s ∈ P3, kindB s = true := by decide +kernel
theorem n4t_len : ∀ s ∈ N4t, 0 < s.length ∧ s.length ≤ 100 := by decide +kernel
theorem p3_len : ∀ s ∈ P3, 0 < s.length ∧ s.length ≤ 100 := by decide +kernel
theorem sym_good {s : Str} (h : s ∈ N4t ∨ s ∈ P3) : symB s = true := by
  unfold symB
  rcases h with h | h
  · rw [n4t_name s h, Bool.or_true]
  · rw [p3_kind s h, Bool.true_or]
theorem ruleT_good {r : Rule} (h : r.1 ∈ N4t ∧ r.2.length ≤ 3 ∧ ∀ s ∈ r.2, s ∈ N4t ∨ s ∈ P3) : GoodR r :=
  ⟨n4t_name _ h.1, by have := h.2.1; omega, List.all_eq_true.mpr fun s hs => sym_good (h.2.2 s hs)⟩
theorem GramT.goodR {G : List Rule} (h : GramT G) : ∀ r ∈ G, GoodR r := fun r hr => ruleT_good (h.good r hr)
theorem GramT.walk {G : List Rule} (h : GramT G) : GraT G := by
  refine ⟨fun r hr s hs low => ?_, fun r hr s hs => ?_, fun r hr => by have := (h.good r hr).2.1; omega, by have := h.few; omega⟩
  · rcases (h.good r hr).2.2 s hs with z | z
    · exact h.names r hr s hs z
    · rw [p3_low s z] at low
      cases low
  · rcases (h.good r hr).2.2 s hs with z | z
    · exact n4t_len s z
    · exact p3_len s z
theorem GramT.cover {G : List Rule} (h : GramT G) : ∀ q ∈ G, q.1 ∈ N4t := fun q hq => (h.good q hq).1
/-- while the rules are made -/
structure GramP (ns : List Str) (k n : Nat) (G : List Rule) : Prop where
  good : ∀ r ∈ G, r.1 ∈ ns ∧ r.2.length ≤ 3 ∧ ∀ s ∈ r.2, s ∈ ns ∨ s ∈ P3
  own : ∀ (a : Nat) N, a < k → ns[a]? = some N → ∃ q ∈ G, q.1 = N ∧ ∀ x ∈ q.2, x ∈ P3
  few : G.length ≤ n
  ne : 0 < k → G ≠ []
theorem GramP.start (ns : List Str) : GramP ns 0 0 [] := ⟨(fun _ h => nomatch h), (fun a N h => absurd h (Nat.not_lt_zero a)), Nat.le_refl _, fun h => absurd h (Nat.lt_irrefl 0)⟩
theorem GramP.own_ {ns : List Str} {k n : Nat} {G : List Rule} (h : GramP ns k n G) {N : Str} (hN : ns[k]? = some N) {ss : List Str} (l : ss.length ≤ 3) (hs : ∀ s ∈ ss, s ∈ P3) : GramP ns (k + 1) (n + 1) (G ++ [(N, ss)]) := by
  refine ⟨fun r hr => ?_, fun a M lt e => ?_, ?_, fun _ z => by simp at z⟩
  · rcases List.mem_append.mp hr with m | m
    · exact h.good r m
    · rw [List.mem_singleton.mp m]
      exact ⟨List.mem_of_getElem? hN, l, fun s z => .inr (hs s z)⟩
  · rcases Nat.lt_succ_iff_lt_or_eq.mp lt with q | q
    · obtain ⟨r, hr, z⟩ := h.own a M q e
      exact ⟨r, List.mem_append_left _ hr, z⟩
    · rw [q, hN] at e
      cases e
      exact ⟨(N, ss), List.mem_append_right _ (List.mem_singleton.mpr rfl), rfl, hs⟩
  · rw [List.length_append, List.length_singleton]
    have := h.few
    omega
theorem GramP.more {ns : List Str} {k n : Nat} {G : List Rule} (h : GramP ns k n G) {r : Rule} (hr : r.1 ∈ ns ∧ r.2.length ≤ 3 ∧ ∀ s ∈ r.2, s ∈ ns ∨ s ∈ P3) (A B : List Rule) (e : G = A ++ B) : GramP ns k (n + 1) (A ++ [r] ++ B) := by
  refine ⟨fun q hq => ?_, fun a M lt e2 => ?_, ?_, fun _ z => by simp at z⟩
  · rcases List.mem_append.mp hq with m | m
    · rcases List.mem_append.mp m with m | m
      · exact h.good q (by rw [e]; exact List.mem_append_left _ m)
      · rw [List.mem_singleton.mp m]
        exact hr
    · exact h.good q (by rw [e]; exact List.mem_append_right _ m)
  · obtain ⟨q, hq, z⟩ := h.own a M lt e2
    rw [e] at hq
    refine ⟨q, ?_, z⟩
    rcases List.mem_append.mp hq with m | m
    · exact List.mem_append_left _ (List.mem_append_left _ m)
    · exact List.mem_append_right _ m
  · have := h.few
    rw [e] at this
    simp only [List.length_append, List.length_singleton] at this ⊢
    omega
theorem GramP.skip {ns : List Str} {k n m : Nat} {G : List Rule} (h : GramP ns k n G) (l : n ≤ m) : GramP ns k m G := ⟨h.good, h.own, Nat.le_trans h.few l, h.ne⟩
/-- each rule once -/
def nubStep (D : List Rule) (r : Rule) : List Rule := if r ∈ D then D else D ++ [r]
theorem nub_take {G : List Rule} {i : Nat} {r : Rule} (h : G[i]? = some r) : (G.take (i + 1)).foldl nubStep [] = nubStep ((G.take i).foldl nubStep []) r := by
  rw [List.take_add_one, h, List.foldl_append]
  rfl
theorem nub_in (ys : List Rule) : ∀ (D : List Rule) (x : Rule), x ∈ ys.foldl nubStep D ↔ x ∈ D ∨ x ∈ ys := by
  induction ys with
  | nil => simp
  | cons y ys ih =>
    intro D x
    rw [List.foldl_cons, ih, List.mem_cons]
    unfold nubStep
    split
    · rename_i m
      constructor
      · rintro (z | z)
        · exact .inl z
        · exact .inr (.inr z)
      · rintro (z | z | z)
        · exact .inl z
        · exact .inl (z ▸ m)
        · exact .inr z
    · rw [List.mem_append, List.mem_singleton]
      constructor
      · rintro ((z | z) | z)
        · exact .inl z
        · exact .inr (.inl z)
        · exact .inr (.inr z)
      · rintro (z | z | z)
        · exact .inl (.inl z)
        · exact .inl (.inr z)
        · exact .inr z
theorem nub_len (ys : List Rule) : ∀ D : List Rule, (ys.foldl nubStep D).length ≤ D.length + ys.length := by
  induction ys with
  | nil => exact fun D => Nat.le_refl _
  | cons y ys ih =>
    intro D
    have := ih (nubStep D y)
    have : (nubStep D y).length ≤ D.length + 1 := by
      unfold nubStep
      split
      · omega
      · rw [List.length_append]
        exact Nat.le_refl _
    rw [List.foldl_cons, List.length_cons]
    omega
theorem nub_nd (ys : List Rule) : ∀ D : List Rule, D.Nodup → (ys.foldl nubStep D).Nodup := by
  induction ys with
  | nil => exact fun D h => h
  | cons y ys ih =>
    intro D h
    rw [List.foldl_cons]
    refine ih _ ?_
    unfold nubStep
    split
    · exact h
    · rename_i out
      rw [List.nodup_append]
      refine ⟨h, by simp, fun p hp p2 hp2 e => ?_⟩
      rw [List.mem_singleton.mp hp2] at e
      rw [e] at hp
      exact out hp
theorem GramP.gram {ns : List Str} {k n : Nat} {G : List Rule} (h : GramP ns k n G) (sub : ∀ s ∈ ns, s ∈ N4t) (full : k = ns.length) (k0 : 0 < k) (n12 : n ≤ 12) : GramT (G.foldl nubStep []) := by
  have mem : ∀ x, x ∈ G.foldl nubStep [] ↔ x ∈ G := fun x => by rw [nub_in]; simp
  have own : ∀ N ∈ ns, ∃ q ∈ G.foldl nubStep [], q.1 = N ∧ ∀ x ∈ q.2, x ∈ P3 := fun N hN => by
    obtain ⟨a, ha⟩ := List.mem_iff_getElem?.mp hN
    obtain ⟨q, hq, z⟩ := h.own a N (by rw [full]; exact (List.getElem?_eq_some_iff.mp ha).1) ha
    exact ⟨q, (mem q).mpr hq, z⟩
  have g : ∀ r ∈ G.foldl nubStep [], r.1 ∈ ns ∧ r.2.length ≤ 3 ∧ ∀ s ∈ r.2, s ∈ ns ∨ s ∈ P3 := fun r hr => h.good r ((mem r).mp hr)
  refine ⟨fun r hr => ?_, fun r hr s hs n4 => ?_, fun r hr => own _ (g r hr).1, fun z => ?_, ?_, nub_nd G [] List.nodup_nil⟩
  · obtain ⟨g1, g2, g3⟩ := g r hr
    exact ⟨sub _ g1, g2, fun s hs => (g3 s hs).imp_left (sub s)⟩
  · rcases (g r hr).2.2 s hs with z | z
    · obtain ⟨q, hq, e, _⟩ := own s z
      exact ⟨q, hq, e⟩
    · exact (p3_not s z n4).elim
  · cases eG : G with
    | nil => exact h.ne k0 eG
    | cons x G2 =>
      have := (mem x).mpr (by rw [eG]; exact List.mem_cons_self)
      rw [z] at this
      cases this
  · have := nub_len G []
    have := h.few
    rw [List.length_nil] at *
    omega
/-! ### rules in the heap, some of them -/
theorem GrA.app {H : Hp} : ∀ {vs ws : List V} {G G2 : List Rule}, GrA H vs G → GrA H ws G2 → GrA H (vs ++ ws) (G ++ G2)
  | [], _, [], _, _, k => k
  | _ :: _, _, _ :: _, _, h, k => ⟨h.1, GrA.app h.2 k⟩
  | [], _, _ :: _, _, h, _ => h.elim
  | _ :: _, _, [], _, h, _ => h.elim
theorem GrA.take {H : Hp} : ∀ (n : Nat) {vs : List V} {G : List Rule}, GrA H vs G → GrA H (vs.take n) (G.take n)
  | 0, _, _, _ => by
    rw [List.take_zero, List.take_zero]
    exact True.intro
  | _ + 1, [], [], _ => True.intro
  | n + 1, _ :: _, _ :: _, h => ⟨h.1, GrA.take n h.2⟩
  | _ + 1, [], _ :: _, h => h.elim
  | _ + 1, _ :: _, [], h => h.elim
theorem GrA.drop {H : Hp} : ∀ (n : Nat) {vs : List V} {G : List Rule}, GrA H vs G → GrA H (vs.drop n) (G.drop n)
  | 0, _, _, h => h
  | _ + 1, [], [], _ => True.intro
  | n + 1, _ :: _, _ :: _, h => GrA.drop n h.2
  | _ + 1, [], _ :: _, h => h.elim
  | _ + 1, _ :: _, [], h => h.elim
theorem cut_pre {vs : List V} {n : Nat} (h : n ≤ vs.length) : cutV vs none (some (n : Int)) = vs.take n := by
  unfold cutV
  rw [HT.sIx_nat, HT.sIx_none, Nat.min_eq_left h, List.drop_zero, Nat.sub_zero]
theorem cut_post {vs : List V} {n : Nat} (h : n ≤ vs.length) : cutV vs (some (n : Int)) none = vs.drop n := by
  unfold cutV
  rw [HT.sIx_nat, HT.sIx_none, Nat.min_eq_left h]
  exact List.take_of_length_le (by rw [List.length_drop]; exact Nat.le_refl _)
end Ld

set_option Elab.async false
set_option linter.all false
set_option maxRecDepth 100000
set_option maxHeartbeats 4000000
/-! The law's own grammar. -/
namespace Ld
open PySem PySem.Spec PyProof.Rows L2 Lg Lr Lb
theorem pick_of {ss : List Str} {v : Int} (h0 : 0 ≤ v) (h1 : v < (ss.length : Int)) : ∃ s, (ss.map V.str)[v.toNat]? = some (V.str s) ∧ s ∈ ss := by
  have e : v.toNat < ss.length := by omega
  exact ⟨ss[v.toNat], by rw [List.getElem?_map, List.getElem?_eq_getElem e]; rfl, List.getElem_mem e⟩
def rLn (K : PySem.W.Frag) : List V → Hp → VK → Prop := fun xs H Q => ∃ p ys, xs = [V.ref p] ∧ (SqL K H p ys ∨ SqT K H p ys) ∧ Q (V.int (ys.length : Int)) H
section
variable {P : Program} {w : World} {K : PySem.W.Frag} {mg : Str → Option Value} {base : Heap}
theorem scGm : FnScope ["draws", "first", "names", "kinds", "rules", "k", "cell", "symbols", "size", "rule", "place", "out", "j"] ["draws", "first"] (defScope sGram) := ⟨rfl, rfl, rfl, by decide +kernel, rfl, by decide +kernel, by decide +kernel⟩
def spGramT (K : PySem.W.Frag) : Sp := fun vs H Q _ => ∃ (a : Addr) (ds : List Int) (first : Int), vs = [.ref a, .int first] ∧ H a = some (.lst (ds.map V.int)) ∧ 0 ≤ first ∧
  ∀ (g : Addr) (H2 : Hp) (G : List Rule), Same H H2 → GramT G → H g = none → GraA (News H H2) g G → Q (.ref g) H2
theorem ok_gramT {f fA : Addr} {fd fdA : FuncData} (F : Fun K "_law_grammar" "_law_grammar" sGram f fd)
    (GA : FnOk P w K mg base CX0 1 fA fdA ["draws", "k", "many"] (spAt K)) (kA : PySem.W.keepIn K (.ref fA) = true) (bA : Binds K fdA ["draws", "k", "many"] []) (gA : mg "_law_at" = some (.ref fA))
    (mr : mg "range" = none) (mi : mg "int" = none) (ml : mg "len" = none) : FnOk P w K mg base CX0 2 f fd ["draws", "first"] (spGramT K) := by
  refine F.ok scGm (fun vs H Q E h => ?_) (fun cdv A outer s H vs Q E hr h => ?_)
  · obtain ⟨a, ds, first, rfl, _⟩ := h
    rfl
  · obtain ⟨a, ds, first, rfl, ha, f0, q⟩ := h
    refine ⟨_, pss_cons (ps_set (i := 2) scGm.nd rfl (.inl rfl) (pe_slice sl_list (pe_lst (pa_cons pe_str (pa_cons pe_str (pa_cons pe_str (pa_cons pe_str pa_nil))))) po_none (po_some (pe_op op_add pe_int (pe_call GA hr (by rfl) gA kA bA .nil pass0 (pa_cons (pv 0) (pa_cons (pv 1) (pa_cons pe_int pa_nil))))))))
      (pss_cons (ps_set (i := 3) scGm.nd rfl (.inr rfl) (pe_slice sl_list (pe_lst (pa_cons pe_str (pa_cons pe_str (pa_cons pe_str pa_nil)))) po_none (po_some (pe_op op_add pe_int (pe_call GA hr (by rfl) gA kA bA .nil pass0 (pa_cons (pv 0) (pa_cons (pe_op op_add (pv 1) pe_int) (pa_cons pe_int pa_nil))))))))
      (pss_cons (ps_set (i := 4) scGm.nd rfl (.inl rfl) (pe_lst pa_nil))
      (pss_cons (ps_for PassesOwn.never rfl (pi_range1 rfl mr (pa_cons (pe_callB call_len_seq (by rfl) ml PySem.boot_len (pa_cons (pv 2) pa_nil)) pa_nil)) (pg_name (i := 5) scGm.nd rfl (.inl rfl))
        (pss_cons (ps_set (i := 6) scGm.nd rfl (.inr rfl) (pe_call GA hr (by rfl) gA kA bA .nil pass0 (pa_cons (pv 0) (pa_cons (pe_op op_add (pe_op op_add (pv 1) pe_int) (pv 5)) (pa_cons pe_int pa_nil)))))
        (pss_cons (ps_expr (pe_bm PySem.F.plainAttrs_list PySem.F.slot_list_append PySem.F.type_list_append mt_append (pv 4) (pa_cons (pe_tup (pa_cons (pe_ix ix_list (pv 2) (pv 5) (fun _ _ => rfl)) (pa_cons
            (pe_lc (own := [("j", 12)]) (g := gName 12) rfl scGm.nd (pi_range1 rfl mr (pa_cons (pe_op op_mod (pe_callTy call_int1 (by rfl) mi (by decide +kernel) (pa_cons (pv 6) pa_nil)) pe_int) pa_nil))
              (blkOk_by (N := ["draws", "first", "names", "kinds", "rules", "k", "cell", "symbols", "size", "rule", "place", "out", "j"]) (sc := defScope sGram) (by decide +kernel)) (fun _ _ _ _ _ => pg_name (i := 12) scGm.nd rfl (Or.inl rfl)) (fun _ _ _ _ _ => pts_nil)
              (fun _ _ _ _ _ => pe_ix (r := rIxL K) ix_list (pv 3) (pe_op op_mod (pe_callTy call_int1 (by rfl) mi (by decide +kernel) (pa_cons (pe_op op_fdiv (pv 6) (pe_op op_add (pv 12) pe_int)) pa_nil)) (pe_callB (r := rLn K) call_len_seq (by rfl) ml PySem.boot_len (pa_cons (pv 3) pa_nil))) (fun _ _ => rfl))) pa_nil))) pa_nil)))
        (pss_one (ps_if (pt_cmpR op_lt (pe_op op_add (pv 5) pe_int) (pe_callB call_len_seq (by rfl) ml PySem.boot_len (pa_cons (pv 2) pa_nil)) (nomark _))
          (pss_one (ps_expr (pe_bm PySem.F.plainAttrs_list PySem.F.slot_list_append PySem.F.type_list_append mt_append (pv 4) (pa_cons (pe_tup (pa_cons (pe_ix ix_list (pv 2) (pv 5) (fun _ _ => rfl)) (pa_cons
            (pe_op op_cat (pe_ix ix_list (pe_lst (pa_cons (pe_lst pa_nil) (pa_cons (pe_lst (pa_cons (pe_ix ix_list (pv 3) (pe_op op_mod (pe_callTy call_int1 (by rfl) mi (by decide +kernel) (pa_cons (pe_op op_fdiv (pv 6) pe_int) pa_nil)) (pe_callB call_len_seq (by rfl) ml PySem.boot_len (pa_cons (pv 3) pa_nil))) (fun _ _ => rfl)) pa_nil)) pa_nil)))
                (pe_op op_mod (pe_callTy call_int1 (by rfl) mi (by decide +kernel) (pa_cons (pe_op op_fdiv (pv 6) pe_int) pa_nil)) pe_int) (fun _ _ => rfl))
              (pe_lst (pa_cons (pe_ix ix_list (pv 2) (pe_op op_add (pv 5) pe_int) (fun _ _ => rfl)) pa_nil))) pa_nil))) pa_nil)))) pss_nil)))))
      (pss_cons (ps_set (i := 7) scGm.nd rfl (.inr rfl) (pe_op op_cat (pv 3) (pv 2)))
      (pss_cons (ps_for PassesOwn.never rfl (pi_range1 rfl mr (pa_cons (pe_call GA hr (by rfl) gA kA bA .nil pass0 (pa_cons (pv 0) (pa_cons (pe_op op_add (pv 1) pe_int) (pa_cons pe_int pa_nil)))) pa_nil)) (pg_name (i := 5) scGm.nd rfl (.inl rfl))
        (pss_cons (ps_set (i := 6) scGm.nd rfl (.inr rfl) (pe_call GA hr (by rfl) gA kA bA .nil pass0 (pa_cons (pv 0) (pa_cons (pe_op op_add (pe_op op_add (pv 1) pe_int) (pv 5)) (pa_cons pe_int pa_nil)))))
        (pss_cons (ps_set (i := 8) scGm.nd rfl (.inl rfl) (pe_op op_mod (pe_callTy call_int1 (by rfl) mi (by decide +kernel) (pa_cons (pv 6) pa_nil)) pe_int))
        (pss_cons (ps_set (i := 9) scGm.nd rfl (.inl rfl) (pe_tup (pa_cons (pe_ix ix_list (pv 2) (pe_op op_mod (pe_callTy call_int1 (by rfl) mi (by decide +kernel) (pa_cons (pe_op op_fdiv (pv 6) pe_int) pa_nil)) (pe_callB call_len_seq (by rfl) ml PySem.boot_len (pa_cons (pv 2) pa_nil))) (fun _ _ => rfl)) (pa_cons
            (pe_lc (own := [("j", 12)]) (g := gName 12) rfl scGm.nd (pi_range1 rfl mr (pa_cons (pv 8) pa_nil))
              (blkOk_by (N := ["draws", "first", "names", "kinds", "rules", "k", "cell", "symbols", "size", "rule", "place", "out", "j"]) (sc := defScope sGram) (by decide +kernel)) (fun _ _ _ _ _ => pg_name (i := 12) scGm.nd rfl (Or.inl rfl)) (fun _ _ _ _ _ => pts_nil)
              (fun _ _ _ _ _ => pe_ix (r := rIxL K) ix_list (pv 7) (pe_op op_mod (pe_callTy call_int1 (by rfl) mi (by decide +kernel) (pa_cons (pe_op op_fdiv (pv 6) (pe_op op_add (pe_op op_mul pe_int (pv 12)) pe_int)) pa_nil)) (pe_callB (r := rLn K) call_len_seq (by rfl) ml PySem.boot_len (pa_cons (pv 7) pa_nil))) (fun _ _ => rfl))) pa_nil))))
        (pss_cons (ps_set (i := 10) scGm.nd rfl (.inl rfl) (pe_op op_mod (pe_callTy call_int1 (by rfl) mi (by decide +kernel) (pa_cons (pe_op op_fdiv (pv 6) pe_int) pa_nil)) (pe_callB call_len_seq (by rfl) ml PySem.boot_len (pa_cons (pv 4) pa_nil))))
        (pss_one (ps_set (i := 4) scGm.nd rfl (.inl rfl) (pe_op op_cat (pe_op op_cat (pe_slice sl_list (pv 4) po_none (po_some (pe_op op_add (pv 10) pe_int))) (pe_lst (pa_cons (pv 9) pa_nil))) (pe_slice sl_list (pv 4) (po_some (pe_op op_add (pv 10) pe_int)) po_none)))))))))
      (pss_cons (ps_set (i := 11) scGm.nd rfl (.inl rfl) (pe_lst pa_nil))
      (pss_cons (ps_for PassesOwn.never rfl (pi_list (pv 4)) (pg_name (i := 9) scGm.nd rfl (.inl rfl))
        (pss_one (ps_if (pt_cmpR (op_notInD (units65 hr)) (pv 9) (pv 11) rfl) (pss_one (ps_expr (pe_bm PySem.F.plainAttrs_list PySem.F.slot_list_append PySem.F.type_list_append mt_append (pv 11) (pa_cons (pv 9) pa_nil)))) pss_nil)))
      (pss_one (ps_ret (pv 11)))))))))), ?_⟩
    have four : (0 : Int) < 4 := by decide
    have three : (0 : Int) < 3 := by decide
    have two : (0 : Int) < 2 := by decide
    have big : (0 : Int) < 65536 := by decide
    -- names
    refine ⟨(by show 4 ≤ sizeLine; decide), fun p0 n0 => ?_⟩
    have s0 : Same H (upd H p0 (.lst (N4t.map V.str))) := same_upd n0
    have hp0 : upd H p0 (.lst (N4t.map V.str)) p0 = some (.lst (N4t.map V.str)) := upd_same
    refine ⟨_, rfl, _, rfl, a, ds, first, 4, rfl, SqL.of (s0 _ _ ha), f0, four, ?_⟩
    have x0 := atD_lo ds first four
    have x1 := atD_hi ds first four
    generalize atD ds first 4 = x at x0 x1
    obtain ⟨n, en, n1, n4⟩ : ∃ n : Nat, 1 + x = (n : Int) ∧ 1 ≤ n ∧ n ≤ 4 := ⟨(1 + x).toNat, by omega, by omega, by omega⟩
    refine ⟨_, _, rfl, rfl, _, rfl, p0, N4t.map V.str, rfl, SqL.of hp0, ?_⟩
    rw [en, cut_pre (show n ≤ (N4t.map V.str).length from n4), ← List.map_take]
    intro p1 np1
    have lns : (N4t.take n).length = n := by
      rw [List.length_take]
      exact Nat.min_eq_left n4
    have sub : ∀ s ∈ N4t.take n, s ∈ N4t := fun s hs => List.mem_of_mem_take hs
    have s1 := s0.trans (same_upd np1 (o := .lst ((N4t.take n).map V.str)))
    have hp1 : upd (upd H p0 (.lst (N4t.map V.str))) p1 (.lst ((N4t.take n).map V.str)) p1 = some (.lst ((N4t.take n).map V.str)) := upd_same
    show _
    generalize N4t.take n = ns at lns sub s1 hp1
    have hH1' : upd (upd H p0 (.lst [V.str "s", V.str "expr", V.str "b", V.str "items"])) p1 (.lst (ns.map V.str)) = upd (upd H p0 (.lst (N4t.map V.str))) p1 (.lst (ns.map V.str)) := rfl
    generalize upd (upd H p0 (.lst (N4t.map V.str))) p1 (.lst (ns.map V.str)) = H1 at s1 hp1 hH1'
    simp only [hH1']
    clear hH1' hp0 s0
    -- kinds
    refine ⟨(by show 3 ≤ sizeLine; decide), fun p2 n2 => ?_⟩
    have s2 : Same H1 (upd H1 p2 (.lst (P3.map V.str))) := same_upd n2
    have hp2 : upd H1 p2 (.lst (P3.map V.str)) p2 = some (.lst (P3.map V.str)) := upd_same
    refine ⟨_, rfl, _, rfl, _, _, rfl, rfl, a, ds, _, 3, rfl, SqL.of ((s1.trans s2) _ _ ha), by omega, three, ?_⟩
    have y0 := atD_lo ds (first + 1) three
    have y1 := atD_hi ds (first + 1) three
    generalize atD ds (first + 1) 3 = y at y0 y1
    obtain ⟨m, em, m1, m3⟩ : ∃ m : Nat, 1 + y = (m : Int) ∧ 1 ≤ m ∧ m ≤ 3 := ⟨(1 + y).toNat, by omega, by omega, by omega⟩
    refine ⟨_, _, rfl, rfl, _, rfl, p2, P3.map V.str, rfl, SqL.of hp2, ?_⟩
    rw [em, cut_pre (show m ≤ (P3.map V.str).length from m3), ← List.map_take]
    intro p3 np3
    have lks : (P3.take m).length = m := by
      rw [List.length_take]
      exact Nat.min_eq_left m3
    have subk : ∀ s ∈ P3.take m, s ∈ P3 := fun s hs => List.mem_of_mem_take hs
    have s3 := s2.trans (same_upd np3 (o := .lst ((P3.take m).map V.str)))
    have hp3 : upd (upd H1 p2 (.lst (P3.map V.str))) p3 (.lst ((P3.take m).map V.str)) p3 = some (.lst ((P3.take m).map V.str)) := upd_same
    show _
    generalize P3.take m = ks at lks subk s3 hp3
    have hH3' : upd (upd H1 p2 (.lst [V.str "A", V.str "BB", V.str "C"])) p3 (.lst (ks.map V.str)) = upd (upd H1 p2 (.lst (P3.map V.str))) p3 (.lst (ks.map V.str)) := rfl
    generalize upd (upd H1 p2 (.lst (P3.map V.str))) p3 (.lst (ks.map V.str)) = H3 at s3 hp3 hH3'
    simp only [hH3']
    clear hH3' hp2 s2
    have s03 := s1.trans s3
    have hn3 := s3 _ _ hp1
    -- rules = []
    refine ⟨Nat.zero_le _, fun R nR => ?_⟩
    have sR : Same H3 (upd H3 R (.lst [])) := same_upd nR
    have nR0 : H R = none := s03.free nR
    have ns0 : ((ns.map V.str).length : Int) = (n : Int) := by rw [List.length_map, lns]
    have ks0 : ((ks.map V.str).length : Int) = (m : Int) := by rw [List.length_map, lks]
    refine ⟨_, rfl, p1, _, rfl, .inl (SqL.of (sR _ _ hn3)), _, rfl, by rw [ns0]; omega, by rw [ns0]; omega, ?_⟩
    rw [show ((ns.map V.str).length : Int).toNat = n from by omega]
    refine for_range (lo := 0) (n := n) (fun k σ H' => ∃ v5 v6 v12 vs G, σ = [some (.ref a), some (.int first), some (.ref p1), some (.ref p3), some (.ref R), v5, v6, none, none, none, none, none, v12] ∧ Same H3 H' ∧ H' R = some (.lst vs) ∧ GrA (News (upd H3 R (.lst [])) H') vs G ∧ GramP ns k (2 * k) G)
      ⟨none, none, none, [], [], rfl, sR, upd_same, True.intro, GramP.start ns⟩ ?_ ?_
    · rintro k σ H4 hk ⟨v5, v6, v12, vs, G, rfl, s4, hR4, gr4, gp⟩
      rw [Int.zero_add]
      have s04 := s03.trans s4
      refine ⟨_, rfl, _, rfl, _, _, rfl, rfl, _, rfl, _, _, rfl, rfl, a, ds, _, 65536, rfl, SqL.of (s04 _ _ ha), by omega, big, ?_⟩
      have c0 := atD_lo ds (first + 2 + (k : Int)) big
      generalize atD ds (first + 2 + (k : Int)) 65536 = cell at c0
      obtain ⟨N, gN, hN⟩ : ∃ N, (ns.map V.str)[k]? = some (V.str N) ∧ ns[k]? = some N := by
        obtain ⟨N, hN⟩ : ∃ N, ns[k]? = some N := ⟨_, List.getElem?_eq_getElem (by omega)⟩
        exact ⟨N, by rw [List.getElem?_map, hN]; rfl, hN⟩
      -- the first rule
      have z0 := Int.emod_nonneg cell (show (3 : Int) ≠ 0 by decide)
      have z1 := Int.emod_lt_of_pos cell three
      refine ⟨_, rfl, .inl ⟨rfl, _, SqL.of hR4⟩, _, rfl, _, rfl, p1, _, _, _, rfl, rfl, SqL.of (s4 _ _ hn3), at_of (j := k) rfl gN, _, rfl, .inl ⟨_, rfl, _, _, rfl, rfl, three, _, rfl, by omega, by omega, fun D hD => lc_range (lo := 0) (n := (cell % 3).toNat) (fun j H' => ∃ ss : List Str, Same H4 H' ∧ H' D = some (.lst (ss.map V.str)) ∧ ss.length = j ∧ ∀ s ∈ ss, s ∈ P3)
        ⟨[], same_upd hD, upd_same, rfl, fun _ h => nomatch h⟩ ?_ ?_⟩⟩
      · rintro j H5 hj ⟨ss, s5, hd5, lj, sk⟩
        rw [Int.zero_add]
        have q0 := Int.emod_nonneg (cell / ((j : Int) + 1)) (show ((ks.map V.str).length : Int) ≠ 0 by omega)
        have q1 := Int.emod_lt_of_pos (cell / ((j : Int) + 1)) (show (0 : Int) < ((ks.map V.str).length : Int) by omega)
        obtain ⟨sy, gsy, msy⟩ := pick_of (ss := ks) (v := cell / ((j : Int) + 1) % ((ks.map V.str).length : Int)) q0 (by rw [List.length_map] at q1 ⊢; exact q1)
        refine ⟨rfl, _, rfl, _, rfl, _, rfl, _, _, rfl, rfl, _, _, rfl, rfl, ⟨by show (0 : Int) < _; omega, by show ((j : Int) + 1) < 1073741824; omega⟩, .inl ⟨_, rfl, _, rfl, p3, _, rfl, .inl (SqL.of ((s4.trans s5) _ _ hp3)), _, _, rfl, rfl, (by show (0 : Int) < _; omega), p3, _, _, _, rfl, rfl, SqL.of ((s4.trans s5) _ _ hp3), at_of (j := (cell / ((j : Int) + 1) % ((ks.map V.str).length : Int)).toNat) (by omega) gsy, _, hd5, ?_, ss ++ [sy], same_put s5 hD, ?_, ?_, fun s hs => ?_⟩⟩
        · rw [List.length_map]
          exact million1 (by omega)
        · rw [upd_same, List.map_append]
          rfl
        · rw [List.length_append, List.length_singleton, lj]
        · rcases List.mem_append.mp hs with q | q
          · exact sk s q
          · rw [List.mem_singleton.mp q]
            exact subk sy msy
      · rintro H5 ⟨ss, s5, hd5, lj, sk⟩
        refine ⟨(by show 2 ≤ sizeLine; decide), fun t nt => ?_⟩
        have domb : ∀ b, H4 b = none → upd H3 R (.lst []) b = none := fun b hb => by
          have nb : b ≠ R := fun z => by rw [z, hR4] at hb; cases hb
          rw [upd_ne nb]
          exact s4.free hb
        have s6 := s5.trans (same_upd nt (o := .tup [.str N, .ref D]))
        have ht : upd H5 t (.tup [.str N, .ref D]) t = some (.tup [.str N, .ref D]) := upd_same
        have hd6 : upd H5 t (.tup [.str N, .ref D]) D = some (.lst (ss.map V.str)) := (same_upd nt) _ _ hd5
        have nt0 : H4 t = none := s5.free nt
        generalize upd H5 t (.tup [.str N, .ref D]) = H6 at s6 ht hd6
        have ra : RuleA (News (upd H3 R (.lst [])) H6) (.ref t) (N, ss) := ⟨t, D, rfl, by rw [news_of (domb t nt0)]; exact ht, by rw [news_of (domb D hD)]; exact hd6⟩
        have gr6 : GrA (News (upd H3 R (.lst [])) H6) (vs ++ [.ref t]) (G ++ [(N, ss)]) := (gr4.up (News.up (Up.of_same s6))).snoc ra
        have hR6 := s6 _ _ hR4
        have lvs : vs.length ≤ 8 := by
          rw [gr4.len]
          have := gp.few
          omega
        refine ⟨R, _, _, rfl, rfl, hR6, million1 (by omega), ?_⟩
        have gp2 := gp.own_ hN (ss := ss) (by omega) sk
        have gr7 : GrA (News (upd H3 R (.lst [])) (upd H6 R (.lst (vs ++ [.ref t])))) (vs ++ [.ref t]) (G ++ [(N, ss)]) := by
          rw [News.put (upd_same (H := H3) (a := R) (o := .lst []))]
          exact gr6
        have hR7 : upd H6 R (.lst (vs ++ [.ref t])) R = some (.lst (vs ++ [.ref t])) := upd_same
        have s7 : Same H3 (upd H6 R (.lst (vs ++ [.ref t]))) := same_put (s4.trans s6) nR
        show _
        generalize upd H6 R (.lst (vs ++ [.ref t])) = H7 at gr7 hR7 s7
        clear gr6 hR6 ra ht hd6 hd5 s5 s6 domb gr4 hR4 s4 s04
        -- the second one
        refine ⟨_, rfl, _, _, rfl, rfl, _, rfl, p1, _, rfl, .inl (SqL.of (s7 _ _ hn3)), _, _, rfl, rfl, _, rfl, ite2 (fun c => ?_) (fun c => ?_)⟩
        · have k1 : k + 1 < n := by
            have := of_decide_eq_true c
            omega
          obtain ⟨N2, gN2, hN2⟩ : ∃ N, (ns.map V.str)[k + 1]? = some (V.str N) ∧ N ∈ ns := by
            obtain ⟨N, hN⟩ : ∃ N, ns[k + 1]? = some N := ⟨_, List.getElem?_eq_getElem (by omega)⟩
            exact ⟨N, by rw [List.getElem?_map, hN]; rfl, List.mem_of_getElem? hN⟩
          have q0 := Int.emod_nonneg (cell / 5) (show ((ks.map V.str).length : Int) ≠ 0 by omega)
          have q1 := Int.emod_lt_of_pos (cell / 5) (show (0 : Int) < ((ks.map V.str).length : Int) by omega)
          obtain ⟨sy, gsy, msy⟩ := pick_of (ss := ks) (v := cell / 5 % ((ks.map V.str).length : Int)) q0 (by rw [List.length_map] at q1 ⊢; exact q1)
          refine ⟨_, rfl, .inl ⟨rfl, _, SqL.of hR7⟩, _, rfl, _, rfl, p1, _, _, _, rfl, rfl, SqL.of (s7 _ _ hn3), at_of (j := k) rfl gN, ?_⟩
          refine ⟨Nat.zero_le _, fun q1' nq1 => ?_⟩
          have t1 : Same H7 (upd H7 q1' (.lst [])) := same_upd nq1
          refine ⟨_, rfl, _, rfl, _, _, rfl, rfl, ⟨by decide, by decide⟩, .inl ⟨_, rfl, _, rfl, p3, _, rfl, .inl (SqL.of ((s7.trans t1) _ _ hp3)), _, _, rfl, rfl, (by show (0 : Int) < _; omega), p3, _, _, _, rfl, rfl, SqL.of ((s7.trans t1) _ _ hp3), at_of (j := (cell / 5 % ((ks.map V.str).length : Int)).toNat) (by omega) gsy, (by show 1 ≤ sizeLine; decide), fun q2' nq2 => ?_⟩⟩
          refine ⟨(by show 2 ≤ sizeLine; decide), fun q3' nq3 => ?_⟩
          have t3 := (t1.trans (same_upd nq2 (o := .lst [.str sy]))).trans (same_upd nq3 (o := .lst [.ref q1', .ref q2']))
          have hq3 : upd (upd (upd H7 q1' (.lst [])) q2' (.lst [.str sy])) q3' (.lst [.ref q1', .ref q2']) q3' = some (.lst [.ref q1', .ref q2']) := upd_same
          have hq1 : upd (upd (upd H7 q1' (.lst [])) q2' (.lst [.str sy])) q3' (.lst [.ref q1', .ref q2']) q1' = some (.lst []) := (same_upd nq3) _ _ ((same_upd nq2) _ _ upd_same)
          have hq2 : upd (upd (upd H7 q1' (.lst [])) q2' (.lst [.str sy])) q3' (.lst [.ref q1', .ref q2']) q2' = some (.lst [.str sy]) := (same_upd nq3) _ _ upd_same
          show _
          generalize upd (upd (upd H7 q1' (.lst [])) q2' (.lst [.str sy])) q3' (.lst [.ref q1', .ref q2']) = H8 at t3 hq3 hq1 hq2
          have w0 := Int.emod_nonneg (cell / 3) (show (2 : Int) ≠ 0 by decide)
          have w1 := Int.emod_lt_of_pos (cell / 3) two
          obtain ⟨qx, xs, gx, hx, lx, kx⟩ : ∃ (qx : Addr) (xs : List Str), ([V.ref q1', V.ref q2'] : List V)[(cell / 3 % 2).toNat]? = some (.ref qx) ∧ H8 qx = some (.lst (xs.map V.str)) ∧ xs.length ≤ 1 ∧ ∀ s ∈ xs, s ∈ P3 := by
            have e : (cell / 3 % 2).toNat = 0 ∨ (cell / 3 % 2).toNat = 1 := by omega
            rcases e with e | e <;> rw [e]
            · exact ⟨q1', [], rfl, hq1, Nat.zero_le _, fun _ h => nomatch h⟩
            · exact ⟨q2', [sy], rfl, hq2, Nat.le_refl _, fun s hs => by rw [List.mem_singleton.mp hs]; exact subk sy msy⟩
          refine ⟨_, rfl, _, _, rfl, rfl, ⟨by decide, by decide⟩, .inl ⟨_, rfl, _, _, rfl, rfl, two, q3', _, _, _, rfl, rfl, SqL.of hq3, at_of (j := (cell / 3 % 2).toNat) (by omega) gx, ?_⟩⟩
          refine ⟨_, rfl, _, rfl, _, _, rfl, rfl, p1, _, _, _, rfl, rfl, SqL.of ((s7.trans t3) _ _ hn3), at_of (j := k + 1) (by omega) gN2, (by show 1 ≤ sizeLine; decide), fun q4' nq4 => ?_⟩
          have t4 := t3.trans (same_upd nq4 (o := .lst [.str N2]))
          refine ⟨qx, q4', xs.map V.str, [V.str N2], rfl, rfl, (same_upd nq4) _ _ hx, upd_same, million0 (by rw [List.length_map]; show xs.length + 1 ≤ _; omega), fun q5' nq5 => ?_⟩
          have t5 := t4.trans (same_upd nq5 (o := .lst (xs.map V.str ++ [V.str N2])))
          have hq5 : upd (upd H8 q4' (.lst [.str N2])) q5' (.lst (xs.map V.str ++ [V.str N2])) q5' = some (.lst ((xs ++ [N2]).map V.str)) := by
            rw [upd_same, List.map_append]
            rfl
          show _
          generalize upd (upd H8 q4' (.lst [.str N2])) q5' (.lst (xs.map V.str ++ [V.str N2])) = H9 at t5 hq5
          have nq50 : H7 q5' = none := t4.free nq5
          refine ⟨(by show 2 ≤ sizeLine; decide), fun t2 nt2 => ?_⟩
          have domb : ∀ b, H7 b = none → upd H3 R (.lst []) b = none := fun b hb => by
            have nb : b ≠ R := fun z => by rw [z, hR7] at hb; cases hb
            rw [upd_ne nb]
            exact s7.free hb
          have t6 := t5.trans (same_upd nt2 (o := .tup [.str N, .ref q5']))
          have ht2 : upd H9 t2 (.tup [.str N, .ref q5']) t2 = some (.tup [.str N, .ref q5']) := upd_same
          have hq6 : upd H9 t2 (.tup [.str N, .ref q5']) q5' = some (.lst ((xs ++ [N2]).map V.str)) := (same_upd nt2) _ _ hq5
          have nt20 : H7 t2 = none := t5.free nt2
          generalize upd H9 t2 (.tup [.str N, .ref q5']) = HA at t6 ht2 hq6
          have ra : RuleA (News (upd H3 R (.lst [])) HA) (.ref t2) (N, xs ++ [N2]) := ⟨t2, q5', rfl, by rw [news_of (domb t2 nt20)]; exact ht2, by rw [news_of (domb q5' nq50)]; exact hq6⟩
          have grA : GrA (News (upd H3 R (.lst [])) HA) (vs ++ [.ref t] ++ [.ref t2]) (G ++ [(N, ss)] ++ [(N, xs ++ [N2])]) := (gr7.up (News.up (Up.of_same t6))).snoc ra
          refine ⟨R, _, _, rfl, rfl, t6 _ _ hR7, million1 (by rw [List.length_append, List.length_singleton]; omega), ?_⟩
          have gp3 := gp2.more (r := (N, xs ++ [N2])) ⟨List.mem_of_getElem? hN, by show (xs ++ [N2]).length ≤ 3; rw [List.length_append, List.length_singleton]; omega, fun s hs => by
            rcases List.mem_append.mp hs with q | q
            · exact .inr (kx s q)
            · rw [List.mem_singleton.mp q]
              exact .inl hN2⟩ (G ++ [(N, ss)]) [] (List.append_nil _).symm
          rw [List.append_nil] at gp3
          refine ⟨_, _, _, vs ++ [.ref t] ++ [.ref t2], _, rfl, same_put (s7.trans t6) nR, upd_same, ?_, gp3.skip (by omega)⟩
          rw [News.put (upd_same (H := H3) (a := R) (o := .lst []))]
          exact grA
        · exact ⟨_, _, _, vs ++ [.ref t], _, rfl, s7, hR7, gr7, gp2.skip (by omega)⟩
    · rintro σ H4 ⟨v5, v6, v12, vs, G, rfl, s4, hR4, gr4, gp⟩
      have s04 := s03.trans s4
      have grH : GrA (News H H4) vs G := gr4.up (Up.of_same (News.less fun b hb => by
        have nb : b ≠ R := fun z => by rw [z, upd_same] at hb; cases hb
        rw [upd_ne nb] at hb
        exact s03.free hb))
      -- symbols
      refine ⟨_, rfl, _, rfl, p3, p1, ks.map V.str, ns.map V.str, rfl, rfl, s4 _ _ hp3, s4 _ _ hn3, million0 (by rw [List.length_map, List.length_map]; omega), fun p4 np4 => ?_⟩
      have s5 : Same H4 (upd H4 p4 (.lst (ks.map V.str ++ ns.map V.str))) := same_upd np4
      have hp4 : upd H4 p4 (.lst (ks.map V.str ++ ns.map V.str)) p4 = some (.lst ((ks ++ ns).map V.str)) := by rw [upd_same, List.map_append]
      have hR5 := s5 _ _ hR4
      have gr5 := grH.up (News.up (Up.of_same s5))
      have s05 := s04.trans s5
      have hn5 := s5 _ _ (s4 _ _ hn3)
      show _
      generalize upd H4 p4 (.lst (ks.map V.str ++ ns.map V.str)) = H5 at s5 hp4 hR5 gr5 s05 hn5
      have sy0 : (((ks ++ ns).map V.str).length : Int) = ((m + n : Nat) : Int) := by rw [List.length_map, List.length_append, lks, lns]
      have symk : ∀ s ∈ ks ++ ns, s ∈ ns ∨ s ∈ P3 := fun s hs => by
        rcases List.mem_append.mp hs with q | q
        · exact .inr (subk s q)
        · exact .inl q
      have five : (0 : Int) < 5 := by decide
      refine ⟨_, rfl, _, rfl, _, _, rfl, rfl, a, ds, _, 5, rfl, SqL.of (s05 _ _ ha), by omega, five, ?_⟩
      have w0 := atD_lo ds (first + 6) five
      have w1 := atD_hi ds (first + 6) five
      generalize atD ds (first + 6) 5 = x5 at w0 w1
      refine ⟨_, rfl, by omega, by omega, ?_⟩
      clear gr4 grH s5 s4 s04 hR4
      have gp0 := gp.skip (show 2 * n ≤ 8 + 0 by omega)
      refine for_range (lo := 0) (n := x5.toNat) (fun i σ H' => ∃ v5 v6 v8 v9 v10 v12 Rk vs G, σ = [some (.ref a), some (.int first), some (.ref p1), some (.ref p3), some (.ref Rk), v5, v6, some (.ref p4), v8, v9, v10, none, v12] ∧ Same H5 H' ∧ H' Rk = some (.lst vs) ∧ GrA (News H H') vs G ∧ GramP ns n (8 + i) G)
        ⟨v5, v6, none, none, none, v12, R, vs, G, rfl, Same.refl H5, hR5, gr5, gp0⟩ ?_ ?_
      · rintro i σ H6 hi ⟨v5, v6, v8, v9, v10, v12, Rk, vs, G, rfl, s6, hR6, gr6, gp6⟩
        rw [Int.zero_add]
        have s06 := s05.trans s6
        refine ⟨_, rfl, _, rfl, _, _, rfl, rfl, _, rfl, _, _, rfl, rfl, a, ds, _, 65536, rfl, SqL.of (s06 _ _ ha), by omega, big, ?_⟩
        have c0 := atD_lo ds (first + 7 + (i : Int)) big
        generalize atD ds (first + 7 + (i : Int)) 65536 = cell at c0
        refine ⟨_, rfl, .inl ⟨_, rfl, _, _, rfl, rfl, four, ?_⟩⟩
        have z0 := Int.emod_nonneg cell (show (4 : Int) ≠ 0 by decide)
        have z1 := Int.emod_lt_of_pos cell four
        -- rule
        have q0 := Int.emod_nonneg (cell / 4) (show ((ns.map V.str).length : Int) ≠ 0 by omega)
        have q1 := Int.emod_lt_of_pos (cell / 4) (show (0 : Int) < ((ns.map V.str).length : Int) by omega)
        obtain ⟨N, gN, mN⟩ := pick_of (ss := ns) (v := cell / 4 % ((ns.map V.str).length : Int)) q0 (by rw [List.length_map] at q1 ⊢; exact q1)
        refine ⟨_, rfl, _, rfl, _, _, rfl, rfl, ⟨by decide, by decide⟩, .inl ⟨_, rfl, _, rfl, p1, _, rfl, .inl (SqL.of (s6 _ _ hn5)), _, _, rfl, rfl, (by show (0 : Int) < _; omega), p1, _, _, _, rfl, rfl, SqL.of (s6 _ _ hn5), at_of (j := (cell / 4 % ((ns.map V.str).length : Int)).toNat) (by omega) gN, ?_⟩⟩
        refine ⟨_, rfl, _, rfl, by omega, by omega, fun D hD => lc_range (lo := 0) (n := (cell % 4).toNat) (fun j H' => ∃ ss : List Str, Same H6 H' ∧ H' D = some (.lst (ss.map V.str)) ∧ ss.length = j ∧ ∀ s ∈ ss, s ∈ ns ∨ s ∈ P3) ⟨[], same_upd hD, upd_same, rfl, fun _ h => nomatch h⟩ ?_ ?_⟩
        · rintro j H7 hj ⟨ss, s7, hd7, lj, sk⟩
          rw [Int.zero_add]
          have q0 := Int.emod_nonneg (cell / (7 * (j : Int) + 3)) (show (((ks ++ ns).map V.str).length : Int) ≠ 0 by omega)
          have q1 := Int.emod_lt_of_pos (cell / (7 * (j : Int) + 3)) (show (0 : Int) < (((ks ++ ns).map V.str).length : Int) by omega)
          obtain ⟨sy, gsy, msy⟩ := pick_of (ss := ks ++ ns) (v := cell / (7 * (j : Int) + 3) % (((ks ++ ns).map V.str).length : Int)) q0 (by rw [List.length_map] at q1 ⊢; exact q1)
          refine ⟨rfl, _, rfl, _, rfl, _, rfl, _, _, rfl, rfl, .inl ⟨by decide, by decide⟩, _, _, rfl, rfl, _, _, rfl, rfl, ⟨by show (0 : Int) < _; omega, by show (7 * (j : Int) + 3) < 1073741824; omega⟩, .inl ⟨_, rfl, _, rfl, p4, _, rfl, .inl (SqL.of ((s6.trans s7) _ _ hp4)), _, _, rfl, rfl, (by show (0 : Int) < _; omega), p4, _, _, _, rfl, rfl, SqL.of ((s6.trans s7) _ _ hp4), at_of (j := (cell / (7 * (j : Int) + 3) % (((ks ++ ns).map V.str).length : Int)).toNat) (by omega) gsy, _, hd7, ?_, ss ++ [sy], same_put s7 hD, ?_, ?_, fun s hs => ?_⟩⟩
          · rw [List.length_map]
            exact million1 (by omega)
          · rw [upd_same, List.map_append]
            rfl
          · rw [List.length_append, List.length_singleton, lj]
          · rcases List.mem_append.mp hs with q | q
            · exact sk s q
            · rw [List.mem_singleton.mp q]
              exact symk sy msy
        · rintro H7 ⟨ss, s7, hd7, lj, sk⟩
          refine ⟨(by show 2 ≤ sizeLine; decide), fun t nt => ?_⟩
          have s8 := s7.trans (same_upd nt (o := .tup [.str N, .ref D]))
          have ht : upd H7 t (.tup [.str N, .ref D]) t = some (.tup [.str N, .ref D]) := upd_same
          have hd8 : upd H7 t (.tup [.str N, .ref D]) D = some (.lst (ss.map V.str)) := (same_upd nt) _ _ hd7
          have nt0 : H6 t = none := s7.free nt
          show _
          generalize upd H7 t (.tup [.str N, .ref D]) = H8 at s8 ht hd8
          have ra : RuleA (News H H8) (.ref t) (N, ss) := ⟨t, D, rfl, by rw [news_of (s06.free nt0)]; exact ht, by rw [news_of (s06.free hD)]; exact hd8⟩
          have gr8 := gr6.up (News.up (Up.of_same s8))
          have hR8 := s8 _ _ hR6
          have lvs := gr6.len
          have lG := gp6.few
          have lG0 : 0 < G.length := List.length_pos_iff.mpr (gp6.ne (by omega))
          -- place
          have r0 := Int.emod_nonneg (cell / 11) (show (vs.length : Int) ≠ 0 by omega)
          have r1 := Int.emod_lt_of_pos (cell / 11) (show (0 : Int) < (vs.length : Int) by omega)
          refine ⟨_, rfl, _, _, rfl, rfl, ⟨by decide, by decide⟩, .inl ⟨_, rfl, _, rfl, Rk, _, rfl, .inl (SqL.of hR8), _, _, rfl, rfl, (by show (0 : Int) < _; omega), ?_⟩⟩
          obtain ⟨pl, epl, lpl⟩ : ∃ pl : Nat, cell / 11 % (vs.length : Int) + 1 = (pl : Int) ∧ pl ≤ vs.length := ⟨(cell / 11 % (vs.length : Int) + 1).toNat, by omega, by omega⟩
          refine ⟨_, rfl, _, rfl, _, _, rfl, rfl, _, rfl, Rk, vs, rfl, SqL.of hR8, ?_⟩
          rw [epl, cut_pre lpl]
          intro u1 nu1
          have v1 : Same H8 (upd H8 u1 (.lst (vs.take pl))) := same_upd nu1
          refine ⟨_, rfl, (by show 1 ≤ sizeLine; decide), fun u2 nu2 => ?_⟩
          have v2 := v1.trans (same_upd nu2 (o := .lst [.ref t]))
          refine ⟨u1, u2, vs.take pl, [V.ref t], rfl, rfl, (same_upd nu2) _ _ upd_same, upd_same, million0 (by rw [List.length_take]; show min pl vs.length + 1 ≤ _; omega), fun u3 nu3 => ?_⟩
          have v3 := v2.trans (same_upd nu3 (o := .lst (vs.take pl ++ [.ref t])))
          have hu3 : upd (upd (upd H8 u1 (.lst (vs.take pl))) u2 (.lst [.ref t])) u3 (.lst (vs.take pl ++ [.ref t])) u3 = some (.lst (vs.take pl ++ [.ref t])) := upd_same
          show _
          generalize upd (upd (upd H8 u1 (.lst (vs.take pl))) u2 (.lst [.ref t])) u3 (.lst (vs.take pl ++ [.ref t])) = H9 at v3 hu3
          refine ⟨_, rfl, _, rfl, _, _, rfl, rfl, _, rfl, Rk, vs, rfl, SqL.of (v3 _ _ hR8), ?_⟩
          rw [epl, cut_post lpl]
          intro u4 nu4
          have v4 := v3.trans (same_upd nu4 (o := .lst (vs.drop pl)))
          refine ⟨u3, u4, vs.take pl ++ [.ref t], vs.drop pl, rfl, rfl, (same_upd nu4) _ _ hu3, upd_same, million0 (by rw [List.length_append, List.length_take, List.length_drop, List.length_singleton]; omega), fun u5 nu5 => ?_⟩
          have v5' := v4.trans (same_upd nu5 (o := .lst (vs.take pl ++ [.ref t] ++ vs.drop pl)))
          refine ⟨_, _, _, _, _, _, u5, vs.take pl ++ [.ref t] ++ vs.drop pl, G.take pl ++ [(N, ss)] ++ G.drop pl, rfl, (s6.trans s8).trans v5', upd_same, ?_, ?_⟩
          · have g9 := gr8.up (News.up (Up.of_same v5'))
            exact GrA.app (GrA.snoc (GrA.take pl g9) (ra.up (News.up (Up.of_same v5')))) (GrA.drop pl g9)
          · exact gp6.more (r := (N, ss)) ⟨mN, by show ss.length ≤ 3; omega, sk⟩ (G.take pl) (G.drop pl) (List.take_append_drop pl G).symm
      · rintro σ H6 ⟨v5, v6, v8, v9, v10, v12, Rk, vs, G, rfl, s6, hR6, gr6, gp6⟩
        have s06 := s05.trans s6
        refine ⟨Nat.zero_le _, fun O nO => ?_⟩
        have sO : Same H6 (upd H6 O (.lst [])) := same_upd nO
        have lG := gp6.few
        refine ⟨_, rfl, Rk, rfl, ⟨_, SqL.of (sO _ _ hR6)⟩, for_list (a := Rk) (xs := vs) (fun i σ H' => ∃ v9 ws, σ = [some (.ref a), some (.int first), some (.ref p1), some (.ref p3), some (.ref Rk), v5, v6, some (.ref p4), v8, v9, v10, some (.ref O), v12] ∧ Same H6 H' ∧ H' O = some (.lst ws) ∧ GrA (News H H6) ws ((G.take i).foldl nubStep []))
          ⟨v9, [], rfl, sO, upd_same, True.intro⟩ (fun i σ H' _ ⟨_, _, _, s', _⟩ => SqL.of (s' _ _ hR6)) ?_ ?_⟩
        · rintro i x σ H7 hx ⟨v9, ws, rfl, s7, hO, grO⟩
          obtain ⟨r, hr2, ra⟩ := gr6.get hx
          have e := nub_take hr2
          have hl := nub_len (G.take i) []
          have hlt : (G.take i).length ≤ 20 := Nat.le_trans (List.length_take_le' _ _) (by omega)
          have sub2 : ∀ y ∈ (G.take i).foldl nubStep [], y ∈ G := fun y hy => by
            rcases (nub_in _ [] y).mp hy with z | z
            · cases z
            · exact List.mem_of_mem_take z
          generalize (G.take i).foldl nubStep [] = DD at e hl grO sub2
          have rg : ∀ y ∈ G, GoodR y := fun y hy => ruleT_good (by
            obtain ⟨g1, g2, g3⟩ := gp6.good y hy
            exact ⟨sub _ g1, g2, fun s hs => (g3 s hs).imp_left (sub s)⟩)
          have ra7 : RuleA H7 x r := (ra.up (Up.of_same news_same)).up (Up.of_same s7)
          have gd : Dp K H7 (.ref O) (.list (DD.map ruleD)) := (show GraA H7 O DD from ⟨ws, hO, (grO.up (Up.of_same news_same)).up (Up.of_same s7)⟩).dp
          refine ⟨_, rfl, _, rfl, ruleD r, DD.map ruleD, ra7.dp, gd, rule_shaped (rg r (List.mem_of_getElem? hr2)), gD_shaped (fun y hy => rg y (sub2 y hy)), _, rfl, ?_⟩
          rw [ruleD_in]
          by_cases mm : r ∈ DD
          · rw [decide_eq_true mm]
            refine iteF ⟨_, ws, rfl, s7, hO, ?_⟩
            rw [e]
            unfold nubStep
            rw [if_pos mm]
            exact grO
          · rw [decide_eq_false mm]
            refine iteT ⟨_, rfl, .inl ⟨rfl, _, SqL.of hO⟩, _, rfl, O, _, _, rfl, rfl, hO, ?_, _, ws ++ [x], rfl, same_put s7 nO, upd_same, ?_⟩
            · rw [grO.len]
              rw [List.length_nil] at hl
              exact million1 (by omega)
            · rw [e]
              unfold nubStep
              rw [if_neg mm]
              exact grO.snoc ra
        · rintro σ H7 ⟨v9, ws, rfl, s7, hO, grO⟩
          rw [gr6.len, List.take_length] at grO
          have nO0 : H O = none := s06.free nO
          refine ⟨_, rfl, q O H7 _ (s06.trans s7) (gp6.gram sub lns.symm (by omega) (by omega)) nO0 ⟨ws, by rw [news_of nO0]; exact hO, grO.up (News.up (Up.of_same s7))⟩⟩
end
end Ld

set_option Elab.async false
set_option linter.all false
set_option maxRecDepth 100000
set_option maxHeartbeats 4000000
/-! How large least costs can be. -/
namespace Lb
open PySem Ld
theorem tab_ex {B : Pb} (ok : PbOk B) : ∃ T : Nat → Nat → Ent, ∀ a b, LeastAt B (T a b) a b := by
  have ex : ∀ a b, ∃ e : Ent, LeastAt B e a b := fun a b => by
    have f1 : ∀ N, ∃ o, LeastO (TreeC B N a b) o := fun N => least_ex fun c h => TreeC.pos ok h
    have f2 : ∀ r d, ∃ o, LeastO (RestC B r d a b) o := fun r d => least_ex fun c h => RestC.pos ok h
    exact ⟨⟨fun N => Classical.choose (f1 N), fun r d => Classical.choose (f2 r d)⟩, fun N => Classical.choose_spec (f1 N), fun r d => Classical.choose_spec (f2 r d)⟩
  exact ⟨fun a b => Classical.choose (ex a b), fun a b => Classical.choose_spec (ex a b)⟩
/-- both numbers at most w -/
def Le2 (c : Cost) (w : Int) : Prop := c.1 ≤ w ∧ c.2 ≤ w
section
variable {B : Pb} {T : Nat → Nat → Ent}
/-- parts no dearer, each tree among them a least one -/
theorem rest_least (ok : PbOk B) (kn : ∀ i j, B.kn i j = none) (hT : ∀ a b, LeastAt B (T a b) a b) {L : Int} (l1 : 1 ≤ L) (hL : ∀ k a b, B.leaf k a b ≤ L) : ∀ {r d i j : Nat} {c : Cost}, RestC B r d i j c →
    i ≤ j → ∃ c', RestC B r d i j c' ∧ cle c' c ∧ ∀ (W : Int) (N : Str) (ss : List Str), B.G[r]? = some (N, ss) → L ≤ W → (∀ M a b t, i ≤ a → a ≤ b → b ≤ j → (T a b).nm M = some t → t.1 ≤ c'.1 → t.2 ≤ c'.2 → Le2 t W) → c'.1 ≤ ((ss.length - d : Nat) : Int) * W ∧ c'.2 ≤ ((ss.length - d : Nat) : Int) * W
  | _, _, i, j, _, .known h _, _ => by rw [kn] at h; cases h
  | r, d, _, _, _, .nil (i := i) h1 h2 h3, _ => by
    refine ⟨(0, 0), .nil h1 h2 h3, cle_refl _, fun W N ss _ l _ => ?_⟩
    have : (0 : Int) ≤ ((ss.length - d : Nat) : Int) * W := Int.mul_nonneg (by omega) (by omega)
    exact ⟨this, this⟩
  | r, d, i, j, _, .leaf (e := e) (N := N) (k := k) (ss := ss) (c := c) h1 h2 h3 h4 h5 h6 h7, ij => by
    obtain ⟨c', q1, q2, q3⟩ := rest_least ok kn hT l1 hL h7 h6
    have p := RestC.pos ok q1
    have pl := ok.leaf k i e
    refine ⟨(B.leaf k i e + c'.1, 1 + c'.2), .leaf h1 h2 h3 h4 h5 h6 q1, cle_add (a := (B.leaf k i e, 1)) (b := (B.leaf k i e, 1)) (cle_refl _) q2, fun W N2 ss2 hr lW hW => ?_⟩
    rw [h2] at hr
    cases hr
    have dl : d < ss.length := (List.getElem?_eq_some_iff.mp h3).1
    obtain ⟨b1, b2⟩ := q3 W N ss h2 lW fun M a b t x1 x2 x3 x4 x5 x6 => hW M a b t (by omega) x2 x3 x4 (by dsimp only; omega) (by dsimp only; omega)
    have e1 : ((ss.length - d : Nat) : Int) * W = ((ss.length - (d + 1) : Nat) : Int) * W + W := by
      rw [show ((ss.length - d : Nat) : Int) = ((ss.length - (d + 1) : Nat) : Int) + 1 by omega, Int.add_mul, Int.one_mul]
    have := hL k i e
    dsimp only
    omega
  | r, d, i, j, _, .tree (e := e) (N := N) (k := k) (ss := ss) (a := a) (c := c) h1 h2 h3 h4 h5 h6 h7 h8, ij => by
    obtain ⟨c', q1, q2, q3⟩ := rest_least ok kn hT l1 hL h8 h6
    obtain ⟨t, et, lt⟩ := ((hT i e).nm k).up h7
    have mt : TreeC B k i e t := by
      have := (hT i e).nm k
      rw [et] at this
      exact this.1
    have p := RestC.pos ok q1
    have pt := TreeC.pos ok mt
    refine ⟨(t.1 + c'.1, t.2 + c'.2), .tree h1 h2 h3 h4 h5 h6 mt q1, cle_add lt q2, fun W N2 ss2 hr lW hW => ?_⟩
    rw [h2] at hr
    cases hr
    have dl : d < ss.length := (List.getElem?_eq_some_iff.mp h3).1
    obtain ⟨b1, b2⟩ := q3 W N ss h2 lW fun M a b t x1 x2 x3 x4 x5 x6 => hW M a b t (by omega) x2 x3 x4 (by dsimp only; omega) (by dsimp only; omega)
    obtain ⟨w1, w2⟩ := hW k i e t (by omega) h5 h6 et (by dsimp only; omega) (by dsimp only; omega)
    have e1 : ((ss.length - d : Nat) : Int) * W = ((ss.length - (d + 1) : Nat) : Int) * W + W := by
      rw [show ((ss.length - d : Nat) : Int) = ((ss.length - (d + 1) : Nat) : Int) + 1 by omega, Int.add_mul, Int.one_mul]
    dsimp only
    omega
/-- how large costs over a stretch of a length can be -/
def bnd (L : Int) : Nat → Int
  | 0 => L
  | n + 1 => 1024 * bnd L n
theorem bnd_pos {L : Int} (l1 : 1 ≤ L) : ∀ n, 1 ≤ bnd L n
  | 0 => l1
  | n + 1 => by
    have := bnd_pos l1 n
    rw [bnd]
    omega
theorem bnd_up {L : Int} (l1 : 1 ≤ L) : ∀ n m, bnd L n ≤ bnd L (n + m)
  | n, 0 => Int.le_refl _
  | n, m + 1 => by
    have := bnd_up l1 n m
    have := bnd_pos l1 (n + m)
    rw [← Nat.add_assoc, bnd]
    omega
/-- the names whose least cost over the stretch is less -/
def less (T : Nat → Nat → Ent) (i j : Nat) (c : Cost) (x : Str) : Bool := match (T i j).nm x with
  | some d => decide (d.1 < c.1 ∨ (d.1 = c.1 ∧ d.2 < c.2))
  | none => false
theorem same_bound (ok : PbOk B) (kn : ∀ i j, B.kn i j = none) (hT : ∀ a b, LeastAt B (T a b) a b) {L : Int} (l1 : 1 ≤ L) (hL : ∀ k a b, B.leaf k a b ≤ L) (few : ∀ r ∈ B.G, r.2.length ≤ 3) {Ns : List Str} (cover : ∀ (r : Nat) N ss, B.G[r]? = some (N, ss) → N ∈ Ns)
    {i j : Nat} (ij : i ≤ j) {M : Int} (lM : L ≤ M) (short : ∀ a b N c, i ≤ a → a ≤ b → b ≤ j → ¬ (a = i ∧ b = j) → (T a b).nm N = some c → Le2 c M) (k : Nat)
    (ih : ∀ (N : Str) (c : Cost), (T i j).nm N = some c → Ns.countP (less T i j c) + 1 ≤ k → Le2 c (4 ^ k * M)) (N : Str) (c : Cost) (hc : (T i j).nm N = some c) (z : Ns.countP (less T i j c) ≤ k) : Le2 c (4 ^ (k + 1) * M) := by
  have p1 : (1 : Int) ≤ 4 ^ k := by
    have : (0 : Int) < 4 ^ k := Int.pow_pos (by decide)
    omega
  have pW : M ≤ 4 ^ k * M := by
    have := Int.mul_le_mul_of_nonneg_right p1 (show 0 ≤ M by omega)
    omega
  have e4 : (4 : Int) ^ (k + 1) * M = 4 * (4 ^ k * M) := by
    rw [Int.pow_succ, Int.mul_comm ((4 : Int) ^ k) 4, Int.mul_assoc]
  rw [e4]
  generalize (4 : Int) ^ k * M = W at ih pW e4
  have lc := (hT i j).nm N
  rw [hc] at lc
  obtain ⟨mc, leC⟩ := lc
  cases mc with
  | known q _ => rw [kn] at q; cases q
  | mk h1 h2 h3 =>
    rename_i r ss x
    obtain ⟨x', q1, q2, q3⟩ := rest_least ok kn hT l1 hL h3 ij
    have le1 := leC _ (TreeC.mk h1 h2 q1)
    have ex : x' = x := by
      unfold cle at le1 q2
      dsimp only at le1
      exact Prod.ext (by omega) (by omega)
    subst ex
    have b := q3 W N ss h2 (by omega) fun M' a b t x1 x2 x3 x4 x5 x6 => by
      by_cases s : a = i ∧ b = j
      · obtain ⟨rfl, rfl⟩ := s
        refine ih M' t x4 ?_
        have mt : TreeC B M' a b t := by
          have := (hT a b).nm M'
          rw [x4] at this
          exact this.1
        have := countP_less (p := less T a b t) (q := less T a b (x'.1, x'.2 + 1)) (l := Ns) (fun y _ hy => by
          unfold less at *
          cases e : (T a b).nm y with
          | none => rw [e] at hy; cases hy
          | some d =>
            rw [e] at hy
            have := of_decide_eq_true hy
            refine decide_eq_true ?_
            dsimp only
            omega) (a := M') (tree_in h1 cover mt) (by
          unfold less
          rw [x4]
          refine decide_eq_true ?_
          dsimp only
          omega) (by
          unfold less
          rw [x4]
          refine decide_eq_false ?_
          omega)
        omega
      · have := short a b M' t x1 x2 x3 s x4
        unfold Le2 at *
        omega
    have len : ss.length ≤ 3 := few (N, ss) (List.mem_of_getElem? h2)
    have e3 : ((ss.length - 0 : Nat) : Int) * W ≤ 3 * W := Int.mul_le_mul_of_nonneg_right (by omega) (by omega)
    unfold Le2
    dsimp only
    omega
theorem rank_bound (ok : PbOk B) (kn : ∀ i j, B.kn i j = none) (hT : ∀ a b, LeastAt B (T a b) a b) {L : Int} (l1 : 1 ≤ L) (hL : ∀ k a b, B.leaf k a b ≤ L) (few : ∀ r ∈ B.G, r.2.length ≤ 3) {Ns : List Str} (cover : ∀ (r : Nat) N ss, B.G[r]? = some (N, ss) → N ∈ Ns)
    {i j : Nat} (ij : i ≤ j) {M : Int} (lM : L ≤ M) (short : ∀ a b N c, i ≤ a → a ≤ b → b ≤ j → ¬ (a = i ∧ b = j) → (T a b).nm N = some c → Le2 c M) : ∀ (k : Nat) (N : Str) (c : Cost), (T i j).nm N = some c → Ns.countP (less T i j c) ≤ k → Le2 c (4 ^ (k + 1) * M)
  | 0, N, c, hc, z => same_bound ok kn hT l1 hL few cover ij lM short 0 (fun _ _ _ h => by omega) N c hc z
  | k + 1, N, c, hc, z => same_bound ok kn hT l1 hL few cover ij lM short (k + 1) (fun N' c' h' z' => rank_bound ok kn hT l1 hL few cover ij lM short k N' c' h' (by omega)) N c hc z
theorem names_bound (ok : PbOk B) (kn : ∀ i j, B.kn i j = none) (hT : ∀ a b, LeastAt B (T a b) a b) {L : Int} (l1 : 1 ≤ L) (hL : ∀ k a b, B.leaf k a b ≤ L) (few : ∀ r ∈ B.G, r.2.length ≤ 3) {Ns : List Str} (cover : ∀ (r : Nat) N ss, B.G[r]? = some (N, ss) → N ∈ Ns) (n4 : Ns.length ≤ 4) :
    ∀ (n i j : Nat), i ≤ j → j - i ≤ n → ∀ N c, (T i j).nm N = some c → Le2 c (bnd L (n + 1)) := by
  have up : ∀ (n i j : Nat) N c, i ≤ j → (T i j).nm N = some c → (∀ a b N c, i ≤ a → a ≤ b → b ≤ j → ¬ (a = i ∧ b = j) → (T a b).nm N = some c → Le2 c (bnd L n)) → Le2 c (bnd L (n + 1)) := fun n i j N c ij hc short => by
    have b := rank_bound ok kn hT l1 hL few cover ij (M := bnd L n) (by have := bnd_up l1 0 n; rw [Nat.zero_add] at this; exact this) short 4 N c hc (Nat.le_trans List.countP_le_length n4)
    rw [bnd]
    exact b
  intro n
  induction n with
  | zero =>
    intro i j ij h N c hc
    exact up 0 i j N c ij hc fun a b N c h1 h2 h3 h4 _ => absurd ⟨by omega, by omega⟩ h4
  | succ n ih =>
    intro i j ij h N c hc
    refine up (n + 1) i j N c ij hc fun a b N c h1 h2 h3 h4 hc => ih a b h2 ?_ N c hc
    by_cases z : a = i
    · have : b ≠ j := fun y => h4 ⟨z, y⟩
      omega
    · omega
theorem rests_bound (ok : PbOk B) (kn : ∀ i j, B.kn i j = none) (hT : ∀ a b, LeastAt B (T a b) a b) {L : Int} (l1 : 1 ≤ L) (hL : ∀ k a b, B.leaf k a b ≤ L) (few : ∀ r ∈ B.G, r.2.length ≤ 3) {Ns : List Str} (cover : ∀ (r : Nat) N ss, B.G[r]? = some (N, ss) → N ∈ Ns) (n4 : Ns.length ≤ 4)
    (n i j : Nat) (ij : i ≤ j) (h : j - i ≤ n) (r d : Nat) (c : Cost) (hc : (T i j).rs r d = some c) : Le2 c (bnd L (n + 2)) := by
  have lc := (hT i j).rs r d
  rw [hc] at lc
  obtain ⟨mc, leC⟩ := lc
  obtain ⟨x', q1, q2, q3⟩ := rest_least ok kn hT l1 hL mc ij
  have ex := cle_anti q2 (leC _ q1)
  subst ex
  obtain ⟨N, ss, hr, _⟩ := rest_in (kn i j) mc
  have w1 := bnd_up l1 0 (n + 1)
  rw [Nat.zero_add] at w1
  have w1 : L ≤ bnd L (n + 1) := w1
  obtain ⟨b1, b2⟩ := q3 (bnd L (n + 1)) N ss hr w1 fun M a b t h1 h2 h3 h4 _ _ => names_bound ok kn hT l1 hL few cover n4 n a b h2 (by omega) M t h4
  have len : ss.length ≤ 3 := few (N, ss) (List.mem_of_getElem? hr)
  have e3 : ((ss.length - d : Nat) : Int) * bnd L (n + 1) ≤ 3 * bnd L (n + 1) := Int.mul_le_mul_of_nonneg_right (by omega) (by omega)
  unfold Le2
  rw [show bnd L (n + 2) = 1024 * bnd L (n + 1) from rfl]
  omega
end
end Lb

set_option Elab.async false
set_option linter.all false
set_option maxRecDepth 100000
set_option maxHeartbeats 4000000
/-! Lists of values that bear lists of things; cuts of lists. -/
namespace Ld
open PySem PySem.Spec PyProof.Rows L2
def Rel2 {α : Type} (R : V → α → Prop) : List V → List α → Prop
  | [], [] => True
  | v :: vs, x :: xs => R v x ∧ Rel2 R vs xs
  | _, _ => False
section
variable {α : Type} {R S : V → α → Prop}
theorem Rel2.mono (h : ∀ v x, R v x → S v x) : ∀ {vs : List V} {xs : List α}, Rel2 R vs xs → Rel2 S vs xs
  | [], [], _ => True.intro
  | _ :: _, _ :: _, q => ⟨h _ _ q.1, Rel2.mono h q.2⟩
  | [], _ :: _, q => q.elim
  | _ :: _, [], q => q.elim
theorem Rel2.len : ∀ {vs : List V} {xs : List α}, Rel2 R vs xs → vs.length = xs.length
  | [], [], _ => rfl
  | _ :: _, _ :: _, q => by rw [List.length_cons, List.length_cons, Rel2.len q.2]
  | [], _ :: _, q => q.elim
  | _ :: _, [], q => q.elim
theorem Rel2.get : ∀ {vs : List V} {xs : List α} {i : Nat} {v : V}, Rel2 R vs xs → vs[i]? = some v → ∃ x, xs[i]? = some x ∧ R v x
  | _ :: _, x :: _, 0, _, q, e => by
    cases e
    exact ⟨x, rfl, q.1⟩
  | _ :: _, _ :: _, i + 1, _, q, e => Rel2.get (i := i) q.2 e
  | [], _, _, _, _, e => by cases e
  | _ :: _, [], _, _, q, _ => q.elim
theorem Rel2.at {vs : List V} {xs : List α} {i : Nat} {x : α} (q : Rel2 R vs xs) (e : xs[i]? = some x) : ∃ v, vs[i]? = some v ∧ R v x := by
  have hi : i < vs.length := by rw [q.len]; exact (List.getElem?_eq_some_iff.mp e).1
  obtain ⟨y, e2, r⟩ := q.get (List.getElem?_eq_getElem hi)
  rw [e] at e2
  cases e2
  exact ⟨_, List.getElem?_eq_getElem hi, r⟩
theorem Rel2.app : ∀ {vs ws : List V} {xs ys : List α}, Rel2 R vs xs → Rel2 R ws ys → Rel2 R (vs ++ ws) (xs ++ ys)
  | [], _, [], _, _, r => r
  | _ :: _, _, _ :: _, _, q, r => ⟨q.1, Rel2.app q.2 r⟩
  | [], _, _ :: _, _, q, _ => q.elim
  | _ :: _, _, [], _, q, _ => q.elim
theorem Rel2.snoc {vs : List V} {xs : List α} {v : V} {x : α} (q : Rel2 R vs xs) (r : R v x) : Rel2 R (vs ++ [v]) (xs ++ [x]) := q.app ⟨r, True.intro⟩
theorem Rel2.take : ∀ {vs : List V} {xs : List α} (n : Nat), Rel2 R vs xs → Rel2 R (vs.take n) (xs.take n)
  | _, _, 0, _ => True.intro
  | [], [], _ + 1, _ => True.intro
  | _ :: _, _ :: _, n + 1, q => ⟨q.1, Rel2.take n q.2⟩
  | [], _ :: _, _ + 1, q => q.elim
  | _ :: _, [], _ + 1, q => q.elim
theorem Rel2.drop : ∀ {vs : List V} {xs : List α} (n : Nat), Rel2 R vs xs → Rel2 R (vs.drop n) (xs.drop n)
  | _, _, 0, q => q
  | [], [], _ + 1, _ => True.intro
  | _ :: _, _ :: _, n + 1, q => Rel2.drop n q.2
  | [], _ :: _, _ + 1, q => q.elim
  | _ :: _, [], _ + 1, q => q.elim
theorem Rel2.reverse : ∀ {vs : List V} {xs : List α}, Rel2 R vs xs → Rel2 R vs.reverse xs.reverse
  | [], [], _ => True.intro
  | v :: vs, x :: xs, q => by
    rw [List.reverse_cons, List.reverse_cons]
    exact (Rel2.reverse q.2).snoc q.1
  | [], _ :: _, q => q.elim
  | _ :: _, [], q => q.elim
theorem Rel2.map {β : Type} {T : V → β → Prop} {g : α → β} (h : ∀ v x, R v x → T v (g x)) : ∀ {vs : List V} {xs : List α}, Rel2 R vs xs → Rel2 T vs (xs.map g)
  | [], [], _ => True.intro
  | _ :: _, _ :: _, q => ⟨h _ _ q.1, Rel2.map h q.2⟩
  | [], _ :: _, q => q.elim
  | _ :: _, [], q => q.elim
theorem Rel2.dp {K : PySem.W.Frag} {H : Hp} {D : α → PyData} (h : ∀ v x, R v x → Dp K H v (D x)) : ∀ {vs : List V} {xs : List α}, Rel2 R vs xs → DpAll K H vs (xs.map D)
  | [], [], _ => .nil
  | _ :: _, _ :: _, q => .cons (h _ _ q.1) (Rel2.dp h q.2)
  | [], _ :: _, q => q.elim
  | _ :: _, [], q => q.elim
end
theorem cut_from {vs : List V} {n : Nat} : cutV vs (some (n : Int)) none = vs.drop n := by
  unfold cutV
  rw [HT.sIx_nat, HT.sIx_none]
  by_cases h : n ≤ vs.length
  · rw [Nat.min_eq_left h, List.take_of_length_le (by rw [List.length_drop]; exact Nat.le_refl _)]
  · have h := Nat.le_of_lt (Nat.lt_of_not_le h)
    rw [Nat.min_eq_right h, List.drop_of_length_le h, List.drop_of_length_le (Nat.le_refl _), List.take_nil]
theorem cut_to {vs : List V} {n : Nat} : cutV vs none (some (n : Int)) = vs.take n := by
  unfold cutV
  rw [HT.sIx_nat, HT.sIx_none, Nat.sub_zero, List.drop_zero]
  by_cases h : n ≤ vs.length
  · rw [Nat.min_eq_left h]
  · have h := Nat.le_of_lt (Nat.lt_of_not_le h)
    rw [Nat.min_eq_right h, List.take_of_length_le h, List.take_of_length_le (Nat.le_refl _)]
theorem cut_mid {vs : List V} {i k : Nat} (h : k ≤ vs.length) (h2 : i ≤ k) : cutV vs (some (i : Int)) (some (k : Int)) = (vs.drop i).take (k - i) := by
  unfold cutV
  rw [HT.sIx_nat, HT.sIx_nat, Nat.min_eq_left h, Nat.min_eq_left (Nat.le_trans h2 h)]
end Ld

set_option Elab.async false
set_option linter.all false
set_option maxRecDepth 100000
set_option maxHeartbeats 4000000
/-! Signs: a kind, a text, a start; pairs of a kind and a text; how far two lists are alike. -/
namespace Ld
open PySem PySem.Spec PyProof.Rows L2 Lr
structure Sg where
  k : Str
  t : Str
  n : Nat
abbrev Pa : Type := Str × Str
def Sg.pa (s : Sg) : Pa := (s.k, s.t)
def SgA (H : Hp) (v : V) (s : Sg) : Prop := ∃ a, v = .ref a ∧ H a = some (.tup [.str s.k, .str s.t, .int s.n])
def PaA (H : Hp) (v : V) (p : Pa) : Prop := ∃ a, v = .ref a ∧ H a = some (.tup [.str p.1, .str p.2])
theorem SgA.same {A B : Hp} (u : Same A B) (v : V) (s : Sg) (h : SgA A v s) : SgA B v s := let ⟨a, e, q⟩ := h; ⟨a, e, u _ _ q⟩
theorem PaA.same {A B : Hp} (u : Same A B) (v : V) (s : Pa) (h : PaA A v s) : PaA B v s := let ⟨a, e, q⟩ := h; ⟨a, e, u _ _ q⟩
/-- tuples stand -/
def TupS (A B : Hp) : Prop := ∀ b xs, A b = some (.tup xs) → B b = some (.tup xs)
theorem TupS.of_same {A B : Hp} (u : Same A B) : TupS A B := fun b xs e => u b _ e
theorem TupS.trans {A B C : Hp} (u : TupS A B) (v : TupS B C) : TupS A C := fun b xs e => v b xs (u b xs e)
theorem TupS.at_lst {A : Hp} {d : Addr} {ws : List V} {o : HO} (h : A d = some (.lst ws)) : TupS A (upd A d o) := fun b xs e => by
  have ne : b ≠ d := fun z => by rw [z, h] at e; cases e
  rw [upd_ne ne]
  exact e
theorem SgA.tupS {A B : Hp} (u : TupS A B) (v : V) (s : Sg) (h : SgA A v s) : SgA B v s := let ⟨a, e, q⟩ := h; ⟨a, e, u _ _ q⟩
theorem PaA.tupS {A B : Hp} (u : TupS A B) (v : V) (s : Pa) (h : PaA A v s) : PaA B v s := let ⟨a, e, q⟩ := h; ⟨a, e, u _ _ q⟩
/-- a list of signs, of pairs, at an address -/
def SgsA (H : Hp) (a : Addr) (xs : List Sg) : Prop := ∃ vs, H a = some (.lst vs) ∧ Rel2 (SgA H) vs xs
def PasA (H : Hp) (a : Addr) (xs : List Pa) : Prop := ∃ vs, H a = some (.lst vs) ∧ Rel2 (PaA H) vs xs
theorem SgsA.same {A B : Hp} (u : Same A B) {a : Addr} {xs : List Sg} (h : SgsA A a xs) : SgsA B a xs := let ⟨vs, e, q⟩ := h; ⟨vs, u _ _ e, q.mono (SgA.same u)⟩
theorem PasA.same {A B : Hp} (u : Same A B) {a : Addr} {xs : List Pa} (h : PasA A a xs) : PasA B a xs := let ⟨vs, e, q⟩ := h; ⟨vs, u _ _ e, q.mono (PaA.same u)⟩
def sgD (s : Sg) : PyData := .tuple [.str s.k, .str s.t, .int s.n]
def paD (p : Pa) : PyData := .tuple [.str p.1, .str p.2]
def sgsD (xs : List Sg) : PyData := .list (xs.map sgD)
def pasD (xs : List Pa) : PyData := .list (xs.map paD)
theorem SgsA.dp {K : PySem.W.Frag} {H : Hp} {a : Addr} {xs : List Sg} (h : SgsA H a xs) : Dp K H (.ref a) (sgsD xs) := by
  obtain ⟨vs, e, q⟩ := h
  refine .lst (SqL.of e) (q.dp fun v s hs => ?_)
  obtain ⟨b, rfl, hb⟩ := hs
  exact .tup (SqT.of hb) (.cons (.str _) (.cons (.str _) (.cons (.int _) .nil)))
theorem PasA.dp {K : PySem.W.Frag} {H : Hp} {a : Addr} {xs : List Pa} (h : PasA H a xs) : Dp K H (.ref a) (pasD xs) := by
  obtain ⟨vs, e, q⟩ := h
  refine .lst (SqL.of e) (q.dp fun v s hs => ?_)
  obtain ⟨b, rfl, hb⟩ := hs
  exact .tup (SqT.of hb) (.cons (.str _) (.cons (.str _) .nil))
theorem pas_eqv : ∀ xs ys : List Pa, PyData.eqvAll (xs.map paD) (ys.map paD) = decide (xs = ys)
  | [], [] => by simp [PyData.eqvAll]
  | [], _ :: _ => by simp [PyData.eqvAll]
  | _ :: _, [] => by simp [PyData.eqvAll]
  | x :: xs, y :: ys => by
    rw [List.map_cons, List.map_cons, PyData.eqvAll, pas_eqv xs ys, paD, paD, PyData.eqv, PyData.eqvAll, PyData.eqvAll, PyData.eqvAll, PyData.eqv, PyData.eqv, Bool.eq_iff_iff]
    obtain ⟨x1, x2⟩ := x
    obtain ⟨y1, y2⟩ := y
    simp
theorem paD_eqv (x y : Pa) : PyData.eqv (paD x) (paD y) = decide (x = y) := by
  obtain ⟨x1, x2⟩ := x
  obtain ⟨y1, y2⟩ := y
  rw [paD, paD, PyData.eqv, PyData.eqvAll, PyData.eqvAll, PyData.eqvAll, PyData.eqv, PyData.eqv, Bool.eq_iff_iff]
  simp
theorem pasD_eqv (xs ys : List Pa) : PyData.eqv (pasD xs) (pasD ys) = decide (xs = ys) := by
  unfold pasD
  rw [PyData.eqv]
  exact pas_eqv xs ys
/-- the texts of a pair can be laid -/
def PaOk (p : Pa) : Prop := PyData.strOk p.1 = true ∧ PyData.strOk p.2 = true
theorem paD_shaped {p : Pa} (h : PaOk p) : SeqAt.shaped (paD p) = true := shaped_mk (by simp [paD, PyData.canLay0, PyData.canLayAll0, h.1, h.2]) (by simp [paD, PyData.depth, PyData.depthAll])
theorem pas_lay : ∀ {xs : List Pa}, (∀ p ∈ xs, PaOk p) → PyData.canLayAll0 (xs.map paD) = true
  | [], _ => rfl
  | x :: xs, h => by
    rw [List.map_cons, PyData.canLayAll0, pas_lay fun p m => h p (List.mem_cons_of_mem _ m), SeqAt.canLay_of_shaped (paD_shaped (h x List.mem_cons_self))]
    rfl
theorem pas_depth : ∀ xs : List Pa, PyData.depthAll (xs.map paD) ≤ 2
  | [] => by simp [PyData.depthAll]
  | x :: xs => by
    have := pas_depth xs
    simp only [List.map_cons, PyData.depthAll, paD, PyData.depth]
    omega
theorem pasD_shaped {xs : List Pa} (h : ∀ p ∈ xs, PaOk p) : SeqAt.shaped (pasD xs) = true := shaped_mk (by unfold pasD; rw [PyData.canLay0]; exact pas_lay h) (by
  have := pas_depth xs
  simp only [pasD, PyData.depth]
  omega)
/-! ### how far two lists are alike -/
structure Lcp {α : Type} (xs ys : List α) (n : Nat) : Prop where
  l1 : n ≤ xs.length
  l2 : n ≤ ys.length
  eq : xs.take n = ys.take n
  most : ∀ m, m ≤ xs.length → m ≤ ys.length → xs.take m = ys.take m → m ≤ n
theorem Lcp.unique {α : Type} {xs ys : List α} {n m : Nat} (h : Lcp xs ys n) (k : Lcp xs ys m) : n = m := Nat.le_antisymm (k.most n h.l1 h.l2 h.eq) (h.most m k.l1 k.l2 k.eq)
theorem take_le {α : Type} {xs ys : List α} {n m : Nat} (h : xs.take n = ys.take n) (l : m ≤ n) : xs.take m = ys.take m := by
  have := congrArg (List.take m) h
  rwa [List.take_take, List.take_take, Nat.min_eq_left l] at this
theorem Lcp.mk' {α : Type} {xs ys : List α} {n : Nat} (l1 : n ≤ xs.length) (l2 : n ≤ ys.length) (eq : xs.take n = ys.take n) (no : n < xs.length → n < ys.length → xs[n]? ≠ ys[n]?) : Lcp xs ys n :=
  ⟨l1, l2, eq, fun m m1 m2 e => Nat.le_of_not_lt fun lt => no (by omega) (by omega) (by
    have h1 : (xs.take m)[n]? = xs[n]? := List.getElem?_take_of_lt lt
    have h2 : (ys.take m)[n]? = ys[n]? := List.getElem?_take_of_lt lt
    rw [← h1, ← h2, e])⟩
theorem take_more {α : Type} {xs ys : List α} {n : Nat} {x : α} (e : xs.take n = ys.take n) (h1 : xs[n]? = some x) (h2 : ys[n]? = some x) : xs.take (n + 1) = ys.take (n + 1) := by
  rw [List.take_add_one, List.take_add_one, e, h1, h2]
/-- the ends behind the first a -/
theorem rev_take {α : Type} {xs : List α} {a n : Nat} (h : n ≤ xs.length - a) : ((xs.drop a).reverse).take n = (xs.drop (xs.length - n)).reverse := by
  rw [List.take_reverse, List.length_drop, List.drop_drop]
  by_cases ha : a ≤ xs.length
  · rw [show a + (xs.length - a - n) = xs.length - n by omega]
  · rw [show n = 0 by omega, List.drop_of_length_le (by omega), List.drop_of_length_le (by omega)]
end Ld

set_option Elab.async false
set_option linter.all false
set_option maxRecDepth 100000
set_option maxHeartbeats 4000000
/-! What names derive, reach, and their least rows: no program here. -/
namespace Ld
open PySem PySem.Spec PyProof.Rows L2 TL
def N4 : List Str := ["a", "bb", "s", "list"]
def K3 : List Str := ["A", "BB", "NUMBER"]
def GoodW (r : Rule) : Prop := r.1 ∈ N4 ∧ r.2.length ≤ 6 ∧ ∀ s ∈ r.2, s ∈ N4 ∨ s ∈ K3
theorem n4_name : N4.all nameB = true := by decide +kernel
theorem k3_sym : K3.all symB = true := by decide +kernel
theorem n4_sym : N4.all symB = true := by decide +kernel
theorem k3_not : ∀ s ∈ K3, s ∉ N4 := by decide +kernel
theorem GoodW.good {r : Rule} (h : GoodW r) : GoodR r := ⟨List.all_eq_true.mp n4_name _ h.1, h.2.1, List.all_eq_true.mpr fun s hs => (h.2.2 s hs).elim (fun z => List.all_eq_true.mp n4_sym _ z) fun z => List.all_eq_true.mp k3_sym _ z⟩
/-! ### counting -/
theorem nodup_le {α : Type} [DecidableEq α] : ∀ {l m : List α}, l.Nodup → (∀ x ∈ l, x ∈ m) → l.length ≤ m.length
  | [], _, _, _ => Nat.zero_le _
  | x :: l, m, nd, h => by
    have hx := h x List.mem_cons_self
    have h2 := nodup_le (l := l) (m := m.erase x) (List.nodup_cons.mp nd).2 fun y hy => by
      have ne : y ≠ x := fun e => (List.nodup_cons.mp nd).1 (e ▸ hy)
      exact (List.mem_erase_of_ne ne).mpr (h y (List.mem_cons_of_mem _ hy))
    have h3 := List.length_erase_of_mem hx
    have h4 := List.length_pos_of_mem hx
    rw [List.length_cons]
    omega
/-- the rules whose names are in D -/
def rulesIn (G : List Rule) (D : List Str) : Nat := (G.filter fun r => decide (r.1 ∈ D)).length
theorem rulesIn_le (G : List Rule) (D : List Str) : rulesIn G D ≤ G.length := List.length_filter_le _ _
theorem rulesIn_mono {G : List Rule} {D D2 : List Str} (h : ∀ n ∈ D, n ∈ D2) : rulesIn G D ≤ rulesIn G D2 := by
  unfold rulesIn
  induction G with
  | nil => exact Nat.le_refl _
  | cons r G ih =>
    rw [List.filter_cons, List.filter_cons]
    by_cases c : r.1 ∈ D
    · rw [if_pos (decide_eq_true c), if_pos (decide_eq_true (h _ c)), List.length_cons, List.length_cons]
      omega
    · rw [if_neg (fun z => c (of_decide_eq_true z))]
      split
      · rw [List.length_cons]
        omega
      · exact ih
theorem rulesIn_lt {G : List Rule} {D D2 : List Str} (h : ∀ n ∈ D, n ∈ D2) {q : Rule} (hq : q ∈ G) (n1 : q.1 ∉ D) (n2 : q.1 ∈ D2) : rulesIn G D < rulesIn G D2 := by
  unfold rulesIn
  induction G with
  | nil => cases hq
  | cons r G ih =>
    have mono := rulesIn_mono (G := G) h
    unfold rulesIn at mono
    rw [List.filter_cons, List.filter_cons]
    rcases List.mem_cons.mp hq with e | m
    · subst e
      rw [if_neg (fun z => n1 (of_decide_eq_true z)), if_pos (decide_eq_true n2), List.length_cons]
      omega
    · have := ih m
      by_cases c : r.1 ∈ D
      · rw [if_pos (decide_eq_true c), if_pos (decide_eq_true (h _ c)), List.length_cons, List.length_cons]
        omega
      · rw [if_neg (fun z => c (of_decide_eq_true z))]
        split
        · rw [List.length_cons]
          omega
        · exact this
/-! ### what derives, what is reached -/
inductive Der (G : List Rule) : Str → Prop
  | mk {n : Str} {ss : List Str} (h : (n, ss) ∈ G) (k : ∀ s ∈ ss, s ∈ N4 → Der G s) : Der G n
def ClosedD (G : List Rule) (D : List Str) : Prop := ∀ r ∈ G, (∀ s ∈ r.2, s ∈ N4 → s ∈ D) → r.1 ∈ D
theorem der_in {G : List Rule} {D : List Str} (c : ClosedD G D) {n : Str} (h : Der G n) : n ∈ D := by
  induction h with
  | mk h k ih => exact c _ h fun s hs hn => ih s hs hn
inductive Rea (G : List Rule) (n0 : Str) : Str → Prop
  | start : Rea G n0 n0
  | step {n s : Str} {ss : List Str} (h : Rea G n0 n) (r : (n, ss) ∈ G) (m : s ∈ ss) (k : s ∈ N4) : Rea G n0 s
def ClosedR (G : List Rule) (D : List Str) : Prop := ∀ r ∈ G, r.1 ∈ D → ∀ s ∈ r.2, s ∈ N4 → s ∈ D
theorem rea_in {G : List Rule} {n0 : Str} {D : List Str} (h0 : n0 ∈ D) (c : ClosedR G D) {n : Str} (h : Rea G n0 n) : n ∈ D := by
  induction h with
  | start => exact h0
  | step h r m k ih => exact c _ r ih _ m k
/-! ### rows of kinds, by number -/
def dig (s : Str) : Nat := if s = "A" then 1 else if s = "BB" then 2 else 3
theorem dig_lo (s : Str) : 1 ≤ dig s := by
  unfold dig
  split
  · decide
  · split <;> decide
theorem dig_hi (s : Str) : dig s ≤ 3 := by
  unfold dig
  split
  · decide
  · split <;> decide
def val : List Str → Nat
  | [] => 0
  | x :: a => dig x * 4 ^ a.length + val a
theorem val_hi : ∀ a : List Str, val a < 4 ^ a.length
  | [] => by decide
  | x :: a => by
    have h1 := val_hi a
    have h2 := dig_hi x
    have h3 : dig x * 4 ^ a.length ≤ 3 * 4 ^ a.length := Nat.mul_le_mul_right _ h2
    show dig x * 4 ^ a.length + val a < 4 ^ (a.length + 1)
    rw [Nat.pow_succ]
    omega
theorem val_lo : ∀ a : List Str, 4 ^ a.length ≤ 3 * val a + 1
  | [] => by decide
  | x :: a => by
    have h1 := val_lo a
    have h2 := dig_lo x
    have h3 : 1 * 4 ^ a.length ≤ dig x * 4 ^ a.length := Nat.mul_le_mul_right _ h2
    show 4 ^ (a.length + 1) ≤ 3 * (dig x * 4 ^ a.length + val a) + 1
    rw [Nat.pow_succ]
    omega
theorem val_len {a b : List Str} (h : val a ≤ val b) : a.length ≤ b.length := by
  refine Nat.le_of_not_lt fun lt => ?_
  have h1 := val_lo a
  have h2 := val_hi b
  have h3 : 4 ^ (b.length + 1) ≤ 4 ^ a.length := Nat.pow_le_pow_right (by decide) lt
  rw [Nat.pow_succ] at h3
  omega
theorem val_app : ∀ a b : List Str, val (a ++ b) = val a * 4 ^ b.length + val b
  | [], b => by simp [val]
  | x :: a, b => by
    show dig x * 4 ^ (a ++ b).length + val (a ++ b) = (dig x * 4 ^ a.length + val a) * 4 ^ b.length + val b
    rw [val_app a b, List.length_append, Nat.pow_add, Nat.add_mul, Nat.mul_assoc]
    omega
theorem val_mono_l {a a2 : List Str} (b : List Str) (h : val a ≤ val a2) : val (a ++ b) ≤ val (a2 ++ b) := by
  rw [val_app, val_app]
  have := Nat.mul_le_mul_right (4 ^ b.length) h
  omega
theorem val_mono_r (a : List Str) {b b2 : List Str} (h : val b ≤ val b2) : val (a ++ b) ≤ val (a ++ b2) := by
  rw [val_app, val_app]
  have hl := Nat.pow_le_pow_right (show 0 < 4 by decide) (val_len h)
  have := Nat.mul_le_mul_left (val a) hl
  omega
theorem val_lt_l {a a2 : List Str} (b : List Str) (h : val a < val a2) : val (a ++ b) < val (a2 ++ b) := by
  rw [val_app, val_app]
  have h0 : 0 < 4 ^ b.length := Nat.pow_pos (by decide)
  have := Nat.mul_lt_mul_of_pos_right h h0
  omega
theorem val_lt_r (a : List Str) {b b2 : List Str} (h : val b < val b2) : val (a ++ b) < val (a ++ b2) := by
  rw [val_app, val_app]
  have hl := Nat.pow_le_pow_right (show 0 < 4 by decide) (val_len (Nat.le_of_lt h))
  have := Nat.mul_le_mul_left (val a) hl
  omega
def KR (r : List Str) : Prop := ∀ k ∈ r, k ∈ K3
theorem dig_inj : ∀ x ∈ K3, ∀ y ∈ K3, dig x = dig y → x = y := by decide +kernel
theorem dig_lt : ∀ x ∈ K3, ∀ y ∈ K3, (x.cps.toList < y.cps.toList ↔ dig x < dig y) := by decide +kernel
theorem val_head {x y : Str} {a b : List Str} (hl : a.length = b.length) : (val (x :: a) < val (y :: b) ↔ dig x < dig y ∨ (dig x = dig y ∧ val a < val b)) := by
  have h1 := val_hi a
  have h2 := val_hi b
  show dig x * 4 ^ a.length + val a < dig y * 4 ^ b.length + val b ↔ _
  rw [← hl] at h2 ⊢
  generalize 4 ^ a.length = p at h1 h2
  constructor
  · intro h
    rcases Nat.lt_trichotomy (dig x) (dig y) with c | c | c
    · exact .inl c
    · refine .inr ⟨c, ?_⟩
      rw [c] at h
      omega
    · have : (dig y + 1) * p ≤ dig x * p := Nat.mul_le_mul_right _ c
      rw [Nat.add_mul] at this
      omega
  · rintro (c | ⟨c, d⟩)
    · have : (dig x + 1) * p ≤ dig y * p := Nat.mul_le_mul_right _ c
      rw [Nat.add_mul] at this
      omega
    · rw [c]
      omega
theorem val_inj : ∀ {a b : List Str}, KR a → KR b → val a = val b → a = b
  | [], [], _, _, _ => rfl
  | [], y :: b, _, _, h => by
    have := val_len (Nat.le_of_eq h.symm)
    simp at this
  | x :: a, [], _, _, h => by
    have := val_len (Nat.le_of_eq h)
    simp at this
  | x :: a, y :: b, ka, kb, h => by
    have l1 := val_len (Nat.le_of_eq h)
    have l2 := val_len (Nat.le_of_eq h.symm)
    have hl : a.length = b.length := by
      rw [List.length_cons, List.length_cons] at l1 l2
      omega
    have n1 : ¬ val (x :: a) < val (y :: b) := by omega
    have n2 : ¬ val (y :: b) < val (x :: a) := by omega
    rw [val_head hl] at n1
    rw [val_head hl.symm] at n2
    have hd : dig x = dig y := by
      rcases Nat.lt_trichotomy (dig x) (dig y) with c | c | c
      · exact (n1 (.inl c)).elim
      · exact c
      · exact (n2 (.inl c)).elim
    have ht : val a = val b := by
      rcases Nat.lt_trichotomy (val a) (val b) with c | c | c
      · exact (n1 (.inr ⟨hd, c⟩)).elim
      · exact c
      · exact (n2 (.inr ⟨hd.symm, c⟩)).elim
    have e1 := dig_inj x (ka x List.mem_cons_self) y (kb y List.mem_cons_self) hd
    have e2 := val_inj (fun k hk => ka k (List.mem_cons_of_mem _ hk)) (fun k hk => kb k (List.mem_cons_of_mem _ hk)) ht
    rw [e1, e2]
/-! ### the order of (length, row) -/
open PySem.W in
theorem rows_alike : ∀ a b : List Str, alikeAll (a.map PyData.str) (b.map PyData.str) = true
  | [], _ => by simp [alikeAll]
  | _ :: _, [] => by simp [alikeAll]
  | x :: a, y :: b => by
    rw [List.map_cons, List.map_cons, alikeAll, rows_alike a b]
    simp [alike]
open PySem.W in
theorem rows_lt : ∀ {a b : List Str}, KR a → KR b → a.length = b.length → lexLt itemOrd (keyToksAll (a.map PyData.str)) (keyToksAll (b.map PyData.str)) = decide (val a < val b)
  | [], [], _, _, _ => by decide +kernel
  | [], _ :: _, _, _, h => by simp at h
  | _ :: _, [], _, _, h => by simp at h
  | x :: a, y :: b, ka, kb, h => by
    have hl : a.length = b.length := by simpa using h
    have kx := ka x List.mem_cons_self
    have ky := kb y List.mem_cons_self
    have al : alike (.str x) (.str y) = true := by simp [alike]
    rw [List.map_cons, List.map_cons]
    by_cases e : x = y
    · have ev : PyData.eqv (.str x) (.str y) = true := by simp [PyData.eqv, e]
      rw [dataLt_all_yes al ev, rows_lt (fun k hk => ka k (List.mem_cons_of_mem _ hk)) (fun k hk => kb k (List.mem_cons_of_mem _ hk)) hl, Bool.eq_iff_iff, decide_eq_true_eq, decide_eq_true_eq, val_head hl, e]
      constructor
      · exact fun z => .inr ⟨rfl, z⟩
      · rintro (z | z)
        · omega
        · exact z.2
    · have ev : PyData.eqv (.str x) (.str y) = false := by simp [PyData.eqv, e]
      rw [dataLt_all_no al ev, dataLt_str, Bool.eq_iff_iff, decide_eq_true_eq, decide_eq_true_eq, dig_lt x kx y ky, val_head hl]
      constructor
      · exact fun z => .inl z
      · rintro (z | z)
        · exact z
        · exact (e (dig_inj x kx y ky z.1)).elim
def pairD (a : List Str) : PyData := .tuple [.int a.length, .list (a.map PyData.str)]
open PySem.W in
theorem pair_alike (a b : List Str) : alike (pairD a) (pairD b) = true := by
  unfold pairD
  simp [alike, alikeAll, rows_alike]
open PySem.W in
theorem pair_lt {a b : List Str} (ka : KR a) (kb : KR b) : dataLt (pairD a) (pairD b) = decide (val a < val b) := by
  unfold pairD
  rw [dataLt_tuple]
  have al : alike (.int a.length) (.int b.length) = true := by simp [alike]
  by_cases e : a.length = b.length
  · have ev : PyData.eqv (.int a.length) (.int b.length) = true := by simp [PyData.eqv, e]
    have al2 : alike (.list (a.map PyData.str)) (.list (b.map PyData.str)) = true := by rw [alike]; exact rows_alike a b
    rw [dataLt_all_yes al ev]
    by_cases e2 : a = b
    · have ev2 : PyData.eqv (.list (a.map PyData.str)) (.list (b.map PyData.str)) = true := by rw [PyData.eqv, strs_eqv, e2]; simp
      rw [dataLt_all_yes al2 ev2, e2]
      have : ¬ val b < val b := by omega
      rw [decide_eq_false this]
      decide +kernel
    · have ev2 : PyData.eqv (.list (a.map PyData.str)) (.list (b.map PyData.str)) = false := by rw [PyData.eqv, strs_eqv, decide_eq_false e2]
      rw [dataLt_all_no al2 ev2, dataLt_list]
      exact rows_lt ka kb e
  · have ev : PyData.eqv (.int a.length) (.int b.length) = false := by
      rw [PyData.eqv]
      exact beq_eq_false_iff_ne.mpr fun z => e (by omega)
    rw [dataLt_all_no al ev, dataLt_int, Bool.eq_iff_iff, decide_eq_true_eq, decide_eq_true_eq]
    constructor
    · intro z
      refine Nat.lt_of_not_le fun le => ?_
      have := val_len le
      omega
    · intro z
      have := val_len (Nat.le_of_lt z)
      omega
end Ld

set_option Elab.async false
set_option linter.all false
set_option maxRecDepth 100000
set_option maxHeartbeats 4000000
/-! How long a shown grammar is. -/
namespace Ld
open PySem PySem.Spec PyProof.Rows L2
theorem textFrom_up {B : Nat} : ∀ (ts : List Str) (k : Nat) (acc : Str), (∀ t ∈ ts, t.length ≤ B) → (textFrom k acc ts).length ≤ acc.length + (B + 2) * ts.length
  | [], _, _, _ => by
    show _ ≤ _
    rw [textFrom]
    omega
  | t :: ts, k, acc, h => by
    have ih := textFrom_up ts (k + 1) (acc ++ (if k > 0 then ", " else "" : String) ++ t) fun x hx => h x (List.mem_cons_of_mem _ hx)
    have e : (acc ++ (if k > 0 then ", " else "" : String) ++ t).length ≤ acc.length + 2 + t.length := by
      rw [strLen_append, strLen_append]
      have : ((if k > 0 then ", " else "" : String) : Str).length ≤ 2 := by
        split
        · exact Nat.le_refl 2
        · exact Nat.zero_le 2
      omega
    have := h t List.mem_cons_self
    rw [textFrom, List.length_cons, Nat.mul_succ]
    omega
theorem listText_up {B : Nat} {ts : List Str} (h : ∀ t ∈ ts, t.length ≤ B) : (listText ts).length ≤ (B + 2) * ts.length + 2 := by
  unfold listText
  have := textFrom_up ts 0 "[" h
  have e1 : ((("[" : String) : Str)).length = 1 := rfl
  have e2 : ((("]" : String) : Str)).length = 1 := rfl
  rw [strLen_append]
  omega
theorem tupleText_up {x y : Str} : (tupleText [x, y]).length ≤ x.length + y.length + 6 := by
  unfold tupleText
  have := join_length_add [x, y] (by simp)
  have p : piled [x, y] = x.length + y.length + 4 := by
    simp only [piled, List.map_cons, List.map_nil, List.sum_cons, List.sum_nil]
    omega
  have e1 : ((("(" : String) : Str)).length = 1 := rfl
  have e2 : (((if ([x, y] : List Str).length == 1 then ",)" else ")" : String) : Str)).length = 1 := rfl
  rw [strLen_append, strLen_append]
  omega
theorem shownAll_map {α : Type} (f : α → PyData) : ∀ xs : List α, PyData.shownAll (xs.map f) = xs.map fun x => (f x).shown
  | [] => rfl
  | x :: xs => by
    rw [List.map_cons, PyData.shownAll, shownAll_map f xs]
    rfl
theorem showAll_map {α : Type} (f : α → PyData) (h : ∀ x, (f x).showable = true) : ∀ xs : List α, PyData.showableAll (xs.map f) = true
  | [] => rfl
  | x :: xs => by
    rw [List.map_cons, PyData.showableAll, h x, showAll_map f h xs]
    rfl
theorem str_showable (s : Str) : (PyData.str s).showable = true := rfl
theorem strs_showable (xs : List Str) : (PyData.list (xs.map PyData.str)).showable = true := by
  rw [PyData.showable]
  exact showAll_map _ str_showable xs
theorem rule_showable (r : Rule) : (ruleD r).showable = true := by
  unfold ruleD
  rw [PyData.showable, PyData.showableAll, PyData.showableAll, PyData.showableAll, strs_showable]
  rfl
theorem gD_showable (G : List Rule) : (gD G).showable = true := by
  unfold gD
  rw [PyData.showable]
  exact showAll_map _ rule_showable G
theorem pairG_showable (G : List Rule) (ks : List Str) : (PyData.tuple [gD G, .list (ks.map PyData.str)]).showable = true := by
  rw [PyData.showable, PyData.showableAll, PyData.showableAll, PyData.showableAll, gD_showable, strs_showable]
  rfl
theorem wordB_le {z lo hi : Str} (h : wordB z lo hi = true) : z.length ≤ 12 := by
  unfold wordB at h
  rw [Bool.and_eq_true, Bool.and_eq_true] at h
  have := of_decide_eq_true h.2.1
  omega
theorem sym_le {z : Str} (h : symB z = true) : z.length ≤ 12 := by
  unfold symB at h
  rcases Bool.or_eq_true _ _ |>.mp h with k | k
  · unfold kindB at k
    rw [Bool.and_eq_true] at k
    exact wordB_le k.1
  · exact wordB_le k
theorem sym_shown {z : Str} (h : symB z = true) : (PyData.str z).shown.length ≤ 122 := by
  rw [PyData.shown]
  have h1 := StrLaws.reprText_len z fun c hc => by
    have := sym_codes h c hc
    have e : (16 : Nat) ^ 8 = 4294967296 := by decide
    omega
  have := sym_le h
  omega
theorem syms_shown {ss : List Str} (h : ∀ s ∈ ss, symB s = true) (l : ss.length ≤ 10) : (PyData.list (ss.map PyData.str)).shown.length ≤ 1242 := by
  rw [PyData.shown, shownAll_map]
  have h1 := listText_up (B := 122) (ts := ss.map fun x => (PyData.str x).shown) fun t ht => by
    obtain ⟨s, hs, rfl⟩ := List.mem_map.mp ht
    exact sym_shown (h s hs)
  rw [List.length_map] at h1
  have : (122 + 2) * ss.length ≤ (122 + 2) * 10 := Nat.mul_le_mul_left _ l
  omega
theorem rule_shown {r : Rule} (g : GoodR r) : (ruleD r).shown.length ≤ 1370 := by
  unfold ruleD
  rw [PyData.shown, PyData.shownAll, PyData.shownAll, PyData.shownAll]
  have h1 := tupleText_up (x := (PyData.str r.1).shown) (y := (PyData.list (r.2.map PyData.str)).shown)
  have h2 := sym_shown (z := r.1) (by unfold symB; rw [g.1, Bool.or_true])
  have h3 := syms_shown (List.all_eq_true.mp g.2.2) (Nat.le_trans g.2.1 (by decide))
  omega
theorem gD_shown {G : List Rule} (g : ∀ r ∈ G, GoodR r) (l : G.length ≤ 12) : (gD G).shown.length ≤ 16466 := by
  unfold gD
  rw [PyData.shown, shownAll_map]
  have h1 := listText_up (B := 1370) (ts := G.map fun x => (ruleD x).shown) fun t ht => by
    obtain ⟨s, hs, rfl⟩ := List.mem_map.mp ht
    exact rule_shown (g s hs)
  rw [List.length_map] at h1
  have : (1370 + 2) * G.length ≤ (1370 + 2) * 12 := Nat.mul_le_mul_left _ l
  omega
def inD (G : List Rule) (ks : List Str) : PyData := .tuple [gD G, .list (ks.map PyData.str)]
theorem inD_showable (G : List Rule) (ks : List Str) : (inD G ks).showable = true := pairG_showable G ks
theorem inD_shown {G : List Rule} {ks : List Str} (g : ∀ r ∈ G, GoodR r) (l : G.length ≤ 12) (h : ∀ s ∈ ks, symB s = true) (l2 : ks.length ≤ 10) : (inD G ks).shown.length ≤ sizeLine := by
  unfold inD
  rw [PyData.shown, PyData.shownAll, PyData.shownAll, PyData.shownAll]
  have h1 := tupleText_up (x := (gD G).shown) (y := (PyData.list (ks.map PyData.str)).shown)
  have h2 := gD_shown g l
  have h3 := syms_shown h l2
  rw [sizeLine_eq]
  omega
theorem inD_shaped {G : List Rule} {ks : List Str} (g : ∀ r ∈ G, GoodR r) (h : ∀ s ∈ ks, symB s = true) : SeqAt.shaped (inD G ks) = true := by
  have h1 : (gD G).canLay0 = true := SeqAt.canLay_of_shaped (gD_shaped g)
  have h2 := strs_lay (ss := ks) fun s hs => strOk_sym (h s hs)
  refine shaped_mk ?_ ?_
  · simp [inD, PyData.canLay0, PyData.canLayAll0, h1, h2]
  · have h3 := rules_depth G
    have h4 := strs_depth ks
    simp only [inD, gD, PyData.depth, PyData.depthAll]
    omega
theorem faultD_shaped (o : Option (Str × Nat)) (h : ∀ s k, o = some (s, k) → PyData.strOk s = true) : SeqAt.shaped (match o with | none => PyData.none | some (s, k) => .tuple [.str s, .int k]) = true := by
  cases o with
  | none => exact shaped_mk rfl (by simp [PyData.depth])
  | some p =>
    obtain ⟨s, k⟩ := p
    refine shaped_mk ?_ (by simp [PyData.depth, PyData.depthAll])
    simp [PyData.canLay0, PyData.canLayAll0, h s k rfl]
end Ld

set_option Elab.async false
set_option linter.all false
set_option maxRecDepth 100000
set_option maxHeartbeats 4000000
/-! What stays where some dicts change; grammars, prices and rows as data. -/
namespace Ld
open PySem PySem.Spec PyProof.Rows L2 Lr Lb
/-- all but S stays; at S there were dicts -/
structure ButS (S : Addr → Prop) (A B : Hp) : Prop where
  keep : ∀ b o, ¬ S b → A b = some o → B b = some o
theorem ButS.of_same {S : Addr → Prop} {A B : Hp} (h : Same A B) : ButS S A B := ⟨fun b o _ e => h b o e⟩
theorem ButS.trans {S : Addr → Prop} {A B C : Hp} (h : ButS S A B) (k : ButS S B C) : ButS S A C := ⟨fun b o n e => k.keep b o n (h.keep b o n e)⟩
theorem ButS.upd {S : Addr → Prop} {A B : Hp} {d : Addr} {o : HO} (h : ButS S A B) (hd : S d) : ButS S A (L2.upd B d o) := ⟨fun b x n e => by
  rw [upd_ne (fun z => n (by rw [z]; exact hd))]
  exact h.keep b x n e⟩
theorem ButS.same {S : Addr → Prop} {A B : Hp} (h : ButS S A B) {C : Hp} (s : Same C A) (n : ∀ b, S b → C b = none) : Same C B := fun b o e => h.keep b o (fun z => by rw [n b z] at e; cases e) (s b o e)
section
variable {S : Addr → Prop} {A B : Hp}
theorem CostV.butS (h : ButS S A B) (dic : ∀ b, S b → ∃ kvs, A b = some (.dT kvs)) {v : V} : ∀ {o : Option Cost}, CostV A v o → CostV B v o
  | none, q => q
  | some _, ⟨t, e, q⟩ => ⟨t, e, h.keep t _ (fun z => by obtain ⟨k, e2⟩ := dic t z; rw [q] at e2; cases e2) q⟩
theorem EntK.butS (h : ButS S A B) (dic : ∀ b, S b → ∃ kvs, A b = some (.dT kvs)) {G : List Rule} {kvs : List (List Key × V)} {e : Ent} (q : EntK A G kvs e) : EntK B G kvs e := by
  refine ⟨fun N z => ?_, fun r d N ss h1 h2 => ?_, q.ks, q.nd⟩
  · obtain ⟨v, e1, c⟩ := q.nm N z
    exact ⟨v, e1, c.butS h dic⟩
  · obtain ⟨v, e1, c⟩ := q.rs r d N ss h1 h2
    exact ⟨v, e1, c.butS h dic⟩
theorem TabK.butS (h : ButS S A B) (dic : ∀ b, S b → ∃ kvs, A b = some (.dT kvs)) {G : List Rule} {n : Nat} {F : List (List Key × V)} {T : Nat → Nat → Ent} (q : TabK A G n F T) (out : ∀ p ∈ F, ∀ d, p.2 = .ref d → ¬ S d) : TabK B G n F T := by
  refine ⟨fun i j h1 h2 => ?_, q.ks, q.nd, q.apart⟩
  obtain ⟨d, kvs, e1, e2, e3⟩ := q.at_ i j h1 h2
  exact ⟨d, kvs, e1, h.keep d _ (out _ (valV_from e1) d rfl) e2, e3.butS h dic⟩
end
theorem TabK.congr {H : Hp} {G : List Rule} {n : Nat} {F : List (List Key × V)} {T T2 : Nat → Nat → Ent} (h : TabK H G n F T) (e : ∀ i j, i ≤ j → j ≤ n → T i j = T2 i j) : TabK H G n F T2 :=
  ⟨fun i j h1 h2 => by rw [← e i j h1 h2]; exact h.at_ i j h1 h2, h.ks, h.nd, h.apart⟩
/-- each value is None or a pair of numbers -/
def VOk (H : Hp) (kvs : List (List Key × V)) : Prop := ∀ p ∈ kvs, ∃ o, CostV H p.2 o
theorem EntK.vok {H : Hp} {G : List Rule} {kvs : List (List Key × V)} {e : Ent} (h : EntK H G kvs e) : VOk H kvs := fun p hp => by
  have v := valV_at2 h.nd hp
  rcases h.ks p hp with ⟨N, hN, e1⟩ | ⟨r, d, N, ss, h1, h2, e1⟩
  · obtain ⟨u, e2, c⟩ := h.nm N hN
    rw [e1, e2] at v
    exact ⟨_, by rw [← Option.some.inj v]; exact c⟩
  · obtain ⟨u, e2, c⟩ := h.rs r d N ss h1 h2
    rw [e1, e2] at v
    exact ⟨_, by rw [← Option.some.inj v]; exact c⟩
theorem TabK.vals {H : Hp} {G : List Rule} (gt : GraT G) {n : Nat} {F : List (List Key × V)} {T : Nat → Nat → Ent} (h : TabK H G n F T) : ∀ p ∈ F, ∃ d kvs, p.2 = .ref d ∧ H d = some (.dT kvs) ∧ VOk H kvs ∧ kvs.length ≤ 1320 := fun p hp => by
  have v := valV_at2 h.nd hp
  obtain ⟨i, j, h1, h2, e⟩ := h.ks p hp
  obtain ⟨d, kvs, e1, e2, e3⟩ := h.at_ i j h1 h2
  rw [e, e1] at v
  exact ⟨d, kvs, (Option.some.inj v).symm, e2, e3.vok, e3.few gt⟩
theorem VOk.butS {S : Addr → Prop} {A B : Hp} (h : ButS S A B) (dic : ∀ b, S b → ∃ kvs, A b = some (.dT kvs)) {kvs : List (List Key × V)} (q : VOk A kvs) : VOk B kvs := fun p hp => let ⟨o, c⟩ := q p hp; ⟨o, c.butS h dic⟩
/-! ### as data -/
def inT (G : List Rule) (Z : Prc) (row : List Str) : PyData := .tuple [gD G, prD Z, .list (row.map PyData.str)]
theorem inT_show {G : List Rule} {Z : Prc} (ok : PrcOk Z) (row : List Str) : (inT G Z row).showable = true := by
  unfold inT
  rw [PyData.showable, PyData.showableAll, PyData.showableAll, PyData.showableAll, PyData.showableAll, gD_showable, prD_show ok, strs_showable]
  rfl
theorem inT_dict (G : List Rule) (Z : Prc) (row : List Str) : (inT G Z row).hasDict = true := by
  simp [inT, prD, PyData.hasDict, PyData.hasDictAll]
theorem keys_depth : ∀ k : List Key, PyData.depthAll (k.map keyD) ≤ 1
  | [] => by simp [PyData.depthAll]
  | .inl _ :: k => by
    have := keys_depth k
    simp only [List.map_cons, keyD, PyData.depthAll, PyData.depth]
    omega
  | .inr _ :: k => by
    have := keys_depth k
    simp only [List.map_cons, keyD, PyData.depthAll, PyData.depth]
    omega
theorem ex_depth : ∀ kvs : List (List Key × V), PyData.depthKv (exD kvs) ≤ 3
  | [] => by simp [exD, PyData.depthKv]
  | (k, v) :: kvs => by
    have h1 := keys_depth k
    have h2 := ex_depth kvs
    have h3 : (vD v).depth ≤ 1 := by cases v <;> simp [vD, PyData.depth]
    show PyData.depthKv ((.tuple (k.map keyD), vD v) :: exD kvs) ≤ 3
    simp only [PyData.depthKv, PyData.depth]
    omega
theorem inT_depth (G : List Rule) (Z : Prc) (row : List Str) : (inT G Z row).depth ≤ 60 := by
  have h1 := rules_depth G
  have h2 := strs_depth row
  have h3 := ex_depth Z.ex
  simp only [inT, gD, prD, PyData.depth, PyData.depthAll]
  omega
theorem row_shown {row : List Str} (h : ∀ k ∈ row, k ∈ P4) (l : row.length ≤ 60) : (PyData.list (row.map PyData.str)).shown.length ≤ 2000 := by
  have one : ∀ k ∈ P4, (PyData.str k).shown.length ≤ 20 := by decide +kernel
  rw [PyData.shown, shownAll_map]
  have h1 := listText_up (B := 20) (ts := row.map fun x => (PyData.str x).shown) fun t ht => by
    obtain ⟨s, hs, rfl⟩ := List.mem_map.mp ht
    exact one s (h s hs)
  rw [List.length_map] at h1
  have : (20 + 2) * row.length ≤ (20 + 2) * 60 := Nat.mul_le_mul_left _ l
  omega
theorem inT_shown {G : List Rule} {Z : Prc} {row : List Str} (g : ∀ r ∈ G, GoodR r) (l : G.length ≤ 12) (ok : PrcOk Z) (h : ∀ k ∈ row, k ∈ P4) (l2 : row.length ≤ 60) : (inT G Z row).shown.length ≤ sizeLine := by
  unfold inT
  rw [PyData.shown, PyData.shownAll, PyData.shownAll, PyData.shownAll, PyData.shownAll]
  have h1 := tupleText_piled [(gD G).shown, (prD Z).shown, (PyData.list (row.map PyData.str)).shown]
  rw [piled_cons, piled_cons, piled_cons, piled_nil] at h1
  have h2 := gD_shown g l
  have h3 := shown_wt (prD Z)
  have h4 := prD_wt ok
  have h5 := row_shown h l2
  rw [sizeLine_eq]
  omega
theorem inT_dq {K : PySem.W.Frag} {H : Hp} {t g pr r : Addr} {G : List Rule} {Z : Prc} {row : List Str} (h : SqT K H t [.ref g, .ref pr, .ref r]) (hg : GraA H g G) (hp : PrA H pr Z) (ok : PrcOk Z) (hr : H r = some (.lst (row.map V.str))) : Dq K H (.ref t) (inT G Z row) :=
  .tup h (.cons (.dp hg.dp) (.cons (hp.dq ok) (.cons (.dp (.lst (SqL.of hr) (dp_strs _))) .nil)))
end Ld

set_option Elab.async false
set_option linter.all false
set_option maxRecDepth 100000
set_option maxHeartbeats 4000000
/-! Tables as data. -/
namespace Ld
open PySem PySem.Spec PyProof.Rows L2 Lr Lb
/-- shown in w signs at the most, of nesting k at the most -/
structure Fine (d : PyData) (w k : Nat) : Prop where
  sh : d.showable = true
  wt : wt d ≤ w
  dp : d.depth ≤ k
theorem dqT_all {K : PySem.W.Frag} {H : Hp} {R : PyData → Prop} : ∀ {F : List (List Key × V)}, (∀ p ∈ F, ∃ d, (∀ H2, Same H H2 → Dq K H2 p.2 d) ∧ R d) →
    ∃ ds : List (PyData × PyData), (∀ H2, Same H H2 → DqT K H2 F ds) ∧ ds.length = F.length ∧ ∀ x ∈ ds, ∃ p ∈ F, x.1 = .tuple (p.1.map keyD) ∧ R x.2
  | [], _ => ⟨[], fun _ _ => .nil, rfl, fun _ m => nomatch m⟩
  | (k, v) :: F, h => by
    obtain ⟨ds, h1, h2, h3⟩ := dqT_all (F := F) fun p hp => h p (List.mem_cons_of_mem _ hp)
    obtain ⟨d, e1, e2⟩ := h (k, v) List.mem_cons_self
    refine ⟨(.tuple (k.map keyD), d) :: ds, fun H2 s => .cons (e1 H2 s) (h1 H2 s), by rw [List.length_cons, List.length_cons, h2], fun x hx => ?_⟩
    rcases List.mem_cons.mp hx with rfl | m
    · exact ⟨(k, v), List.mem_cons_self, rfl, e2⟩
    · obtain ⟨p, hp, e3, e4⟩ := h3 x m
      exact ⟨p, List.mem_cons_of_mem _ hp, e3, e4⟩
theorem kv_show : ∀ {ds : List (PyData × PyData)}, (∀ x ∈ ds, x.1.showable = true ∧ x.2.showable = true) → PyData.showableKv ds = true
  | [], _ => rfl
  | (a, b) :: ds, h => by
    obtain ⟨h1, h2⟩ := h (a, b) List.mem_cons_self
    rw [PyData.showableKv, h1, h2, kv_show fun x m => h x (List.mem_cons_of_mem _ m)]
    rfl
theorem kv_depth {k : Nat} : ∀ {ds : List (PyData × PyData)}, (∀ x ∈ ds, x.1.depth ≤ k ∧ x.2.depth ≤ k) → PyData.depthKv ds ≤ k + 1
  | [], _ => by simp [PyData.depthKv]
  | (a, b) :: ds, h => by
    obtain ⟨h1, h2⟩ := h (a, b) List.mem_cons_self
    have := kv_depth fun x m => h x (List.mem_cons_of_mem _ m)
    dsimp only at h1 h2
    simp only [PyData.depthKv]
    omega
theorem dict_fine {ds : List (PyData × PyData)} {u v k n : Nat} (h : ∀ x ∈ ds, Fine x.1 u k ∧ Fine x.2 v k) (l : ds.length ≤ n) : Fine (.dict ds) ((u + v + 4) * n + 4) (k + 2) := by
  refine ⟨?_, ?_, ?_⟩
  · rw [PyData.showable]
    exact kv_show fun x m => ⟨(h x m).1.sh, (h x m).2.sh⟩
  · rw [wt]
    have := wtKv_up (B := u + v) (ds := ds) fun x m => by
      have := (h x m).1.wt
      have := (h x m).2.wt
      omega
    have : (u + v + 4) * ds.length ≤ (u + v + 4) * n := Nat.mul_le_mul_left _ l
    omega
  · have := kv_depth (k := k) fun x m => ⟨(h x m).1.dp, (h x m).2.dp⟩
    rw [PyData.depth]
    omega
theorem int_fine {i : Int} (h0 : 0 ≤ i) (h1 : i < 10 ^ 26) : Fine (.int i) 26 1 := by
  refine ⟨?_, ?_, by simp [PyData.depth]⟩
  · rw [PyData.showable]
    have a : i.natAbs ≤ 10 ^ 26 := by omega
    refine decide_eq_true ?_
    have : i.natAbs.log2 ≤ (10 ^ 26 : Nat).log2 := by
      rcases Nat.eq_zero_or_pos i.natAbs with z | z
      · rw [z]
        exact Nat.zero_le _
      · exact (Nat.le_log2 (by decide)).mpr (Nat.le_trans (Nat.log2_self_le (Nat.ne_of_gt z)) a)
    have e : (10 ^ 26 : Nat).log2 ≤ 100 := by decide +kernel
    omega
  · rw [wt]
    exact toString_length_le h0 (by decide) h1
theorem cost_fine {o : Option Cost} (h : ∀ c, o = some c → 0 ≤ c.1 ∧ c.1 < 10 ^ 26 ∧ 0 ≤ c.2 ∧ c.2 < 10 ^ 26) : Fine (oD o) 60 3 := by
  cases o with
  | none => exact ⟨rfl, by show 4 ≤ 60; decide, by show PyData.depth .none ≤ 3; simp [PyData.depth]⟩
  | some c =>
    obtain ⟨a, b, c', d⟩ := h c rfl
    have f1 := int_fine a b
    have f2 := int_fine c' d
    refine ⟨?_, ?_, ?_⟩
    · show (cD c).showable = true
      unfold cD
      rw [PyData.showable, PyData.showableAll, PyData.showableAll, PyData.showableAll, f1.sh, f2.sh]
      rfl
    · show wt (cD c) ≤ 60
      have e : wt (cD c) = wt (.int c.1) + 2 + (wt (.int c.2) + 2 + 0) + 4 := by
        unfold cD
        simp only [wt, wtAll]
      have := f1.wt
      have := f2.wt
      omega
    · show (cD c).depth ≤ 3
      have := f1.dp
      have := f2.dp
      unfold cD
      simp only [PyData.depth, PyData.depthAll] at *
      omega
theorem key_depth (k : List Key) : (PyData.tuple (k.map keyD)).depth ≤ 3 := by
  have := keys_depth k
  simp only [PyData.depth]
  omega
theorem kN_fine {N : Str} (h : N ∈ N4t) : Fine (.tuple ((kN N).map keyD)) 60 3 := by
  have c : ∀ N ∈ N4t, wt (.tuple ((kN N).map keyD)) ≤ 60 := by decide +kernel
  exact ⟨rfl, c N h, key_depth _⟩
theorem kR_fine {r d : Nat} (h1 : r ≤ 60) (h2 : d ≤ 60) : Fine (.tuple ((kR r d).map keyD)) 80 3 := by
  have f1 := int_fine (i := (r : Int)) (by omega) (by omega)
  have f2 := int_fine (i := (d : Int)) (by omega) (by omega)
  refine ⟨?_, ?_, key_depth _⟩
  · show (PyData.tuple [.str "rest", .int r, .int d]).showable = true
    rw [PyData.showable, PyData.showableAll, PyData.showableAll, PyData.showableAll, PyData.showableAll, f1.sh, f2.sh]
    rfl
  · show wt (PyData.tuple [.str "rest", .int r, .int d]) ≤ 80
    have e : wt (PyData.tuple [.str "rest", .int r, .int d]) = wt (.str "rest") + 2 + (wt (.int r) + 2 + (wt (.int d) + 2 + 0)) + 4 := by simp only [wt, wtAll]
    have := f1.wt
    have := f2.wt
    have : wt (.str "rest") ≤ 6 := by decide +kernel
    omega
theorem kS_fine {i j : Nat} (h1 : i ≤ 60) (h2 : j ≤ 60) : Fine (.tuple ((kS i j).map keyD)) 80 6 := by
  have f1 := int_fine (i := (i : Int)) (by omega) (by omega)
  have f2 := int_fine (i := (j : Int)) (by omega) (by omega)
  refine ⟨?_, ?_, by have := key_depth (kS i j); omega⟩
  · show (PyData.tuple [.int i, .int j]).showable = true
    rw [PyData.showable, PyData.showableAll, PyData.showableAll, PyData.showableAll, f1.sh, f2.sh]
    rfl
  · show wt (PyData.tuple [.int i, .int j]) ≤ 80
    have e : wt (PyData.tuple [.int i, .int j]) = wt (.int i) + 2 + (wt (.int j) + 2 + 0) + 4 := by simp only [wt, wtAll]
    have := f1.wt
    have := f2.wt
    omega
/-- costs of an entry are not large -/
def SmallE (e : Ent) : Prop := (∀ N c, e.nm N = some c → 0 ≤ c.1 ∧ c.1 < 10 ^ 26 ∧ 0 ≤ c.2 ∧ c.2 < 10 ^ 26) ∧ ∀ r d c, e.rs r d = some c → 0 ≤ c.1 ∧ c.1 < 10 ^ 26 ∧ 0 ≤ c.2 ∧ c.2 < 10 ^ 26
/-- the entries of a stretch as data -/
theorem EntK.data {K : PySem.W.Frag} {H : Hp} {G : List Rule} (gt : GramT G) {kvs : List (List Key × V)} {e : Ent} (h : EntK H G kvs e) (sm : SmallE e) {d : Addr} (hd : H d = some (.dT kvs)) :
    ∃ D, (∀ H2, Same H H2 → Dq K H2 (.ref d) D) ∧ Fine D 200000 5 := by
  have one : ∀ p ∈ kvs, ∃ x, (∀ H2, Same H H2 → Dq K H2 p.2 x) ∧ Fine x 60 3 := fun p hp => by
    have v := valV_at2 h.nd hp
    rcases h.ks p hp with ⟨N, hN, e1⟩ | ⟨r, d, N, ss, h1, h2, e1⟩
    · obtain ⟨u, e2, c⟩ := h.nm N hN
      rw [e1, e2] at v
      cases v
      exact ⟨oD (e.nm N), fun H2 s => .dp (c.up (Up.of_same s)).oD, cost_fine fun c hc => sm.1 N c hc⟩
    · obtain ⟨u, e2, c⟩ := h.rs r d N ss h1 h2
      rw [e1, e2] at v
      cases v
      exact ⟨oD (e.rs r d), fun H2 s => .dp (c.up (Up.of_same s)).oD, cost_fine fun c hc => sm.2 r d c hc⟩
  obtain ⟨ds, h1, h2, h3⟩ := dqT_all one
  have few := h.few gt.walk
  have f := dict_fine (ds := ds) (u := 80) (v := 60) (k := 3) (n := 1320) (fun x hx => by
    obtain ⟨p, hp, e1, e2⟩ := h3 x hx
    refine ⟨?_, e2⟩
    rw [e1]
    rcases h.ks p hp with ⟨N, ⟨q, hq, eq⟩, e1⟩ | ⟨r, d, N, ss, h1, h2, e1⟩
    · rw [e1]
      have f := kN_fine (N := N) (by rw [← eq]; exact (gt.good q hq).1)
      exact ⟨f.sh, by have := f.wt; omega, f.dp⟩
    · rw [e1]
      have g := gt.good _ (List.mem_of_getElem? h1)
      have rl := (List.getElem?_eq_some_iff.mp h1).1
      have := gt.few
      exact kR_fine (by omega) (by have := g.2.1; dsimp only at this; omega)) (by omega)
  exact ⟨.dict ds, fun H2 s => .dT (s _ _ hd) (h1 H2 s), f.sh, by have := f.wt; omega, f.dp⟩
theorem table_small {G : List Rule} (gt : GramT G) {Z : Prc} (ok : PrcOk Z) {row : List Str} (len : row.length ≤ 5) {i j : Nat} (ij : i ≤ j) (jn : j ≤ row.length) {e : Ent} (h : LeastAt (pbOf G Z row kn0) e i j) : SmallE e := by
  have pok : PbOk (pbOf G Z row kn0) := pbOf_ok ok fun _ _ _ h => by cases h
  obtain ⟨T, hT⟩ := tab_ex pok
  have hL : ∀ k a b, (pbOf G Z row kn0).leaf k a b ≤ 6000 := fun k a b => by
    have := (leafP_in ok row k a b).2
    show leafP Z row k a b ≤ 6000
    have : (1000 : Int) * (row.length + 1) ≤ 1000 * 6 := Int.mul_le_mul_of_nonneg_left (by omega) (by decide)
    omega
  have few : ∀ r ∈ (pbOf G Z row kn0).G, r.2.length ≤ 3 := fun r hr => (gt.good r hr).2.1
  have cover : ∀ (r : Nat) N ss, (pbOf G Z row kn0).G[r]? = some (N, ss) → N ∈ N4t := fun r N ss h => (gt.good _ (List.mem_of_getElem? h)).1
  have ee : e = T i j := ent_agree h (hT i j)
  have b7 : bnd 6000 7 < 10 ^ 26 := by decide +kernel
  have b6 : bnd 6000 6 ≤ bnd 6000 7 := bnd_up (by decide) 6 1
  subst ee
  refine ⟨fun N c hc => ?_, fun r d c hc => ?_⟩
  · have p := TreeC.pos pok ((hT i j).sound.nm N c hc)
    have b := names_bound pok (fun _ _ => rfl) hT (L := 6000) (by decide) hL few cover (by decide) 5 i j ij (by omega) N c hc
    have b : c.1 ≤ bnd 6000 6 ∧ c.2 ≤ bnd 6000 6 := b
    omega
  · have p := RestC.pos pok ((hT i j).sound.rs r d c hc)
    have b := rests_bound pok (fun _ _ => rfl) hT (L := 6000) (by decide) hL few cover (by decide) 5 i j ij (by omega) r d c hc
    have b : c.1 ≤ bnd 6000 7 ∧ c.2 ≤ bnd 6000 7 := b
    omega
theorem tab_len {H : Hp} {G : List Rule} {n : Nat} {F : List (List Key × V)} {T : Nat → Nat → Ent} (h : TabK H G n F T) (n5 : n ≤ 5) : F.length ≤ 36 := by
  have := nodup_le2 (m := (List.range 6).flatMap fun i => (List.range 6).map fun j => kS i j) h.nd fun x hx => by
    obtain ⟨p, hp, rfl⟩ := List.mem_map.mp hx
    obtain ⟨i, j, h1, h2, e⟩ := h.ks p hp
    rw [e]
    exact List.mem_flatMap.mpr ⟨i, List.mem_range.mpr (by omega), List.mem_map.mpr ⟨j, List.mem_range.mpr (by omega), rfl⟩⟩
  rw [List.length_map] at this
  exact Nat.le_trans this (by decide)
/-- a dict of entries of such stretches as data -/
theorem tab_data {K : PySem.W.Frag} {H : Hp} {G : List Rule} (gt : GramT G) {F : List (List Key × V)} (few : F.length ≤ 36) (h : ∀ p ∈ F, ∃ (i j : Nat) (d : Addr) (kvs : List (List Key × V)) (e : Ent), p = (kS i j, V.ref d) ∧ i ≤ 60 ∧ j ≤ 60 ∧ H d = some (.dT kvs) ∧ EntK H G kvs e ∧ SmallE e) {f : Addr} (hf : H f = some (.dT F)) :
    ∃ D, (∀ H2, Same H H2 → Dq K H2 (.ref f) D) ∧ D.hasDict = true ∧ Fine D 8000000 8 := by
  obtain ⟨ds, h1, h2, h3⟩ := dqT_all (K := K) (H := H) (R := fun D => Fine D 200000 5) (F := F) fun p hp => by
    obtain ⟨i, j, d, kvs, e, rfl, _, _, hd, ek, sm⟩ := h p hp
    exact ek.data gt sm hd
  have f := dict_fine (ds := ds) (u := 80) (v := 200000) (k := 6) (n := 36) (fun x hx => by
    obtain ⟨p, hp, e1, e2⟩ := h3 x hx
    refine ⟨?_, e2.sh, e2.wt, by have := e2.dp; omega⟩
    rw [e1]
    obtain ⟨i, j, d, kvs, e, rfl, i6, j6, _⟩ := h p hp
    exact kS_fine i6 j6) (by omega)
  exact ⟨.dict ds, fun H2 s => .dT (s _ _ hf) (h1 H2 s), rfl, f.sh, by have := f.wt; omega, f.dp⟩
end Ld

set_option Elab.async false
set_option linter.all false
set_option maxRecDepth 100000
set_option maxHeartbeats 4000000
namespace Ld
open PySem PySem.Spec PyProof.Rows L2 Lg Lr Lb
inductive Tr where
  | leaf (k : Str) (i j : Int)
  | tree (N : Str) (r i j : Int) (ps : List Tr)
namespace Tr
def sym : Tr → Str
  | leaf k _ _ => k
  | tree N _ _ _ _ => N
def lo : Tr → Int
  | leaf _ i _ => i
  | tree _ _ i _ _ => i
def hi : Tr → Int
  | leaf _ _ j => j
  | tree _ _ _ j _ => j
def word : Tr → Str
  | leaf _ _ _ => "leaf"
  | tree _ _ _ _ _ => "tree"
def isT : Tr → Bool
  | leaf _ _ _ => false
  | tree _ _ _ _ _ => true
mutual
/-- itself and all within, each ahead of its parts -/
def nodes : Tr → List Tr
  | leaf k i j => [leaf k i j]
  | tree N r i j ps => tree N r i j ps :: nodesL ps
def nodesL : List Tr → List Tr
  | [] => []
  | t :: ts => nodes t ++ nodesL ts
end
mutual
def count : Tr → Nat
  | leaf _ _ _ => 1
  | tree _ _ _ _ ps => 1 + countL ps
def countL : List Tr → Nat
  | [] => 0
  | t :: ts => count t + countL ts
end
theorem count_pos : ∀ t : Tr, 1 ≤ t.count
  | leaf _ _ _ => by simp [count]
  | tree _ _ _ _ _ => by simp [count]
theorem nodesL_app : ∀ a b : List Tr, nodesL (a ++ b) = nodesL a ++ nodesL b
  | [], b => by simp [nodesL]
  | t :: ts, b => by simp [nodesL, nodesL_app ts b]
theorem countL_app : ∀ a b : List Tr, countL (a ++ b) = countL a + countL b
  | [], b => by simp [countL]
  | t :: ts, b => by
    simp only [List.cons_append, countL, countL_app ts b]
    omega
mutual
theorem nodes_len : ∀ t : Tr, (nodes t).length = count t
  | leaf _ _ _ => by simp [nodes, count]
  | tree _ _ _ _ ps => by
    have := nodesL_len ps
    simp only [nodes, count, List.length_cons]
    omega
theorem nodesL_len : ∀ ts : List Tr, (nodesL ts).length = countL ts
  | [] => by simp [nodesL, countL]
  | t :: ts => by
    have := nodes_len t
    have := nodesL_len ts
    simp only [nodesL, countL, List.length_append]
    omega
end
end Tr
open Tr
/-- the list of parts follows each other from a to b -/
def follows (a b : Int) (ps : List Tr) : Bool := decide (a :: ps.map Tr.hi = ps.map Tr.lo ++ [b])
/-! ### in the heap -/
mutual
def TrA (H : Hp) : Tr → V → Prop
  | .leaf k i j, v => ∃ a, v = .ref a ∧ H a = some (.tup [.str "leaf", .str k, .int i, .int j])
  | .tree N r i j ps, v => ∃ a p vs, v = .ref a ∧ H a = some (.tup [.str "tree", .str N, .int r, .int i, .int j, .ref p]) ∧ H p = some (.lst vs) ∧ TrsA H ps vs
def TrsA (H : Hp) : List Tr → List V → Prop
  | [], vs => vs = []
  | t :: ts, vs => ∃ v ws, vs = v :: ws ∧ TrA H t v ∧ TrsA H ts ws
end
mutual
theorem TrA.same {A B : Hp} (u : Same A B) : ∀ {t : Tr} {v : V}, TrA A t v → TrA B t v
  | .leaf _ _ _, _, h => by
    unfold TrA at *
    obtain ⟨a, e, h⟩ := h
    exact ⟨a, e, u _ _ h⟩
  | .tree _ _ _ _ _, _, h => by
    unfold TrA at *
    obtain ⟨a, p, vs, e, h1, h2, h3⟩ := h
    exact ⟨a, p, vs, e, u _ _ h1, u _ _ h2, TrsA.same u h3⟩
theorem TrsA.same {A B : Hp} (u : Same A B) : ∀ {ts : List Tr} {vs : List V}, TrsA A ts vs → TrsA B ts vs
  | [], _, h => by
    unfold TrsA at *
    exact h
  | _ :: _, _, h => by
    unfold TrsA at *
    obtain ⟨v, ws, e, h1, h2⟩ := h
    exact ⟨v, ws, e, TrA.same u h1, TrsA.same u h2⟩
end
theorem TrsA.rel {H : Hp} : ∀ {ts : List Tr} {vs : List V}, TrsA H ts vs → Rel2 (fun v t => TrA H t v) vs ts
  | [], vs, h => by
    unfold TrsA at h
    subst h
    exact True.intro
  | t :: ts, vs, h => by
    unfold TrsA at h
    obtain ⟨v, ws, rfl, h1, h2⟩ := h
    exact ⟨h1, h2.rel⟩
theorem TrsA.of {H : Hp} : ∀ {ts : List Tr} {vs : List V}, Rel2 (fun v t => TrA H t v) vs ts → TrsA H ts vs
  | [], [], _ => by unfold TrsA; rfl
  | t :: ts, v :: vs, h => by
    unfold TrsA
    exact ⟨v, vs, rfl, h.1, TrsA.of h.2⟩
  | [], _ :: _, h => h.elim
  | _ :: _, [], h => h.elim
/-- its word, its text and its stretch -/
theorem TrA.tup {H : Hp} {t : Tr} {v : V} (h : TrA H t v) : ∃ a xs, v = .ref a ∧ H a = some (.tup xs) ∧ xs[0]? = some (.str t.word) ∧ xs[1]? = some (.str t.sym) := by
  cases t with
  | leaf k i j =>
    unfold TrA at h
    obtain ⟨a, e, h⟩ := h
    exact ⟨a, _, e, h, rfl, rfl⟩
  | tree N r i j ps =>
    unfold TrA at h
    obtain ⟨a, p, vs, e, h1, _⟩ := h
    exact ⟨a, _, e, h1, rfl, rfl⟩
theorem TrsA.app {H : Hp} : ∀ {a b : List Tr} {xs ys : List V}, TrsA H a xs → TrsA H b ys → TrsA H (a ++ b) (xs ++ ys)
  | [], _, _, _, h, k => by
    unfold TrsA at h
    subst h
    exact k
  | t :: ts, _, _, _, h, k => by
    unfold TrsA at h
    obtain ⟨v, ws, rfl, h1, h2⟩ := h
    show TrsA H (t :: (ts ++ _)) _
    unfold TrsA
    exact ⟨v, ws ++ _, rfl, h1, h2.app k⟩
theorem TrsA.len {H : Hp} {ts : List Tr} {vs : List V} (h : TrsA H ts vs) : vs.length = ts.length := h.rel.len
theorem count_len : ∀ ts : List Tr, ts.length ≤ countL ts
  | [] => Nat.zero_le _
  | t :: ts => by
    have := count_len ts
    have := count_pos t
    simp only [countL, List.length_cons]
    omega
mutual
theorem TrA.up {A B : Hp} (u : Up A B) : ∀ {t : Tr} {v : V}, TrA A t v → TrA B t v
  | .leaf _ _ _, _, h => by
    unfold TrA at *
    obtain ⟨a, e, h⟩ := h
    exact ⟨a, e, u.tup h⟩
  | .tree _ _ _ _ _, _, h => by
    unfold TrA at *
    obtain ⟨a, p, vs, e, h1, h2, h3⟩ := h
    exact ⟨a, p, vs, e, u.tup h1, u.lst h2, TrsA.up u h3⟩
theorem TrsA.up {A B : Hp} (u : Up A B) : ∀ {ts : List Tr} {vs : List V}, TrsA A ts vs → TrsA B ts vs
  | [], _, h => by
    unfold TrsA at *
    exact h
  | _ :: _, _, h => by
    unfold TrsA at *
    obtain ⟨v, ws, e, h1, h2⟩ := h
    exact ⟨v, ws, e, TrA.up u h1, TrsA.up u h2⟩
end
mutual
def dueB (G : List Rule) (n : Nat) : Tr → Bool
  | .leaf k i j => decide (0 ≤ i ∧ i ≤ j ∧ j ≤ (n : Int)) && ((G.any fun r => decide (k ∈ r.2)) && !isLow k)
  | .tree N r i j ps => decide (0 ≤ i ∧ i ≤ j ∧ j ≤ (n : Int)) && (decide (0 ≤ r ∧ r < (G.length : Int)) && (match G[r.toNat]? with
      | some (M, ss) => decide (M = N) && (decide (ps.map Tr.sym = ss) && dueL G n i j ps)
      | none => false))
def dueL (G : List Rule) (n : Nat) : Int → Int → List Tr → Bool
  | a, j, [] => decide (a = j)
  | a, j, p :: ps => decide (p.lo = a) && (dueB G n p && (decide (isLow p.sym = p.isT) && dueL G n p.hi j ps))
end
theorem follows_nil (a b : Int) : follows a b [] = decide (a = b) := by simp [follows]
theorem follows_cons (a b : Int) (p : Tr) (ps : List Tr) : follows a b (p :: ps) = (decide (p.lo = a) && follows p.hi b ps) := by
  unfold follows
  rw [Bool.eq_iff_iff, Bool.and_eq_true, decide_eq_true_eq, decide_eq_true_eq, decide_eq_true_eq]
  simp only [List.map_cons, List.cons_append, List.cons.injEq]
  constructor
  · rintro ⟨h1, h2⟩
    exact ⟨h1.symm, h2⟩
  · rintro ⟨h1, h2⟩
    exact ⟨h1.symm, h2⟩
theorem due_list {G : List Rule} (gt : GramT G) (n : Nat) : ∀ (a j : Int) (ps : List Tr), dueL G n a j ps = (follows a j ps && (ps.all (dueB G n) && ps.all fun p => decide (isLow p.sym = p.isT)))
  | a, j, [] => by
    rw [dueL, follows_nil]
    simp
  | a, j, p :: ps => by
    rw [dueL, follows_cons, due_list gt n p.hi j ps, List.all_cons, List.all_cons]
    cases decide (p.lo = a) <;> cases dueB G n p <;> cases decide (isLow p.sym = p.isT) <;> cases follows p.hi j ps <;> cases ps.all (dueB G n) <;> rfl
mutual
def Tr.deep : Tr → Nat
  | .leaf _ _ _ => 0
  | .tree _ _ _ _ ps => 1 + deepL ps
def deepL : List Tr → Nat
  | [] => 0
  | t :: ts => max t.deep (deepL ts)
end
theorem deepL_mem : ∀ {ps : List Tr} {p : Tr}, p ∈ ps → p.deep ≤ deepL ps
  | t :: ts, p, h => by
    rcases List.mem_cons.mp h with rfl | m
    · simp only [deepL]; omega
    · have := deepL_mem m
      simp only [deepL]; omega
theorem nodesL_mem : ∀ {ps : List Tr} {u w : Tr}, u ∈ ps → w ∈ nodes u → w ∈ nodesL ps
  | t :: ts, u, w, h, k => by
    rw [nodesL]
    rcases List.mem_cons.mp h with rfl | m
    · exact List.mem_append_left _ k
    · exact List.mem_append_right _ (nodesL_mem m k)
theorem tree_word (u : Tr) : decide (V.str u.word = V.str "tree") = u.isT := by
  cases u with
  | leaf k i j => exact (show decide (V.str "leaf" = V.str "tree") = false from by decide +kernel)
  | tree N r i j ps => exact decide_eq_true rfl
def stD (xs : List Str) : PyData := .list (xs.map PyData.str)
theorem st_eqv : ∀ xs ys : List Str, PyData.eqvAll (xs.map PyData.str) (ys.map PyData.str) = decide (xs = ys)
  | [], [] => by simp [PyData.eqvAll]
  | [], y :: ys => by simp [PyData.eqvAll]
  | x :: xs, [] => by simp [PyData.eqvAll]
  | x :: xs, y :: ys => by
    simp only [List.map_cons, PyData.eqvAll, st_eqv xs ys, PyData.eqv]
    by_cases e : x = y
    · by_cases e2 : xs = ys
      · simp [e, e2]
      · simp [e, e2]
    · simp [e]
theorem st_lay : ∀ {xs : List Str}, (∀ x ∈ xs, PyData.strOk x = true) → PyData.canLayAll0 (xs.map PyData.str) = true
  | [], _ => rfl
  | x :: xs, h => by
    have := st_lay fun y m => h y (List.mem_cons_of_mem x m)
    simp [PyData.canLayAll0, PyData.canLay0, this, h x List.mem_cons_self]
theorem st_depth : ∀ xs : List Str, PyData.depthAll (xs.map PyData.str) = 0
  | [] => by simp [PyData.depthAll]
  | x :: xs => by simp [PyData.depthAll, PyData.depth, st_depth xs]
theorem stD_shaped {xs : List Str} (h : ∀ x ∈ xs, PyData.strOk x = true) : SeqAt.shaped (stD xs) = true := shaped_mk (by unfold stD; rw [PyData.canLay0]; exact st_lay h) (by simp [stD, PyData.depth, st_depth xs])
theorem stD_eqv (xs ys : List Str) : PyData.eqv (stD xs) (stD ys) = decide (xs = ys) := by
  unfold stD
  rw [PyData.eqv]
  exact st_eqv xs ys
theorem due_out {G : List Rule} {n : Nat} {t : Tr} (h : ¬ (0 ≤ t.lo ∧ t.lo ≤ t.hi ∧ t.hi ≤ (n : Int))) : dueB G n t = false := by
  cases t with
  | leaf k i j =>
    have h : ¬ (0 ≤ i ∧ i ≤ j ∧ j ≤ (n : Int)) := h
    unfold dueB
    rw [decide_eq_false h, Bool.false_and]
  | tree N r i j ps =>
    have h : ¬ (0 ≤ i ∧ i ≤ j ∧ j ≤ (n : Int)) := h
    unfold dueB
    rw [decide_eq_false h, Bool.false_and]
theorem any_filter {p : Rule → Bool} (L : List Rule) : (!decide (L.filter p = [])) = L.any p := by
  rw [Bool.eq_iff_iff, Bool.not_eq_true', decide_eq_false_iff_not, List.any_eq_true, List.filter_eq_nil_iff]
  constructor
  · intro h
    by_cases e : ∃ x, x ∈ L ∧ p x = true
    · exact e
    · exact absurd (fun a ha z => e ⟨a, ha, z⟩) h
  · rintro ⟨x, hx, hp⟩ h
    exact h x hx hp
def intsD (xs : List Int) : PyData := .list (xs.map PyData.int)
theorem dp_intsL {K : PySem.W.Frag} {H : Hp} : ∀ xs : List Int, DpAll K H (xs.map V.int) (xs.map PyData.int)
  | [] => .nil
  | x :: xs => .cons (.int x) (dp_intsL xs)
theorem ints_eqv : ∀ xs ys : List Int, PyData.eqvAll (xs.map PyData.int) (ys.map PyData.int) = decide (xs = ys)
  | [], [] => by simp [PyData.eqvAll]
  | [], y :: ys => by simp [PyData.eqvAll]
  | x :: xs, [] => by simp [PyData.eqvAll]
  | x :: xs, y :: ys => by
    simp only [List.map_cons, PyData.eqvAll, ints_eqv xs ys, PyData.eqv]
    by_cases e : x = y
    · by_cases e2 : xs = ys
      · simp [e, e2]
      · simp [e, e2]
    · simp [e]
theorem ints_lay : ∀ xs : List Int, PyData.canLayAll0 (xs.map PyData.int) = true
  | [] => rfl
  | x :: xs => by simp [PyData.canLayAll0, PyData.canLay0, ints_lay xs]
theorem ints_depth : ∀ xs : List Int, PyData.depthAll (xs.map PyData.int) = 0
  | [] => by simp [PyData.depthAll]
  | x :: xs => by simp [PyData.depthAll, PyData.depth, ints_depth xs]
theorem intsD_shaped (xs : List Int) : SeqAt.shaped (intsD xs) = true := shaped_mk (by unfold intsD; rw [PyData.canLay0]; exact ints_lay xs) (by simp [intsD, PyData.depth, ints_depth xs])
theorem intsD_eqv (xs ys : List Int) : PyData.eqv (intsD xs) (intsD ys) = decide (xs = ys) := by
  unfold intsD
  rw [PyData.eqv]
  exact ints_eqv xs ys
theorem news_less {A B C : Hp} (u : Same A B) : Same (News B C) (News A C) := fun b o h => by
  obtain ⟨h1, h2⟩ := news_at h
  rw [news_of (u.free h1)]
  exact h2
theorem news_keep {A B C : Hp} {p : Addr} {o : HO} (u : Same B C) (hp : ¬ A p = none) : Same (News A B) (News A (upd C p o)) := fun b x h => by
  obtain ⟨h1, h2⟩ := news_at h
  rw [news_of h1, upd_ne (fun e => hp (by rw [← e]; exact h1))]
  exact u _ _ h2
theorem news_on {A B C : Hp} (u : Same B C) : Same (News A B) (News A C) := fun b x h => by
  obtain ⟨h1, h2⟩ := news_at h
  rw [news_of h1]
  exact u _ _ h2
theorem follows_snoc {b e : Int} {t : Tr} (h1 : t.lo = b) (h2 : t.hi = e) : ∀ {ps : List Tr} {i : Int}, follows i b ps = true → follows i e (ps ++ [t]) = true
  | [], i, h => by
    rw [follows_nil] at h
    rw [List.nil_append, follows_cons, follows_nil, h1, h2, decide_eq_true (of_decide_eq_true h).symm, decide_eq_true (rfl : e = e)]
    rfl
  | p :: ps, i, h => by
    rw [follows_cons, Bool.and_eq_true] at h
    rw [List.cons_append, follows_cons, h.1, follows_snoc h1 h2 h.2]
    rfl
theorem deepL_le {m : Nat} : ∀ {ps : List Tr}, (∀ q ∈ ps, q.deep ≤ m) → deepL ps ≤ m
  | [], _ => by simp [deepL]
  | p :: ps, h => by
    have := deepL_le fun q hq => h q (List.mem_cons_of_mem p hq)
    have := h p List.mem_cons_self
    simp only [deepL]
    omega
structure Lay (H : Hp) (g t r f : Addr) (G : List Rule) (Z : Prc) (row : List Str) (F : List (List Key × V)) (T : Nat → Nat → Ent) : Prop where
  hG : GraA H g G
  gt : GramT G
  hZ : PrA H t Z
  ok : PrcOk Z
  hrow : H r = some (.lst (row.map V.str))
  len : row.length ≤ 60
  hf : H f = some (.dT F)
  tab : TabK H G row.length F T
  least : ∀ a b, LeastAt (pbOf G Z row kn0) (T a b) a b
theorem Lay.same {A B : Hp} (u : Same A B) {g t r f : Addr} {G : List Rule} {Z : Prc} {row : List Str} {F : List (List Key × V)} {T : Nat → Nat → Ent} (h : Lay A g t r f G Z row F T) : Lay B g t r f G Z row F T :=
  ⟨h.hG.up (Up.of_same u), h.gt, h.hZ.up (Up.of_same u), h.ok, u _ _ h.hrow, h.len, u _ _ h.hf, h.tab.up (Up.of_same u), h.least⟩
def TreeOf (H : Hp) (G : List Rule) (n : Nat) (s : Str) (i j : Nat) (sz : Int) (v : V) (dm : Nat) : Prop := ∃ t, TrA H t v ∧ t.sym = s ∧ t.lo = (i : Int) ∧ t.hi = (j : Int) ∧ dueB G n t = true ∧ isLow s = t.isT ∧ (t.count : Int) = sz ∧ t.deep ≤ dm
/-- how deep a least tree of the cost c over the stretch can be -/
def mu (T : Nat → Nat → Ent) (Ns : List Str) (i j : Nat) (c : Cost) : Nat := 5 * (j - i) + Ns.countP (less T i j c)
theorem mu_up {T : Nat → Nat → Ent} {Ns : List Str} (n4 : Ns.length ≤ 4) (i j : Nat) (c : Cost) : mu T Ns i j c ≤ 5 * (j - i) + 4 := by
  unfold mu
  have := List.countP_le_length (p := less T i j c) (l := Ns)
  omega
theorem mu_less {T : Nat → Nat → Ent} {Ns : List Str} (n4 : Ns.length ≤ 4) {i j a b : Nat} (h1 : i ≤ a) (h2 : a ≤ b) (h3 : b ≤ j) {M : Str} {c t : Cost} (hM : M ∈ Ns) (ht : (T a b).nm M = some t) (l1 : t.1 ≤ c.1) (l2 : t.2 < c.2) : mu T Ns a b t < mu T Ns i j c := by
  by_cases s : a = i ∧ b = j
  · obtain ⟨rfl, rfl⟩ := s
    have := countP_less (p := less T a b t) (q := less T a b c) (l := Ns) (fun y _ hy => by
      unfold less at *
      cases e : (T a b).nm y with
      | none => rw [e] at hy; cases hy
      | some d =>
        rw [e] at hy
        have := of_decide_eq_true hy
        refine decide_eq_true ?_
        omega) (a := M) hM (by
      unfold less
      rw [ht]
      refine decide_eq_true ?_
      omega) (by
      unfold less
      rw [ht]
      refine decide_eq_false ?_
      omega)
    unfold mu
    omega
  · have := mu_up (T := T) n4 a b t
    unfold mu at *
    omega
/-- the parts that the law takes: each ends where its cost and that of the rest behind it make up the rest's cost -/
theorem rest_split {B : Pb} {T : Nat → Nat → Ent} (hT : ∀ a b, LeastAt B (T a b) a b) (kn : ∀ i j, B.kn i j = none) {r d i j : Nat} {N k : Str} {ss : List Str} {c : Cost} (hr : B.G[r]? = some (N, ss)) (hs : ss[d]? = some k) (hc : (T i j).rs r d = some c) :
    ∃ e x y, i ≤ e ∧ e ≤ j ∧ (if B.isN k = true then (T i e).nm k = some x else x = (B.leaf k i e, 1)) ∧ (T e j).rs r (d + 1) = some y ∧ c = (x.1 + y.1, x.2 + y.2) := by
  have lc := (hT i j).rs r d
  rw [hc] at lc
  obtain ⟨mc, le⟩ := lc
  cases mc with
  | known q _ => rw [kn] at q; cases q
  | nil q h2 h3 =>
    rw [hr] at h2
    cases h2
    have := (List.getElem?_eq_some_iff.mp hs).1
    omega
  | leaf q h2 h3 h4 h5 h6 h7 =>
    rename_i e N2 k2 ss2 c2
    rw [hr] at h2
    cases h2
    rw [hs] at h3
    cases h3
    obtain ⟨y, ey, ly⟩ := ((hT e j).rs r (d + 1)).up h7
    have my : RestC B r (d + 1) e j y := by
      have := (hT e j).rs r (d + 1)
      rw [ey] at this
      exact this.1
    have l1 := le _ (.leaf (kn i j) hr hs h4 h5 h6 my)
    have e1 : c2 = y := by
      unfold cle at ly l1
      dsimp only at l1
      exact Prod.ext (by omega) (by omega)
    subst e1
    exact ⟨e, (B.leaf k i e, 1), c2, h5, h6, by rw [if_neg (by rw [h4]; exact Bool.false_ne_true)], ey, rfl⟩
  | tree q h2 h3 h4 h5 h6 h7 h8 =>
    rename_i e N2 k2 ss2 a2 c2
    rw [hr] at h2
    cases h2
    rw [hs] at h3
    cases h3
    obtain ⟨y, ey, ly⟩ := ((hT e j).rs r (d + 1)).up h8
    obtain ⟨x, ex, lx⟩ := ((hT i e).nm k).up h7
    have my : RestC B r (d + 1) e j y := by
      have := (hT e j).rs r (d + 1)
      rw [ey] at this
      exact this.1
    have mx : TreeC B k i e x := by
      have := (hT i e).nm k
      rw [ex] at this
      exact this.1
    have l1 := le _ (.tree (kn i j) hr hs h4 h5 h6 mx my)
    refine ⟨e, x, y, h5, h6, by rw [if_pos h4]; exact ex, ey, ?_⟩
    unfold cle at ly lx l1
    dsimp only at l1
    exact Prod.ext (by dsimp only; omega) (by dsimp only; omega)
section
variable {B : Pb} {T : Nat → Nat → Ent}
theorem nm_pos (ok : PbOk B) (hT : ∀ a b, LeastAt B (T a b) a b) {a b : Nat} {M : Str} {x : Cost} (h : (T a b).nm M = some x) : 0 ≤ x.1 ∧ 0 ≤ x.2 := TreeC.pos ok ((hT a b).sound.nm M x h)
theorem rs_pos (ok : PbOk B) (hT : ∀ a b, LeastAt B (T a b) a b) {a b r d : Nat} {x : Cost} (h : (T a b).rs r d = some x) : 0 ≤ x.1 ∧ 0 ≤ x.2 := RestC.pos ok ((hT a b).sound.rs r d x h)
theorem rest_end (hT : ∀ a b, LeastAt B (T a b) a b) (kn : ∀ i j, B.kn i j = none) {r : Nat} {N : Str} {ss : List Str} (hr : B.G[r]? = some (N, ss)) {i j : Nat} {c : Cost} (hc : (T i j).rs r ss.length = some c) : i = j ∧ c = (0, 0) := by
  have lc := (hT i j).rs r ss.length
  rw [hc] at lc
  have out : ∀ k, ss[ss.length]? ≠ some k := fun k e => by
    have := (List.getElem?_eq_some_iff.mp e).1
    omega
  cases lc.1 with
  | known q _ => rw [kn] at q; cases q
  | nil _ _ _ => exact ⟨rfl, rfl⟩
  | leaf _ h2 h3 _ _ _ _ =>
    rw [hr] at h2
    cases h2
    exact absurd h3 (out _)
  | tree _ h2 h3 _ _ _ _ _ =>
    rw [hr] at h2
    cases h2
    exact absurd h3 (out _)
/-- the sizes of the parts of a rule over an empty stretch -/
theorem rest_empty (ok : PbOk B) (hT : ∀ a b, LeastAt B (T a b) a b) (kn : ∀ i j, B.kn i j = none) {r : Nat} {N : Str} {ss : List Str} (hr : B.G[r]? = some (N, ss)) {i : Nat} {W : Int} (w1 : 1 ≤ W) {C : Cost}
    (h : ∀ M x, M ∈ ss → B.isN M = true → (T i i).nm M = some x → x.1 ≤ C.1 → x.2 ≤ C.2 → x.2 ≤ W) : ∀ (m d : Nat) (c : Cost), d + m = ss.length → (T i i).rs r d = some c → c.1 ≤ C.1 → c.2 ≤ C.2 → c.2 ≤ (m : Int) * W
  | 0, d, c, hd, hc, _, _ => by
    obtain rfl : d = ss.length := by omega
    obtain ⟨_, rfl⟩ := rest_end hT kn hr hc
    simp
  | m + 1, d, c, hd, hc, le1, le2 => by
    obtain ⟨k, hs⟩ : ∃ k, ss[d]? = some k := ⟨ss[d]'(by omega), List.getElem?_eq_getElem (by omega)⟩
    obtain ⟨e, x, y, h1, h2, hx, hy, ec⟩ := rest_split hT kn hr hs hc
    obtain rfl : e = i := by omega
    have ea : c.1 = x.1 + y.1 := by rw [ec]
    have e2 : c.2 = x.2 + y.2 := by rw [ec]
    have py := rs_pos ok hT hy
    have x0 : 0 ≤ x.1 ∧ 0 ≤ x.2 ∧ x.2 ≤ W := by
      split at hx
      · rename_i l
        have p := nm_pos ok hT hx
        exact ⟨p.1, p.2, h k x (List.mem_of_getElem? hs) l hx (by omega) (by omega)⟩
      · rw [hx]
        exact ⟨ok.leaf k e e, by show (0 : Int) ≤ 1; decide, w1⟩
    have ih := rest_empty ok hT kn hr w1 h m (d + 1) y (by omega) hy (by omega) (by omega)
    have e3 : ((m + 1 : Nat) : Int) * W = (m : Int) * W + W := by
      rw [show ((m + 1 : Nat) : Int) = (m : Int) + 1 by omega, Int.add_mul, Int.one_mul]
    omega
/-- over an empty stretch, by rank -/
def eS : Nat → Int
  | 0 => 1
  | k + 1 => 3 * eS k + 1
theorem eS_pos : ∀ k, 1 ≤ eS k
  | 0 => Int.le_refl _
  | k + 1 => by
    have := eS_pos k
    rw [eS]
    omega
theorem rank_less {Ns : List Str} {i j : Nat} {M : Str} {c t : Cost} (hM : M ∈ Ns) (ht : (T i j).nm M = some t) (l1 : t.1 ≤ c.1) (l2 : t.2 < c.2) : Ns.countP (less T i j t) + 1 ≤ Ns.countP (less T i j c) :=
  countP_less (p := less T i j t) (q := less T i j c) (l := Ns) (fun y _ hy => by
    unfold less at *
    cases e : (T i j).nm y with
    | none => rw [e] at hy; cases hy
    | some d =>
      rw [e] at hy
      have := of_decide_eq_true hy
      refine decide_eq_true ?_
      omega) (a := M) hM (by
    unfold less
    rw [ht]
    refine decide_eq_true ?_
    omega) (by
    unfold less
    rw [ht]
    refine decide_eq_false ?_
    omega)
theorem names_empty (ok : PbOk B) (hT : ∀ a b, LeastAt B (T a b) a b) (kn : ∀ i j, B.kn i j = none) (few : ∀ r ∈ B.G, r.2.length ≤ 3) {Ns : List Str} (names : ∀ r ∈ B.G, ∀ s ∈ r.2, B.isN s = true → s ∈ Ns) (i : Nat) :
    ∀ (k : Nat) (N : Str) (c : Cost), (T i i).nm N = some c → Ns.countP (less T i i c) ≤ k → c.2 ≤ eS (k + 1)
  | k, N, c, hc, z => by
    obtain ⟨r, ss, x, hr, hx, ec⟩ : ∃ r ss x, B.G[r]? = some (N, ss) ∧ (T i i).rs r 0 = some x ∧ (x.1, x.2 + 1) = c := by
      have lc := (hT i i).nm N
      rw [hc] at lc
      obtain ⟨mc, le⟩ := lc
      cases mc with
      | known q _ => rw [kn] at q; cases q
      | mk q h2 h3 =>
        rename_i r ss x
        obtain ⟨y, ey, ly⟩ := ((hT i i).rs r 0).up h3
        have my : RestC B r 0 i i y := by
          have := (hT i i).rs r 0
          rw [ey] at this
          exact this.1
        have l1 := le _ (.mk (kn i i) h2 my)
        refine ⟨r, ss, y, h2, ey, ?_⟩
        unfold cle at ly l1
        dsimp only at l1
        exact Prod.ext (by dsimp only; omega) (by dsimp only; omega)
    have e1 : c.1 = x.1 := by rw [← ec]
    have e2 : c.2 = x.2 + 1 := by rw [← ec]
    have sl := few _ (List.mem_of_getElem? hr)
    have sl : ss.length ≤ 3 := sl
    have b := rest_empty ok hT kn hr (W := eS k) (eS_pos k) (C := x) (fun M t hM l ht l1 l2 => by
      have rk := rank_less (c := c) (names _ (List.mem_of_getElem? hr) M hM l) ht (by omega) (by omega)
      cases k with
      | zero => omega
      | succ k => exact names_empty ok hT kn few names i k M t ht (by omega)) ss.length 0 x (by omega) hx (Int.le_refl _) (Int.le_refl _)
    have p := eS_pos k
    have : (ss.length : Int) * eS k ≤ 3 * eS k := Int.mul_le_mul_of_nonneg_right (by omega) (by omega)
    rw [eS]
    omega
end
/-- the bound of a stretch -/
def sB (a b : Nat) : Int := if a = b then 121 else 1457 * (2 * ((b : Int) - (a : Int)) - 1)
section
variable {B : Pb} {T : Nat → Nat → Ent}
theorem name_cost (hT : ∀ a b, LeastAt B (T a b) a b) (kn : ∀ i j, B.kn i j = none) {N : Str} {i j : Nat} {c : Cost} (hc : (T i j).nm N = some c) : ∃ r ss x, B.G[r]? = some (N, ss) ∧ (T i j).rs r 0 = some x ∧ (x.1, x.2 + 1) = c := by
  have lc := (hT i j).nm N
  rw [hc] at lc
  obtain ⟨mc, le⟩ := lc
  cases mc with
  | known q _ => rw [kn] at q; cases q
  | mk q h2 h3 =>
    rename_i r ss x
    obtain ⟨y, ey, ly⟩ := ((hT i j).rs r 0).up h3
    have my : RestC B r 0 i j y := by
      have := (hT i j).rs r 0
      rw [ey] at this
      exact this.1
    have l1 := le _ (.mk (kn i j) h2 my)
    refine ⟨r, ss, y, h2, ey, ?_⟩
    unfold cle at ly l1
    dsimp only at l1
    exact Prod.ext (by dsimp only; omega) (by dsimp only; omega)
theorem rank_top {Ns : List Str} (n4 : Ns.length ≤ 4) {i j : Nat} {N : Str} {c : Cost} (hN : N ∈ Ns) (hc : (T i j).nm N = some c) : Ns.countP (less T i j c) ≤ 3 := by
  have := countP_less (p := less T i j c) (q := fun _ => true) (l := Ns) (fun _ _ _ => rfl) (a := N) hN rfl (by
    unfold less
    rw [hc]
    refine decide_eq_false ?_
    omega)
  have l := List.countP_le_length (p := fun _ : Str => true) (l := Ns)
  omega
/-- what is left behind a part that is not empty -/
theorem rest_behind (ok : PbOk B) (hT : ∀ a b, LeastAt B (T a b) a b) (kn : ∀ i j, B.kn i j = none) {r : Nat} {N : Str} {ss : List Str} (hr : B.G[r]? = some (N, ss)) {i j : Nat}
    (h : ∀ M a b x, M ∈ ss → B.isN M = true → i < a → a ≤ b → b ≤ j → (T a b).nm M = some x → x.2 ≤ sB a b) : ∀ (m d a : Nat) (c : Cost), d + m = ss.length → i < a → a ≤ j → (T a j).rs r d = some c → c.2 ≤ (if a = j then 0 else 1457 * (2 * ((j : Int) - (a : Int)) - 1)) + 121 * (m : Int)
  | 0, d, a, c, hd, ia, aj, hc => by
    obtain rfl : d = ss.length := by omega
    obtain ⟨rfl, rfl⟩ := rest_end hT kn hr hc
    simp
  | m + 1, d, a, c, hd, ia, aj, hc => by
    obtain ⟨k, hs⟩ : ∃ k, ss[d]? = some k := ⟨ss[d]'(by omega), List.getElem?_eq_getElem (by omega)⟩
    obtain ⟨e, x, y, h1, h2, hx, hy, ec⟩ := rest_split hT kn hr hs hc
    have e2 : c.2 = x.2 + y.2 := by rw [ec]
    have xb : x.2 ≤ sB a e := by
      split at hx
      · rename_i l
        exact h k a e x (List.mem_of_getElem? hs) l ia h1 (by omega) hx
      · rw [hx]
        show (1 : Int) ≤ sB a e
        unfold sB
        split <;> omega
    have ih := rest_behind ok hT kn hr h m (d + 1) e y (by omega) (by omega) h2 hy
    unfold sB at xb
    by_cases q1 : a = e
    · subst q1
      rw [if_pos rfl] at xb
      omega
    · rw [if_neg q1] at xb
      by_cases q2 : e = j
      · subst q2
        rw [if_pos rfl] at ih
        rw [if_neg q1]
        omega
      · rw [if_neg q2] at ih
        rw [if_neg (by omega)]
        omega
/-- the parts over the whole stretch -/
theorem rest_whole (ok : PbOk B) (hT : ∀ a b, LeastAt B (T a b) a b) (kn : ∀ i j, B.kn i j = none) {r : Nat} {N : Str} {ss : List Str} (hr : B.G[r]? = some (N, ss)) {i j : Nat} (ij : i < j) {S : Int} (s1 : 1 ≤ S) {C : Cost}
    (h : ∀ M a b x, M ∈ ss → B.isN M = true → i ≤ a → a ≤ b → b ≤ j → ¬ (a = i ∧ b = j) → (T a b).nm M = some x → x.2 ≤ sB a b)
    (hs : ∀ M x, M ∈ ss → B.isN M = true → (T i j).nm M = some x → x.1 ≤ C.1 → x.2 ≤ C.2 → x.2 ≤ S) : ∀ (m d : Nat) (c : Cost), d + m = ss.length → (T i j).rs r d = some c → c.1 ≤ C.1 → c.2 ≤ C.2 → c.2 ≤ S + 121 * (m : Int) ∨ c.2 ≤ 1457 * (2 * ((j : Int) - (i : Int)) - 2) + 121 * (m : Int)
  | 0, d, c, hd, hc, _, _ => by
    obtain rfl : d = ss.length := by omega
    obtain ⟨rfl, rfl⟩ := rest_end hT kn hr hc
    exact absurd ij (Nat.lt_irrefl _)
  | m + 1, d, c, hd, hc, le1, le2 => by
    obtain ⟨k, hk⟩ : ∃ k, ss[d]? = some k := ⟨ss[d]'(by omega), List.getElem?_eq_getElem (by omega)⟩
    obtain ⟨e, x, y, h1, h2, hx, hy, ec⟩ := rest_split hT kn hr hk hc
    have ea : c.1 = x.1 + y.1 := by rw [ec]
    have e2 : c.2 = x.2 + y.2 := by rw [ec]
    have py := rs_pos ok hT hy
    have px : 0 ≤ x.1 ∧ 0 ≤ x.2 := by
      split at hx
      · exact nm_pos ok hT hx
      · rw [hx]
        exact ⟨ok.leaf k i e, by show (0 : Int) ≤ 1; decide⟩
    have km := List.mem_of_getElem? hk
    by_cases q1 : e = i
    · subst q1
      have xb : x.2 ≤ 121 := by
        split at hx
        · rename_i l
          have := h k e e x km l (Nat.le_refl _) (Nat.le_refl _) (by omega) (by omega) hx
          unfold sB at this
          rw [if_pos rfl] at this
          exact this
        · rw [hx]
          show (1 : Int) ≤ 121
          decide
      have ih := rest_whole ok hT kn hr ij s1 h hs m (d + 1) y (by omega) hy (by omega) (by omega)
      omega
    · have beh := rest_behind ok hT kn hr (i := i) (j := j) (fun M a b z hM l ia ab bj hz => h M a b z hM l (by omega) ab bj (by omega) hz) m (d + 1) e y (by omega) (by omega) h2 hy
      by_cases q2 : e = j
      · subst q2
        rw [if_pos rfl] at beh
        have xb : x.2 ≤ S := by
          split at hx
          · rename_i l
            exact hs k x km l hx (by omega) (by omega)
          · rw [hx]
            exact s1
        omega
      · rw [if_neg q2] at beh
        have xb : x.2 ≤ 1457 * (2 * ((e : Int) - (i : Int)) - 1) := by
          split at hx
          · rename_i l
            have := h k i e x km l (Nat.le_refl _) h1 h2 (by omega) hx
            unfold sB at this
            rw [if_neg (by omega)] at this
            exact this
          · rw [hx]
            show (1 : Int) ≤ _
            omega
        omega
theorem names_size (ok : PbOk B) (hT : ∀ a b, LeastAt B (T a b) a b) (kn : ∀ i j, B.kn i j = none) (few : ∀ r ∈ B.G, r.2.length ≤ 3) {Ns : List Str} (n4 : Ns.length ≤ 4) (cover : ∀ r ∈ B.G, r.1 ∈ Ns) (names : ∀ r ∈ B.G, ∀ s ∈ r.2, B.isN s = true → s ∈ Ns) {i j : Nat} (ij : i < j)
    (h : ∀ M a b x, i ≤ a → a ≤ b → b ≤ j → ¬ (a = i ∧ b = j) → (T a b).nm M = some x → x.2 ≤ sB a b) : ∀ (k : Nat) (N : Str) (c : Cost), (T i j).nm N = some c → Ns.countP (less T i j c) ≤ k → c.2 ≤ 1457 * (2 * ((j : Int) - (i : Int)) - 2) + 364 * ((k : Int) + 1) + 1
  | k, N, c, hc, z => by
    obtain ⟨r, ss, x, hr, hx, ec⟩ := name_cost hT kn hc
    have e1 : c.1 = x.1 := by rw [← ec]
    have e2 : c.2 = x.2 + 1 := by rw [← ec]
    have sl : ss.length ≤ 3 := few _ (List.mem_of_getElem? hr)
    have b := rest_whole ok hT kn hr ij (S := 1457 * (2 * ((j : Int) - (i : Int)) - 2) + 364 * (k : Int) + 1) (by omega) (C := x) (fun M a b y _ _ h1 h2 h3 h4 hy => h M a b y h1 h2 h3 h4 hy) (fun M t hM l ht l1 l2 => by
      have rk := rank_less (c := c) (names _ (List.mem_of_getElem? hr) M hM l) ht (by omega) (by omega)
      cases k with
      | zero => omega
      | succ k =>
        have := names_size ok hT kn few n4 cover names ij h k M t ht (by omega)
        omega) ss.length 0 x (by omega) hx (Int.le_refl _) (Int.le_refl _)
    omega
/-- a least tree has at most so many nodes -/
theorem size_bound (ok : PbOk B) (hT : ∀ a b, LeastAt B (T a b) a b) (kn : ∀ i j, B.kn i j = none) (few : ∀ r ∈ B.G, r.2.length ≤ 3) {Ns : List Str} (n4 : Ns.length ≤ 4) (cover : ∀ r ∈ B.G, r.1 ∈ Ns) (names : ∀ r ∈ B.G, ∀ s ∈ r.2, B.isN s = true → s ∈ Ns) :
    ∀ (n i j : Nat), i ≤ j → j - i ≤ n → ∀ N c, (T i j).nm N = some c → c.2 ≤ sB i j := by
  intro n
  induction n with
  | zero =>
    intro i j ij h N c hc
    obtain rfl : i = j := by omega
    obtain ⟨r, ss, x, hr, _, _⟩ := name_cost hT kn hc
    have rk := rank_top n4 (cover _ (List.mem_of_getElem? hr)) hc
    have := names_empty ok hT kn few names i 3 N c hc rk
    unfold sB
    rw [if_pos rfl]
    exact this
  | succ n ih =>
    intro i j ij h N c hc
    by_cases e : i = j
    · exact ih i j ij (by omega) N c hc
    · obtain ⟨r, ss, x, hr, _, _⟩ := name_cost hT kn hc
      have rk := rank_top n4 (cover _ (List.mem_of_getElem? hr)) hc
      have := names_size ok hT kn few n4 cover names (show i < j by omega) (fun M a b y h1 h2 h3 h4 hy => ih a b h2 (by
        by_cases z : a = i
        · have : b ≠ j := fun y => h4 ⟨z, y⟩
          omega
        · omega) M y hy) 3 N c hc rk
      unfold sB
      rw [if_neg e]
      omega
end
theorem name_split {B : Pb} {T : Nat → Nat → Ent} (hT : ∀ a b, LeastAt B (T a b) a b) (kn : ∀ i j, B.kn i j = none) {N : Str} {i j : Nat} {c : Cost} (hc : (T i j).nm N = some c) : ∃ r ss x, B.G[r]? = some (N, ss) ∧ (T i j).rs r 0 = some x ∧ (x.1, x.2 + 1) = c := by
  have lc := (hT i j).nm N
  rw [hc] at lc
  obtain ⟨mc, le⟩ := lc
  cases mc with
  | known q _ => rw [kn] at q; cases q
  | mk q h2 h3 =>
    rename_i r ss x
    obtain ⟨y, ey, ly⟩ := ((hT i j).rs r 0).up h3
    have my : RestC B r 0 i j y := by
      have := (hT i j).rs r 0
      rw [ey] at this
      exact this.1
    have l1 := le _ (.mk (kn i j) h2 my)
    refine ⟨r, ss, y, h2, ey, ?_⟩
    unfold cle at ly l1
    dsimp only at l1
    exact Prod.ext (by dsimp only; omega) (by dsimp only; omega)
theorem kn0_ok2 {G : List Rule} {Z : Prc} (ok : PrcOk Z) (row : List Str) : PbOk (pbOf G Z row kn0) := pbOf_ok ok fun _ _ _ h => by cases h
/-- how many nodes a tree has at the most that is drawn to the depth d -/
def bAny : Nat → Int
  | 0 => 10199
  | d + 1 => 1 + 3 * bAny d
theorem bAny_pos : ∀ d, 1 ≤ bAny d
  | 0 => by decide
  | d + 1 => by
    have := bAny_pos d
    unfold bAny
    omega
def ivs (xs : List Nat) : List V := xs.map fun n => V.int (n : Nat)
theorem ivs_app (xs : List Nat) (n : Nat) : ivs (xs ++ [n]) = ivs xs ++ [V.int (n : Nat)] := by simp [ivs]
theorem ivs_len (xs : List Nat) : (ivs xs).length = xs.length := by simp [ivs]
theorem ivs_int (xs : List Nat) : ivs xs = (xs.map fun n : Nat => (n : Int)).map V.int := by
  unfold ivs
  rw [List.map_map]
  rfl
theorem ivs_at {xs : List Nat} {m : Nat} {x : V} (h : (ivs xs)[m]? = some x) : ∃ n, xs[m]? = some n ∧ x = V.int (n : Nat) := by
  unfold ivs at h
  rw [List.getElem?_map] at h
  cases e : xs[m]? with
  | none => rw [e] at h; cases h
  | some n => rw [e] at h; exact ⟨n, rfl, (Option.some.inj h).symm⟩
theorem least_size {G : List Rule} {Z : Prc} {row : List Str} {T : Nat → Nat → Ent} (gt : GramT G) (ok : PrcOk Z) (least : ∀ a b, LeastAt (pbOf G Z row kn0) (T a b) a b) (l4 : row.length ≤ 4) {i j : Nat} (ij : i ≤ j) (jn : j ≤ row.length) {N : Str} {c : Cost} (hc : (T i j).nm N = some c) : c.2 ≤ 10199 := by
  have := size_bound (Ns := N4t) (kn0_ok2 ok row) least (fun _ _ => rfl) (fun r hr => (gt.good r hr).2.1) (by decide) gt.cover (fun r hr s hs low => by
    rcases (gt.good r hr).2.2 s hs with m | m
    · exact m
    · have : isLow s = true := low
      rw [p3_low s m] at this
      cases this) (j - i) i j ij (Nat.le_refl _) N c hc
  unfold sB at this
  split at this <;> omega
mutual
def trD : Tr → PyData
  | .leaf k i j => .tuple [.str "leaf", .str k, .int i, .int j]
  | .tree N r i j ps => .tuple [.str "tree", .str N, .int r, .int i, .int j, .list (trDs ps)]
def trDs : List Tr → List PyData
  | [] => []
  | t :: ts => trD t :: trDs ts
end
mutual
theorem TrA.dp {K : PySem.W.Frag} {H : Hp} : ∀ {t : Tr} {v : V}, TrA H t v → Dp K H v (trD t)
  | .leaf k i j, v, h => by
    unfold TrA at h
    obtain ⟨a, rfl, h⟩ := h
    rw [trD]
    exact .tup (SqT.of h) (.cons (.str _) (.cons (.str _) (.cons (.int _) (.cons (.int _) .nil))))
  | .tree N r i j ps, v, h => by
    unfold TrA at h
    obtain ⟨a, p, vs, rfl, h1, h2, h3⟩ := h
    rw [trD]
    exact .tup (SqT.of h1) (.cons (.str _) (.cons (.str _) (.cons (.int _) (.cons (.int _) (.cons (.int _) (.cons (.lst (SqL.of h2) (TrsA.dps h3)) .nil))))))
theorem TrsA.dps {K : PySem.W.Frag} {H : Hp} : ∀ {ts : List Tr} {vs : List V}, TrsA H ts vs → DpAll K H vs (trDs ts)
  | [], vs, h => by
    unfold TrsA at h
    subst h
    rw [trDs]
    exact .nil
  | t :: ts, vs, h => by
    unfold TrsA at h
    obtain ⟨v, ws, rfl, h1, h2⟩ := h
    rw [trDs]
    exact .cons (TrA.dp h1) (TrsA.dps h2)
end
def SN : List Str := ["s", "expr", "b", "items", "A", "BB", "C", "D", "zz"]
theorem sn_of {s : Str} (h : s ∈ N4t ∨ s ∈ P3) : s ∈ SN := by
  rcases h with h | h
  · exact (by decide +kernel : ∀ s ∈ N4t, s ∈ SN) s h
  · exact (by decide +kernel : ∀ s ∈ P3, s ∈ SN) s h
theorem sn_ok : ∀ s ∈ SN, PyData.strOk s = true ∧ 0 < s.length ∧ s.length ≤ 100 := by decide +kernel
def WOk (m : Nat) : Tr → Prop
  | .leaf k _ _ => k ∈ SN
  | .tree N _ _ _ ps => N ∈ SN ∧ ps.length ≤ m
def AllW (m : Nat) (t : Tr) : Prop := ∀ u ∈ nodes t, WOk m u
theorem nodesL_iff {ps : List Tr} {u : Tr} : u ∈ nodesL ps ↔ ∃ p ∈ ps, u ∈ nodes p := by
  induction ps with
  | nil => simp [nodesL]
  | cons p ps ih => simp [nodesL, ih]
theorem nodes_self (t : Tr) : t ∈ nodes t := by cases t <;> simp [nodes]
theorem WOk.sym {m : Nat} : ∀ {t : Tr}, WOk m t → t.sym ∈ SN
  | .leaf _ _ _, h => h
  | .tree _ _ _ _ _, h => h.1
theorem AllW.tree {m : Nat} {N : Str} {r i j : Int} {ps : List Tr} : AllW m (.tree N r i j ps) ↔ N ∈ SN ∧ ps.length ≤ m ∧ ∀ p ∈ ps, AllW m p := by
  constructor
  · intro h
    have h0 := h _ (nodes_self _)
    refine ⟨h0.1, h0.2, fun p hp u hu => h u ?_⟩
    rw [nodes]
    exact List.mem_cons_of_mem _ (nodesL_mem hp hu)
  · rintro ⟨h1, h2, h3⟩ u hu
    rw [nodes] at hu
    rcases List.mem_cons.mp hu with rfl | m
    · exact ⟨h1, h2⟩
    · obtain ⟨p, hp, q⟩ := nodesL_iff.mp m
      exact h3 p hp u q
theorem AllW.leaf {m : Nat} {k : Str} {i j : Int} : AllW m (.leaf k i j) ↔ k ∈ SN := by
  simp [AllW, nodes, WOk]
theorem WOk.mono {m n : Nat} (h : m ≤ n) : ∀ {t : Tr}, WOk m t → WOk n t
  | .leaf _ _ _, w => w
  | .tree _ _ _ _ _, w => ⟨w.1, Nat.le_trans w.2 h⟩
theorem AllW.mono {m n : Nat} (h : m ≤ n) {t : Tr} (w : AllW m t) : AllW n t := fun u hu => (w u hu).mono h
/-! ### as data: shaped -/
mutual
theorem trD_lay {m : Nat} : ∀ t : Tr, AllW m t → (trD t).canLay0 = true
  | .leaf k i j, h => by
    have a := (sn_ok k (AllW.leaf.mp h)).1
    have b : PyData.strOk "leaf" = true := by decide +kernel
    simp [trD, PyData.canLay0, PyData.canLayAll0, a, b]
  | .tree N r i j ps, h => by
    obtain ⟨h1, h2, h3⟩ := AllW.tree.mp h
    have a := (sn_ok N h1).1
    have b : PyData.strOk "tree" = true := by decide +kernel
    have c := trDs_lay ps h3
    simp [trD, PyData.canLay0, PyData.canLayAll0, a, b, c]
theorem trDs_lay {m : Nat} : ∀ ts : List Tr, (∀ t ∈ ts, AllW m t) → PyData.canLayAll0 (trDs ts) = true
  | [], _ => by simp [trDs, PyData.canLayAll0]
  | t :: ts, h => by
    have a := trD_lay t (h t List.mem_cons_self)
    have b := trDs_lay ts fun x hx => h x (List.mem_cons_of_mem _ hx)
    simp [trDs, PyData.canLayAll0, a, b]
end
mutual
theorem trD_depth : ∀ t : Tr, (trD t).depth ≤ 2 * t.deep + 1
  | .leaf k i j => by simp [trD, PyData.depth, PyData.depthAll]
  | .tree N r i j ps => by
    have := trDs_depth ps
    simp only [trD, PyData.depth, PyData.depthAll, Tr.deep]
    omega
theorem trDs_depth : ∀ ts : List Tr, PyData.depthAll (trDs ts) ≤ 2 * deepL ts + 1
  | [] => by simp [trDs, PyData.depthAll]
  | t :: ts => by
    have := trD_depth t
    have := trDs_depth ts
    simp only [trDs, PyData.depthAll, deepL]
    omega
end
theorem trDs_shaped {m : Nat} {ts : List Tr} (h : ∀ t ∈ ts, AllW m t) (d : deepL ts ≤ 30) : SeqAt.shaped (.list (trDs ts)) = true := by
  refine shaped_mk ?_ ?_
  · rw [PyData.canLay0]
    exact trDs_lay ts h
  · have := trDs_depth ts
    simp only [PyData.depth]
    omega
theorem trD_shaped {m : Nat} {t : Tr} (h : AllW m t) (d : t.deep ≤ 30) : SeqAt.shaped (trD t) = true :=
  shaped_mk (trD_lay t h) (by have := trD_depth t; omega)
/-! ### a part in the place of another -/
theorem count_set {ps : List Tr} {n : Nat} {p q : Tr} (h : ps[n]? = some p) : countL (ps.take n ++ [q] ++ ps.drop (n + 1)) + p.count = countL ps + q.count := by
  obtain ⟨hn, e⟩ := List.getElem?_eq_some_iff.mp h
  have e2 : ps = ps.take n ++ [p] ++ ps.drop (n + 1) := by
    rw [← e, List.append_assoc, List.singleton_append, ← List.drop_eq_getElem_cons hn, List.take_append_drop]
  have e3 : countL ps = countL (ps.take n) + p.count + countL (ps.drop (n + 1)) := by
    have := congrArg countL e2
    rw [countL_app, countL_app] at this
    simp only [countL] at this
    omega
  rw [countL_app, countL_app, e3]
  simp only [countL]
  omega
theorem deep_all {m : Nat} {ps : List Tr} : deepL ps ≤ m ↔ ∀ p ∈ ps, p.deep ≤ m :=
  ⟨fun h p hp => Nat.le_trans (deepL_mem hp) h, fun h => deepL_le h⟩
theorem TrsA.cut {H : Hp} : ∀ {ts : List Tr} {vs : List V} (n : Nat), TrsA H ts vs → TrsA H (ts.take n) (vs.take n) ∧ TrsA H (ts.drop n) (vs.drop n)
  | [], vs, n, h => by
    unfold TrsA at h
    subst h
    simp [TrsA]
  | t :: ts, vs, 0, h => by
    refine ⟨by simp [TrsA], h⟩
  | t :: ts, vs, n + 1, h => by
    unfold TrsA at h
    obtain ⟨v, ws, rfl, h1, h2⟩ := h
    obtain ⟨a, b⟩ := h2.cut n
    refine ⟨?_, b⟩
    show TrsA H (t :: ts.take n) (v :: ws.take n)
    unfold TrsA
    exact ⟨v, _, rfl, h1, a⟩
theorem mem_set {ps : List Tr} {n : Nat} {q z : Tr} (h : z ∈ ps.take n ++ [q] ++ ps.drop (n + 1)) : z ∈ ps ∨ z = q := by
  rcases List.mem_append.mp h with m | m
  · rcases List.mem_append.mp m with m | m
    · exact .inl (List.mem_of_mem_take m)
    · exact .inr (List.mem_singleton.mp m)
  · exact .inl (List.mem_of_mem_drop m)
theorem least_all {B : Pb} (ok : PbOk B) : ∃ T : Nat → Nat → Ent, ∀ a b, LeastAt B (T a b) a b := by
  have ex : ∀ a b, ∃ e : Ent, LeastAt B e a b := fun a b => by
    have f1 : ∀ N, ∃ o, LeastO (TreeC B N a b) o := fun N => least_ex fun c h => TreeC.pos ok h
    have f2 : ∀ r d, ∃ o, LeastO (RestC B r d a b) o := fun r d => least_ex fun c h => RestC.pos ok h
    exact ⟨⟨fun N => Classical.choose (f1 N), fun r d => Classical.choose (f2 r d)⟩, fun N => Classical.choose_spec (f1 N), fun r d => Classical.choose_spec (f2 r d)⟩
  exact ⟨fun a b => Classical.choose (ex a b), fun a b => Classical.choose_spec (ex a b)⟩
theorem Lay.of {H : Hp} {g t r f : Addr} {G : List Rule} {Z : Prc} {row : List Str} {F : List (List Key × V)} {T : Nat → Nat → Ent} (hG : GraA H g G) (gt : GramT G) (hZ : PrA H t Z) (ok : PrcOk Z) (hrow : H r = some (.lst (row.map V.str))) (len : row.length ≤ 60) (hf : H f = some (.dT F)) (tab : TabK H G row.length F T)
    (hT : ∀ i j, i ≤ j → j ≤ row.length → LeastAt (pbOf G Z row kn0) (T i j) i j) : ∃ T2, Lay H g t r f G Z row F T2 ∧ ∀ i j, i ≤ j → j ≤ row.length → T2 i j = T i j := by
  obtain ⟨T0, h0⟩ := least_all (kn0_ok2 (G := G) ok row)
  have e : ∀ i j, i ≤ j → j ≤ row.length → T i j = (if i ≤ j ∧ j ≤ row.length then T i j else T0 i j) := fun i j h1 h2 => (if_pos ⟨h1, h2⟩).symm
  refine ⟨fun i j => if i ≤ j ∧ j ≤ row.length then T i j else T0 i j, ⟨hG, gt, hZ, ok, hrow, len, hf, tab.congr e, fun a b => ?_⟩, fun i j h1 h2 => (e i j h1 h2).symm⟩
  by_cases h : a ≤ b ∧ b ≤ row.length
  · show LeastAt _ (if a ≤ b ∧ b ≤ row.length then T a b else T0 a b) a b
    rw [if_pos h]
    exact hT a b h.1 h.2
  · show LeastAt _ (if a ≤ b ∧ b ≤ row.length then T a b else T0 a b) a b
    rw [if_neg h]
    exact h0 a b
/-! ### nodes of trees as they are due -/
def NdOk (n : Nat) : Tr → Prop
  | .leaf k i j => k ∈ SN ∧ 0 ≤ i ∧ i ≤ (n : Int) ∧ 0 ≤ j ∧ j ≤ (n : Int)
  | .tree N r i j ps => N ∈ SN ∧ 0 ≤ r ∧ r ≤ 12 ∧ 0 ≤ i ∧ i ≤ (n : Int) ∧ 0 ≤ j ∧ j ≤ (n : Int) ∧ ps.length ≤ 3
mutual
theorem due_node {G : List Rule} (gt : GramT G) {n : Nat} : ∀ {t : Tr}, dueB G n t = true → ∀ u ∈ nodes t, NdOk n u
  | .leaf k i j, h, u, hu => by
    have : u = .leaf k i j := by simpa [nodes] using hu
    subst this
    unfold dueB at h
    simp only [Bool.and_eq_true, decide_eq_true_eq] at h
    obtain ⟨h1, h2, _⟩ := h
    obtain ⟨q, hq, hk⟩ := List.any_eq_true.mp h2
    exact ⟨sn_of ((gt.good q hq).2.2 k (of_decide_eq_true hk)), by omega, by omega, by omega, by omega⟩
  | .tree N r i j ps, h, u, hu => by
    have few := gt.few
    unfold dueB at h
    simp only [Bool.and_eq_true, decide_eq_true_eq] at h
    obtain ⟨h1, h3, h4⟩ := h
    cases hg : G[r.toNat]? with
    | none =>
      rw [hg] at h4
      cases h4
    | some x =>
      obtain ⟨M, ss⟩ := x
      rw [hg] at h4
      dsimp only at h4
      simp only [Bool.and_eq_true, decide_eq_true_eq] at h4
      obtain ⟨e1, e2, e4⟩ := h4
      have good := gt.good _ (List.mem_of_getElem? hg)
      have e3 := congrArg List.length e2
      rw [List.length_map] at e3
      rw [nodes] at hu
      rcases List.mem_cons.mp hu with rfl | m
      · refine ⟨by rw [← e1]; exact sn_of (.inl good.1), by omega, by omega, by omega, by omega, by omega, by omega, by rw [e3]; exact good.2.1⟩
      · exact due_nodeL gt e4 u m
theorem due_nodeL {G : List Rule} (gt : GramT G) {n : Nat} : ∀ {ps : List Tr} {a j : Int}, dueL G n a j ps = true → ∀ u ∈ nodesL ps, NdOk n u
  | [], _, _, _, u, hu => by simp [nodesL] at hu
  | p :: ps, _, _, h, u, hu => by
    unfold dueL at h
    simp only [Bool.and_eq_true, decide_eq_true_eq] at h
    obtain ⟨_, h2, _, h4⟩ := h
    rw [nodesL] at hu
    rcases List.mem_append.mp hu with m | m
    · exact due_node gt h2 u m
    · exact due_nodeL gt h4 u m
end
theorem NdOk.w {n : Nat} : ∀ {t : Tr}, NdOk n t → WOk 3 t
  | .leaf _ _ _, h => h.1
  | .tree _ _ _ _ _, h => ⟨h.1, h.2.2.2.2.2.2.2⟩
theorem int2 {i : Int} (h0 : 0 ≤ i) (h1 : i ≤ 60) : wt (.int i) ≤ 2 ∧ (PyData.int i).showable = true := by
  obtain ⟨n, rfl⟩ := Int.eq_ofNat_of_zero_le h0
  have : ∀ k : Fin 61, wt (.int ((k.val : Nat) : Int)) ≤ 2 ∧ (PyData.int ((k.val : Nat) : Int)).showable = true := by decide +kernel
  exact this ⟨n, by omega⟩
theorem sn_wt : ∀ s ∈ SN, wt (.str s) ≤ 7 := by decide +kernel
mutual
theorem trD_wt {n : Nat} (n6 : n ≤ 60) : ∀ t : Tr, (∀ u ∈ nodes t, NdOk n u) → wt (trD t) + 2 ≤ 45 * t.count
  | .leaf k i j, h => by
    obtain ⟨h1, h2, h3, h4, h5⟩ := h _ (nodes_self _)
    have a := sn_wt k h1
    have b := (int2 h2 (by omega)).1
    have c := (int2 h4 (by omega)).1
    have d : wt (.str "leaf") = 6 := by decide +kernel
    simp only [trD, wt, wtAll, count] at a b c d ⊢
    omega
  | .tree N r i j ps, h => by
    obtain ⟨h1, h2, h3, h4, h5, h6, h7, _⟩ := h _ (nodes_self _)
    have a := sn_wt N h1
    have b := (int2 h2 (by omega)).1
    have c := (int2 h4 (by omega)).1
    have c2 := (int2 h6 (by omega)).1
    have d : wt (.str "tree") = 6 := by decide +kernel
    have e := trDs_wt n6 ps fun t ht u hu => h u (by rw [nodes]; exact List.mem_cons_of_mem _ (nodesL_mem ht hu))
    simp only [trD, wt, wtAll, count] at a b c c2 d e ⊢
    omega
theorem trDs_wt {n : Nat} (n6 : n ≤ 60) : ∀ ts : List Tr, (∀ t ∈ ts, ∀ u ∈ nodes t, NdOk n u) → wtAll (trDs ts) ≤ 45 * countL ts
  | [], _ => by simp [trDs, wtAll]
  | t :: ts, h => by
    have a := trD_wt n6 t (h t List.mem_cons_self)
    have b := trDs_wt n6 ts fun x hx => h x (List.mem_cons_of_mem _ hx)
    simp only [trDs, wtAll, countL]
    omega
end
mutual
theorem trD_show {n : Nat} (n6 : n ≤ 60) : ∀ t : Tr, (∀ u ∈ nodes t, NdOk n u) → (trD t).showable = true
  | .leaf k i j, h => by
    obtain ⟨h1, h2, h3, h4, h5⟩ := h _ (nodes_self _)
    have b := (int2 h2 (by omega)).2
    have c := (int2 h4 (by omega)).2
    rw [trD, PyData.showable, PyData.showableAll, PyData.showableAll, PyData.showableAll, PyData.showableAll, PyData.showableAll, b, c]
    rfl
  | .tree N r i j ps, h => by
    obtain ⟨h1, h2, h3, h4, h5, h6, h7, _⟩ := h _ (nodes_self _)
    have b := (int2 h2 (by omega)).2
    have c := (int2 h4 (by omega)).2
    have c2 := (int2 h6 (by omega)).2
    have e := trDs_show n6 ps fun t ht u hu => h u (by rw [nodes]; exact List.mem_cons_of_mem _ (nodesL_mem ht hu))
    have f : (PyData.list (trDs ps)).showable = true := by rw [PyData.showable]; exact e
    rw [trD, PyData.showable, PyData.showableAll, PyData.showableAll, PyData.showableAll, PyData.showableAll, PyData.showableAll, PyData.showableAll, PyData.showableAll, b, c, c2, f]
    rfl
theorem trDs_show {n : Nat} (n6 : n ≤ 60) : ∀ ts : List Tr, (∀ t ∈ ts, ∀ u ∈ nodes t, NdOk n u) → PyData.showableAll (trDs ts) = true
  | [], _ => by simp [trDs, PyData.showableAll]
  | t :: ts, h => by
    have a := trD_show n6 t (h t List.mem_cons_self)
    have b := trDs_show n6 ts fun x hx => h x (List.mem_cons_of_mem _ hx)
    rw [trDs, PyData.showableAll, a, b]
    rfl
end
theorem trD_fits {n : Nat} (n6 : n ≤ 60) {t : Tr} (h : ∀ u ∈ nodes t, NdOk n u) (c : t.count ≤ 300000) : (trD t).shown.length ≤ sizeLine := by
  have := shown_wt (trD t)
  have := trD_wt n6 t h
  rw [sizeLine_eq]
  omega
end Ld

set_option Elab.async false
set_option linter.all false
set_option maxRecDepth 100000
set_option maxHeartbeats 4000000
/-! Costs of trees: mathematics. -/
namespace Ld
open PySem PySem.Spec PyProof.Rows L2 Lg Lr Lb
open Tr
mutual
def prT (Z : Prc) (row : List Str) : Tr → Int
  | .leaf k i j => leafP Z row k i.toNat j.toNat
  | .tree _ _ _ _ ps => prL Z row ps
def prL (Z : Prc) (row : List Str) : List Tr → Int
  | [] => 0
  | t :: ts => prT Z row t + prL Z row ts
end
def coT (Z : Prc) (row : List Str) (t : Tr) : Cost := (prT Z row t, t.count)
theorem prL_app (Z : Prc) (row : List Str) : ∀ a b : List Tr, prL Z row (a ++ b) = prL Z row a + prL Z row b
  | [], b => by simp [prL]
  | t :: ts, b => by
    simp only [List.cons_append, prL, prL_app Z row ts b]
    omega
def partsOf : Tr → List Tr
  | .leaf _ _ _ => []
  | .tree _ _ _ _ ps => ps
/-- from the end on, the costs of the parts wait where a tree comes -/
def GoodC (c : Tr → Cost) : List Tr → List Cost → Prop
  | [], _ => True
  | u :: us, W => ∃ W0, W = W0 ++ ((partsOf u).map c).reverse ∧ GoodC c us (W0 ++ [c u])
mutual
theorem good_t (c : Tr → Cost) : ∀ (t : Tr) (rest : List Tr) (W : List Cost), GoodC c rest (W ++ [c t]) → GoodC c ((nodes t).reverse ++ rest) W
  | .leaf k i j, rest, W, h => ⟨W, by simp [partsOf], h⟩
  | .tree N r i j ps, rest, W, h => by
    have := good_l c ps (.tree N r i j ps :: rest) W ⟨W, rfl, h⟩
    rw [nodes, List.reverse_cons, List.append_assoc]
    exact this
theorem good_l (c : Tr → Cost) : ∀ (ts : List Tr) (rest : List Tr) (W : List Cost), GoodC c rest (W ++ (ts.map c).reverse) → GoodC c ((nodesL ts).reverse ++ rest) W
  | [], rest, W, h => by simpa [nodesL] using h
  | t :: ts, rest, W, h => by
    rw [nodesL, List.reverse_append, List.append_assoc]
    refine good_l c ts _ W (good_t c t rest _ ?_)
    rw [List.map_cons, List.reverse_cons, ← List.append_assoc] at h
    exact h
end
theorem good_all (c : Tr → Cost) (t : Tr) : GoodC c (nodes t).reverse [] := by
  have := good_t c t [] [] True.intro
  rwa [List.append_nil] at this
/-- leaves lie within the row -/
def LfOk (n : Nat) : Tr → Prop
  | .leaf _ i j => 0 ≤ i ∧ i ≤ j ∧ j ≤ (n : Int)
  | .tree _ _ _ _ _ => True
mutual
theorem due_leafs {G : List Rule} {n : Nat} : ∀ {t : Tr}, dueB G n t = true → ∀ u ∈ nodes t, LfOk n u
  | .leaf k i j, h, u, hu => by
    have : u = .leaf k i j := by simpa [nodes] using hu
    subst this
    unfold dueB at h
    simp only [Bool.and_eq_true, decide_eq_true_eq] at h
    exact h.1
  | .tree N r i j ps, h, u, hu => by
    unfold dueB at h
    simp only [Bool.and_eq_true, decide_eq_true_eq] at h
    obtain ⟨h1, h3, h4⟩ := h
    cases hg : G[r.toNat]? with
    | none =>
      rw [hg] at h4
      cases h4
    | some x =>
      rw [hg] at h4
      dsimp only at h4
      simp only [Bool.and_eq_true, decide_eq_true_eq] at h4
      rw [nodes] at hu
      rcases List.mem_cons.mp hu with rfl | m
      · exact True.intro
      · exact due_leafsL h4.2.2 u m
theorem due_leafsL {G : List Rule} {n : Nat} : ∀ {ps : List Tr} {a j : Int}, dueL G n a j ps = true → ∀ u ∈ nodesL ps, LfOk n u
  | [], _, _, _, u, hu => by simp [nodesL] at hu
  | p :: ps, _, _, h, u, hu => by
    unfold dueL at h
    simp only [Bool.and_eq_true, decide_eq_true_eq] at h
    obtain ⟨_, h2, _, h4⟩ := h
    rw [nodesL] at hu
    rcases List.mem_append.mp hu with m | m
    · exact due_leafs h2 u m
    · exact due_leafsL h4 u m
end
theorem due_bounds {G : List Rule} {n : Nat} {t : Tr} (h : dueB G n t = true) : 0 ≤ t.lo ∧ t.lo ≤ t.hi ∧ t.hi ≤ (n : Int) := by
  by_cases c : 0 ≤ t.lo ∧ t.lo ≤ t.hi ∧ t.hi ≤ (n : Int)
  · exact c
  · rw [due_out c] at h
    cases h
theorem due_end {G : List Rule} {n : Nat} : ∀ {ps : List Tr} {a j : Int}, dueL G n a j ps = true → a ≤ j
  | [], a, j, h => by
    unfold dueL at h
    have := of_decide_eq_true h
    omega
  | p :: ps, a, j, h => by
    unfold dueL at h
    simp only [Bool.and_eq_true, decide_eq_true_eq] at h
    obtain ⟨rfl, h2, _, h4⟩ := h
    have := due_bounds h2
    have := due_end h4
    omega
/-! ### a tree that is due has a cost of its name -/
mutual
theorem due_tree {G : List Rule} {Z : Prc} {row : List Str} : ∀ {t : Tr}, dueB G row.length t = true → t.isT = true → TreeC (pbOf G Z row kn0) t.sym t.lo.toNat t.hi.toNat (coT Z row t)
  | .leaf _ _ _, _, h => by cases h
  | .tree N r i j ps, h, _ => by
    unfold dueB at h
    simp only [Bool.and_eq_true, decide_eq_true_eq] at h
    obtain ⟨h1, h3, h4⟩ := h
    cases hg : G[r.toNat]? with
    | none =>
      rw [hg] at h4
      cases h4
    | some x =>
      obtain ⟨M, ss⟩ := x
      rw [hg] at h4
      dsimp only at h4
      simp only [Bool.and_eq_true, decide_eq_true_eq] at h4
      obtain ⟨rfl, e2, e4⟩ := h4
      have := due_rest (Z := Z) hg (d := 0) (Nat.zero_le _) (by rw [e2]; rfl) h1.1 e4
      have e : coT Z row (.tree M r i j ps) = ((prL Z row ps, (countL ps : Int)).1, (prL Z row ps, (countL ps : Int)).2 + 1) := by
        unfold coT
        refine Prod.ext ?_ ?_
        · simp [prT]
        · simp only [count]
          omega
      rw [e]
      exact .mk rfl hg this
theorem due_rest {G : List Rule} {Z : Prc} {row : List Str} {M : Str} {ss : List Str} {r : Nat} (hg : G[r]? = some (M, ss)) : ∀ {ps : List Tr} {d : Nat} {a j : Int}, d ≤ ss.length → ps.map Tr.sym = ss.drop d → 0 ≤ a → dueL G row.length a j ps = true → RestC (pbOf G Z row kn0) r d a.toNat j.toNat (prL Z row ps, (countL ps : Int))
  | [], d, a, j, dl, hs, a0, h => by
    unfold dueL at h
    obtain rfl := of_decide_eq_true h
    have : ss.length ≤ d := by
      have := congrArg List.length hs
      rw [List.length_drop, List.map_nil, List.length_nil] at this
      omega
    have e : d = ss.length := by omega
    exact .nil (B := pbOf G Z row kn0) rfl hg e
  | p :: ps, d, a, j, dl, hs, a0, h => by
    unfold dueL at h
    simp only [Bool.and_eq_true, decide_eq_true_eq] at h
    obtain ⟨rfl, h2, h3, h4⟩ := h
    have hd : d < ss.length := by
      have := congrArg List.length hs
      rw [List.length_drop, List.map_cons, List.length_cons] at this
      omega
    rw [List.map_cons, List.drop_eq_getElem_cons hd, List.cons.injEq] at hs
    have hs1 : ss[d]? = some p.sym := by rw [List.getElem?_eq_getElem hd, hs.1]
    have b := due_bounds h2
    have ih := due_rest (Z := Z) hg (d := d + 1) hd hs.2 (by omega) h4
    have hi := due_end h4
    cases hT : p.isT with
    | true =>
      rw [hT] at h3
      have t := due_tree (Z := Z) (row := row) h2 hT
      have := RestC.tree (B := pbOf G Z row kn0) rfl hg hs1 h3 (by omega) (by omega) t ih
      rw [show ((prL Z row (p :: ps), (countL (p :: ps) : Int)) : Cost) = ((coT Z row p).1 + prL Z row ps, (coT Z row p).2 + (countL ps : Int)) from by
        simp [coT, prL, countL]]
      exact this
    | false =>
      rw [hT] at h3
      have := RestC.leaf (B := pbOf G Z row kn0) (i := p.lo.toNat) rfl hg hs1 h3 (by omega) (by omega) ih
      cases p with
      | tree _ _ _ _ _ => cases hT
      | leaf k i j' =>
        rw [show ((prL Z row (Tr.leaf k i j' :: ps), (countL (Tr.leaf k i j' :: ps) : Int)) : Cost) = (leafP Z row k i.toNat j'.toNat + prL Z row ps, 1 + (countL ps : Int)) from by
          simp [prL, prT, countL, count]]
        exact this
end
end Ld

set_option Elab.async false
set_option linter.all false
set_option maxRecDepth 100000
set_option maxHeartbeats 4000000
/-! The first tree of a name over a stretch: mathematics. -/
namespace Ld
open PySem PySem.Spec PyProof.Rows L2 Lg Lr Lb
open Tr
def addC : Option Cost → Option Cost → Option Cost
  | some a, some b => some (a.1 + b.1, a.2 + b.2)
  | _, _ => none
/-- the cost of the rest from d on, its first symbol k up to e -/
def spC (B : Pb) (T : Nat → Nat → Ent) (r d : Nat) (k : Str) (b e j : Nat) : Option Cost := addC (headC B T k b e) ((T e j).rs r (d + 1))
mutual
inductive First (B : Pb) (T : Nat → Nat → Ent) : Str → Nat → Nat → Tr → Prop
  | leaf {k : Str} {i j : Nat} : B.isN k = false → First B T k i j (.leaf k i j)
  | tree {N : Str} {i j r : Nat} {ss : List Str} {x : Cost} {ps : List Tr} : B.isN N = true → B.G[r]? = some (N, ss) → (T i j).rs r 0 = some x → (T i j).nm N = some (x.1, x.2 + 1) →
      (∀ r' ss' x', r' < r → B.G[r']? = some (N, ss') → (T i j).rs r' 0 = some x' → (T i j).nm N ≠ some (x'.1, x'.2 + 1)) → FirstP B T r ss 0 i j ps → First B T N i j (.tree N r i j ps)
inductive FirstP (B : Pb) (T : Nat → Nat → Ent) : Nat → List Str → Nat → Nat → Nat → List Tr → Prop
  | nil {r d b j : Nat} {ss : List Str} : d = ss.length → FirstP B T r ss d b j []
  | cons {r d b j e : Nat} {ss : List Str} {k : Str} {p : Tr} {ps : List Tr} {y : Cost} : ss[d]? = some k → b ≤ e → e ≤ j → (T b j).rs r d = some y → spC B T r d k b e j = some y → (∀ e', b ≤ e' → e' < e → spC B T r d k b e' j ≠ some y) →
      First B T k b e p → FirstP B T r ss (d + 1) e j ps → FirstP B T r ss d b j (p :: ps)
end
mutual
theorem First.det {B : Pb} {T : Nat → Nat → Ent} : ∀ {N : Str} {i j : Nat} {t u : Tr}, First B T N i j t → First B T N i j u → t = u
  | _, _, _, _, _, .leaf h, k => by
    cases k with
    | leaf _ => rfl
    | tree h2 _ _ _ _ _ =>
      rw [h] at h2
      cases h2
  | _, i, j, _, _, .tree (N := N) (r := r) (ss := ss) h1 h2 h3 h4 h5 h6, k => by
    cases k with
    | leaf g =>
      rw [h1] at g
      cases g
    | tree g1 g2 g3 g4 g5 g6 =>
      rename_i r' ss' x' ps'
      have e : r = r' := by
        rcases Nat.lt_trichotomy r r' with l | l | l
        · exact absurd h4 (g5 _ _ _ l h2 h3)
        · exact l
        · exact absurd g4 (h5 _ _ _ l g2 g3)
      subst e
      rw [h2] at g2
      cases g2
      rw [FirstP.det h6 g6]
theorem FirstP.det {B : Pb} {T : Nat → Nat → Ent} : ∀ {r : Nat} {ss : List Str} {d b j : Nat} {ps qs : List Tr}, FirstP B T r ss d b j ps → FirstP B T r ss d b j qs → ps = qs
  | _, _, _, _, _, _, _, .nil h, k => by
    cases k with
    | nil _ => rfl
    | cons g _ _ _ _ _ _ _ =>
      have := (List.getElem?_eq_some_iff.mp g).1
      omega
  | _, _, _, _, _, _, _, .cons (e := e) h1 h2 h3 h4 h5 h6 h7 h8, k => by
    cases k with
    | nil g =>
      have := (List.getElem?_eq_some_iff.mp h1).1
      omega
    | cons g1 g2 g3 g4 g5 g6 g7 g8 =>
      rename_i e' k' p' ps' y'
      rw [h1] at g1
      cases g1
      rw [h4] at g4
      cases g4
      have ee : e = e' := by
        rcases Nat.lt_trichotomy e e' with l | l | l
        · exact absurd h5 (g6 _ h2 l)
        · exact l
        · exact absurd g5 (h6 _ g2 l)
      subst ee
      rw [First.det h7 g7, FirstP.det h8 g8]
end
theorem least_nat {p : Nat → Prop} : ∀ n, p n → ∃ m, m ≤ n ∧ p m ∧ ∀ k, k < m → ¬ p k := by
  intro n
  induction n using Nat.strongRecOn with
  | _ n ih =>
    intro h
    by_cases c : ∃ k, k < n ∧ p k
    · obtain ⟨k, kn, pk⟩ := c
      obtain ⟨m, m1, m2, m3⟩ := ih k kn pk
      exact ⟨m, by omega, m2, m3⟩
    · exact ⟨n, Nat.le_refl _, h, fun k kn pk => c ⟨k, kn, pk⟩⟩
theorem addC_some {a b : Option Cost} {y : Cost} (h : addC a b = some y) : ∃ x z, a = some x ∧ b = some z ∧ y = (x.1 + z.1, x.2 + z.2) := by
  cases a with
  | none => cases h
  | some x =>
    cases b with
    | none => cases h
    | some z => exact ⟨x, z, rfl, rfl, (Option.some.inj h).symm⟩
section
variable {B : Pb} {T : Nat → Nat → Ent}
theorem head_pos (ok : PbOk B) (hT : ∀ a b, LeastAt B (T a b) a b) {k : Str} {b e : Nat} {x : Cost} (h : headC B T k b e = some x) : 0 ≤ x.1 ∧ 0 ≤ x.2 := by
  unfold headC at h
  split at h
  · exact nm_pos ok hT h
  · cases h
    exact ⟨ok.leaf k b e, by show (0 : Int) ≤ 1; decide⟩
theorem first_ex (ok : PbOk B) (hT : ∀ a b, LeastAt B (T a b) a b) (kn : ∀ i j, B.kn i j = none) {Ns : List Str} (n4 : Ns.length ≤ 4) (names : ∀ r ∈ B.G, ∀ s ∈ r.2, B.isN s = true → s ∈ Ns) :
    ∀ (n : Nat) {i j : Nat} {N : Str} {c : Cost}, i ≤ j → B.isN N = true → (T i j).nm N = some c → mu T Ns i j c < n → ∃ t, First B T N i j t := by
  intro n
  induction n with
  | zero => intro i j N c _ _ _ h; exact absurd h (Nat.not_lt_zero _)
  | succ n ih =>
    intro i j N c ij hN hc hm
    obtain ⟨r0, ss0, x0, g0, rs0, e0⟩ := name_split hT kn hc
    obtain ⟨r, _, ⟨ss, x, g, rs, e2_⟩, least⟩ := least_nat (p := fun r => ∃ ss x, B.G[r]? = some (N, ss) ∧ (T i j).rs r 0 = some x ∧ (x.1, x.2 + 1) = c) r0 ⟨ss0, x0, g0, rs0, e0⟩
    have parts : ∀ (m d b : Nat) (y : Cost), d + m = ss.length → i ≤ b → b ≤ j → (T b j).rs r d = some y → y.1 ≤ x.1 → y.2 ≤ x.2 → ∃ ps, FirstP B T r ss d b j ps := by
      intro m
      induction m with
      | zero => exact fun d b y hd _ _ _ _ _ => ⟨[], .nil (by omega)⟩
      | succ m ihm =>
        intro d b y hd ib bj hy y1 y2
        obtain ⟨k, hk⟩ : ∃ k, ss[d]? = some k := ⟨_, List.getElem?_eq_getElem (by omega)⟩
        obtain ⟨e1, xh, z, be, ej, hx, hz, hy2⟩ := rest_split hT kn g hk hy
        have sp : spC B T r d k b e1 j = some y := by
          unfold spC headC
          rw [hz]
          split at hx
          · rename_i c1
            rw [if_pos c1, hx, hy2]
            rfl
          · rename_i c1
            rw [if_neg c1, ← hx, hy2]
            rfl
        obtain ⟨e, ele, ⟨be', esp⟩, lst⟩ := least_nat (p := fun e => b ≤ e ∧ spC B T r d k b e j = some y) e1 ⟨be, sp⟩
        obtain ⟨xh, z, hx, hz, rfl⟩ := addC_some esp
        have p1 := head_pos ok hT hx
        have p2 := rs_pos ok hT hz
        dsimp only at y1 y2
        obtain ⟨ps, hps⟩ := ihm (d + 1) e z (by omega) (by omega) (by omega) hz (by omega) (by omega)
        have fst : ∃ p, First B T k b e p := by
          unfold headC at hx
          split at hx
          · rename_i c1
            refine ih be' c1 hx ?_
            have := mu_less (T := T) n4 (i := i) (j := j) (a := b) (b := e) ib be' (by omega) (names _ (List.mem_of_getElem? g) k (List.mem_of_getElem? hk) c1) hx (c := c) (by rw [← e2_]; dsimp only; omega) (by rw [← e2_]; dsimp only; omega)
            omega
          · rename_i c1
            exact ⟨_, .leaf (by simpa using c1)⟩
        obtain ⟨p, hp⟩ := fst
        exact ⟨p :: ps, .cons hk be' (by omega) hy esp (fun e' h1 h2 h3 => lst e' h2 ⟨h1, h3⟩) hp hps⟩
    obtain ⟨ps, hps⟩ := parts ss.length 0 i x (by omega) (Nat.le_refl _) ij rs (Int.le_refl _) (Int.le_refl _)
    refine ⟨.tree N r i j ps, .tree hN g rs (by rw [hc, e2_]) (fun r' ss' x' l g' rs' h => ?_) hps⟩
    rw [hc] at h
    exact least r' l ⟨ss', x', g', rs', (Option.some.inj h).symm⟩
end
/-! ### what it is -/
theorem headC_is {G : List Rule} {Z : Prc} {row : List Str} {T : Nat → Nat → Ent} (k : Str) (b e : Nat) : headC (pbOf G Z row kn0) T k b e = (if isLow k = true then (T b e).nm k else some (leafP Z row k b e, 1)) := rfl
mutual
theorem First.info {G : List Rule} (gt : GramT G) {Z : Prc} {row : List Str} {T : Nat → Nat → Ent} (hT : ∀ a b, LeastAt (pbOf G Z row kn0) (T a b) a b) : ∀ {N : Str} {i j : Nat} {t : Tr}, First (pbOf G Z row kn0) T N i j t → i ≤ j → j ≤ row.length → (∃ q ∈ G, N = q.1 ∨ N ∈ q.2) →
    t.sym = N ∧ t.lo = (i : Int) ∧ t.hi = (j : Int) ∧ dueB G row.length t = true ∧ isLow N = t.isT ∧ headC (pbOf G Z row kn0) T N i j = some (coT Z row t)
  | _, _, _, _, .leaf (k := k) (i := i) (j := j) h, ij, jn, sin => by
    have h : isLow k = false := h
    refine ⟨rfl, rfl, rfl, ?_, h, ?_⟩
    · have an : (G.any fun r => decide (k ∈ r.2)) = true := by
        obtain ⟨q', hq, rfl | m⟩ := sin
        · rw [n4t_low _ (gt.good _ hq).1] at h
          cases h
        · exact List.any_eq_true.mpr ⟨q', hq, decide_eq_true m⟩
      unfold dueB
      rw [decide_eq_true (show 0 ≤ (i : Int) ∧ (i : Int) ≤ (j : Int) ∧ (j : Int) ≤ (row.length : Int) by omega), an, h]
      rfl
    · rw [headC_is, h, if_neg Bool.false_ne_true]
      rfl
  | _, _, _, _, .tree (N := N) (i := i) (j := j) (r := r) (ss := ss) (x := x) (ps := ps) h1 h2 h3 h4 h5 h6, ij, jn, sin => by
    have h1 : isLow N = true := h1
    have h2 : G[r]? = some (N, ss) := h2
    obtain ⟨a1, a2, a3⟩ := FirstP.info gt hT h6 h2 ij jn h3
    refine ⟨rfl, rfl, rfl, ?_, h1, ?_⟩
    · unfold dueB
      have l := (List.getElem?_eq_some_iff.mp h2).1
      rw [decide_eq_true (show 0 ≤ (i : Int) ∧ (i : Int) ≤ (j : Int) ∧ (j : Int) ≤ (row.length : Int) by omega), decide_eq_true (show (0 : Int) ≤ (r : Int) ∧ (r : Int) < (G.length : Int) by omega), Int.toNat_natCast, h2]
      dsimp only
      rw [decide_eq_true (rfl : N = N), decide_eq_true (show ps.map Tr.sym = ss by rw [a1]; rfl), a2]
      rfl
    · rw [headC_is, h1, if_pos rfl, h4]
      refine congrArg some (Prod.ext ?_ ?_)
      · show x.1 = prT Z row _
        rw [← a3]
        simp [prT]
      · show x.2 + 1 = ((Tr.count _ : Nat) : Int)
        rw [← a3]
        simp only [count]
        omega
theorem FirstP.info {G : List Rule} (gt : GramT G) {Z : Prc} {row : List Str} {T : Nat → Nat → Ent} (hT : ∀ a b, LeastAt (pbOf G Z row kn0) (T a b) a b) : ∀ {r : Nat} {ss : List Str} {d b j : Nat} {ps : List Tr} {M : Str} {y : Cost}, FirstP (pbOf G Z row kn0) T r ss d b j ps → G[r]? = some (M, ss) → b ≤ j → j ≤ row.length → (T b j).rs r d = some y →
    ps.map Tr.sym = ss.drop d ∧ dueL G row.length (b : Int) (j : Int) ps = true ∧ (prL Z row ps, (countL ps : Int)) = y
  | _, _, _, _, _, _, _, _, .nil (b := b) (j := j) h, hg, bj, jn, hy => by
    subst h
    obtain ⟨rfl, rfl⟩ := rest_end hT (fun _ _ => rfl) hg hy
    refine ⟨by simp, by unfold dueL; exact decide_eq_true rfl, by simp [prL, countL]⟩
  | _, _, _, _, _, _, M, _, .cons (d := d) (b := b) (j := j) (e := e) (ss := ss) (k := k) (p := p) (ps := ps) h1 h2 h3 h4 h5 h6 h7 h8, hg, bj, jn, hy => by
    rw [h4] at hy
    cases hy
    obtain ⟨x, z, hx, hz, rfl⟩ := addC_some h5
    have dl := (List.getElem?_eq_some_iff.mp h1).1
    obtain ⟨a1, a2, a3⟩ := FirstP.info gt hT h8 hg h3 jn hz
    obtain ⟨b1, b2, b3, b4, b5, b6⟩ := First.info gt hT h7 h2 (by omega) ⟨_, List.mem_of_getElem? hg, .inr (List.mem_of_getElem? h1)⟩
    rw [hx] at b6
    have b6 := Option.some.inj b6
    refine ⟨?_, ?_, ?_⟩
    · rw [List.map_cons, b1, a1, List.drop_eq_getElem_cons dl, (List.getElem?_eq_some_iff.mp h1).2]
    · unfold dueL
      rw [decide_eq_true b2, b4, b1, b5, decide_eq_true rfl, b3, a2]
      rfl
    · rw [b6, ← a3]
      simp [prL, countL, coT]
end
mutual
theorem First.deepB {B : Pb} {T : Nat → Nat → Ent} (ok : PbOk B) (hT : ∀ a b, LeastAt B (T a b) a b) {Ns : List Str} (n4 : Ns.length ≤ 4) (names : ∀ r ∈ B.G, ∀ s ∈ r.2, B.isN s = true → s ∈ Ns) : ∀ {N : Str} {i j : Nat} {t : Tr} {c : Cost}, First B T N i j t → i ≤ j → headC B T N i j = some c → B.isN N = true → t.deep ≤ mu T Ns i j c + 1
  | _, _, _, _, _, .leaf h, _, _, h2 => by
    rw [h] at h2
    cases h2
  | _, _, _, _, c, .tree (N := N) (i := i) (j := j) (x := x) (ps := ps) h1 h2 h3 h4 h5 h6, ij, hc, _ => by
    unfold headC at hc
    rw [if_pos h1, h4] at hc
    cases hc
    have := FirstP.deepB ok hT n4 names h6 (i := i) h2 (Nat.le_refl _) ij h3 (Int.le_refl _) (Int.le_refl _) (c := (x.1, x.2 + 1)) (Int.le_refl _) (by dsimp only; omega)
    simp only [Tr.deep]
    omega
theorem FirstP.deepB {B : Pb} {T : Nat → Nat → Ent} (ok : PbOk B) (hT : ∀ a b, LeastAt B (T a b) a b) {Ns : List Str} (n4 : Ns.length ≤ 4) (names : ∀ r ∈ B.G, ∀ s ∈ r.2, B.isN s = true → s ∈ Ns) : ∀ {r : Nat} {ss : List Str} {d b j : Nat} {ps : List Tr}, FirstP B T r ss d b j ps → ∀ {i : Nat} {M : Str} {y x c : Cost}, B.G[r]? = some (M, ss) → i ≤ b → b ≤ j → (T b j).rs r d = some y → y.1 ≤ x.1 → y.2 ≤ x.2 → x.1 ≤ c.1 → x.2 < c.2 → deepL ps ≤ mu T Ns i j c
  | _, _, _, _, _, _, .nil h, i, M, y, x, c, hg, _, _, _, _, _, _, _ => by simp [deepL]
  | _, _, _, _, _, _, .cons (b := b) (j := j) (e := e) (k := k) (p := p) h1 h2 h3 h4 h5 h6 h7 h8, i, M, y, x, c, hg, ib, bj, hy, l1, l2, l3, l4 => by
    rw [h4] at hy
    cases hy
    obtain ⟨xh, z, hx, hz, rfl⟩ := addC_some h5
    have p1 := head_pos ok hT hx
    have p2 := rs_pos ok hT hz
    dsimp only at l1 l2
    have a := FirstP.deepB ok hT n4 names h8 (i := i) hg (by omega) h3 hz (x := x) (c := c) (by omega) (by omega) l3 l4
    have b : p.deep ≤ mu T Ns i j c := by
      cases hk : B.isN k with
      | false =>
        cases h7 with
        | leaf _ => simp [Tr.deep]
        | tree g _ _ _ _ _ =>
          rw [hk] at g
          cases g
      | true =>
        have d := First.deepB ok hT n4 names h7 h2 hx hk
        have hx' : (T b e).nm k = some xh := by
          unfold headC at hx
          rwa [if_pos hk] at hx
        have := mu_less (T := T) n4 (i := i) (j := j) (a := b) (b := e) ib h2 (by omega) (names _ (List.mem_of_getElem? hg) k (List.mem_of_getElem? h1) hk) hx' (c := c) (by omega) (by omega)
        omega
    simp only [deepL]
    omega
end
end Ld

set_option Elab.async false
set_option linter.all false
set_option maxRecDepth 100000
set_option maxHeartbeats 4000000
namespace Ld
open PySem PySem.Spec PyProof.Rows L2 Lg Lr Lb
open Tr
def TreeF (B : Pb) (T : Nat → Nat → Ent) (H : Hp) (G : List Rule) (n : Nat) (s : Str) (i j : Nat) (sz : Int) (v : V) (dm : Nat) : Prop := ∃ t, TrA H t v ∧ t.sym = s ∧ t.lo = (i : Int) ∧ t.hi = (j : Int) ∧ dueB G n t = true ∧ isLow s = t.isT ∧ (t.count : Int) = sz ∧ t.deep ≤ dm ∧ First B T s i j t
def spFiF (n : Nat) : Sp := fun vs H Q _ => ∃ (g t r f : Addr) (G : List Rule) (Z : Prc) (row : List Str) (F : List (List Key × V)) (T : Nat → Nat → Ent) (s : Str) (i j : Nat), vs = [.ref g, .ref t, .ref r, .ref f, .str s, .int i, .int j] ∧ Lay H g t r f G Z row F T ∧ 0 < n ∧ i ≤ j ∧ j ≤ row.length ∧
  (∃ q ∈ G, s = q.1 ∨ s ∈ q.2) ∧ (isLow s = true → ∀ c, (T i j).nm s = some c → mu T N4t i j c + 1 < n) ∧
  ∀ v H2, Same H H2 → ((isLow s = true ∧ (T i j).nm s = none ∧ v = .non) ∨ ∃ sz, (if isLow s = true then ∃ c, (T i j).nm s = some c ∧ c.2 = sz else sz = 1) ∧ TreeF (pbOf G Z row kn0) T (News H H2) G row.length s i j sz v n) → Q v H2
def spPaF (n : Nat) : Sp := fun vs H Q _ => ∃ (g t r f : Addr) (G : List Rule) (Z : Prc) (row : List Str) (F : List (List Key × V)) (T : Nat → Nat → Ent) (ru : Nat) (N : Str) (ss : List Str) (i j : Nat) (c : Cost), vs = [.ref g, .ref t, .ref r, .ref f, .int ru, .int i, .int j] ∧ Lay H g t r f G Z row F T ∧ 0 < n ∧ i ≤ j ∧ j ≤ row.length ∧
  G[ru]? = some (N, ss) ∧ (T i j).rs ru 0 = some c ∧ (∀ M a b x, M ∈ ss → i ≤ a → a ≤ b → b ≤ j → isLow M = true → (T a b).nm M = some x → x.1 ≤ c.1 → x.2 ≤ c.2 → mu T N4t a b x + 1 < n) ∧
  ∀ p vs ps H2, Same H H2 → H p = none → H2 p = some (.lst vs) → TrsA (News H H2) ps vs → ps.map Tr.sym = ss → follows i j ps = true → (∀ q ∈ ps, dueB G row.length q = true ∧ isLow q.sym = q.isT ∧ q.deep ≤ n) → (countL ps : Int) = c.2 → FirstP (pbOf G Z row kn0) T ru ss 0 i j ps → Q (.ref p) H2
section
variable {P : Program} {w : World} {K : PySem.W.Frag} {mg : Str → Option Value} {base : Heap}
theorem scPa17 : FnScope ["grammar", "prices", "row", "found", "rule", "i", "j", "parts", "dot", "symbol", "end", "after", "cost"] ["grammar", "prices", "row", "found", "rule", "i", "j"] (defScope s__law_parts) := ⟨rfl, rfl, rfl, by decide +kernel, rfl, by decide +kernel, by decide +kernel⟩
theorem ok_paF {f' fL fN fF : Addr} {fd fdL fdN fdF : FuncData} {n : Nat} (FF : Fun K "_law_parts" "_law_parts" s__law_parts f' fd)
    (GL : FnOk P w K mg base CX0 2 fL fdL ["prices", "row", "kind", "i", "j"] spLeaf) (kL : PySem.W.keepIn K (.ref fL) = true) (bL : Binds K fdL ["prices", "row", "kind", "i", "j"] []) (gL : mg "_law_leaf" = some (.ref fL))
    (GN : FnOk P w K mg base CX0 1 fN fdN ["symbol"] spIsName) (kN' : PySem.W.keepIn K (.ref fN) = true) (bN : Binds K fdN ["symbol"] []) (gN : mg "_law_is_name" = some (.ref fN))
    (GF : FnOk P w K mg base CX0 (3 + 2 * n) fF fdF ["grammar", "prices", "row", "found", "symbol", "i", "j"] (spFiF n)) (kF : PySem.W.keepIn K (.ref fF) = true) (bF : Binds K fdF ["grammar", "prices", "row", "found", "symbol", "i", "j"] []) (gF : mg "_law_first" = some (.ref fF))
    (mr : mg "range" = none) (ml : mg "len" = none) : FnOk P w K mg base CX0 (4 + 2 * n) f' fd ["grammar", "prices", "row", "found", "rule", "i", "j"] (spPaF n) := by
  rw [show 4 + 2 * n = (3 + 2 * n) + 1 by omega]
  refine FF.ok scPa17 (fun vs H Q E h => ?_) (fun cdv A outer s H vs Q E hr h => ?_)
  · obtain ⟨g, t, r, f, G, Z, row, F, T, ru, N, ss, i, j, c, rfl, _⟩ := h
    rfl
  · obtain ⟨g, t, r, f, G, Z, row, F, T, ru, N, ss, i, j, c, rfl, lay, n0, ij, jn, hru, hc, fall, q⟩ := h
    have hu := units1 hr
    have hr1 := hr.mono (show 1 ≤ 3 + 2 * n by omega)
    have hr2 := hr.mono (show 2 ≤ 3 + 2 * n by omega)
    refine ⟨_, pss_cons (ps_set (i := 7) scPa17.nd rfl (.inl rfl) (pe_lst pa_nil))
      (pss_cons (ps_for PassesOwn.never rfl (pi_range1 rfl mr (pa_cons (pe_callB call_len_seq (by rfl) ml PySem.boot_len (pa_cons (pe_ix ix_tup (pe_ix ix_list (pv 0) (pv 4) (fun _ _ => rfl)) pe_int (fun _ _ => rfl)) pa_nil)) pa_nil)) (pg_name (i := 8) scPa17.nd rfl (.inl rfl))
        (pss_cons (ps_set (i := 9) scPa17.nd rfl (.inl rfl) (pe_ix ix_list (pe_ix ix_tup (pe_ix ix_list (pv 0) (pv 4) (fun _ _ => rfl)) pe_int (fun _ _ => rfl)) (pv 8) (fun _ _ => rfl)))
        (pss_one (ps_for PassesOwn.never rfl (pi_range2 rfl mr (pa_cons (pv 5) (pa_cons (pe_op op_add (pv 6) pe_int) pa_nil))) (pg_name (i := 10) scPa17.nd rfl (.inl rfl))
          (pss_cons (ps_set (i := 11) scPa17.nd rfl (.inl rfl) (pe_dget hu (pe_dget hu (pv 3) (pe_tup (pa_cons (pv 10) (pa_cons (pv 6) pa_nil))) (fun _ _ => rfl)) (pe_tup (pa_cons pe_str (pa_cons (pv 4) (pa_cons (pe_op op_add (pv 8) pe_int) pa_nil)))) (fun _ _ => rfl)))
          (pss_cons (ps_set (i := 12) scPa17.nd rfl (.inl rfl) (pe_tup (pa_cons (pe_call GL hr2 (by rfl) gL kL bL .nil pass0 (pa_cons (pv 1) (pa_cons (pv 2) (pa_cons (pv 9) (pa_cons (pv 5) (pa_cons (pv 10) pa_nil)))))) (pa_cons pe_int pa_nil))))
          (pss_cons (ps_if (pt_val (pe_call GN hr1 (by rfl) gN kN' bN .nil pass0 (pa_cons (pv 9) pa_nil))) (pss_one (ps_set (i := 12) scPa17.nd rfl (.inl rfl) (pe_dget hu (pe_dget hu (pv 3) (pe_tup (pa_cons (pv 5) (pa_cons (pv 10) pa_nil))) (fun _ _ => rfl)) (pe_tup (pa_cons pe_str (pa_cons (pv 9) pa_nil))) (fun _ _ => rfl)))) pss_nil)
          (pss_one (ps_if (PW.pt (pw_and (pt_cmp (pc_notN (pv 11)) (by rfl)) (pw_and1 (pt_cmp (pc_notN (pv 12)) (by rfl)))))
            (pss_one (ps_if (pt_cmpR (op_eqD (units64 hr)) (pe_tup (pa_cons (pe_op op_add (pe_ix ix_tup (pv 12) pe_int (fun _ _ => rfl)) (pe_ix ix_tup (pv 11) pe_int (fun _ _ => rfl))) (pa_cons (pe_op op_add (pe_ix ix_tup (pv 12) pe_int (fun _ _ => rfl)) (pe_ix ix_tup (pv 11) pe_int (fun _ _ => rfl))) pa_nil)))
                (pe_dget hu (pe_dget hu (pv 3) (pe_tup (pa_cons (pv 5) (pa_cons (pv 6) pa_nil))) (fun _ _ => rfl)) (pe_tup (pa_cons pe_str (pa_cons (pv 4) (pa_cons (pv 8) pa_nil)))) (fun _ _ => rfl)) (nomark _))
              (pss_cons (ps_expr (pe_bm PySem.F.plainAttrs_list PySem.F.slot_list_append PySem.F.type_list_append mt_append (pv 7) (pa_cons (pe_call GF hr (by rfl) gF kF bF .nil pass0 (pa_cons (pv 0) (pa_cons (pv 1) (pa_cons (pv 2) (pa_cons (pv 3) (pa_cons (pv 9) (pa_cons (pv 5) (pa_cons (pv 10) pa_nil)))))))) pa_nil)))
              (pss_cons (ps_set (i := 5) scPa17.nd rfl (.inl rfl) (pv 10))
              (pss_one ps_break))) pss_nil)) pss_nil)))))))))
      (pss_one (ps_ret (pv 7)))), ?_⟩
    obtain ⟨gvs, hg, gr⟩ := id lay.hG
    have gt := lay.gt
    obtain ⟨gv, hgv, tt, sl, rfl, htt, hsl⟩ : ∃ gv, gvs[ru]? = some gv ∧ RuleA H gv (N, ss) := by
      have hl : ru < gvs.length := by
        rw [gr.len]
        exact (List.getElem?_eq_some_iff.mp hru).1
      obtain ⟨r2, h2, ra⟩ := gr.get (List.getElem?_eq_getElem hl)
      rw [hru] at h2
      cases h2
      exact ⟨_, List.getElem?_eq_getElem hl, ra⟩
    have good := gt.good _ (List.mem_of_getElem? hru)
    have sl3 : ss.length ≤ 3 := good.2.1
    have len := lay.len
    -- a look into the table
    have look : ∀ (a b : Nat), a ≤ b → b ≤ row.length → ∃ d kvs, (∀ (A : Hp) (k : Addr), Same H A → A k = some (.tup ((kS a b).map kV)) → DGet A f (.ref k) (some (.ref d))) ∧
        (∀ M, (∃ q ∈ G, q.1 = M) → ∃ v, CostV H v ((T a b).nm M) ∧ ∀ (A : Hp) (k : Addr), Same H A → A k = some (.tup ((kN M).map kV)) → DGet A d (.ref k) (some v)) ∧
        (∀ dd, dd ≤ ss.length → ∃ v, CostV H v ((T a b).rs ru dd) ∧ ∀ (A : Hp) (k : Addr), Same H A → A k = some (.tup ((kR ru dd).map kV)) → DGet A d (.ref k) (some v)) := fun a b h1 h2 => by
      obtain ⟨d, kvs, e1, e2, e3⟩ := lay.tab.at_ a b h1 h2
      refine ⟨d, kvs, fun A k u hk => ?_, fun M hM => ?_, fun dd hd => ?_⟩
      · have := DGet.t (k := kS a b) (u _ _ lay.hf) hk
        rw [e1] at this
        exact this
      · obtain ⟨v, ev, cv⟩ := e3.nm M hM
        refine ⟨v, cv, fun A k u hk => ?_⟩
        have := DGet.t (k := kN M) (u _ _ e2) hk
        rw [ev] at this
        exact this
      · obtain ⟨v, ev, cv⟩ := e3.rs ru dd N ss hru hd
        refine ⟨v, cv, fun A k u hk => ?_⟩
        have := DGet.t (k := kR ru dd) (u _ _ e2) hk
        rw [ev] at this
        exact this
    refine ⟨Nat.zero_le _, fun pd npd => ?_⟩
    have s1 : Same H (upd H pd (.lst [])) := same_upd npd
    have hpd : upd H pd (.lst []) pd = some (.lst []) := upd_same
    have hfree : ∀ b, b ≠ pd → H b = none → upd H pd (.lst []) b = none := fun b nb e => by rw [upd_ne nb]; exact e
    generalize upd H pd (.lst []) = H1 at s1 hpd hfree
    refine ⟨_, rfl, _, rfl, g, _, _, _, rfl, rfl, SqL.of (s1 _ _ hg), atI_nat hgv, tt, _, 1, _, rfl, rfl, SqT.of (s1 _ _ htt), rfl, sl, _, rfl, .inl (SqL.of (s1 _ _ hsl)), _, rfl, by rw [List.length_map]; omega, by rw [List.length_map]; omega, ?_⟩
    rw [show (((ss.map V.str).length : Int)).toNat = ss.length from by rw [List.length_map]; omega]
    refine for_range (lo := 0) (n := ss.length) (fun d σ H' => ∃ (b : Nat) (v8 v9 v10 v11 v12 : Option V) (ps : List Tr) (vs : List V) (c' : Cost), σ = [some (.ref g), some (.ref t), some (.ref r), some (.ref f), some (.int ru), some (.int (b : Nat)), some (.int (j : Nat)), some (.ref pd), v8, v9, v10, v11, v12] ∧ Same H H' ∧ H' pd = some (.lst vs) ∧ TrsA (News H1 H') ps vs ∧ i ≤ b ∧ b ≤ j ∧
        ps.map Tr.sym = ss.take d ∧ follows i b ps = true ∧ (∀ q ∈ ps, dueB G row.length q = true ∧ isLow q.sym = q.isT ∧ q.deep ≤ n) ∧ (T b j).rs ru d = some c' ∧ (countL ps : Int) + c'.2 = c.2 ∧ c'.1 ≤ c.1 ∧ ∀ rest, FirstP (pbOf G Z row kn0) T ru ss d b j rest → FirstP (pbOf G Z row kn0) T ru ss 0 i j (ps ++ rest))
      ⟨i, none, none, none, none, none, [], [], c, rfl, s1, hpd, by unfold TrsA; rfl, Nat.le_refl _, ij, rfl, by rw [follows_nil]; exact decide_eq_true rfl, (fun q m => nomatch m), hc, by simp [countL], Int.le_refl _, fun rest h => h⟩ ?_ ?_
    · rintro d σ H2 hd ⟨b, v8, v9, v10, v11, v12, ps, vs, c', rfl, s2, hp2, hps, ib, bj, syms, fol, dues, hc', cnt, cle1, fst⟩
      rw [Int.zero_add]
      obtain ⟨sy, hsy⟩ : ∃ sy, ss[d]? = some sy := ⟨_, List.getElem?_eq_getElem hd⟩
      have hsyv : (ss.map V.str)[d]? = some (V.str sy) := by rw [List.getElem?_map, hsy]; rfl
      obtain ⟨e0, x0, y0, be, ej, hx0, hy0, ce⟩ := rest_split lay.least (fun _ _ => rfl) hru hsy hc'
      refine ⟨_, rfl, _, rfl, g, _, _, _, rfl, rfl, SqL.of (s2 _ _ hg), atI_nat hgv, tt, _, 1, _, rfl, rfl, SqT.of (s2 _ _ htt), rfl, _, rfl, sl, _, _, _, rfl, rfl, SqL.of (s2 _ _ hsl), atI_nat hsyv, ?_⟩
      refine ⟨_, rfl, _, rfl, _, _, rfl, rfl, _, _, rfl, ⟨by omega, by omega, by omega, by omega⟩, ?_⟩
      refine for_range (lo := (b : Int)) (n := ((j : Int) + 1 - (b : Int)).toNat) (fun k σ H' => ∃ (v10 v11 v12 : Option V), σ = [some (.ref g), some (.ref t), some (.ref r), some (.ref f), some (.int ru), some (.int (b : Nat)), some (.int (j : Nat)), some (.ref pd), some (.int (d : Nat)), some (.str sy), v10, v11, v12] ∧ Same H H' ∧ H' pd = some (.lst vs) ∧ TrsA (News H1 H') ps vs ∧ b + k ≤ e0 ∧ ∀ e', b ≤ e' → e' < b + k → spC (pbOf G Z row kn0) T ru d sy b e' j ≠ some c')
        ⟨v10, v11, v12, rfl, s2, hp2, hps, be, fun e' h1 h2 => absurd h2 (by omega)⟩ ?_ ?_
      · rintro k σ H3 hk ⟨v10, v11, v12, rfl, s3, hp3, hps3, ke, mn⟩
        have ej' : b + k ≤ j := by omega
        rw [show (b : Int) + (k : Int) = ((b + k : Nat) : Int) by omega]
        have kee : ∀ k', b + (k + 1) ≤ e0 ↔ b + k ≠ e0 := fun _ => by omega
        have mn2 : ∀ e, b + k = e → spC (pbOf G Z row kn0) T ru d sy b e j ≠ some c' → ∀ e', b ≤ e' → e' < b + (k + 1) → spC (pbOf G Z row kn0) T ru d sy b e' j ≠ some c' := fun e he hn e' h1 h2 => by
          by_cases z : e' = e
          · rw [z]; exact hn
          · exact mn e' h1 (by omega)
        generalize hek : b + k = e at ke ej' kee mn
        have be' : b ≤ e := by omega
        have dl : d + 1 ≤ ss.length := hd
        obtain ⟨d1, kvs1, g1, _, r1⟩ := look e j ej' jn
        obtain ⟨va, cva, gva⟩ := r1 (d + 1) dl
        refine ⟨_, rfl, _, rfl, _, rfl, (by show 2 ≤ sizeLine; decide), fun k1 nk1 => ?_⟩
        have u1 : Same H3 (upd H3 k1 (.tup [.int (e : Nat), .int (j : Nat)])) := same_upd nk1
        have hk1 : upd H3 k1 (.tup [.int (e : Nat), .int (j : Nat)]) k1 = some (.tup ((kS e j).map kV)) := upd_same
        generalize upd H3 k1 (.tup [.int (e : Nat), .int (j : Nat)]) = A1 at u1 hk1
        refine ⟨f, .ref d1, rfl, g1 _ _ (s3.trans u1) hk1, _, rfl, _, rfl, _, _, rfl, rfl, (by show 3 ≤ sizeLine; decide), fun k2 nk2 => ?_⟩
        have u2 : Same A1 (upd A1 k2 (.tup [.str "rest", .int ru, .int ((d : Int) + 1)])) := same_upd nk2
        have hk2 : upd A1 k2 (.tup [.str "rest", .int ru, .int ((d : Int) + 1)]) k2 = some (.tup ((kR ru (d + 1)).map kV)) := upd_same
        generalize upd A1 k2 (.tup [.str "rest", .int ru, .int ((d : Int) + 1)]) = A2 at u2 hk2
        have u12 := u1.trans u2
        have sA2 := s3.trans u12
        refine ⟨d1, va, rfl, gva _ _ sA2 hk2, ?_⟩
        have lay2 := lay.same sA2
        refine ⟨_, rfl, _, rfl, _, rfl, _, rfl, _, rfl, t, r, Z, row, sy, b, e, rfl, lay2.hZ, lay2.ok, lay2.hrow, be', by omega, len, fun A3 u3 => ⟨(by show 2 ≤ sizeLine; decide), fun tp ntp => ?_⟩⟩
        have u4 : Same A3 (upd A3 tp (.tup [.int (leafP Z row sy b e), .int 1])) := same_upd ntp
        have htp : upd A3 tp (.tup [.int (leafP Z row sy b e), .int 1]) tp = some (.tup [.int (leafP Z row sy b e), .int 1]) := upd_same
        generalize upd A3 tp (.tup [.int (leafP Z row sy b e), .int 1]) = A4 at u4 htp
        have u14 := (u12.trans u3).trans u4
        have symin := good.2.2 sy (List.mem_of_getElem? hsy)
        have symlen : 0 < sy.length ∧ sy.length ≤ 100 := by
          rcases symin with m | m
          · exact n4t_len sy m
          · exact p3_len sy m
        refine ⟨_, rfl, sy, rfl, symlen.1, symlen.2, _, rfl, ?_⟩
        have hcost : ∀ oc : Option Cost, oc = (if isLow sy = true then (T b e).nm sy else some (leafP Z row sy b e, 1)) → e = e0 → oc = some x0 := fun oc eo ez => by
          subst ez
          have h2 : (if isLow sy = true then (T b e).nm sy = some x0 else x0 = (leafP Z row sy b e, 1)) := hx0
          by_cases l : isLow sy = true
          · rw [if_pos l] at eo h2
            rw [eo, h2]
          · rw [if_neg l] at eo h2
            rw [eo, h2]
        cases lw : isLow sy
        case' false =>
          refine iteF ?_
          have uX := u14
          obtain ⟨vc, oc, evc, cvc, eoc⟩ : ∃ vc oc, V.ref tp = vc ∧ CostV A4 vc oc ∧ oc = (if isLow sy = true then (T b e).nm sy else some (leafP Z row sy b e, 1)) := ⟨.ref tp, some (leafP Z row sy b e, 1), rfl, ⟨tp, rfl, htp⟩, by rw [lw, if_neg Bool.false_ne_true]⟩
          rw [evc]
          generalize A4 = AX at uX cvc
        case' true =>
          refine iteT ?_
          obtain ⟨d2, kvs2, g2, n2, _⟩ := look b e be' (by omega)
          have symN : ∃ q ∈ G, q.1 = sy := by
            rcases symin with m | m
            · exact gt.names _ (List.mem_of_getElem? hru) sy (List.mem_of_getElem? hsy) m
            · rw [p3_low sy m] at lw; cases lw
          obtain ⟨vb, cvb, gvb⟩ := n2 sy symN
          refine ⟨_, rfl, _, rfl, _, rfl, (by show 2 ≤ sizeLine; decide), fun k3 nk3 => ?_⟩
          have u5 : Same A4 (upd A4 k3 (.tup [.int (b : Nat), .int (e : Nat)])) := same_upd nk3
          have hk3 : upd A4 k3 (.tup [.int (b : Nat), .int (e : Nat)]) k3 = some (.tup ((kS b e).map kV)) := upd_same
          generalize upd A4 k3 (.tup [.int (b : Nat), .int (e : Nat)]) = A5 at u5 hk3
          refine ⟨f, .ref d2, rfl, g2 _ _ ((s3.trans u14).trans u5) hk3, _, rfl, (by show 2 ≤ sizeLine; decide), fun k4 nk4 => ?_⟩
          have u6 : Same A5 (upd A5 k4 (.tup [.str "name", .str sy])) := same_upd nk4
          have hk4 : upd A5 k4 (.tup [.str "name", .str sy]) k4 = some (.tup ((kN sy).map kV)) := upd_same
          generalize upd A5 k4 (.tup [.str "name", .str sy]) = A6 at u6 hk4
          have uX := (u14.trans u5).trans u6
          refine ⟨d2, vb, rfl, gvb _ _ (s3.trans uX) hk4, ?_⟩
          obtain ⟨vc, oc, evc, cvc, eoc⟩ : ∃ vc oc, vb = vc ∧ CostV A6 vc oc ∧ oc = (if isLow sy = true then (T b e).nm sy else some (leafP Z row sy b e, 1)) := ⟨vb, (T b e).nm sy, rfl, cvb.up (Up.of_same (s3.trans uX)), by rw [lw, if_pos rfl]⟩
          rw [evc]
          generalize A6 = AX at uX cvc
        all_goals
          have sX := s3.trans uX
          have cvaX := cva.up (Up.of_same sX)
          have hpX := uX _ _ hp3
          have hpsX := hps3.same (news_on uX (A := H1))
          have hcx : e = e0 → oc = some x0 := hcost oc eoc
          have esp : spC (pbOf G Z row kn0) T ru d sy b e j = addC oc ((T e j).rs ru (d + 1)) := by rw [eoc]; rfl
          have next : e ≠ e0 → b + (k + 1) ≤ e0 := fun ne => by omega
          cases ea : (T e j).rs ru (d + 1) with
          | none =>
            rw [ea] at cvaX
            rw [show va = .non from cvaX]
            exact ⟨_, rfl, _, rfl, iteF (iteF ⟨_, _, _, rfl, sX, hpX, hpsX, next (fun ez => by subst ez; rw [ea] at hy0; cases hy0), mn2 e hek (by rw [esp, ea]; cases oc <;> exact fun z => nomatch z)⟩)⟩
          | some y =>
            rw [ea] at cvaX
            obtain ⟨ta, rfl, hta⟩ := cvaX
            refine ⟨_, rfl, _, rfl, iteT ?_⟩
            cases oc with
            | none =>
              rw [show vc = .non from cvc]
              exact ⟨_, rfl, _, rfl, iteF ⟨_, _, _, rfl, sX, hpX, hpsX, next (fun ez => by have := hcx ez; cases this), mn2 e hek (by rw [esp]; exact fun z => nomatch z)⟩⟩
            | some x =>
              obtain ⟨tc, rfl, htc⟩ := cvc
              refine ⟨_, rfl, _, rfl, iteT ?_⟩
              have pos := kn0_ok (G := G) lay.ok row
              have ypos := RestC.pos pos ((lay.least e j).sound.rs ru (d + 1) y ea)
              have xpos : 0 ≤ x.1 ∧ 0 ≤ x.2 := by
                by_cases l : isLow sy = true
                · rw [if_pos l] at eoc
                  exact TreeC.pos pos ((lay.least b e).sound.nm sy x eoc.symm)
                · rw [if_neg l] at eoc
                  cases eoc
                  exact ⟨(leafP_in lay.ok row sy b e).1, by show (0 : Int) ≤ 1; decide⟩
              obtain ⟨d3, kvs3, g3, _, r3⟩ := look b j bj jn
              obtain ⟨vd, cvd, gvd⟩ := r3 d (by omega)
              rw [hc'] at cvd
              refine ⟨_, rfl, tc, _, 0, _, rfl, rfl, SqT.of htc, rfl, _, rfl, ta, _, 0, _, rfl, rfl, SqT.of hta, rfl, _, _, rfl, rfl, _, rfl, tc, _, 1, _, rfl, rfl, SqT.of htc, rfl, _, rfl, ta, _, 1, _, rfl, rfl, SqT.of hta, rfl, _, _, rfl, rfl, (by show 2 ≤ sizeLine; decide), fun tq ntq => ?_⟩
              have w1 : Same AX (upd AX tq (.tup [.int (x.1 + y.1), .int (x.2 + y.2)])) := same_upd ntq
              have htq : upd AX tq (.tup [.int (x.1 + y.1), .int (x.2 + y.2)]) tq = some (.tup [.int (x.1 + y.1), .int (x.2 + y.2)]) := upd_same
              generalize upd AX tq (.tup [.int (x.1 + y.1), .int (x.2 + y.2)]) = B1 at w1 htq
              refine ⟨_, rfl, _, rfl, _, rfl, (by show 2 ≤ sizeLine; decide), fun k5 nk5 => ?_⟩
              have w2 : Same B1 (upd B1 k5 (.tup [.int (b : Nat), .int (j : Nat)])) := same_upd nk5
              have hk5 : upd B1 k5 (.tup [.int (b : Nat), .int (j : Nat)]) k5 = some (.tup ((kS b j).map kV)) := upd_same
              generalize upd B1 k5 (.tup [.int (b : Nat), .int (j : Nat)]) = B2 at w2 hk5
              refine ⟨f, .ref d3, rfl, g3 _ _ ((sX.trans w1).trans w2) hk5, _, rfl, _, rfl, (by show 3 ≤ sizeLine; decide), fun k6 nk6 => ?_⟩
              have w3 : Same B2 (upd B2 k6 (.tup [.str "rest", .int ru, .int (d : Nat)])) := same_upd nk6
              have hk6 : upd B2 k6 (.tup [.str "rest", .int ru, .int (d : Nat)]) k6 = some (.tup ((kR ru d).map kV)) := upd_same
              generalize upd B2 k6 (.tup [.str "rest", .int ru, .int (d : Nat)]) = B3 at w3 hk6
              have w13 := (w1.trans w2).trans w3
              have sB := sX.trans w13
              refine ⟨d3, vd, rfl, gvd _ _ sB hk6, oD (some (x.1 + y.1, x.2 + y.2)), oD (some c'), CostV.dp ⟨tq, rfl, w3 _ _ (w2 _ _ htq)⟩, CostV.dp (cvd.up (Up.of_same sB)), oD_shaped _, oD_shaped _, _, rfl, ?_⟩
              rw [oD_eqv]
              by_cases eq : (some (x.1 + y.1, x.2 + y.2) : Option Cost) = some c'
              rotate_left
              · rw [decide_eq_false eq]
                refine iteF ⟨_, _, _, rfl, sB, w13 _ _ hpX, hpsX.same (news_on w13), next fun ez => eq ?_, mn2 e hek (by rw [esp, ea]; exact eq)⟩
                have h1 := hcx ez
                cases h1
                subst ez
                rw [ea] at hy0
                cases hy0
                rw [ce]
              rw [decide_eq_true eq]
              have ec := Option.some.inj eq
              have c1' : c'.1 = x.1 + y.1 := by rw [← ec]
              have c2' : c'.2 = x.2 + y.2 := by rw [← ec]
              have hpB := w13 _ _ hpX
              refine iteT ⟨_, rfl, .inl ⟨rfl, _, SqL.of hpB⟩, _, rfl, _, rfl, _, rfl, _, rfl, _, rfl, _, rfl, _, rfl, g, t, r, f, G, Z, row, F, T, sy, b, e, rfl, lay.same sB, n0, be', by omega, ⟨_, List.mem_of_getElem? hru, .inr (List.mem_of_getElem? hsy)⟩, fun l z hz => ?_, fun v A8 s8 res => ?_⟩
              · have ez : x = z := by
                  rw [if_pos l, hz] at eoc
                  exact Option.some.inj eoc
                subst ez
                exact fall sy b e x (List.mem_of_getElem? hsy) ib be' ej' l hz (by omega) (by omega)
              obtain ⟨sz, hsz, t', ta', ts, tlo, thi, tdue, tlow, tcnt, tdeep, tfst⟩ : ∃ sz, (if isLow sy = true then ∃ c, (T b e).nm sy = some c ∧ c.2 = sz else sz = 1) ∧ TreeF (pbOf G Z row kn0) T (News B3 A8) G row.length sy b e sz v n := by
                rcases res with ⟨l, z, _⟩ | z
                · rw [if_pos l, z] at eoc
                  cases eoc
                · exact z
              have esz : sz = x.2 := by
                by_cases l : isLow sy = true
                · rw [if_pos l] at hsz eoc
                  obtain ⟨c9, h1, h2⟩ := hsz
                  rw [h1] at eoc
                  cases eoc
                  exact h2.symm
                · rw [if_neg l] at hsz eoc
                  cases eoc
                  exact hsz
              have hp8 := s8 _ _ hpB
              have hps8 := hpsX.same (news_on (w13.trans s8) (A := H1))
              have vl := hpsX.len
              have pl : ps.length = (ss.take d).length := by rw [← syms, List.length_map]
              have tl := List.length_take_le' d ss
              have free1 : ∀ z, B3 z = none → H1 z = none := fun z hz => hfree z (fun ez => by rw [ez, hpB] at hz; cases hz) (sB.free hz)
              refine ⟨pd, _, _, rfl, rfl, hp8, million1 (by omega), _, rfl, e, _, _, _, _, _, ps ++ [t'], vs ++ [v], y, rfl, same_put (sB.trans s8) npd, upd_same, ?_, by omega, ej', ?_, follows_snoc tlo thi fol, fun q' hq' => ?_, ea, ?_, by omega, fun rest h => ?_⟩
              · have nk : ¬ H1 pd = none := by rw [hpd]; exact fun z => by cases z
                refine (hps8.same (news_keep (Same.refl A8) nk)).app ?_
                unfold TrsA TrsA
                exact ⟨v, [], rfl, (ta'.same (News.less free1)).same (news_keep (Same.refl A8) nk), rfl⟩
              · rw [List.map_append, syms, List.take_add_one, hsy, List.map_singleton, ts]
                rfl
              · rcases List.mem_append.mp hq' with m | m
                · exact dues q' m
                · cases List.mem_singleton.mp m
                  exact ⟨tdue, by rw [ts]; exact tlow, tdeep⟩
              · rw [countL_app]
                simp only [countL]
                omega
              · rw [List.append_assoc]
                exact fst _ (.cons hsy be' ej' hc' (by rw [esp, ea]; exact eq) mn tfst h)
      · rintro σ H3 ⟨v10, v11, v12, rfl, s3, hp3, hps3, ke, mn⟩
        omega
    · rintro σ H2 ⟨b, v8, v9, v10, v11, v12, ps, vs, c', rfl, s2, hp2, hps, ib, bj, syms, fol, dues, hc', cnt, cle1, fst⟩
      -- nothing is left behind the last dot
      have lc := (lay.least b j).rs ru ss.length
      rw [hc'] at lc
      have last : b = j ∧ c' = (0, 0) := by
        cases lc.1 with
        | known q' _ => cases q'
        | nil q' h2 h3 => exact ⟨rfl, rfl⟩
        | leaf q' h2 h3 _ _ _ _ =>
          rw [show (pbOf G Z row kn0).G[ru]? = some (N, ss) from hru] at h2
          cases h2
          rw [List.getElem?_eq_none (Nat.le_refl _)] at h3
          cases h3
        | tree q' h2 h3 _ _ _ _ _ =>
          rw [show (pbOf G Z row kn0).G[ru]? = some (N, ss) from hru] at h2
          cases h2
          rw [List.getElem?_eq_none (Nat.le_refl _)] at h3
          cases h3
      obtain ⟨rfl, rfl⟩ := last
      refine ⟨_, rfl, q pd vs ps H2 s2 npd hp2 (hps.same (news_less s1)) ?_ fol dues ?_ (by have := fst [] (.nil rfl); rwa [List.append_nil] at this)⟩
      · rw [syms, List.take_length]
      · have : (countL ps : Int) + 0 = c.2 := cnt
        omega
end
section
variable {P : Program} {w : World} {K : PySem.W.Frag} {mg : Str → Option Value} {base : Heap}
theorem scFi17 : FnScope ["grammar", "prices", "row", "found", "symbol", "i", "j", "due", "rule", "cost"] ["grammar", "prices", "row", "found", "symbol", "i", "j"] (defScope s__law_first) := ⟨rfl, rfl, rfl, by decide +kernel, rfl, by decide +kernel, by decide +kernel⟩
theorem ok_fiF {f' fN fP : Addr} {fd fdN fdP : FuncData} {n : Nat} (FF : Fun K "_law_first" "_law_first" s__law_first f' fd)
    (GN : FnOk P w K mg base CX0 1 fN fdN ["symbol"] spIsName) (kN' : PySem.W.keepIn K (.ref fN) = true) (bN : Binds K fdN ["symbol"] []) (gN : mg "_law_is_name" = some (.ref fN))
    (GP : FnOk P w K mg base CX0 (4 + 2 * n) fP fdP ["grammar", "prices", "row", "found", "rule", "i", "j"] (spPaF n)) (kP : PySem.W.keepIn K (.ref fP) = true) (bP : Binds K fdP ["grammar", "prices", "row", "found", "rule", "i", "j"] []) (gP : mg "_law_parts" = some (.ref fP))
    (mr : mg "range" = none) (ml : mg "len" = none) : FnOk P w K mg base CX0 (3 + 2 * (n + 1)) f' fd ["grammar", "prices", "row", "found", "symbol", "i", "j"] (spFiF (n + 1)) := by
  rw [show 3 + 2 * (n + 1) = (4 + 2 * n) + 1 by omega]
  refine FF.ok scFi17 (fun vs H Q E h => ?_) (fun cdv A outer s H vs Q E hr h => ?_)
  · obtain ⟨g, t, r, f, G, Z, row, F, T, sy, i, j, rfl, _⟩ := h
    rfl
  · obtain ⟨g, t, r, f, G, Z, row, F, T, sy, i, j, rfl, lay, n0, ij, jn, sin, fall, q⟩ := h
    have hu := units1 hr
    have hr1 := hr.mono (show 1 ≤ 4 + 2 * n by omega)
    refine ⟨_, pss_cons (ps_if (pt_not (pt_val (pe_call GN hr1 (by rfl) gN kN' bN .nil pass0 (pa_cons (pv 4) pa_nil)))) (pss_one (ps_ret (pe_tup (pa_cons pe_str (pa_cons (pv 4) (pa_cons (pv 5) (pa_cons (pv 6) pa_nil))))))) pss_nil)
      (pss_cons (ps_set (i := 7) scFi17.nd rfl (.inl rfl) (pe_dget hu (pe_dget hu (pv 3) (pe_tup (pa_cons (pv 5) (pa_cons (pv 6) pa_nil))) (fun _ _ => rfl)) (pe_tup (pa_cons pe_str (pa_cons (pv 4) pa_nil))) (fun _ _ => rfl)))
      (pss_cons (ps_for PassesOwn.never rfl (pi_range1 rfl mr (pa_cons (pe_callB call_len_seq (by rfl) ml PySem.boot_len (pa_cons (pv 0) pa_nil)) pa_nil)) (pg_name (i := 8) scFi17.nd rfl (.inl rfl))
        (pss_cons (ps_set (i := 9) scFi17.nd rfl (.inl rfl) (pe_dget hu (pe_dget hu (pv 3) (pe_tup (pa_cons (pv 5) (pa_cons (pv 6) pa_nil))) (fun _ _ => rfl)) (pe_tup (pa_cons pe_str (pa_cons (pv 8) (pa_cons pe_int pa_nil)))) (fun _ _ => rfl)))
        (pss_one (ps_if (PW.pt (pw_and (pt_cmpR op_eq (pe_ix ix_tup (pe_ix ix_list (pv 0) (pv 8) (fun _ _ => rfl)) pe_int (fun _ _ => rfl)) (pv 4) (nomark _)) (pw_and (pt_cmp (pc_notN (pv 9)) (by rfl))
            (pw_and1 (pt_cmpR (op_eqD (units64 hr)) (pe_tup (pa_cons (pe_ix ix_tup (pv 9) pe_int (fun _ _ => rfl)) (pa_cons (pe_op op_add (pe_ix ix_tup (pv 9) pe_int (fun _ _ => rfl)) pe_int) pa_nil))) (pv 7) (nomark _))))))
          (pss_one (ps_ret (pe_tup (pa_cons pe_str (pa_cons (pv 4) (pa_cons (pv 8) (pa_cons (pv 5) (pa_cons (pv 6) (pa_cons (pe_call GP hr (by rfl) gP kP bP .nil pass0 (pa_cons (pv 0) (pa_cons (pv 1) (pa_cons (pv 2) (pa_cons (pv 3) (pa_cons (pv 8) (pa_cons (pv 5) (pa_cons (pv 6) pa_nil)))))))) pa_nil))))))))) pss_nil))))
      (pss_one (ps_ret pe_non)))), ?_⟩
    have gt := lay.gt
    have len := lay.len
    obtain ⟨gvs, hg, gr⟩ := id lay.hG
    have symin : sy ∈ N4t ∨ sy ∈ P3 := by
      obtain ⟨q', hq, rfl | m⟩ := sin
      · exact .inl (gt.good _ hq).1
      · exact (gt.good _ hq).2.2 sy m
    have symlen : 0 < sy.length ∧ sy.length ≤ 100 := by
      rcases symin with m | m
      · exact n4t_len sy m
      · exact p3_len sy m
    refine ⟨_, rfl, sy, rfl, symlen.1, symlen.2, _, rfl, ?_⟩
    cases lw : isLow sy with
    | false =>
      refine iteT ⟨_, rfl, _, rfl, _, rfl, (by show 4 ≤ sizeLine; decide), fun p np => q _ _ (same_upd np) (.inr ⟨1, by rw [lw, if_neg Bool.false_ne_true], .leaf sy i j, ?_, rfl, rfl, rfl, ?_, by rw [lw]; rfl, rfl, by simp [Tr.deep], .leaf lw⟩)⟩
      · unfold TrA
        exact ⟨p, rfl, by rw [news_of np]; exact upd_same⟩
      · have an : (G.any fun r => decide (sy ∈ r.2)) = true := by
          obtain ⟨q', hq, rfl | m⟩ := sin
          · rw [n4t_low _ (gt.good _ hq).1] at lw
            cases lw
          · exact List.any_eq_true.mpr ⟨q', hq, decide_eq_true m⟩
        unfold dueB
        rw [decide_eq_true (show 0 ≤ (i : Int) ∧ (i : Int) ≤ (j : Int) ∧ (j : Int) ≤ (row.length : Int) by omega), an, lw]
        rfl
    | true =>
      refine iteF ?_
      have sN : sy ∈ N4t := by
        rcases symin with m | m
        · exact m
        · rw [p3_low sy m] at lw
          cases lw
      have nameG : ∃ q ∈ G, q.1 = sy := by
        obtain ⟨q', hq, e | m⟩ := sin
        · exact ⟨q', hq, e.symm⟩
        · exact gt.names _ hq sy m sN
      obtain ⟨d, kvs, e1, e2, e3⟩ := lay.tab.at_ i j ij jn
      have gS : ∀ {A : Hp} {k : Addr}, Same H A → A k = some (.tup ((kS i j).map kV)) → DGet A f (.ref k) (some (.ref d)) := fun {A k} u hk => by
        have := DGet.t (k := kS i j) (u _ _ lay.hf) hk
        rw [e1] at this
        exact this
      obtain ⟨vd, evd, cvd⟩ := e3.nm sy nameG
      refine ⟨_, rfl, _, rfl, _, rfl, (by show 2 ≤ sizeLine; decide), fun k1 nk1 => ?_⟩
      have u1 : Same H (upd H k1 (.tup [.int (i : Nat), .int (j : Nat)])) := same_upd nk1
      have hk1 : upd H k1 (.tup [.int (i : Nat), .int (j : Nat)]) k1 = some (.tup ((kS i j).map kV)) := upd_same
      generalize upd H k1 (.tup [.int (i : Nat), .int (j : Nat)]) = A1 at u1 hk1
      refine ⟨f, .ref d, rfl, gS u1 hk1, _, rfl, (by show 2 ≤ sizeLine; decide), fun k2 nk2 => ?_⟩
      have u2 : Same A1 (upd A1 k2 (.tup [.str "name", .str sy])) := same_upd nk2
      have hk2 : upd A1 k2 (.tup [.str "name", .str sy]) k2 = some (.tup ((kN sy).map kV)) := upd_same
      generalize upd A1 k2 (.tup [.str "name", .str sy]) = A2 at u2 hk2
      have u12 := u1.trans u2
      have gv := DGet.t (k := kN sy) (u12 _ _ e2) hk2
      rw [evd] at gv
      refine ⟨d, vd, rfl, gv, ?_⟩
      have few := gt.few
      refine ⟨_, rfl, g, _, rfl, .inl (SqL.of (u12 _ _ hg)), _, rfl, by rw [gr.len]; omega, by rw [gr.len]; omega, ?_⟩
      rw [show ((gvs.length : Int)).toNat = G.length from by rw [gr.len]; omega]
      refine for_range (lo := 0) (n := G.length) (fun k σ H' => ∃ (v8 v9 : Option V), σ = [some (.ref g), some (.ref t), some (.ref r), some (.ref f), some (.str sy), some (.int (i : Nat)), some (.int (j : Nat)), some vd, v8, v9] ∧ Same H H' ∧ ∀ a x ss, a < k → G[a]? = some (sy, ss) → (T i j).rs a 0 = some x → (T i j).nm sy ≠ some (x.1, x.2 + 1))
        ⟨none, none, rfl, u12, fun a x ss h => absurd h (Nat.not_lt_zero _)⟩ ?_ ?_
      · rintro k σ H3 hk ⟨v8, v9, rfl, s3, none3⟩
        rw [Int.zero_add]
        obtain ⟨⟨M, ss⟩, hM⟩ : ∃ x, G[k]? = some x := ⟨_, List.getElem?_eq_getElem hk⟩
        obtain ⟨gv', hgv, tt, sl, rfl, htt, hsl⟩ : ∃ gv, gvs[k]? = some gv ∧ RuleA H gv (M, ss) := by
          have hl : k < gvs.length := by rw [gr.len]; exact hk
          obtain ⟨r2, h2, ra⟩ := gr.get (List.getElem?_eq_getElem hl)
          rw [hM] at h2
          cases h2
          exact ⟨_, List.getElem?_eq_getElem hl, ra⟩
        obtain ⟨vr, evr, cvr⟩ := e3.rs k 0 M ss hM (Nat.zero_le _)
        refine ⟨_, rfl, _, rfl, _, rfl, (by show 2 ≤ sizeLine; decide), fun k3 nk3 => ?_⟩
        have u3 : Same H3 (upd H3 k3 (.tup [.int (i : Nat), .int (j : Nat)])) := same_upd nk3
        have hk3 : upd H3 k3 (.tup [.int (i : Nat), .int (j : Nat)]) k3 = some (.tup ((kS i j).map kV)) := upd_same
        generalize upd H3 k3 (.tup [.int (i : Nat), .int (j : Nat)]) = A3 at u3 hk3
        refine ⟨f, .ref d, rfl, gS (s3.trans u3) hk3, _, rfl, (by show 3 ≤ sizeLine; decide), fun k4 nk4 => ?_⟩
        have u4 : Same A3 (upd A3 k4 (.tup [.str "rest", .int (k : Nat), .int 0])) := same_upd nk4
        have hk4 : upd A3 k4 (.tup [.str "rest", .int (k : Nat), .int 0]) k4 = some (.tup ((kR k 0).map kV)) := upd_same
        generalize upd A3 k4 (.tup [.str "rest", .int (k : Nat), .int 0]) = A4 at u4 hk4
        have s4 := (s3.trans u3).trans u4
        have gr' := DGet.t (k := kR k 0) (s4 _ _ e2) hk4
        rw [evr] at gr'
        refine ⟨d, vr, rfl, gr', ?_⟩
        refine ⟨_, rfl, _, rfl, g, _, _, _, rfl, rfl, SqL.of (s4 _ _ hg), atI_nat hgv, tt, _, 0, _, rfl, rfl, SqT.of (s4 _ _ htt), rfl, _, rfl, rfl, _, rfl, ?_⟩
        have go : (∀ x, M = sy → (T i j).rs k 0 = some x → (T i j).nm sy ≠ some (x.1, x.2 + 1)) → ∀ a x ss, a < k + 1 → G[a]? = some (sy, ss) → (T i j).rs a 0 = some x → (T i j).nm sy ≠ some (x.1, x.2 + 1) := fun h a x ss' la ha hx => by
          by_cases e : a = k
          · subst e
            rw [hM] at ha
            cases ha
            exact h x rfl hx
          · exact none3 a x ss' (by omega) ha hx
        by_cases eM : M = sy
        rotate_left
        · rw [decide_eq_false (show ¬ V.str M = V.str sy from fun z => eM (V.str.inj z))]
          exact iteF (iteF ⟨_, _, rfl, s4, go fun x e => absurd e eM⟩)
        subst eM
        rw [decide_eq_true (rfl : V.str M = _)]
        refine iteT ⟨_, rfl, _, rfl, ?_⟩
        have cv4 := cvr.up (Up.of_same s4)
        cases er : (T i j).rs k 0 with
        | none =>
          rw [er] at cv4
          rw [show vr = .non from cv4]
          exact iteF (iteF ⟨_, _, rfl, s4, go fun x _ e => by rw [er] at e; cases e⟩)
        | some x =>
          rw [er] at cv4
          obtain ⟨tc, rfl, htc⟩ := cv4
          refine iteT ⟨_, rfl, tc, _, 0, _, rfl, rfl, SqT.of htc, rfl, _, rfl, tc, _, 1, _, rfl, rfl, SqT.of htc, rfl, _, _, rfl, rfl, (by show 2 ≤ sizeLine; decide), fun tq ntq => ?_⟩
          have u5 : Same A4 (upd A4 tq (.tup [.int x.1, .int (x.2 + 1)])) := same_upd ntq
          have htq : upd A4 tq (.tup [.int x.1, .int (x.2 + 1)]) tq = some (.tup [.int x.1, .int (x.2 + 1)]) := upd_same
          generalize upd A4 tq (.tup [.int x.1, .int (x.2 + 1)]) = A5 at u5 htq
          have s5 := s4.trans u5
          refine ⟨_, rfl, oD (some (x.1, x.2 + 1)), oD ((T i j).nm M), CostV.dp ⟨tq, rfl, htq⟩, (cvd.up (Up.of_same s5)).oD, oD_shaped _, oD_shaped _, _, rfl, ?_⟩
          rw [oD_eqv]
          by_cases eq : (some (x.1, x.2 + 1) : Option Cost) = (T i j).nm M
          rotate_left
          · rw [decide_eq_false eq]
            exact iteF ⟨_, _, rfl, s5, go fun z _ ez => by rw [er] at ez; cases ez; exact fun w => eq w.symm⟩
          rw [decide_eq_true eq]
          have mup := fall lw _ eq.symm
          refine iteT ⟨_, rfl, _, rfl, _, rfl, _, rfl, _, rfl, _, rfl, _, rfl, _, rfl, _, rfl, _, rfl, _, rfl, g, t, r, f, G, Z, row, F, T, k, M, ss, i, j, x, rfl, lay.same s5, by omega, ij, jn, hM, er, fun L a b z hL h1 h2 h3 lL hz l1 l2 => ?_, fun p vs ps H6 s6 np6 hp6 tps syms fol dues cnt fstP => ⟨(by show 6 ≤ sizeLine; decide), fun tp ntp => ?_⟩⟩
          · have LN : L ∈ N4t := by
              rcases (gt.good _ (List.mem_of_getElem? hM)).2.2 L hL with m | m
              · exact m
              · rw [p3_low L m] at lL
                cases lL
            have := mu_less (T := T) (Ns := N4t) (by decide) h1 h2 h3 LN hz (c := (x.1, x.2 + 1)) l1 (by dsimp only; omega)
            omega
          · have s06 := s5.trans s6
            have u7 : Same H6 (upd H6 tp (.tup [.str "tree", .str M, .int (k : Nat), .int (i : Nat), .int (j : Nat), .ref p])) := same_upd ntp
            refine q _ _ (s06.trans u7) (.inr ⟨x.2 + 1, by rw [lw, if_pos rfl]; exact ⟨_, eq.symm, rfl⟩, .tree M k i j ps, ?_, rfl, rfl, rfl, ?_, by rw [lw]; rfl, ?_, ?_, .tree lw hM er eq.symm (fun r' ss' x' l g' rs' => none3 r' x' ss' l g' rs') fstP⟩)
            · unfold TrA
              have p0 : H p = none := s5.free np6
              refine ⟨tp, p, vs, rfl, by rw [news_of (s06.free ntp)]; exact upd_same, by rw [news_of p0]; exact u7 _ _ hp6, ?_⟩
              exact (tps.same (news_less s5)).same (news_on u7)
            · unfold dueB
              rw [decide_eq_true (show 0 ≤ (i : Int) ∧ (i : Int) ≤ (j : Int) ∧ (j : Int) ≤ (row.length : Int) by omega), decide_eq_true (show (0 : Int) ≤ (k : Int) ∧ (k : Int) < (G.length : Int) by omega), Int.toNat_natCast, hM]
              dsimp only
              rw [decide_eq_true (rfl : M = M), decide_eq_true syms, due_list gt, fol]
              have h1 : ps.all (dueB G row.length) = true := List.all_eq_true.mpr fun y hy => (dues y hy).1
              have h2 : (ps.all fun p => decide (isLow p.sym = p.isT)) = true := List.all_eq_true.mpr fun y hy => decide_eq_true (dues y hy).2.1
              rw [h1, h2]
              rfl
            · simp only [count]
              omega
            · have := deepL_le fun q hq => (dues q hq).2.2
              simp only [Tr.deep]
              omega
      · rintro σ H3 ⟨v8, v9, rfl, s3, none3⟩
        cases en : (T i j).nm sy with
        | none => exact q _ _ s3 (.inl ⟨lw, en, rfl⟩)
        | some c =>
          obtain ⟨a, ss, x, ha, hx, ec⟩ := name_split lay.least (fun _ _ => rfl) en
          exact absurd (by rw [en, ec]) (none3 a x ss (List.getElem?_eq_some_iff.mp ha).1 ha hx)
end
section
variable {P : Program} {w : World} {K : PySem.W.Frag} {mg : Str → Option Value} {base : Heap}
theorem ok_firstF {fF fP fL fN : Addr} {fdF fdP fdL fdN : FuncData} (FF : Fun K "_law_first" "_law_first" s__law_first fF fdF) (kF : PySem.W.keepIn K (.ref fF) = true) (bF : Binds K fdF ["grammar", "prices", "row", "found", "symbol", "i", "j"] []) (gF : mg "_law_first" = some (.ref fF))
    (FP : Fun K "_law_parts" "_law_parts" s__law_parts fP fdP) (kP : PySem.W.keepIn K (.ref fP) = true) (bP : Binds K fdP ["grammar", "prices", "row", "found", "rule", "i", "j"] []) (gP : mg "_law_parts" = some (.ref fP))
    (GL : FnOk P w K mg base CX0 2 fL fdL ["prices", "row", "kind", "i", "j"] spLeaf) (kL : PySem.W.keepIn K (.ref fL) = true) (bL : Binds K fdL ["prices", "row", "kind", "i", "j"] []) (gL : mg "_law_leaf" = some (.ref fL))
    (GN : FnOk P w K mg base CX0 1 fN fdN ["symbol"] spIsName) (kN' : PySem.W.keepIn K (.ref fN) = true) (bN : Binds K fdN ["symbol"] []) (gN : mg "_law_is_name" = some (.ref fN))
    (mr : mg "range" = none) (ml : mg "len" = none) : ∀ n, FnOk P w K mg base CX0 (3 + 2 * n) fF fdF ["grammar", "prices", "row", "found", "symbol", "i", "j"] (spFiF n) := by
  intro n
  induction n with
  | zero =>
    show FnOk P w K mg base CX0 (2 + 1) fF fdF _ _
    refine FF.ok scFi17 (fun vs H Q E h => ?_) (fun cdv A outer s H vs Q E hr h => ?_)
    · obtain ⟨g, t, r, f, G, Z, row, F, T, sy, i, j, rfl, _⟩ := h
      rfl
    · obtain ⟨g, t, r, f, G, Z, row, F, T, sy, i, j, rfl, _, n0, _⟩ := h
      exact absurd n0 (Nat.lt_irrefl 0)
  | succ n ih => exact ok_fiF FF GN kN' bN gN (ok_paF FP GL kL bL gL GN kN' bN gN ih kF bF gF mr ml) kP bP gP mr ml
end
end Ld

set_option Elab.async false
set_option linter.all false
set_option maxRecDepth 100000
set_option maxHeartbeats 4000000
namespace Ld
open PySem PySem.Spec PyProof.Rows L2 Lg Lr Lb
open Tr
section
variable {P : Program} {w : World} {K : PySem.W.Frag} {mg : Str → Option Value} {base : Heap}
theorem scNo : FnScope ["tree", "nodes", "waiting", "node"] ["tree"] (defScope s_nodes_of) := ⟨rfl, rfl, rfl, by decide +kernel, rfl, by decide +kernel, by decide +kernel⟩
def spNo : Sp := fun vs H Q _ => ∃ (v : V) (t : Tr), vs = [v] ∧ TrA H t v ∧ t.count ≤ 400000 ∧ ∀ p dv H2, Same H H2 → H p = none → H2 p = some (.lst dv) → TrsA H (nodes t) dv → Q (.ref p) H2
def NoI (H : Hp) (v : V) (nd wt : Addr) (t : Tr) (m : Nat) (σ : L2.St) (H' : Hp) : Prop := ∃ (v3 : Option V) (dn us : List Tr) (dv uv : List V), σ = [some v, some (.ref nd), some (.ref wt), v3] ∧ Same H H' ∧ H' nd = some (.lst dv) ∧ H' wt = some (.lst uv.reverse) ∧ TrsA H dn dv ∧ TrsA H us uv ∧ dn ++ nodesL us = nodes t ∧ countL us = m
theorem ok_no {f : Addr} {fd : FuncData} (F : Fun K "nodes_of" "nodes_of" s_nodes_of f fd) : FnOk P w K mg base CX0 1 f fd ["tree"] spNo := by
  refine F.ok scNo (fun vs H Q E h => ?_) (fun cdv A outer s H vs Q E hr h => ?_)
  · obtain ⟨v, t, rfl, _⟩ := h
    rfl
  · obtain ⟨v, t, rfl, hT, few, q⟩ := h
    refine ⟨_, pss_cons (ps_set (i := 1) scNo.nd rfl (.inl rfl) (pe_lst pa_nil))
      (pss_cons (ps_set (i := 2) scNo.nd rfl (.inl rfl) (pe_lst (pa_cons (pv 0) pa_nil)))
      (pss_cons (ps_while PassesOwn.never (pt_truth (pv 2) (by intro _; rfl))
        (pss_cons (ps_set (i := 3) scNo.nd rfl (.inl rfl) (pe_bm0 PySem.F.plainAttrs_list PySem.F.slot_list_pop PySem.F.type_list_pop mt_pop (pv 2)))
        (pss_cons (ps_expr (pe_bm PySem.F.plainAttrs_list PySem.F.slot_list_append PySem.F.type_list_append mt_append (pv 1) (pa_cons (pv 3) pa_nil)))
        (pss_one (ps_if (pt_cmpR op_eq (pe_ix ix_tup (pv 3) pe_int (fun _ _ => rfl)) pe_str (nomark _))
          (pss_one (ps_expr (pe_bm PySem.F.plainAttrs_list PySem.F.slot_list_extend PySem.F.type_list_extend mt_extend (pv 2) (pa_cons (pe_revL (pe_ix ix_tup (pv 3) pe_int (fun _ _ => rfl))) pa_nil)))) pss_nil)))))
      (pss_one (ps_ret (pv 1))))), ?_⟩
    refine ⟨Nat.zero_le _, fun nd nnd => ?_⟩
    have s1 : Same H (upd H nd (.lst [])) := same_upd nnd
    have hnd : upd H nd (.lst []) nd = some (.lst []) := upd_same
    generalize upd H nd (.lst []) = H1 at s1 hnd
    refine ⟨_, rfl, (by show 1 ≤ sizeLine; decide), fun wt nwt => ?_⟩
    have s2 : Same H1 (upd H1 wt (.lst [v])) := same_upd nwt
    have hwt : upd H1 wt (.lst [v]) wt = some (.lst [v]) := upd_same
    generalize upd H1 wt (.lst [v]) = H2 at s2 hwt
    have nw : nd ≠ wt := ne_of_none hnd nwt
    have nwt0 : H wt = none := s1.free nwt
    refine ⟨NoI H v nd wt t,
      ⟨countL [t], none, [], [t], [], [v], rfl, s1.trans s2, s2 _ _ hnd, hwt, by unfold TrsA; rfl, by unfold TrsA TrsA; exact ⟨v, [], rfl, hT, rfl⟩, by simp [nodesL], rfl⟩, ?_⟩
    rintro m σ A ⟨v3, dn, us, dv, uv, rfl, sA, hn, hw, rd, ru, eq, rfl⟩
    refine ⟨_, rfl, _, .inl ⟨_, SqL.of hw, rfl⟩, ?_⟩
    cases us with
    | nil =>
      unfold TrsA at ru
      subst ru
      refine iteF ⟨_, rfl, q nd dv A sA nnd hn ?_⟩
      have e : dn = nodes t := by rw [← eq]; simp [nodesL]
      rw [← e]
      exact rd
    | cons u us =>
      unfold TrsA at ru
      obtain ⟨x, uv, rfl, hu, ru⟩ := ru
      have total : dn.length + (countL (u :: us)) = t.count := by
        have := congrArg List.length eq
        rw [List.length_append, nodesL_len, nodes_len] at this
        exact this
      have dl := rd.len
      have ul := ru.len
      have uc := count_len us
      have uc1 := count_pos u
      have cc : countL (u :: us) = count u + countL us := by simp [countL]
      rw [show (!(x :: uv).reverse.isEmpty) = true from by simp]
      rw [List.reverse_cons] at hw
      refine iteT ⟨fun σ' H' => ∃ m', m' < countL (u :: us) ∧ NoI H v nd wt t m' σ' H', fun σ' H' h => h, ?_⟩
      refine ⟨_, rfl, .inl ⟨rfl, _, SqL.of hw⟩, wt, _, x, rfl, rfl, hw, by simp, ?_⟩
      rw [List.dropLast_concat]
      have sA1 : Same H (upd A wt (.lst uv.reverse)) := same_put sA nwt0
      have hw1 : upd A wt (.lst uv.reverse) wt = some (.lst uv.reverse) := upd_same
      have hn1 : upd A wt (.lst uv.reverse) nd = some (.lst dv) := by rw [upd_ne nw]; exact hn
      generalize upd A wt (.lst uv.reverse) = A1 at sA1 hw1 hn1
      refine ⟨_, rfl, .inl ⟨rfl, _, SqL.of hn1⟩, _, rfl, nd, _, _, rfl, rfl, hn1, million1 (by omega), ?_⟩
      have sA2 : Same H (upd A1 nd (.lst (dv ++ [x]))) := same_put sA1 nnd
      have hn2 : upd A1 nd (.lst (dv ++ [x])) nd = some (.lst (dv ++ [x])) := upd_same
      have hw2 : upd A1 nd (.lst (dv ++ [x])) wt = some (.lst uv.reverse) := by rw [upd_ne (Ne.symm nw)]; exact hw1
      generalize upd A1 nd (.lst (dv ++ [x])) = A2 at sA2 hn2 hw2
      have rd2 : TrsA H (dn ++ [u]) (dv ++ [x]) := rd.app (by unfold TrsA TrsA; exact ⟨x, [], rfl, hu, rfl⟩)
      cases u with
      | leaf k i j =>
        unfold TrA at hu
        obtain ⟨a, rfl, h⟩ := hu
        refine ⟨_, rfl, a, _, 0, _, rfl, rfl, SqT.of (sA2 _ _ h), rfl, rfl, _, rfl, ?_⟩
        rw [decide_eq_false (show ¬ V.str "leaf" = V.str "tree" from by decide +kernel)]
        refine iteF ⟨countL us, by omega, _, _, us, _, uv, rfl, sA2, hn2, hw2, rd2, ru, ?_, rfl⟩
        rw [← eq]
        simp [nodesL, nodes]
      | tree N r i j ps =>
        unfold TrA at hu
        obtain ⟨a, p, vs, rfl, h, hp, hps⟩ := hu
        refine ⟨_, rfl, a, _, 0, _, rfl, rfl, SqT.of (sA2 _ _ h), rfl, rfl, _, rfl, ?_⟩
        rw [decide_eq_true (rfl : V.str "tree" = _)]
        have pl := hps.len
        have pc := count_len ps
        have e1 : count (tree N r i j ps) = 1 + countL ps := by simp [count]
        refine iteT ⟨_, rfl, .inl ⟨rfl, _, SqL.of hw2⟩, _, rfl, a, _, 5, _, rfl, rfl, SqT.of (sA2 _ _ h), rfl, p, vs, rfl, SqL.of (sA2 _ _ hp), fun rp nrp => ?_⟩
        have u1 : Same A2 (upd A2 rp (.lst vs.reverse)) := same_upd nrp
        have hrp : upd A2 rp (.lst vs.reverse) rp = some (.lst vs.reverse) := upd_same
        generalize upd A2 rp (.lst vs.reverse) = A3 at u1 hrp
        refine ⟨wt, rp, _, _, rfl, rfl, u1 _ _ hw2, hrp, ?_, ?_⟩
        · rw [List.length_reverse, List.length_reverse]
          exact million0 (by omega)
        · rw [← List.reverse_append]
          refine ⟨countL (ps ++ us), by rw [countL_app]; omega, _, _, ps ++ us, _, vs ++ uv, rfl, same_put (sA2.trans u1) nwt0, ?_, upd_same, rd2, hps.app ru, ?_, rfl⟩
          · rw [upd_ne nw]
            exact u1 _ _ hn2
          · rw [← eq, nodesL_app]
            simp [nodesL, nodes]
end
end Ld

set_option Elab.async false
set_option linter.all false
set_option maxRecDepth 100000
set_option maxHeartbeats 4000000
/-! The law's own leaves, sizes and costs of trees. -/
namespace Ld
open PySem PySem.Spec PyProof.Rows L2 Lg Lr Lb
open Tr
mutual
def leavesT : Tr → List Tr
  | .leaf k i j => [.leaf k i j]
  | .tree _ _ _ _ ps => leavesL ps
def leavesL : List Tr → List Tr
  | [] => []
  | t :: ts => leavesT t ++ leavesL ts
end
theorem leavesL_app : ∀ a b : List Tr, leavesL (a ++ b) = leavesL a ++ leavesL b
  | [], b => by simp [leavesL]
  | t :: ts, b => by simp [leavesL, leavesL_app ts b]
mutual
theorem leaves_len : ∀ t : Tr, (leavesT t).length ≤ t.count
  | .leaf _ _ _ => by simp [leavesT, count]
  | .tree _ _ _ _ ps => by
    have := leavesL_len ps
    simp only [leavesT, count]
    omega
theorem leavesL_len : ∀ ts : List Tr, (leavesL ts).length ≤ countL ts
  | [] => by simp [leavesL]
  | t :: ts => by
    have := leaves_len t
    have := leavesL_len ts
    simp only [leavesL, countL, List.length_append]
    omega
end
mutual
theorem leaves_nodes : ∀ {t u : Tr}, u ∈ leavesT t → u ∈ nodes t ∧ u.isT = false
  | .leaf k i j, u, h => by
    have : u = .leaf k i j := by simpa [leavesT] using h
    subst this
    exact ⟨nodes_self _, rfl⟩
  | .tree _ _ _ _ ps, u, h => by
    rw [leavesT] at h
    have := leavesL_nodes h
    rw [nodes]
    exact ⟨List.mem_cons_of_mem _ this.1, this.2⟩
theorem leavesL_nodes : ∀ {ts : List Tr} {u : Tr}, u ∈ leavesL ts → u ∈ nodesL ts ∧ u.isT = false
  | [], u, h => by simp [leavesL] at h
  | t :: ts, u, h => by
    rw [leavesL] at h
    rw [nodesL]
    rcases List.mem_append.mp h with m | m
    · have := leaves_nodes m
      exact ⟨List.mem_append_left _ this.1, this.2⟩
    · have := leavesL_nodes m
      exact ⟨List.mem_append_right _ this.1, this.2⟩
end
mutual
theorem leaves_price (Z : Prc) (row : List Str) : ∀ t : Tr, ((leavesT t).map (prT Z row)).sum = prT Z row t
  | .leaf _ _ _ => by simp [leavesT]
  | .tree _ _ _ _ ps => by
    rw [leavesT, prT]
    exact leavesL_price Z row ps
theorem leavesL_price (Z : Prc) (row : List Str) : ∀ ts : List Tr, ((leavesL ts).map (prT Z row)).sum = prL Z row ts
  | [] => by simp [leavesL, prL]
  | t :: ts => by
    have a := leaves_price Z row t
    have b := leavesL_price Z row ts
    simp only [leavesL, prL, List.map_append, List.sum_append, a, b]
end
theorem count_take {ts : List Tr} (n : Nat) : countL (ts.take n) ≤ countL ts := by
  have := countL_app (ts.take n) (ts.drop n)
  rw [List.take_append_drop] at this
  omega
def spLv (n : Nat) : Sp := fun vs H Q _ => ∃ (v : V) (t : Tr), vs = [v] ∧ TrA H t v ∧ t.deep < n ∧ t.count ≤ 400000 ∧ ∀ p dv H2, Same H H2 → H p = none → H2 p = some (.lst dv) → TrsA H2 (leavesT t) dv → Q (.ref p) H2
def spSz (n : Nat) : Sp := fun vs H Q _ => ∃ (v : V) (t : Tr), vs = [v] ∧ TrA H t v ∧ t.deep < n ∧ t.count ≤ 400000 ∧ ∀ H2, Same H H2 → Q (.int (t.count : Nat)) H2
def spLtc : Sp := fun vs H Q _ => ∃ (t r : Addr) (v : V) (Z : Prc) (row : List Str) (t0 : Tr), vs = [.ref t, .ref r, v] ∧ PrA H t Z ∧ PrcOk Z ∧ H r = some (.lst (row.map V.str)) ∧ row.length ≤ 60 ∧ TrA H t0 v ∧ (∀ u ∈ nodes t0, LfOk row.length u) ∧ t0.count ≤ 400000 ∧ t0.deep < 30 ∧
  ∀ (p : Addr) (H2 : Hp), Same H H2 → H2 p = some (.tup [.int (coT Z row t0).1, .int (coT Z row t0).2]) → Q (.ref p) H2
section
variable {P : Program} {w : World} {K : PySem.W.Frag} {mg : Str → Option Value} {base : Heap}
theorem scLv : FnScope ["tree", "out", "part"] ["tree"] (defScope s__law_leaves) := ⟨rfl, rfl, rfl, by decide +kernel, rfl, by decide +kernel, by decide +kernel⟩
theorem ok_lv {f : Addr} {fd : FuncData} (F : Fun K "_law_leaves" "_law_leaves" s__law_leaves f fd) (kSf : PySem.W.keepIn K (.ref f) = true) (bS : Binds K fd ["tree"] []) (gS : mg "_law_leaves" = some (.ref f)) : ∀ n, FnOk P w K mg base CX0 (1 + n) f fd ["tree"] (spLv n) := by
  intro n
  induction n with
  | zero =>
    refine F.ok (k := 0) scLv (fun vs H Q E h => ?_) (fun cdv A outer s H vs Q E hr h => ?_)
    · obtain ⟨v, t, rfl, _⟩ := h
      rfl
    · obtain ⟨v, t, rfl, _, lt, _⟩ := h
      exact absurd lt (Nat.not_lt_zero _)
  | succ n GS =>
  refine F.ok (k := 1 + n) scLv (fun vs H Q E h => ?_) (fun cdv A outer s H vs Q E hr h => ?_)
  · obtain ⟨v, t, rfl, _⟩ := h
    rfl
  · obtain ⟨v, t, rfl, hT, lt, few, q⟩ := h
    refine ⟨_, pss_cons (ps_if (pt_cmpR op_eq (pe_ix ix_tup (pv 0) pe_int (fun _ _ => rfl)) pe_str (nomark _)) (pss_one (ps_ret (pe_lst (pa_cons (pv 0) pa_nil))))
      pss_nil)
      (pss_cons (ps_set (i := 1) scLv.nd rfl (.inl rfl) (pe_lst pa_nil))
      (pss_cons (ps_for PassesOwn.never rfl (pi_list (pe_ix ix_tup (pv 0) pe_int (fun _ _ => rfl))) (pg_name (i := 2) scLv.nd rfl (.inl rfl))
      (pss_one (ps_set (i := 1) scLv.nd rfl (.inl rfl) (pe_op op_cat (pv 1) (pe_call GS hr (by rfl) gS kSf bS .nil pass0 (pa_cons (pv 2) pa_nil))))))
      (pss_one (ps_ret (pv 1))))), ?_⟩
    cases t with
    | leaf k i j =>
      have hT2 := hT
      unfold TrA at hT
      obtain ⟨a, rfl, h⟩ := hT
      refine ⟨_, rfl, a, _, 0, _, rfl, rfl, SqT.of h, rfl, rfl, _, rfl, ?_⟩
      rw [decide_eq_true (rfl : V.str "leaf" = _)]
      refine iteT ⟨_, rfl, (by show 1 ≤ sizeLine; decide), fun p np => q p _ _ (same_upd np) np upd_same ?_⟩
      rw [leavesT]
      unfold TrsA TrsA
      exact ⟨_, _, rfl, hT2.same (same_upd np), rfl⟩
    | tree N r i j ps =>
      unfold TrA at hT
      obtain ⟨a, p, pv, rfl, h, hp, hps⟩ := hT
      refine ⟨_, rfl, a, _, 0, _, rfl, rfl, SqT.of h, rfl, rfl, _, rfl, ?_⟩
      rw [decide_eq_false (show ¬ V.str "tree" = V.str "leaf" from by decide +kernel)]
      refine iteF ⟨Nat.zero_le _, fun od nod => ?_⟩
      have s1 : Same H (upd H od (.lst [])) := same_upd nod
      have hod : upd H od (.lst []) od = some (.lst []) := upd_same
      generalize upd H od (.lst []) = H1 at s1 hod
      refine ⟨_, rfl, a, _, 5, _, rfl, rfl, SqT.of (s1 _ _ h), rfl, p, rfl, ⟨_, SqL.of (s1 _ _ hp)⟩, for_list (a := p) (xs := pv) (fun m σ A => ∃ (o : Addr) (v2 : Option V) (dv : List V), σ = [some (.ref a), some (.ref o), v2] ∧ Same H A ∧ H o = none ∧ A o = some (.lst dv) ∧ TrsA A (leavesL (ps.take m)) dv)
        ⟨od, none, [], rfl, s1, nod, hod, by simp [leavesL, TrsA]⟩ (fun m σ A _ ⟨_, _, _, _, sA, _⟩ => SqL.of (sA _ _ hp)) ?_ ?_⟩
      · rintro m x σ A hx ⟨o, v2, dv, rfl, sA, no, ho, rd⟩
        obtain ⟨u, hu, ua⟩ := hps.rel.get hx
        have um := List.mem_of_getElem? hu
        have c1 := count_take (ts := ps) (m + 1)
        have tk : ps.take (m + 1) = ps.take m ++ [u] := by rw [List.take_add_one, hu]; rfl
        rw [tk, countL_app] at c1
        simp only [countL] at c1
        have c0 : (Tr.tree N r i j ps).count = 1 + countL ps := by simp [count]
        have dl := deepL_mem um
        have d0 : (Tr.tree N r i j ps).deep = 1 + deepL ps := by simp [Tr.deep]
        refine ⟨_, rfl, _, rfl, x, u, rfl, ua.same sA, by omega, by omega, fun l2 lv A2 s2 nl2 hl2 rl => ?_⟩
        have l1 := rd.len
        have l2' := rl.len
        have l3 := leavesL_len (ps.take m)
        have l4 := leaves_len u
        refine ⟨o, l2, _, _, rfl, rfl, s2 _ _ ho, hl2, million0 (by omega), fun o2 no2 => ?_⟩
        refine ⟨o2, _, _, rfl, (sA.trans s2).trans (same_upd no2), (sA.trans s2).free no2, upd_same, ?_⟩
        rw [tk, leavesL_app]
        simp only [leavesL, List.append_nil]
        exact ((rd.same s2).same (same_upd no2)).app (rl.same (same_upd no2))
      · rintro σ A ⟨o, v2, dv, rfl, sA, no, ho, rd⟩
        rw [hps.len, List.take_length] at rd
        refine ⟨_, rfl, q o dv A sA no ho ?_⟩
        rw [leavesT]
        exact rd
theorem scSz : FnScope ["tree", "part"] ["tree"] (defScope s__law_size) := ⟨rfl, rfl, rfl, by decide +kernel, rfl, by decide +kernel, by decide +kernel⟩
theorem ok_sz {f : Addr} {fd : FuncData} (F : Fun K "_law_size" "_law_size" s__law_size f fd) (kSf : PySem.W.keepIn K (.ref f) = true) (bS : Binds K fd ["tree"] []) (gS : mg "_law_size" = some (.ref f)) (m_sum : mg "sum" = none) : ∀ n, FnOk P w K mg base CX0 (1 + n) f fd ["tree"] (spSz n) := by
  intro n
  induction n with
  | zero =>
    refine F.ok (k := 0) scSz (fun vs H Q E h => ?_) (fun cdv A outer s H vs Q E hr h => ?_)
    · obtain ⟨v, t, rfl, _⟩ := h
      rfl
    · obtain ⟨v, t, rfl, _, lt, _⟩ := h
      exact absurd lt (Nat.not_lt_zero _)
  | succ n GS =>
  refine F.ok (k := 1 + n) scSz (fun vs H Q E h => ?_) (fun cdv A outer s H vs Q E hr h => ?_)
  · obtain ⟨v, t, rfl, _⟩ := h
    rfl
  · obtain ⟨v, t, rfl, hT, lt, few, q⟩ := h
    refine ⟨_, pss_cons (ps_if (pt_cmpR op_eq (pe_ix ix_tup (pv 0) pe_int (fun _ _ => rfl)) pe_str (nomark _)) (pss_one (ps_ret pe_int))
      pss_nil)
      (pss_one (ps_ret (pe_op op_add pe_int (pe_callB (cr_sum rfl) (by rfl) m_sum (by decide +kernel) (pa_cons (pe_lc (own := [("part", 1)]) (g := (gName 1)) rfl scSz.nd (pi_list (pe_ix ix_tup (pv 0) pe_int (fun _ _ => rfl))) (blkOk_by (N := ["tree", "part"]) (sc := defScope s__law_size) (by decide +kernel)) (fun _ _ _ _ _ => (pg_name (i := 1) scSz.nd rfl (Or.inl rfl))) (fun _ _ _ _ _ => pts_nil) (fun _ _ _ _ _ => (pe_call GS hr (by rfl) gS kSf bS .nil pass0 (pa_cons (pv 1) pa_nil)))) pa_nil))))), ?_⟩
    cases t with
    | leaf k i j =>
      unfold TrA at hT
      obtain ⟨a, rfl, h⟩ := hT
      refine ⟨_, rfl, a, _, 0, _, rfl, rfl, SqT.of h, rfl, rfl, _, rfl, ?_⟩
      rw [decide_eq_true (rfl : V.str "leaf" = _)]
      exact iteT (q H (Same.refl H))
    | tree N r i j ps =>
      unfold TrA at hT
      obtain ⟨a, p, pv, rfl, h, hp, hps⟩ := hT
      have c0 : (Tr.tree N r i j ps).count = 1 + countL ps := by simp [count]
      have d0 : (Tr.tree N r i j ps).deep = 1 + deepL ps := by simp [Tr.deep]
      refine ⟨_, rfl, a, _, 0, _, rfl, rfl, SqT.of h, rfl, rfl, _, rfl, ?_⟩
      rw [decide_eq_false (show ¬ V.str "tree" = V.str "leaf" from by decide +kernel)]
      refine iteF ⟨_, rfl, a, _, 5, _, rfl, rfl, SqT.of h, rfl, p, rfl, ⟨_, SqL.of hp⟩, fun D nD => lc_list (a := p) (xs := pv) (fun m A => Same H A ∧ A D = some (.lst (((ps.take m).map fun t => (t.count : Int)).map V.int))) ⟨same_upd nD, upd_same⟩ (fun m A _ ⟨sA, _⟩ => SqL.of (sA _ _ hp)) ?_ ?_⟩
      · rintro m x A hx ⟨sA, hd⟩
        obtain ⟨u, hu, ua⟩ := hps.rel.get hx
        have um := List.mem_of_getElem? hu
        have dl := deepL_mem um
        have c1 := count_take (ts := ps) (m + 1)
        have tk : ps.take (m + 1) = ps.take m ++ [u] := by rw [List.take_add_one, hu]; rfl
        rw [tk, countL_app] at c1
        simp only [countL] at c1
        have c2 := count_len (ps.take m)
        refine ⟨rfl, _, rfl, x, u, rfl, ua.same sA, by omega, by omega, fun A2 s2 => ⟨_, s2 _ _ hd, ?_, same_put (sA.trans s2) nD, ?_⟩⟩
        · rw [List.length_map, List.length_map]
          exact million1 (by omega)
        · rw [tk, List.map_append, List.map_append]
          exact upd_same
      · rintro A ⟨sA, hd⟩
        rw [hps.len, List.take_length] at hd
        refine ⟨D, _, rfl, SqL.of hd, _, _, rfl, rfl, ?_⟩
        have e : (ps.map fun t => (t.count : Int)).sum = (countL ps : Int) := by
          clear hps hd c0 d0 lt few q h
          induction ps with
          | nil => simp [countL]
          | cons t ts ih =>
            rw [List.map_cons, List.sum_cons, ih]
            simp only [countL]
            omega
        have := q A sA
        rw [c0, show ((1 + countL ps : Nat) : Int) = 1 + (ps.map fun t => (t.count : Int)).sum by rw [e]; omega] at this
        exact this
theorem scLtc : FnScope ["prices", "row", "tree", "word", "kind", "i", "j"] ["prices", "row", "tree"] (defScope s__law_tree_cost) := ⟨rfl, rfl, rfl, by decide +kernel, rfl, by decide +kernel, by decide +kernel⟩
theorem ok_ltc {f fL fV fZ : Addr} {fd fdL fdV fdZ : FuncData} (F : Fun K "_law_tree_cost" "_law_tree_cost" s__law_tree_cost f fd)
    (GL : FnOk P w K mg base CX0 2 fL fdL ["prices", "row", "kind", "i", "j"] spLeaf) (kL : PySem.W.keepIn K (.ref fL) = true) (bL : Binds K fdL ["prices", "row", "kind", "i", "j"] []) (gL : mg "_law_leaf" = some (.ref fL))
    (GV : FnOk P w K mg base CX0 31 fV fdV ["tree"] (spLv 30)) (kV : PySem.W.keepIn K (.ref fV) = true) (bV : Binds K fdV ["tree"] []) (gV : mg "_law_leaves" = some (.ref fV))
    (GZ : FnOk P w K mg base CX0 31 fZ fdZ ["tree"] (spSz 30)) (kZ : PySem.W.keepIn K (.ref fZ) = true) (bZ : Binds K fdZ ["tree"] []) (gZ : mg "_law_size" = some (.ref fZ))
    (m_sum : mg "sum" = none) : FnOk P w K mg base CX0 32 f fd ["prices", "row", "tree"] spLtc := by
  refine F.ok (k := 31) scLtc (fun vs H Q E h => ?_) (fun cdv A outer s H vs Q E hr h => ?_)
  · obtain ⟨t, r, v, Z, row, t0, rfl, _⟩ := h
    rfl
  · obtain ⟨t, r, v, Z, row, t0, rfl, hZ, ok, hrow, len, hT, lf, few, deep, q⟩ := h
    have hr2 := hr.mono (show 2 ≤ 31 by decide)
    have hr31 := hr
    refine ⟨_, pss_one (ps_ret (pe_tup (pa_cons (pe_callB (cr_sum rfl) (by rfl) m_sum (by decide +kernel) (pa_cons (pe_lc (own := [("word", 3), ("kind", 4), ("i", 5), ("j", 6)]) (g := (gTup K 4 (gCons (gName 3) (gCons (gName 4) (gCons (gName 5) (gCons (gName 6) gNil)))))) rfl scLtc.nd (pi_list (pe_call GV hr31 (by rfl) gV kV bV .nil pass0 (pa_cons (pv 2) pa_nil))) (blkOk_by (N := ["prices", "row", "tree", "word", "kind", "i", "j"]) (sc := defScope s__law_tree_cost) (by decide +kernel)) (fun _ _ _ _ _ => (pg_tup rfl (pgs_cons (pg_name (i := 3) scLtc.nd rfl (Or.inl rfl)) (pgs_cons (pg_name (i := 4) scLtc.nd rfl (Or.inl rfl)) (pgs_cons (pg_name (i := 5) scLtc.nd rfl (Or.inl rfl)) (pgs_cons (pg_name (i := 6) scLtc.nd rfl (Or.inl rfl)) pgs_nil)))))) (fun _ _ _ _ _ => pts_nil) (fun _ _ _ _ _ => (pe_call GL hr2 (by rfl) gL kL bL .nil pass0 (pa_cons (pv 0) (pa_cons (pv 1) (pa_cons (pv 4) (pa_cons (pv 5) (pa_cons (pv 6) pa_nil)))))))) pa_nil)) (pa_cons (pe_call GZ hr31 (by rfl) gZ kZ bZ .nil pass0 (pa_cons (pv 2) pa_nil)) pa_nil)))), ?_⟩
    refine ⟨_, rfl, v, t0, rfl, hT, deep, few, fun n dv H1 s1 nn hn rd => ?_⟩
    have ll := leaves_len t0
    refine ⟨n, rfl, ⟨_, SqL.of hn⟩, fun D nD => lc_list (a := n) (xs := dv) (fun m A => Same H1 A ∧ A D = some (.lst ((((leavesT t0).take m).map (prT Z row)).map V.int))) ⟨same_upd nD, upd_same⟩ (fun m A _ ⟨sA, _⟩ => SqL.of (sA _ _ hn)) ?_ ?_⟩
    · rintro m x A hx ⟨sA, hd⟩
      obtain ⟨u, hu, ua⟩ := rd.rel.get hx
      have um := leaves_nodes (List.mem_of_getElem? hu)
      have sH := s1.trans sA
      cases u with
      | tree _ _ _ _ _ => cases um.2
      | leaf k i j =>
        have lfu := lf _ um.1
        obtain ⟨i', rfl⟩ := Int.eq_ofNat_of_zero_le lfu.1
        obtain ⟨j', rfl⟩ := Int.eq_ofNat_of_zero_le (show 0 ≤ j by have := lfu.2.1; omega)
        have lf2 := lfu.2.1
        have lf3 := lfu.2.2
        unfold TrA at ua
        obtain ⟨b, rfl, hb⟩ := ua
        have tl := List.length_take_le' m (leavesT t0)
        refine ⟨b, _, rfl, SqT.of (sA _ _ hb), rfl, _, _, rfl, _, _, rfl, _, _, rfl, _, _, rfl, rfl, rfl, ?_⟩
        refine ⟨_, rfl, _, rfl, _, rfl, _, rfl, _, rfl, t, r, Z, row, k, i', j', rfl, hZ.up (Up.of_same sH), ok, sH _ _ hrow, by omega, by omega, len, fun A2 s2 => ⟨_, s2 _ _ hd, ?_, same_put (sA.trans s2) nD, ?_⟩⟩
        · rw [List.length_map, List.length_map]
          exact million1 (by omega)
        · rw [List.take_add_one, hu, List.map_append, List.map_append]
          exact upd_same
    · rintro A ⟨sA, hd⟩
      rw [rd.len, List.take_length] at hd
      have sH := s1.trans sA
      refine ⟨D, _, rfl, SqL.of hd, _, rfl, v, t0, rfl, hT.same sH, deep, few, fun A2 s2 => ⟨(by show 2 ≤ sizeLine; decide), fun p np => ?_⟩⟩
      rw [leaves_price]
      exact q p _ ((sH.trans s2).trans (same_upd np)) upd_same
end
end Ld

set_option Elab.async false
set_option linter.all false
set_option maxRecDepth 100000
set_option maxHeartbeats 4000000
/-! The leaves of a tree, as the program finds them. -/
namespace Ld
open PySem PySem.Spec PyProof.Rows L2 Lg Lr Lb
open Tr
mutual
theorem leaves_filter : ∀ t : Tr, (nodes t).filter (fun u => !u.isT) = leavesT t
  | .leaf _ _ _ => by simp [nodes, leavesT, isT]
  | .tree _ _ _ _ ps => by
    rw [nodes, leavesT, List.filter_cons_of_neg (by simp [isT])]
    exact leavesL_filter ps
theorem leavesL_filter : ∀ ts : List Tr, (nodesL ts).filter (fun u => !u.isT) = leavesL ts
  | [] => by simp [nodesL, leavesL]
  | t :: ts => by
    rw [nodesL, leavesL, List.filter_append, leaves_filter t, leavesL_filter ts]
end
theorem leaf_word (u : Tr) : decide (V.str u.word = V.str "leaf") = !u.isT := by
  cases u with
  | leaf k i j => exact decide_eq_true rfl
  | tree N r i j ps => exact (show decide (V.str "tree" = V.str "leaf") = false from by decide +kernel)
def spLo : Sp := fun vs H Q _ => ∃ (v : V) (t : Tr), vs = [v] ∧ TrA H t v ∧ t.count ≤ 400000 ∧ ∀ p dv H2, Same H H2 → H p = none → H2 p = some (.lst dv) → TrsA H (leavesT t) dv → Q (.ref p) H2
section
variable {P : Program} {w : World} {K : PySem.W.Frag} {mg : Str → Option Value} {base : Heap}
theorem scLo : FnScope ["tree", "node"] ["tree"] (defScope s_leaves_of) := ⟨rfl, rfl, rfl, by decide +kernel, rfl, by decide +kernel, by decide +kernel⟩
theorem ok_lo {f fO : Addr} {fd fdO : FuncData} (F : Fun K "leaves_of" "leaves_of" s_leaves_of f fd)
    (GO : FnOk P w K mg base CX0 1 fO fdO ["tree"] spNo) (kO : PySem.W.keepIn K (.ref fO) = true) (bO : Binds K fdO ["tree"] []) (gO : mg "nodes_of" = some (.ref fO)) : FnOk P w K mg base CX0 2 f fd ["tree"] spLo := by
  refine F.ok (k := 1) scLo (fun vs H Q E h => ?_) (fun cdv A outer s H vs Q E hr h => ?_)
  · obtain ⟨v, t, rfl, _⟩ := h
    rfl
  · obtain ⟨v, t, rfl, hT, few, q⟩ := h
    have hr1 := hr
    refine ⟨_, pss_one (ps_ret (pe_lc (own := [("node", 1)]) (g := (gName 1)) rfl scLo.nd (pi_list (pe_call GO hr1 (by rfl) gO kO bO .nil pass0 (pa_cons (pv 0) pa_nil))) (blkOk_by (N := ["tree", "node"]) (sc := defScope s_leaves_of) (by decide +kernel)) (fun _ _ _ _ _ => (pg_name (i := 1) scLo.nd rfl (Or.inl rfl))) (fun _ _ _ _ _ => pts_one (pt_cmpR (r := rEq) op_eq (pe_ix (r := rIxT K) ix_tup (pv 1) pe_int (fun _ _ => rfl)) pe_str (nomark _))) (fun _ _ _ _ _ => (pv 1)))), ?_⟩
    refine ⟨_, rfl, v, t, rfl, hT, few, fun n dv H1 s1 nn hn rd => ?_⟩
    refine ⟨n, rfl, ⟨_, SqL.of hn⟩, fun D nD => lc_list (a := n) (xs := dv) (fun m A => ∃ lv, Same H1 A ∧ A D = some (.lst lv) ∧ TrsA H (((nodes t).take m).filter fun u => !u.isT) lv) ⟨[], same_upd nD, upd_same, by simp [TrsA]⟩ (fun m A _ ⟨_, sA, _⟩ => SqL.of (sA _ _ hn)) ?_ ?_⟩
    · rintro m x A hx ⟨lv, sA, hd, rl⟩
      obtain ⟨u, hu, ua⟩ := rd.rel.get hx
      obtain ⟨b, xs, rfl, hb, x0, _⟩ := (ua.same (s1.trans sA)).tup
      have ll := rl.len
      have fl := List.length_filter_le (fun u : Tr => !u.isT) ((nodes t).take m)
      have tl := List.length_take_le' m (nodes t)
      have nl := nodes_len t
      refine ⟨rfl, _, rfl, b, xs, 0, _, rfl, rfl, SqT.of hb, at_of (j := 0) rfl x0, rfl, _, rfl, ?_⟩
      rw [leaf_word]
      have tk : ((nodes t).take (m + 1)).filter (fun u => !u.isT) = ((nodes t).take m).filter (fun u => !u.isT) ++ (if u.isT = true then [] else [u]) := by
        rw [List.take_add_one, hu, List.filter_append]
        congr 1
        cases e : u.isT <;> simp [e]
      cases e : u.isT with
      | true =>
        rw [e, if_pos rfl, List.append_nil] at tk
        exact iteF ⟨lv, sA, hd, by rw [tk]; exact rl⟩
      | false =>
        rw [e, if_neg Bool.false_ne_true] at tk
        refine iteT ⟨_, rfl, _, hd, million1 (by omega), lv ++ [.ref b], same_put sA nD, upd_same, ?_⟩
        rw [tk]
        exact rl.app (by unfold TrsA TrsA; exact ⟨_, _, rfl, ua, rfl⟩)
    · rintro A ⟨lv, sA, hd, rl⟩
      rw [rd.len, List.take_length, leaves_filter] at rl
      exact q D lv A (s1.trans sA) (s1.free nD) hd rl
end
end Ld

set_option Elab.async false
set_option linter.all false
set_option maxRecDepth 100000
set_option maxHeartbeats 4000000
namespace Ld
open PySem PySem.Spec PyProof.Rows L2 Lg Lr Lb
theorem big0 {n : Nat} (h : n ≤ 16000000) : n ≤ sizeLine := Nat.le_trans h (by rw [sizeLine_eq]; decide)
theorem big1 {n : Nat} (h : n ≤ 16000000) : n < sizeLine := Nat.lt_of_le_of_lt h (by rw [sizeLine_eq]; decide)
structure Md where
  w : Str
  i : Int
  k : Option Str
def mdV (m : Md) : List V := .str m.w :: .int m.i :: m.k.toList.map V.str
def mdD (m : Md) : PyData := .tuple (.str m.w :: .int m.i :: m.k.toList.map PyData.str)
def mdsD (ms : List Md) : PyData := .list (ms.map mdD)
def MK : List Str := ["A", "BB", "C"]
def MdOk (m : Md) : Prop := (m.w = "out" ∧ m.k = none) ∨ ((m.w = "put" ∨ m.w = "change") ∧ ∃ k ∈ MK, m.k = some k)
def MdA (H : Hp) (v : V) (m : Md) : Prop := ∃ b, v = .ref b ∧ H b = some (.tup (mdV m))
def MdsA (H : Hp) (a : Addr) (ms : List Md) : Prop := ∃ vs, H a = some (.lst vs) ∧ Rel2 (MdA H) vs ms
theorem MdA.same {A B : Hp} (u : Same A B) (v : V) (m : Md) (h : MdA A v m) : MdA B v m := let ⟨a, e, q⟩ := h; ⟨a, e, u _ _ q⟩
theorem MdsA.same {A B : Hp} (u : Same A B) {a : Addr} {ms : List Md} (h : MdsA A a ms) : MdsA B a ms := let ⟨vs, e, q⟩ := h; ⟨vs, u _ _ e, q.mono (MdA.same u)⟩
theorem dpStrs {K : PySem.W.Frag} {H : Hp} : ∀ l : List Str, DpAll K H (l.map V.str) (l.map PyData.str)
  | [] => .nil
  | x :: xs => .cons (.str _) (dpStrs xs)
theorem MdA.dp {K : PySem.W.Frag} {H : Hp} {v : V} {m : Md} (h : MdA H v m) : Dp K H v (mdD m) := by
  obtain ⟨b, rfl, hb⟩ := h
  exact .tup (SqT.of hb) (.cons (.str _) (.cons (.int _) (dpStrs _)))
theorem MdsA.dp {K : PySem.W.Frag} {H : Hp} {a : Addr} {ms : List Md} (h : MdsA H a ms) : Dp K H (.ref a) (mdsD ms) := by
  obtain ⟨vs, e, q⟩ := h
  exact .lst (SqL.of e) (q.dp fun v m hm => MdA.dp hm)
end Ld

set_option Elab.async false
set_option linter.all false
set_option maxRecDepth 100000
set_option maxHeartbeats 4000000
/-! The mends of a tree, as the program makes them. -/
namespace Ld
open PySem PySem.Spec PyProof.Rows L2 Lg Lr Lb
open Tr
def outM (i n : Nat) : List Md := (List.range n).map fun x => ⟨"out", ((i + x : Nat) : Int), none⟩
theorem outM_succ (i n : Nat) : outM i (n + 1) = outM i n ++ [⟨"out", ((i + n : Nat) : Int), none⟩] := by
  unfold outM
  rw [List.range_succ, List.map_append]
  rfl
theorem outM_len (i n : Nat) : (outM i n).length = n := by simp [outM]
def keptB (row : List Str) (k : Str) (i j : Nat) : Bool := decide (i < j) && decide (row[j - 1]? = some k)
def mdsLeaf (row : List Str) (k : Str) (i j : Nat) : List Md := if i = j then [⟨"put", (i : Int), some k⟩] else outM i (j - 1 - i) ++ (if row[j - 1]? = some k then [] else [⟨"change", ((j - 1 : Nat) : Int), some k⟩])
def mdLeaf (row : List Str) : Tr → List Md
  | .leaf k i j => mdsLeaf row k i.toNat j.toNat
  | .tree _ _ _ _ _ => []
def mdsAll (row : List Str) (m : Nat) (t : Tr) : List Md := (leavesT t).flatMap (mdLeaf row) ++ outM m (row.length - m)
theorem mdLeaf_len {row : List Str} {u : Tr} (h : LfOk row.length u) : (mdLeaf row u).length ≤ row.length + 1 := by
  cases u with
  | tree _ _ _ _ _ => simp [mdLeaf]
  | leaf k i j =>
    obtain ⟨h1, h2, h3⟩ := h
    simp only [mdLeaf, mdsLeaf]
    split
    · simp
    · rw [List.length_append, outM_len]
      split <;> simp <;> omega
theorem flat_len {α β : Type} {f : α → List β} {b : Nat} : ∀ {l : List α}, (∀ x ∈ l, (f x).length ≤ b) → (l.flatMap f).length ≤ l.length * b
  | [], _ => by simp
  | x :: l, h => by
    have a := h x List.mem_cons_self
    have c := flat_len (l := l) fun y hy => h y (List.mem_cons_of_mem _ hy)
    rw [List.flatMap_cons, List.length_append, List.length_cons, Nat.succ_mul]
    omega
theorem leaf_tupS {A B : Hp} (u : TupS A B) {k : Str} {i j : Int} {v : V} (h : TrA A (.leaf k i j) v) : TrA B (.leaf k i j) v := by
  unfold TrA at *
  obtain ⟨a, e, q⟩ := h
  exact ⟨a, e, u _ _ q⟩
theorem MdA.tupS {A B : Hp} (u : TupS A B) (v : V) (m : Md) (h : MdA A v m) : MdA B v m := let ⟨a, e, q⟩ := h; ⟨a, e, u _ _ q⟩
def spIk : Sp := fun vs H Q _ => ∃ (r : Addr) (v : V) (row : List Str) (k : Str) (i j : Nat), vs = [.ref r, v] ∧ H r = some (.lst (row.map V.str)) ∧ TrA H (.leaf k i j) v ∧ i ≤ j ∧ j ≤ row.length ∧ Q (.bl (keptB row k i j)) H
def spMl : Sp := fun vs H Q _ => ∃ (r : Addr) (v : V) (row : List Str) (k : Str) (i j : Nat), vs = [.ref r, v] ∧ H r = some (.lst (row.map V.str)) ∧ TrA H (.leaf k i j) v ∧ i ≤ j ∧ j ≤ row.length ∧ row.length ≤ 60 ∧ ∀ p mv H2, Same H H2 → H p = none → H2 p = some (.lst mv) → Rel2 (MdA H2) mv (mdsLeaf row k i j) → Q (.ref p) H2
def spMs : Sp := fun vs H Q _ => ∃ (r : Addr) (v : V) (row : List Str) (m : Nat) (t : Tr), vs = [.ref r, .int m, v] ∧ H r = some (.lst (row.map V.str)) ∧ TrA H t v ∧ (∀ u ∈ nodes t, LfOk row.length u) ∧ row.length ≤ 60 ∧ m ≤ row.length ∧ t.count ≤ 400000 ∧ t.count * (row.length + 1) ≤ 4000000 ∧ ∀ p mv H2, Same H H2 → H p = none → H2 p = some (.lst mv) → Rel2 (MdA H2) mv (mdsAll row m t) → Q (.ref p) H2
section
variable {P : Program} {w : World} {K : PySem.W.Frag} {mg : Str → Option Value} {base : Heap}
theorem scIk : FnScope ["row", "leaf", "word", "kind", "i", "j"] ["row", "leaf"] (defScope s__is_kept) := ⟨rfl, rfl, rfl, by decide +kernel, rfl, by decide +kernel, by decide +kernel⟩
theorem ok_ik {f : Addr} {fd : FuncData} (F : Fun K "_is_kept" "_is_kept" s__is_kept f fd) : FnOk P w K mg base CX0 1 f fd ["row", "leaf"] spIk := by
  refine F.ok scIk (fun vs H Q E h => ?_) (fun cdv A outer s H vs Q E hr h => ?_)
  · obtain ⟨r, v, row, k, i, j, rfl, _⟩ := h
    rfl
  · obtain ⟨r, v, row, k, i, j, rfl, hrow, hT, ij, jn, q⟩ := h
    refine ⟨_, pss_cons (ps_asg (pv 1) (pg_tup rfl (pgs_cons (pg_name (i := 2) scIk.nd rfl (.inl rfl)) (pgs_cons (pg_name (i := 3) scIk.nd rfl (.inl rfl)) (pgs_cons (pg_name (i := 4) scIk.nd rfl (.inl rfl)) (pgs_cons (pg_name (i := 5) scIk.nd rfl (.inl rfl)) pgs_nil))))))
      (pss_one (ps_ret (pe_and (pe_cmpR op_lt (pv 4) (pv 5) (nomark _)) (pe_one (pe_cmpR op_eq (pe_ix ix_list (pv 0) (pe_op op_sub (pv 5) pe_int) (fun _ _ => rfl)) (pv 3) (nomark _)))))), ?_⟩
    unfold TrA at hT
    obtain ⟨a, rfl, h⟩ := hT
    refine ⟨_, rfl, a, _, rfl, SqT.of h, rfl, _, _, rfl, _, _, rfl, _, _, rfl, _, _, rfl, rfl, ?_⟩
    refine ⟨_, rfl, _, rfl, _, _, rfl, rfl, _, rfl, ?_⟩
    unfold keptB at q
    by_cases c : i < j
    · rw [decide_eq_true c, Bool.true_and] at q
      rw [decide_eq_true (show (i : Int) < (j : Int) by omega)]
      obtain ⟨x, hx⟩ : ∃ x, row[j - 1]? = some x := ⟨_, List.getElem?_eq_getElem (by omega)⟩
      refine iteT ⟨_, rfl, _, rfl, _, _, rfl, rfl, r, _, _, _, rfl, rfl, SqL.of hrow, at_of (j := j - 1) (by omega) (by rw [List.getElem?_map, hx]; rfl), _, rfl, rfl, ?_⟩
      rw [hx] at q
      by_cases e : x = k
      · rw [decide_eq_true (show some x = some k by rw [e])] at q
        rw [decide_eq_true (show V.str x = V.str k by rw [e])]
        exact q
      · rw [decide_eq_false (show ¬ some x = some k from fun z => e (Option.some.inj z))] at q
        rw [decide_eq_false (show ¬ V.str x = V.str k from fun z => e (V.str.inj z))]
        exact q
    · rw [decide_eq_false c, Bool.false_and] at q
      rw [decide_eq_false (show ¬ (i : Int) < (j : Int) by omega)]
      exact iteF q
theorem scMl : FnScope ["row", "leaf", "word", "kind", "i", "j", "left_out", "k"] ["row", "leaf"] (defScope s__mends_of_leaf) := ⟨rfl, rfl, rfl, by decide +kernel, rfl, by decide +kernel, by decide +kernel⟩
theorem ok_ml {f fK : Addr} {fd fdK : FuncData} (F : Fun K "_mends_of_leaf" "_mends_of_leaf" s__mends_of_leaf f fd)
    (GK : FnOk P w K mg base CX0 1 fK fdK ["row", "leaf"] spIk) (kK : PySem.W.keepIn K (.ref fK) = true) (bK : Binds K fdK ["row", "leaf"] []) (gK : mg "_is_kept" = some (.ref fK))
    (mr : mg "range" = none) : FnOk P w K mg base CX0 2 f fd ["row", "leaf"] spMl := by
  refine F.ok (k := 1) scMl (fun vs H Q E h => ?_) (fun cdv A outer s H vs Q E hr h => ?_)
  · obtain ⟨r, v, row, k, i, j, rfl, _⟩ := h
    rfl
  · obtain ⟨r, v, row, k, i, j, rfl, hrow, hT, ij, jn, len, q⟩ := h
    have hr1 := hr
    refine ⟨_, pss_cons (ps_asg (pv 1) (pg_tup rfl (pgs_cons (pg_name (i := 2) scMl.nd rfl (.inl rfl)) (pgs_cons (pg_name (i := 3) scMl.nd rfl (.inl rfl)) (pgs_cons (pg_name (i := 4) scMl.nd rfl (.inl rfl)) (pgs_cons (pg_name (i := 5) scMl.nd rfl (.inl rfl)) pgs_nil))))))
      (pss_cons (ps_if (pt_cmpR op_eq (pv 4) (pv 5) (nomark _)) (pss_one (ps_ret (pe_lst (pa_cons (pe_tup (pa_cons pe_str (pa_cons (pv 4) (pa_cons (pv 3) pa_nil)))) pa_nil))))
      pss_nil)
      (pss_cons (ps_setLc (i := 6) (own := [("k", 7)]) (g := (gName 7)) (by rfl) scMl.nd rfl rfl (sw_true rfl rfl rfl (by decide +kernel)) (pi_range2 rfl mr (pa_cons (pv 4) (pa_cons (pe_op op_sub (pv 5) pe_int) pa_nil))) (blkOk_by (N := ["row", "leaf", "word", "kind", "i", "j", "left_out", "k"]) (sc := defScope s__mends_of_leaf) (by decide +kernel)) (fun _ _ _ _ _ => (pg_name (i := 7) scMl.nd rfl (Or.inl rfl))) (fun _ _ _ _ _ => pts_nil) (fun _ _ _ _ _ => (pe_tup (pa_cons pe_str (pa_cons (pv 7) pa_nil)))))
      (pss_cons (ps_if (pt_val (pe_call GK hr1 (by rfl) gK kK bK .nil pass0 (pa_cons (pv 0) (pa_cons (pv 1) pa_nil)))) (pss_one (ps_ret (pv 6)))
      pss_nil)
      (pss_one (ps_ret (pe_op op_cat (pv 6) (pe_lst (pa_cons (pe_tup (pa_cons pe_str (pa_cons (pe_op op_sub (pv 5) pe_int) (pa_cons (pv 3) pa_nil)))) pa_nil)))))))), ?_⟩
    have hT0 := hT
    unfold TrA at hT
    obtain ⟨a, rfl, h⟩ := hT
    refine ⟨_, rfl, a, _, rfl, SqT.of h, rfl, _, _, rfl, _, _, rfl, _, _, rfl, _, _, rfl, rfl, ?_⟩
    refine ⟨_, rfl, _, rfl, rfl, _, rfl, ?_⟩
    unfold mdsLeaf at q
    by_cases c : i = j
    · rw [if_pos c] at q
      rw [decide_eq_true (show V.int (i : Nat) = V.int (j : Nat) by rw [c])]
      refine iteT ⟨_, rfl, _, rfl, (by show 3 ≤ sizeLine; decide), fun t1 nt1 => ⟨(by show 1 ≤ sizeLine; decide), fun p np => ?_⟩⟩
      have u1 : Same H (upd H t1 (.tup [.str "put", .int (i : Nat), .str k])) := same_upd nt1
      have ht1 : upd H t1 (.tup [.str "put", .int (i : Nat), .str k]) t1 = some (.tup [.str "put", .int (i : Nat), .str k]) := upd_same
      exact q p _ _ (u1.trans (same_upd np)) (u1.free np) upd_same ⟨⟨t1, rfl, (same_upd np) _ _ ht1⟩, True.intro⟩
    · rw [if_neg c] at q
      rw [decide_eq_false (show ¬ V.int (i : Nat) = V.int (j : Nat) from fun z => c (by have := V.int.inj z; omega))]
      have ej : (j : Int) - 1 = ((j - 1 : Nat) : Int) := by omega
      refine iteF ⟨_, rfl, _, rfl, _, _, rfl, rfl, _, _, rfl, ⟨by omega, by omega, by omega, by omega⟩, ?_⟩
      intro D nD
      refine lc_range (lo := (i : Int)) (n := ((j : Int) - 1 - (i : Int)).toNat) (fun m A => ∃ mv, Same H A ∧ A D = some (.lst mv) ∧ Rel2 (MdA A) mv (outM i m)) ⟨[], same_upd nD, upd_same, True.intro⟩ ?_ ?_
      · rintro m A hm ⟨mv, sA, hd, rel⟩
        have rl := rel.len
        rw [outM_len] at rl
        refine ⟨rfl, _, rfl, (by show 2 ≤ sizeLine; decide), fun t1 nt1 => ?_⟩
        have u1 : Same A (upd A t1 (.tup [.str "out", .int ((i : Int) + (m : Int))])) := same_upd nt1
        have ht1 : upd A t1 (.tup [.str "out", .int ((i : Int) + (m : Int))]) t1 = some (.tup [.str "out", .int ((i : Int) + (m : Int))]) := upd_same
        generalize upd A t1 (.tup [.str "out", .int ((i : Int) + (m : Int))]) = A1 at u1 ht1
        have hd1 := u1 _ _ hd
        refine ⟨_, hd1, million1 (by omega), mv ++ [.ref t1], same_put (sA.trans u1) nD, upd_same, ?_⟩
        have uT : TupS A1 (upd A1 D (.lst (mv ++ [.ref t1]))) := TupS.at_lst hd1
        rw [outM_succ]
        refine ((rel.mono (MdA.same u1)).mono (MdA.tupS uT)).snoc ⟨t1, rfl, uT _ _ ?_⟩
        rw [ht1]
        simp [mdV]
      · rintro A ⟨mv, sA, hd, rel⟩
        rw [show ((j : Int) - 1 - (i : Int)).toNat = j - 1 - i by omega] at rel
        have rl := rel.len
        rw [outM_len] at rl
        refine ⟨_, rfl, _, rfl, r, .ref a, row, k, i, j, rfl, sA _ _ hrow, hT0.same sA, ij, jn, _, rfl, ?_⟩
        unfold keptB
        rw [decide_eq_true (show i < j by omega), Bool.true_and]
        by_cases e : row[j - 1]? = some k
        · rw [if_pos e, List.append_nil] at q
          rw [decide_eq_true e]
          exact iteT ⟨_, rfl, q D mv A sA nD hd rel⟩
        · rw [if_neg e] at q
          rw [decide_eq_false e]
          refine iteF ⟨_, rfl, _, rfl, _, _, rfl, rfl, _, rfl, (by show 3 ≤ sizeLine; decide), ?_⟩
          dsimp only
          rw [ej]
          intro t1 nt1
          have u1 : Same A (upd A t1 (.tup [.str "change", .int (j - 1 : Nat), .str k])) := same_upd nt1
          have ht1 : upd A t1 (.tup [.str "change", .int (j - 1 : Nat), .str k]) t1 = some (.tup [.str "change", .int (j - 1 : Nat), .str k]) := upd_same
          generalize upd A t1 (.tup [.str "change", .int (j - 1 : Nat), .str k]) = A1 at u1 ht1
          refine ⟨(by show 1 ≤ sizeLine; decide), fun l1 nl1 => ?_⟩
          have u2 : Same A1 (upd A1 l1 (.lst [.ref t1])) := same_upd nl1
          have hl1 : upd A1 l1 (.lst [.ref t1]) l1 = some (.lst [.ref t1]) := upd_same
          generalize upd A1 l1 (.lst [.ref t1]) = A2 at u2 hl1
          have u12 := u1.trans u2
          refine ⟨D, l1, _, _, rfl, rfl, u12 _ _ hd, hl1, million0 (by rw [List.length_singleton]; omega), fun p np => ?_⟩
          have u3 : Same A2 (upd A2 p (.lst (mv ++ [.ref t1]))) := same_upd np
          have s3 := (sA.trans u12).trans u3
          refine q p _ _ s3 ((sA.trans u12).free np) upd_same ?_
          exact (rel.mono (MdA.same (u12.trans u3))).snoc ⟨t1, rfl, u3 _ _ (u2 _ _ ht1)⟩
theorem scMs : FnScope ["row", "m", "tree", "found", "leaf", "k"] ["row", "m", "tree"] (defScope s_mends) := ⟨rfl, rfl, rfl, by decide +kernel, rfl, by decide +kernel, by decide +kernel⟩
theorem ok_ms {f fB fH : Addr} {fd fdB fdH : FuncData} (F : Fun K "mends" "mends" s_mends f fd)
    (GB : FnOk P w K mg base CX0 2 fB fdB ["row", "leaf"] spMl) (kB : PySem.W.keepIn K (.ref fB) = true) (bB : Binds K fdB ["row", "leaf"] []) (gB : mg "_mends_of_leaf" = some (.ref fB))
    (GH : FnOk P w K mg base CX0 2 fH fdH ["tree"] spLo) (kH : PySem.W.keepIn K (.ref fH) = true) (bH : Binds K fdH ["tree"] []) (gH : mg "leaves_of" = some (.ref fH))
    (ml : mg "len" = none) (mr : mg "range" = none) : FnOk P w K mg base CX0 3 f fd ["row", "m", "tree"] spMs := by
  refine F.ok (k := 2) scMs (fun vs H Q E h => ?_) (fun cdv A outer s H vs Q E hr h => ?_)
  · obtain ⟨r, v, row, m, t, rfl, _⟩ := h
    rfl
  · obtain ⟨r, v, row, m, t, rfl, hrow, hT, lf, len, mn, few, few2, q⟩ := h
    have hr2 := hr
    refine ⟨_, pss_cons (ps_set (i := 3) scMs.nd rfl (.inl rfl) (pe_lst pa_nil))
      (pss_cons (ps_for PassesOwn.never rfl (pi_list (pe_call GH hr2 (by rfl) gH kH bH .nil pass0 (pa_cons (pv 2) pa_nil))) (pg_name (i := 4) scMs.nd rfl (.inl rfl))
      (pss_one (ps_expr (pe_bm PySem.F.plainAttrs_list PySem.F.slot_list_extend PySem.F.type_list_extend mt_extend (pv 3) (pa_cons (pe_call GB hr2 (by rfl) gB kB bB .nil pass0 (pa_cons (pv 0) (pa_cons (pv 4) pa_nil))) pa_nil)))))
      (pss_one (ps_ret (pe_op op_cat (pv 3) (pe_lc (own := [("k", 5)]) (g := (gName 5)) rfl scMs.nd (pi_range2 rfl mr (pa_cons (pv 1) (pa_cons (pe_callB call_len_seq (by rfl) ml PySem.boot_len (pa_cons (pv 0) pa_nil)) pa_nil))) (blkOk_by (N := ["row", "m", "tree", "found", "leaf", "k"]) (sc := defScope s_mends) (by decide +kernel)) (fun _ _ _ _ _ => (pg_name (i := 5) scMs.nd rfl (Or.inl rfl))) (fun _ _ _ _ _ => pts_nil) (fun _ _ _ _ _ => (pe_tup (pa_cons pe_str (pa_cons (pv 5) pa_nil))))))))), ?_⟩
    refine ⟨Nat.zero_le _, fun fd nfd => ?_⟩
    have s1 : Same H (upd H fd (.lst [])) := same_upd nfd
    have hfd : upd H fd (.lst []) fd = some (.lst []) := upd_same
    generalize upd H fd (.lst []) = H1 at s1 hfd
    refine ⟨_, rfl, v, t, rfl, hT.same s1, few, fun ln lv H2 s2 nln hln rl => ?_⟩
    have s02 := s1.trans s2
    have lfn : ln ≠ fd := fun e => by rw [e, hfd] at nln; cases nln
    have ll := leaves_len t
    have lv2 := rl.len
    refine ⟨ln, rfl, ⟨_, SqL.of hln⟩, for_list (a := ln) (xs := lv) (fun n σ A => ∃ (v4 : Option V) (fv : List V), σ = [some (.ref r), some (.int (m : Nat)), some v, some (.ref fd), v4, none] ∧ Same H A ∧ A ln = some (.lst lv) ∧ TupS H1 A ∧ A fd = some (.lst fv) ∧ Rel2 (MdA A) fv (((leavesT t).take n).flatMap (mdLeaf row)))
      ⟨none, [], rfl, s02, hln, TupS.of_same s2, s2 _ _ hfd, True.intro⟩ (fun n σ A _ ⟨_, _, _, _, h, _⟩ => SqL.of h) ?_ ?_⟩
    · rintro n x σ A hx ⟨v4, fv, rfl, sA, hlA, rlA, hfA, rel⟩
      obtain ⟨u, hu, ua⟩ := rl.rel.get hx
      have um := leaves_nodes (List.mem_of_getElem? hu)
      have lfu := lf _ um.1
      have ml' := mdLeaf_len lfu
      have nl := (List.getElem?_eq_some_iff.mp hu).1
      have fl : (((leavesT t).take n).flatMap (mdLeaf row)).length ≤ 4000000 := by
        have a := flat_len (l := (leavesT t).take n) (f := mdLeaf row) (b := row.length + 1) fun y hy => mdLeaf_len (lf _ (leaves_nodes (List.mem_of_mem_take hy)).1)
        have b := List.length_take_le' n (leavesT t)
        have c : ((leavesT t).take n).length * (row.length + 1) ≤ t.count * (row.length + 1) := Nat.mul_le_mul_right _ (by omega)
        omega
      have tk : ((leavesT t).take (n + 1)).flatMap (mdLeaf row) = ((leavesT t).take n).flatMap (mdLeaf row) ++ mdLeaf row u := by
        rw [List.take_add_one, hu, List.flatMap_append]
        simp
      have vl := rel.len
      cases u with
      | tree _ _ _ _ _ => cases um.2
      | leaf k i j =>
        obtain ⟨i', rfl⟩ := Int.eq_ofNat_of_zero_le lfu.1
        obtain ⟨j', rfl⟩ := Int.eq_ofNat_of_zero_le (show 0 ≤ j by have := lfu.2.1; omega)
        have lf2 := lfu.2.1
        have lf3 := lfu.2.2
        refine ⟨_, rfl, .inl ⟨rfl, _, SqL.of hfA⟩, _, rfl, _, rfl, r, x, row, k, i', j', rfl, sA _ _ hrow, leaf_tupS rlA ua, by omega, by omega, len, fun p mv A2 s2' np hp relp => ?_⟩
        have hfA2 := s2' _ _ hfA
        have pl := relp.len
        have pm : (mdsLeaf row k i' j').length ≤ row.length + 1 := ml'
        refine ⟨fd, p, _, _, rfl, rfl, hfA2, hp, big0 (by omega), ?_⟩
        have uT : TupS A2 (upd A2 fd (.lst (fv ++ mv))) := TupS.at_lst hfA2
        refine ⟨_, fv ++ mv, rfl, same_put (sA.trans s2') nfd, ?_, ?_, upd_same, ?_⟩
        · rw [upd_ne lfn]
          exact s2' _ _ hlA
        · exact (rlA.trans (TupS.of_same s2')).trans uT
        · rw [tk]
          exact (((rel.mono (MdA.same s2')).mono (MdA.tupS uT))).app (relp.mono (MdA.tupS uT))
    · rintro σ A ⟨v4, fv, rfl, sA, hlA, rlA, hfA, rel⟩
      rw [lv2, List.take_length] at rel
      have fl := flat_len (l := leavesT t) (f := mdLeaf row) (b := row.length + 1) fun y hy => mdLeaf_len (lf _ (leaves_nodes hy).1)
      have c : (leavesT t).length * (row.length + 1) ≤ t.count * (row.length + 1) := Nat.mul_le_mul_right _ ll
      have vl := rel.len
      refine ⟨_, rfl, _, rfl, _, rfl, r, _, rfl, .inl (SqL.of (sA _ _ hrow)), _, _, rfl, ⟨by omega, by omega, by rw [List.length_map]; omega, by rw [List.length_map]; omega⟩, ?_⟩
      intro D nD
      refine lc_range (lo := (m : Int)) (n := (((row.map V.str).length : Int) - (m : Int)).toNat) (fun n A2 => ∃ mv, Same A A2 ∧ A2 D = some (.lst mv) ∧ Rel2 (MdA A2) mv (outM m n)) ⟨[], same_upd nD, upd_same, True.intro⟩ ?_ ?_
      · rintro n A2 hn ⟨mv, sA2, hd, rel2⟩
        have rl2 := rel2.len
        rw [outM_len] at rl2
        rw [List.length_map] at hn
        refine ⟨rfl, _, rfl, (by show 2 ≤ sizeLine; decide), fun t1 nt1 => ?_⟩
        have u1 : Same A2 (upd A2 t1 (.tup [.str "out", .int ((m : Int) + (n : Int))])) := same_upd nt1
        have ht1 : upd A2 t1 (.tup [.str "out", .int ((m : Int) + (n : Int))]) t1 = some (.tup [.str "out", .int ((m : Int) + (n : Int))]) := upd_same
        generalize upd A2 t1 (.tup [.str "out", .int ((m : Int) + (n : Int))]) = A3 at u1 ht1
        have hd1 := u1 _ _ hd
        refine ⟨_, hd1, million1 (by omega), mv ++ [.ref t1], same_put (sA2.trans u1) nD, upd_same, ?_⟩
        have uT : TupS A3 (upd A3 D (.lst (mv ++ [.ref t1]))) := TupS.at_lst hd1
        rw [outM_succ]
        refine ((rel2.mono (MdA.same u1)).mono (MdA.tupS uT)).snoc ⟨t1, rfl, uT _ _ ?_⟩
        rw [ht1]
        simp [mdV]
      · rintro A2 ⟨mv, sA2, hd, rel2⟩
        rw [List.length_map, show ((row.length : Int) - (m : Int)).toNat = row.length - m by omega] at rel2
        have rl2 := rel2.len
        rw [outM_len] at rl2
        refine ⟨fd, D, _, _, rfl, rfl, sA2 _ _ hfA, hd, big0 (by omega), fun p np => ?_⟩
        have u3 : Same A2 (upd A2 p (.lst (fv ++ mv))) := same_upd np
        refine q p _ _ ((sA.trans sA2).trans u3) ((sA.trans sA2).free np) upd_same ?_
        exact ((rel.mono (MdA.same sA2)).app rel2).mono (MdA.same u3)
end
end Ld

set_option Elab.async false
set_option linter.all false
set_option maxRecDepth 100000
set_option maxHeartbeats 4000000
/-! Prices of mends. -/
namespace Ld
open PySem PySem.Spec PyProof.Rows L2 Lg Lr Lb
open Tr
def mdP (Z : Prc) (row : List Str) (m : Md) : Int := if m.w = "out" then outP Z (row.getD m.i.toNat "") else match m.k with
  | some k => if m.w = "put" then putP Z k else chgP Z (row.getD m.i.toNat "") k
  | none => 0
def MdIn (n : Nat) (m : Md) : Prop := (m.w = "out" ∧ m.k = none ∧ 0 ≤ m.i ∧ m.i < (n : Int)) ∨ (m.w = "put" ∧ ∃ k, m.k = some k) ∨ (m.w = "change" ∧ (∃ k, m.k = some k) ∧ 0 ≤ m.i ∧ m.i < (n : Int))
theorem outM_in {i n l : Nat} (h : i + n ≤ l) : ∀ m ∈ outM i n, MdIn l m := fun m hm => by
  obtain ⟨x, hx, rfl⟩ := List.mem_map.mp hm
  have := List.mem_range.mp hx
  exact .inl ⟨rfl, rfl, by dsimp only; omega, by dsimp only; omega⟩
theorem mdsLeaf_in {row : List Str} {k : Str} {i j : Nat} (ij : i ≤ j) (jn : j ≤ row.length) : ∀ m ∈ mdsLeaf row k i j, MdIn row.length m := fun m hm => by
  unfold mdsLeaf at hm
  split at hm
  · rw [List.mem_singleton.mp hm]
    exact .inr (.inl ⟨rfl, k, rfl⟩)
  · rename_i c
    rcases List.mem_append.mp hm with h | h
    · exact outM_in (by omega) m h
    · split at h
      · cases h
      · rw [List.mem_singleton.mp h]
        exact .inr (.inr ⟨rfl, ⟨k, rfl⟩, by dsimp only; omega, by dsimp only; omega⟩)
theorem mdsAll_in {row : List Str} {m : Nat} (mn : m ≤ row.length) {t : Tr} (lf : ∀ u ∈ nodes t, LfOk row.length u) : ∀ x ∈ mdsAll row m t, MdIn row.length x := fun x hx => by
  unfold mdsAll at hx
  rcases List.mem_append.mp hx with h | h
  · obtain ⟨u, hu, hm⟩ := List.mem_flatMap.mp h
    have um := leaves_nodes hu
    have lfu := lf _ um.1
    cases u with
    | tree _ _ _ _ _ => cases um.2
    | leaf k i j =>
      obtain ⟨h1, h2, h3⟩ := lfu
      exact mdsLeaf_in (by omega) (by omega) x hm
  · exact outM_in (by omega) x h
theorem outM_price (Z : Prc) (row : List Str) (i : Nat) : ∀ n, i + n ≤ row.length → ((outM i n).map (mdP Z row)).sum = outsP Z ((row.drop i).take n)
  | 0, _ => by simp [outM, outsP]
  | n + 1, h => by
    rw [outM_succ, List.map_append, List.sum_append, outM_price Z row i n (by omega)]
    have hx : (row.drop i)[n]? = some (row.getD (i + n) "") := by
      rw [List.getElem?_drop, List.getElem?_eq_getElem (by omega), List.getD_eq_getElem?_getD, List.getElem?_eq_getElem (by omega)]
      rfl
    rw [List.take_add_one, hx]
    simp [outsP, mdP]
    rw [show ((i : Int) + (n : Int)).toNat = i + n by omega]
theorem mdsLeaf_price (Z : Prc) (row : List Str) (k : Str) {i j : Nat} (ij : i ≤ j) (jn : j ≤ row.length) : ((mdsLeaf row k i j).map (mdP Z row)).sum = leafP Z row k i j := by
  unfold mdsLeaf leafP
  by_cases c : i = j
  · rw [if_pos c, if_pos c]
    simp [mdP]
    exact fun z => absurd z (by decide +kernel)
  · rw [if_neg c, if_neg c, List.map_append, List.sum_append, outM_price Z row i _ (by omega)]
    congr 1
    have hx : row[j - 1]? = some (row.getD (j - 1) "") := by
      rw [List.getD_eq_getElem?_getD, List.getElem?_eq_getElem (by omega)]
      rfl
    rw [hx]
    by_cases e : row.getD (j - 1) "" = k
    · rw [if_pos (by rw [e])]
      unfold chgP
      rw [if_pos e]
      rfl
    · rw [if_neg (fun z => e (Option.some.inj z))]
      simp only [List.map_cons, List.map_nil, List.sum_cons, List.sum_nil, Int.add_zero, mdP]
      rw [if_neg (by decide +kernel), if_neg (by decide +kernel)]
      rfl
theorem mdsAll_price (Z : Prc) {row : List Str} {m : Nat} (mn : m ≤ row.length) {t : Tr} (lf : ∀ u ∈ nodes t, LfOk row.length u) : ((mdsAll row m t).map (mdP Z row)).sum = prT Z row t + outsP Z (row.drop m) := by
  unfold mdsAll
  rw [List.map_append, List.sum_append, outM_price Z row m _ (by omega)]
  congr 1
  · rw [← leaves_price]
    have : ∀ l : List Tr, (∀ u ∈ l, LfOk row.length u ∧ u.isT = false) → ((l.flatMap (mdLeaf row)).map (mdP Z row)).sum = (l.map (prT Z row)).sum := by
      intro l
      induction l with
      | nil => simp
      | cons u l ih =>
        intro h
        rw [List.flatMap_cons, List.map_append, List.sum_append, List.map_cons, List.sum_cons, ih fun x hx => h x (List.mem_cons_of_mem _ hx)]
        congr 1
        obtain ⟨h1, h2⟩ := h u List.mem_cons_self
        cases u with
        | tree _ _ _ _ _ => cases h2
        | leaf k i j =>
          obtain ⟨l1, l2, l3⟩ := h1
          exact mdsLeaf_price Z row k (by omega) (by omega)
    exact this _ fun u hu => ⟨lf _ (leaves_nodes hu).1, (leaves_nodes hu).2⟩
  · rw [← List.length_drop, List.take_length]
def spMp : Sp := fun vs H Q _ => ∃ (t r : Addr) (v : V) (Z : Prc) (row : List Str) (m : Md), vs = [.ref t, .ref r, v] ∧ PrA H t Z ∧ PrcOk Z ∧ H r = some (.lst (row.map V.str)) ∧ MdA H v m ∧ MdIn row.length m ∧ ∀ H2, Same H H2 → Q (.int (mdP Z row m)) H2
def spMc : Sp := fun vs H Q _ => ∃ (t r f : Addr) (Z : Prc) (row : List Str) (ms : List Md), vs = [.ref t, .ref r, .ref f] ∧ PrA H t Z ∧ PrcOk Z ∧ H r = some (.lst (row.map V.str)) ∧ MdsA H f ms ∧ (∀ m ∈ ms, MdIn row.length m) ∧ ms.length ≤ 4100000 ∧ ∀ H2, Same H H2 → Q (.int (ms.map (mdP Z row)).sum) H2
section
variable {P : Program} {w : World} {K : PySem.W.Frag} {mg : Str → Option Value} {base : Heap}
theorem scMp : FnScope ["prices", "row", "mend"] ["prices", "row", "mend"] (defScope s__mend_price) := ⟨rfl, rfl, rfl, by decide +kernel, rfl, by decide +kernel, by decide +kernel⟩
theorem ok_mp {f fc fo fp : Addr} {fd fdc fdo fdp : FuncData} (F : Fun K "_mend_price" "_mend_price" s__mend_price f fd)
    (Gc : FnOk P w K mg base CX0 1 fc fdc ["prices", "kind", "other_kind"] spChange) (kc : PySem.W.keepIn K (.ref fc) = true) (bc : Binds K fdc ["prices", "kind", "other_kind"] []) (gc : mg "change_price" = some (.ref fc))
    (Go : FnOk P w K mg base CX0 1 fo fdo ["prices", "kind"] (spPrice outP)) (ko : PySem.W.keepIn K (.ref fo) = true) (bo : Binds K fdo ["prices", "kind"] []) (go : mg "out_price" = some (.ref fo))
    (Gp : FnOk P w K mg base CX0 1 fp fdp ["prices", "kind"] (spPrice putP)) (kp : PySem.W.keepIn K (.ref fp) = true) (bp : Binds K fdp ["prices", "kind"] []) (gp : mg "put_price" = some (.ref fp)) : FnOk P w K mg base CX0 2 f fd ["prices", "row", "mend"] spMp := by
  refine F.ok (k := 1) scMp (fun vs H Q E h => ?_) (fun cdv A outer s H vs Q E hr h => ?_)
  · obtain ⟨t, r, v, Z, row, m, rfl, _⟩ := h
    rfl
  · obtain ⟨t, r, v, Z, row, m, rfl, hZ, ok, hrow, ⟨a, rfl, ha⟩, min, q⟩ := h
    have hr1 := hr
    refine ⟨_, pss_cons (ps_if (pt_cmpR op_eq (pe_ix ix_tup (pv 2) pe_int (fun _ _ => rfl)) pe_str (nomark _)) (pss_one (ps_ret (pe_call Go hr1 (by rfl) go ko bo .nil pass0 (pa_cons (pv 0) (pa_cons (pe_ix ix_list (pv 1) (pe_ix ix_tup (pv 2) pe_int (fun _ _ => rfl)) (fun _ _ => rfl)) pa_nil)))))
      pss_nil)
      (pss_cons (ps_if (pt_cmpR op_eq (pe_ix ix_tup (pv 2) pe_int (fun _ _ => rfl)) pe_str (nomark _)) (pss_one (ps_ret (pe_call Gp hr1 (by rfl) gp kp bp .nil pass0 (pa_cons (pv 0) (pa_cons (pe_ix ix_tup (pv 2) pe_int (fun _ _ => rfl)) pa_nil)))))
      pss_nil)
      (pss_one (ps_ret (pe_call Gc hr1 (by rfl) gc kc bc .nil pass0 (pa_cons (pv 0) (pa_cons (pe_ix ix_list (pv 1) (pe_ix ix_tup (pv 2) pe_int (fun _ _ => rfl)) (fun _ _ => rfl)) (pa_cons (pe_ix ix_tup (pv 2) pe_int (fun _ _ => rfl)) pa_nil))))))), ?_⟩
    have sgn : ∀ {i : Int}, 0 ≤ i → i < (row.length : Int) → atI (row.map V.str) i = some (.str (row.getD i.toNat "")) := fun {i} h0 h1 => by
      refine at_of (j := i.toNat) (by omega) ?_
      rw [List.getElem?_map, List.getD_eq_getElem?_getD, List.getElem?_eq_getElem (by omega)]
      rfl
    obtain ⟨mw, mi, mk⟩ := m
    unfold mdP at q
    rcases min with ⟨hw, hk, h0, h1⟩ | ⟨hw, k, hk⟩ | ⟨hw, ⟨k, hk⟩, h0, h1⟩
    · subst hw hk
      dsimp only at h0 h1
      refine ⟨_, rfl, a, _, 0, _, rfl, rfl, SqT.of ha, at_of (j := 0) rfl rfl, rfl, _, rfl, ?_⟩
      rw [decide_eq_true (rfl : V.str "out" = _)]
      refine iteT ⟨_, rfl, _, rfl, _, rfl, a, _, 1, _, rfl, rfl, SqT.of ha, at_of (j := 1) rfl rfl, r, _, _, _, rfl, rfl, SqL.of hrow, sgn h0 h1, t, Z, _, rfl, hZ, ok, fun H2 s2 => ?_⟩
      exact q H2 s2
    · subst hw hk
      refine ⟨_, rfl, a, _, 0, _, rfl, rfl, SqT.of ha, at_of (j := 0) rfl rfl, rfl, _, rfl, ?_⟩
      rw [decide_eq_false (show ¬ V.str "put" = V.str "out" from by decide +kernel)]
      refine iteF ⟨_, rfl, a, _, 0, _, rfl, rfl, SqT.of ha, at_of (j := 0) rfl rfl, rfl, _, rfl, ?_⟩
      rw [decide_eq_true (rfl : V.str "put" = _)]
      refine iteT ⟨_, rfl, _, rfl, a, _, 2, _, rfl, rfl, SqT.of ha, at_of (j := 2) rfl rfl, t, Z, k, rfl, hZ, ok, fun H2 s2 => ?_⟩
      have := q H2 s2
      dsimp only at this
      rw [if_neg (show ¬ ("put" : Str) = "out" from by decide +kernel), if_pos rfl] at this
      exact this
    · subst hw hk
      dsimp only at h0 h1
      refine ⟨_, rfl, a, _, 0, _, rfl, rfl, SqT.of ha, at_of (j := 0) rfl rfl, rfl, _, rfl, ?_⟩
      rw [decide_eq_false (show ¬ V.str "change" = V.str "out" from by decide +kernel)]
      refine iteF ⟨_, rfl, a, _, 0, _, rfl, rfl, SqT.of ha, at_of (j := 0) rfl rfl, rfl, _, rfl, ?_⟩
      rw [decide_eq_false (show ¬ V.str "change" = V.str "put" from by decide +kernel)]
      refine iteF ⟨_, rfl, _, rfl, _, rfl, a, _, 1, _, rfl, rfl, SqT.of ha, at_of (j := 1) rfl rfl, r, _, _, _, rfl, rfl, SqL.of hrow, sgn h0 h1, _, rfl, a, _, 2, _, rfl, rfl, SqT.of ha, at_of (j := 2) rfl rfl, t, Z, _, k, rfl, hZ, ok, fun H2 s2 => ?_⟩
      have := q H2 s2
      dsimp only at this
      rw [if_neg (show ¬ ("change" : Str) = "out" from by decide +kernel), if_neg (show ¬ ("change" : Str) = "put" from by decide +kernel)] at this
      exact this
theorem scMc : FnScope ["prices", "row", "found", "mend"] ["prices", "row", "found"] (defScope s_mends_price) := ⟨rfl, rfl, rfl, by decide +kernel, rfl, by decide +kernel, by decide +kernel⟩
theorem ok_mc {f fQ : Addr} {fd fdQ : FuncData} (F : Fun K "mends_price" "mends_price" s_mends_price f fd)
    (GQ : FnOk P w K mg base CX0 2 fQ fdQ ["prices", "row", "mend"] spMp) (kQ : PySem.W.keepIn K (.ref fQ) = true) (bQ : Binds K fdQ ["prices", "row", "mend"] []) (gQ : mg "_mend_price" = some (.ref fQ))
    (m_sum : mg "sum" = none) : FnOk P w K mg base CX0 3 f fd ["prices", "row", "found"] spMc := by
  refine F.ok (k := 2) scMc (fun vs H Q E h => ?_) (fun cdv A outer s H vs Q E hr h => ?_)
  · obtain ⟨t, r, f, Z, row, ms, rfl, _⟩ := h
    rfl
  · obtain ⟨t, r, f, Z, row, ms, rfl, hZ, ok, hrow, ⟨fv, hf, rel⟩, min, few, q⟩ := h
    have hr2 := hr
    refine ⟨_, pss_one (ps_ret (pe_callB (cr_sum rfl) (by rfl) m_sum (by decide +kernel) (pa_cons (pe_lc (own := [("mend", 3)]) (g := (gName 3)) rfl scMc.nd (pi_list (pv 2)) (blkOk_by (N := ["prices", "row", "found", "mend"]) (sc := defScope s_mends_price) (by decide +kernel)) (fun _ _ _ _ _ => (pg_name (i := 3) scMc.nd rfl (Or.inl rfl))) (fun _ _ _ _ _ => pts_nil) (fun _ _ _ _ _ => (pe_call GQ hr2 (by rfl) gQ kQ bQ .nil pass0 (pa_cons (pv 0) (pa_cons (pv 1) (pa_cons (pv 3) pa_nil)))))) pa_nil))), ?_⟩
    refine ⟨_, rfl, f, rfl, ⟨_, SqL.of hf⟩, fun D nD => lc_list (a := f) (xs := fv) (fun n A => Same H A ∧ A D = some (.lst (((ms.take n).map (mdP Z row)).map V.int))) ⟨same_upd nD, upd_same⟩ (fun n A _ ⟨sA, _⟩ => SqL.of (sA _ _ hf)) ?_ ?_⟩
    · rintro n x A hx ⟨sA, hd⟩
      obtain ⟨m, hm, ma⟩ := rel.get hx
      have tl := List.length_take_le' n ms
      refine ⟨rfl, _, rfl, _, rfl, _, rfl, t, r, x, Z, row, m, rfl, hZ.up (Up.of_same sA), ok, sA _ _ hrow, ma.same sA, min m (List.mem_of_getElem? hm), fun H2 s2 => ⟨_, s2 _ _ hd, ?_, same_put (sA.trans s2) nD, ?_⟩⟩
      · rw [List.length_map, List.length_map]
        exact big1 (by omega)
      · rw [List.take_add_one, hm, List.map_append, List.map_append]
        exact upd_same
    · rintro A ⟨sA, hd⟩
      rw [rel.len, List.take_length] at hd
      exact ⟨D, _, rfl, SqL.of hd, q A sA⟩
end
end Ld

set_option Elab.async false
set_option linter.all false
set_option maxRecDepth 100000
set_option maxHeartbeats 4000000
/-! The way of the first tree through a stack: mathematics. -/
namespace Ld
open PySem PySem.Spec PyProof.Rows L2 Lg Lr Lb
open Tr
/-! ### trees with the addresses of their lists -/
mutual
def TrL (H : Hp) : Tr → V → List Addr → Prop
  | .leaf k i j, v, as => as = [] ∧ ∃ a, v = .ref a ∧ H a = some (.tup [.str "leaf", .str k, .int i, .int j])
  | .tree N r i j ps, v, as => ∃ a p vs bs, v = .ref a ∧ H a = some (.tup [.str "tree", .str N, .int r, .int i, .int j, .ref p]) ∧ H p = some (.lst vs) ∧ TrsL H ps vs bs ∧ as = p :: bs
def TrsL (H : Hp) : List Tr → List V → List Addr → Prop
  | [], vs, as => vs = [] ∧ as = []
  | t :: ts, vs, as => ∃ v ws bs cs, vs = v :: ws ∧ as = bs ++ cs ∧ TrL H t v bs ∧ TrsL H ts ws cs
end
mutual
theorem TrL.tr {H : Hp} : ∀ {t : Tr} {v : V} {as : List Addr}, TrL H t v as → TrA H t v
  | .leaf _ _ _, _, _, h => by
    unfold TrL at h
    unfold TrA
    exact h.2
  | .tree _ _ _ _ _, _, _, h => by
    unfold TrL at h
    unfold TrA
    obtain ⟨a, p, vs, bs, e, h1, h2, h3, _⟩ := h
    exact ⟨a, p, vs, e, h1, h2, TrsL.trs h3⟩
theorem TrsL.trs {H : Hp} : ∀ {ts : List Tr} {vs : List V} {as : List Addr}, TrsL H ts vs as → TrsA H ts vs
  | [], _, _, h => by
    unfold TrsL at h
    unfold TrsA
    exact h.1
  | _ :: _, _, _, h => by
    unfold TrsL at h
    unfold TrsA
    obtain ⟨v, ws, bs, cs, e, _, h1, h2⟩ := h
    exact ⟨v, ws, e, TrL.tr h1, TrsL.trs h2⟩
end
mutual
theorem TrL.keep {A B : Hp} : ∀ {t : Tr} {v : V} {as : List Addr}, (∀ b xs, A b = some (.tup xs) → B b = some (.tup xs)) → (∀ b ∈ as, ∀ o, A b = some o → B b = some o) → TrL A t v as → TrL B t v as
  | .leaf _ _ _, _, _, ut, ul, h => by
    unfold TrL at *
    obtain ⟨e, a, e2, h⟩ := h
    exact ⟨e, a, e2, ut _ _ h⟩
  | .tree _ _ _ _ _, _, _, ut, ul, h => by
    unfold TrL at *
    obtain ⟨a, p, vs, bs, e, h1, h2, h3, rfl⟩ := h
    exact ⟨a, p, vs, bs, e, ut _ _ h1, ul _ (List.mem_cons_self ..) _ h2, TrsL.keep ut (fun b m => ul b (List.mem_cons_of_mem _ m)) h3, rfl⟩
theorem TrsL.keep {A B : Hp} : ∀ {ts : List Tr} {vs : List V} {as : List Addr}, (∀ b xs, A b = some (.tup xs) → B b = some (.tup xs)) → (∀ b ∈ as, ∀ o, A b = some o → B b = some o) → TrsL A ts vs as → TrsL B ts vs as
  | [], _, _, _, _, h => by
    unfold TrsL at *
    exact h
  | _ :: _, _, _, ut, ul, h => by
    unfold TrsL at *
    obtain ⟨v, ws, bs, cs, e, rfl, h1, h2⟩ := h
    exact ⟨v, ws, bs, cs, e, rfl, TrL.keep ut (fun b m => ul b (List.mem_append_left _ m)) h1, TrsL.keep ut (fun b m => ul b (List.mem_append_right _ m)) h2⟩
end
theorem TrL.same {A B : Hp} (u : Same A B) {t : Tr} {v : V} {as : List Addr} (h : TrL A t v as) : TrL B t v as := h.keep (fun b xs e => u _ _ e) fun b _ o e => u _ _ e
/-! ### what waits, and what it will be -/
def valsOf (b : Addr) : List (Addr × Tr) → List (V × List Addr) → List V
  | w :: W, d :: D => (if w.1 = b then [d.1] else []) ++ valsOf b W D
  | _, _ => []
def adrs : List (V × List Addr) → List Addr
  | [] => []
  | d :: D => d.2 ++ adrs D
def AllL (B : Hp) : List (Addr × Tr) → List (V × List Addr) → Prop
  | [], D => D = []
  | w :: W, D => ∃ d D', D = d :: D' ∧ TrL B w.2 d.1 d.2 ∧ AllL B W D'
def grow (ys : List V) : HO → HO
  | .lst xs => .lst (xs ++ ys)
  | o => o
theorem grow_nil : ∀ o : HO, grow [] o = o := fun o => by
  unfold grow
  split
  · rw [List.append_nil]
  · rfl
def Fin (L : Addr) (A : Hp) (W : List (Addr × Tr)) (B : Hp) : Prop := ∃ D, AllL B W D ∧ (adrs D).Nodup ∧ (∀ a ∈ adrs D, A a = none) ∧ ∀ b o, b ≠ L → A b = some o → B b = some (grow (valsOf b W D) o)
theorem AllL.app {B : Hp} : ∀ {U W : List (Addr × Tr)} {D : List (V × List Addr)}, AllL B (U ++ W) D → ∃ D1 D2, D = D1 ++ D2 ∧ AllL B U D1 ∧ AllL B W D2
  | [], _, D, h => ⟨[], D, rfl, rfl, h⟩
  | u :: U, _, _, h => by
    obtain ⟨d, D', rfl, h1, h2⟩ := h
    obtain ⟨D1, D2, rfl, h3, h4⟩ := AllL.app h2
    exact ⟨d :: D1, D2, rfl, ⟨d, D1, rfl, h1, h3⟩, h4⟩
theorem vals_app {b : Addr} {B : Hp} : ∀ {U W : List (Addr × Tr)} {D1 D2 : List (V × List Addr)}, AllL B U D1 → valsOf b (U ++ W) (D1 ++ D2) = valsOf b U D1 ++ valsOf b W D2
  | [], _, _, _, h => by
    cases h
    rfl
  | u :: U, _, _, _, h => by
    obtain ⟨d, D', rfl, h1, h2⟩ := h
    show _ ++ valsOf b (U ++ _) (D' ++ _) = (_ ++ valsOf b U D') ++ _
    rw [vals_app h2, List.append_assoc]
theorem adrs_app : ∀ D1 D2, adrs (D1 ++ D2) = adrs D1 ++ adrs D2
  | [], _ => rfl
  | d :: D1, D2 => by
    show d.2 ++ adrs (D1 ++ D2) = (d.2 ++ adrs D1) ++ adrs D2
    rw [adrs_app D1 D2, List.append_assoc]
theorem vals_off {b : Addr} : ∀ {W : List (Addr × Tr)} {D : List (V × List Addr)}, (∀ w ∈ W, w.1 ≠ b) → valsOf b W D = []
  | [], _, _ => by simp [valsOf]
  | w :: W, [], _ => by simp [valsOf]
  | w :: W, d :: D, h => by
    show (if w.1 = b then [d.1] else []) ++ valsOf b W D = []
    rw [if_neg (h w (List.mem_cons_self ..)), vals_off fun x m => h x (List.mem_cons_of_mem _ m)]
    rfl
theorem parts_of {q : Addr} {B : Hp} : ∀ {ps : List Tr} {D : List (V × List Addr)}, AllL B (ps.map fun t => (q, t)) D → TrsL B ps (valsOf q (ps.map fun t => (q, t)) D) (adrs D)
  | [], _, h => by
    cases h
    unfold TrsL
    exact ⟨rfl, rfl⟩
  | p :: ps, _, h => by
    obtain ⟨d, D', rfl, h1, h2⟩ := h
    unfold TrsL
    refine ⟨d.1, _, d.2, adrs D', ?_, rfl, h1, parts_of h2⟩
    show (if q = q then [d.1] else []) ++ _ = _
    rw [if_pos rfl]
    rfl
theorem fin_leaf {L a p : Addr} {A A' B : Hp} {W : List (Addr × Tr)} {xs : List V} {k : Str} {i j : Int} (hp : A p = some (.lst xs)) (pL : p ≠ L) (aL : a ≠ L) (h1 : A' a = some (.tup [.str "leaf", .str k, .int i, .int j])) (h2 : A' p = some (.lst (xs ++ [.ref a])))
    (h3 : ∀ b o, b ≠ L → b ≠ p → A b = some o → A' b = some o) (h4 : ∀ b, A' b = none → A b = none) (f : Fin L A' W B) : Fin L A ((p, .leaf k i j) :: W) B := by
  obtain ⟨D, al, nd, fr, kp⟩ := f
  refine ⟨(.ref a, []) :: D, ⟨_, _, rfl, ?_, al⟩, nd, fun x m => h4 x (fr x m), fun b o bL hb => ?_⟩
  · show TrL B (.leaf k i j) (.ref a) []
    unfold TrL
    exact ⟨rfl, a, rfl, kp a _ aL h1⟩
  · show B b = some (grow ((if p = b then [V.ref a] else []) ++ valsOf b W D) o)
    by_cases e : p = b
    · subst e
      rw [hp] at hb
      cases hb
      rw [if_pos rfl, kp p _ pL h2]
      show some (HO.lst _) = some (HO.lst _)
      rw [List.append_assoc]
    · rw [if_neg e]
      exact kp b o bL (h3 b o bL (Ne.symm e) hb)
theorem fin_tree {L a p q : Addr} {A A' B : Hp} {W : List (Addr × Tr)} {xs : List V} {N : Str} {r i j : Int} {ps : List Tr} (hp : A p = some (.lst xs)) (pL : p ≠ L) (aL : a ≠ L) (qL : q ≠ L) (hq : A q = none) (h0 : A' q = some (.lst []))
    (h1 : A' a = some (.tup [.str "tree", .str N, .int r, .int i, .int j, .ref q])) (h2 : A' p = some (.lst (xs ++ [.ref a])))
    (h3 : ∀ b o, b ≠ L → b ≠ p → A b = some o → A' b = some o) (h4 : ∀ b, A' b = none → A b = none) (off : ∀ w ∈ W, w.1 ≠ q) (f : Fin L A' ((ps.map fun t => (q, t)) ++ W) B) : Fin L A ((p, .tree N r i j ps) :: W) B := by
  obtain ⟨D, al, nd, fr, kp⟩ := f
  obtain ⟨D1, D2, rfl, a1, a2⟩ := al.app
  have va : ∀ b, valsOf b ((ps.map fun t => (q, t)) ++ W) (D1 ++ D2) = valsOf b (ps.map fun t => (q, t)) D1 ++ valsOf b W D2 := fun b => vals_app a1
  have o1 : ∀ b, b ≠ q → valsOf b (ps.map fun t => (q, t)) D1 = [] := fun b hb => vals_off fun w m => by
    obtain ⟨t, _, rfl⟩ := List.mem_map.mp m
    exact Ne.symm hb
  have pq : p ≠ q := fun e => by
    rw [e, hq] at hp
    cases hp
  refine ⟨(.ref a, q :: adrs D1) :: D2, ⟨_, _, rfl, ?_, a2⟩, ?_, ?_, fun b o bL hb => ?_⟩
  · show TrL B (.tree N r i j ps) (.ref a) (q :: adrs D1)
    unfold TrL
    refine ⟨a, q, _, _, rfl, kp a _ aL h1, ?_, parts_of a1, rfl⟩
    rw [kp q _ qL h0, va, vals_off off, List.append_nil]
    rfl
  · show (q :: adrs D1 ++ adrs D2).Nodup
    rw [List.cons_append, ← adrs_app]
    refine List.nodup_cons.mpr ⟨fun m => ?_, nd⟩
    have := fr q m
    rw [h0] at this
    cases this
  · intro x m
    have m : x ∈ q :: adrs D1 ++ adrs D2 := m
    rw [List.cons_append, ← adrs_app] at m
    rcases List.mem_cons.mp m with rfl | m
    · exact hq
    · exact h4 x (fr x m)
  · show B b = some (grow ((if p = b then [V.ref a] else []) ++ valsOf b W D2) o)
    have bq : b ≠ q := fun e => by
      rw [e, hq] at hb
      cases hb
    by_cases e : p = b
    · subst e
      rw [hp] at hb
      cases hb
      rw [if_pos rfl, kp p _ pL h2, va, o1 p pq]
      show some (HO.lst _) = some (HO.lst _)
      rw [List.append_assoc]
      rfl
    · rw [if_neg e, kp b o bL (h3 b o bL (Ne.symm e) hb), va, o1 b bq]
theorem fin_nil {L : Addr} {A : Hp} : Fin L A [] A := ⟨[], rfl, List.nodup_nil, (fun _ m => nomatch m), fun b o _ h => by
  rw [h]
  exact congrArg some (grow_nil o).symm⟩
theorem fin_start {L f : Addr} {A B : Hp} {t : Tr} (hf : A f = some (.lst [])) (fL : f ≠ L) (h : Fin L A [(f, t)] B) : ∃ v as, B f = some (.lst [v]) ∧ TrL B t v as ∧ as.Nodup ∧ ∀ a ∈ as, A a = none := by
  obtain ⟨D, ⟨d, D', rfl, h1, h2⟩, nd, fr, kp⟩ := h
  cases h2
  have e : adrs [d] = d.2 := by simp [adrs]
  rw [e] at nd fr
  refine ⟨d.1, d.2, ?_, h1, nd, fr⟩
  rw [kp f _ fL hf]
  show some (HO.lst ([] ++ ((if f = f then [d.1] else []) ++ []))) = _
  rw [if_pos rfl]
  rfl
/-! ### the parts of a first tree -/
theorem FirstP.at_ {G : List Rule} (gt : GramT G) {Z : Prc} {row : List Str} {T : Nat → Nat → Ent} (hT : ∀ a b, LeastAt (pbOf G Z row kn0) (T a b) a b) {M : Str} : ∀ {r : Nat} {ss : List Str} {d b j : Nat} {ps : List Tr}, FirstP (pbOf G Z row kn0) T r ss d b j ps → G[r]? = some (M, ss) → b ≤ j → j ≤ row.length →
    ∀ (k : Nat) (p : Tr), ps[k]? = some p → ∃ (s : Str) (x e : Nat), ss[d + k]? = some s ∧ First (pbOf G Z row kn0) T s x e p ∧ x ≤ e ∧ e ≤ row.length ∧ (V.int (b : Nat) :: ps.map fun t => V.int t.hi)[k]? = some (.int (x : Nat)) ∧ p.sym = s ∧ p.lo = (x : Int) ∧ p.hi = (e : Int)
  | _, _, _, _, _, _, .nil _, _, _, _, k, p, h => by simp at h
  | _, ss, d, b, j, _, .cons (e := e) (k := s) (p := p) (ps := ps) h1 h2 h3 h4 h5 h6 h7 h8, hg, bj, jn, 0, p', h => by
    have h : some p = some p' := h
    cases h
    obtain ⟨b1, b2, b3, _⟩ := First.info gt hT h7 h2 (by omega) ⟨_, List.mem_of_getElem? hg, .inr (List.mem_of_getElem? h1)⟩
    exact ⟨s, b, e, h1, h7, h2, by omega, rfl, b1, b2, b3⟩
  | _, ss, d, b, j, _, .cons (e := e) (k := s) (p := p) (ps := ps) h1 h2 h3 h4 h5 h6 h7 h8, hg, bj, jn, k + 1, p', h => by
    have h : ps[k]? = some p' := h
    obtain ⟨b1, b2, b3, _⟩ := First.info gt hT h7 h2 (by omega) ⟨_, List.mem_of_getElem? hg, .inr (List.mem_of_getElem? h1)⟩
    obtain ⟨s', x, e', a1, a2, a3, a4, a5, a6⟩ := FirstP.at_ gt hT h8 hg h3 jn k p' h
    refine ⟨s', x, e', by rw [← a1]; congr 1; omega, a2, a3, a4, ?_, a6⟩
    rw [List.map_cons, b3]
    exact a5
end Ld

set_option Elab.async false
set_option linter.all false
set_option maxRecDepth 100000
set_option maxHeartbeats 4000000
/-! names_of, as in K14d. -/
namespace Ld
open PySem PySem.Spec PyProof.Rows L2 Lg Lr
section
variable {P : Program} {w : World} {K : PySem.W.Frag} {mg : Str → Option Value} {base : Heap}
/-! ### names_of -/
theorem scNm : FnScope ["grammar", "names", "name", "symbols"] ["grammar"] (defScope s_names_of) := ⟨rfl, rfl, rfl, by decide +kernel, rfl, by decide +kernel, by decide +kernel⟩
def nmStep (ns : List Str) (r : Rule) : List Str := if r.1 ∈ ns then ns else ns ++ [r.1]
def namesOf (G : List Rule) : List Str := G.foldl nmStep []
theorem inV_strs (n : Str) (ns : List Str) : inV (V.str n) (ns.map V.str) = decide (n ∈ ns) := by
  unfold inV
  rw [Bool.eq_iff_iff, List.any_eq_true, decide_eq_true_eq]
  constructor
  · rintro ⟨y, hy, e⟩
    obtain ⟨m, hm, rfl⟩ := List.mem_map.mp hy
    have : m = n := by simpa [eqV] using e
    rw [← this]
    exact hm
  · intro h
    exact ⟨V.str n, List.mem_map.mpr ⟨n, h, rfl⟩, by simp [eqV]⟩
theorem flat_strs (ns : List Str) : (ns.map V.str).all flatV = true := by
  rw [List.all_eq_true]
  intro x hx
  obtain ⟨m, _, rfl⟩ := List.mem_map.mp hx
  rfl
theorem fold_len : ∀ (G : List Rule) (ns : List Str), (G.foldl nmStep ns).length ≤ ns.length + G.length
  | [], ns => by simp
  | r :: G, ns => by
    have := fold_len G (nmStep ns r)
    have h2 : (nmStep ns r).length ≤ ns.length + 1 := by
      unfold nmStep
      split
      · omega
      · simp
    rw [List.foldl_cons, List.length_cons]
    omega
theorem fold_take {G : List Rule} {i : Nat} {r : Rule} (h : G[i]? = some r) : (G.take (i + 1)).foldl nmStep [] = nmStep ((G.take i).foldl nmStep []) r := by
  rw [List.take_add_one, h, List.foldl_append]
  rfl
def spNames : Sp := fun vs H Q _ => ∃ (g : Addr) (G : List Rule), vs = [.ref g] ∧ GraA H g G ∧ G.length ≤ 40 ∧ ∀ p H2, Same H H2 → H p = none → H2 p = some (.lst ((namesOf G).map V.str)) → Q (.ref p) H2
theorem ok_names {f : Addr} {fd : FuncData} (F : Fun K "names_of" "names_of" s_names_of f fd) : FnOk P w K mg base CX0 1 f fd ["grammar"] spNames := by
  refine F.ok scNm (fun vs H Q E h => ?_) (fun cdv A outer s H vs Q E hr h => ?_)
  · obtain ⟨g, G, rfl, _⟩ := h
    rfl
  · obtain ⟨g, G, rfl, hG, hlen, q⟩ := h
    refine ⟨_, pss_cons (ps_set (i := 1) scNm.nd rfl (.inl rfl) (pe_lst pa_nil))
      (pss_cons (ps_for PassesOwn.never rfl (pi_list (pv 0)) (pg_tup rfl (pgs_cons (pg_name (i := 2) scNm.nd rfl (Or.inl rfl)) (pgs_cons (pg_name (i := 3) scNm.nd rfl (Or.inl rfl)) pgs_nil)))
        (pss_one (ps_if (pt_cmpR op_notIn_seq (pv 2) (pv 1) rfl) (pss_one (ps_expr (pe_bm PySem.F.plainAttrs_list PySem.F.slot_list_append PySem.F.type_list_append mt_append (pv 1) (pa_cons (pv 2) pa_nil)))) pss_nil)))
      (pss_one (ps_ret (pv 1)))), ?_⟩
    obtain ⟨vs, hg, gr⟩ := hG
    refine ⟨Nat.zero_le _, fun p np => ?_⟩
    have hg1 : ∀ G2 : HO, upd H p G2 g = some (.lst vs) := fun G2 => by rw [upd_ne (ne_of_none hg np)]; exact hg
    refine ⟨_, rfl, g, rfl, ⟨_, SqL.of (hg1 _)⟩, for_list (a := g) (xs := vs) (fun i σ H' => ∃ v2 v3, σ = [some (.ref g), some (.ref p), v2, v3] ∧ H' = upd H p (.lst (((G.take i).foldl nmStep []).map V.str))) ⟨none, none, rfl, rfl⟩ ?_ ?_ ?_⟩
    · rintro i σ H' _ ⟨v2, v3, rfl, rfl⟩
      exact SqL.of (hg1 _)
    · rintro i x σ H' hx ⟨v2, v3, rfl, rfl⟩
      obtain ⟨r, hr2, ra⟩ := gr.get hx
      obtain ⟨tt, l, rfl, h1, h2⟩ := ra
      have h1' : upd H p (.lst (((G.take i).foldl nmStep []).map V.str)) tt = some (.tup [.str r.1, .ref l]) := by
        rw [upd_ne (ne_of_none h1 np)]
        exact h1
      have e := fold_take hr2
      have hl := fold_len (G.take i) []
      have ht : (G.take i).length ≤ 40 := Nat.le_trans (List.length_take_le' _ _) hlen
      generalize (G.take i).foldl nmStep [] = ns at e hl h1'
      refine ⟨tt, _, rfl, SqT.of h1', rfl, _, _, rfl, _, _, rfl, rfl, ?_⟩
      refine ⟨_, rfl, _, rfl, p, _, rfl, .inl (SqL.of upd_same), rfl, flat_strs ns, _, rfl, ?_⟩
      show (if (!inV (V.str r.1) (ns.map V.str)) = true then _ else _)
      rw [inV_strs]
      by_cases m : r.1 ∈ ns
      · rw [decide_eq_true m]
        refine iteF ⟨_, _, rfl, ?_⟩
        rw [e]
        unfold nmStep
        rw [if_pos m]
      · rw [decide_eq_false m]
        refine iteT ⟨_, rfl, .inl ⟨rfl, _, SqL.of upd_same⟩, _, rfl, p, _, _, rfl, rfl, upd_same, ?_, _, _, rfl, ?_⟩
        · rw [List.length_map]
          exact Nat.lt_of_le_of_lt (Nat.le_trans hl (by rw [List.length_nil]; omega : _ ≤ 40)) (by decide)
        · rw [e, upd_upd]
          unfold nmStep
          rw [if_neg m, List.map_append]
          rfl
    · rintro σ H' ⟨v2, v3, rfl, rfl⟩
      refine ⟨_, rfl, q p _ (same_upd np) np ?_⟩
      rw [gr.len, List.take_length]
      exact upd_same

theorem name_in {G : List Rule} : ∀ {ns : List Str} {n : Str}, n ∈ G.foldl nmStep ns ↔ n ∈ ns ∨ n ∈ G.map (·.1) := by
  induction G with
  | nil => simp
  | cons r G ih =>
    intro ns n
    rw [List.foldl_cons, ih, List.map_cons, List.mem_cons]
    unfold nmStep
    by_cases m : r.1 ∈ ns
    · rw [if_pos m]
      constructor
      · rintro (h | h)
        · exact .inl h
        · exact .inr (.inr h)
      · rintro (h | h | h)
        · exact .inl h
        · exact .inl (h ▸ m)
        · exact .inr h
    · rw [if_neg m, List.mem_append, List.mem_singleton]
      constructor
      · rintro ((h | h) | h)
        · exact .inl h
        · exact .inr (.inl h)
        · exact .inr (.inr h)
      · rintro (h | h | h)
        · exact .inl (.inl h)
        · exact .inl (.inr h)
        · exact .inr h
theorem names_mem {G : List Rule} {N : Str} : N ∈ namesOf G ↔ ∃ r ∈ G, r.1 = N := by
  unfold namesOf
  rw [name_in, List.mem_map]
  constructor
  · rintro (h | ⟨r, h, e⟩)
    · cases h
    · exact ⟨r, h, e⟩
  · rintro ⟨r, h, e⟩
    exact .inr ⟨r, h, e⟩
theorem names_len (G : List Rule) : (namesOf G).length ≤ G.length := by
  have := fold_len G []
  unfold namesOf
  rw [List.length_nil] at this
  omega
end
end Ld

set_option Elab.async false
set_option linter.all false
set_option maxRecDepth 100000
set_option maxHeartbeats 4000000
/-! The least of a list of costs, with a default and without one. -/
namespace Ld
open PySem PySem.Spec PyProof.Rows L2 Lr Lb
instance (a b : Cost) : Decidable (clt a b) := inferInstanceAs (Decidable (a.1 < b.1 ∨ (a.1 = b.1 ∧ a.2 < b.2)))
/-- the first of the least ones -/
def minL (x : Cost) (xs : List Cost) : Cost := xs.foldl (fun a y => if clt y a then y else a) x
theorem minL_data : ∀ (xs : List Cost) (x : Cost), PySem.W.minD (cD x) (xs.map cD) = cD (minL x xs)
  | [], x => rfl
  | y :: ys, x => by
    have e : (if PySem.W.dataLt (cD y) (cD x) = true then cD y else cD x) = cD (if clt y x then y else x) := by
      rw [cost_lt]
      by_cases h : clt y x
      · have h' : y.1 < x.1 ∨ (y.1 = x.1 ∧ y.2 < x.2) := h
        rw [if_pos h, if_pos (decide_eq_true h')]
      · have h' : ¬ (y.1 < x.1 ∨ (y.1 = x.1 ∧ y.2 < x.2)) := h
        rw [if_neg h, decide_eq_false h', if_neg Bool.false_ne_true]
    show (ys.map cD).foldl _ (if PySem.W.dataLt (cD y) (cD x) = true then cD y else cD x) = _
    rw [e]
    exact minL_data ys _
theorem cD_inj {a b : Cost} (h : cD a = cD b) : a = b := by
  obtain ⟨a1, a2⟩ := a
  obtain ⟨b1, b2⟩ := b
  unfold cD at h
  simp only [PyData.tuple.injEq, List.cons.injEq, PyData.int.injEq, and_true] at h
  rw [h.1, h.2]
theorem minL_mem : ∀ (xs : List Cost) (x : Cost), minL x xs = x ∨ minL x xs ∈ xs
  | [], x => .inl rfl
  | y :: ys, x => by
    have e : minL x (y :: ys) = minL (if clt y x then y else x) ys := rfl
    rw [e]
    rcases minL_mem ys (if clt y x then y else x) with h | h
    · rw [h]
      split
      · exact .inr List.mem_cons_self
      · exact .inl rfl
    · exact .inr (List.mem_cons_of_mem _ h)
theorem minL_le : ∀ (xs : List Cost) (x : Cost), cle (minL x xs) x ∧ ∀ y ∈ xs, cle (minL x xs) y
  | [], x => ⟨cle_refl x, fun _ m => nomatch m⟩
  | y :: ys, x => by
    have e : minL x (y :: ys) = minL (if clt y x then y else x) ys := rfl
    rw [e]
    obtain ⟨h1, h2⟩ := minL_le ys (if clt y x then y else x)
    by_cases c : clt y x
    · rw [if_pos c] at h1 h2 ⊢
      refine ⟨cle_trans h1 (cle_of_clt c), fun z hz => ?_⟩
      rcases List.mem_cons.mp hz with q | q
      · rw [q]; exact h1
      · exact h2 z q
    · rw [if_neg c] at h1 h2 ⊢
      refine ⟨h1, fun z hz => ?_⟩
      rcases List.mem_cons.mp hz with q | q
      · rw [q]
        rcases cle_or x y with k | k
        · exact cle_trans h1 k
        · exact absurd k c
      · exact h2 z q
theorem costs_alike (cs : List Cost) : PySem.W.AlikeAll (cs.map cD) := by
  refine ⟨fun x hx y hy => ?_, fun x hx => ?_⟩
  · obtain ⟨a, _, rfl⟩ := List.mem_map.mp hx
    obtain ⟨b, _, rfl⟩ := List.mem_map.mp hy
    exact cD_alike a b
  · obtain ⟨a, _, rfl⟩ := List.mem_map.mp hx
    intro z
    cases z
theorem costs_depth : ∀ cs : List Cost, PyData.depthAll (cs.map cD) ≤ 2
  | [] => by simp [PyData.depthAll]
  | x :: xs => by
    have := costs_depth xs
    simp only [List.map_cons, PyData.depthAll, cD, PyData.depth]
    omega
theorem cD_lay (a : Cost) : (cD a).canLay0 = true := by simp [cD, PyData.canLay0, PyData.canLayAll0]
/-- a list of costs, none of them None -/
def CostsA (H : Hp) (vs : List V) (cs : List Cost) : Prop := Rel2 (fun v c => CostV H v (some c)) vs cs
section
variable {X : Cx}
/-- min(x, default=None) -/
def rMinDf (K : PySem.W.Frag) : List V → List V → Hp → VK → Prop := fun xs zs H Q => ∃ (a : Addr) (vs : List V) (cs : List Cost), xs = [.ref a] ∧ zs = [.non] ∧ SqL K H a vs ∧ CostsA H vs cs ∧
  (cs = [] → Q .non H) ∧ (∀ c r v, cs = c :: r → CostV H v (some (minL c r)) → Q v H)
theorem cr_minDf (calm : X.calm = true) (hu : X.A.units + 64 < cLine) : CallRK X (.builtin "min") [Str.ofString "default"] (rMinDf X.K) := by
  intro pins s σ H xs zs us ws Q I r rz h
  obtain ⟨a, vs, cs, rfl, rfl, hs, rel, q0, q1⟩ := h
  obtain rfl := Vals.ref1 r
  obtain ⟨w1, rfl, e1⟩ := vals1 rz
  obtain rfl : w1 = Value.none := e1
  obtain ⟨its, rv, hl, hz⟩ := I.list hs
  obtain ⟨as, rd⟩ := Dp.readsAll I _ _ _ (Rel2.dp (K := X.K) (fun v x h => CostV.dp h) rel) rv
  have dep := costs_depth cs
  refine PySem.W.min_list_default (A := X.A) (I.ok.hd calm) hl.isList (by simpa using rd) (costs_alike cs) (by omega) (fun e h' tk k => ?_) fun y ys i v h' tk bs e hv rb k => ?_
  · have : cs = [] := List.map_eq_nil_iff.mp e
    exact ⟨.non, H, I.kept k, rfl, q0 this⟩
  · cases cs with
    | nil => cases e
    | cons c cr =>
      have e : cD c :: cr.map cD = y :: ys := e
      obtain ⟨e2, e3⟩ := List.cons.inj e
      subst e2 e3
      rw [minL_data] at rb
      have hv : its[i]? = some v := by simpa using hv
      have il : i < vs.length := by
        rw [rv.length]
        exact (List.getElem?_eq_some_iff.mp hv).1
      obtain ⟨v', hv', rw'⟩ := rv.get (i := i) (x := vs[i]) (List.getElem?_eq_getElem il)
      rw [hv] at hv'
      cases hv'
      obtain ⟨d, hd, cv⟩ := rel.get (List.getElem?_eq_getElem il)
      have I2 : Inv X pins σ H { s with heap := h', toks := tk } := I.kept k
      obtain ⟨as2, r2⟩ := Dp.reads I2 (cD d) vs[i] v (CostV.dp cv) rw'
      have same := (Reads.unique r2 _ _ rb).1
      have ed := cD_inj same
      exact ⟨vs[i], H, I2, rw', q1 c cr vs[i] rfl (by rw [← ed]; exact cv)⟩
end
end Ld

set_option Elab.async false
set_option linter.all false
set_option maxRecDepth 100000
set_option maxHeartbeats 4000000
namespace Ld
open PySem PySem.Spec PyProof.Rows L2 Lg Lr Lb
def addO : Option Cost → Option Cost → Option Cost
  | some a, some b => some (a.1 + b.1, a.2 + b.2)
  | _, _ => none
theorem CostV.non {H : Hp} {v : V} {o : Option Cost} (h : CostV H v o) : decide (v = V.non) = o.isNone := by
  cases o with
  | none =>
    have h : v = V.non := h
    rw [h]; rfl
  | some c =>
    obtain ⟨t, e, _⟩ := h
    rw [e]
    exact decide_eq_false fun z => by cases z
theorem CostV.tupS {A B : Hp} (u : TupS A B) {v : V} : ∀ {o : Option Cost}, CostV A v o → CostV B v o
  | none, h => h
  | some _, ⟨t, e, h⟩ => ⟨t, e, u _ _ h⟩
theorem CostV.same {A B : Hp} (u : Same A B) {v : V} {o : Option Cost} (h : CostV A v o) : CostV B v o := h.up (Up.of_same u)
section
variable {P : Program} {w : World} {K : PySem.W.Frag} {mg : Str → Option Value} {base : Heap}
theorem scAd : FnScope ["one", "two"] ["one", "two"] (defScope s_added) := ⟨rfl, rfl, rfl, by decide +kernel, rfl, by decide +kernel, by decide +kernel⟩
def spAd : Sp := fun vs H Q _ => ∃ (x y : V) (a b : Option Cost), vs = [x, y] ∧ CostV H x a ∧ CostV H y b ∧ ∀ v H2, Same H H2 → CostV H2 v (addO a b) → Q v H2
theorem ok_ad {f : Addr} {fd : FuncData} (F : Fun K "added" "added" s_added f fd) : FnOk P w K mg base CX0 1 f fd ["one", "two"] spAd := by
  refine F.ok scAd (fun vs H Q E h => ?_) (fun cdv A outer s H vs Q E hr h => ?_)
  · obtain ⟨x, y, a, b, rfl, _⟩ := h
    rfl
  · obtain ⟨x, y, a, b, rfl, hx, hy, q⟩ := h
    refine ⟨_, pss_cons (ps_if (PW.pt (pw_or (pt_cmpR op_isN (pv 0) pe_non (nomark _)) (pw_or1 (pt_cmpR op_isN (pv 1) pe_non (nomark _))))) (pss_one (ps_ret pe_non)) pss_nil)
      (pss_one (ps_ret (pe_tup (pa_cons (pe_op op_add (pe_ix ix_tup (pv 0) pe_int (fun _ _ => rfl)) (pe_ix ix_tup (pv 1) pe_int (fun _ _ => rfl))) (pa_cons (pe_op op_add (pe_ix ix_tup (pv 0) pe_int (fun _ _ => rfl)) (pe_ix ix_tup (pv 1) pe_int (fun _ _ => rfl))) pa_nil))))), ?_⟩
    refine ⟨_, rfl, rfl, _, rfl, ?_⟩
    rw [hx.non]
    cases a with
    | none => exact iteT (q _ H (Same.refl H) rfl)
    | some a =>
      refine iteF ⟨_, rfl, rfl, _, rfl, ?_⟩
      rw [hy.non]
      cases b with
      | none => exact iteT (q _ H (Same.refl H) rfl)
      | some b =>
        obtain ⟨t, rfl, ht⟩ := hx
        obtain ⟨u, rfl, hu⟩ := hy
        refine iteF ⟨_, rfl, t, _, _, _, rfl, rfl, SqT.of ht, at_of (j := 0) rfl rfl, _, rfl, u, _, _, _, rfl, rfl, SqT.of hu, at_of (j := 0) rfl rfl, _, _, rfl, rfl, ?_⟩
        refine ⟨_, rfl, t, _, _, _, rfl, rfl, SqT.of ht, at_of (j := 1) rfl rfl, _, rfl, u, _, _, _, rfl, rfl, SqT.of hu, at_of (j := 1) rfl rfl, _, _, rfl, rfl, (by show 2 ≤ sizeLine; decide), fun p np => ?_⟩
        exact q _ _ (same_upd np) ⟨p, rfl, upd_same⟩
end
end Ld

set_option Elab.async false
set_option linter.all false
set_option maxRecDepth 100000
set_option maxHeartbeats 4000000
/-! The program's prices. -/
namespace Ld
open PySem PySem.Spec PyProof.Rows L2 Lg Lr
section
variable {P : Program} {w : World} {K : PySem.W.Frag} {mg : Str → Option Value} {base : Heap}
theorem scPPut : FnScope ["prices", "kind", "put", "out", "change", "exceptions"] ["prices", "kind"] (defScope s_put_price) := ⟨rfl, rfl, rfl, by decide +kernel, rfl, by decide +kernel, by decide +kernel⟩
theorem scPOut : FnScope ["prices", "kind", "put", "out", "change", "exceptions"] ["prices", "kind"] (defScope s_out_price) := ⟨rfl, rfl, rfl, by decide +kernel, rfl, by decide +kernel, by decide +kernel⟩
theorem scPChg : FnScope ["prices", "kind", "other_kind", "put", "out", "change", "exceptions"] ["prices", "kind", "other_kind"] (defScope s_change_price) := ⟨rfl, rfl, rfl, by decide +kernel, rfl, by decide +kernel, by decide +kernel⟩
theorem ok_put {f : Addr} {fd : FuncData} (F : Fun K "put_price" "put_price" s_put_price f fd) : FnOk P w K mg base CX0 1 f fd ["prices", "kind"] (spPrice putP) := by
  refine F.ok scPPut (fun vs H Q E h => ?_) (fun cdv A outer s H vs Q E hr h => ?_)
  · obtain ⟨t, Z, k, rfl, _⟩ := h
    rfl
  · obtain ⟨t, Z, k, rfl, ⟨d, ht, hd⟩, ok, q⟩ := h
    refine ⟨_, pss_cons (ps_asg (pv 0) (pg_tup rfl (pgs_cons (pg_name (i := 2) scPPut.nd rfl (.inl rfl)) (pgs_cons (pg_name (i := 3) scPPut.nd rfl (.inl rfl)) (pgs_cons (pg_name (i := 4) scPPut.nd rfl (.inl rfl)) (pgs_cons (pg_name (i := 5) scPPut.nd rfl (.inl rfl)) pgs_nil))))))
      (pss_one (ps_ret (pe_dget2 (units1 hr) (pv 5) (pe_tup (pa_cons pe_str (pa_cons (pv 1) pa_nil))) (pv 2) ⟨rfl, rfl, rfl, rfl⟩))), ?_⟩
    refine ⟨_, rfl, t, _, rfl, SqT.of ht, rfl, _, _, rfl, _, _, rfl, _, _, rfl, _, _, rfl, rfl, ?_⟩
    refine ⟨_, rfl, d, rfl, .inr ⟨_, .inl hd⟩, _, rfl, (by show 2 ≤ sizeLine; decide), fun p np => ?_⟩
    have s1 : Same H (upd H p (.tup [.str "put", .str k])) := same_upd np
    have g := DGet.t (k := [sk "put", sk k]) (s1 _ _ hd) (b := p) upd_same
    refine ⟨_, rfl, _, g, ?_⟩
    rw [exI_is ok]
    exact q _ s1
theorem ok_out {f : Addr} {fd : FuncData} (F : Fun K "out_price" "out_price" s_out_price f fd) : FnOk P w K mg base CX0 1 f fd ["prices", "kind"] (spPrice outP) := by
  refine F.ok scPOut (fun vs H Q E h => ?_) (fun cdv A outer s H vs Q E hr h => ?_)
  · obtain ⟨t, Z, k, rfl, _⟩ := h
    rfl
  · obtain ⟨t, Z, k, rfl, ⟨d, ht, hd⟩, ok, q⟩ := h
    refine ⟨_, pss_cons (ps_asg (pv 0) (pg_tup rfl (pgs_cons (pg_name (i := 2) scPOut.nd rfl (.inl rfl)) (pgs_cons (pg_name (i := 3) scPOut.nd rfl (.inl rfl)) (pgs_cons (pg_name (i := 4) scPOut.nd rfl (.inl rfl)) (pgs_cons (pg_name (i := 5) scPOut.nd rfl (.inl rfl)) pgs_nil))))))
      (pss_one (ps_ret (pe_dget2 (units1 hr) (pv 5) (pe_tup (pa_cons pe_str (pa_cons (pv 1) pa_nil))) (pv 3) ⟨rfl, rfl, rfl, rfl⟩))), ?_⟩
    refine ⟨_, rfl, t, _, rfl, SqT.of ht, rfl, _, _, rfl, _, _, rfl, _, _, rfl, _, _, rfl, rfl, ?_⟩
    refine ⟨_, rfl, d, rfl, .inr ⟨_, .inl hd⟩, _, rfl, (by show 2 ≤ sizeLine; decide), fun p np => ?_⟩
    have s1 : Same H (upd H p (.tup [.str "out", .str k])) := same_upd np
    have g := DGet.t (k := [sk "out", sk k]) (s1 _ _ hd) (b := p) upd_same
    refine ⟨_, rfl, _, g, ?_⟩
    rw [exI_is ok]
    exact q _ s1
theorem ok_chg {f : Addr} {fd : FuncData} (F : Fun K "change_price" "change_price" s_change_price f fd) : FnOk P w K mg base CX0 1 f fd ["prices", "kind", "other_kind"] spChange := by
  refine F.ok scPChg (fun vs H Q E h => ?_) (fun cdv A outer s H vs Q E hr h => ?_)
  · obtain ⟨t, Z, a, b, rfl, _⟩ := h
    rfl
  · obtain ⟨t, Z, a, b, rfl, ⟨d, ht, hd⟩, ok, q⟩ := h
    refine ⟨_, pss_cons (ps_asg (pv 0) (pg_tup rfl (pgs_cons (pg_name (i := 3) scPChg.nd rfl (.inl rfl)) (pgs_cons (pg_name (i := 4) scPChg.nd rfl (.inl rfl)) (pgs_cons (pg_name (i := 5) scPChg.nd rfl (.inl rfl)) (pgs_cons (pg_name (i := 6) scPChg.nd rfl (.inl rfl)) pgs_nil))))))
      (pss_cons (ps_if (pt_cmpR op_eq (pv 1) (pv 2) (nomark _)) (pss_one (ps_ret pe_int)) pss_nil)
      (pss_one (ps_ret (pe_dget2 (units1 hr) (pv 6) (pe_tup (pa_cons pe_str (pa_cons (pv 1) (pa_cons (pv 2) pa_nil)))) (pv 5) ⟨rfl, rfl, rfl, rfl⟩)))), ?_⟩
    refine ⟨_, rfl, t, _, rfl, SqT.of ht, rfl, _, _, rfl, _, _, rfl, _, _, rfl, _, _, rfl, rfl, ?_⟩
    refine ⟨_, rfl, _, rfl, rfl, _, rfl, ite2 (fun c => ?_) (fun c => ?_)⟩
    · have e : a = b := V.str.inj (of_decide_eq_true c)
      have := q H (Same.refl H)
      rw [show chgP Z a b = 0 from if_pos e] at this
      exact this
    · have e : ¬ a = b := fun z => c (by rw [z]; exact decide_eq_true rfl)
      refine ⟨_, rfl, d, rfl, .inr ⟨_, .inl hd⟩, _, rfl, _, rfl, (by show 3 ≤ sizeLine; decide), fun p np => ?_⟩
      have s1 : Same H (upd H p (.tup [.str "change", .str a, .str b])) := same_upd np
      have g := DGet.t (k := [sk "change", sk a, sk b]) (s1 _ _ hd) (b := p) upd_same
      refine ⟨_, rfl, _, g, ?_⟩
      rw [exI_is ok]
      have := q _ s1
      rw [show chgP Z a b = exI Z [sk "change", sk a, sk b] Z.chg from if_neg e] at this
      exact this
theorem scPLeaf : FnScope ["prices", "row", "kind", "i", "j", "left_out", "other"] ["prices", "row", "kind", "i", "j"] (defScope s_leaf_price) := ⟨rfl, rfl, rfl, by decide +kernel, rfl, by decide +kernel, by decide +kernel⟩
theorem ok_leaf {f fP fO fC : Addr} {fd fdP fdO fdC : FuncData} (F : Fun K "leaf_price" "leaf_price" s_leaf_price f fd)
    (GP : FnOk P w K mg base CX0 1 fP fdP ["prices", "kind"] (spPrice putP)) (kP : PySem.W.keepIn K (.ref fP) = true) (bP : Binds K fdP ["prices", "kind"] []) (gP : mg "put_price" = some (.ref fP))
    (GO : FnOk P w K mg base CX0 1 fO fdO ["prices", "kind"] (spPrice outP)) (kO : PySem.W.keepIn K (.ref fO) = true) (bO : Binds K fdO ["prices", "kind"] []) (gO : mg "out_price" = some (.ref fO))
    (GC : FnOk P w K mg base CX0 1 fC fdC ["prices", "kind", "other_kind"] spChange) (kC : PySem.W.keepIn K (.ref fC) = true) (bC : Binds K fdC ["prices", "kind", "other_kind"] []) (gC : mg "change_price" = some (.ref fC))
    (msu : mg "sum" = none) : FnOk P w K mg base CX0 2 f fd ["prices", "row", "kind", "i", "j"] spLeaf := by
  refine F.ok scPLeaf (fun vs H Q E h => ?_) (fun cdv A outer s H vs Q E hr h => ?_)
  · obtain ⟨t, r, Z, row, k, i, j, rfl, _⟩ := h
    rfl
  · obtain ⟨t, r, Z, row, k, i, j, rfl, hZ, ok, hrow, ij, jn, len, q⟩ := h
    refine ⟨_, pss_cons (ps_if (pt_cmpR op_eq (pv 3) (pv 4) (nomark _)) (pss_one (ps_ret (pe_call GP hr (by rfl) gP kP bP .nil pass0 (pa_cons (pv 0) (pa_cons (pv 2) pa_nil))))) pss_nil)
      (pss_cons (ps_set (i := 5) scPLeaf.nd rfl (.inl rfl)
        (pe_callB (cr_sum rfl) (by rfl) msu (by decide +kernel) (pa_cons (pe_lc (own := [("other", 6)]) (g := gName 6) rfl scPLeaf.nd (pi_list (pe_slice sl_list (pv 1) (po_some (pv 3)) (po_some (pe_op op_sub (pv 4) pe_int))))
          (blkOk_by (N := ["prices", "row", "kind", "i", "j", "left_out", "other"]) (sc := defScope s_leaf_price) (by decide +kernel)) (fun _ _ _ _ _ => pg_name (i := 6) scPLeaf.nd rfl (Or.inl rfl)) (fun _ _ _ _ _ => pts_nil)
          (fun _ _ _ _ _ => pe_call GO hr (by rfl) gO kO bO .nil pass0 (pa_cons (pv 0) (pa_cons (pv 6) pa_nil)))) pa_nil)))
      (pss_one (ps_ret (pe_op op_add (pv 5)
        (pe_call GC hr (by rfl) gC kC bC .nil pass0 (pa_cons (pv 0) (pa_cons (pe_ix ix_list (pv 1) (pe_op op_sub (pv 4) pe_int) (fun _ _ => rfl)) (pa_cons (pv 2) pa_nil)))))))), ?_⟩
    refine ⟨_, rfl, _, rfl, rfl, _, rfl, ite2 (fun c => ?_) (fun c => ?_)⟩
    · have e : i = j := Int.ofNat_inj.mp (V.int.inj (of_decide_eq_true c))
      refine ⟨_, rfl, _, rfl, t, Z, k, rfl, hZ, ok, fun H2 s2 => ?_⟩
      have := q H2 s2
      rw [show leafP Z row k i j = putP Z k from if_pos e] at this
      exact this
    · have ne : ¬ i = j := fun z => c (by rw [z]; exact decide_eq_true rfl)
      have ej : (j : Int) - 1 = ((j - 1 : Nat) : Int) := by omega
      refine ⟨_, rfl, _, rfl, _, rfl, ?_⟩
      refine ⟨_, rfl, _, _, rfl, rfl, _, rfl, r, row.map V.str, rfl, SqL.of hrow, ?_⟩
      rw [ej, cut_map (by omega) (by omega)]
      intro p np
      generalize ess : (row.drop i).take (j - 1 - i) = ss
      have lss : ss.length ≤ 60 := by
        rw [← ess, List.length_take, List.length_drop]
        omega
      have s1 : Same H (upd H p (.lst (ss.map V.str))) := same_upd np
      have hp : upd H p (.lst (ss.map V.str)) p = some (.lst (ss.map V.str)) := upd_same
      generalize upd H p (.lst (ss.map V.str)) = H1 at s1 hp
      refine ⟨p, rfl, ⟨_, SqL.of hp⟩, fun D hD => lc_list (a := p) (xs := ss.map V.str) (fun n H' => Same H1 H' ∧ H' D = some (.lst (((ss.take n).map (outP Z)).map V.int))) ⟨same_upd hD, upd_same⟩ (fun n H' _ ⟨s', _⟩ => SqL.of (s' _ _ hp)) ?_ ?_⟩
      · rintro n x H' hx ⟨s', hd⟩
        obtain ⟨sy, hsy, rfl⟩ := str_at hx
        refine ⟨rfl, _, rfl, _, rfl, t, Z, sy, rfl, hZ.up (Up.of_same (s1.trans s')), ok, fun H2 s2 => ⟨_, s2 _ _ hd, ?_, ?_, ?_⟩⟩
        · rw [List.length_map, List.length_map]
          exact Nat.lt_of_le_of_lt (Nat.le_trans (List.length_take_le' _ _) lss) (by decide)
        · exact same_put (s'.trans s2) hD
        · rw [take_out hsy]
          exact upd_same
      · rintro H2 ⟨s2, hd⟩
        rw [List.length_map, List.take_length] at hd
        have s02 := s1.trans s2
        obtain ⟨last, hlast⟩ : ∃ last, row[j - 1]? = some last := ⟨_, List.getElem?_eq_getElem (by omega)⟩
        refine ⟨D, _, rfl, SqL.of hd, ?_⟩
        refine ⟨_, rfl, _, rfl, _, rfl, _, rfl, _, _, rfl, rfl, r, _, _, _, rfl, rfl, SqL.of (s02 _ _ hrow), at_of (j := j - 1) ej (by rw [List.getElem?_map, hlast]; rfl), _, rfl, t, Z, last, k, rfl, hZ.up (Up.of_same s02), ok, fun H3 s3 => ⟨_, _, rfl, rfl, ?_⟩⟩
        have := q H3 (s02.trans s3)
        rw [show leafP Z row k i j = outsP Z ss + chgP Z last k from by
          unfold leafP
          rw [if_neg ne, ess, List.getD_eq_getElem?_getD, hlast]
          rfl] at this
        exact this
/-! ### whole numbers -/
theorem scLInt : FnScope ["actual"] ["actual"] (defScope sLInt) := ⟨rfl, rfl, rfl, by decide +kernel, rfl, by decide +kernel, by decide +kernel⟩
def spLInt : Sp := fun vs H Q _ => ∃ n : Int, vs = [.int n] ∧ Q (.bl true) H
theorem ok_lint {f : Addr} {fd : FuncData} (F : Fun K "_law_is_integer" "_law_is_integer" sLInt f fd) (mi : mg "isinstance" = none) (mn : mg "int" = none) (mb : mg "bool" = none) : FnOk P w K mg base CX0 1 f fd ["actual"] spLInt := by
  refine F.ok scLInt (fun vs H Q E h => ?_) (fun cdv A outer s H vs Q E hr h => ?_)
  · obtain ⟨n, rfl, _⟩ := h
    rfl
  · obtain ⟨n, rfl, q⟩ := h
    refine ⟨_, pss_one (ps_ret (pe_and (pe_callB call_isi (by rfl) mi (by decide +kernel) (pa_cons (pv 0) (pa_cons (pe_bltn (v := .ty "int") (by rfl) mn (by decide +kernel) rfl) pa_nil)))
      (pe_one (pe_not (pe_callB call_isi (by rfl) mi (by decide +kernel) (pa_cons (pv 0) (pa_cons (pe_bltn (v := .ty "bool") (by rfl) mb (by decide +kernel) rfl) pa_nil))))))), ?_⟩
    refine ⟨_, rfl, _, _, _, _, _, rfl, .ty "int", .base (.int _), kit_ty (r := true) (by decide +kernel), _, rfl, iteT ?_⟩
    exact ⟨_, rfl, _, _, _, _, _, rfl, .ty "bool", .base (.int _), kit_ty (r := false) (by decide +kernel), _, rfl, q⟩
end
end Ld

set_option Elab.async false
set_option linter.all false
set_option maxRecDepth 100000
set_option maxHeartbeats 4000000
/-! The program's way to the first tree: symbols, splits, rules and ends. -/
namespace Ld
open PySem PySem.Spec PyProof.Rows L2 Lg Lr Lb
open Tr
theorem addO_addC : ∀ a b : Option Cost, addO a b = addC a b
  | none, none => rfl
  | none, some _ => rfl
  | some _, none => rfl
  | some _, some _ => rfl
theorem low_names {G : List Rule} (gt : GramT G) {s : Str} (h : isLow s = true → ∃ q ∈ G, q.1 = s) : (s ∈ namesOf G ↔ isLow s = true) := by
  rw [names_mem]
  constructor
  · rintro ⟨q, hq, rfl⟩
    exact n4t_low _ (gt.good q hq).1
  · exact h
def spYc : Sp := fun vs H Q _ => ∃ (g t r f : Addr) (G : List Rule) (Z : Prc) (row : List Str) (F : List (List Key × V)) (T : Nat → Nat → Ent) (s : Str) (i j : Nat), vs = [.ref g, .ref t, .ref r, .ref f, .str s, .int i, .int j] ∧ Lay H g t r f G Z row F T ∧ i ≤ j ∧ j ≤ row.length ∧ (isLow s = true → ∃ q ∈ G, q.1 = s) ∧
  ∀ v H2, Same H H2 → CostV H2 v (headC (pbOf G Z row kn0) T s i j) → Q v H2
def spSc : Sp := fun vs H Q _ => ∃ (g t r f sp : Addr) (G : List Rule) (Z : Prc) (row : List Str) (F : List (List Key × V)) (T : Nat → Nat → Ent) (ru d : Nat) (M s : Str) (ss : List Str) (i k j : Nat), vs = [.ref g, .ref t, .ref r, .ref f, .int ru, .int d, .ref sp] ∧ H sp = some (.tup [.int i, .int k, .int j]) ∧ Lay H g t r f G Z row F T ∧ G[ru]? = some (M, ss) ∧ ss[d]? = some s ∧ i ≤ k ∧ k ≤ j ∧ j ≤ row.length ∧
  ∀ v H2, Same H H2 → CostV H2 v (spC (pbOf G Z row kn0) T ru d s i k j) → Q v H2
section
variable {P : Program} {w : World} {K : PySem.W.Frag} {mg : Str → Option Value} {base : Heap}
theorem scYc : FnScope ["grammar", "prices", "row", "entries", "symbol", "i", "j"] ["grammar", "prices", "row", "entries", "symbol", "i", "j"] (defScope s__symbol_cost) := ⟨rfl, rfl, rfl, by decide +kernel, rfl, by decide +kernel, by decide +kernel⟩
theorem ok_yc {f' fE fM : Addr} {fd fdE fdM : FuncData} (F : Fun K "_symbol_cost" "_symbol_cost" s__symbol_cost f' fd)
    (GE : FnOk P w K mg base CX0 2 fE fdE ["prices", "row", "kind", "i", "j"] spLeaf) (kE : PySem.W.keepIn K (.ref fE) = true) (bE : Binds K fdE ["prices", "row", "kind", "i", "j"] []) (gE : mg "leaf_price" = some (.ref fE))
    (GM : FnOk P w K mg base CX0 1 fM fdM ["grammar"] spNames) (kM : PySem.W.keepIn K (.ref fM) = true) (bM : Binds K fdM ["grammar"] []) (gM : mg "names_of" = some (.ref fM)) : FnOk P w K mg base CX0 3 f' fd ["grammar", "prices", "row", "entries", "symbol", "i", "j"] spYc := by
  refine F.ok (k := 2) scYc (fun vs H Q E h => ?_) (fun cdv A outer s H vs Q E hr h => ?_)
  · obtain ⟨g, t, r, f, G, Z, row, F, T, sy, i, j, rfl, _⟩ := h
    rfl
  · obtain ⟨g, t, r, f, G, Z, row, F, T, sy, i, j, rfl, lay, ij, jn, nm, q⟩ := h
    have hu := units1 hr
    have hr1 := hr.mono (show 1 ≤ 2 by decide)
    have hr2 := hr
    refine ⟨_, pss_cons (ps_if (pt_cmpR op_in_seq (pv 4) (pe_call GM hr1 (by rfl) gM kM bM .nil pass0 (pa_cons (pv 0) pa_nil)) rfl) (pss_one (ps_ret (pe_dget hu (pe_dget hu (pv 3) (pe_tup (pa_cons (pv 5) (pa_cons (pv 6) pa_nil))) (fun _ _ => rfl)) (pe_tup (pa_cons pe_str (pa_cons (pv 4) pa_nil))) (fun _ _ => rfl))))
      pss_nil)
      (pss_one (ps_ret (pe_tup (pa_cons (pe_call GE hr2 (by rfl) gE kE bE .nil pass0 (pa_cons (pv 1) (pa_cons (pv 2) (pa_cons (pv 4) (pa_cons (pv 5) (pa_cons (pv 6) pa_nil)))))) (pa_cons pe_int pa_nil))))), ?_⟩
    have few := lay.gt.few
    refine ⟨_, rfl, _, rfl, g, G, rfl, lay.hG, by omega, fun p H1 s1 np hp => ⟨p, _, rfl, .inl (SqL.of hp), rfl, flat_strs _, _, rfl, ?_⟩⟩
    have lay1 := lay.same s1
    have ln := low_names lay.gt nm
    show (if inV (V.str sy) ((namesOf G).map V.str) = true then _ else _)
    rw [inV_strs]
    cases lw : isLow sy with
    | true =>
      rw [decide_eq_true (ln.mpr lw)]
      obtain ⟨d, kvs, e1, e2, e3⟩ := lay1.tab.at_ i j ij jn
      obtain ⟨v, ev, cv⟩ := e3.nm sy (nm lw)
      refine iteT ⟨_, rfl, _, rfl, _, rfl, (by show 2 ≤ sizeLine; decide), fun k1 nk1 => ?_⟩
      have u1 : Same H1 (upd H1 k1 (.tup [.int (i : Nat), .int (j : Nat)])) := same_upd nk1
      have hk1 : upd H1 k1 (.tup [.int (i : Nat), .int (j : Nat)]) k1 = some (.tup ((kS i j).map kV)) := upd_same
      generalize upd H1 k1 (.tup [.int (i : Nat), .int (j : Nat)]) = A1 at u1 hk1
      have gd := DGet.t (k := kS i j) (u1 _ _ lay1.hf) hk1
      rw [e1] at gd
      refine ⟨f, .ref d, rfl, gd, _, rfl, (by show 2 ≤ sizeLine; decide), fun k2 nk2 => ?_⟩
      have u2 : Same A1 (upd A1 k2 (.tup [.str "name", .str sy])) := same_upd nk2
      have hk2 : upd A1 k2 (.tup [.str "name", .str sy]) k2 = some (.tup ((kN sy).map kV)) := upd_same
      generalize upd A1 k2 (.tup [.str "name", .str sy]) = A2 at u2 hk2
      have u12 := u1.trans u2
      have gv := DGet.t (k := kN sy) (u12 _ _ e2) hk2
      rw [ev] at gv
      refine ⟨d, v, rfl, gv, q _ _ (s1.trans u12) ?_⟩
      rw [headC_is, lw, if_pos rfl]
      exact cv.same u12
    | false =>
      rw [decide_eq_false (fun z => by rw [ln.mp z] at lw; cases lw)]
      refine iteF ⟨_, rfl, _, rfl, _, rfl, _, rfl, _, rfl, t, r, Z, row, sy, i, j, rfl, lay1.hZ, lay.ok, lay1.hrow, ij, jn, lay.len, fun H2 s2 => ⟨(by show 2 ≤ sizeLine; decide), fun tp ntp => q _ _ ((s1.trans s2).trans (same_upd ntp)) ?_⟩⟩
      rw [headC_is, lw, if_neg Bool.false_ne_true]
      exact ⟨tp, rfl, upd_same⟩
theorem scSc : FnScope ["grammar", "prices", "row", "entries", "rule", "dot", "split", "i", "k", "j", "symbol"] ["grammar", "prices", "row", "entries", "rule", "dot", "split"] (defScope s__split_cost) := ⟨rfl, rfl, rfl, by decide +kernel, rfl, by decide +kernel, by decide +kernel⟩
theorem ok_sc {f' fY fX : Addr} {fd fdY fdX : FuncData} (F : Fun K "_split_cost" "_split_cost" s__split_cost f' fd)
    (GY1 : FnOk P w K mg base CX0 3 fY fdY ["grammar", "prices", "row", "entries", "symbol", "i", "j"] spYc) (kY1 : PySem.W.keepIn K (.ref fY) = true) (bY1 : Binds K fdY ["grammar", "prices", "row", "entries", "symbol", "i", "j"] []) (gY1 : mg "_symbol_cost" = some (.ref fY))
    (GX : FnOk P w K mg base CX0 1 fX fdX ["one", "two"] spAd) (kX : PySem.W.keepIn K (.ref fX) = true) (bX : Binds K fdX ["one", "two"] []) (gX : mg "added" = some (.ref fX)) : FnOk P w K mg base CX0 4 f' fd ["grammar", "prices", "row", "entries", "rule", "dot", "split"] spSc := by
  refine F.ok (k := 3) scSc (fun vs H Q E h => ?_) (fun cdv A outer s H vs Q E hr h => ?_)
  · obtain ⟨g, t, r, f, sp, G, Z, row, F, T, ru, d, M, sy, ss, i, k, j, rfl, _⟩ := h
    rfl
  · obtain ⟨g, t, r, f, sp, G, Z, row, F, T, ru, d, M, sy, ss, i, k, j, rfl, hsp, lay, hru, hsy, ik, kj, jn, q⟩ := h
    have hu := units1 hr
    have hr1 := hr.mono (show 1 ≤ 3 by decide)
    have hr3 := hr
    refine ⟨_, pss_cons (ps_asg (pv 6) (pg_tup rfl (pgs_cons (pg_name (i := 7) scSc.nd rfl (.inl rfl)) (pgs_cons (pg_name (i := 8) scSc.nd rfl (.inl rfl)) (pgs_cons (pg_name (i := 9) scSc.nd rfl (.inl rfl)) pgs_nil)))))
      (pss_cons (ps_set (i := 10) scSc.nd rfl (.inl rfl) (pe_ix ix_list (pe_ix ix_tup (pe_ix ix_list (pv 0) (pv 4) (fun _ _ => rfl)) pe_int (fun _ _ => rfl)) (pv 5) (fun _ _ => rfl)))
      (pss_one (ps_ret (pe_call GX hr1 (by rfl) gX kX bX .nil pass0 (pa_cons (pe_call GY1 hr3 (by rfl) gY1 kY1 bY1 .nil pass0 (pa_cons (pv 0) (pa_cons (pv 1) (pa_cons (pv 2) (pa_cons (pv 3) (pa_cons (pv 10) (pa_cons (pv 7) (pa_cons (pv 8) pa_nil)))))))) (pa_cons (pe_dget hu (pe_dget hu (pv 3) (pe_tup (pa_cons (pv 8) (pa_cons (pv 9) pa_nil))) (fun _ _ => rfl)) (pe_tup (pa_cons pe_str (pa_cons (pv 4) (pa_cons (pe_op op_add (pv 5) pe_int) pa_nil)))) (fun _ _ => rfl)) pa_nil)))))), ?_⟩
    obtain ⟨gvs, hg, gr⟩ := id lay.hG
    obtain ⟨gv, hgv, tt, sl, rfl, htt, hsl⟩ : ∃ gv, gvs[ru]? = some gv ∧ RuleA H gv (M, ss) := by
      have hl : ru < gvs.length := by
        rw [gr.len]
        exact (List.getElem?_eq_some_iff.mp hru).1
      obtain ⟨r2, h2, ra⟩ := gr.get (List.getElem?_eq_getElem hl)
      rw [hru] at h2
      cases h2
      exact ⟨_, List.getElem?_eq_getElem hl, ra⟩
    have dl := (List.getElem?_eq_some_iff.mp hsy).1
    have nm : isLow sy = true → ∃ q ∈ G, q.1 = sy := fun lw => by
      rcases (lay.gt.good _ (List.mem_of_getElem? hru)).2.2 sy (List.mem_of_getElem? hsy) with m | m
      · exact lay.gt.names _ (List.mem_of_getElem? hru) sy (List.mem_of_getElem? hsy) m
      · rw [p3_low sy m] at lw
        cases lw
    refine ⟨_, rfl, sp, _, rfl, SqT.of hsp, rfl, _, _, rfl, _, _, rfl, _, _, rfl, rfl, ?_⟩
    refine ⟨_, rfl, _, rfl, g, _, _, _, rfl, rfl, SqL.of hg, atI_nat hgv, tt, _, 1, _, rfl, rfl, SqT.of htt, rfl, _, rfl, sl, _, _, _, rfl, rfl, SqL.of hsl, atI_nat (by rw [List.getElem?_map, hsy]; rfl), ?_⟩
    refine ⟨_, rfl, _, rfl, _, rfl, _, rfl, _, rfl, _, rfl, _, rfl, g, t, r, f, G, Z, row, F, T, sy, i, k, rfl, lay, ik, by omega, nm, fun v H1 s1 cv => ?_⟩
    have lay1 := lay.same s1
    obtain ⟨dd, kvs, e1, e2, e3⟩ := lay1.tab.at_ k j kj jn
    obtain ⟨va, eva, cva⟩ := e3.rs ru (d + 1) M ss hru dl
    refine ⟨_, rfl, _, rfl, _, rfl, (by show 2 ≤ sizeLine; decide), fun k1 nk1 => ?_⟩
    have u1 : Same H1 (upd H1 k1 (.tup [.int (k : Nat), .int (j : Nat)])) := same_upd nk1
    have hk1 : upd H1 k1 (.tup [.int (k : Nat), .int (j : Nat)]) k1 = some (.tup ((kS k j).map kV)) := upd_same
    generalize upd H1 k1 (.tup [.int (k : Nat), .int (j : Nat)]) = A1 at u1 hk1
    have gd := DGet.t (k := kS k j) (u1 _ _ lay1.hf) hk1
    rw [e1] at gd
    refine ⟨f, .ref dd, rfl, gd, _, rfl, _, rfl, _, _, rfl, rfl, (by show 3 ≤ sizeLine; decide), fun k2 nk2 => ?_⟩
    have u2 : Same A1 (upd A1 k2 (.tup [.str "rest", .int ru, .int ((d : Int) + 1)])) := same_upd nk2
    have hk2 : upd A1 k2 (.tup [.str "rest", .int ru, .int ((d : Int) + 1)]) k2 = some (.tup ((kR ru (d + 1)).map kV)) := upd_same
    generalize upd A1 k2 (.tup [.str "rest", .int ru, .int ((d : Int) + 1)]) = A2 at u2 hk2
    have u12 := u1.trans u2
    have gv := DGet.t (k := kR ru (d + 1)) (u12 _ _ e2) hk2
    rw [eva] at gv
    refine ⟨dd, va, rfl, gv, v, va, _, _, rfl, cv.same u12, cva.same u12, fun v2 H2 s2 cv2 => q v2 H2 ((s1.trans u12).trans s2) ?_⟩
    rw [addO_addC] at cv2
    exact cv2
end
end Ld

set_option Elab.async false
set_option linter.all false
set_option maxRecDepth 100000
set_option maxHeartbeats 4000000
/-! The program's first rules and ends. -/
namespace Ld
open PySem PySem.Spec PyProof.Rows L2 Lg Lr Lb
open Tr
def spFr1 : Sp := fun vs H Q _ => ∃ (g d : Addr) (G : List Rule) (N : Str) (kvs : List (List Key × V)) (e : Ent) (c : Cost), vs = [.ref g, .str N, .ref d] ∧ GraA H g G ∧ G.length ≤ 40 ∧ H d = some (.dT kvs) ∧ EntK H G kvs e ∧ e.nm N = some c ∧ (∃ r ss x, G[r]? = some (N, ss) ∧ e.rs r 0 = some x ∧ (x.1, x.2 + 1) = c) ∧
  ∀ (r : Nat) (ss : List Str) (x : Cost) (H2 : Hp), Same H H2 → G[r]? = some (N, ss) → e.rs r 0 = some x → (x.1, x.2 + 1) = c → (∀ r' ss' x', r' < r → G[r']? = some (N, ss') → e.rs r' 0 = some x' → (x'.1, x'.2 + 1) ≠ c) → Q (.int r) H2
def spFe : Sp := fun vs H Q _ => ∃ (g t r f : Addr) (G : List Rule) (Z : Prc) (row : List Str) (F : List (List Key × V)) (T : Nat → Nat → Ent) (ru : Nat) (M : Str) (ss : List Str) (i j : Nat) (ps : List Tr), vs = [.ref g, .ref t, .ref r, .ref f, .int ru, .int i, .int j] ∧ Lay H g t r f G Z row F T ∧ G[ru]? = some (M, ss) ∧ i ≤ j ∧ j ≤ row.length ∧ FirstP (pbOf G Z row kn0) T ru ss 0 i j ps ∧
  ∀ p H2, Same H H2 → H p = none → H2 p = some (.lst (ps.map fun t => V.int t.hi)) → Q (.ref p) H2
theorem FirstP.len {B : Pb} {T : Nat → Nat → Ent} : ∀ {r : Nat} {ss : List Str} {d b j : Nat} {ps : List Tr}, FirstP B T r ss d b j ps → d + ps.length = ss.length
  | _, _, _, _, _, _, .nil h => by simpa using h
  | _, _, _, _, _, _, .cons h1 h2 h3 h4 h5 h6 h7 h8 => by
    have := FirstP.len h8
    rw [List.length_cons]
    omega
section
variable {P : Program} {w : World} {K : PySem.W.Frag} {mg : Str → Option Value} {base : Heap}
theorem scFr1 : FnScope ["grammar", "name", "found", "rules", "rule", "owner", "symbols"] ["grammar", "name", "found"] (defScope s__first_rule) := ⟨rfl, rfl, rfl, by decide +kernel, rfl, by decide +kernel, by decide +kernel⟩
theorem ok_fr1 {f' fX : Addr} {fd fdX : FuncData} (F : Fun K "_first_rule" "_first_rule" s__first_rule f' fd)
    (GX : FnOk P w K mg base CX0 1 fX fdX ["one", "two"] spAd) (kX : PySem.W.keepIn K (.ref fX) = true) (bX : Binds K fdX ["one", "two"] []) (gX : mg "added" = some (.ref fX))
    (me : mg "enumerate" = none) (m_min : mg "min" = none) : FnOk P w K mg base CX0 2 f' fd ["grammar", "name", "found"] spFr1 := by
  refine F.ok (k := 1) scFr1 (fun vs H Q E h => ?_) (fun cdv A outer s H vs Q E hr h => ?_)
  · obtain ⟨g, d, G, N, kvs, e, c, rfl, _⟩ := h
    rfl
  · obtain ⟨g, d, G, N, kvs, e, c, rfl, hG, few, hd0, ent, hc, ex, q⟩ := h
    have hu := units1 hr
    have hu64 := units64 hr
    have hr1 := hr
    refine ⟨_, pss_cons (ps_setLc (i := 3) (own := [("rule", 4), ("owner", 5), ("symbols", 6)]) (g := (gTup K 2 (gCons (gName 4) (gCons (gTup K 2 (gCons (gName 5) (gCons (gName 6) gNil))) gNil)))) (tt := tTest (tOp rEq (tVar 5) (tVar 1))) (by rfl) scFr1.nd rfl rfl (sw_true rfl rfl rfl (by decide +kernel)) (pi_enum (by rfl) me (pa_cons (pv 0) pa_nil)) (blkOk_by (N := ["grammar", "name", "found", "rules", "rule", "owner", "symbols"]) (sc := defScope s__first_rule) (by decide +kernel)) (fun _ _ _ _ _ => (pg_tup rfl (pgs_cons (pg_name (i := 4) scFr1.nd rfl (Or.inl rfl)) (pgs_cons (pg_tup rfl (pgs_cons (pg_name (i := 5) scFr1.nd rfl (Or.inl rfl)) (pgs_cons (pg_name (i := 6) scFr1.nd rfl (Or.inl rfl)) pgs_nil))) pgs_nil)))) (fun _ _ _ _ _ => pts_one (pt_cmpR (r := rEq) op_eq (pv 5) (pv 1) (nomark _))) (fun _ _ _ _ _ => (pv 4)))
      (pss_one (ps_ret (pe_callB (cr_min rfl) (by rfl) m_min (by decide +kernel) (pa_cons (pe_lc (own := [("rule", 4)]) (g := (gName 4)) rfl scFr1.nd (pi_list (pv 3)) (blkOk_by (N := ["grammar", "name", "found", "rules", "rule", "owner", "symbols"]) (sc := defScope s__first_rule) (by decide +kernel)) (fun _ _ _ _ _ => (pg_name (i := 4) scFr1.nd rfl (Or.inl rfl))) (fun _ _ _ _ _ => pts_one (pt_cmpR (r := rEqD K) (op_eqD hu64) (pe_call GX hr1 (by rfl) gX kX bX .nil pass0 (pa_cons (pe_dget hu (pv 2) (pe_tup (pa_cons pe_str (pa_cons (pv 4) (pa_cons pe_int pa_nil)))) (fun _ _ => rfl)) (pa_cons (pe_tup (pa_cons pe_int (pa_cons pe_int pa_nil))) pa_nil))) (pe_dget hu (pv 2) (pe_tup (pa_cons pe_str (pa_cons (pv 1) pa_nil))) (fun _ _ => rfl)) (nomark _))) (fun _ _ _ _ _ => (pv 4))) pa_nil)))), ?_⟩
    obtain ⟨gvs, hg, gr⟩ := hG
    refine ⟨_, rfl, g, _, rfl, SqL.of hg, fun D nD => lc_it walk_enum (fun i H' => ∃ rs : List Nat, Same H H' ∧ H' D = some (.lst (ivs rs)) ∧ rs.length ≤ i ∧ ∀ x, x ∈ rs ↔ x < i ∧ ∃ ss, G[x]? = some (N, ss))
      ⟨[], same_upd nD, upd_same, Nat.le_refl _, fun x => ⟨(fun m => nomatch m), fun m => absurd m.1 (Nat.not_lt_zero _)⟩⟩ (fun i H' _ ⟨_, s', _⟩ => SqL.of (s' _ _ hg)) ?_ ?_⟩
    · rintro i x H' H'' hi ⟨rs, s', hd, rl, rm⟩ ⟨Tq, x1, y, rfl, nT, rfl, hx, hy⟩
      cases hx
      have hy : gvs[i]? = some y := hy
      obtain ⟨ru, hr2, tt, l, rfl, h1, h2⟩ := gr.get hy
      have sT : Same H' (upd H' Tq (.tup [.int (i : Nat), .ref tt])) := same_upd nT
      have hT : upd H' Tq (.tup [.int (i : Nat), .ref tt]) Tq = some (.tup [.int (i : Nat), .ref tt]) := upd_same
      generalize upd H' Tq (.tup [.int (i : Nat), .ref tt]) = H3 at sT hT
      have s3 := s'.trans sT
      have il : i < G.length := (List.getElem?_eq_some_iff.mp hr2).1
      have hd3 := sT _ _ hd
      refine ⟨Tq, _, rfl, SqT.of hT, rfl, _, _, rfl, _, _, rfl, ⟨tt, _, rfl, SqT.of (s3 _ _ h1), rfl, _, _, rfl, _, _, rfl, rfl, rfl, ?_⟩⟩
      refine ⟨rfl, _, rfl, _, rfl, rfl, _, rfl, ?_⟩
      by_cases eM : ru.1 = N
      · rw [decide_eq_true (show V.str ru.1 = V.str N by rw [eM])]
        refine iteT ⟨_, rfl, _, hd3, by rw [ivs_len]; exact million1 (by omega), rs ++ [i], same_put s3 nD, by rw [ivs_app]; exact upd_same, by rw [List.length_append, List.length_singleton]; omega, fun x => ?_⟩
        rw [List.mem_append, List.mem_singleton, rm]
        constructor
        · rintro (⟨h3, h4⟩ | rfl)
          · exact ⟨by omega, h4⟩
          · exact ⟨by omega, ru.2, by rw [hr2, ← eM]⟩
        · rintro ⟨h3, h4⟩
          by_cases z : x = i
          · exact .inr z
          · exact .inl ⟨by omega, h4⟩
      · rw [decide_eq_false (show ¬ V.str ru.1 = V.str N from fun z => eM (V.str.inj z))]
        refine iteF ⟨rs, s3, hd3, by omega, fun x => ?_⟩
        rw [rm]
        constructor
        · exact fun ⟨h3, h4⟩ => ⟨by omega, h4⟩
        · rintro ⟨h3, ss', h4⟩
          refine ⟨?_, ss', h4⟩
          by_cases z : x = i
          · subst z
            rw [hr2] at h4
            cases h4
            exact absurd rfl eM
          · omega
    rintro H1 ⟨rs, s1, hD, rl, rm⟩
    rw [gr.len] at rl rm
    obtain ⟨vd, evd, cvd⟩ := ent.nm N (by
      obtain ⟨r, ss, x, h1, _⟩ := ex
      exact ⟨_, List.mem_of_getElem? h1, rfl⟩)
    rw [hc] at cvd
    refine ⟨_, rfl, D, rfl, ⟨_, SqL.of hD⟩, fun D2 nD2 => lc_list (a := D) (xs := ivs rs) (fun m H' => ∃ ab : List Nat, Same H1 H' ∧ H' D2 = some (.lst (ivs ab)) ∧ ab.length ≤ m ∧ ∀ x, x ∈ ab ↔ x ∈ rs.take m ∧ ∃ y, e.rs x 0 = some y ∧ (y.1, y.2 + 1) = c)
      ⟨[], same_upd nD2, upd_same, Nat.le_refl _, fun x => ⟨(fun m => nomatch m), fun m => by simp at m⟩⟩ (fun m H' _ ⟨ab, s', _⟩ => SqL.of (s' _ _ hD)) ?_ ?_⟩
    · rintro m x H' hx ⟨ab, s', hd, al, am⟩
      obtain ⟨n', hn, rfl⟩ := ivs_at hx
      have hm := (List.getElem?_eq_some_iff.mp hn).1
      obtain ⟨nG, ss, hM⟩ := (rm n').mp (List.mem_of_getElem? hn)
      obtain ⟨va, eva, cva⟩ := ent.rs n' 0 N ss hM (Nat.zero_le _)
      have sH := s1.trans s'
      have tk : rs.take (m + 1) = rs.take m ++ [n'] := by rw [List.take_add_one, hn]; rfl
      refine ⟨rfl, _, rfl, _, rfl, (by show 3 ≤ sizeLine; decide), fun k1 nk1 => ?_⟩
      have u1 : Same H' (upd H' k1 (.tup [.str "rest", .int n', .int 0])) := same_upd nk1
      have hk1 : upd H' k1 (.tup [.str "rest", .int n', .int 0]) k1 = some (.tup ((kR n' 0).map kV)) := upd_same
      generalize upd H' k1 (.tup [.str "rest", .int n', .int 0]) = A1 at u1 hk1
      have gv := DGet.t (k := kR n' 0) ((sH.trans u1) _ _ hd0) hk1
      rw [eva] at gv
      refine ⟨d, va, rfl, gv, (by show 2 ≤ sizeLine; decide), fun k2 nk2 => ?_⟩
      have u2 : Same A1 (upd A1 k2 (.tup [.int 0, .int 1])) := same_upd nk2
      have hk2 : upd A1 k2 (.tup [.int 0, .int 1]) k2 = some (.tup [.int 0, .int 1]) := upd_same
      generalize upd A1 k2 (.tup [.int 0, .int 1]) = A2 at u2 hk2
      have u12 := u1.trans u2
      refine ⟨va, .ref k2, e.rs n' 0, some (0, 1), rfl, cva.same (sH.trans u12), ⟨k2, rfl, hk2⟩, fun v2 A3 u3 cv2 => ?_⟩
      have u13 := u12.trans u3
      refine ⟨_, rfl, _, rfl, (by show 2 ≤ sizeLine; decide), fun k3 nk3 => ?_⟩
      have u4 : Same A3 (upd A3 k3 (.tup [.str "name", .str N])) := same_upd nk3
      have hk3 : upd A3 k3 (.tup [.str "name", .str N]) k3 = some (.tup ((kN N).map kV)) := upd_same
      generalize upd A3 k3 (.tup [.str "name", .str N]) = A4 at u4 hk3
      have u14 := u13.trans u4
      have sA := sH.trans u14
      have gv2 := DGet.t (k := kN N) (sA _ _ hd0) hk3
      rw [evd] at gv2
      refine ⟨d, vd, rfl, gv2, oD (addO (e.rs n' 0) (some (0, 1))), oD (some c), (cv2.same u4).oD, (cvd.same sA).oD, oD_shaped _, oD_shaped _, _, rfl, ?_⟩
      rw [oD_eqv]
      have hd4 := u14 _ _ hd
      by_cases eq : addO (e.rs n' 0) (some (0, 1)) = some c
      · rw [decide_eq_true eq]
        obtain ⟨y, hy, ey⟩ : ∃ y, e.rs n' 0 = some y ∧ (y.1, y.2 + 1) = c := by
          cases er : e.rs n' 0 with
          | none =>
            rw [er] at eq
            cases eq
          | some y =>
            rw [er] at eq
            have := Option.some.inj eq
            exact ⟨y, rfl, by rw [← this]; simp⟩
        refine iteT ⟨_, rfl, _, hd4, by rw [ivs_len]; exact million1 (by omega), ab ++ [n'], same_put (s'.trans u14) nD2, by rw [ivs_app]; exact upd_same, by rw [List.length_append, List.length_singleton]; omega, fun x => ?_⟩
        rw [List.mem_append, List.mem_singleton, am, tk, List.mem_append, List.mem_singleton]
        constructor
        · rintro (⟨h1, h2⟩ | rfl)
          · exact ⟨.inl h1, h2⟩
          · exact ⟨.inr rfl, y, hy, ey⟩
        · rintro ⟨h1 | rfl, h2⟩
          · exact .inl ⟨h1, h2⟩
          · exact .inr rfl
      · rw [decide_eq_false eq]
        refine iteF ⟨ab, s'.trans u14, hd4, by omega, fun x => ?_⟩
        rw [am, tk, List.mem_append, List.mem_singleton]
        constructor
        · exact fun ⟨h1, h2⟩ => ⟨.inl h1, h2⟩
        · rintro ⟨h1 | rfl, y, hy, ey⟩
          · exact ⟨h1, y, hy, ey⟩
          · refine absurd ?_ eq
            rw [hy, ← ey]
            simp [addO]
    rintro H2 ⟨ab, s2, hD2, al, am⟩
    rw [ivs_len, List.take_length] at am
    refine ⟨D2, ab.map fun n : Nat => (n : Int), rfl, SqL.of (by rw [← ivs_int]; exact hD2), ?_, fun m hm hle => ?_⟩
    · obtain ⟨r, ss, x, h1, h2, h3⟩ := ex
      have : r ∈ ab := (am r).mpr ⟨(rm r).mpr ⟨(List.getElem?_eq_some_iff.mp h1).1, ss, h1⟩, x, h2, h3⟩
      rw [List.length_map]
      exact List.length_pos_of_mem this
    · obtain ⟨r, hr', rfl⟩ := List.mem_map.mp hm
      obtain ⟨a1, y, hy, ey⟩ := (am r).mp hr'
      obtain ⟨_, ss, hss⟩ := (rm r).mp a1
      refine q r ss y H2 (s1.trans s2) hss hy ey fun r' ss' x' l g' rs' z => ?_
      have : r' ∈ ab := (am r').mpr ⟨(rm r').mpr ⟨(List.getElem?_eq_some_iff.mp g').1, ss', g'⟩, x', rs', z⟩
      have := hle _ (List.mem_map.mpr ⟨r', this, rfl⟩)
      omega
theorem scFe : FnScope ["grammar", "prices", "row", "entries", "rule", "i", "j", "ends", "start", "dot", "symbol", "wanted", "end"] ["grammar", "prices", "row", "entries", "rule", "i", "j"] (defScope s__first_ends) := ⟨rfl, rfl, rfl, by decide +kernel, rfl, by decide +kernel, by decide +kernel⟩
theorem ok_fe {f' fS : Addr} {fd fdS : FuncData} (FF : Fun K "_first_ends" "_first_ends" s__first_ends f' fd)
    (GS1 : FnOk P w K mg base CX0 4 fS fdS ["grammar", "prices", "row", "entries", "rule", "dot", "split"] spSc) (kS1 : PySem.W.keepIn K (.ref fS) = true) (bS1 : Binds K fdS ["grammar", "prices", "row", "entries", "rule", "dot", "split"] []) (gS1 : mg "_split_cost" = some (.ref fS))
    (me : mg "enumerate" = none) : FnOk P w K mg base CX0 5 f' fd ["grammar", "prices", "row", "entries", "rule", "i", "j"] spFe := by
  refine FF.ok (k := 4) scFe (fun vs H Q E h => ?_) (fun cdv A outer s H vs Q E hr h => ?_)
  · obtain ⟨g, t, r, f, G, Z, row, F, T, ru, M, ss, i, j, ps, rfl, _⟩ := h
    rfl
  · obtain ⟨g, t, r, f, G, Z, row, F, T, ru, M, ss, i, j, ps, rfl, lay, hru, ij, jn, fst, q⟩ := h
    have hu := units1 hr
    have hr3 := hr
    refine ⟨_, pss_cons (ps_set (i := 7) scFe.nd rfl (.inl rfl) (pe_lst pa_nil))
      (pss_cons (ps_set (i := 8) scFe.nd rfl (.inl rfl) (pv 5))
      (pss_cons (ps_for PassesOwn.never rfl (pi_enum (by rfl) me (pa_cons (pe_ix ix_tup (pe_ix ix_list (pv 0) (pv 4) (fun _ _ => rfl)) pe_int (fun _ _ => rfl)) pa_nil)) (pg_tup rfl (pgs_cons (pg_name (i := 9) scFe.nd rfl (.inl rfl)) (pgs_cons (pg_name (i := 10) scFe.nd rfl (.inl rfl)) pgs_nil)))
      (pss_cons (ps_set (i := 11) scFe.nd rfl (.inl rfl) (pe_dget hu (pe_dget hu (pv 3) (pe_tup (pa_cons (pv 8) (pa_cons (pv 6) pa_nil))) (fun _ _ => rfl)) (pe_tup (pa_cons pe_str (pa_cons (pv 4) (pa_cons (pv 9) pa_nil)))) (fun _ _ => rfl)))
        (pss_cons (ps_set (i := 12) scFe.nd rfl (.inl rfl) (pv 8))
        (pss_cons (ps_while PassesOwn.never (pt_cmpR (op_neD (units64 hr)) (pe_call GS1 hr3 (by rfl) gS1 kS1 bS1 .nil pass0 (pa_cons (pv 0) (pa_cons (pv 1) (pa_cons (pv 2) (pa_cons (pv 3) (pa_cons (pv 4) (pa_cons (pv 9) (pa_cons (pe_tup (pa_cons (pv 8) (pa_cons (pv 12) (pa_cons (pv 6) pa_nil)))) pa_nil)))))))) (pv 11) (nomark _))
        (pss_one (ps_aug (i := 12) scFe.nd rfl (.inl rfl) pe_int ip_add)))
        (pss_cons (ps_expr (pe_bm PySem.F.plainAttrs_list PySem.F.slot_list_append PySem.F.type_list_append mt_append (pv 7) (pa_cons (pv 12) pa_nil)))
        (pss_one (ps_set (i := 8) scFe.nd rfl (.inl rfl) (pv 12))))))))
      (pss_one (ps_ret (pv 7))))), ?_⟩
    obtain ⟨gvs, hg, gr⟩ := id lay.hG
    obtain ⟨gv, hgv, tt, sl, rfl, htt, hsl⟩ : ∃ gv, gvs[ru]? = some gv ∧ RuleA H gv (M, ss) := by
      have hl : ru < gvs.length := by
        rw [gr.len]
        exact (List.getElem?_eq_some_iff.mp hru).1
      obtain ⟨r2, h2, ra⟩ := gr.get (List.getElem?_eq_getElem hl)
      rw [hru] at h2
      cases h2
      exact ⟨_, List.getElem?_eq_getElem hl, ra⟩
    have sl3 : ss.length ≤ 3 := (lay.gt.good _ (List.mem_of_getElem? hru)).2.1
    have plen := FirstP.len fst
    refine ⟨Nat.zero_le _, fun ed ned => ?_⟩
    have s1 : Same H (upd H ed (.lst [])) := same_upd ned
    have hed : upd H ed (.lst []) ed = some (.lst []) := upd_same
    generalize upd H ed (.lst []) = H1 at s1 hed
    refine ⟨_, rfl, ?_⟩
    refine ⟨_, rfl, _, rfl, g, _, _, _, rfl, rfl, SqL.of (s1 _ _ hg), atI_nat hgv, tt, _, 1, _, rfl, rfl, SqT.of (s1 _ _ htt), rfl, sl, _, rfl, SqL.of (s1 _ _ hsl), for_it walk_enum (fun d σ H' => ∃ (b : Nat) (v9 v10 v11 v12 : Option V), σ = [some (.ref g), some (.ref t), some (.ref r), some (.ref f), some (.int ru), some (.int (i : Nat)), some (.int (j : Nat)), some (.ref ed), some (.int (b : Nat)), v9, v10, v11, v12] ∧ Same H H' ∧
        H' ed = some (.lst ((ps.take d).map fun t => V.int t.hi)) ∧ i ≤ b ∧ b ≤ j ∧ FirstP (pbOf G Z row kn0) T ru ss d b j (ps.drop d))
      ⟨i, none, none, none, none, rfl, s1, hed, Nat.le_refl _, ij, fst⟩ (fun d σ H' _ ⟨_, _, _, _, _, _, u, _⟩ => SqL.of (u _ _ hsl)) ?_ ?_⟩
    · rintro d x σ H' H'' hi ⟨b, v9, v10, v11, v12, rfl, s', he, ib, bj, fp⟩ ⟨Tq, x1, y, rfl, nT, rfl, hx, hy⟩
      cases hx
      have hy : (ss.map V.str)[d]? = some y := hy
      obtain ⟨sy, hsy, rfl⟩ := str_at hy
      have dl := (List.getElem?_eq_some_iff.mp hsy).1
      have sT : Same H' (upd H' Tq (.tup [.int (d : Nat), .str sy])) := same_upd nT
      have hT : upd H' Tq (.tup [.int (d : Nat), .str sy]) Tq = some (.tup [.int (d : Nat), .str sy]) := upd_same
      generalize upd H' Tq (.tup [.int (d : Nat), .str sy]) = H3 at sT hT
      have s3 := s'.trans sT
      have he3 := sT _ _ he
      obtain ⟨p, hp⟩ : ∃ p, ps[d]? = some p := ⟨_, List.getElem?_eq_getElem (by omega)⟩
      have ep := (List.getElem?_eq_some_iff.mp hp).2
      rw [List.drop_eq_getElem_cons (show d < ps.length by omega), ep] at fp
      cases fp with
      | cons h1 h2 h3 h4 h5 h6 h7 h8 =>
        rename_i e k' y
        rw [hsy] at h1
        cases h1
        have ph : p.hi = (e : Int) := (First.info lay.gt lay.least h7 h2 (by omega) ⟨_, List.mem_of_getElem? hru, .inr (List.mem_of_getElem? hsy)⟩).2.2.1
        have lay3 := lay.same s3
        refine ⟨Tq, _, rfl, SqT.of hT, rfl, _, _, rfl, _, _, rfl, rfl, ?_⟩
        obtain ⟨dd, kvs, e1, e2, e3⟩ := lay3.tab.at_ b j bj jn
        obtain ⟨va, eva, cva⟩ := e3.rs ru d M ss hru (by omega)
        rw [h4] at cva
        refine ⟨_, rfl, _, rfl, _, rfl, (by show 2 ≤ sizeLine; decide), fun k1 nk1 => ?_⟩
        have u1 : Same H3 (upd H3 k1 (.tup [.int (b : Nat), .int (j : Nat)])) := same_upd nk1
        have hk1 : upd H3 k1 (.tup [.int (b : Nat), .int (j : Nat)]) k1 = some (.tup ((kS b j).map kV)) := upd_same
        generalize upd H3 k1 (.tup [.int (b : Nat), .int (j : Nat)]) = A1 at u1 hk1
        have gd := DGet.t (k := kS b j) (u1 _ _ lay3.hf) hk1
        rw [e1] at gd
        refine ⟨f, .ref dd, rfl, gd, _, rfl, _, rfl, (by show 3 ≤ sizeLine; decide), fun k2 nk2 => ?_⟩
        have u2 : Same A1 (upd A1 k2 (.tup [.str "rest", .int ru, .int (d : Nat)])) := same_upd nk2
        have hk2 : upd A1 k2 (.tup [.str "rest", .int ru, .int (d : Nat)]) k2 = some (.tup ((kR ru d).map kV)) := upd_same
        generalize upd A1 k2 (.tup [.str "rest", .int ru, .int (d : Nat)]) = A2 at u2 hk2
        have u12 := u1.trans u2
        have gv2 := DGet.t (k := kR ru d) (u12 _ _ e2) hk2
        rw [eva] at gv2
        refine ⟨dd, va, rfl, gv2, ?_⟩
        have cva2 := cva.same u12
        have sA2 := s3.trans u12
        have heA2 := u12 _ _ he3
        refine ⟨_, rfl, ?_⟩
        refine ⟨fun m σ A => ∃ e' : Nat, m = e - e' ∧ b ≤ e' ∧ e' ≤ e ∧ σ = [some (.ref g), some (.ref t), some (.ref r), some (.ref f), some (.int ru), some (.int (i : Nat)), some (.int (j : Nat)), some (.ref ed), some (.int (b : Nat)), some (.int (d : Nat)), some (.str sy), some va, some (.int (e' : Nat))] ∧ Same A2 A,
          ⟨e - b, b, rfl, Nat.le_refl _, h2, rfl, Same.refl A2⟩, ?_⟩
        rintro m σ A ⟨e', rfl, be', ee', rfl, sA⟩
        refine ⟨_, rfl, _, rfl, _, rfl, _, rfl, _, rfl, _, rfl, _, rfl, _, rfl, _, rfl, (by show 3 ≤ sizeLine; decide), fun sp nsp => ?_⟩
        have u3 : Same A (upd A sp (.tup [.int (b : Nat), .int (e' : Nat), .int (j : Nat)])) := same_upd nsp
        have hsp : upd A sp (.tup [.int (b : Nat), .int (e' : Nat), .int (j : Nat)]) sp = some (.tup [.int (b : Nat), .int (e' : Nat), .int (j : Nat)]) := upd_same
        generalize upd A sp (.tup [.int (b : Nat), .int (e' : Nat), .int (j : Nat)]) = A3 at u3 hsp
        have sA3 := sA.trans u3
        refine ⟨g, t, r, f, sp, G, Z, row, F, T, ru, d, M, sy, ss, b, e', j, rfl, hsp, lay.same (sA2.trans sA3), hru, hsy, be', by omega, jn, fun v H4 s4 cv => ?_⟩
        have sA4 := sA3.trans s4
        refine ⟨_, rfl, oD (spC (pbOf G Z row kn0) T ru d sy b e' j), oD (some y), cv.oD, (cva2.same sA4).oD, oD_shaped _, oD_shaped _, _, rfl, ?_⟩
        rw [oD_eqv]
        by_cases ez : e' = e
        · subst ez
          rw [decide_eq_true h5]
          refine iteF ⟨_, rfl, .inl ⟨rfl, _, SqL.of (sA4 _ _ heA2)⟩, _, rfl, ed, _, _, rfl, rfl, sA4 _ _ heA2, million1 ?_, _, rfl, e', _, _, _, _, rfl, same_put (sA2.trans sA4) ned, ?_, by omega, h3, h8⟩
          · rw [List.length_map]
            have := List.length_take_le' d ps
            omega
          · rw [List.take_add_one, hp, List.map_append, upd_same]
            simp only [Option.toList_some, List.map_cons, List.map_nil, ph]
        · rw [decide_eq_false (h6 e' be' (by omega))]
          exact iteT ⟨fun σ' H' => ∃ m', m' < e - e' ∧ ∃ e'' : Nat, m' = e - e'' ∧ b ≤ e'' ∧ e'' ≤ e ∧ σ' = [some (.ref g), some (.ref t), some (.ref r), some (.ref f), some (.int ru), some (.int (i : Nat)), some (.int (j : Nat)), some (.ref ed), some (.int (b : Nat)), some (.int (d : Nat)), some (.str sy), some va, some (.int (e'' : Nat))] ∧ Same A2 H', fun σ' H' h => h,
            ⟨_, rfl, _, _, rfl, rfl, e - (e' + 1), by omega, e' + 1, rfl, by omega, by omega, rfl, sA4⟩⟩
    · rintro σ H' ⟨b, v9, v10, v11, v12, rfl, s', he, ib, bj, fp⟩
      rw [List.length_map, show ss.length = ps.length by omega, List.take_length] at he
      exact ⟨_, rfl, q ed H' s' ned he⟩
end
end Ld

set_option Elab.async false
set_option linter.all false
set_option maxRecDepth 100000
set_option maxHeartbeats 4000000
/-! list(zip(xs, ys, zs)) over three lists: the tuple that was handed out last is alive when the next one is made. -/
namespace Zl3
open PySem PySem.Spec PyProof.Rows L2
open Sem (wp)
structure Ap3 (z TI TO i1 i2 i3 l1 l2 l3 : Addr) : Prop where
  TIz : TI ≠ z
  TOz : TO ≠ z
  TITO : TI ≠ TO
  TIi1 : TI ≠ i1
  TIi2 : TI ≠ i2
  TIi3 : TI ≠ i3
  TOi1 : TO ≠ i1
  TOi2 : TO ≠ i2
  TOi3 : TO ≠ i3
  i1z : i1 ≠ z
  i2z : i2 ≠ z
  i3z : i3 ≠ z
  i12 : i1 ≠ i2
  i13 : i1 ≠ i3
  i23 : i2 ≠ i3
  l1z : l1 ≠ z
  l2z : l2 ≠ z
  l3z : l3 ≠ z
  l1TO : l1 ≠ TO
  l2TO : l2 ≠ TO
  l3TO : l3 ≠ TO
  l1i1 : l1 ≠ i1
  l1i2 : l1 ≠ i2
  l1i3 : l1 ≠ i3
  l2i1 : l2 ≠ i1
  l2i2 : l2 ≠ i2
  l2i3 : l2 ≠ i3
  l3i1 : l3 ≠ i1
  l3i2 : l3 ≠ i2
  l3i3 : l3 ≠ i3
theorem neN {a b : Nat} (h : a < b ∨ b < a) : a ≠ b := by omega
theorem ap3 (I l1 l2 l3 : Nat) (h1 : l1 < I) (h2 : l2 < I) (h3 : l3 < I) : Ap3 (I + 5) (I + 3) (I + 4) I (I + 1) (I + 2) l1 l2 l3 := by
  constructor <;> (refine neN ?_; omega)
theorem Ap3.sep {z TI TO i1 i2 i3 l1 l2 l3 : Addr} (D : Ap3 z TI TO i1 i2 i3 l1 l2 l3) : ZipSep3 z TI TO i1 i2 i3 [i1, l1] [i2, l2] [i3, l3] where
  TIz := D.TIz
  TOz := D.TOz
  TITO := D.TITO
  TIi1 := D.TIi1
  mem1 := by simp
  zf1 := by simp [D.i1z.symm, D.l1z.symm]
  Tf1 := by simp [D.TOi1, D.l1TO.symm]
  TIi2 := D.TIi2
  mem2 := by simp
  zf2 := by simp [D.i2z.symm, D.l2z.symm]
  Tf2 := by simp [D.TOi2, D.l2TO.symm]
  TIi3 := D.TIi3
  mem3 := by simp
  zf3 := by simp [D.i3z.symm, D.l3z.symm]
  Tf3 := by simp [D.TOi3, D.l3TO.symm]
  sep1_2 := by simp [D.i12, D.l2i1.symm]
  sep1_3 := by simp [D.i13, D.l3i1.symm]
  sep2_1 := by simp [D.i12.symm, D.l1i2.symm]
  sep2_3 := by simp [D.i23, D.l3i2.symm]
  sep3_1 := by simp [D.i13.symm, D.l1i3.symm]
  sep3_2 := by simp [D.i23.symm, D.l2i3.symm]
section
variable {prog : Program} {w : World} {A : Around} {E : Value → Shared → Prop} {s : Shared}
theorem zip3_next_item_held {z TI TO T i1 i2 i3 l1 l2 l3 : Addr} {f : Bool} {oT : Obj} {k : Nat} {xs ys ws : Array Value} {x y v : Value} {Q : Value → Shared → Prop} (D : Ap3 z TI TO i1 i2 i3 l1 l2 l3)
    (hz : IsZipHeld s.heap z TI TO T f) (hT : s.heap.get? T = some oT) (hTI : IsTupOf3 s.heap TI (.ref i1) (.ref i2) (.ref i3))
    (h1 : s.heap.IsListIter i1 l1 k) (h2 : s.heap.IsListIter i2 l2 k) (h3 : s.heap.IsListIter i3 l3 k) (hl1 : s.heap.IsList l1 xs) (hl2 : s.heap.IsList l2 ys) (hl3 : s.heap.IsList l3 ws) (hx : xs[k]? = some x) (hy : ys[k]? = some y) (hv : ws[k]? = some v)
    (hQ : ∀ h', IsZipHeld h' z TI TO T true → h'.IsListIter i1 l1 (k + 1) → h'.IsListIter i2 l2 (k + 1) → h'.IsListIter i3 l3 (k + 1) → IsTupOf3 h' s.heap.objs.size x y v → h'.objs.size = s.heap.objs.size + 1 →
      (∀ c o, c ≠ z → c ≠ i1 → c ≠ i2 → c ≠ i3 → s.heap.get? c = some o → h'.get? c = some o) → Q (.ref s.heap.objs.size) { s with heap := h' }) :
    wpAny (model prog w) A (Builtin.«zip.__next__» ⟨[.ref z], []⟩) (fun fin s' => ∃ v, fin = .done (.ret v) ∧ Q v s') E s := by
  show wpAny _ _ (field (.ref z) 2 >>= _) _ _ _
  refine wpAny_bind (wpAny_field hz rfl (x := .bool false) rfl ?_)
  show wpAny _ _ (field (.ref z) 3 >>= _) _ _ _
  refine wpAny_bind (wpAny_field hz rfl (x := .ref TI) rfl ?_)
  refine wpAny_bind (wpAny_seqItems hTI rfl ?_)
  show wpAny _ _ (Builtin.SmallTypes.ownedTupleIsFree (.ref z) >>= _) _ _ _
  refine wpAny_bind (wpAny_tupleHeld_zip hz hT fun h₁ hz₁ hs₁ => ?_)
  simp only [Bool.false_eq_true, if_false]
  refine wpAny_bind ?_
  rw [← Array.forIn_toList]
  simp only [List.forIn_cons, List.forIn_nil]
  refine wpAny_bind (wpAny_bind (wpAny_holding ?_))
  show wpAny _ _ (Builtin.SmallTypes.nextOf (.ref i1) >>= _) _ _ _
  refine wpAny_bind (wpAny_nextOf_list_item (s := { s with heap := h₁ }) (h1.extBut hs₁.extBut D.i1z) (hl1.extBut hs₁.extBut D.l1z) hx fun h₂ h1₂ hs₂ => wpAny_pure ?_)
  refine wpAny_pure ?_
  refine wpAny_bind (wpAny_bind (wpAny_holding ?_))
  show wpAny _ _ (Builtin.SmallTypes.nextOf (.ref i2) >>= _) _ _ _
  refine wpAny_bind (wpAny_nextOf_list_item (s := { s with heap := h₂ }) ((h2.extBut hs₁.extBut D.i2z).extBut hs₂.extBut D.i12.symm) ((hl2.extBut hs₁.extBut D.l2z).extBut hs₂.extBut D.l2i1) hy fun h₃ h2₃ hs₃ => wpAny_pure ?_)
  refine wpAny_pure ?_
  refine wpAny_bind (wpAny_bind (wpAny_holding ?_))
  show wpAny _ _ (Builtin.SmallTypes.nextOf (.ref i3) >>= _) _ _ _
  refine wpAny_bind (wpAny_nextOf_list_item (s := { s with heap := h₃ }) (((h3.extBut hs₁.extBut D.i3z).extBut hs₂.extBut D.i13.symm).extBut hs₃.extBut D.i23.symm) (((hl3.extBut hs₁.extBut D.l3z).extBut hs₂.extBut D.l3i1).extBut hs₃.extBut D.l3i2) hv fun h₄ h3₄ hs₄ => wpAny_pure ?_)
  refine wpAny_pure (wpAny_pure ?_)
  show wpAny _ _ (newTuple [x, y, v] >>= _) _ _ _
  refine wpAny_bind (wpAny_newTuple ?_)
  have hsz : h₄.objs.size = s.heap.objs.size := by rw [hs₄.1, hs₃.1, hs₂.1, hs₁.1]
  have hz₄ : IsZipHeld h₄ z TI TO T true := hs₄.extBut _ _ D.i3z.symm (hs₃.extBut _ _ D.i2z.symm (hs₂.extBut _ _ D.i1z.symm hz₁))
  have hk : ∀ c o, c ≠ z → c ≠ i1 → c ≠ i2 → c ≠ i3 → s.heap.get? c = some o → h₄.get? c = some o := fun c o c1 c2 c3 c4 e => hs₄.extBut _ _ c4 (hs₃.extBut _ _ c3 (hs₂.extBut _ _ c2 (hs₁.extBut _ _ c1 e)))
  have h1₄ : h₄.IsListIter i1 l1 (k + 1) := (h1₂.extBut hs₃.extBut D.i12).extBut hs₄.extBut D.i13
  have h2₄ : h₄.IsListIter i2 l2 (k + 1) := h2₃.extBut hs₄.extBut D.i23
  refine wpAny_pure ⟨_, rfl, ?_⟩
  show Q (.ref h₄.objs.size) _
  have hp : IsTupOf3 (h₄.push { cls := .type "tuple", data := .seq #[x, y, v] }) h₄.objs.size x y v := Heap.get?_push_size _ rfl
  have hz5 : (h₄.push { cls := .type "tuple", data := .seq #[x, y, v] }).objs.size = h₄.objs.size + 1 := Heap.size_push ..
  rw [hsz] at hp hz5 ⊢
  exact hQ _ (Heap.get?_push_of_some _ hz₄) (h1₄.at fun o e => Heap.get?_push_of_some _ e) (h2₄.at fun o e => Heap.get?_push_of_some _ e) (h3₄.at fun o e => Heap.get?_push_of_some _ e) hp hz5 fun c o c1 c2 c3 c4 e => Heap.get?_push_of_some _ (hk c o c1 c2 c3 c4 e)
theorem zip3_next_end_held {z TI TO T i1 i2 i3 l1 l2 l3 : Addr} {f : Bool} {oT : Obj} {k : Nat} {xs ys ws : Array Value} {Q : Fin → Shared → Prop} (hh : A.handled = none) (D : Ap3 z TI TO i1 i2 i3 l1 l2 l3)
    (hz : IsZipHeld s.heap z TI TO T f) (hT : s.heap.get? T = some oT) (hTI : IsTupOf3 s.heap TI (.ref i1) (.ref i2) (.ref i3))
    (h1 : s.heap.IsListIter i1 l1 k) (h2 : s.heap.IsListIter i2 l2 k) (h3 : s.heap.IsListIter i3 l3 k) (hl1 : s.heap.IsList l1 xs) (hl2 : s.heap.IsList l2 ys) (hl3 : s.heap.IsList l3 ws) (hend : xs[k]? = none ∨ ys[k]? = none ∨ ws[k]? = none)
    (hE : ∀ h' e, (∀ c o, c ≠ z → c ≠ i1 → c ≠ i2 → c ≠ i3 → s.heap.get? c = some o → h'.get? c = some o) → (∃ o, h'.get? e = some o ∧ o.cls = .type "StopIteration") → E (.ref e) { s with heap := h' }) :
    wpAny (model prog w) A (Builtin.«zip.__next__» ⟨[.ref z], []⟩) Q E s := by
  show wpAny _ _ (field (.ref z) 2 >>= _) _ _ _
  refine wpAny_bind (wpAny_field hz rfl (x := .bool false) rfl ?_)
  show wpAny _ _ (field (.ref z) 3 >>= _) _ _ _
  refine wpAny_bind (wpAny_field hz rfl (x := .ref TI) rfl ?_)
  refine wpAny_bind (wpAny_seqItems hTI rfl ?_)
  show wpAny _ _ (Builtin.SmallTypes.ownedTupleIsFree (.ref z) >>= _) _ _ _
  refine wpAny_bind (wpAny_tupleHeld_zip hz hT fun h₁ hz₁ hs₁ => ?_)
  simp only [Bool.false_eq_true, if_false]
  refine wpAny_bind ?_
  rw [← Array.forIn_toList]
  simp only [List.forIn_cons, List.forIn_nil]
  refine wpAny_bind (wpAny_bind (wpAny_holding ?_))
  show wpAny _ _ (Builtin.SmallTypes.nextOf (.ref i1) >>= _) _ _ _
  cases hx : xs[k]? with
  | none =>
    refine wpAny_bind (wpAny_nextOf_list_end (s := { s with heap := h₁ }) hh (h1.extBut hs₁.extBut D.i1z) (hl1.extBut hs₁.extBut D.l1z) hx fun h₂ e hs₂ he => ?_)
    exact hE h₂ e (fun c o c1 c2 _ _ x => hs₂ _ _ c2 (hs₁.extBut _ _ c1 x)) he
  | some x =>
    refine wpAny_bind (wpAny_nextOf_list_item (s := { s with heap := h₁ }) (h1.extBut hs₁.extBut D.i1z) (hl1.extBut hs₁.extBut D.l1z) hx fun h₂ h1₂ hs₂ => wpAny_pure ?_)
    refine wpAny_pure ?_
    refine wpAny_bind (wpAny_bind (wpAny_holding ?_))
    show wpAny _ _ (Builtin.SmallTypes.nextOf (.ref i2) >>= _) _ _ _
    cases hy : ys[k]? with
    | none =>
      refine wpAny_bind (wpAny_nextOf_list_end (s := { s with heap := h₂ }) hh ((h2.extBut hs₁.extBut D.i2z).extBut hs₂.extBut D.i12.symm) ((hl2.extBut hs₁.extBut D.l2z).extBut hs₂.extBut D.l2i1) hy fun h₃ e hs₃ he => ?_)
      exact hE h₃ e (fun c o c1 c2 c3 _ x => hs₃ _ _ c3 (hs₂.extBut _ _ c2 (hs₁.extBut _ _ c1 x))) he
    | some y =>
      have hv : ws[k]? = none := by rcases hend with h | h | h; (rw [hx] at h; cases h); (rw [hy] at h; cases h); exact h
      refine wpAny_bind (wpAny_nextOf_list_item (s := { s with heap := h₂ }) ((h2.extBut hs₁.extBut D.i2z).extBut hs₂.extBut D.i12.symm) ((hl2.extBut hs₁.extBut D.l2z).extBut hs₂.extBut D.l2i1) hy fun h₃ h2₃ hs₃ => wpAny_pure ?_)
      refine wpAny_pure ?_
      refine wpAny_bind (wpAny_bind (wpAny_holding ?_))
      show wpAny _ _ (Builtin.SmallTypes.nextOf (.ref i3) >>= _) _ _ _
      refine wpAny_bind (wpAny_nextOf_list_end (s := { s with heap := h₃ }) hh (((h3.extBut hs₁.extBut D.i3z).extBut hs₂.extBut D.i13.symm).extBut hs₃.extBut D.i23.symm) (((hl3.extBut hs₁.extBut D.l3z).extBut hs₂.extBut D.l3i1).extBut hs₃.extBut D.l3i2) hv fun h₄ e hs₄ he => ?_)
      exact hE h₄ e (fun c o c1 c2 c3 c4 x => hs₄ _ _ c4 (hs₃.extBut _ _ c3 (hs₂.extBut _ _ c2 (hs₁.extBut _ _ c1 x)))) he
theorem pyNext_zip3_item_held {z TI TO T i1 i2 i3 l1 l2 l3 : Addr} {f : Bool} {oT : Obj} {k : Nat} {xs ys ws : Array Value} {x y v : Value} {Q : Option Value → Shared → Prop} (D : Ap3 z TI TO i1 i2 i3 l1 l2 l3)
    (hz : IsZipHeld s.heap z TI TO T f) (hT : s.heap.get? T = some oT) (hTI : IsTupOf3 s.heap TI (.ref i1) (.ref i2) (.ref i3))
    (h1 : s.heap.IsListIter i1 l1 k) (h2 : s.heap.IsListIter i2 l2 k) (h3 : s.heap.IsListIter i3 l3 k) (hl1 : s.heap.IsList l1 xs) (hl2 : s.heap.IsList l2 ys) (hl3 : s.heap.IsList l3 ws) (hx : xs[k]? = some x) (hy : ys[k]? = some y) (hv : ws[k]? = some v)
    (hQ : ∀ h', IsZipHeld h' z TI TO T true → h'.IsListIter i1 l1 (k + 1) → h'.IsListIter i2 l2 (k + 1) → h'.IsListIter i3 l3 (k + 1) → IsTupOf3 h' s.heap.objs.size x y v → h'.objs.size = s.heap.objs.size + 1 →
      (∀ c o, c ≠ z → c ≠ i1 → c ≠ i2 → c ≠ i3 → s.heap.get? c = some o → h'.get? c = some o) → Q (some (.ref s.heap.objs.size)) { s with heap := h' }) :
    wpAny (model prog w) A (pyNext (.ref z)) Q E s := by
  have hTy : s.TypeIs (.ref z) "zip" := ⟨_, hz, rfl⟩
  unfold pyNext
  exact wpAny_bind (wpAny_attempt (wpAny_callSpecial?_slot (name := Str.ofString "__next__") hTy F.slot_zip_next
    (wpAny_call_entry F.slot_zip_next hTy F.entry_zip_next
      (zip3_next_item_held D hz hT hTI h1 h2 h3 hl1 hl2 hl3 hx hy hv fun h' a1 a3 a4 a5 a6 a7 a8 => wpAny_pure (hQ h' a1 a3 a4 a5 a6 a7 a8)) (F.args_zip_next_1 _))))
theorem pyNext_zip3_end_held {z TI TO T i1 i2 i3 l1 l2 l3 : Addr} {f : Bool} {oT : Obj} {k : Nat} {xs ys ws : Array Value} {Q : Option Value → Shared → Prop} (hh : A.handled = none) (D : Ap3 z TI TO i1 i2 i3 l1 l2 l3)
    (hz : IsZipHeld s.heap z TI TO T f) (hT : s.heap.get? T = some oT) (hTI : IsTupOf3 s.heap TI (.ref i1) (.ref i2) (.ref i3))
    (h1 : s.heap.IsListIter i1 l1 k) (h2 : s.heap.IsListIter i2 l2 k) (h3 : s.heap.IsListIter i3 l3 k) (hl1 : s.heap.IsList l1 xs) (hl2 : s.heap.IsList l2 ys) (hl3 : s.heap.IsList l3 ws) (hend : xs[k]? = none ∨ ys[k]? = none ∨ ws[k]? = none)
    (hQ : ∀ h', (∀ c o, c ≠ z → c ≠ i1 → c ≠ i2 → c ≠ i3 → s.heap.get? c = some o → h'.get? c = some o) → Q none { s with heap := h' }) : wpAny (model prog w) A (pyNext (.ref z)) Q E s := by
  have hTy : s.TypeIs (.ref z) "zip" := ⟨_, hz, rfl⟩
  unfold pyNext
  refine wpAny_bind (wpAny_attempt (wpAny_callSpecial?_slot (name := Str.ofString "__next__") hTy F.slot_zip_next
    (wpAny_call_entry F.slot_zip_next hTy F.entry_zip_next (zip3_next_end_held hh D hz hT hTI h1 h2 h3 hl1 hl2 hl3 hend fun h' e hk he => ?_) (F.args_zip_next_1 _))))
  obtain ⟨o, ho, hc⟩ := he
  refine wpAny_bind (wpAny_isInstance (T := "StopIteration") (b := true) ⟨o, ho, hc⟩ isSubtype_stop ?_)
  exact wpAny_pure (hQ _ hk)
end
/-- the zip at its k-th step, the list at S apart from it -/
structure ZSt (h : Heap) (z TI TO i1 i2 i3 l1 l2 l3 S : Addr) (xs ys ws : Array Value) (k : Nat) : Prop where
  ti : IsTupOf3 h TI (.ref i1) (.ref i2) (.ref i3)
  h1 : h.IsListIter i1 l1 k
  h2 : h.IsListIter i2 l2 k
  h3 : h.IsListIter i3 l3 k
  a1 : h.IsList l1 xs
  a2 : h.IsList l2 ys
  a3 : h.IsList l3 ws
  hz : (IsZip h z TI TO .none ∧ ∃ a b c, IsTupOf3 h TO a b c) ∨ ∃ T f oT, IsZipHeld h z TI TO T f ∧ h.get? T = some oT ∧ T ≠ z ∧ T ≠ i1 ∧ T ≠ i2 ∧ T ≠ i3 ∧ T ≠ S
theorem ZSt.keep {h h' : Heap} {z TI TO i1 i2 i3 l1 l2 l3 S : Addr} {xs ys ws : Array Value} {k : Nat} (st : ZSt h z TI TO i1 i2 i3 l1 l2 l3 S xs ys ws k) (off : ∀ b ∈ [z, TI, TO, i1, i2, i3, l1, l2, l3], b ≠ S) (hk : ∀ b o, b ≠ S → h.get? b = some o → h'.get? b = some o) : ZSt h' z TI TO i1 i2 i3 l1 l2 l3 S xs ys ws k := by
  obtain ⟨ti, h1, h2, h3, a1, a2, a3, hz⟩ := st
  refine ⟨hk _ _ (off TI (by simp)) ti, h1.at fun o e => hk _ o (off i1 (by simp)) e, h2.at fun o e => hk _ o (off i2 (by simp)) e, h3.at fun o e => hk _ o (off i3 (by simp)) e, a1.at fun o e => hk _ o (off l1 (by simp)) e, a2.at fun o e => hk _ o (off l2 (by simp)) e, a3.at fun o e => hk _ o (off l3 (by simp)) e, ?_⟩
  rcases hz with ⟨hz, a, b, c, hTO⟩ | ⟨T, f, oT, hz, hT, r1, r2, r3, r4, r5⟩
  · exact .inl ⟨hk _ _ (off z (by simp)) hz, a, b, c, hk _ _ (off TO (by simp)) hTO⟩
  · exact .inr ⟨T, f, oT, hk _ _ (off z (by simp)) hz, hk _ _ r5 hT, r1, r2, r3, r4, r5⟩
section
variable {prog : Program} {w : World} {A : Around} {E : Value → Shared → Prop} {s : Shared} {z TI TO i1 i2 i3 l1 l2 l3 S : Addr} {xs ys ws : Array Value}
theorem z_item {i : Nat} {x y v : Value} {Q : Option Value → Shared → Prop} (hh : A.handled = none) (D : Ap3 z TI TO i1 i2 i3 l1 l2 l3) (st : ZSt s.heap z TI TO i1 i2 i3 l1 l2 l3 S xs ys ws i) (hS : S < s.heap.objs.size) (ex : xs[i]? = some x) (ey : ys[i]? = some y) (ev : ws[i]? = some v)
    (hQ : ∀ h' tk, ZSt h' z TI TO i1 i2 i3 l1 l2 l3 S xs ys ws (i + 1) → h'.get? s.heap.objs.size = some { cls := .type "tuple", data := .seq #[x, y, v] } → h'.objs.size = s.heap.objs.size + 1 →
      (∀ b o, b ∉ [z, TO, i1, i2, i3] → s.heap.get? b = some o → h'.get? b = some o) → Q (some (.ref s.heap.objs.size)) { s with heap := h', toks := tk }) : wpAny (model prog w) A (pyNext (.ref z)) Q E s := by
  obtain ⟨hTI, h1, h2, h3, hl1, hl2, hl3, hz⟩ := st
  have lt : ∀ {c o}, s.heap.get? c = some o → s.heap.objs.size ≠ c := fun e => Nat.ne_of_gt (Heap.lt_size e)
  have n1 : s.heap.objs.size ≠ i1 := let ⟨_, e, _⟩ := h1; lt e
  have n2 : s.heap.objs.size ≠ i2 := let ⟨_, e, _⟩ := h2; lt e
  have n3 : s.heap.objs.size ≠ i3 := let ⟨_, e, _⟩ := h3; lt e
  rcases hz with ⟨hz, a, b, c, hTO⟩ | ⟨T, f, oT, hz, hT, r1, r2, r3, r4, r5⟩
  · refine wpAny_pyNext_zipD3_item D.sep (Draws.list (A := A.in1) hh i1 l1 D.l1i1 xs) (Draws.list (A := A.in1) hh i2 l2 D.l2i2 ys) (Draws.list (A := A.in1) hh i3 l3 D.l3i3 ws) hz hTI hTO ⟨h1, hl1⟩ ⟨h2, hl2⟩ ⟨h3, hl3⟩ (Array.getElem?_eq_some_iff.mp ex).1 (Array.getElem?_eq_some_iff.mp ey).1 (Array.getElem?_eq_some_iff.mp ev).1 fun x1 x2 x3 h' tk p1 p2 p3 a1 a2 a3 a4 a5 a6 a7 hk => ?_
    have e1 : x1 = x := Option.some.inj (p1.symm.trans ex)
    have e2 : x2 = y := Option.some.inj (p2.symm.trans ey)
    have e3 : x3 = v := Option.some.inj (p3.symm.trans ev)
    subst e1 e2 e3
    exact hQ h' tk ⟨hk _ _ D.TIz D.TITO D.TIi1 D.TIi2 D.TIi3 hTI, a3.1, a4.1, a5.1, a3.2, a4.2, a5.2,
        .inr ⟨s.heap.objs.size, false, _, a1, a6, lt hz, n1, n2, n3, Nat.ne_of_gt hS⟩⟩ a6 a7
      fun c o hc e => hk c o (fun x => hc (by simp [x])) (fun x => hc (by simp [x])) (fun x => hc (by simp [x])) (fun x => hc (by simp [x])) (fun x => hc (by simp [x])) e
  · refine pyNext_zip3_item_held D hz hT hTI h1 h2 h3 hl1 hl2 hl3 ex ey ev fun h' a1 a3 a4 a5 a6 a7 hk => ?_
    exact hQ h' s.toks ⟨hk _ _ D.TIz D.TIi1 D.TIi2 D.TIi3 hTI, a3, a4, a5, hl1.at fun o e => hk _ o D.l1z D.l1i1 D.l1i2 D.l1i3 e, hl2.at fun o e => hk _ o D.l2z D.l2i1 D.l2i2 D.l2i3 e, hl3.at fun o e => hk _ o D.l3z D.l3i1 D.l3i2 D.l3i3 e,
        .inr ⟨T, true, oT, a1, hk _ _ r1 r2 r3 r4 hT, r1, r2, r3, r4, r5⟩⟩ a6 a7
      fun c o hc e => hk c o (fun x => hc (by simp [x])) (fun x => hc (by simp [x])) (fun x => hc (by simp [x])) (fun x => hc (by simp [x])) e
theorem z_done {i : Nat} {Q : Option Value → Shared → Prop} (hh : A.handled = none) (D : Ap3 z TI TO i1 i2 i3 l1 l2 l3) (st : ZSt s.heap z TI TO i1 i2 i3 l1 l2 l3 S xs ys ws i) (hle : i ≤ xs.size ∧ i ≤ ys.size ∧ i ≤ ws.size) (hend : xs[i]? = none ∨ ys[i]? = none ∨ ws[i]? = none)
    (hQ : ∀ h' tk, (∀ b o, b ∉ [z, TO, i1, i2, i3] → s.heap.get? b = some o → h'.get? b = some o) → Q none { s with heap := h', toks := tk }) : wpAny (model prog w) A (pyNext (.ref z)) Q E s := by
  obtain ⟨hTI, h1, h2, h3, hl1, hl2, hl3, hz⟩ := st
  rcases hz with ⟨hz, a, b, c, hTO⟩ | ⟨T, f, oT, hz, hT, r1, r2, r3, r4, r5⟩
  · have hd : i = xs.size ∨ i = ys.size ∨ i = ws.size := by
      rcases hend with q | q | q
      · exact .inl (Nat.le_antisymm hle.1 (Array.getElem?_eq_none_iff.mp q))
      · exact .inr (.inl (Nat.le_antisymm hle.2.1 (Array.getElem?_eq_none_iff.mp q)))
      · exact .inr (.inr (Nat.le_antisymm hle.2.2 (Array.getElem?_eq_none_iff.mp q)))
    exact wpAny_pyNext_zipD3_end D.sep (Draws.list (A := A.in1) hh i1 l1 D.l1i1 xs) (Draws.list (A := A.in1) hh i2 l2 D.l2i2 ys) (Draws.list (A := A.in1) hh i3 l3 D.l3i3 ws) hz hTI hTO ⟨h1, hl1⟩ ⟨h2, hl2⟩ ⟨h3, hl3⟩ hle.1 hle.2.1 hle.2.2 hd fun h' tk hk => hQ h' tk fun c o hc e => hk c o (fun x => hc (by simp [x])) (fun x => hc (by simp [x])) (fun x => hc (by simp [x])) (fun x => hc (by simp [x])) (fun x => hc (by simp [x])) e
  · exact pyNext_zip3_end_held hh D hz hT hTI h1 h2 h3 hl1 hl2 hl3 hend fun h' hk => hQ h' s.toks fun c o hc e => hk c o (fun x => hc (by simp [x])) (fun x => hc (by simp [x])) (fun x => hc (by simp [x])) (fun x => hc (by simp [x])) e
end
/-- the tuples so far -/
structure ZG (xs ys ws : Array Value) (lo : Addr) (h : Heap) (as : List Addr) : Prop where
  rise : as.Pairwise (· < ·)
  above : ∀ a ∈ as, lo ≤ a
  pairs : ∀ (j : Nat) (a : Addr), as[j]? = some a → ∃ x y v, xs[j]? = some x ∧ ys[j]? = some y ∧ ws[j]? = some v ∧ h.get? a = some { cls := .type "tuple", data := .seq #[x, y, v] }
theorem ZG.there {xs ys ws : Array Value} {lo : Addr} {h : Heap} {as : List Addr} (g : ZG xs ys ws lo h as) {a : Addr} (ha : a ∈ as) : a < h.objs.size := by
  obtain ⟨j, hj⟩ := List.mem_iff_getElem?.mp ha
  obtain ⟨_, _, _, _, _, _, e⟩ := g.pairs j a hj
  exact Heap.lt_size e
theorem ZG.low {xs ys ws : Array Value} {lo lo' : Addr} {h : Heap} {as : List Addr} (g : ZG xs ys ws lo h as) (hl : lo' ≤ lo) : ZG xs ys ws lo' h as := ⟨g.rise, fun a ha => Nat.le_trans hl (g.above a ha), g.pairs⟩
section
variable {prog : Program} {w : World} {A : Around} {s : Shared} {R : Result → Shared → Prop} {z TI TO i1 i2 i3 l1 l2 l3 S lo : Addr} {tk0 : Nat} {xs ys ws : Array Value}
theorem z_loop (hh : A.handled = none) (D : Ap3 z TI TO i1 i2 i3 l1 l2 l3) (off : ∀ b ∈ [z, TI, TO, i1, i2, i3, l1, l2, l3], b ≠ S) (low : ∀ b ∈ [z, TO, i1, i2, i3], b < lo) (hSlo : S < lo) {n : Nat} (en : n = min xs.size (min ys.size ws.size)) (hn : n ≤ sizeLine) (res : Value) {h₁ : Heap}
    (hR : ∀ h' tk acc c as, (∀ b o, b ≠ S → b ∉ [z, TO, i1, i2, i3] → h₁.get? b = some o → h'.get? b = some o) → h'.get? S = some { cls := .type "list", dict := none, data := .seq acc c, slots := #[] } → as.length = n → ZG xs ys ws lo h' as →
      acc.toList = as.map Value.ref → R (.ok (.ret res)) { s with heap := h', toks := tk }) :
    ∀ (k i : Nat) (h : Heap) (tk : Nat) (c : Nat) (acc : Array Value) (as : List Addr), n - i = k → i ≤ n → ZSt h z TI TO i1 i2 i3 l1 l2 l3 S xs ys ws i → (∀ b o, b ≠ S → b ∉ [z, TO, i1, i2, i3] → h₁.get? b = some o → h.get? b = some o) →
      h.get? S = some { cls := .type "list", dict := none, data := .seq acc c, slots := #[] } → acc.toList = as.map Value.ref → as.length = i → ZG xs ys ws lo h as → lo ≤ h.objs.size →
      codeAny (model prog w) A (.builtin "list.extend.loop" ⟨[.ref S, .ref z, res], []⟩) R { s with heap := h, toks := tk } := by
  have hSw : S ∉ [z, TO, i1, i2, i3] := fun hm => off S (by
    simp only [List.mem_cons, List.not_mem_nil, or_false] at hm ⊢
    rcases hm with e | e | e | e | e <;> simp [e]) rfl
  intro k
  induction k with
  | zero =>
    intro i h tk c acc as hk hi hst hkeep hS hacc hal hG hIs
    have hin : i = n := by omega
    have hend : xs[i]? = none ∨ ys[i]? = none ∨ ws[i]? = none := by
      have : i = xs.size ∨ i = ys.size ∨ i = ws.size := by omega
      rcases this with q | q | q
      · exact .inl (Array.getElem?_eq_none (Nat.le_of_eq q.symm))
      · exact .inr (.inl (Array.getElem?_eq_none (Nat.le_of_eq q.symm)))
      · exact .inr (.inr (Array.getElem?_eq_none (Nat.le_of_eq q.symm)))
    refine codeAny_builtin PySem.F.entry_extend_loop ?_
    rw [Around.under_plainId PySem.F.plain_extend_loop _]
    show wpAny _ A.in1 (pyNext (.ref z) >>= _) _ _ _
    refine wpAny_bind (z_done (s := { s with heap := h, toks := tk }) (A := A.in1) hh D hst (by omega) hend fun h' tk' he => ?_)
    refine wpAny_pure (hR h' tk' acc c as (fun b o q1 q2 e => he b o q2 (hkeep b o q1 q2 e)) (he S _ hSw hS) (by omega) ⟨hG.rise, hG.above, fun j a hj => ?_⟩ hacc)
    obtain ⟨x, y, v, e1, e2, e4, e3⟩ := hG.pairs j a hj
    exact ⟨x, y, v, e1, e2, e4, he a _ (fun hm => absurd (low a hm) (Nat.not_lt.mpr (hG.above a (List.mem_of_getElem? hj)))) e3⟩
  | succ k ih =>
    intro i h tk c acc as hk hi hst hkeep hS hacc hal hG hIs
    have hlt : i < n := by omega
    have hix : i < xs.size := by omega
    have hiy : i < ys.size := by omega
    have hiv : i < ws.size := by omega
    have ex := Array.getElem?_eq_getElem hix
    have ey := Array.getElem?_eq_getElem hiy
    have ev := Array.getElem?_eq_getElem hiv
    have hsz : acc.size = i := by rw [← Array.length_toList, hacc, List.length_map, hal]
    refine codeAny_builtin PySem.F.entry_extend_loop ?_
    rw [Around.under_plainId PySem.F.plain_extend_loop _]
    show wpAny _ A.in1 (pyNext (.ref z) >>= _) _ _ _
    refine wpAny_bind (z_item (s := { s with heap := h, toks := tk }) (A := A.in1) (S := S) hh D hst (Heap.lt_size hS) ex ey ev fun h' tk' hst' ht hz hkp => ?_)
    dsimp only at ht hz hkp ⊢
    have hS' := hkp S _ hSw hS
    have up : ∀ b o, b ≠ S → h'.get? b = some o → (h'.update S (Obj.mapSeq (·.push (Value.ref h.objs.size)))).get? b = some o := fun b o hb e => (Heap.get?_update_other _ _ (Ne.symm hb)).trans e
    have hSl : S < h.objs.size := Heap.lt_size hS
    show wpAny _ A.in1 (updateSeq S (·.push (Value.ref h.objs.size)) >>= _) _ _ _
    refine wpAny_bind ?_
    refine wpAny_updateSeq hS' rfl (wpAny_pure ⟨plainId_quiet PySem.F.plain_extend_loop _, ih (i + 1) _ tk' _ (acc.push (Value.ref h.objs.size)) (as ++ [h.objs.size]) (by omega) hlt (hst'.keep off up)
      (fun b o q1 q2 e => up b o q1 (hkp b o q2 (hkeep b o q1 q2 e))) (Heap.get?_update_self _ hS' rfl) (by rw [Array.toList_push, hacc, List.map_append]; rfl) (by rw [List.length_append, hal]; rfl) ⟨?_, ?_, ?_⟩ ?_⟩) (by rw [hsz]; omega) (by show (acc.push (Value.ref h.objs.size)).size ≤ sizeLine + 1; rw [Array.size_push, hsz]; omega)
    · refine List.pairwise_append.mpr ⟨hG.rise, List.pairwise_singleton _ _, fun a ha b hb => ?_⟩
      rw [List.mem_singleton.mp hb]
      exact hG.there ha
    · intro a ha
      rcases List.mem_append.mp ha with ha | ha
      · exact hG.above a ha
      · rw [List.mem_singleton.mp ha]; exact hIs
    · intro j b hj
      rcases Nat.lt_trichotomy j as.length with q | q | q
      · rw [List.getElem?_append_left q] at hj
        obtain ⟨x', y', v', e1, e2, e4, e3⟩ := hG.pairs j b hj
        have hb := hG.above b (List.mem_of_getElem? hj)
        exact ⟨x', y', v', e1, e2, e4, up b _ (Nat.ne_of_gt (Nat.lt_of_lt_of_le hSlo hb)) (hkp b _ (fun hm => absurd (low b hm) (Nat.not_lt.mpr hb)) e3)⟩
      · subst q
        have hb : h.objs.size = b := by simpa using hj
        subst hb
        exact ⟨_, _, _, by rw [hal]; exact ex, by rw [hal]; exact ey, by rw [hal]; exact ev, up _ _ (Nat.ne_of_gt hSl) ht⟩
      · have hnone : (as ++ [h.objs.size])[j]? = none := List.getElem?_eq_none (by rw [List.length_append, List.length_singleton]; omega)
        rw [hnone] at hj; cases hj
    · have e : (h'.update S (Obj.mapSeq (·.push (Value.ref h.objs.size)))).get? h.objs.size = _ := up _ _ (Nat.ne_of_gt hSl) ht
      exact Nat.le_trans hIs (Nat.le_of_lt (Heap.lt_size e))
end
theorem zip_no_len : typeLookup (.type "zip") "__len__" = pure none := am_miss_of_fast (by decide +kernel)
theorem zip_no_hint : typeLookup (.type "zip") "__length_hint__" = pure none := am_miss_of_fast (by decide +kernel)
section
variable {prog : Program} {w : World} {A : Around} {E : Value → Shared → Prop} {s : Shared} {z TI TO i1 i2 i3 l1 l2 l3 : Addr} {xs ys ws : Array Value}
theorem z_hint {Q : Bool → Shared → Prop} (hT : s.TypeIs (.ref z) "zip") (h : Q true s) : wpAny (model prog w) A (Builtin.List.listLengthHint (.ref z)) Q E s := by
  unfold Builtin.List.listLengthHint
  refine wpAny_bind (wpAny_specialOf hT zip_no_len ?_)
  show wpAny _ _ (specialOf (Value.ref z) (Str.ofString "__length_hint__") >>= _) _ _ _
  refine wpAny_bind (wpAny_specialOf hT zip_no_hint ?_)
  exact wpAny_pure h
/-- the zip as a state at its beginning -/
def Z0 (h : Heap) (z TI TO i1 i2 i3 l1 l2 l3 : Addr) (xs ys ws : Array Value) : Prop := IsZip h z TI TO .none ∧ IsTupOf3 h TI (.ref i1) (.ref i2) (.ref i3) ∧ (∃ a b c, IsTupOf3 h TO a b c) ∧ h.IsListIter i1 l1 0 ∧ h.IsListIter i2 l2 0 ∧ h.IsListIter i3 l3 0 ∧ h.IsList l1 xs ∧ h.IsList l2 ys ∧ h.IsList l3 ws
theorem Z0.keep {h h' : Heap} (q : Z0 h z TI TO i1 i2 i3 l1 l2 l3 xs ys ws) (hk : ∀ b o, h.get? b = some o → h'.get? b = some o) : Z0 h' z TI TO i1 i2 i3 l1 l2 l3 xs ys ws := by
  obtain ⟨hz, hTI, ⟨a, b, c, hTO⟩, h1, h2, h3, hl1, hl2, hl3⟩ := q
  exact ⟨hk _ _ hz, hk _ _ hTI, ⟨a, b, c, hk _ _ hTO⟩, h1.at fun o e => hk _ o e, h2.at fun o e => hk _ o e, h3.at fun o e => hk _ o e, hl1.at fun o e => hk _ o e, hl2.at fun o e => hk _ o e, hl3.at fun o e => hk _ o e⟩
theorem Z0.lt {h : Heap} (q : Z0 h z TI TO i1 i2 i3 l1 l2 l3 xs ys ws) : ∀ b ∈ [z, TI, TO, i1, i2, i3, l1, l2, l3], b < h.objs.size := fun b hb => by
  obtain ⟨hz, hTI, ⟨a, c, c', hTO⟩, ⟨o1, h1, _⟩, ⟨o2, h2, _⟩, ⟨o5, h3, _⟩, ⟨o3, hl1, _⟩, ⟨o4, hl2, _⟩, ⟨o6, hl3, _⟩⟩ := q
  simp only [List.mem_cons, List.not_mem_nil, or_false] at hb
  rcases hb with rfl | rfl | rfl | rfl | rfl | rfl | rfl | rfl | rfl
  all_goals first | exact Heap.lt_size hz | exact Heap.lt_size hTI | exact Heap.lt_size hTO | exact Heap.lt_size h1 | exact Heap.lt_size h2 | exact Heap.lt_size h3 | exact Heap.lt_size hl3 | exact Heap.lt_size hl1 | exact Heap.lt_size hl2
theorem Z0.st {h : Heap} {S : Addr} (q : Z0 h z TI TO i1 i2 i3 l1 l2 l3 xs ys ws) : ZSt h z TI TO i1 i2 i3 l1 l2 l3 S xs ys ws 0 := by
  obtain ⟨hz, hTI, hTO, h1, h2, h3, hl1, hl2, hl3⟩ := q
  exact ⟨hTI, h1, h2, h3, hl1, hl2, hl3, .inl ⟨hz, hTO⟩⟩
theorem call_list_zip {Q : Value → Shared → Prop} (hh : A.handled = none) (D : Ap3 z TI TO i1 i2 i3 l1 l2 l3) (q : Z0 s.heap z TI TO i1 i2 i3 l1 l2 l3 xs ys ws) (hn : min xs.size (min ys.size ws.size) ≤ sizeLine)
    (hQ : ∀ h' tk acc c as, (∀ b o, b ∉ [z, TO, i1, i2, i3] → s.heap.get? b = some o → h'.get? b = some o) → h'.get? s.heap.objs.size = some { cls := .type "list", dict := none, data := .seq acc c, slots := #[] } → as.length = min xs.size (min ys.size ws.size) →
      ZG xs ys ws (s.heap.objs.size + 1) h' as → acc.toList = as.map Value.ref → Q (.ref s.heap.objs.size) { s with heap := h', toks := tk }) :
    wpAny (model prog w) A (call (.type "list") [.ref z]) Q E s := by
  refine callType_codes (Q₁ := fun obj s₁ => obj = .ref s.heap.objs.size ∧ s₁ = { s with heap := s.heap.push { cls := .type "list", data := .seq #[] } }) PySem.F.called_list (PySem.F.typeCall_list_1 _) PySem.F.entry_list_init
    (code_list_new _ ⟨rfl, rfl⟩) fun obj s₁ h₁ => ?_
  obtain ⟨rfl, rfl⟩ := h₁
  have hS : (s.heap.push { cls := .type "list", data := .seq #[] }).get? s.heap.objs.size = some { cls := .type "list", data := .seq #[] } := Heap.get?_push_size _ rfl
  have hlt := q.lt
  have off : ∀ b ∈ [z, TI, TO, i1, i2, i3, l1, l2, l3], b ≠ s.heap.objs.size := fun b hb => Nat.ne_of_lt (hlt b hb)
  refine ⟨⟨_, hS, rfl⟩, PySem.F.args_list_init_2 _ _, ?_⟩
  show wpAny _ A.in1.in1 (do let old ← Builtin.List.listItems (.ref s.heap.objs.size); Builtin.List.listUpdate (.ref s.heap.objs.size) (fun _ => #[]); letGo old.toList.reverse; Builtin.List.listExtendWith (.ref s.heap.objs.size) (.ref z) .none) _ _ _
  refine wpAny_bind ?_
  unfold Builtin.List.listItems
  refine wpAny_bind (wpAny_seqItems hS rfl (wpAny_pure ?_))
  show wpAny _ _ (updateSeq s.heap.objs.size (fun _ => #[]) >>= fun _ => letGo (#[] : Array Value).toList.reverse >>= fun _ => Builtin.List.listExtendWith (.ref s.heap.objs.size) (.ref z) .none) _ _ _
  refine wpAny_bind (wpAny_updateSeq hS rfl ?_)
  have hS2 := Heap.get?_update_self (Obj.mapSeq (fun _ => (#[] : Array Value))) hS rfl
  refine wpAny_bind (wpAny_letGo ?_)
  unfold Builtin.List.listExtendWith
  have up : ∀ (h : Heap) (f : Obj → Obj), (∀ b o, s.heap.get? b = some o → h.get? b = some o) → ∀ b o, s.heap.get? b = some o → (h.update s.heap.objs.size f).get? b = some o := fun h f q b o e =>
    (Heap.get?_update_other _ _ (Ne.symm (Nat.ne_of_lt (Heap.lt_size e)))).trans (q b o e)
  have k1 : ∀ b o, s.heap.get? b = some o → (s.heap.push { cls := .type "list", data := .seq #[] }).get? b = some o := fun b o e => Heap.get?_push_of_some _ e
  have k2 := up _ (Obj.mapSeq (fun _ => (#[] : Array Value))) k1
  have zty : ∀ {h : Heap}, (∀ b o, s.heap.get? b = some o → h.get? b = some o) → ({ s with heap := h } : Shared).TypeIs (.ref z) "zip" := fun {h} k => ⟨_, k _ _ q.1, rfl⟩
  refine wpAny_bind (wpAny_typeOf (zty k2) ?_)
  have h1 : Builtin.List.listSameRef (.ref s.heap.objs.size) (.ref z) = false := by
    simp only [Builtin.List.listSameRef, beq_eq_false_iff_ne]
    exact Ne.symm (off z (by simp))
  have h2 : (Value.type "zip" == Value.type "list") = false := by decide
  have h3 : (Value.type "zip" == Value.type "tuple") = false := by decide
  simp only [h1, h2, h3, Bool.or_false, Bool.false_eq_true, if_false]
  refine wpAny_bind (wpAny_pyIter_zip (k2 _ _ q.1) ?_)
  refine wpAny_bind (wpAny_holding (z_hint (zty k2) ?_))
  show wpAny _ _ (rule "list.extend.makes-room" >>= fun _ => Builtin.List.listTouch (.ref s.heap.objs.size) >>= fun _ =>
    again (.builtin "list.extend.loop" ⟨[.ref s.heap.objs.size, .ref z, .none], []⟩)) _ _ _
  refine wpAny_bind (wpAny_rule ?_)
  refine wpAny_bind ?_
  show wpAny _ _ (updateSeq s.heap.objs.size (·.push .none) >>= fun _ => updateSeq s.heap.objs.size (·.pop)) _ _ _
  refine wpAny_bind (wpAny_updateSeq hS2 rfl ?_)
  have hS3 := Heap.get?_update_self (Obj.mapSeq (·.push Value.none)) hS2 rfl
  refine wpAny_updateSeq (hz := by seq_fits) hS3 rfl ?_
  have hS4 := Heap.get?_update_self (Obj.mapSeq (·.pop)) hS3 rfl
  have k4 := up _ (Obj.mapSeq (·.pop)) (up _ (Obj.mapSeq (·.push Value.none)) k2)
  have sz : (((((s.heap.push { cls := .type "list", data := .seq #[] }).update s.heap.objs.size (Obj.mapSeq (fun _ => (#[] : Array Value)))).update s.heap.objs.size (Obj.mapSeq (·.push Value.none))).update s.heap.objs.size (Obj.mapSeq (·.pop)))).objs.size = s.heap.objs.size + 1 := by
    rw [Heap.size_update, Heap.size_update, Heap.size_update, Heap.size_push]
  refine wpAny_pure ⟨plainId_quiet PySem.F.plain_extend_loop _, z_loop (A := A.in1) (s := s) (lo := s.heap.objs.size + 1) hh D off (fun b hb => Nat.lt_succ_of_lt (hlt b (by
      simp only [List.mem_cons, List.not_mem_nil, or_false] at hb ⊢
      rcases hb with e | e | e | e | e <;> simp [e]))) (Nat.lt_succ_self _) rfl hn .none (h₁ := s.heap) (fun h' tk acc c as hk hS' hl hG hacc => ⟨rfl, hQ h' tk acc c as (fun b o hb e => hk b o (Nat.ne_of_lt (Heap.lt_size e)) hb e) hS' hl hG hacc⟩)
    _ 0 _ s.toks _ #[] [] rfl (Nat.zero_le _) (q.keep k4).st (fun b o _ _ e => k4 b o e) hS4 rfl rfl ⟨List.Pairwise.nil, (fun _ ha => nomatch ha), (fun j a hj => by simp at hj)⟩ (Nat.le_of_eq sz.symm)⟩
end

/-- a new list of new threes -/
def Thr (H H' : Hp) (p : Addr) (xs ys ws : List V) : Prop := (∀ b o, H b = some o → H' b = some o) ∧ H p = none ∧ ∃ ts : List Addr, H' p = some (.lst (ts.map V.ref)) ∧ ts.length = min xs.length (min ys.length ws.length) ∧ (∀ t ∈ ts, H t = none) ∧
  ∀ (j : Nat) (t : Addr), ts[j]? = some t → ∃ x y v, xs[j]? = some x ∧ ys[j]? = some y ∧ ws[j]? = some v ∧ H' t = some (.tup [x, y, v])
def lay (H : Hp) : List Addr → List V → List V → List V → Hp
  | a :: as, x :: xs, y :: ys, v :: ws => upd (lay H as xs ys ws) a (.tup [x, y, v])
  | _, _, _, _ => H
theorem lay_out {H : Hp} : ∀ {as : List Addr} {xs ys ws : List V} {b : Addr}, b ∉ as → lay H as xs ys ws b = H b
  | [], _, _, _, _, _ => rfl
  | _ :: _, [], _, _, _, _ => rfl
  | _ :: _, _ :: _, [], _, _, _ => rfl
  | _ :: _, _ :: _, _ :: _, [], _, _ => rfl
  | a :: as, x :: xs, y :: ys, v :: ws, b, h => by
    obtain ⟨h1, h2⟩ := not_or.mp fun z => h (List.mem_cons.mpr z)
    show upd (lay H as xs ys ws) a (.tup [x, y, v]) b = _
    rw [upd_ne h1]
    exact lay_out h2
theorem lay_at {H : Hp} : ∀ {as : List Addr} {xs ys ws : List V} {j : Nat} {t : Addr} {x y v : V}, as.Pairwise (· < ·) → as[j]? = some t → xs[j]? = some x → ys[j]? = some y → ws[j]? = some v → lay H as xs ys ws t = some (.tup [x, y, v])
  | [], _, _, _, _, _, _, _, _, _, h, _, _, _ => by simp at h
  | _ :: _, [], _, _, _, _, _, _, _, _, _, h, _, _ => by simp at h
  | _ :: _, _ :: _, [], _, _, _, _, _, _, _, _, _, h, _ => by simp at h
  | _ :: _, _ :: _, _ :: _, [], _, _, _, _, _, _, _, _, _, h => by simp at h
  | a :: as, x' :: xs, y' :: ys, v' :: ws, 0, t, x, y, v, _, h1, h2, h3, h4 => by
    cases h1
    cases h2
    cases h3
    cases h4
    exact upd_same
  | a :: as, x' :: xs, y' :: ys, v' :: ws, j + 1, t, x, y, v, hp, h1, h2, h3, h4 => by
    obtain ⟨p1, p2⟩ := List.pairwise_cons.mp hp
    have h1 : as[j]? = some t := h1
    have ne : t ≠ a := Nat.ne_of_gt (p1 t (List.mem_of_getElem? h1))
    show upd (lay H as xs ys ws) a (.tup [x', y', v']) t = _
    rw [upd_ne ne]
    exact lay_at p2 h1 h2 h3 h4
theorem lay_inv {H : Hp} : ∀ {as : List Addr} {xs ys ws : List V} {b : Addr} {o : HO}, lay H as xs ys ws b = some o → H b = some o ∨ ∃ (j : Nat) (x y v : V), as[j]? = some b ∧ xs[j]? = some x ∧ ys[j]? = some y ∧ ws[j]? = some v ∧ o = .tup [x, y, v]
  | [], _, _, _, _, _, h => .inl h
  | _ :: _, [], _, _, _, _, h => .inl h
  | _ :: _, _ :: _, [], _, _, _, h => .inl h
  | _ :: _, _ :: _, _ :: _, [], _, _, h => .inl h
  | a :: as, x :: xs, y :: ys, v :: ws, b, o, h => by
    have h : upd (lay H as xs ys ws) a (.tup [x, y, v]) b = some o := h
    by_cases e : b = a
    · subst e
      rw [upd_same] at h
      exact .inr ⟨0, x, y, v, rfl, rfl, rfl, rfl, (Option.some.inj h).symm⟩
    · rw [upd_ne e] at h
      rcases lay_inv h with q | ⟨j, x', y', v', q1, q2, q3, q5, q4⟩
      · exact .inl q
      · exact .inr ⟨j + 1, x', y', v', q1, q2, q3, q5, q4⟩
theorem vals_refs : ∀ as : List Addr, Vals (as.map V.ref) (as.map Value.ref)
  | [] => .nil
  | _ :: as => .cons rfl (vals_refs as)
section
variable {X : Cx} {pins : List (Addr × Obj)} {σ : L2.St} {H : Hp} {s : Shared}
theorem threes_laid (I : Inv X pins σ H s) {xs ys ws : List V} {us vs ts : List Value} (rx : Vals xs us) (ry : Vals ys vs) (rw_ : Vals ws ts) {h' : Heap} {tk : Nat} {S : Addr} {acc : Array Value} {c : Nat} {as : List Addr} (hk : ∀ b o, s.heap.get? b = some o → h'.get? b = some o) (hS0 : s.heap.objs.size ≤ S)
    (hn : as.length ≤ sizeLine) (eS : h'.get? S = some { cls := .type "list", dict := none, data := .seq acc c, slots := #[] }) (hl : as.length = min us.length (min vs.length ts.length)) (hG : ZG us.toArray vs.toArray ts.toArray (S + 1) h' as) (ea : acc.toList = as.map Value.ref) :
    ∃ H', Inv X pins σ H' { s with heap := h', toks := tk } ∧ Thr H H' S xs ys ws := by
  have up : ∀ b o, H b = some o → b ≠ S ∧ b ∉ as := fun b o e => by
    have lt := I.hok.lt e
    refine ⟨fun z => by rw [z] at lt; exact absurd lt (Nat.not_lt.mpr hS0), fun z => ?_⟩
    exact absurd (Nat.lt_of_lt_of_le (Nat.lt_succ_of_le hS0) (hG.above b z)) (Nat.not_lt.mpr (Nat.le_of_lt lt))
  have same : ∀ b o, H b = some o → upd (lay H as xs ys ws) S (.lst (as.map V.ref)) b = some o := fun b o e => by
    obtain ⟨h1, h2⟩ := up b o e
    rw [upd_ne h1, lay_out h2]
    exact e
  have lx := rx.length
  have ly := ry.length
  have lw := rw_.length
  have fresh : ∀ b, s.heap.objs.size ≤ b → H b = none := fun b e => I.hok.fresh e
  have at_ : ∀ (j : Nat) (t : Addr), as[j]? = some t → ∃ x y v0 u v t0, xs[j]? = some x ∧ ys[j]? = some y ∧ ws[j]? = some v0 ∧ RelV x u ∧ RelV y v ∧ RelV v0 t0 ∧ h'.get? t = some { cls := .type "tuple", data := .seq #[u, v, t0] } := fun j t e => by
    obtain ⟨u, v, t0, e1, e2, e4, e3⟩ := hG.pairs j t e
    have jl : j < as.length := (List.getElem?_eq_some_iff.mp e).1
    have jx : j < xs.length := by omega
    have jy : j < ys.length := by omega
    have jw : j < ws.length := by omega
    obtain ⟨u', eu, ru⟩ := rx.get (List.getElem?_eq_getElem jx)
    obtain ⟨v', ev, rv⟩ := ry.get (List.getElem?_eq_getElem jy)
    obtain ⟨t', et, rt⟩ := rw_.get (List.getElem?_eq_getElem jw)
    have e1 : us[j]? = some u := by simpa using e1
    have e2 : vs[j]? = some v := by simpa using e2
    have e4 : ts[j]? = some t0 := by simpa using e4
    rw [et] at e4
    cases e4
    rw [eu] at e1
    rw [ev] at e2
    cases e1
    cases e2
    exact ⟨_, _, _, _, _, _, List.getElem?_eq_getElem jx, List.getElem?_eq_getElem jy, List.getElem?_eq_getElem jw, ru, rv, rt, e3⟩
  refine ⟨upd (lay H as xs ys ws) S (.lst (as.map V.ref)), I.un (t' := tk) ⟨fun b o e _ _ _ => hk b o e, fun b o e _ _ _ => ⟨o.slots, hk b o e⟩, fun b o e n _ => ?_, fun b o e _ => ⟨o, hk b o e⟩, fun b zs e => same b _ e, fun b o u e => same b _ e, fun b ps e => ⟨#[], by rw [Array.append_empty]; exact same b _ e⟩⟩ (fun b o e => ?_),
    same, fresh S hS0, as, upd_same, by rw [lx, ly, lw]; exact hl, fun t ht => fresh t (Nat.le_trans (Nat.le_succ_of_le hS0) (hG.above t ht)), fun j t e => ?_⟩
  · have lt : b < s.heap.objs.size := Heap.lt_size e
    have h1 : b ≠ S := Nat.ne_of_lt (Nat.lt_of_lt_of_le lt hS0)
    have h2 : b ∉ as := fun z => absurd (Nat.lt_of_lt_of_le (Nat.lt_succ_of_le hS0) (hG.above b z)) (Nat.not_lt.mpr (Nat.le_of_lt lt))
    rw [upd_ne h1, lay_out h2]
    exact n
  · by_cases hb : b = S
    · subst hb
      rw [upd_same] at e
      cases e
      exact ⟨by rw [List.length_map]; exact hn, acc.toList, c, by rw [ea]; exact vals_refs as, by rw [eS]⟩
    · rw [upd_ne hb] at e
      rcases lay_inv e with q | ⟨j, x, y, v0, q1, q2, q3, q4, rfl⟩
      · exact (I.hok b o q).stay (fun c v _ z => hk c v z) (fun d z => same d _ z) fun d zs z => same d _ z
      · obtain ⟨x', y', w', u, v, t0, e1, e2, e4, r1, r2, r3, e3⟩ := at_ j b q1
        rw [q4] at e4
        cases e4
        rw [q2] at e1
        rw [q3] at e2
        cases e1
        cases e2
        exact ⟨by show 3 ≤ sizeLine; decide, [u, v, t0], .cons r1 (.cons r2 (.cons r3 .nil)), ⟨_, e3, rfl, _, rfl⟩⟩
  · obtain ⟨x, y, v0, _, _, _, e1, e2, e4, _⟩ := at_ j t e
    refine ⟨x, y, v0, e1, e2, e4, ?_⟩
    have hne : t ≠ S := fun z => absurd (hG.above t (List.mem_of_getElem? e)) (by rw [z]; exact Nat.not_succ_le_self S)
    rw [upd_ne hne]
    exact lay_at hG.rise e e1 e2 e4
end
/-- list(zip(e, e2, e3)) -/
def tListZip3 (K : PySem.W.Frag) (ta : TA) : TE := fun σ H Q => ta σ H fun vs H1 => ∃ a b c xs ys ws, vs = [.ref a, .ref b, .ref c] ∧ SqL K H1 a xs ∧ SqL K H1 b ys ∧ SqL K H1 c ws ∧ min xs.length (min ys.length ws.length) ≤ sizeLine ∧ ∀ p H2, Thr H1 H2 p xs ys ws → Q (.ref p) H2
theorem pe_listZip3 {X : Cx} {e e2 e3 : Expr} {ta : TA} {p p2 pos pos2 : Pos} (hh : X.calm = true) (hgl : Gl X "list") (hml : X.mg "list" = none) (hg : Gl X "zip") (hm : X.mg "zip" = none) (ha : PA X [e, e2, e3] ta) (hbl : bootBuiltins ("list" : Str) = some (.type "list"))
    (hs : starEach [e, e2, e3] X.env = (false, eval e X.env) :: starEach [e2, e3] X.env := by rfl) (hpl : (backTo pos2 (starEach [e2, e3] X.env)).any (·.1) = false := by rfl)
    (hs1 : starEach [Expr.Call (.Name "zip" p2) [e, e2, e3] [] pos2] X.env = (false, eval (Expr.Call (.Name "zip" p2) [e, e2, e3] [] pos2) X.env) :: starEach [] X.env := by rfl) :
    PE X (.Call (.Name "list" p) [.Call (.Name "zip" p2) [e, e2, e3] [] pos2] [] pos) (tListZip3 X.K ta) := by
  refine ⟨fun pins s σ H Q I h => ?_⟩
  refine wpAny_Call_Name_kw (ld_blt I hgl hml hbl ?_)
  refine PyProof.Rows.callWith_type1 ?_ hs1 (by rfl)
  rw [hs1]
  show wpAny _ _ (spliced ((false, eval (Expr.Call (.Name "zip" p2) [e, e2, e3] [] pos2) X.env) :: backTo pos (starEach [] X.env))) _ _ s
  refine Calls.spliced_cons ?_
  refine Call_ (ld_blt I hg hm PyProof.Rows.boot_zip (PyProof.Rows.callWith_type1 (thn (ha.run _ pins s σ H _ I h) fun us s1 ⟨vs, H1, I1, r1, q1⟩ => ?_) hs hpl))
  obtain ⟨a, b, c, xs, ys, ws, ex, hqx, hqy, hqw, hn, q⟩ := q1
  subst ex
  cases r1 with
  | cons r rr =>
    cases rr with
    | cons r' rr =>
      cases rr with
      | cons r'' rr =>
        cases rr
        cases r
        cases r'
        cases r''
        obtain ⟨its, rv, p1, _⟩ := I1.list hqx
        obtain ⟨its2, rv2, p2', _⟩ := I1.list hqy
        obtain ⟨its3, rv3, p3', _⟩ := I1.list hqw
        have la : a < s1.heap.objs.size := p1.lt
        have lb : b < s1.heap.objs.size := p2'.lt
        have lc : c < s1.heap.objs.size := p3'.lt
        refine zip_begins3 (begins_list a its.toArray) (begins_list b its2.toArray) (begins_list c its3.toArray) p1.isList p2'.isList p3'.isList fun h' hz hTI hTO h1 h2 h3 hsz hk => ?_
        have D := ap3 s1.heap.objs.size a b c la lb lc
        have e1 := rv.length
        have e2 := rv2.length
        have e3 := rv3.length
        have sz1 : its.toArray.size = its.length := by simp
        have sz2 : its2.toArray.size = its2.length := by simp
        have sz3 : its3.toArray.size = its3.length := by simp
        refine Calls.spliced_nil ?_
        refine call_list_zip (s := { s1 with heap := h' }) (I1.ok.hd hh) D ⟨hz, hTI, ⟨_, _, _, hTO⟩, ⟨_, h1, rfl, rfl⟩, ⟨_, h2, rfl, rfl⟩, ⟨_, h3, rfl, rfl⟩, p1.isList.at fun o z => hk _ o z, p2'.isList.at fun o z => hk _ o z, p3'.isList.at fun o z => hk _ o z⟩ (by rw [sz1, sz2, sz3]; omega) fun h2 tk acc c as kk eS hl hG ea => ?_
        have keep : ∀ b o, s1.heap.get? b = some o → h2.get? b = some o := fun b o z => kk b o (fun hm => by
          have lt : b < s1.heap.objs.size := Heap.lt_size z
          have : b = s1.heap.objs.size + 5 ∨ b = s1.heap.objs.size + 4 ∨ b = s1.heap.objs.size ∨ b = s1.heap.objs.size + 1 ∨ b = s1.heap.objs.size + 2 := by simpa using hm
          have no : ∀ k : Nat, b ≠ s1.heap.objs.size + k := fun k q => absurd lt (by rw [q]; exact Nat.not_lt.mpr (Nat.le_add_right _ _))
          rcases this with q | q | q | q | q
          · exact no 5 q
          · exact no 4 q
          · exact no 0 q
          · exact no 1 q
          · exact no 2 q) (hk b o z)
        have hsz : h'.objs.size = s1.heap.objs.size + 6 := hsz
        obtain ⟨H2, J, P2⟩ := threes_laid (s := s1) I1 rv rv2 rv3 (tk := tk) (S := h'.objs.size) keep (by omega) (by rw [hl, sz1, sz2, sz3]; omega) eS (by rw [hl, sz1, sz2, sz3]) hG ea
        exact ⟨.ref h'.objs.size, H2, J, rfl, q _ _ P2⟩
end Zl3

set_option Elab.async false
set_option linter.all false
set_option maxRecDepth 100000
set_option maxHeartbeats 4000000
/-! best_tree: what stands at each turn. -/
namespace Ld
open PySem PySem.Spec PyProof.Rows L2 Lg Lr Lb
open Tr
def ItA (A : Hp) (v : V) (w : Addr × Tr) : Prop := ∃ a, v = .ref a ∧ A a = some (.tup [.str w.2.sym, .int w.2.lo, .int w.2.hi, .ref w.1])
def FsA (G : List Rule) (Z : Prc) (row : List Str) (T : Nat → Nat → Ent) (t : Tr) : Prop := ∃ (N : Str) (x e : Nat), First (pbOf G Z row kn0) T N x e t ∧ x ≤ e ∧ e ≤ row.length ∧ ∃ q ∈ G, N = q.1 ∨ N ∈ q.2
structure BtW (H A : Hp) (G : List Rule) (Z : Prc) (row : List Str) (T : Nat → Nat → Ent) (fnd wt : Addr) (t0 : Tr) (W : List (Addr × Tr)) (ws : List V) : Prop where
  same : Same H A
  hw : A wt = some (.lst ws.reverse)
  items : Rel2 (ItA A) ws W
  first : ∀ w ∈ W, FsA G Z row T w.2
  room : ∀ w ∈ W, ∃ xs, A w.1 = some (.lst xs) ∧ H w.1 = none ∧ w.1 ≠ wt ∧ xs.length + W.countP (fun u => decide (u.1 = w.1)) ≤ 3
  fin : ∀ B, Fin wt A W B → ∃ v as, B fnd = some (.lst [v]) ∧ TrL B t0 v as ∧ as.Nodup ∧ ∀ a ∈ as, H a = none
section
variable {H A A' : Hp} {G : List Rule} {Z : Prc} {row : List Str} {T : Nat → Nat → Ent} {fnd wt p a : Addr} {t0 : Tr} {W : List (Addr × Tr)} {ws xs : List V} {v : V}
theorem BtW.leaf {k : Str} {i j : Int} (h : BtW H A G Z row T fnd wt t0 ((p, .leaf k i j) :: W) (v :: ws)) (hp : A p = some (.lst xs)) (same : Same H A') (hw' : A' wt = some (.lst ws.reverse))
    (h1 : A' a = some (.tup [.str "leaf", .str k, .int i, .int j])) (h2 : A' p = some (.lst (xs ++ [.ref a]))) (h3 : ∀ b o, b ≠ wt → b ≠ p → A b = some o → A' b = some o) (h4 : ∀ b, A' b = none → A b = none) : BtW H A' G Z row T fnd wt t0 W ws := by
  obtain ⟨xs', e1, hp0, pL, cnt⟩ := h.room _ (List.mem_cons_self ..)
  dsimp only at e1 hp0 pL cnt
  rw [hp] at e1
  cases e1
  have ku : ∀ b ys, A b = some (.tup ys) → A' b = some (.tup ys) := fun b ys e => h3 b _ (fun z => by rw [z, h.hw] at e; cases e) (fun z => by rw [z, hp] at e; cases e) e
  have aL : a ≠ wt := fun z => by
    rw [z, hw'] at h1
    cases h1
  refine ⟨same, hw', h.items.2.mono fun v w ⟨b, e, hb⟩ => ⟨b, e, ku _ _ hb⟩, fun w m => h.first w (List.mem_cons_of_mem _ m), fun w m => ?_, fun B f => h.fin B (fin_leaf hp pL aL h1 h2 h3 h4 f)⟩
  obtain ⟨ys, e2, g0, g1, c2⟩ := h.room w (List.mem_cons_of_mem _ m)
  by_cases e : w.1 = p
  · rw [e, hp] at e2
    cases e2
    refine ⟨xs ++ [.ref a], by rw [e]; exact h2, g0, g1, ?_⟩
    rw [e, List.countP_cons] at c2
    simp only [decide_true, if_true] at c2
    rw [e, List.length_append, List.length_singleton]
    omega
  · refine ⟨ys, h3 _ _ g1 e e2, g0, g1, ?_⟩
    rw [List.countP_cons] at c2
    omega
theorem BtW.tree {q : Addr} {N : Str} {r i j : Int} {ps : List Tr} {nw : List V} (h : BtW H A G Z row T fnd wt t0 ((p, .tree N r i j ps) :: W) (v :: ws)) (hp : A p = some (.lst xs)) (same : Same H A') (hw' : A' wt = some (.lst (ws.reverse ++ nw.reverse)))
    (hq : A q = none) (h0 : A' q = some (.lst [])) (h1 : A' a = some (.tup [.str "tree", .str N, .int r, .int i, .int j, .ref q])) (h2 : A' p = some (.lst (xs ++ [.ref a]))) (h3 : ∀ b o, b ≠ wt → b ≠ p → A b = some o → A' b = some o) (h4 : ∀ b, A' b = none → A b = none)
    (it : Rel2 (ItA A') nw (ps.map fun t => (q, t))) (fs : ∀ t ∈ ps, FsA G Z row T t) (len : ps.length ≤ 3) : BtW H A' G Z row T fnd wt t0 ((ps.map fun t => (q, t)) ++ W) (nw ++ ws) := by
  obtain ⟨xs', e1, hp0, pL, cnt⟩ := h.room _ (List.mem_cons_self ..)
  dsimp only at e1 hp0 pL cnt
  rw [hp] at e1
  cases e1
  have ku : ∀ b ys, A b = some (.tup ys) → A' b = some (.tup ys) := fun b ys e => h3 b _ (fun z => by rw [z, h.hw] at e; cases e) (fun z => by rw [z, hp] at e; cases e) e
  have aL : a ≠ wt := fun z => by
    rw [z, hw'] at h1
    cases h1
  have qL : q ≠ wt := fun z => by
    rw [z, h.hw] at hq
    cases hq
  have off : ∀ w ∈ W, w.1 ≠ q := fun w m z => by
    obtain ⟨ys, e2, _⟩ := h.room w (List.mem_cons_of_mem _ m)
    rw [z, hq] at e2
    cases e2
  refine ⟨same, by rw [List.reverse_append]; exact hw', it.app (h.items.2.mono fun v w ⟨b, e, hb⟩ => ⟨b, e, ku _ _ hb⟩), fun w m => ?_, fun w m => ?_, fun B f => h.fin B (fin_tree hp pL aL qL hq h0 h1 h2 h3 h4 off f)⟩
  · rcases List.mem_append.mp m with m | m
    · obtain ⟨t, mt, rfl⟩ := List.mem_map.mp m
      exact fs t mt
    · exact h.first w (List.mem_cons_of_mem _ m)
  · rw [List.countP_append]
    rcases List.mem_append.mp m with m | m
    · obtain ⟨t, mt, rfl⟩ := List.mem_map.mp m
      refine ⟨[], h0, h.same.free hq, qL, ?_⟩
      have c1 := List.countP_le_length (p := fun u : Addr × Tr => decide (u.1 = q)) (l := ps.map fun t => (q, t))
      rw [List.length_map] at c1
      have c2 : W.countP (fun u => decide (u.1 = q)) = 0 := List.countP_eq_zero.mpr fun w m z => off w m (of_decide_eq_true z)
      show 0 + _ ≤ 3
      dsimp only
      omega
    · have wq := off w m
      have c1 : (ps.map fun t => (q, t)).countP (fun u => decide (u.1 = w.1)) = 0 := List.countP_eq_zero.mpr fun u mu z => by
        obtain ⟨t, _, rfl⟩ := List.mem_map.mp mu
        exact wq (of_decide_eq_true z).symm
      rw [c1]
      obtain ⟨ys, e2, g0, g1, c2⟩ := h.room w (List.mem_cons_of_mem _ m)
      by_cases e : w.1 = p
      · rw [e, hp] at e2
        cases e2
        refine ⟨xs ++ [.ref a], by rw [e]; exact h2, g0, g1, ?_⟩
        rw [e, List.countP_cons] at c2
        simp only [decide_true, if_true] at c2
        rw [e, List.length_append, List.length_singleton]
        omega
      · refine ⟨ys, h3 _ _ g1 e e2, g0, g1, ?_⟩
        rw [List.countP_cons] at c2
        omega
theorem BtW.done (h : BtW H A G Z row T fnd wt t0 [] ws) : ∃ v as, A fnd = some (.lst [v]) ∧ TrL A t0 v as ∧ as.Nodup ∧ ∀ a ∈ as, H a = none := h.fin A fin_nil
theorem BtW.start (same : Same H A) (hf0 : H fnd = none) (hf : A fnd = some (.lst [])) (hw : A wt = some (.lst [.ref a])) (ha : A a = some (.tup [.str t0.sym, .int t0.lo, .int t0.hi, .ref fnd])) (fs : FsA G Z row T t0) (ne : fnd ≠ wt) : BtW H A G Z row T fnd wt t0 [(fnd, t0)] [.ref a] := by
  refine ⟨same, hw, ⟨⟨a, rfl, ha⟩, True.intro⟩, fun w m => ?_, fun w m => ?_, fun B f => ?_⟩
  · rw [List.mem_singleton.mp m]
    exact fs
  · rw [List.mem_singleton.mp m]
    exact ⟨[], hf, hf0, ne, by simp⟩
  · obtain ⟨v, as, g1, g2, g3, g4⟩ := fin_start hf ne f
    exact ⟨v, as, g1, g2, g3, fun x m => same.free (g4 x m)⟩
end
end Ld

set_option Elab.async false
set_option linter.all false
set_option maxRecDepth 100000
set_option maxHeartbeats 4000000
/-! best_tree. -/
namespace Ld
open PySem PySem.Spec PyProof.Rows L2 Lg Lr Lb
open Tr
/-- best_tree: none where there is no tree, else the first one in new lists -/
def spBt : Sp := fun vs H Q _ => ∃ (g t r f : Addr) (G : List Rule) (Z : Prc) (row : List Str) (F : List (List Key × V)) (T : Nat → Nat → Ent) (N : Str) (i j : Nat), vs = [.ref g, .ref t, .ref r, .str N, .int i, .int j, .ref f] ∧ Lay H g t r f G Z row F T ∧ (∃ q ∈ G, q.1 = N) ∧ i ≤ j ∧ j ≤ row.length ∧
  ((T i j).nm N = none → ∀ H2, Same H H2 → Q .non H2) ∧ ∀ c, (T i j).nm N = some c → ∃ u, First (pbOf G Z row kn0) T N i j u ∧ u.count ≤ 900000 ∧ ∀ v as H2, Same H H2 → TrL H2 u v as → as.Nodup → (∀ a ∈ as, H a = none) → Q v H2
theorem rel2_of {α : Type} {R : V → α → Prop} : ∀ {vs : List V} {xs : List α}, vs.length = xs.length → (∀ (j : Nat) (v : V), vs[j]? = some v → ∃ x, xs[j]? = some x ∧ R v x) → Rel2 R vs xs
  | [], [], _, _ => True.intro
  | v :: vs, x :: xs, l, h => by
    refine ⟨?_, rel2_of (Nat.succ.inj l) fun j u hu => h (j + 1) u hu⟩
    obtain ⟨y, e, r⟩ := h 0 v rfl
    cases e
    exact r
  | [], _ :: _, l, _ => nomatch l
  | _ :: _, [], l, _ => nomatch l
theorem wipe3 (σ : L2.St) (x y z : Option V) : wipe ((((wipe σ [18, 19, 20]).set 18 x).set 19 y).set 20 z) [18, 19, 20] = wipe σ [18, 19, 20] := by
  refine List.ext_getElem? fun i => ?_
  simp only [wipe, List.getElem?_set, List.length_set]
  by_cases h1 : 18 = i
  · simp [h1]
  · by_cases h2 : 19 = i
    · simp [h1, h2]
    · by_cases h3 : 20 = i
      · simp [h1, h2, h3]
      · simp [h1, h2, h3]
section
variable {P : Program} {w : World} {K : PySem.W.Frag} {mg : Str → Option Value} {base : Heap}
theorem scBt : FnScope ["grammar", "prices", "row", "name", "i", "j", "entries", "names", "found", "waiting", "symbol", "start", "end", "beside", "rule", "ends", "parts", "pieces", "part", "k", "m"] ["grammar", "prices", "row", "name", "i", "j", "entries"] (defScope s_best_tree) := ⟨rfl, rfl, rfl, by decide +kernel, rfl, by decide +kernel, by decide +kernel⟩
theorem ok_bt {f' fE1 fR1 fM : Addr} {fd fdE1 fdR1 fdM : FuncData} (FF : Fun K "best_tree" "best_tree" s_best_tree f' fd)
    (GE1 : FnOk P w K mg base CX0 5 fE1 fdE1 ["grammar", "prices", "row", "entries", "rule", "i", "j"] spFe) (kE1 : PySem.W.keepIn K (.ref fE1) = true) (bE1 : Binds K fdE1 ["grammar", "prices", "row", "entries", "rule", "i", "j"] []) (gE1 : mg "_first_ends" = some (.ref fE1))
    (GR1 : FnOk P w K mg base CX0 2 fR1 fdR1 ["grammar", "name", "found"] spFr1) (kR1 : PySem.W.keepIn K (.ref fR1) = true) (bR1 : Binds K fdR1 ["grammar", "name", "found"] []) (gR1 : mg "_first_rule" = some (.ref fR1))
    (GM : FnOk P w K mg base CX0 1 fM fdM ["grammar"] spNames) (kM : PySem.W.keepIn K (.ref fM) = true) (bM : Binds K fdM ["grammar"] []) (gM : mg "names_of" = some (.ref fM))
    (m_list : mg "list" = none) (m_zip : mg "zip" = none) : FnOk P w K mg base CX0 6 f' fd ["grammar", "prices", "row", "name", "i", "j", "entries"] spBt := by
  refine FF.ok (k := 5) scBt (fun vs H Q E h => ?_) (fun cdv A outer s H vs Q E hr h => ?_)
  · obtain ⟨g, t, r, f, G, Z, row, F, T, N, i, j, rfl, _⟩ := h
    rfl
  · obtain ⟨g, t, r, f, G, Z, row, F, T, N, i, j, rfl, lay, hN, ij, jn, q0, q1⟩ := h
    have hu := units1 hr
    have hr1 := hr.mono (show 1 ≤ 5 by decide)
    have hr2 := hr.mono (show 2 ≤ 5 by decide)
    have hr5 := hr
    refine ⟨_, pss_cons (ps_if (pt_cmp (pc_isN (pe_dget1 hu (pe_dget hu (pv 6) (pe_tup (pa_cons (pv 4) (pa_cons (pv 5) pa_nil))) (fun _ _ => rfl)) (pe_tup (pa_cons pe_str (pa_cons (pv 3) pa_nil))) ⟨rfl, rfl, rfl, rfl⟩)) (by rfl)) (pss_one (ps_ret pe_non))
      pss_nil)
      (pss_cons (ps_set (i := 7) scBt.nd rfl (.inl rfl) (pe_call GM hr1 (by rfl) gM kM bM .nil pass0 (pa_cons (pv 0) pa_nil)))
      (pss_cons (ps_set (i := 8) scBt.nd rfl (.inl rfl) (pe_lst pa_nil))
      (pss_cons (ps_set (i := 9) scBt.nd rfl (.inl rfl) (pe_lst (pa_cons (pe_tup (pa_cons (pv 3) (pa_cons (pv 4) (pa_cons (pv 5) (pa_cons (pv 8) pa_nil))))) pa_nil)))
      (pss_cons (ps_while PassesOwn.never (pt_truth (pv 9) (by intro _; rfl))
      (pss_cons (ps_asg (pe_bm0 PySem.F.plainAttrs_list PySem.F.slot_list_pop PySem.F.type_list_pop mt_pop (pv 9)) (pg_tup rfl (pgs_cons (pg_name (i := 10) scBt.nd rfl (.inl rfl)) (pgs_cons (pg_name (i := 11) scBt.nd rfl (.inl rfl)) (pgs_cons (pg_name (i := 12) scBt.nd rfl (.inl rfl)) (pgs_cons (pg_name (i := 13) scBt.nd rfl (.inl rfl)) pgs_nil))))))
        (pss_one (ps_if (pt_cmpR op_in_seq (pv 10) (pv 7) rfl) (pss_cons (ps_set (i := 14) scBt.nd rfl (.inl rfl) (pe_call GR1 hr2 (by rfl) gR1 kR1 bR1 .nil pass0 (pa_cons (pv 0) (pa_cons (pv 10) (pa_cons (pe_dget hu (pv 6) (pe_tup (pa_cons (pv 11) (pa_cons (pv 12) pa_nil))) (fun _ _ => rfl)) pa_nil)))))
          (pss_cons (ps_set (i := 15) scBt.nd rfl (.inl rfl) (pe_call GE1 hr5 (by rfl) gE1 kE1 bE1 .nil pass0 (pa_cons (pv 0) (pa_cons (pv 1) (pa_cons (pv 2) (pa_cons (pv 6) (pa_cons (pv 14) (pa_cons (pv 11) (pa_cons (pv 12) pa_nil)))))))))
          (pss_cons (ps_set (i := 16) scBt.nd rfl (.inr rfl) (pe_lst pa_nil))
          (pss_cons (ps_expr (pe_bm PySem.F.plainAttrs_list PySem.F.slot_list_append PySem.F.type_list_append mt_append (pv 13) (pa_cons (pe_tup (pa_cons pe_str (pa_cons (pv 10) (pa_cons (pv 14) (pa_cons (pv 11) (pa_cons (pv 12) (pa_cons (pv 16) pa_nil))))))) pa_nil)))
          (pss_cons (ps_set (i := 17) scBt.nd rfl (.inl rfl) (Zl3.pe_listZip3 (by rfl) (by rfl) m_list (by rfl) m_zip (pa_cons (pe_ix ix_tup (pe_ix ix_list (pv 0) (pv 14) (fun _ _ => rfl)) pe_int (fun _ _ => rfl)) (pa_cons (pe_op op_cat (pe_lst (pa_cons (pv 11) pa_nil)) (pv 15)) (pa_cons (pv 15) pa_nil))) (by decide +kernel)))
          (pss_one (ps_expr (pe_bm PySem.F.plainAttrs_list PySem.F.slot_list_extend PySem.F.type_list_extend mt_extend (pv 9) (pa_cons (pe_lc (own := [("part", 18), ("k", 19), ("m", 20)]) (g := (gTup K 3 (gCons (gName 18) (gCons (gName 19) (gCons (gName 20) gNil))))) rfl scBt.nd (pi_list (pe_revL (pv 17))) (blkOk_by (N := ["grammar", "prices", "row", "name", "i", "j", "entries", "names", "found", "waiting", "symbol", "start", "end", "beside", "rule", "ends", "parts", "pieces", "part", "k", "m"]) (sc := defScope s_best_tree) (by decide +kernel)) (fun _ _ _ _ _ => (pg_tup rfl (pgs_cons (pg_name (i := 18) scBt.nd rfl (Or.inl rfl)) (pgs_cons (pg_name (i := 19) scBt.nd rfl (Or.inl rfl)) (pgs_cons (pg_name (i := 20) scBt.nd rfl (Or.inl rfl)) pgs_nil))))) (fun _ _ _ _ _ => pts_nil) (fun _ _ _ _ _ => (pe_tup (pa_cons (pv 18) (pa_cons (pv 19) (pa_cons (pv 20) (pa_cons (pv 16) pa_nil))))))) pa_nil)))))))))
        (pss_one (ps_expr (pe_bm PySem.F.plainAttrs_list PySem.F.slot_list_append PySem.F.type_list_append mt_append (pv 13) (pa_cons (pe_tup (pa_cons pe_str (pa_cons (pv 10) (pa_cons (pv 11) (pa_cons (pv 12) pa_nil))))) pa_nil))))))))
      (pss_one (ps_ret (pe_ix ix_list (pv 8) pe_int (fun _ _ => rfl)))))))), ?_⟩
    obtain ⟨dd, kvs, e1, e2, e3⟩ := lay.tab.at_ i j ij jn
    obtain ⟨v0, ev0, cv0⟩ := e3.nm N hN
    refine ⟨_, rfl, _, rfl, _, rfl, (by show 2 ≤ sizeLine; decide), fun k1 nk1 => ?_⟩
    have u1 : Same H (upd H k1 (.tup [.int (i : Nat), .int (j : Nat)])) := same_upd nk1
    have hk1 : upd H k1 (.tup [.int (i : Nat), .int (j : Nat)]) k1 = some (.tup ((kS i j).map kV)) := upd_same
    generalize upd H k1 (.tup [.int (i : Nat), .int (j : Nat)]) = A1 at u1 hk1
    have gd := DGet.t (k := kS i j) (u1 _ _ lay.hf) hk1
    rw [e1] at gd
    refine ⟨f, .ref dd, rfl, gd, dd, rfl, (.inr ⟨_, .inl (u1 _ _ e2)⟩), _, rfl, (by show 2 ≤ sizeLine; decide), fun k2 nk2 => ?_⟩
    have u2 : Same A1 (upd A1 k2 (.tup [.str "name", .str N])) := same_upd nk2
    have hk2 : upd A1 k2 (.tup [.str "name", .str N]) k2 = some (.tup ((kN N).map kV)) := upd_same
    generalize upd A1 k2 (.tup [.str "name", .str N]) = A2 at u2 hk2
    have u12 := u1.trans u2
    have gv := DGet.t (k := kN N) (u12 _ _ e2) hk2
    rw [ev0] at gv
    refine ⟨some v0, gv, _, rfl, ?_⟩
    show (if decide (v0 = V.non) = true then _ else _)
    rw [(cv0.same u12).non]
    cases ec : (T i j).nm N with
    | none => exact iteT (q0 ec A2 u12)
    | some c =>
      refine iteF ?_
      obtain ⟨t0, first0, few0, q⟩ := q1 c ec
      obtain ⟨i1, i2, i3, _⟩ := First.info lay.gt lay.least first0 ij jn (let ⟨x, hx, e⟩ := hN; ⟨x, hx, .inl e.symm⟩)
      have lay2 := lay.same u12
      refine ⟨_, rfl, g, G, rfl, lay2.hG, by have := lay.gt.few; omega, fun nm Hb sb nnm hnm => ?_⟩
      have layb := lay2.same sb
      have sb0 := u12.trans sb
      refine ⟨Nat.zero_le _, fun fnd nfnd => ?_⟩
      have s1 : Same Hb (upd Hb fnd (.lst [])) := same_upd nfnd
      have hf1 : upd Hb fnd (.lst []) fnd = some (.lst []) := upd_same
      generalize upd Hb fnd (.lst []) = B1 at s1 hf1
      refine ⟨_, rfl, _, rfl, _, rfl, _, rfl, (by show 4 ≤ sizeLine; decide), fun ta nta => ?_⟩
      have s2 : Same B1 (upd B1 ta (.tup [.str N, .int (i : Nat), .int (j : Nat), .ref fnd])) := same_upd nta
      have hta : upd B1 ta (.tup [.str N, .int (i : Nat), .int (j : Nat), .ref fnd]) ta = some (.tup [.str N, .int (i : Nat), .int (j : Nat), .ref fnd]) := upd_same
      generalize upd B1 ta (.tup [.str N, .int (i : Nat), .int (j : Nat), .ref fnd]) = B2 at s2 hta
      refine ⟨(by show 1 ≤ sizeLine; decide), fun wt nwt => ?_⟩
      have s3 : Same B2 (upd B2 wt (.lst [.ref ta])) := same_upd nwt
      have hw3 : upd B2 wt (.lst [.ref ta]) wt = some (.lst [.ref ta]) := upd_same
      generalize upd B2 wt (.lst [.ref ta]) = B3 at s3 hw3
      have fnw : fnd ≠ wt := ne_of_none (s2 _ _ hf1) nwt
      have st0 : BtW Hb B3 G Z row T fnd wt t0 [(fnd, t0)] [.ref ta] := BtW.start (s1.trans (s2.trans s3)) nfnd (s3 _ _ (s2 _ _ hf1)) hw3 (by rw [i1, i2, i3]; exact s3 _ _ hta) ⟨N, i, j, first0, ij, jn, let ⟨x, hx, e⟩ := hN; ⟨x, hx, .inl e.symm⟩⟩ fnw
      have fr : ∀ {b}, Hb b = none → H b = none := fun e => sb0.free e
      have wt0 : Hb wt = none := (s1.trans s2).free nwt
      refine ⟨fun m σ A => ∃ (W : List (Addr × Tr)) (ws : List V) (v10 v11 v12 v13 v14 v15 v16 v17 v18 v19 v20 : Option V), σ = [some (.ref g), some (.ref t), some (.ref r), some (.str N), some (.int (i : Nat)), some (.int (j : Nat)), some (.ref f), some (.ref nm), some (.ref fnd), some (.ref wt), v10, v11, v12, v13, v14, v15, v16, v17, v18, v19, v20] ∧
          BtW Hb A G Z row T fnd wt t0 W ws ∧ m = countL (W.map (·.2)) ∧ m ≤ 900000,
        ⟨countL [t0], [(fnd, t0)], [.ref ta], none, none, none, none, none, none, none, none, none, none, none, rfl, st0, rfl, by simp only [countL]; omega⟩, ?_⟩
      rintro m σ A ⟨W, ws, v10, v11, v12, v13, v14, v15, v16, v17, v18, v19, v20, rfl, bt, rfl, mle⟩
      refine ⟨_, rfl, _, .inl ⟨_, SqL.of bt.hw, rfl⟩, ?_⟩
      cases W with
      | nil =>
        have := bt.items.len
        cases ws with
        | cons _ _ => cases this
        | nil =>
          obtain ⟨v, as, d1, d2, d3, d4⟩ := bt.done
          refine iteF ⟨_, rfl, fnd, _, _, _, rfl, rfl, SqL.of d1, atI_nat (j := 0) rfl, q v as A (sb0.trans bt.same) d2 d3 fun a m => fr (d4 a m)⟩
      | cons w0 W =>
        obtain ⟨p, u⟩ := w0
        cases ws with
        | nil => exact bt.items.elim
        | cons v ws =>
          obtain ⟨⟨ia, rfl, hia⟩, _⟩ := id bt.items
          dsimp only at hia
          obtain ⟨M, x, e, fu, xe, en, sin⟩ := bt.first _ (List.mem_cons_self ..)
          dsimp only at fu
          obtain ⟨j1, j2, j3, _⟩ := First.info lay.gt lay.least fu xe en sin
          rw [j1, j2, j3] at hia
          obtain ⟨xs, hp, hp0, pw, room⟩ := bt.room _ (List.mem_cons_self ..)
          dsimp only at hp hp0 pw room
          have xl : xs.length ≤ 3 := by omega
          have wl := bt.items.len
          have cl := count_len (((p, u) :: W).map (·.2))
          have cc : countL (((p, u) :: W).map (·.2)) = u.count + countL (W.map (·.2)) := rfl
          have up1 := count_pos u
          rw [List.length_map] at cl
          have hw := bt.hw
          rw [List.reverse_cons] at hw
          rw [show (!(V.ref ia :: ws).reverse.isEmpty) = true from by simp]
          refine iteT ⟨fun σ' H' => ∃ m', m' < countL (((p, u) :: W).map (·.2)) ∧ ∃ (W : List (Addr × Tr)) (ws : List V) (v10 v11 v12 v13 v14 v15 v16 v17 v18 v19 v20 : Option V), σ' = [some (.ref g), some (.ref t), some (.ref r), some (.str N), some (.int (i : Nat)), some (.int (j : Nat)), some (.ref f), some (.ref nm), some (.ref fnd), some (.ref wt), v10, v11, v12, v13, v14, v15, v16, v17, v18, v19, v20] ∧
            BtW Hb H' G Z row T fnd wt t0 W ws ∧ m' = countL (W.map (·.2)) ∧ m' ≤ 900000, fun σ' H' h => h, ?_⟩
          refine ⟨_, rfl, .inl ⟨rfl, _, SqL.of hw⟩, wt, _, .ref ia, rfl, rfl, hw, by simp, ?_⟩
          rw [List.dropLast_concat]
          have iw : ia ≠ wt := fun z => by rw [z, hw] at hia; cases hia
          have sA1 : Same Hb (upd A wt (.lst ws.reverse)) := same_put bt.same wt0
          have hw1 : upd A wt (.lst ws.reverse) wt = some (.lst ws.reverse) := upd_same
          have kp1 : ∀ b o, b ≠ wt → A b = some o → upd A wt (.lst ws.reverse) b = some o := fun b o e h => by rw [upd_ne e]; exact h
          have al1 : ∀ b, upd A wt (.lst ws.reverse) b = none → A b = none := fun b h => by
            by_cases e : b = wt
            · rw [e, upd_same] at h
              cases h
            · rwa [upd_ne e] at h
          generalize upd A wt (.lst ws.reverse) = A1 at sA1 hw1 kp1 al1
          have hp1 := kp1 _ _ pw hp
          refine ⟨ia, _, rfl, SqT.of (kp1 _ _ iw hia), rfl, _, _, rfl, _, _, rfl, _, _, rfl, _, _, rfl, rfl, ?_⟩
          have hnm1 : ∀ {B : Hp}, Same Hb B → B nm = some (.lst ((namesOf G).map V.str)) := fun s => s _ _ hnm
          refine ⟨_, rfl, _, rfl, nm, _, rfl, .inl (SqL.of (hnm1 sA1)), rfl, flat_strs _, _, rfl, ?_⟩
          show (if inV (V.str M) ((namesOf G).map V.str) = true then _ else _)
          rw [inV_strs]
          cases fu with
          | leaf low =>
            have low : isLow M = false := low
            rw [decide_eq_false (show ¬ M ∈ namesOf G from fun z => by
              obtain ⟨x, hx, rfl⟩ := names_mem.mp z
              rw [n4t_low _ (lay.gt.good x hx).1] at low
              cases low)]
            refine iteF ⟨_, rfl, .inl ⟨rfl, _, SqL.of hp1⟩, _, rfl, _, rfl, _, rfl, (by show 4 ≤ sizeLine; decide), fun a na => ?_⟩
            have s2 : Same A1 (upd A1 a (.tup [.str "leaf", .str M, .int (x : Nat), .int (e : Nat)])) := same_upd na
            have ha2 : upd A1 a (.tup [.str "leaf", .str M, .int (x : Nat), .int (e : Nat)]) a = some (.tup [.str "leaf", .str M, .int (x : Nat), .int (e : Nat)]) := upd_same
            have na2 : a ≠ p := Ne.symm (ne_of_none hp1 na)
            refine ⟨p, _, _, rfl, rfl, s2 _ _ hp1, million1 (by omega), ?_⟩
            generalize upd A1 a (.tup [.str "leaf", .str M, .int (x : Nat), .int (e : Nat)]) = A2 at s2 ha2
            refine ⟨countL (W.map (·.2)), by omega, W, ws, _, _, _, _, _, _, _, _, _, _, _, rfl, bt.leaf (a := a) hp (same_put (sA1.trans s2) hp0) ?_ ?_ upd_same ?_ ?_, rfl, by omega⟩
            · rw [upd_ne (Ne.symm pw)]
              exact s2 _ _ hw1
            · rw [upd_ne na2]
              exact ha2
            · intro b o b1 b2 h
              rw [upd_ne b2]
              exact s2 _ _ (kp1 b o b1 h)
            · intro b h
              by_cases eb : b = p
              · rw [eb, upd_same] at h
                cases h
              · rw [upd_ne eb] at h
                exact al1 b (s2.free h)
          | @tree _ _ _ rr ss xc ps h1 h2 h3 h4 h5 h6 =>
            rw [decide_eq_true (show M ∈ namesOf G from names_mem.mpr ⟨_, List.mem_of_getElem? h2, rfl⟩)]
            refine iteT ?_
            have h2 : G[rr]? = some (M, ss) := h2
            have lay1 := lay.same (sb0.trans sA1)
            obtain ⟨d1, kv1, t1, t2, t3⟩ := lay1.tab.at_ x e xe en
            refine ⟨_, rfl, _, rfl, _, rfl, _, rfl, _, rfl, (by show 2 ≤ sizeLine; decide), fun k3 nk3 => ?_⟩
            have u3 : Same A1 (upd A1 k3 (.tup [.int (x : Nat), .int (e : Nat)])) := same_upd nk3
            have hk3 : upd A1 k3 (.tup [.int (x : Nat), .int (e : Nat)]) k3 = some (.tup ((kS x e).map kV)) := upd_same
            generalize upd A1 k3 (.tup [.int (x : Nat), .int (e : Nat)]) = A2 at u3 hk3
            have gd3 := DGet.t (k := kS x e) (u3 _ _ lay1.hf) hk3
            rw [t1] at gd3
            have few := lay.gt.few
            refine ⟨f, .ref d1, rfl, gd3, g, d1, G, M, kv1, T x e, (xc.1, xc.2 + 1), rfl, (lay1.same u3).hG, by omega, u3 _ _ t2, t3.up (Up.of_same u3), h4, ⟨rr, ss, xc, h2, h3, rfl⟩, fun r' ss' x' A3 u4 g' rs' e' least => ?_⟩
            have er : r' = rr := by
              rcases Nat.lt_trichotomy r' rr with l | l | l
              · exact absurd (h4.trans (congrArg some e'.symm)) (h5 r' ss' x' l g' rs')
              · exact l
              · exact absurd rfl (least rr ss xc l h2 h3)
            subst er
            rw [h2] at g'
            cases g'
            have u13 := u3.trans u4
            have lay3 := lay1.same u13
            refine ⟨_, rfl, _, rfl, _, rfl, _, rfl, _, rfl, _, rfl, _, rfl, g, t, r, f, G, Z, row, F, T, r', M, ss, x, e, ps, rfl, lay3, h2, xe, en, h6, fun pe A4 u5 npe hpe => ?_⟩
            have u14 := u13.trans u5
            refine ⟨Nat.zero_le _, fun qa nqa => ?_⟩
            have u6 : Same A4 (upd A4 qa (.lst [])) := same_upd nqa
            have hq5 : upd A4 qa (.lst []) qa = some (.lst []) := upd_same
            generalize upd A4 qa (.lst []) = A5 at u6 hq5
            have u15 := u14.trans u6
            have nq1 : A1 qa = none := u14.free nqa
            have qp : p ≠ qa := ne_of_none hp1 nq1
            have qw : wt ≠ qa := ne_of_none hw1 nq1
            refine ⟨_, rfl, .inl ⟨rfl, _, SqL.of (u15 _ _ hp1)⟩, _, rfl, _, rfl, _, rfl, _, rfl, _, rfl, (by show 6 ≤ sizeLine; decide), fun a na => ?_⟩
            have u7 : Same A5 (upd A5 a (.tup [.str "tree", .str M, .int (r' : Nat), .int (x : Nat), .int (e : Nat), .ref qa])) := same_upd na
            have ha6 : upd A5 a (.tup [.str "tree", .str M, .int (r' : Nat), .int (x : Nat), .int (e : Nat), .ref qa]) a = some (.tup [.str "tree", .str M, .int (r' : Nat), .int (x : Nat), .int (e : Nat), .ref qa]) := upd_same
            have u17 := u15.trans u7
            have ap : a ≠ p := Ne.symm (ne_of_none (u15 _ _ hp1) na)
            refine ⟨p, _, _, rfl, rfl, u7 _ _ (u15 _ _ hp1), million1 (by omega), ?_⟩
            generalize upd A5 a (.tup [.str "tree", .str M, .int (r' : Nat), .int (x : Nat), .int (e : Nat), .ref qa]) = A6 at u7 ha6 u17
            have s7 : Same Hb (upd A6 p (.lst (xs ++ [.ref a]))) := same_put (sA1.trans u17) hp0
            have hp7 : upd A6 p (.lst (xs ++ [.ref a])) p = some (.lst (xs ++ [.ref a])) := upd_same
            have k7 : ∀ b o, b ≠ p → A6 b = some o → upd A6 p (.lst (xs ++ [.ref a])) b = some o := fun b o eb h => by rw [upd_ne eb]; exact h
            have al7 : ∀ b, upd A6 p (.lst (xs ++ [.ref a])) b = none → A6 b = none := fun b h => by
              by_cases eb : b = p
              · rw [eb, upd_same] at h
                cases h
              · rwa [upd_ne eb] at h
            generalize upd A6 p (.lst (xs ++ [.ref a])) = A7 at s7 hp7 k7 al7
            have lay7 := lay.same (sb0.trans s7)
            obtain ⟨gvs, hg7, gr⟩ := id lay7.hG
            obtain ⟨gv7, hgv, tt, sl, rfl, htt, hsl⟩ : ∃ gv, gvs[r']? = some gv ∧ RuleA A7 gv (M, ss) := by
              have hl : r' < gvs.length := by
                rw [gr.len]
                exact (List.getElem?_eq_some_iff.mp h2).1
              obtain ⟨r2, g2, ra⟩ := gr.get (List.getElem?_eq_getElem hl)
              rw [h2] at g2
              cases g2
              exact ⟨_, List.getElem?_eq_getElem hl, ra⟩
            have hpe6 : A6 pe = some (.lst (ps.map fun t => V.int t.hi)) := u7 _ _ (u6 _ _ hpe)
            have pep : pe ≠ p := fun z => by
              rw [z] at npe
              have := u13 _ _ hp1
              rw [npe] at this
              cases this
            have hpe7 := k7 _ _ pep hpe6
            have sl3 : ss.length ≤ 3 := (lay.gt.good _ (List.mem_of_getElem? h2)).2.1
            have plen := FirstP.len h6
            refine ⟨_, rfl, _, rfl, g, _, _, _, rfl, rfl, SqL.of hg7, atI_nat hgv, tt, _, 1, _, rfl, rfl, SqT.of htt, rfl, _, rfl, (by show 1 ≤ sizeLine; decide), fun l1 nl1 => ?_⟩
            have u8 : Same A7 (upd A7 l1 (.lst [.int (x : Nat)])) := same_upd nl1
            have hl8 : upd A7 l1 (.lst [.int (x : Nat)]) l1 = some (.lst [.int (x : Nat)]) := upd_same
            generalize upd A7 l1 (.lst [.int (x : Nat)]) = A8 at u8 hl8
            refine ⟨_, rfl, l1, pe, _, _, rfl, rfl, hl8, u8 _ _ hpe7, by rw [List.length_map]; exact Nat.le_of_lt (million1 (by simp only [List.length_cons, List.length_nil]; omega)), fun l2 nl2 => ?_⟩
            have u9 : Same A8 (upd A8 l2 (.lst ([.int (x : Nat)] ++ ps.map fun t => V.int t.hi))) := same_upd nl2
            have hl9 : upd A8 l2 (.lst ([.int (x : Nat)] ++ ps.map fun t => V.int t.hi)) l2 = some (.lst (V.int (x : Nat) :: ps.map fun t => V.int t.hi)) := upd_same
            generalize upd A8 l2 (.lst ([.int (x : Nat)] ++ ps.map fun t => V.int t.hi)) = A9 at u9 hl9
            have u79 := u8.trans u9
            refine ⟨_, rfl, sl, l2, pe, _, _, _, rfl, SqL.of (u79 _ _ hsl), SqL.of hl9, SqL.of (u79 _ _ hpe7), by simp only [List.length_map, List.length_cons]; exact Nat.le_of_lt (million1 (by omega)), fun zp A10 ⟨u10, nzp, ts, hts, lts, _, tat⟩ => ?_⟩
            have u710 := u79.trans u10
            have hw10 : A10 wt = some (.lst ws.reverse) := u710 _ _ (k7 _ _ (Ne.symm pw) (u17 _ _ hw1))
            have lts : ts.length = ps.length := by
              rw [lts]
              simp only [List.length_map, List.length_cons]
              omega
            have tr : Rel2 (fun v (w : Addr × Tr) => ∃ tq, v = .ref tq ∧ A10 tq = some (.tup [.str w.2.sym, .int w.2.lo, .int w.2.hi])) (ts.map V.ref) (ps.map fun t => (qa, t)) := by
              refine rel2_of (by simp [lts]) fun j v hv => ?_
              obtain ⟨tq, htq, rfl⟩ : ∃ tq, ts[j]? = some tq ∧ v = V.ref tq := by
                rw [List.getElem?_map] at hv
                cases z : ts[j]? with
                | none =>
                  rw [z] at hv
                  cases hv
                | some tq =>
                  rw [z] at hv
                  exact ⟨tq, rfl, (Option.some.inj hv).symm⟩
              have jl : j < ps.length := by
                have := (List.getElem?_eq_some_iff.mp htq).1
                omega
              have hj := List.getElem?_eq_getElem jl
              obtain ⟨sy, lo, hi, c1, c2, c3, c4, c5, c6, c7, c8⟩ := FirstP.at_ lay.gt lay.least h6 h2 xe en j _ hj
              obtain ⟨y1, y2, y3, d1, d2, d3, d4⟩ := tat j tq htq
              rw [Nat.zero_add] at c1
              rw [List.getElem?_map, c1] at d1
              rw [c5] at d2
              rw [List.getElem?_map, hj] at d3
              cases d1
              cases d2
              cases d3
              refine ⟨(qa, ps[j]), by rw [List.getElem?_map, hj]; rfl, tq, rfl, ?_⟩
              dsimp only
              rw [c6, c7]
              exact d4
            have tr := tr.reverse
            refine ⟨_, rfl, .inl ⟨rfl, _, SqL.of hw10⟩, _, rfl, zp, _, rfl, SqL.of hts, fun rp nrp => ?_⟩
            have u11 : Same A10 (upd A10 rp (.lst (ts.map V.ref).reverse)) := same_upd nrp
            have hrp : upd A10 rp (.lst (ts.map V.ref).reverse) rp = some (.lst (ts.map V.ref).reverse) := upd_same
            generalize upd A10 rp (.lst (ts.map V.ref).reverse) = A11 at u11 hrp
            refine ⟨rp, rfl, ⟨_, SqL.of hrp⟩, fun D nD => lc_list (a := rp) (xs := (ts.map V.ref).reverse) (fun m H' => ∃ nw : List V, Same A11 H' ∧ H' D = some (.lst nw) ∧ Rel2 (ItA H') nw ((ps.map fun t => (qa, t)).reverse.take m))
              ⟨[], same_upd nD, upd_same, by rw [List.take_zero]; exact True.intro⟩ (fun m H' _ ⟨_, s', _⟩ => SqL.of (s' _ _ hrp)) ?_ ?_⟩
            · rintro m y H' hy ⟨nw, s', hD, rl⟩
              obtain ⟨w1, hw1', tq, rfl, htq⟩ := tr.get hy
              have htq' := s' _ _ (u11 _ _ htq)
              simp only [L2.wipe, L2.start, List.map_cons, List.map_nil, List.length_cons, List.length_nil, List.set_cons_zero, List.set_cons_succ, List.cons_append, List.nil_append, List.replicate, Nat.reduceSub, Nat.reduceAdd]
              refine ⟨tq, _, rfl, SqT.of htq', rfl, _, _, rfl, _, _, rfl, _, _, rfl, rfl, rfl, _, rfl, _, rfl, _, rfl, _, rfl, (by show 4 ≤ sizeLine; decide), fun it nit => ⟨nw, same_upd nit _ _ hD, ?_, ?_⟩⟩
              · rw [rl.len]
                refine million1 ?_
                have := List.length_take_le' m (ps.map fun t => (qa, t)).reverse
                simp only [List.length_reverse, List.length_map] at this
                omega
              · obtain ⟨wq, wt'⟩ : w1.1 = qa ∧ True := by
                  have := List.mem_of_getElem? hw1'
                  rw [List.mem_reverse] at this
                  obtain ⟨t, _, rfl⟩ := List.mem_map.mp this
                  exact ⟨rfl, True.intro⟩
                have itD : it ≠ D := Ne.symm (ne_of_none hD nit)
                refine ⟨nw ++ [.ref it], same_put (s'.trans (same_upd nit)) nD, upd_same, ?_⟩
                rw [List.take_add_one, hw1']
                have rl' : Rel2 (ItA (upd (upd H' it (.tup [.str w1.2.sym, .int w1.2.lo, .int w1.2.hi, .ref qa])) D (.lst (nw ++ [.ref it])))) nw ((ps.map fun t => (qa, t)).reverse.take m) := rl.mono fun v w ⟨b, f1, f2⟩ => ⟨b, f1, by
                  rw [upd_ne (fun z => by rw [z, hD] at f2; cases f2)]
                  exact same_upd nit _ _ f2⟩
                have itA : ItA (upd (upd H' it (.tup [.str w1.2.sym, .int w1.2.lo, .int w1.2.hi, .ref qa])) D (.lst (nw ++ [.ref it]))) (.ref it) w1 := ⟨it, rfl, by rw [upd_ne itD, upd_same, wq]⟩
                exact rl'.snoc itA
            · rintro Hf ⟨nw, sf, hD, rl⟩
              rw [show (ts.map V.ref).reverse.length = (ps.map fun t => (qa, t)).reverse.length by simp [lts], List.take_length] at rl
              have u7f := u710.trans (u11.trans sf)
              have nl : nw.length = ps.length := by
                rw [rl.len]
                simp
              have rl2 := rl.reverse
              rw [List.reverse_reverse] at rl2
              have cnt : countL (((ps.map fun t => (qa, t)) ++ W).map (·.2)) = countL ps + countL (W.map (·.2)) := by
                rw [List.map_append, countL_app, List.map_map]
                congr 2
                exact (List.map_congr_left fun _ _ => rfl).trans (List.map_id ps)
              have uc : (Tr.tree M (r' : Int) (x : Int) (e : Int) ps).count = 1 + countL ps := by simp only [Tr.count]
              have hwf : Hf wt = some (.lst ws.reverse) := (u11.trans sf) _ _ hw10
              refine ⟨wt, D, _, _, rfl, rfl, hwf, hD, ?_, countL (((ps.map fun t => (qa, t)) ++ W).map (·.2)), by omega, (ps.map fun t => (qa, t)) ++ W, nw.reverse ++ ws, _, _, _, _, _, _, _, _, _, _, _, rfl, ?_, rfl, by omega⟩
              · rw [List.length_reverse]
                refine Nat.le_of_lt (million1 ?_)
                simp only [List.length_cons] at wl cl
                omega
              · have qa6 := u7 _ _ hq5
                refine bt.tree (q := qa) (a := a) hp (same_put (s7.trans u7f) wt0) (by rw [List.reverse_reverse]; exact upd_same) (al1 _ nq1) ?_ ?_ ?_ ?_ ?_ ?_ ?_ (by omega)
                · rw [upd_ne (Ne.symm qw)]
                  exact u7f _ _ (k7 _ _ (Ne.symm qp) qa6)
                · have := u7f _ _ (k7 _ _ ap ha6)
                  rw [upd_ne (fun z => by rw [z, hwf] at this; cases this)]
                  exact this
                · rw [upd_ne pw]
                  exact u7f _ _ hp7
                · intro b o b1 b2 h
                  rw [upd_ne b1]
                  exact u7f _ _ (k7 _ _ b2 (u17 _ _ (kp1 b o b1 h)))
                · intro b h
                  by_cases eb : b = wt
                  · rw [eb, upd_same] at h
                    cases h
                  · rw [upd_ne eb] at h
                    exact al1 b (u17.free (al7 b (u7f.free h)))
                · refine rl2.mono fun v w ⟨b, e1, e2⟩ => ⟨b, e1, ?_⟩
                  rw [upd_ne (fun z => by rw [z, hwf] at e2; cases e2)]
                  exact e2
                · intro t mt
                  obtain ⟨j, hj⟩ := List.mem_iff_getElem?.mp mt
                  obtain ⟨sy, lo, hi, c1, c2, c3, c4, _⟩ := FirstP.at_ lay.gt lay.least h6 h2 xe en j _ hj
                  exact ⟨sy, lo, hi, c2, c3, c4, _, List.mem_of_getElem? h2, .inr (List.mem_of_getElem? c1)⟩
end
end Ld

set_option Elab.async false
set_option linter.all false
set_option maxRecDepth 100000
set_option maxHeartbeats 4000000
/-! The least of a list of three numbers each. -/
namespace Ld
open PySem PySem.Spec PyProof.Rows L2 Lr Lb
abbrev Tri := Int × Int × Int
def triD (a : Tri) : PyData := .tuple [.int a.1, .int a.2.1, .int a.2.2]
def tlt (a b : Tri) : Prop := a.1 < b.1 ∨ (a.1 = b.1 ∧ (a.2.1 < b.2.1 ∨ (a.2.1 = b.2.1 ∧ a.2.2 < b.2.2)))
instance (a b : Tri) : Decidable (tlt a b) := inferInstanceAs (Decidable (_ ∨ (_ ∧ (_ ∨ (_ ∧ _)))))
open PySem.W in
theorem tri_lt (a b : Tri) : dataLt (triD a) (triD b) = decide (tlt a b) := by
  obtain ⟨a1, a2, a3⟩ := a
  obtain ⟨b1, b2, b3⟩ := b
  unfold triD
  dsimp only
  rw [dataLt_tuple]
  have al : ∀ x y : Int, alike (.int x) (.int y) = true := fun x y => by simp [alike]
  have yes : ∀ x y : Int, x = y → PyData.eqv (.int x) (.int y) = true := fun x y e => by simp [PyData.eqv, e]
  have no : ∀ x y : Int, ¬ x = y → PyData.eqv (.int x) (.int y) = false := fun x y e => by simp [PyData.eqv, e]
  by_cases e : a1 = b1
  · rw [dataLt_all_yes (al _ _) (yes _ _ e)]
    by_cases e2 : a2 = b2
    · rw [dataLt_all_yes (al _ _) (yes _ _ e2)]
      by_cases e3 : a3 = b3
      · rw [dataLt_all_yes (al _ _) (yes _ _ e3)]
        rw [show lexLt itemOrd (keyToksAll []) (keyToksAll []) = false from by decide +kernel]
        refine (decide_eq_false ?_).symm
        unfold tlt
        dsimp only
        omega
      · rw [dataLt_all_no (al _ _) (no _ _ e3), dataLt_int, Bool.eq_iff_iff, decide_eq_true_eq, decide_eq_true_eq]
        unfold tlt
        dsimp only
        omega
    · rw [dataLt_all_no (al _ _) (no _ _ e2), dataLt_int, Bool.eq_iff_iff, decide_eq_true_eq, decide_eq_true_eq]
      unfold tlt
      dsimp only
      omega
  · rw [dataLt_all_no (al _ _) (no _ _ e), dataLt_int, Bool.eq_iff_iff, decide_eq_true_eq, decide_eq_true_eq]
    unfold tlt
    dsimp only
    omega
def minT (x : Tri) (xs : List Tri) : Tri := xs.foldl (fun a y => if tlt y a then y else a) x
theorem minT_data : ∀ (xs : List Tri) (x : Tri), PySem.W.minD (triD x) (xs.map triD) = triD (minT x xs)
  | [], x => rfl
  | y :: ys, x => by
    have e : (if PySem.W.dataLt (triD y) (triD x) = true then triD y else triD x) = triD (if tlt y x then y else x) := by
      rw [tri_lt]
      by_cases h : tlt y x
      · rw [if_pos h, if_pos (decide_eq_true h)]
      · rw [if_neg h, decide_eq_false h, if_neg Bool.false_ne_true]
    show (ys.map triD).foldl _ (if PySem.W.dataLt (triD y) (triD x) = true then triD y else triD x) = _
    rw [e]
    exact minT_data ys _
theorem triD_inj {a b : Tri} (h : triD a = triD b) : a = b := by
  obtain ⟨a1, a2, a3⟩ := a
  obtain ⟨b1, b2, b3⟩ := b
  unfold triD at h
  simp only [PyData.tuple.injEq, List.cons.injEq, PyData.int.injEq, and_true] at h
  rw [h.1, h.2.1, h.2.2]
theorem minT_spec : ∀ (xs : List Tri) (x : Tri), minT x xs ∈ x :: xs ∧ ∀ y ∈ x :: xs, ¬ tlt y (minT x xs)
  | [], x => ⟨List.mem_cons_self, fun y hy => by
    rw [List.mem_singleton.mp hy]
    show ¬ tlt x x
    unfold tlt
    omega⟩
  | y :: ys, x => by
    have e : minT x (y :: ys) = minT (if tlt y x then y else x) ys := rfl
    rw [e]
    obtain ⟨h1, h2⟩ := minT_spec ys (if tlt y x then y else x)
    by_cases c : tlt y x
    · rw [if_pos c] at h1 h2 ⊢
      refine ⟨List.mem_cons_of_mem _ h1, fun z hz => ?_⟩
      rcases List.mem_cons.mp hz with q | q
      · subst q
        have := h2 y List.mem_cons_self
        unfold tlt at *
        omega
      · exact h2 z q
    · rw [if_neg c] at h1 h2 ⊢
      refine ⟨?_, fun z hz => ?_⟩
      · rcases List.mem_cons.mp h1 with q | q
        · rw [q]; exact List.mem_cons_self
        · exact List.mem_cons_of_mem _ (List.mem_cons_of_mem _ q)
      · rcases List.mem_cons.mp hz with q | q
        · rw [q]; exact h2 x List.mem_cons_self
        · rcases List.mem_cons.mp q with q | q
          · subst q
            have := h2 x List.mem_cons_self
            unfold tlt at *
            omega
          · exact h2 z (List.mem_cons_of_mem _ q)
/-- the least one is the same in any order -/
theorem minT_same {x y : Tri} {xs ys : List Tri} (h : ∀ z, z ∈ x :: xs ↔ z ∈ y :: ys) : minT x xs = minT y ys := by
  obtain ⟨a1, a2⟩ := minT_spec xs x
  obtain ⟨b1, b2⟩ := minT_spec ys y
  have c1 := a2 _ ((h _).mpr b1)
  have c2 := b2 _ ((h _).mp a1)
  unfold tlt at c1 c2
  exact Prod.ext (by omega) (Prod.ext (by omega) (by omega))
theorem tris_alike (cs : List Tri) : PySem.W.AlikeAll (cs.map triD) := by
  refine ⟨fun x hx y hy => ?_, fun x hx => ?_⟩
  · obtain ⟨a, _, rfl⟩ := List.mem_map.mp hx
    obtain ⟨b, _, rfl⟩ := List.mem_map.mp hy
    simp [triD, PySem.W.alike, PySem.W.alikeAll]
  · obtain ⟨a, _, rfl⟩ := List.mem_map.mp hx
    intro z
    cases z
theorem tris_depth : ∀ cs : List Tri, PyData.depthAll (cs.map triD) ≤ 2
  | [] => by simp [PyData.depthAll]
  | x :: xs => by
    have := tris_depth xs
    simp only [List.map_cons, PyData.depthAll, triD, PyData.depth]
    omega
/-- a tuple of three numbers -/
def TriV (H : Hp) (v : V) (t : Tri) : Prop := ∃ a, v = .ref a ∧ H a = some (.tup [.int t.1, .int t.2.1, .int t.2.2])
theorem TriV.same {A B : Hp} (u : Same A B) {v : V} {t : Tri} (h : TriV A v t) : TriV B v t := let ⟨a, e, h⟩ := h; ⟨a, e, u _ _ h⟩
theorem TriV.dp {K : PySem.W.Frag} {H : Hp} {v : V} {t : Tri} (h : TriV H v t) : Dp K H v (triD t) := by
  obtain ⟨a, rfl, h⟩ := h
  exact .tup (SqT.of h) (.cons (.int _) (.cons (.int _) (.cons (.int _) .nil)))
theorem triD_shaped (t : Tri) : SeqAt.shaped (triD t) = true := by
  refine shaped_mk ?_ (by simp [triD, PyData.depth, PyData.depthAll])
  simp [triD, PyData.canLay0, PyData.canLayAll0]
section
variable {X : Cx}
/-- min(x) of a list of threes that is not empty -/
def rMin3 (K : PySem.W.Frag) : List V → Hp → VK → Prop := fun xs H Q => ∃ (a : Addr) (vs : List V) (c : Tri) (cs : List Tri), xs = [.ref a] ∧ SqL K H a vs ∧ Rel2 (TriV H) vs (c :: cs) ∧ ∀ v, TriV H v (minT c cs) → Q v H
theorem cr_min3 (calm : X.calm = true) (hu : X.A.units + 64 < cLine) : CallR X (.builtin "min") (rMin3 X.K) := by
  intro pins s σ H xs us Q I r h
  obtain ⟨a, vs, c, cs, rfl, hs, rel, q1⟩ := h
  obtain rfl := Vals.ref1 r
  obtain ⟨its, rv, hl, hz⟩ := I.list hs
  obtain ⟨as, rd⟩ := Dp.readsAll I _ _ _ (Rel2.dp (K := X.K) (fun v x h => TriV.dp h) rel) rv
  have dep := tris_depth (c :: cs)
  have al := tris_alike (c :: cs)
  rw [List.map_cons] at dep al rd
  refine PySem.W.min_list_data (A := X.A) (I.ok.hd calm) hl.isList (by simpa using rd) al (by omega) fun i v h' tk bs hv rb k => ?_
  rw [minT_data] at rb
  have hv : its[i]? = some v := by simpa using hv
  have il : i < vs.length := by
    rw [rv.length]
    exact (List.getElem?_eq_some_iff.mp hv).1
  obtain ⟨v', hv', rw'⟩ := rv.get (i := i) (x := vs[i]) (List.getElem?_eq_getElem il)
  rw [hv] at hv'
  cases hv'
  obtain ⟨d, hd, cv⟩ := rel.get (List.getElem?_eq_getElem il)
  have I2 : Inv X pins σ H { s with heap := h', toks := tk } := I.kept k
  obtain ⟨as2, r2⟩ := Dp.reads I2 (triD d) vs[i] v (TriV.dp cv) rw'
  have same := (Reads.unique r2 _ _ rb).1
  have ed := triD_inj same
  exact ⟨vs[i], H, I2, rw', q1 vs[i] (by rw [← ed]; exact cv)⟩
end
end Ld

set_option Elab.async false
set_option linter.all false
set_option maxRecDepth 100000
set_option maxHeartbeats 4000000
/-! The cost of the whole mending. -/
namespace Ld
open PySem PySem.Spec PyProof.Rows L2 Lg Lr Lb
/-- what the m-th end gives -/
def WhoS (Z : Prc) (row : List Str) (T : Nat → Nat → Ent) (N : Str) (m : Nat) (z : Tri) : Prop := ∃ x, (T 0 m).nm N = some x ∧ z = (x.1 + outsP Z (row.drop m), x.2, (m : Int))
/-- the least of all ends -/
def WhoLeast (Z : Prc) (row : List Str) (T : Nat → Nat → Ent) (N : Str) (z : Tri) : Prop := (∃ m, m ≤ row.length ∧ WhoS Z row T N m z) ∧ ∀ m y, m ≤ row.length → WhoS Z row T N m y → ¬ tlt y z
theorem WhoLeast.one {Z : Prc} {row : List Str} {T : Nat → Nat → Ent} {N : Str} {a b : Tri} (h : WhoLeast Z row T N a) (k : WhoLeast Z row T N b) : a = b := by
  obtain ⟨⟨m, h1, h2⟩, h3⟩ := h
  obtain ⟨⟨n, k1, k2⟩, k3⟩ := k
  have c1 := h3 n b k1 k2
  have c2 := k3 m a h1 h2
  unfold tlt at c1 c2
  exact Prod.ext (by omega) (Prod.ext (by omega) (by omega))
theorem who_of {Z : Prc} {row : List Str} {T : Nat → Nat → Ent} {N : Str} {c : Tri} {cs : List Tri} (h : ∀ z, z ∈ c :: cs ↔ ∃ m, m ≤ row.length ∧ WhoS Z row T N m z) : WhoLeast Z row T N (minT c cs) := by
  obtain ⟨a, b⟩ := minT_spec cs c
  exact ⟨(h _).mp a, fun m y hm hy => b y ((h y).mpr ⟨m, hm, hy⟩)⟩
theorem outs_cons {Z : Prc} {row : List Str} {m : Nat} {s : Str} (h : row[m]? = some s) : outsP Z (row.drop m) = outP Z s + outsP Z (row.drop (m + 1)) := by
  obtain ⟨l, e⟩ := List.getElem?_eq_some_iff.mp h
  rw [List.drop_eq_getElem_cons l, e]
  unfold outsP
  rw [List.map_cons, List.sum_cons]
section
variable {P : Program} {w : World} {K : PySem.W.Frag} {mg : Str → Option Value} {base : Heap}
theorem scWc : FnScope ["grammar", "prices", "row", "entries", "start", "found", "left_out", "m", "price", "size"] ["grammar", "prices", "row", "entries"] (defScope s_whole_cost) := ⟨rfl, rfl, rfl, by decide +kernel, rfl, by decide +kernel, by decide +kernel⟩
def spWc : Sp := fun vs H Q _ => ∃ (g t r f : Addr) (G : List Rule) (N : Str) (ss : List Str) (Z : Prc) (row : List Str) (F : List (List Key × V)) (T : Nat → Nat → Ent), vs = [.ref g, .ref t, .ref r, .ref f] ∧ GraA H g G ∧ G[0]? = some (N, ss) ∧ PrA H t Z ∧ PrcOk Z ∧ H r = some (.lst (row.map V.str)) ∧ row.length ≤ 60 ∧
  H f = some (.dT F) ∧ TabK H G row.length F T ∧ (∃ x, (T 0 0).nm N = some x) ∧ ∀ v H2 z, Same H H2 → WhoLeast Z row T N z → TriV H2 v z → Q v H2
theorem ok_wc {f fO : Addr} {fd fdO : FuncData} (F : Fun K "whole_cost" "whole_cost" s_whole_cost f fd)
    (GO : FnOk P w K mg base CX0 1 fO fdO ["prices", "kind"] (spPrice outP)) (kO : PySem.W.keepIn K (.ref fO) = true) (bO : Binds K fdO ["prices", "kind"] []) (gO : mg "out_price" = some (.ref fO))
    (ml : mg "len" = none) (mr : mg "range" = none) (mm : mg "min" = none) : FnOk P w K mg base CX0 2 f fd ["grammar", "prices", "row", "entries"] spWc := by
  refine F.ok scWc (fun vs H Q E h => ?_) (fun cdv A outer s H vs Q E hr h => ?_)
  · obtain ⟨g, t, r, f, G, N, ss, Z, row, F, T, rfl, _⟩ := h
    rfl
  · obtain ⟨g, t, r, f, G, N, ss, Z, row, F, T, rfl, hG, hN, hZ, ok, hrow, len, hf, tab, ⟨x0, hx0⟩, q⟩ := h
    have hu := units1 hr
    refine ⟨_, pss_cons (ps_set (i := 4) scWc.nd rfl (.inl rfl) (pe_tup (pa_cons pe_str (pa_cons (pe_ix ix_tup (pe_ix ix_list (pv 0) pe_int (fun _ _ => rfl)) pe_int (fun _ _ => rfl)) pa_nil))))
      (pss_cons (ps_set (i := 5) scWc.nd rfl (.inl rfl) (pe_lst pa_nil))
      (pss_cons (ps_set (i := 6) scWc.nd rfl (.inl rfl) pe_int)
      (pss_cons (ps_for PassesOwn.never rfl (pi_range3 rfl mr (pa_cons (pe_callB call_len_seq (by rfl) ml PySem.boot_len (pa_cons (pv 2) pa_nil)) (pa_cons (pe_un un_neg pe_int) (pa_cons (pe_un un_neg pe_int) pa_nil)))) (pg_name (i := 7) scWc.nd rfl (.inl rfl))
        (pss_cons (ps_if (pt_cmp (pc_notN (pe_dget hu (pe_dget hu (pv 3) (pe_tup (pa_cons pe_int (pa_cons (pv 7) pa_nil))) (fun _ _ => rfl)) (pv 4) (fun _ _ => rfl))) (by rfl))
          (pss_cons (ps_asg (pe_dget hu (pe_dget hu (pv 3) (pe_tup (pa_cons pe_int (pa_cons (pv 7) pa_nil))) (fun _ _ => rfl)) (pv 4) (fun _ _ => rfl)) (pg_tup rfl (pgs_cons (pg_name (i := 8) scWc.nd rfl (.inl rfl)) (pgs_cons (pg_name (i := 9) scWc.nd rfl (.inl rfl)) pgs_nil))))
          (pss_one (ps_expr (pe_bm PySem.F.plainAttrs_list PySem.F.slot_list_append PySem.F.type_list_append mt_append (pv 5) (pa_cons (pe_tup (pa_cons (pe_op op_add (pv 8) (pv 6)) (pa_cons (pv 9) (pa_cons (pv 7) pa_nil)))) pa_nil))))) pss_nil)
        (pss_one (ps_if (pt_cmpR op_gt (pv 7) pe_int (nomark _))
          (pss_one (ps_aug (i := 6) scWc.nd rfl (.inl rfl) (pe_call GO (hr.mono (by decide)) (by rfl) gO kO bO .nil pass0 (pa_cons (pv 1) (pa_cons (pe_ix ix_list (pv 2) (pe_op op_sub (pv 7) pe_int) (fun _ _ => rfl)) pa_nil))) ip_add)) pss_nil))))
      (pss_one (ps_ret (pe_callB (cr_min3 rfl (units64 hr)) (by rfl) mm (by decide +kernel) (pa_cons (pv 5) pa_nil))))))), ?_⟩
    obtain ⟨gvs, hg, gr⟩ := id hG
    obtain ⟨gv, hgv, tt, sl, rfl, htt, _⟩ : ∃ gv, gvs[0]? = some gv ∧ RuleA H gv (N, ss) := by
      have hl : 0 < gvs.length := by
        rw [gr.len]
        exact (List.getElem?_eq_some_iff.mp hN).1
      obtain ⟨r2, h2, ra⟩ := gr.get (List.getElem?_eq_getElem hl)
      rw [hN] at h2
      cases h2
      exact ⟨_, List.getElem?_eq_getElem hl, ra⟩
    refine ⟨_, rfl, g, gvs, 0, .ref tt, rfl, rfl, SqL.of hg, at_of (j := 0) rfl hgv, tt, _, 0, .str N, rfl, rfl, SqT.of htt, rfl, (by show 2 ≤ sizeLine; decide), fun st nst => ?_⟩
    have s1 : Same H (upd H st (.tup [.str "name", .str N])) := same_upd nst
    have hst : upd H st (.tup [.str "name", .str N]) st = some (.tup ((kN N).map kV)) := upd_same
    generalize upd H st (.tup [.str "name", .str N]) = H1 at s1 hst
    refine ⟨Nat.zero_le _, fun fd nfd => ?_⟩
    have s2 : Same H1 (upd H1 fd (.lst [])) := same_upd nfd
    have hfd : upd H1 fd (.lst []) fd = some (.lst []) := upd_same
    generalize upd H1 fd (.lst []) = H2 at s2 hfd
    have rg : RgC (row.length : Int) (-1) (-1) (row.length + 1) := by
      have h := RgC.neg (i := (row.length : Int)) (j := -1) (by omega) (by omega) (by omega) (by omega)
      rw [show ((row.length : Int) - -1).toNat = row.length + 1 by omega] at h
      exact h
    refine ⟨_, rfl, r, _, rfl, .inl (SqL.of (s2 _ _ (s1 _ _ hrow))), _, rfl, _, rfl, _, -1, -1, row.length + 1, rfl, by rw [List.length_map]; exact rg, ?_⟩
    rw [List.length_map]
    refine for_it (walk_rangeC (lo := (row.length : Int)) (c := -1) (n := row.length + 1)) (fun k σ H' => ∃ (lo : Int) (v7 v8 v9 : Option V) (vs : List V) (ts : List Tri), σ = [some (.ref g), some (.ref t), some (.ref r), some (.ref f), some (.ref st), some (.ref fd), some (.int lo), v7, v8, v9] ∧ lo = outsP Z (row.drop (row.length - k)) ∧ Same H1 H' ∧ H' fd = some (.lst vs) ∧
        Rel2 (TriV H') vs ts ∧ (∀ z, z ∈ ts ↔ ∃ m, row.length < m + k ∧ m ≤ row.length ∧ WhoS Z row T N m z) ∧ vs.length ≤ k)
      ⟨0, none, none, none, [], [], rfl, by rw [Nat.sub_zero, List.drop_length]; rfl, s2, hfd, True.intro, fun z => ⟨(fun m => by cases m), fun ⟨m, h1, h2, _⟩ => absurd h1 (by omega)⟩, Nat.le_refl _⟩ (fun _ _ _ _ _ => True.intro) ?_ ?_
    · rintro k x σ H' H'' hk ⟨lo, v7, v8, v9, vs, ts, rfl, elo, sH, hfd, rel, chr, vl⟩ ⟨rfl, ex⟩
      obtain ⟨m, hm⟩ : ∃ m, m + k = row.length := ⟨row.length - k, by omega⟩
      have em : (row.length : Int) + (k : Nat) * -1 = ((m : Nat) : Int) := by omega
      have ek : row.length - k = m := by omega
      have ex : x = .int ((m : Nat) : Int) := ex.trans (congrArg V.int em)
      subst ex
      rw [ek] at elo
      subst elo
      have sH0 := s1.trans sH
      obtain ⟨d, kvs, e1, e2, e3⟩ := tab.at_ 0 m (Nat.zero_le _) (by omega)
      obtain ⟨v, ev, cv⟩ := e3.nm N ⟨(N, ss), List.mem_of_getElem? hN, rfl⟩
      have gd : ∀ {A : Hp} {b : Addr}, Same H'' A → A b = some (.tup ((kS 0 m).map kV)) → DGet A f (.ref b) (some (.ref d)) := fun {A b} u hb => by
        have := DGet.t (k := kS 0 m) (u _ _ (sH0 _ _ hf)) hb
        rw [e1] at this
        exact this
      have gv : ∀ {A : Hp}, Same H'' A → DGet A d (.ref st) (some v) := fun {A} u => by
        have := DGet.t (k := kN N) (u _ _ (sH0 _ _ e2)) (u _ _ (sH _ _ hst))
        rw [ev] at this
        exact this
      refine ⟨_, rfl, _, rfl, (by show 2 ≤ sizeLine; decide), fun k1 nk1 => ?_⟩
      have u1 : Same H'' (upd H'' k1 (.tup [.int 0, .int (m : Nat)])) := same_upd nk1
      have hk1 : upd H'' k1 (.tup [.int 0, .int (m : Nat)]) k1 = some (.tup ((kS 0 m).map kV)) := upd_same
      generalize upd H'' k1 (.tup [.int 0, .int (m : Nat)]) = A1 at u1 hk1
      refine ⟨f, .ref d, rfl, gd u1 hk1, _, rfl, d, v, rfl, gv u1, ?_⟩
      cases ec : (T 0 m).nm N
      case' none =>
        rw [ec] at cv
        rw [show v = .non from cv]
        refine ⟨_, rfl, iteF ?_⟩
        have uL := u1
        have sL := sH.trans u1
        have hL := u1 _ _ hfd
        have relL := rel.mono fun v t h => TriV.same u1 h
        have chrL : ∀ z, z ∈ ts ↔ ∃ m, row.length < m + (k + 1) ∧ m ≤ row.length ∧ WhoS Z row T N m z := fun z => by
          rw [chr]
          refine ⟨fun ⟨m2, h1, h2, h3⟩ => ⟨m2, by omega, h2, h3⟩, fun ⟨m2, h1, h2, h3⟩ => ⟨m2, ?_, h2, h3⟩⟩
          by_cases z : m2 = m
          · obtain ⟨x, ex, _⟩ := h3
            rw [z, ec] at ex
            cases ex
          · omega
        have vlL : vs.length ≤ k + 1 := by omega
        clear rel chr vl hfd
        generalize A1 = AL at uL sL hL relL
        generalize vs = vsL at hL relL vlL
        generalize ts = tsL at relL chrL
      case' some c =>
        rw [ec] at cv
        obtain ⟨tc, rfl, htc⟩ := cv
        refine ⟨_, rfl, iteT ?_⟩
        refine ⟨_, rfl, _, rfl, (by show 2 ≤ sizeLine; decide), fun k2 nk2 => ?_⟩
        have u2 : Same A1 (upd A1 k2 (.tup [.int 0, .int (m : Nat)])) := same_upd nk2
        have hk2 : upd A1 k2 (.tup [.int 0, .int (m : Nat)]) k2 = some (.tup ((kS 0 m).map kV)) := upd_same
        generalize upd A1 k2 (.tup [.int 0, .int (m : Nat)]) = A2 at u2 hk2
        have u12 := u1.trans u2
        refine ⟨f, .ref d, rfl, gd u12 hk2, _, rfl, d, .ref tc, rfl, gv u12, tc, _, rfl, SqT.of (u12 _ _ (sH0 _ _ htc)), rfl, _, _, rfl, _, _, rfl, rfl, ?_⟩
        have hf2 := u12 _ _ hfd
        refine ⟨_, rfl, .inl ⟨rfl, _, SqL.of hf2⟩, _, rfl, _, rfl, _, _, rfl, rfl, _, rfl, _, rfl, (by show 3 ≤ sizeLine; decide), fun tp ntp => ?_⟩
        have u3 : Same A2 (upd A2 tp (.tup [.int (c.1 + outsP Z (row.drop m)), .int c.2, .int (m : Nat)])) := same_upd ntp
        have htp : upd A2 tp (.tup [.int (c.1 + outsP Z (row.drop m)), .int c.2, .int (m : Nat)]) tp = some (.tup [.int (c.1 + outsP Z (row.drop m)), .int c.2, .int (m : Nat)]) := upd_same
        generalize upd A2 tp (.tup [.int (c.1 + outsP Z (row.drop m)), .int c.2, .int (m : Nat)]) = A3 at u3 htp
        have u13 := u12.trans u3
        have hf3 := u3 _ _ hf2
        have nf : H1 fd = none := nfd
        refine ⟨fd, _, _, rfl, rfl, hf3, million1 (by omega), ?_⟩
        have tp_fd : tp ≠ fd := Ne.symm (ne_of_none hf2 ntp)
        have sL : Same H1 (upd A3 fd (.lst (vs ++ [.ref tp]))) := same_put (sH.trans u13) nf
        have hL : upd A3 fd (.lst (vs ++ [.ref tp])) fd = some (.lst (vs ++ [.ref tp])) := upd_same
        have tS : TupS A3 (upd A3 fd (.lst (vs ++ [.ref tp]))) := TupS.at_lst hf3
        have relL : Rel2 (TriV (upd A3 fd (.lst (vs ++ [.ref tp])))) (vs ++ [.ref tp]) (ts ++ [(c.1 + outsP Z (row.drop m), c.2, ((m : Nat) : Int))]) :=
          (rel.mono fun v t h => let ⟨a, e, h⟩ := TriV.same u13 h; ⟨a, e, tS _ _ h⟩).snoc ⟨tp, rfl, tS _ _ htp⟩
        have chrL : ∀ z, z ∈ ts ++ [(c.1 + outsP Z (row.drop m), c.2, ((m : Nat) : Int))] ↔ ∃ m, row.length < m + (k + 1) ∧ m ≤ row.length ∧ WhoS Z row T N m z := fun z => by
          rw [List.mem_append, chr, List.mem_singleton]
          constructor
          · rintro (⟨m2, h1, h2, h3⟩ | rfl)
            · exact ⟨m2, by omega, h2, h3⟩
            · exact ⟨m, by omega, by omega, c, ec, rfl⟩
          · rintro ⟨m2, h1, h2, h3⟩
            by_cases z : m2 = m
            · subst z
              obtain ⟨x, ex, e⟩ := h3
              rw [ec] at ex
              cases ex
              exact .inr e
            · exact .inl ⟨m2, by omega, h2, h3⟩
        have vlL : (vs ++ [V.ref tp]).length ≤ k + 1 := by
          rw [List.length_append, List.length_singleton]
          omega
        clear rel chr vl hfd
        generalize upd A3 fd (.lst (vs ++ [.ref tp])) = AL at sL hL relL
        generalize vs ++ [V.ref tp] = vsL at hL relL vlL
        generalize ts ++ [(c.1 + outsP Z (row.drop m), c.2, ((m : Nat) : Int))] = tsL at relL chrL
      all_goals
        have sL0 := s1.trans sL
        have ek1 : row.length - (k + 1) = m - 1 := by omega
        refine ⟨_, rfl, _, _, rfl, rfl, _, rfl, ite2 (fun c => ?_) (fun c => ?_)⟩
        · have c : (0 : Int) < ((m : Nat) : Int) := of_decide_eq_true c
          obtain ⟨sy, hsy⟩ : ∃ sy, row[m - 1]? = some sy := ⟨row[m - 1]'(by omega), List.getElem?_eq_getElem (by omega)⟩
          refine ⟨_, rfl, _, rfl, _, rfl, _, rfl, _, _, rfl, rfl, r, _, _, _, rfl, rfl, SqL.of (sL0 _ _ hrow), at_of (j := m - 1) (by omega) (by rw [List.getElem?_map, hsy]; rfl), t, Z, sy, rfl, hZ.up (Up.of_same sL0), ok, fun H4 s4 => ⟨_, _, rfl, rfl, _, _, _, _, vsL, tsL, rfl, ?_, sL.trans s4, s4 _ _ hL, relL.mono fun v t h => TriV.same s4 h, chrL, vlL⟩⟩
          rw [ek1, outs_cons hsy, show m - 1 + 1 = m by omega, Int.add_comm]
        · have c : ¬ (0 : Int) < ((m : Nat) : Int) := fun z => c (decide_eq_true z)
          refine ⟨_, _, _, _, vsL, tsL, rfl, ?_, sL, hL, relL, chrL, vlL⟩
          rw [ek1, show m - 1 = m by omega]
    · rintro σ H' ⟨lo, v7, v8, v9, vs, ts, rfl, elo, sH, hfd, rel, chr, vl⟩
      cases ts with
      | nil => exact absurd ((chr (x0.1 + outsP Z (row.drop 0), x0.2, ((0 : Nat) : Int))).mpr ⟨0, by omega, by omega, x0, hx0, rfl⟩) (by simp)
      | cons c cs =>
        refine ⟨_, rfl, fd, vs, c, cs, rfl, SqL.of hfd, rel, fun v tv => q v H' _ (s1.trans sH) (who_of fun z => ?_) tv⟩
        rw [chr]
        exact ⟨fun ⟨m, _, h2, h3⟩ => ⟨m, h2, h3⟩, fun ⟨m, h2, h3⟩ => ⟨m, by omega, h2, h3⟩⟩
end
end Ld

set_option Elab.async false
set_option linter.all false
set_option maxRecDepth 100000
set_option maxHeartbeats 4000000
/-! told_mending. -/
namespace Ld
open PySem PySem.Spec PyProof.Rows L2 Lg Lr Lb
open Tr
/-- told_mending: the three numbers of the whole cost, and the first tree over its stretch in new lists -/
def spTm : Sp := fun vs H Q _ => ∃ (g t r f : Addr) (G : List Rule) (Z : Prc) (row : List Str) (F : List (List Key × V)) (T : Nat → Nat → Ent) (N : Str) (ss : List Str), vs = [.ref g, .ref t, .ref r, .ref f] ∧ Lay H g t r f G Z row F T ∧ G[0]? = some (N, ss) ∧ (∃ x, (T 0 0).nm N = some x) ∧
  (∀ m c, m ≤ row.length → (T 0 m).nm N = some c → ∃ u, First (pbOf G Z row kn0) T N 0 m u ∧ u.count ≤ 900000) ∧
  ∀ p v u as H2 z m, Same H H2 → WhoLeast Z row T N z → m ≤ row.length → WhoS Z row T N m z → First (pbOf G Z row kn0) T N 0 m u → u.count ≤ 900000 → TrL H2 u v as → as.Nodup → (∀ a ∈ as, H a = none) → H p = none → H2 p = some (.tup [.int z.1, .int z.2.1, .int z.2.2, v]) → Q (.ref p) H2
section
variable {P : Program} {w : World} {K : PySem.W.Frag} {mg : Str → Option Value} {base : Heap}
theorem scTm : FnScope ["grammar", "prices", "row", "entries", "price", "size", "m"] ["grammar", "prices", "row", "entries"] (defScope s_told_mending) := ⟨rfl, rfl, rfl, by decide +kernel, rfl, by decide +kernel, by decide +kernel⟩
theorem ok_tm {f' fB fW1 : Addr} {fd fdB fdW1 : FuncData} (FF : Fun K "told_mending" "told_mending" s_told_mending f' fd)
    (GB : FnOk P w K mg base CX0 6 fB fdB ["grammar", "prices", "row", "name", "i", "j", "entries"] spBt) (kB : PySem.W.keepIn K (.ref fB) = true) (bB : Binds K fdB ["grammar", "prices", "row", "name", "i", "j", "entries"] []) (gB : mg "best_tree" = some (.ref fB))
    (GW1 : FnOk P w K mg base CX0 2 fW1 fdW1 ["grammar", "prices", "row", "entries"] spWc) (kW1 : PySem.W.keepIn K (.ref fW1) = true) (bW1 : Binds K fdW1 ["grammar", "prices", "row", "entries"] []) (gW1 : mg "whole_cost" = some (.ref fW1)) : FnOk P w K mg base CX0 7 f' fd ["grammar", "prices", "row", "entries"] spTm := by
  refine FF.ok (k := 6) scTm (fun vs H Q E h => ?_) (fun cdv A outer s H vs Q E hr h => ?_)
  · obtain ⟨g, t, r, f, G, Z, row, F, T, N, ss, rfl, _⟩ := h
    rfl
  · obtain ⟨g, t, r, f, G, Z, row, F, T, N, ss, rfl, lay, hN, hx, frs, q⟩ := h
    have hr2 := hr.mono (show 2 ≤ 6 by decide)
    have hr6 := hr
    refine ⟨_, pss_cons (ps_asg (pe_call GW1 hr2 (by rfl) gW1 kW1 bW1 .nil pass0 (pa_cons (pv 0) (pa_cons (pv 1) (pa_cons (pv 2) (pa_cons (pv 3) pa_nil))))) (pg_tup rfl (pgs_cons (pg_name (i := 4) scTm.nd rfl (.inl rfl)) (pgs_cons (pg_name (i := 5) scTm.nd rfl (.inl rfl)) (pgs_cons (pg_name (i := 6) scTm.nd rfl (.inl rfl)) pgs_nil)))))
      (pss_one (ps_ret (pe_tup (pa_cons (pv 4) (pa_cons (pv 5) (pa_cons (pv 6) (pa_cons (pe_call GB hr6 (by rfl) gB kB bB .nil pass0 (pa_cons (pv 0) (pa_cons (pv 1) (pa_cons (pv 2) (pa_cons (pe_ix ix_tup (pe_ix ix_list (pv 0) pe_int (fun _ _ => rfl)) pe_int (fun _ _ => rfl)) (pa_cons pe_int (pa_cons (pv 6) (pa_cons (pv 3) pa_nil)))))))) pa_nil))))))), ?_⟩
    refine ⟨_, rfl, _, rfl, _, rfl, _, rfl, g, t, r, f, G, N, ss, Z, row, F, T, rfl, lay.hG, hN, lay.hZ, lay.ok, lay.hrow, lay.len, lay.hf, lay.tab, hx, fun v H2 z s2 wl tv => ?_⟩
    obtain ⟨a, rfl, ha⟩ := tv
    obtain ⟨⟨m, mn, ws⟩, _⟩ := id wl
    obtain ⟨x, hc, ez⟩ := id ws
    have zm : z.2.2 = (m : Int) := by rw [ez]
    rw [zm] at ha
    have lay2 := lay.same s2
    obtain ⟨gvs, hg2, gr⟩ := id lay2.hG
    obtain ⟨gv, hgv, tt, sl, rfl, htt, _⟩ : ∃ gv, gvs[0]? = some gv ∧ RuleA H2 gv (N, ss) := by
      have hl : 0 < gvs.length := by
        rw [gr.len]
        exact (List.getElem?_eq_some_iff.mp hN).1
      obtain ⟨r2, h2, ra⟩ := gr.get (List.getElem?_eq_getElem hl)
      rw [hN] at h2
      cases h2
      exact ⟨_, List.getElem?_eq_getElem hl, ra⟩
    refine ⟨a, _, rfl, SqT.of ha, rfl, _, _, rfl, _, _, rfl, _, _, rfl, rfl, ?_⟩
    refine ⟨_, rfl, _, rfl, _, rfl, _, rfl, _, rfl, _, rfl, _, rfl, g, _, _, _, rfl, rfl, SqL.of hg2, at_of (j := 0) rfl hgv, tt, _, 0, _, rfl, rfl, SqT.of htt, rfl, _, rfl, _, rfl, g, t, r, f, G, Z, row, F, T, N, 0, m, rfl, lay2, ⟨_, List.mem_of_getElem? hN, rfl⟩, Nat.zero_le _, mn, (fun e _ _ => by rw [hc] at e; cases e), fun c hc' => ?_⟩
    obtain ⟨u, fu, few⟩ := frs m c mn hc'
    refine ⟨u, fu, few, fun v as H3 s3 tl nd fr => ⟨(by show 4 ≤ sizeLine; decide), fun p np => ?_⟩⟩
    have s4 : Same H3 (upd H3 p (.tup [.int z.1, .int z.2.1, .int (m : Nat), v])) := same_upd np
    refine q p v u as _ z m (s2.trans (s3.trans s4)) wl mn ws fu few (tl.same s4) nd (fun b hb => s2.free (fr b hb)) ((s2.trans s3).free np) ?_
    rw [upd_same, zm]
end
end Ld

set_option Elab.async false
set_option linter.all false
set_option maxRecDepth 100000
set_option maxHeartbeats 4000000
/-! a != b and a == b of data deeper than 64. -/
namespace Ld
open PySem PySem.Spec PyProof.Rows L2 Lg Lr
theorem units199 {k : Nat} {A : Around} (h : Room k A) : A.units + 199 < cLine := by
  have := h.un
  omega
section
variable {X : Cx}
def rNeW (K : PySem.W.Frag) : R2 := fun x y H Q => ∃ d e, Dp K H x d ∧ Dp K H y e ∧ d.canLay0 = true ∧ e.canLay0 = true ∧ d.depth ≤ 199 ∧ Q (.bl (!PyData.eqv d e)) H
def rEqW (K : PySem.W.Frag) : R2 := fun x y H Q => ∃ d e, Dp K H x d ∧ Dp K H y e ∧ d.canLay0 = true ∧ e.canLay0 = true ∧ d.depth ≤ 199 ∧ Q (.bl (PyData.eqv d e)) H
theorem op_neW (hu : X.A.units + 199 < cLine) : OpR X (compareOp .NotEq) (rNeW X.K) := by
  intro pins s σ H x y v u Q I rx ry h
  obtain ⟨d, e, hd, he, sd, se, dp, q⟩ := h
  obtain ⟨as, r1⟩ := Dp.reads I d x v hd rx
  obtain ⟨bs, r2⟩ := Dp.reads I e y u he ry
  exact SeqAt.compareNe_reads r1 r2 sd se (by have := Nat.min_le_left d.depth e.depth; omega) ⟨.bl _, H, I, rfl, q⟩
theorem op_eqW (hu : X.A.units + 199 < cLine) : OpR X (compareOp .Eq) (rEqW X.K) := by
  intro pins s σ H x y v u Q I rx ry h
  obtain ⟨d, e, hd, he, sd, se, dp, q⟩ := h
  obtain ⟨as, r1⟩ := Dp.reads I d x v hd rx
  obtain ⟨bs, r2⟩ := Dp.reads I e y u he ry
  exact SeqAt.compareEq_reads r1 r2 sd se (by have := Nat.min_le_left d.depth e.depth; omega) ⟨.bl _, H, I, rfl, q⟩
theorem eqv_lay {d : PyData} (h : d.canLay0 = true) : PyData.eqv d d = true := SeqAt.eqv_refl d h
end
end Ld

set_option Elab.async false
set_option linter.all false
set_option maxRecDepth 100000
set_option maxHeartbeats 4000000
/-! Tables of rows of up to 18 kinds over at most five rules, as data. -/
namespace Ld
open PySem PySem.Spec PyProof.Rows L2 Lg Lr Lb
theorem int_fineW {i : Int} (h0 : 0 ≤ i) (h1 : i < 10 ^ 70) : Fine (.int i) 70 1 := by
  refine ⟨?_, ?_, by simp [PyData.depth]⟩
  · rw [PyData.showable]
    have a : i.natAbs ≤ 10 ^ 70 := by omega
    refine decide_eq_true ?_
    have : i.natAbs.log2 ≤ (10 ^ 70 : Nat).log2 := by
      rcases Nat.eq_zero_or_pos i.natAbs with z | z
      · rw [z]
        exact Nat.zero_le _
      · exact (Nat.le_log2 (by decide)).mpr (Nat.le_trans (Nat.log2_self_le (Nat.ne_of_gt z)) a)
    have e : (10 ^ 70 : Nat).log2 ≤ 300 := by decide +kernel
    omega
  · rw [wt]
    exact toString_length_le h0 (by decide) h1
theorem cost_fineW {o : Option Cost} (h : ∀ c, o = some c → 0 ≤ c.1 ∧ c.1 < 10 ^ 70 ∧ 0 ≤ c.2 ∧ c.2 < 10 ^ 70) : Fine (oD o) 160 3 := by
  cases o with
  | none => exact ⟨rfl, by show 4 ≤ 160; decide, by show PyData.depth .none ≤ 3; simp [PyData.depth]⟩
  | some c =>
    obtain ⟨a, b, c', d⟩ := h c rfl
    have f1 := int_fineW a b
    have f2 := int_fineW c' d
    refine ⟨?_, ?_, ?_⟩
    · show (cD c).showable = true
      unfold cD
      rw [PyData.showable, PyData.showableAll, PyData.showableAll, PyData.showableAll, f1.sh, f2.sh]
      rfl
    · show wt (cD c) ≤ 160
      have e : wt (cD c) = wt (.int c.1) + 2 + (wt (.int c.2) + 2 + 0) + 4 := by
        unfold cD
        simp only [wt, wtAll]
      have := f1.wt
      have := f2.wt
      omega
    · show (cD c).depth ≤ 3
      have := f1.dp
      have := f2.dp
      unfold cD
      simp only [PyData.depth, PyData.depthAll] at *
      omega
/-- costs of an entry are not large -/
def SmallW (e : Ent) : Prop := (∀ N c, e.nm N = some c → 0 ≤ c.1 ∧ c.1 < 10 ^ 70 ∧ 0 ≤ c.2 ∧ c.2 < 10 ^ 70) ∧ ∀ r d c, e.rs r d = some c → 0 ≤ c.1 ∧ c.1 < 10 ^ 70 ∧ 0 ≤ c.2 ∧ c.2 < 10 ^ 70
theorem EntK.fewW {H : Hp} {G : List Rule} (gt : GramT G) (g5 : G.length ≤ 5) {kvs : List (List Key × V)} {e : Ent} (h : EntK H G kvs e) : kvs.length ≤ 40 := by
  have := nodup_le2 (m := N4t.map kN ++ (List.range 6).flatMap fun r => (List.range 4).map fun d => kR r d) h.nd fun x hx => by
    obtain ⟨p, hp, rfl⟩ := List.mem_map.mp hx
    rcases h.ks p hp with ⟨N, ⟨q, hq, rfl⟩, e1⟩ | ⟨r, d, N, ss, h1, h2, e1⟩
    · rw [e1]
      exact List.mem_append_left _ (List.mem_map.mpr ⟨_, (gt.good q hq).1, rfl⟩)
    · rw [e1]
      have rl := (List.getElem?_eq_some_iff.mp h1).1
      have dl := (gt.good _ (List.mem_of_getElem? h1)).2.1
      dsimp only at dl
      exact List.mem_append_right _ (List.mem_flatMap.mpr ⟨r, List.mem_range.mpr (by omega), List.mem_map.mpr ⟨d, List.mem_range.mpr (by omega), rfl⟩⟩)
  rw [List.length_map] at this
  exact Nat.le_trans this (by decide)
/-- the entries of a stretch as data -/
theorem EntK.dataW {K : PySem.W.Frag} {H : Hp} {G : List Rule} (gt : GramT G) {kvs : List (List Key × V)} {e : Ent} (h : EntK H G kvs e) (sm : SmallW e) (g5 : G.length ≤ 5) {d : Addr} (hd : H d = some (.dT kvs)) :
    ∃ D, (∀ H2, Same H H2 → Dq K H2 (.ref d) D) ∧ Fine D 10000 5 := by
  have one : ∀ p ∈ kvs, ∃ x, (∀ H2, Same H H2 → Dq K H2 p.2 x) ∧ Fine x 160 3 := fun p hp => by
    have v := valV_at2 h.nd hp
    rcases h.ks p hp with ⟨N, hN, e1⟩ | ⟨r, d, N, ss, h1, h2, e1⟩
    · obtain ⟨u, e2, c⟩ := h.nm N hN
      rw [e1, e2] at v
      cases v
      exact ⟨oD (e.nm N), fun H2 s => .dp (c.up (Up.of_same s)).oD, cost_fineW fun c hc => sm.1 N c hc⟩
    · obtain ⟨u, e2, c⟩ := h.rs r d N ss h1 h2
      rw [e1, e2] at v
      cases v
      exact ⟨oD (e.rs r d), fun H2 s => .dp (c.up (Up.of_same s)).oD, cost_fineW fun c hc => sm.2 r d c hc⟩
  obtain ⟨ds, h1, h2, h3⟩ := dqT_all one
  have few := h.fewW gt g5
  have f := dict_fine (ds := ds) (u := 80) (v := 160) (k := 3) (n := 40) (fun x hx => by
    obtain ⟨p, hp, e1, e2⟩ := h3 x hx
    refine ⟨?_, e2⟩
    rw [e1]
    rcases h.ks p hp with ⟨N, ⟨q, hq, eq⟩, e1⟩ | ⟨r, d, N, ss, h1, h2, e1⟩
    · rw [e1]
      have f := kN_fine (N := N) (by rw [← eq]; exact (gt.good q hq).1)
      exact ⟨f.sh, by have := f.wt; omega, f.dp⟩
    · rw [e1]
      have g := gt.good _ (List.mem_of_getElem? h1)
      have rl := (List.getElem?_eq_some_iff.mp h1).1
      have := gt.few
      exact kR_fine (by omega) (by have := g.2.1; dsimp only at this; omega)) (by omega)
  exact ⟨.dict ds, fun H2 s => .dT (s _ _ hd) (h1 H2 s), f.sh, by have := f.wt; omega, f.dp⟩
theorem table_smallW {G : List Rule} (gt : GramT G) {Z : Prc} (ok : PrcOk Z) {row : List Str} (len : row.length ≤ 18) {i j : Nat} (ij : i ≤ j) (jn : j ≤ row.length) {e : Ent} (h : LeastAt (pbOf G Z row kn0) e i j) : SmallW e := by
  have pok : PbOk (pbOf G Z row kn0) := pbOf_ok ok fun _ _ _ h => by cases h
  obtain ⟨T, hT⟩ := tab_ex pok
  have hL : ∀ k a b, (pbOf G Z row kn0).leaf k a b ≤ 19000 := fun k a b => by
    have := (leafP_in ok row k a b).2
    show leafP Z row k a b ≤ 19000
    have : (1000 : Int) * (row.length + 1) ≤ 1000 * 19 := Int.mul_le_mul_of_nonneg_left (by omega) (by decide)
    omega
  have few : ∀ r ∈ (pbOf G Z row kn0).G, r.2.length ≤ 3 := fun r hr => (gt.good r hr).2.1
  have cover : ∀ (r : Nat) N ss, (pbOf G Z row kn0).G[r]? = some (N, ss) → N ∈ N4t := fun r N ss h => (gt.good _ (List.mem_of_getElem? h)).1
  have ee : e = T i j := ent_agree h (hT i j)
  have b7 : bnd 19000 20 < 10 ^ 70 := by decide +kernel
  have b6 : bnd 19000 19 ≤ bnd 19000 20 := bnd_up (by decide) 19 1
  subst ee
  refine ⟨fun N c hc => ?_, fun r d c hc => ?_⟩
  · have p := TreeC.pos pok ((hT i j).sound.nm N c hc)
    have b := names_bound pok (fun _ _ => rfl) hT (L := 19000) (by decide) hL few cover (by decide) 18 i j ij (by omega) N c hc
    have b : c.1 ≤ bnd 19000 19 ∧ c.2 ≤ bnd 19000 19 := b
    omega
  · have p := RestC.pos pok ((hT i j).sound.rs r d c hc)
    have b := rests_bound pok (fun _ _ => rfl) hT (L := 19000) (by decide) hL few cover (by decide) 18 i j ij (by omega) r d c hc
    have b : c.1 ≤ bnd 19000 20 ∧ c.2 ≤ bnd 19000 20 := b
    omega
theorem tab_lenW {H : Hp} {G : List Rule} {n : Nat} {F : List (List Key × V)} {T : Nat → Nat → Ent} (h : TabK H G n F T) (n5 : n ≤ 18) : F.length ≤ 361 := by
  have := nodup_le2 (m := (List.range 19).flatMap fun i => (List.range 19).map fun j => kS i j) h.nd fun x hx => by
    obtain ⟨p, hp, rfl⟩ := List.mem_map.mp hx
    obtain ⟨i, j, h1, h2, e⟩ := h.ks p hp
    rw [e]
    exact List.mem_flatMap.mpr ⟨i, List.mem_range.mpr (by omega), List.mem_map.mpr ⟨j, List.mem_range.mpr (by omega), rfl⟩⟩
  rw [List.length_map] at this
  exact Nat.le_trans this (by decide)
/-- a dict of entries of such stretches as data -/
theorem tab_dataW {K : PySem.W.Frag} {H : Hp} {G : List Rule} (gt : GramT G) {F : List (List Key × V)} (g5 : G.length ≤ 5) (few : F.length ≤ 361) (h : ∀ p ∈ F, ∃ (i j : Nat) (d : Addr) (kvs : List (List Key × V)) (e : Ent), p = (kS i j, V.ref d) ∧ i ≤ 60 ∧ j ≤ 60 ∧ H d = some (.dT kvs) ∧ EntK H G kvs e ∧ SmallW e) {f : Addr} (hf : H f = some (.dT F)) :
    ∃ D, (∀ H2, Same H H2 → Dq K H2 (.ref f) D) ∧ D.hasDict = true ∧ Fine D 8000000 8 := by
  obtain ⟨ds, h1, h2, h3⟩ := dqT_all (K := K) (H := H) (R := fun D => Fine D 10000 5) (F := F) fun p hp => by
    obtain ⟨i, j, d, kvs, e, rfl, _, _, hd, ek, sm⟩ := h p hp
    exact ek.dataW gt sm g5 hd
  have f := dict_fine (ds := ds) (u := 80) (v := 10000) (k := 6) (n := 361) (fun x hx => by
    obtain ⟨p, hp, e1, e2⟩ := h3 x hx
    refine ⟨?_, e2.sh, e2.wt, by have := e2.dp; omega⟩
    rw [e1]
    obtain ⟨i, j, d, kvs, e, rfl, i6, j6, _⟩ := h p hp
    exact kS_fine i6 j6) (by omega)
  exact ⟨.dict ds, fun H2 s => .dT (s _ _ hf) (h1 H2 s), rfl, f.sh, by have := f.wt; omega, f.dp⟩
end Ld

set_option Elab.async false
set_option linter.all false
set_option maxRecDepth 100000
set_option maxHeartbeats 8000000
/-! The law. -/
namespace Ld
open PySem PySem.Spec PyProof.Rows L2 Lg Lr Lb
open Tr
theorem own_tree {G : List Rule} (gt : GramT G) {Z : Prc} {row : List Str} {N : Str} {ss : List Str} (h : G[0]? = some (N, ss)) : ∃ c, TreeC (pbOf G Z row kn0) N 0 0 c := by
  obtain ⟨q, hq, eq, kinds⟩ := gt.own _ (List.mem_of_getElem? h)
  obtain ⟨r, hr⟩ := List.mem_iff_getElem?.mp hq
  have hr : G[r]? = some (N, q.2) := by
    rw [hr]
    exact congrArg some (Prod.ext eq rfl)
  have down : ∀ k d, d + k = q.2.length → ∃ c, RestC (pbOf G Z row kn0) r d 0 0 c := by
    intro k
    induction k with
    | zero => exact fun d e => ⟨_, .nil rfl hr (by omega)⟩
    | succ k ih =>
      intro d e
      obtain ⟨c, hc⟩ := ih (d + 1) (by omega)
      have hs : q.2[d]? = some (q.2[d]'(by omega)) := List.getElem?_eq_getElem (by omega)
      exact ⟨_, .leaf rfl hr hs (p3_low _ (kinds _ (List.getElem_mem _))) (Nat.le_refl 0) (Nat.le_refl 0) hc⟩
  obtain ⟨c, hc⟩ := down q.2.length 0 (by omega)
  exact ⟨_, .mk rfl hr hc⟩
def five : List Str := ["A", "BB", "C", "OTHER", "A"]
theorem five_in : ∀ s ∈ five, s ∈ P4 := by decide +kernel
section
variable {P : Program} {w : World} {K : PySem.W.Frag} {mg : Str → Option Value} {base : Heap}
theorem scL : FnScope ["script", "draws", "grammar", "prices", "row", "found", "kept", "rows", "m", "cost", "price", "size", "told", "due", "k", "kind"] ["script"] (defScope sLaw) := ⟨rfl, rfl, rfl, by decide +kernel, rfl, by decide +kernel, by decide +kernel⟩
def spLaw (K : PySem.W.Frag) : Sp := fun vs H Q _ => ∃ (a : Addr) (ns : List Int), vs = [.ref a] ∧ SqL K H a (ns.map V.int) ∧ ns.length ≤ 63 ∧ ∀ H', Q (.bl true) H'
theorem ok_law {f fD fG fP fR fT fA fFI fLO fME fMP fTM : Addr} {fd fdD fdG fdP fdR fdT fdA fdFI fdLO fdME fdMP fdTM : FuncData} (F : Fun K "law" "law" sLaw f fd)
    (GA : FnOk P w K mg base CX0 1 fA fdA ["draws", "k", "many"] (spAt K)) (kA : PySem.W.keepIn K (.ref fA) = true) (bA : Binds K fdA ["draws", "k", "many"] []) (gA : mg "_law_at" = some (.ref fA))
    (GD : FnOk P w K mg base CX0 1 fD fdD ["script"] (spDraws K)) (kD : PySem.W.keepIn K (.ref fD) = true) (bD : Binds K fdD ["script"] []) (gD : mg "_law_draws" = some (.ref fD))
    (GFI : FnOk P w K mg base CX0 195 fFI fdFI ["grammar", "prices", "row", "found", "symbol", "i", "j"] (spFiF 96)) (kFI : PySem.W.keepIn K (.ref fFI) = true) (bFI : Binds K fdFI ["grammar", "prices", "row", "found", "symbol", "i", "j"] []) (gFI : mg "_law_first" = some (.ref fFI))
    (GG : FnOk P w K mg base CX0 2 fG fdG ["draws", "first"] (spGramT K)) (kG : PySem.W.keepIn K (.ref fG) = true) (bG : Binds K fdG ["draws", "first"] []) (gG : mg "_law_grammar" = some (.ref fG))
    (GLO : FnOk P w K mg base CX0 1 fLO fdLO ["prices", "kind"] (spPrice outP)) (kLO : PySem.W.keepIn K (.ref fLO) = true) (bLO : Binds K fdLO ["prices", "kind"] []) (gLO : mg "_law_out" = some (.ref fLO))
    (GP : FnOk P w K mg base CX0 2 fP fdP ["draws", "first"] (spPrices K)) (kP : PySem.W.keepIn K (.ref fP) = true) (bP : Binds K fdP ["draws", "first"] []) (gP : mg "_law_prices" = some (.ref fP))
    (GR : FnOk P w K mg base CX0 2 fR fdR ["draws", "first", "most"] (spRow K)) (kR : PySem.W.keepIn K (.ref fR) = true) (bR : Binds K fdR ["draws", "first", "most"] []) (gR : mg "_law_row" = some (.ref fR))
    (GT : FnOk P w K mg base CX0 5 fT fdT ["grammar", "prices", "row"] spTable) (kT : PySem.W.keepIn K (.ref fT) = true) (bT : Binds K fdT ["grammar", "prices", "row"] []) (gT : mg "_law_table" = some (.ref fT))
    (GME : FnOk P w K mg base CX0 3 fME fdME ["row", "m", "tree"] spMs) (kME : PySem.W.keepIn K (.ref fME) = true) (bME : Binds K fdME ["row", "m", "tree"] []) (gME : mg "mends" = some (.ref fME))
    (GMP : FnOk P w K mg base CX0 3 fMP fdMP ["prices", "row", "found"] spMc) (kMP : PySem.W.keepIn K (.ref fMP) = true) (bMP : Binds K fdMP ["prices", "row", "found"] []) (gMP : mg "mends_price" = some (.ref fMP))
    (GTM : FnOk P w K mg base CX0 7 fTM fdTM ["grammar", "prices", "row", "entries"] spTm) (kTM : PySem.W.keepIn K (.ref fTM) = true) (bTM : Binds K fdTM ["grammar", "prices", "row", "entries"] []) (gTM : mg "told_mending" = some (.ref fTM))
    (m_int : mg "int" = none) (mis : mg "isinstance" = none) (ml : mg "len" = none) (m_min : mg "min" = none) (mr : mg "range" = none) (m_repr : mg "repr" = none) (m_sum : mg "sum" = none) (m_tuple : mg "tuple" = none) : Top P w K mg base CX0 f fd ["script"] (spLaw K) := by
  refine top_ok F scL (k := 195) ⟨rfl, by decide, by decide⟩ (fun vs H Q E h => ?_) (fun cdv s H vs Q E hr h => ?_)
  · obtain ⟨a, ns, rfl, _⟩ := h
    rfl
  · obtain ⟨a, ns, rfl, hS, hlen, q⟩ := h
    have hu := units1 hr
    have hr1 : Room 1 (callerA.deeper (envOfC "law" (defScope sLaw) s.heap.objs.size f cdv)) := hr.mono (by decide)
    have hr2 : Room 2 (callerA.deeper (envOfC "law" (defScope sLaw) s.heap.objs.size f cdv)) := hr.mono (by decide)
    have hr3 : Room 3 (callerA.deeper (envOfC "law" (defScope sLaw) s.heap.objs.size f cdv)) := hr.mono (by decide)
    have hr5 : Room 5 (callerA.deeper (envOfC "law" (defScope sLaw) s.heap.objs.size f cdv)) := hr.mono (by decide)
    have hr7 : Room 7 (callerA.deeper (envOfC "law" (defScope sLaw) s.heap.objs.size f cdv)) := hr.mono (by decide)
    have hr195 := hr
    refine ⟨_, pss_cons (ps_set (i := 1) scL.nd rfl (.inr rfl) (pe_call GD hr1 (by rfl) gD kD bD .nil pass0 (pa_cons (pv 0) pa_nil)))
      (pss_cons (ps_set (i := 2) scL.nd rfl (.inl rfl) (pe_call GG hr2 (by rfl) gG kG bG .nil pass0 (pa_cons (pv 1) (pa_cons pe_int pa_nil))))
      (pss_cons (ps_set (i := 3) scL.nd rfl (.inr rfl) (pe_call GP hr2 (by rfl) gP kP bP .nil pass0 (pa_cons (pv 1) (pa_cons pe_int pa_nil))))
      (pss_cons (ps_set (i := 4) scL.nd rfl (.inl rfl) (pe_call GR hr2 (by rfl) gR kR bR .nil pass0 (pa_cons (pv 1) (pa_cons pe_int (pa_cons pe_int pa_nil)))))
      (pss_cons (ps_if (PW.pt (pw_and (pt_cmpR op_eq (pe_call GA hr1 (by rfl) gA kA bA .nil pass0 (pa_cons (pv 1) (pa_cons pe_int (pa_cons pe_int pa_nil)))) pe_int (nomark _)) (pw_and1 (pt_cmpR op_lt (pe_callB call_len_seq (by rfl) ml PySem.boot_len (pa_cons (pv 2) pa_nil)) pe_int (nomark _))))) (pss_one (ps_setLc (i := 4) (own := [("k", 14)]) (g := (gName 14)) (by rfl) scL.nd rfl rfl (sw_true rfl rfl rfl (by decide +kernel)) (pi_range1 rfl mr (pa_cons pe_int pa_nil)) (blkOk_by (N := ["script", "draws", "grammar", "prices", "row", "found", "kept", "rows", "m", "cost", "price", "size", "told", "due", "k", "kind"]) (sc := defScope s_law) (by decide +kernel)) (fun _ _ _ _ _ => (pg_name (i := 14) scL.nd rfl (Or.inl rfl))) (fun _ _ _ _ _ => pts_nil) (fun _ _ _ _ _ => (pe_ix (r := rIxL K) ix_list (pe_lst (pa_cons pe_str (pa_cons pe_str (pa_cons pe_str (pa_cons pe_str (pa_cons pe_str pa_nil)))))) (pe_op op_mod (pe_callTy call_int1 (by rfl) m_int (by decide +kernel) (pa_cons (pe_op op_fdiv (pe_call GA hr1 (by rfl) gA kA bA .nil pass0 (pa_cons (pv 1) (pa_cons (pe_op op_add pe_int (pe_op op_mod (pe_callTy call_int1 (by rfl) m_int (by decide +kernel) (pa_cons (pv 14) pa_nil)) pe_int)) (pa_cons pe_int pa_nil)))) (pe_op op_add pe_int (pv 14))) pa_nil)) pe_int) (fun _ _ => rfl)))))
      pss_nil)
      (pss_cons (ps_set (i := 5) scL.nd rfl (.inl rfl) (pe_call GT hr5 (by rfl) gT kT bT .nil pass0 (pa_cons (pv 2) (pa_cons (pv 3) (pa_cons (pv 4) pa_nil)))))
      (pss_cons (ps_set (i := 6) scL.nd rfl (.inl rfl) (pe_callB (call_reprQ rfl (units66 hr)) (by rfl) m_repr (by decide +kernel) (pa_cons (pv 5) pa_nil)))
      (pss_cons (ps_set (i := 7) scL.nd rfl (.inl rfl) (pe_lst pa_nil))
      (pss_cons (ps_for PassesOwn.never rfl (pi_range1 rfl mr (pa_cons (pe_op op_add (pe_callB call_len_seq (by rfl) ml PySem.boot_len (pa_cons (pv 4) pa_nil)) pe_int) pa_nil)) (pg_name (i := 8) scL.nd rfl (.inl rfl))
      (pss_cons (ps_set (i := 9) scL.nd rfl (.inl rfl) (pe_dget hu (pe_dget hu (pv 5) (pe_tup (pa_cons pe_int (pa_cons (pv 8) pa_nil))) (fun _ _ => rfl)) (pe_tup (pa_cons pe_str (pa_cons (pe_ix ix_tup (pe_ix ix_list (pv 2) pe_int (fun _ _ => rfl)) pe_int (fun _ _ => rfl)) pa_nil))) (fun _ _ => rfl)))
        (pss_one (ps_if (pt_cmp (pc_notN (pv 9)) (by rfl)) (pss_one (ps_expr (pe_bm PySem.F.plainAttrs_list PySem.F.slot_list_append PySem.F.type_list_append mt_append (pv 7) (pa_cons (pe_tup (pa_cons (pe_op op_add (pe_ix ix_tup (pv 9) pe_int (fun _ _ => rfl)) (pe_callB (cr_sum rfl) (by rfl) m_sum (by decide +kernel) (pa_cons (pe_lc (own := [("kind", 15)]) (g := (gName 15)) rfl scL.nd (pi_list (pe_slice sl_list (pv 4) (po_some (pv 8)) po_none)) (blkOk_by (N := ["script", "draws", "grammar", "prices", "row", "found", "kept", "rows", "m", "cost", "price", "size", "told", "due", "k", "kind"]) (sc := defScope s_law) (by decide +kernel)) (fun _ _ _ _ _ => (pg_name (i := 15) scL.nd rfl (Or.inl rfl))) (fun _ _ _ _ _ => pts_nil) (fun _ _ _ _ _ => (pe_call GLO hr1 (by rfl) gLO kLO bLO .nil pass0 (pa_cons (pv 3) (pa_cons (pv 15) pa_nil))))) pa_nil))) (pa_cons (pe_ix ix_tup (pv 9) pe_int (fun _ _ => rfl)) (pa_cons (pv 8) pa_nil)))) pa_nil))))
        pss_nil))))
      (pss_cons (ps_asg (pe_callB (cr_min3 rfl (units64 hr)) (by rfl) m_min (by decide +kernel) (pa_cons (pv 7) pa_nil)) (pg_tup rfl (pgs_cons (pg_name (i := 10) scL.nd rfl (.inl rfl)) (pgs_cons (pg_name (i := 11) scL.nd rfl (.inl rfl)) (pgs_cons (pg_name (i := 8) scL.nd rfl (.inl rfl)) pgs_nil)))))
      (pss_cons (ps_set (i := 12) scL.nd rfl (.inl rfl) (pe_call GTM hr7 (by rfl) gTM kTM bTM .nil pass0 (pa_cons (pv 2) (pa_cons (pv 3) (pa_cons (pv 4) (pa_cons (pv 5) pa_nil))))))
      (pss_cons (ps_set (i := 13) scL.nd rfl (.inl rfl) (pe_tup (pa_cons (pv 10) (pa_cons (pv 11) (pa_cons (pv 8) (pa_cons (pe_call GFI hr195 (by rfl) gFI kFI bFI .nil pass0 (pa_cons (pv 2) (pa_cons (pv 3) (pa_cons (pv 4) (pa_cons (pv 5) (pa_cons (pe_ix ix_tup (pe_ix ix_list (pv 2) pe_int (fun _ _ => rfl)) pe_int (fun _ _ => rfl)) (pa_cons pe_int (pa_cons (pv 8) pa_nil)))))))) pa_nil))))))
      (pss_cons (ps_if (PW.pt (pw_or (pt_not (pt_val (pe_callB call_isi (by rfl) mis (by decide +kernel) (pa_cons (pv 12) (pa_cons (pe_bltn (v := .ty "tuple") (by rfl) m_tuple (by decide +kernel) rfl) pa_nil))))) (pw_or (pt_cmpR (op_neW (units199 hr)) (pv 12) (pv 13) (nomark _)) (pw_or1 (pt_cmpR op_ne (pe_callB (call_reprQ rfl (units66 hr)) (by rfl) m_repr (by decide +kernel) (pa_cons (pv 5) pa_nil)) (pv 6) (nomark _)))))) (pss_one (ps_ret pe_bl))
      pss_nil)
      (pss_one (ps_ret (pe_cmpR op_eq (pe_call GMP hr3 (by rfl) gMP kMP bMP .nil pass0 (pa_cons (pv 3) (pa_cons (pv 4) (pa_cons (pe_call GME hr3 (by rfl) gME kME bME .nil pass0 (pa_cons (pv 4) (pa_cons (pv 8) (pa_cons (pe_ix ix_tup (pv 12) pe_int (fun _ _ => rfl)) pa_nil)))) pa_nil)))) (pv 10) (nomark _)))))))))))))))), ?_⟩
    refine ⟨_, rfl, a, ns, rfl, hS, hlen, fun o no => ?_⟩
    have ho1 : upd H o (.lst ((drawsOf ns).map V.int)) o = some (.lst ((drawsOf ns).map V.int)) := upd_same
    generalize upd H o (.lst ((drawsOf ns).map V.int)) = H1 at ho1
    generalize drawsOf ns = ds at ho1
    refine ⟨_, rfl, o, ds, 0, rfl, ho1, by decide, fun g H2 G s2 gt ng hg => ?_⟩
    have hG2 : GraA H2 g G := hg.up (Up.of_same news_same)
    refine ⟨_, rfl, o, ds, 14, rfl, s2 _ _ ho1, by decide, fun t H3 Z s3 nt ok hZ => ?_⟩
    have hZ3 : PrA H3 t Z := hZ.up (Up.of_same news_same)
    have hG3 := hG2.up (Up.of_same s3)
    have ho3 := s3 _ _ (s2 _ _ ho1)
    refine ⟨_, rfl, o, ds, 28, 5, rfl, ho3, by decide, by decide, fun r H4 row s4 nr hrow lrow r4 => ?_⟩
    have ho4 := s4 _ _ ho3
    have l18 : row.length ≤ 18 := by omega
    have g9 : 5 < row.length → G.length ≤ 5 := fun h => by omega
    clear lrow
    obtain ⟨gv4, hg4, gr4⟩ := id (hG3.up (Up.of_same s4))
    refine ⟨_, rfl, o, ds, 38, 16, rfl, SqL.of ho4, by decide, by decide, rfl, _, rfl, ?_⟩
    refine ite2 (fun c1 => ⟨_, rfl, g, _, rfl, .inl (SqL.of hg4), _, _, rfl, rfl, _, rfl, ite2 (fun c2 => ?A) (fun c2 => ?B)⟩) (fun c1 => ?C)
    case' A =>
      have gl : G.length ≤ 5 := by
        have h1 := of_decide_eq_true c2
        rw [gr4.len] at h1
        omega
      refine ⟨18, rfl, by decide, by decide, fun r nr => lc_range (lo := 0) (n := (18 : Int).toNat) (fun j H' => ∃ rr : List Str, Same H4 H' ∧ H' r = some (.lst (rr.map V.str)) ∧ rr.length = j ∧ ∀ k ∈ rr, k ∈ P4) ⟨[], same_upd nr, upd_same, rfl, fun _ h => nomatch h⟩ ?A1 ?A2⟩
      case A1 =>
        rintro j H5 hj ⟨rr, s5, hd5, lj, sk⟩
        rw [Int.zero_add]
        refine ⟨rfl, (by show 5 ≤ sizeLine; decide), fun kp nkp => ?_⟩
        have u1 : Same H5 (upd H5 kp (.lst (five.map V.str))) := same_upd nkp
        have hk : upd H5 kp (.lst (five.map V.str)) kp = some (.lst (five.map V.str)) := upd_same
        have m0 := Int.emod_nonneg (j : Int) (show (9 : Int) ≠ 0 by decide)
        have q0 := Int.emod_nonneg (atD ds (39 + (j : Int) % 9) 60000 / (1 + (j : Int))) (show (5 : Int) ≠ 0 by decide)
        have q1 := Int.emod_lt_of_pos (atD ds (39 + (j : Int) % 9) 60000 / (1 + (j : Int))) (show (0 : Int) < 5 by decide)
        obtain ⟨sy, gsy, msy⟩ := pick_of (ss := five) (v := atD ds (39 + (j : Int) % 9) 60000 / (1 + (j : Int)) % 5) q0 q1
        have hd6 := u1 _ _ hd5
        refine ⟨_, rfl, _, rfl, .inl ⟨_, rfl, _, _, rfl, rfl, (by show (0 : Int) < 9; decide), _, _, rfl, rfl, o, ds, 39 + (j : Int) % 9, 60000, rfl, SqL.of ((s5.trans u1) _ _ ho4), by omega, by decide, _, rfl, _, _, rfl, rfl, _, _, rfl, rfl, ⟨by show (0 : Int) < _; omega, by show (1 + (j : Int)) < 1073741824; omega⟩, .inl ⟨_, rfl, _, _, rfl, rfl, (by show (0 : Int) < 5; decide), kp, _, _, _, rfl, rfl, SqL.of hk, at_of (j := (atD ds (39 + (j : Int) % 9) 60000 / (1 + (j : Int)) % 5).toNat) (by omega) gsy, _, hd6, ?_, rr ++ [sy], same_put (s5.trans u1) nr, ?_, ?_, fun s hs => ?_⟩⟩⟩
        · rw [List.length_map]
          exact million1 (by omega)
        · rw [upd_same, List.map_append]
          rfl
        · rw [List.length_append, List.length_singleton, lj]
        · rcases List.mem_append.mp hs with q | q
          · exact sk s q
          · rw [List.mem_singleton.mp q]
            exact five_in sy msy
      rintro H4 ⟨row, s4', hrow, lrow, r4⟩
      have s4 := s4.trans s4'
      have l18 : row.length ≤ 18 := by
        rw [lrow]
        decide
      have g9 : 5 < row.length → G.length ≤ 5 := fun _ => gl
      clear lrow s4' c1 c2
    case' B => clear c1 c2
    case' C => clear c1
    all_goals
      clear hg4 gr4 gv4
      have hG4 := hG3.up (Up.of_same s4)
      have hZ4 := hZ3.up (Up.of_same s4)
      refine ⟨_, rfl, _, rfl, _, rfl, g, t, r, G, Z, row, N4t, rfl, hG4, gt.walk, hZ4, ok, hrow, by omega, gt.cover, by decide, fun f H5 F T s5 nf hf tab fr few hT => ?_⟩
      obtain ⟨DD, dq, hasD, fine⟩ : ∃ DD, (∀ H2, Same H5 H2 → Dq K H2 (.ref f) DD) ∧ DD.hasDict = true ∧ Fine DD 8000000 8 := by
        by_cases l5 : row.length ≤ 5
        · exact tab_data (K := K) gt (tab_len tab l5) (fun p hp => by
            obtain ⟨i, j, h1, h2, e⟩ := tab.ks p hp
            obtain ⟨d, kvs, e1, e2, e3⟩ := tab.at_ i j h1 h2
            have v := valV_at2 tab.nd hp
            rw [e, e1] at v
            exact ⟨i, j, d, kvs, T i j, Prod.ext e (Option.some.inj v).symm, by omega, by omega, e2, e3, table_small gt ok l5 h1 h2 (hT i j h1 h2)⟩) hf
        · exact tab_dataW (K := K) gt (g9 (by omega)) (tab_lenW tab l18) (fun p hp => by
            obtain ⟨i, j, h1, h2, e⟩ := tab.ks p hp
            obtain ⟨d, kvs, e1, e2, e3⟩ := tab.at_ i j h1 h2
            have v := valV_at2 tab.nd hp
            rw [e, e1] at v
            exact ⟨i, j, d, kvs, T i j, Prod.ext e (Option.some.inj v).symm, by omega, by omega, e2, e3, table_smallW gt ok l18 h1 h2 (hT i j h1 h2)⟩) hf
      have shown : DD.shown.length ≤ sizeLine := by
        have h6 := shown_wt DD
        have h7 := fine.wt
        rw [sizeLine_eq]
        omega
      have dep : DD.depth ≤ 60 := by
        have := fine.dp
        omega
      obtain ⟨TT, lay, _⟩ := Lay.of (hG4.up (Up.of_same s5)) gt (hZ4.up (Up.of_same s5)) ok (s5 _ _ hrow) (by omega) hf tab hT
      have n60 : row.length ≤ 60 := by omega
      have hG5 := lay.hG
      have hZ5 := lay.hZ
      have hrow5 := lay.hrow
      refine ⟨_, rfl, f, DD, rfl, dq _ (Same.refl H5), hasD, fine.sh, dep, shown, ?_⟩
      obtain ⟨N, ss, hN⟩ : ∃ N ss, G[0]? = some (N, ss) := by
        have l : 0 < G.length := List.length_pos_iff.mpr gt.ne
        exact ⟨G[0].1, G[0].2, List.getElem?_eq_getElem l⟩
      obtain ⟨gvs, hg5, gr⟩ := id hG5
      obtain ⟨gv, hgv, tg, sl, rfl, htg, _⟩ : ∃ gv, gvs[0]? = some gv ∧ RuleA H5 gv (N, ss) := by
        have hl : 0 < gvs.length := by
          rw [gr.len]
          exact (List.getElem?_eq_some_iff.mp hN).1
        obtain ⟨r2, h2, ra⟩ := gr.get (List.getElem?_eq_getElem hl)
        rw [hN] at h2
        cases h2
        exact ⟨_, List.getElem?_eq_getElem hl, ra⟩
      have low : isLow N = true := n4t_low _ (gt.good _ (List.mem_of_getElem? hN)).1
      refine ⟨Nat.zero_le _, fun fd nfd => ?_⟩
      have s7 : Same H5 (upd H5 fd (.lst [])) := same_upd nfd
      have hfd : upd H5 fd (.lst []) fd = some (.lst []) := upd_same
      generalize upd H5 fd (.lst []) = H7 at s7 hfd
      refine ⟨_, rfl, r, _, rfl, .inl (SqL.of (s7 _ _ hrow5)), _, _, rfl, rfl, _, rfl, ?_⟩
      rw [List.length_map]
      refine ⟨by omega, by omega, for_range (lo := 0) (n := ((row.length : Int) + 1).toNat) (fun i σ H' => ∃ (v8 v9 : Option V) (vs : List V) (ts : List Tri), σ = [some (.ref a), some (.ref o), some (.ref g), some (.ref t), some (.ref r), some (.ref f), some (.str DD.shown), some (.ref fd), v8, v9, none, none, none, none, none, none] ∧ Same H5 H' ∧ H' fd = some (.lst vs) ∧
          Rel2 (TriV H') vs ts ∧ (∀ z, z ∈ ts ↔ ∃ m, m < i ∧ WhoS Z row TT N m z) ∧ vs.length ≤ i)
        ⟨none, none, [], [], rfl, s7, hfd, True.intro, fun z => ⟨(fun m => by cases m), fun ⟨m, h1, _⟩ => absurd h1 (by omega)⟩, Nat.le_refl _⟩ ?_ ?_⟩
      · rintro m σ H' hm ⟨v8, v9, vs, ts, rfl, sH, hfd, rel, chr, vl⟩
        have mn : m ≤ row.length := by omega
        have em : (0 : Int) + (m : Int) = ((m : Nat) : Int) := by omega
        rw [em]
        have sH5 := sH
        obtain ⟨d, kvs, e1, e2, e3⟩ := lay.tab.at_ 0 m (Nat.zero_le _) mn
        obtain ⟨v, ev, cv⟩ := e3.nm N ⟨(N, ss), List.mem_of_getElem? hN, rfl⟩
        refine ⟨_, rfl, _, rfl, (by show 2 ≤ sizeLine; decide), fun k1 nk1 => ?_⟩
        have u1 : Same H' (upd H' k1 (.tup [.int 0, .int (m : Nat)])) := same_upd nk1
        have hk1 : upd H' k1 (.tup [.int 0, .int (m : Nat)]) k1 = some (.tup ((kS 0 m).map kV)) := upd_same
        generalize upd H' k1 (.tup [.int 0, .int (m : Nat)]) = A1 at u1 hk1
        have u51 := sH5.trans u1
        have gd := DGet.t (k := kS 0 m) (u51 _ _ hf) hk1
        rw [e1] at gd
        refine ⟨f, .ref d, rfl, gd, _, rfl, g, gvs, 0, .ref tg, rfl, rfl, SqL.of (u51 _ _ hg5), at_of (j := 0) rfl hgv, tg, _, 0, .str N, rfl, rfl, SqT.of (u51 _ _ htg), rfl, (by show 2 ≤ sizeLine; decide), fun k2 nk2 => ?_⟩
        have u2 : Same A1 (upd A1 k2 (.tup [.str "name", .str N])) := same_upd nk2
        have hk2 : upd A1 k2 (.tup [.str "name", .str N]) k2 = some (.tup ((kN N).map kV)) := upd_same
        generalize upd A1 k2 (.tup [.str "name", .str N]) = A2 at u2 hk2
        have u12 := u1.trans u2
        have u52 := sH5.trans u12
        have gv := DGet.t (k := kN N) (u52 _ _ e2) hk2
        rw [ev] at gv
        refine ⟨d, v, rfl, gv, _, rfl, _, rfl, ?_⟩
        cases ec : (TT 0 m).nm N with
        | none =>
          rw [ec] at cv
          rw [show v = .non from cv]
          refine iteF ⟨_, _, vs, ts, rfl, sH.trans u12, u12 _ _ hfd, rel.mono fun v t h => TriV.same u12 h, fun z => ?_, by omega⟩
          rw [chr]
          refine ⟨fun ⟨m2, h1, h3⟩ => ⟨m2, by omega, h3⟩, fun ⟨m2, h1, h3⟩ => ⟨m2, ?_, h3⟩⟩
          by_cases z : m2 = m
          · obtain ⟨x, ex, _⟩ := h3
            rw [z, ec] at ex
            cases ex
          · omega
        | some c =>
          rw [ec] at cv
          obtain ⟨tc, rfl, htc⟩ := cv
          have hf2 := u12 _ _ hfd
          refine iteT ?_
          refine ⟨_, rfl, .inl ⟨rfl, _, SqL.of hf2⟩, _, rfl, tc, _, 0, _, rfl, rfl, SqT.of (u52 _ _ htc), rfl, _, rfl, _, rfl, _, rfl, r, row.map V.str, rfl, SqL.of (u52 _ _ hrow5), ?_⟩
          rw [cut_post (by rw [List.length_map]; exact mn), ← List.map_drop]
          intro p np
          generalize ess : row.drop m = sr
          have lss : sr.length ≤ 60 := by
            rw [← ess, List.length_drop]
            omega
          have u3 : Same A2 (upd A2 p (.lst (sr.map V.str))) := same_upd np
          have hp : upd A2 p (.lst (sr.map V.str)) p = some (.lst (sr.map V.str)) := upd_same
          generalize upd A2 p (.lst (sr.map V.str)) = A3 at u3 hp
          have u53 := u52.trans u3
          refine ⟨p, rfl, ⟨_, SqL.of hp⟩, fun D2 hD2 => lc_list (a := p) (xs := sr.map V.str) (fun n H' => Same A3 H' ∧ H' D2 = some (.lst (((sr.take n).map (outP Z)).map V.int))) ⟨same_upd hD2, upd_same⟩ (fun n H' _ ⟨s', _⟩ => SqL.of (s' _ _ hp)) ?_ ?_⟩
          · rintro n x B hx ⟨s', hd⟩
            obtain ⟨sy, hsy, rfl⟩ := str_at hx
            refine ⟨rfl, _, rfl, _, rfl, t, Z, sy, rfl, hZ5.up (Up.of_same (u53.trans s')), ok, fun B2 s2 => ⟨_, s2 _ _ hd, ?_, ?_, ?_⟩⟩
            · rw [List.length_map, List.length_map]
              exact Nat.lt_of_le_of_lt (Nat.le_trans (List.length_take_le' _ _) lss) (by decide)
            · exact same_put (s'.trans s2) hD2
            · rw [take_out hsy]
              exact upd_same
          · rintro A4 ⟨u4, hd⟩
            rw [List.length_map, List.take_length] at hd
            have u54 := u53.trans u4
            have hf4 := u4 _ _ (u3 _ _ hf2)
            refine ⟨D2, _, rfl, SqL.of hd, _, _, rfl, rfl, _, rfl, tc, _, 1, _, rfl, rfl, SqT.of (u54 _ _ htc), rfl, _, rfl, (by show 3 ≤ sizeLine; decide), fun tp ntp => ?_⟩
            have eo : (sr.map (outP Z)).sum = outsP Z (row.drop m) := by rw [ess]; rfl
            rw [eo]
            have u5 : Same A4 (upd A4 tp (.tup [.int (c.1 + outsP Z (row.drop m)), .int c.2, .int (m : Nat)])) := same_upd ntp
            have htp : upd A4 tp (.tup [.int (c.1 + outsP Z (row.drop m)), .int c.2, .int (m : Nat)]) tp = some (.tup [.int (c.1 + outsP Z (row.drop m)), .int c.2, .int (m : Nat)]) := upd_same
            generalize upd A4 tp (.tup [.int (c.1 + outsP Z (row.drop m)), .int c.2, .int (m : Nat)]) = A5 at u5 htp
            have u15 := ((u12.trans u3).trans u4).trans u5
            have hf5 := u5 _ _ hf4
            have tp_fd : tp ≠ fd := Ne.symm (ne_of_none hf4 ntp)
            refine ⟨fd, _, _, rfl, rfl, hf5, million1 (by omega), _, _, vs ++ [.ref tp], ts ++ [(c.1 + outsP Z (row.drop m), c.2, ((m : Nat) : Int))], rfl, same_put (sH.trans u15) nfd, upd_same, ?_, fun z => ?_, ?_⟩
            · have tS : TupS A5 (upd A5 fd (.lst (vs ++ [.ref tp]))) := TupS.at_lst hf5
              exact (rel.mono fun v t h => let ⟨a, e, h⟩ := TriV.same u15 h; ⟨a, e, tS _ _ h⟩).snoc ⟨tp, rfl, tS _ _ htp⟩
            · rw [List.mem_append, chr, List.mem_singleton]
              constructor
              · rintro (⟨m2, h1, h3⟩ | rfl)
                · exact ⟨m2, by omega, h3⟩
                · exact ⟨m, by omega, c, ec, rfl⟩
              · rintro ⟨m2, h1, h3⟩
                by_cases z : m2 = m
                · subst z
                  obtain ⟨x, ex, e⟩ := h3
                  rw [ec] at ex
                  cases ex
                  exact .inr e
                · exact .inl ⟨m2, by omega, h3⟩
            · rw [List.length_append, List.length_singleton]
              omega
      · rintro σ H' ⟨v8, v9, vs, ts, rfl, sH, hfd, rel, chr, vl⟩
        obtain ⟨c0, hc0⟩ := own_tree gt (Z := Z) (row := row) hN
        obtain ⟨x0, hx0, _⟩ := ((lay.least 0 0).nm N).up hc0
        cases ts with
        | nil => exact absurd ((chr (x0.1 + outsP Z (row.drop 0), x0.2, ((0 : Nat) : Int))).mpr ⟨0, by omega, x0, hx0, rfl⟩) (by simp)
        | cons c cs =>
          refine ⟨_, rfl, fd, vs, c, cs, rfl, SqL.of hfd, rel, fun v2 tv2 => ?_⟩
          obtain ⟨ta, rfl, hta⟩ := tv2
          have wl : WhoLeast Z row TT N (minT c cs) := who_of fun y => by
            rw [chr]
            exact ⟨fun ⟨m, h2, h3⟩ => ⟨m, by omega, h3⟩, fun ⟨m, h2, h3⟩ => ⟨m, by omega, h3⟩⟩
          generalize minT c cs = z at wl hta
          obtain ⟨⟨m, mn, ws⟩, _⟩ := id wl
          obtain ⟨x, hc, ez⟩ := id ws
          have zm : z.2.2 = (m : Int) := by rw [ez]
          rw [zm] at hta
          refine ⟨ta, _, rfl, SqT.of hta, rfl, _, _, rfl, _, _, rfl, _, _, rfl, rfl, ?_⟩
          have lay8 := lay.same sH
          have nmS : ∀ q ∈ G, ∀ s ∈ q.2, isLow s = true → s ∈ N4t := fun q hq s hs l => by
            rcases (gt.good q hq).2.2 s hs with m | m
            · exact m
            · rw [p3_low s m] at l
              cases l
          have sinN : ∃ q ∈ G, N = q.1 ∨ N ∈ q.2 := ⟨_, List.mem_of_getElem? hN, .inl rfl⟩
          have mub : ∀ k c, k ≤ row.length → mu TT N4t 0 k c ≤ 94 := fun k c kn => by
            have := mu_up (T := TT) (Ns := N4t) (by decide) 0 k c
            omega
          have big : ∀ k c, k ≤ row.length → (TT 0 k).nm N = some c → c.2 ≤ 50995 := fun k c kn hk => by
            have := size_bound (Ns := N4t) (kn0_ok2 ok row) lay.least (fun _ _ => rfl) (fun r hr => (gt.good r hr).2.1) (by decide) gt.cover nmS (k - 0) 0 k (Nat.zero_le _) (Nat.le_refl _) N c hk
            unfold sB at this
            split at this <;> omega
          have cnt_of : ∀ k c u, k ≤ row.length → (TT 0 k).nm N = some c → First (pbOf G Z row kn0) TT N 0 k u → u.count ≤ 50995 ∧ c = coT Z row u := fun k c u kn hk fu => by
            obtain ⟨_, _, _, _, _, hcost⟩ := First.info gt lay.least fu (Nat.zero_le _) kn sinN
            rw [headC_is, low, if_pos rfl, hk] at hcost
            have tc := Option.some.inj hcost
            have h1 := big k c kn hk
            rw [tc] at h1
            have h2 : (coT Z row u).2 = (u.count : Int) := rfl
            exact ⟨by omega, tc⟩
          refine ⟨_, rfl, _, rfl, _, rfl, _, rfl, g, t, r, f, G, Z, row, F, TT, N, ss, rfl, lay8, hN, ⟨x0, hx0⟩, fun k c kn hk => ?_, fun p v u as H8 z2 m2 s8 wl2 mn2 ws2 fu _ tl nd fra np hp => ?_⟩
          · obtain ⟨u, fu⟩ := first_ex (kn0_ok2 ok row) lay.least (fun _ _ => rfl) (Ns := N4t) (by decide) nmS _ (Nat.zero_le k) low hk (Nat.lt_succ_self _)
            exact ⟨u, fu, by have := (cnt_of k c u kn hk fu).1; omega⟩
          have ezz := wl2.one wl
          subst ezz
          obtain ⟨x2, hc2, ez2⟩ := id ws2
          have em : m2 = m := by
            have : z2.2.2 = (m2 : Int) := by rw [ez2]
            omega
          subst em
          rw [hc] at hc2
          cases hc2
          obtain ⟨cnt, tc⟩ := cnt_of _ _ _ mn hc fu
          obtain ⟨_, _, _, tdue, _, _⟩ := First.info gt lay.least fu (Nat.zero_le _) mn sinN
          have tdeep : u.deep ≤ 95 := by
            have h1 := First.deepB (kn0_ok2 ok row) lay.least (Ns := N4t) (by decide) nmS fu (Nat.zero_le _) (c := x) (by rw [headC_is, low, if_pos rfl]; exact hc) low
            have := mub _ x mn
            omega
          have nds := due_node gt tdue
          have lfs := due_leafs tdue
          have aw : AllW 3 u := fun y hy => (nds y hy).w
          have layT := trD_lay u aw
          have depT := trD_depth u
          have sHa := sH.trans s8
          have lay9 := lay.same sHa
          have hg9 := sHa _ _ hg5
          have htg9 := sHa _ _ htg
          rw [zm] at hp
          refine ⟨_, rfl, _, rfl, _, rfl, _, rfl, _, rfl, _, rfl, _, rfl, _, rfl, g, gvs, 0, .ref tg, rfl, rfl, SqL.of hg9, at_of (j := 0) rfl hgv, tg, _, 0, .str N, rfl, rfl, SqT.of htg9, rfl, _, rfl, g, t, r, f, G, Z, row, F, TT, N, 0, m2, rfl, lay9, by decide, Nat.zero_le _, mn, sinN, fun _ c _ => by have := mub _ c mn; omega, fun v2 H9 s9 res => ⟨(by show 4 ≤ sizeLine; decide), fun dp ndp => ?_⟩⟩
          obtain ⟨t1, ta1, ft1⟩ : ∃ t1, TrA (News H8 H9) t1 v2 ∧ First (pbOf G Z row kn0) TT N 0 m2 t1 := by
            rcases res with ⟨_, e, _⟩ | ⟨sz, _, t1, h1, _, _, _, _, _, _, _, h2⟩
            · rw [hc] at e
              cases e
            · exact ⟨t1, h1, h2⟩
          have e1 := First.det fu ft1
          subst e1
          have sA : Same H9 (upd H9 dp (.tup [.int z2.1, .int z2.2.1, .int (m2 : Nat), v2])) := same_upd ndp
          have hdp : upd H9 dp (.tup [.int z2.1, .int z2.2.1, .int (m2 : Nat), v2]) dp = some (.tup [.int z2.1, .int z2.2.1, .int (m2 : Nat), v2]) := upd_same
          generalize upd H9 dp (.tup [.int z2.1, .int z2.2.1, .int (m2 : Nat), v2]) = HA at sA hdp
          have s8A := s9.trans sA
          have hpA := s8A _ _ hp
          have sHA := sHa.trans s8A
          have taA := tl.tr.same s8A
          have ta2 := ((ta1.same news_same).same sA)
          refine ⟨_, rfl, .ref p, .ty "tuple", .type "tuple", .type "tuple", true, rfl, .ty "tuple", .base (.tup hpA), rfl, true, rfl, iteF ?_⟩
          have layW : (PyData.tuple [.int z2.1, .int z2.2.1, .int (m2 : Nat), trD u]).canLay0 = true := by
            simp [PyData.canLay0, PyData.canLayAll0, layT]
          refine ⟨_, rfl, _, rfl, .tuple [.int z2.1, .int z2.2.1, .int (m2 : Nat), trD u], .tuple [.int z2.1, .int z2.2.1, .int (m2 : Nat), trD u], .tup (SqT.of hpA) (.cons (.int _) (.cons (.int _) (.cons (.int _) (.cons taA.dp .nil)))), .tup (SqT.of hdp) (.cons (.int _) (.cons (.int _) (.cons (.int _) (.cons ta2.dp .nil)))), layW, layW, (by simp only [PyData.depth, PyData.depthAll]; omega), _, rfl, ?_⟩
          rw [eqv_lay layW]
          refine iteF ⟨_, rfl, f, DD, rfl, dq _ sHA, hasD, fine.sh, dep, shown, _, rfl, rfl, _, rfl, ?_⟩
          rw [decide_eq_true (rfl : V.str DD.shown = _)]
          have layA := lay.same sHA
          have few2 : u.count * (row.length + 1) ≤ 50995 * 19 := Nat.mul_le_mul cnt (by omega)
          refine iteF ⟨_, rfl, _, rfl, _, rfl, _, rfl, _, rfl, p, _, 3, _, rfl, rfl, SqT.of hpA, rfl, r, v, row, m2, u, rfl, layA.hrow, taA, lfs, n60, mn, by omega, by omega, fun pm mv HB sB npm hpm relM => ?_⟩
          have layB := layA.same sB
          have mlen : (mdsAll row m2 u).length ≤ 2124444 := by
            unfold mdsAll
            have fl := flat_len (l := leavesT u) (f := mdLeaf row) (b := row.length + 1) fun y hy => mdLeaf_len (lfs _ (leaves_nodes hy).1)
            have ll := leaves_len u
            have c : (leavesT u).length * (row.length + 1) ≤ u.count * (row.length + 1) := Nat.mul_le_mul_right _ ll
            rw [List.length_append, outM_len]
            omega
          refine ⟨t, r, pm, Z, row, mdsAll row m2 u, rfl, layB.hZ, ok, layB.hrow, ⟨mv, hpm, relM⟩, mdsAll_in mn lfs, by omega, fun HC sC => ⟨_, rfl, rfl, ?_⟩⟩
          have ep : V.int ((mdsAll row m2 u).map (mdP Z row)).sum = V.int z2.1 := by
            rw [mdsAll_price Z mn lfs, ez, tc]
            rfl
          rw [decide_eq_true ep]
          exact q _
end
end Ld

set_option Elab.async false
set_option linter.all false
set_option maxRecDepth 100000
set_option maxHeartbeats 4000000

namespace Ld
open PySem PySem.Spec PyProof.Rows L2 Lg Lr Lb

theorem all_mk {l : PySem.W.OpenLaw} {w : World} {K : PySem.W.Frag} {h : Heap} {mg : Str → Option Value} {fa   fpu fou fch fle fad fna fyc fsc ffr ffe fbt fwc ftm fno flf fme fml fik fmp fmq fdr fat fgr fpr fro flp flo flx fll fln flm flz flr flt ffi fpa flw : Addr} (X : K.In h) (G : h.Ns mainGlobals mg) (hfa : mg "law" = some (.ref fa))
    {odpu anpu odou anou odch anch odle anle odad anad odna anna odyc anyc odsc ansc odfr anfr odfe anfe odbt anbt odwc anwc odtm antm odno anno odlf anlf odme anme odml anml odik anik odmp anmp odmq anmq oddr andr odat anat odgr angr odpr anpr odro anro odlp anlp odlo anlo odlx anlx odll anll odln anln odlm anlm odlz anlz odlr anlr odlt anlt odfi anfi odpa anpa odlw anlw : Option Addr}
    {slpu slou slch slle slad slna slyc slsc slfr slfe slbt slwc sltm slno sllf slme slml slik slmp slmq sldr slat slgr slpr slro sllp sllo sllx slll slln sllm sllz sllr sllt slfi slpa sllw : Array (Option Value)}
    {ocpu kVpu dcpu pmpu ctpu cdpu ocou kVou dcou pmou ctou cdou occh kVch dcch pmch ctch cdch ocle kVle dcle pmle ctle cdle ocad kVad dcad pmad ctad cdad ocna kVna dcna pmna ctna cdna ocyc kVyc dcyc pmyc ctyc cdyc ocsc kVsc dcsc pmsc ctsc cdsc ocfr kVfr dcfr pmfr ctfr cdfr ocfe kVfe dcfe pmfe ctfe cdfe ocbt kVbt dcbt pmbt ctbt cdbt ocwc kVwc dcwc pmwc ctwc cdwc octm kVtm dctm pmtm cttm cdtm ocno kVno dcno pmno ctno cdno oclf kVlf dclf pmlf ctlf cdlf ocme kVme dcme pmme ctme cdme ocml kVml dcml pmml ctml cdml ocik kVik dcik pmik ctik cdik ocmp kVmp dcmp pmmp ctmp cdmp ocmq kVmq dcmq pmmq ctmq cdmq ocdr kVdr dcdr pmdr ctdr cddr ocat kVat dcat pmat ctat cdat ocgr kVgr dcgr pmgr ctgr cdgr ocpr kVpr dcpr pmpr ctpr cdpr ocro kVro dcro pmro ctro cdro oclp kVlp dclp pmlp ctlp cdlp oclo kVlo dclo pmlo ctlo cdlo oclx kVlx dclx pmlx ctlx cdlx ocll kVll dcll pmll ctll cdll ocln kVln dcln pmln ctln cdln oclm kVlm dclm pmlm ctlm cdlm oclz kVlz dclz pmlz ctlz cdlz oclr kVlr dclr pmlr ctlr cdlr oclt kVlt dclt pmlt ctlt cdlt ocfi kVfi dcfi pmfi ctfi cdfi ocpa kVpa dcpa pmpa ctpa cdpa oclw kVlw dclw pmlw ctlw cdlw : Value}
    (apu : PySem.W.nsIn K mainGlobals "put_price" = some (some (.ref fpu)))
    (lpu : K.lookup fpu = some ⟨ocpu, odpu, .func (PySem.W.fnOf "put_price" "put_price" (defArgs s_put_price) (defBody s_put_price) (defScope s_put_price) .none kVpu dcpu pmpu anpu cdpu ctpu), slpu⟩)
    (cpu : PySem.W.codeIn K cdpu "put_price" = true)
    (kpu : PySem.W.keepIn K (.ref fpu) = true)
    (aou : PySem.W.nsIn K mainGlobals "out_price" = some (some (.ref fou)))
    (lou : K.lookup fou = some ⟨ocou, odou, .func (PySem.W.fnOf "out_price" "out_price" (defArgs s_out_price) (defBody s_out_price) (defScope s_out_price) .none kVou dcou pmou anou cdou ctou), slou⟩)
    (cou : PySem.W.codeIn K cdou "out_price" = true)
    (kou : PySem.W.keepIn K (.ref fou) = true)
    (ach : PySem.W.nsIn K mainGlobals "change_price" = some (some (.ref fch)))
    (lch : K.lookup fch = some ⟨occh, odch, .func (PySem.W.fnOf "change_price" "change_price" (defArgs s_change_price) (defBody s_change_price) (defScope s_change_price) .none kVch dcch pmch anch cdch ctch), slch⟩)
    (cch : PySem.W.codeIn K cdch "change_price" = true)
    (kch : PySem.W.keepIn K (.ref fch) = true)
    (ale : PySem.W.nsIn K mainGlobals "leaf_price" = some (some (.ref fle)))
    (lle : K.lookup fle = some ⟨ocle, odle, .func (PySem.W.fnOf "leaf_price" "leaf_price" (defArgs s_leaf_price) (defBody s_leaf_price) (defScope s_leaf_price) .none kVle dcle pmle anle cdle ctle), slle⟩)
    (cle : PySem.W.codeIn K cdle "leaf_price" = true)
    (kle : PySem.W.keepIn K (.ref fle) = true)
    (aad : PySem.W.nsIn K mainGlobals "added" = some (some (.ref fad)))
    (lad : K.lookup fad = some ⟨ocad, odad, .func (PySem.W.fnOf "added" "added" (defArgs s_added) (defBody s_added) (defScope s_added) .none kVad dcad pmad anad cdad ctad), slad⟩)
    (cad : PySem.W.codeIn K cdad "added" = true)
    (kad : PySem.W.keepIn K (.ref fad) = true)
    (ana : PySem.W.nsIn K mainGlobals "names_of" = some (some (.ref fna)))
    (lna : K.lookup fna = some ⟨ocna, odna, .func (PySem.W.fnOf "names_of" "names_of" (defArgs s_names_of) (defBody s_names_of) (defScope s_names_of) .none kVna dcna pmna anna cdna ctna), slna⟩)
    (cna : PySem.W.codeIn K cdna "names_of" = true)
    (kna : PySem.W.keepIn K (.ref fna) = true)
    (ayc : PySem.W.nsIn K mainGlobals "_symbol_cost" = some (some (.ref fyc)))
    (lyc : K.lookup fyc = some ⟨ocyc, odyc, .func (PySem.W.fnOf "_symbol_cost" "_symbol_cost" (defArgs s__symbol_cost) (defBody s__symbol_cost) (defScope s__symbol_cost) .none kVyc dcyc pmyc anyc cdyc ctyc), slyc⟩)
    (cyc : PySem.W.codeIn K cdyc "_symbol_cost" = true)
    (kyc : PySem.W.keepIn K (.ref fyc) = true)
    (asc : PySem.W.nsIn K mainGlobals "_split_cost" = some (some (.ref fsc)))
    (lsc : K.lookup fsc = some ⟨ocsc, odsc, .func (PySem.W.fnOf "_split_cost" "_split_cost" (defArgs s__split_cost) (defBody s__split_cost) (defScope s__split_cost) .none kVsc dcsc pmsc ansc cdsc ctsc), slsc⟩)
    (csc : PySem.W.codeIn K cdsc "_split_cost" = true)
    (ksc : PySem.W.keepIn K (.ref fsc) = true)
    (afr : PySem.W.nsIn K mainGlobals "_first_rule" = some (some (.ref ffr)))
    (lfr : K.lookup ffr = some ⟨ocfr, odfr, .func (PySem.W.fnOf "_first_rule" "_first_rule" (defArgs s__first_rule) (defBody s__first_rule) (defScope s__first_rule) .none kVfr dcfr pmfr anfr cdfr ctfr), slfr⟩)
    (cfr : PySem.W.codeIn K cdfr "_first_rule" = true)
    (kfr : PySem.W.keepIn K (.ref ffr) = true)
    (afe : PySem.W.nsIn K mainGlobals "_first_ends" = some (some (.ref ffe)))
    (lfe : K.lookup ffe = some ⟨ocfe, odfe, .func (PySem.W.fnOf "_first_ends" "_first_ends" (defArgs s__first_ends) (defBody s__first_ends) (defScope s__first_ends) .none kVfe dcfe pmfe anfe cdfe ctfe), slfe⟩)
    (cfe : PySem.W.codeIn K cdfe "_first_ends" = true)
    (kfe : PySem.W.keepIn K (.ref ffe) = true)
    (abt : PySem.W.nsIn K mainGlobals "best_tree" = some (some (.ref fbt)))
    (lbt : K.lookup fbt = some ⟨ocbt, odbt, .func (PySem.W.fnOf "best_tree" "best_tree" (defArgs s_best_tree) (defBody s_best_tree) (defScope s_best_tree) .none kVbt dcbt pmbt anbt cdbt ctbt), slbt⟩)
    (cbt : PySem.W.codeIn K cdbt "best_tree" = true)
    (kbt : PySem.W.keepIn K (.ref fbt) = true)
    (awc : PySem.W.nsIn K mainGlobals "whole_cost" = some (some (.ref fwc)))
    (lwc : K.lookup fwc = some ⟨ocwc, odwc, .func (PySem.W.fnOf "whole_cost" "whole_cost" (defArgs s_whole_cost) (defBody s_whole_cost) (defScope s_whole_cost) .none kVwc dcwc pmwc anwc cdwc ctwc), slwc⟩)
    (cwc : PySem.W.codeIn K cdwc "whole_cost" = true)
    (kwc : PySem.W.keepIn K (.ref fwc) = true)
    (atm : PySem.W.nsIn K mainGlobals "told_mending" = some (some (.ref ftm)))
    (ltm : K.lookup ftm = some ⟨octm, odtm, .func (PySem.W.fnOf "told_mending" "told_mending" (defArgs s_told_mending) (defBody s_told_mending) (defScope s_told_mending) .none kVtm dctm pmtm antm cdtm cttm), sltm⟩)
    (ctm : PySem.W.codeIn K cdtm "told_mending" = true)
    (ktm : PySem.W.keepIn K (.ref ftm) = true)
    (ano : PySem.W.nsIn K mainGlobals "nodes_of" = some (some (.ref fno)))
    (lno : K.lookup fno = some ⟨ocno, odno, .func (PySem.W.fnOf "nodes_of" "nodes_of" (defArgs s_nodes_of) (defBody s_nodes_of) (defScope s_nodes_of) .none kVno dcno pmno anno cdno ctno), slno⟩)
    (cno : PySem.W.codeIn K cdno "nodes_of" = true)
    (kno : PySem.W.keepIn K (.ref fno) = true)
    (alf : PySem.W.nsIn K mainGlobals "leaves_of" = some (some (.ref flf)))
    (llf : K.lookup flf = some ⟨oclf, odlf, .func (PySem.W.fnOf "leaves_of" "leaves_of" (defArgs s_leaves_of) (defBody s_leaves_of) (defScope s_leaves_of) .none kVlf dclf pmlf anlf cdlf ctlf), sllf⟩)
    (clf : PySem.W.codeIn K cdlf "leaves_of" = true)
    (klf : PySem.W.keepIn K (.ref flf) = true)
    (ame : PySem.W.nsIn K mainGlobals "mends" = some (some (.ref fme)))
    (lme : K.lookup fme = some ⟨ocme, odme, .func (PySem.W.fnOf "mends" "mends" (defArgs s_mends) (defBody s_mends) (defScope s_mends) .none kVme dcme pmme anme cdme ctme), slme⟩)
    (cme : PySem.W.codeIn K cdme "mends" = true)
    (kme : PySem.W.keepIn K (.ref fme) = true)
    (aml : PySem.W.nsIn K mainGlobals "_mends_of_leaf" = some (some (.ref fml)))
    (lml : K.lookup fml = some ⟨ocml, odml, .func (PySem.W.fnOf "_mends_of_leaf" "_mends_of_leaf" (defArgs s__mends_of_leaf) (defBody s__mends_of_leaf) (defScope s__mends_of_leaf) .none kVml dcml pmml anml cdml ctml), slml⟩)
    (cml : PySem.W.codeIn K cdml "_mends_of_leaf" = true)
    (kml : PySem.W.keepIn K (.ref fml) = true)
    (aik : PySem.W.nsIn K mainGlobals "_is_kept" = some (some (.ref fik)))
    (lik : K.lookup fik = some ⟨ocik, odik, .func (PySem.W.fnOf "_is_kept" "_is_kept" (defArgs s__is_kept) (defBody s__is_kept) (defScope s__is_kept) .none kVik dcik pmik anik cdik ctik), slik⟩)
    (cik : PySem.W.codeIn K cdik "_is_kept" = true)
    (kik : PySem.W.keepIn K (.ref fik) = true)
    (amp : PySem.W.nsIn K mainGlobals "mends_price" = some (some (.ref fmp)))
    (lmp : K.lookup fmp = some ⟨ocmp, odmp, .func (PySem.W.fnOf "mends_price" "mends_price" (defArgs s_mends_price) (defBody s_mends_price) (defScope s_mends_price) .none kVmp dcmp pmmp anmp cdmp ctmp), slmp⟩)
    (cmp : PySem.W.codeIn K cdmp "mends_price" = true)
    (kmp : PySem.W.keepIn K (.ref fmp) = true)
    (amq : PySem.W.nsIn K mainGlobals "_mend_price" = some (some (.ref fmq)))
    (lmq : K.lookup fmq = some ⟨ocmq, odmq, .func (PySem.W.fnOf "_mend_price" "_mend_price" (defArgs s__mend_price) (defBody s__mend_price) (defScope s__mend_price) .none kVmq dcmq pmmq anmq cdmq ctmq), slmq⟩)
    (cmq : PySem.W.codeIn K cdmq "_mend_price" = true)
    (kmq : PySem.W.keepIn K (.ref fmq) = true)
    (adr : PySem.W.nsIn K mainGlobals "_law_draws" = some (some (.ref fdr)))
    (ldr : K.lookup fdr = some ⟨ocdr, oddr, .func (PySem.W.fnOf "_law_draws" "_law_draws" (defArgs sDraws) (defBody sDraws) (defScope sDraws) .none kVdr dcdr pmdr andr cddr ctdr), sldr⟩)
    (cdr : PySem.W.codeIn K cddr "_law_draws" = true)
    (kdr : PySem.W.keepIn K (.ref fdr) = true)
    (aat : PySem.W.nsIn K mainGlobals "_law_at" = some (some (.ref fat)))
    (lat : K.lookup fat = some ⟨ocat, odat, .func (PySem.W.fnOf "_law_at" "_law_at" (defArgs sAt) (defBody sAt) (defScope sAt) .none kVat dcat pmat anat cdat ctat), slat⟩)
    (cat : PySem.W.codeIn K cdat "_law_at" = true)
    (kat : PySem.W.keepIn K (.ref fat) = true)
    (agr : PySem.W.nsIn K mainGlobals "_law_grammar" = some (some (.ref fgr)))
    (lgr : K.lookup fgr = some ⟨ocgr, odgr, .func (PySem.W.fnOf "_law_grammar" "_law_grammar" (defArgs sGram) (defBody sGram) (defScope sGram) .none kVgr dcgr pmgr angr cdgr ctgr), slgr⟩)
    (cgr : PySem.W.codeIn K cdgr "_law_grammar" = true)
    (kgr : PySem.W.keepIn K (.ref fgr) = true)
    (apr : PySem.W.nsIn K mainGlobals "_law_prices" = some (some (.ref fpr)))
    (lpr : K.lookup fpr = some ⟨ocpr, odpr, .func (PySem.W.fnOf "_law_prices" "_law_prices" (defArgs sPrices) (defBody sPrices) (defScope sPrices) .none kVpr dcpr pmpr anpr cdpr ctpr), slpr⟩)
    (cpr : PySem.W.codeIn K cdpr "_law_prices" = true)
    (kpr : PySem.W.keepIn K (.ref fpr) = true)
    (aro : PySem.W.nsIn K mainGlobals "_law_row" = some (some (.ref fro)))
    (lro : K.lookup fro = some ⟨ocro, odro, .func (PySem.W.fnOf "_law_row" "_law_row" (defArgs sRow) (defBody sRow) (defScope sRow) .none kVro dcro pmro anro cdro ctro), slro⟩)
    (cro : PySem.W.codeIn K cdro "_law_row" = true)
    (kro : PySem.W.keepIn K (.ref fro) = true)
    (alp : PySem.W.nsIn K mainGlobals "_law_put" = some (some (.ref flp)))
    (llp : K.lookup flp = some ⟨oclp, odlp, .func (PySem.W.fnOf "_law_put" "_law_put" (defArgs sLPut) (defBody sLPut) (defScope sLPut) .none kVlp dclp pmlp anlp cdlp ctlp), sllp⟩)
    (clp : PySem.W.codeIn K cdlp "_law_put" = true)
    (klp : PySem.W.keepIn K (.ref flp) = true)
    (alo : PySem.W.nsIn K mainGlobals "_law_out" = some (some (.ref flo)))
    (llo : K.lookup flo = some ⟨oclo, odlo, .func (PySem.W.fnOf "_law_out" "_law_out" (defArgs sLOut) (defBody sLOut) (defScope sLOut) .none kVlo dclo pmlo anlo cdlo ctlo), sllo⟩)
    (clo : PySem.W.codeIn K cdlo "_law_out" = true)
    (klo : PySem.W.keepIn K (.ref flo) = true)
    (alx : PySem.W.nsIn K mainGlobals "_law_change" = some (some (.ref flx)))
    (llx : K.lookup flx = some ⟨oclx, odlx, .func (PySem.W.fnOf "_law_change" "_law_change" (defArgs sLChg) (defBody sLChg) (defScope sLChg) .none kVlx dclx pmlx anlx cdlx ctlx), sllx⟩)
    (clx : PySem.W.codeIn K cdlx "_law_change" = true)
    (klx : PySem.W.keepIn K (.ref flx) = true)
    (all : PySem.W.nsIn K mainGlobals "_law_leaf" = some (some (.ref fll)))
    (lll : K.lookup fll = some ⟨ocll, odll, .func (PySem.W.fnOf "_law_leaf" "_law_leaf" (defArgs sLLeaf) (defBody sLLeaf) (defScope sLLeaf) .none kVll dcll pmll anll cdll ctll), slll⟩)
    (cll : PySem.W.codeIn K cdll "_law_leaf" = true)
    (kll : PySem.W.keepIn K (.ref fll) = true)
    (aln : PySem.W.nsIn K mainGlobals "_law_is_name" = some (some (.ref fln)))
    (lln : K.lookup fln = some ⟨ocln, odln, .func (PySem.W.fnOf "_law_is_name" "_law_is_name" (defArgs sLIsName) (defBody sLIsName) (defScope sLIsName) .none kVln dcln pmln anln cdln ctln), slln⟩)
    (cln : PySem.W.codeIn K cdln "_law_is_name" = true)
    (kln : PySem.W.keepIn K (.ref fln) = true)
    (alm : PySem.W.nsIn K mainGlobals "_law_least" = some (some (.ref flm)))
    (llm : K.lookup flm = some ⟨oclm, odlm, .func (PySem.W.fnOf "_law_least" "_law_least" (defArgs sLeast) (defBody sLeast) (defScope sLeast) .none kVlm dclm pmlm anlm cdlm ctlm), sllm⟩)
    (clm : PySem.W.codeIn K cdlm "_law_least" = true)
    (klm : PySem.W.keepIn K (.ref flm) = true)
    (alz : PySem.W.nsIn K mainGlobals "_law_start" = some (some (.ref flz)))
    (llz : K.lookup flz = some ⟨oclz, odlz, .func (PySem.W.fnOf "_law_start" "_law_start" (defArgs sStart) (defBody sStart) (defScope sStart) .none kVlz dclz pmlz anlz cdlz ctlz), sllz⟩)
    (clz : PySem.W.codeIn K cdlz "_law_start" = true)
    (klz : PySem.W.keepIn K (.ref flz) = true)
    (alr : PySem.W.nsIn K mainGlobals "_law_round" = some (some (.ref flr)))
    (llr : K.lookup flr = some ⟨oclr, odlr, .func (PySem.W.fnOf "_law_round" "_law_round" (defArgs sRound) (defBody sRound) (defScope sRound) .none kVlr dclr pmlr anlr cdlr ctlr), sllr⟩)
    (clr : PySem.W.codeIn K cdlr "_law_round" = true)
    (klr : PySem.W.keepIn K (.ref flr) = true)
    (alt : PySem.W.nsIn K mainGlobals "_law_table" = some (some (.ref flt)))
    (llt : K.lookup flt = some ⟨oclt, odlt, .func (PySem.W.fnOf "_law_table" "_law_table" (defArgs sTable) (defBody sTable) (defScope sTable) .none kVlt dclt pmlt anlt cdlt ctlt), sllt⟩)
    (clt : PySem.W.codeIn K cdlt "_law_table" = true)
    (klt : PySem.W.keepIn K (.ref flt) = true)
    (afi : PySem.W.nsIn K mainGlobals "_law_first" = some (some (.ref ffi)))
    (lfi : K.lookup ffi = some ⟨ocfi, odfi, .func (PySem.W.fnOf "_law_first" "_law_first" (defArgs s__law_first) (defBody s__law_first) (defScope s__law_first) .none kVfi dcfi pmfi anfi cdfi ctfi), slfi⟩)
    (cfi : PySem.W.codeIn K cdfi "_law_first" = true)
    (kfi : PySem.W.keepIn K (.ref ffi) = true)
    (apa : PySem.W.nsIn K mainGlobals "_law_parts" = some (some (.ref fpa)))
    (lpa : K.lookup fpa = some ⟨ocpa, odpa, .func (PySem.W.fnOf "_law_parts" "_law_parts" (defArgs s__law_parts) (defBody s__law_parts) (defScope s__law_parts) .none kVpa dcpa pmpa anpa cdpa ctpa), slpa⟩)
    (cpa : PySem.W.codeIn K cdpa "_law_parts" = true)
    (kpa : PySem.W.keepIn K (.ref fpa) = true)
    (alw : PySem.W.nsIn K mainGlobals "law" = some (some (.ref flw)))
    (llw : K.lookup flw = some ⟨oclw, odlw, .func (PySem.W.fnOf "law" "law" (defArgs sLaw) (defBody sLaw) (defScope sLaw) .none kVlw dclw pmlw anlw cdlw ctlw), sllw⟩)
    (clw : PySem.W.codeIn K cdlw "law" = true)
    (klw : PySem.W.keepIn K (.ref flw) = true)
    (z_len : PySem.W.nsIn K mainGlobals "len" = some none)
    (z_range : PySem.W.nsIn K mainGlobals "range" = some none)
    (z_min : PySem.W.nsIn K mainGlobals "min" = some none)
    (z_abs : PySem.W.nsIn K mainGlobals "abs" = some none)
    (z_int : PySem.W.nsIn K mainGlobals "int" = some none)
    (z_isinstance : PySem.W.nsIn K mainGlobals "isinstance" = some none)
    (z_repr : PySem.W.nsIn K mainGlobals "repr" = some none)
    (z_sum : PySem.W.nsIn K mainGlobals "sum" = some none)
    (z_tuple : PySem.W.nsIn K mainGlobals "tuple" = some none)
    (z_list : PySem.W.nsIn K mainGlobals "list" = some none)
    (z_enumerate : PySem.W.nsIn K mainGlobals "enumerate" = some none)
    (z_zip : PySem.W.nsIn K mainGlobals "zip" = some none)
    : LawTop l w K 63 "script" mg fa h := by
  have e := hfa.symm.trans (PySem.W.mg_of X G alw)
  cases e
  have m := fun {x : Str} (z : PySem.W.nsIn K mainGlobals x = some none) => PySem.W.mg_none_of X G z
  have Fpu := fun_mk (st := s_put_price) lpu cpu kpu
  have Fou := fun_mk (st := s_out_price) lou cou kou
  have Fch := fun_mk (st := s_change_price) lch cch kch
  have Fle := fun_mk (st := s_leaf_price) lle cle kle
  have Fad := fun_mk (st := s_added) lad cad kad
  have Fna := fun_mk (st := s_names_of) lna cna kna
  have Fyc := fun_mk (st := s__symbol_cost) lyc cyc kyc
  have Fsc := fun_mk (st := s__split_cost) lsc csc ksc
  have Ffr := fun_mk (st := s__first_rule) lfr cfr kfr
  have Ffe := fun_mk (st := s__first_ends) lfe cfe kfe
  have Fbt := fun_mk (st := s_best_tree) lbt cbt kbt
  have Fwc := fun_mk (st := s_whole_cost) lwc cwc kwc
  have Ftm := fun_mk (st := s_told_mending) ltm ctm ktm
  have Fno := fun_mk (st := s_nodes_of) lno cno kno
  have Flf := fun_mk (st := s_leaves_of) llf clf klf
  have Fme := fun_mk (st := s_mends) lme cme kme
  have Fml := fun_mk (st := s__mends_of_leaf) lml cml kml
  have Fik := fun_mk (st := s__is_kept) lik cik kik
  have Fmp := fun_mk (st := s_mends_price) lmp cmp kmp
  have Fmq := fun_mk (st := s__mend_price) lmq cmq kmq
  have Fdr := fun_mk (st := sDraws) ldr cdr kdr
  have Fat := fun_mk (st := sAt) lat cat kat
  have Fgr := fun_mk (st := sGram) lgr cgr kgr
  have Fpr := fun_mk (st := sPrices) lpr cpr kpr
  have Fro := fun_mk (st := sRow) lro cro kro
  have Flp := fun_mk (st := sLPut) llp clp klp
  have Flo := fun_mk (st := sLOut) llo clo klo
  have Flx := fun_mk (st := sLChg) llx clx klx
  have Fll := fun_mk (st := sLLeaf) lll cll kll
  have Fln := fun_mk (st := sLIsName) lln cln kln
  have Flm := fun_mk (st := sLeast) llm clm klm
  have Flz := fun_mk (st := sStart) llz clz klz
  have Flr := fun_mk (st := sRound) llr clr klr
  have Flt := fun_mk (st := sTable) llt clt klt
  have Ffi := fun_mk (st := s__law_first) lfi cfi kfi
  have Fpa := fun_mk (st := s__law_parts) lpa cpa kpa
  have Flw := fun_mk (st := sLaw) llw clw klw
  have bpu := Fpu.binds (ps := ["prices", "kind"]) fun _ _ _ _ _ _ us hl => match us, hl with | [_, _], _ => rfl
  have bou := Fou.binds (ps := ["prices", "kind"]) fun _ _ _ _ _ _ us hl => match us, hl with | [_, _], _ => rfl
  have bch := Fch.binds (ps := ["prices", "kind", "other_kind"]) fun _ _ _ _ _ _ us hl => match us, hl with | [_, _, _], _ => rfl
  have ble := Fle.binds (ps := ["prices", "row", "kind", "i", "j"]) fun _ _ _ _ _ _ us hl => match us, hl with | [_, _, _, _, _], _ => rfl
  have bad := Fad.binds (ps := ["one", "two"]) fun _ _ _ _ _ _ us hl => match us, hl with | [_, _], _ => rfl
  have bna := Fna.binds (ps := ["grammar"]) fun _ _ _ _ _ _ us hl => match us, hl with | [_], _ => rfl
  have byc := Fyc.binds (ps := ["grammar", "prices", "row", "entries", "symbol", "i", "j"]) fun _ _ _ _ _ _ us hl => match us, hl with | [_, _, _, _, _, _, _], _ => rfl
  have bsc := Fsc.binds (ps := ["grammar", "prices", "row", "entries", "rule", "dot", "split"]) fun _ _ _ _ _ _ us hl => match us, hl with | [_, _, _, _, _, _, _], _ => rfl
  have bfr := Ffr.binds (ps := ["grammar", "name", "found"]) fun _ _ _ _ _ _ us hl => match us, hl with | [_, _, _], _ => rfl
  have bfe := Ffe.binds (ps := ["grammar", "prices", "row", "entries", "rule", "i", "j"]) fun _ _ _ _ _ _ us hl => match us, hl with | [_, _, _, _, _, _, _], _ => rfl
  have bbt := Fbt.binds (ps := ["grammar", "prices", "row", "name", "i", "j", "entries"]) fun _ _ _ _ _ _ us hl => match us, hl with | [_, _, _, _, _, _, _], _ => rfl
  have bwc := Fwc.binds (ps := ["grammar", "prices", "row", "entries"]) fun _ _ _ _ _ _ us hl => match us, hl with | [_, _, _, _], _ => rfl
  have btm := Ftm.binds (ps := ["grammar", "prices", "row", "entries"]) fun _ _ _ _ _ _ us hl => match us, hl with | [_, _, _, _], _ => rfl
  have bno := Fno.binds (ps := ["tree"]) fun _ _ _ _ _ _ us hl => match us, hl with | [_], _ => rfl
  have blf := Flf.binds (ps := ["tree"]) fun _ _ _ _ _ _ us hl => match us, hl with | [_], _ => rfl
  have bme := Fme.binds (ps := ["row", "m", "tree"]) fun _ _ _ _ _ _ us hl => match us, hl with | [_, _, _], _ => rfl
  have bml := Fml.binds (ps := ["row", "leaf"]) fun _ _ _ _ _ _ us hl => match us, hl with | [_, _], _ => rfl
  have bik := Fik.binds (ps := ["row", "leaf"]) fun _ _ _ _ _ _ us hl => match us, hl with | [_, _], _ => rfl
  have bmp := Fmp.binds (ps := ["prices", "row", "found"]) fun _ _ _ _ _ _ us hl => match us, hl with | [_, _, _], _ => rfl
  have bmq := Fmq.binds (ps := ["prices", "row", "mend"]) fun _ _ _ _ _ _ us hl => match us, hl with | [_, _, _], _ => rfl
  have bdr := Fdr.binds (ps := ["script"]) fun _ _ _ _ _ _ us hl => match us, hl with | [_], _ => rfl
  have bat := Fat.binds (ps := ["draws", "k", "many"]) fun _ _ _ _ _ _ us hl => match us, hl with | [_, _, _], _ => rfl
  have bgr := Fgr.binds (ps := ["draws", "first"]) fun _ _ _ _ _ _ us hl => match us, hl with | [_, _], _ => rfl
  have bpr := Fpr.binds (ps := ["draws", "first"]) fun _ _ _ _ _ _ us hl => match us, hl with | [_, _], _ => rfl
  have bro := Fro.binds (ps := ["draws", "first", "most"]) fun _ _ _ _ _ _ us hl => match us, hl with | [_, _, _], _ => rfl
  have blp := Flp.binds (ps := ["prices", "kind"]) fun _ _ _ _ _ _ us hl => match us, hl with | [_, _], _ => rfl
  have blo := Flo.binds (ps := ["prices", "kind"]) fun _ _ _ _ _ _ us hl => match us, hl with | [_, _], _ => rfl
  have blx := Flx.binds (ps := ["prices", "kind", "other"]) fun _ _ _ _ _ _ us hl => match us, hl with | [_, _, _], _ => rfl
  have bll := Fll.binds (ps := ["prices", "row", "kind", "i", "j"]) fun _ _ _ _ _ _ us hl => match us, hl with | [_, _, _, _, _], _ => rfl
  have bln := Fln.binds (ps := ["symbol"]) fun _ _ _ _ _ _ us hl => match us, hl with | [_], _ => rfl
  have blm := Flm.binds (ps := ["grammar", "prices", "row", "found", "rule", "dot", "i", "j"]) fun _ _ _ _ _ _ us hl => match us, hl with | [_, _, _, _, _, _, _, _], _ => rfl
  have blz := Flz.binds (ps := ["grammar", "row"]) fun _ _ _ _ _ _ us hl => match us, hl with | [_, _], _ => rfl
  have blr := Flr.binds (ps := ["grammar", "prices", "row", "found", "i", "j"]) fun _ _ _ _ _ _ us hl => match us, hl with | [_, _, _, _, _, _], _ => rfl
  have blt := Flt.binds (ps := ["grammar", "prices", "row"]) fun _ _ _ _ _ _ us hl => match us, hl with | [_, _, _], _ => rfl
  have bfi := Ffi.binds (ps := ["grammar", "prices", "row", "found", "symbol", "i", "j"]) fun _ _ _ _ _ _ us hl => match us, hl with | [_, _, _, _, _, _, _], _ => rfl
  have bpa := Fpa.binds (ps := ["grammar", "prices", "row", "found", "rule", "i", "j"]) fun _ _ _ _ _ _ us hl => match us, hl with | [_, _, _, _, _, _, _], _ => rfl
  have blw := Flw.binds (ps := ["script"]) fun _ _ _ _ _ _ us hl => match us, hl with | [_], _ => rfl
  refine ⟨PySem.W.fnOf "law" "law" (defArgs sLaw) (defBody sLaw) (defScope sLaw) .none kVlw dclw pmlw anlw cdlw ctlw, [], spLaw K, fun p hp => ?_, fun s v => .of_eq rfl, fun H a ns hl hH hS => ⟨a, ns, rfl, hS, hl, fun _ => rfl⟩, fun base hK hN hTB => ?_⟩
  · cases hp
  · have g := fun {x : Str} {v : Value} (z : PySem.W.nsIn K mainGlobals x = some (some v)) => PySem.W.mg_of X G z
    have Gpu : FnOk l.prog w K mg base CX0 1 fpu _ ["prices", "kind"] (spPrice putP) := ok_put Fpu
    have Gou : FnOk l.prog w K mg base CX0 1 fou _ ["prices", "kind"] (spPrice outP) := ok_out Fou
    have Gch : FnOk l.prog w K mg base CX0 1 fch _ ["prices", "kind", "other_kind"] spChange := ok_chg Fch
    have Gle := ok_leaf Fle Gpu kpu bpu (g apu) Gou kou bou (g aou) Gch kch bch (g ach) (m z_sum)
    have Gad : FnOk l.prog w K mg base CX0 1 fad _ ["one", "two"] spAd := ok_ad Fad
    have Gna : FnOk l.prog w K mg base CX0 1 fna _ ["grammar"] spNames := ok_names Fna
    have Gyc := ok_yc Fyc Gle kle ble (g ale) Gna kna bna (g ana)
    have Gsc := ok_sc Fsc Gyc kyc byc (g ayc) Gad kad bad (g aad)
    have Gfr := ok_fr1 Ffr Gad kad bad (g aad) (m z_enumerate) (m z_min)
    have Gfe := ok_fe Ffe Gsc ksc bsc (g asc) (m z_enumerate)
    have Gbt := ok_bt Fbt Gfe kfe bfe (g afe) Gfr kfr bfr (g afr) Gna kna bna (g ana) (m z_list) (m z_zip)
    have Gwc := ok_wc Fwc Gou kou bou (g aou) (m z_len) (m z_range) (m z_min)
    have Gtm := ok_tm Ftm Gbt kbt bbt (g abt) Gwc kwc bwc (g awc)
    have Gno : FnOk l.prog w K mg base CX0 1 fno _ ["tree"] spNo := ok_no Fno
    have Glf := ok_lo Flf Gno kno bno (g ano)
    have Gik : FnOk l.prog w K mg base CX0 1 fik _ ["row", "leaf"] spIk := ok_ik Fik
    have Gml := ok_ml Fml Gik kik bik (g aik) (m z_range)
    have Gme := ok_ms Fme Gml kml bml (g aml) Glf klf blf (g alf) (m z_len) (m z_range)
    have Gmq := ok_mp Fmq Gch kch bch (g ach) Gou kou bou (g aou) Gpu kpu bpu (g apu)
    have Gmp := ok_mc Fmp Gmq kmq bmq (g amq) (m z_sum)
    have Glp : FnOk l.prog w K mg base CX0 1 flp _ ["prices", "kind"] (spPrice putP) := ok_lput Flp
    have Glo : FnOk l.prog w K mg base CX0 1 flo _ ["prices", "kind"] (spPrice outP) := ok_lout Flo
    have Glx : FnOk l.prog w K mg base CX0 1 flx _ ["prices", "kind", "other"] spChange := ok_lchg Flx
    have Gll := ok_lleaf Fll Glp klp blp (g alp) Glo klo blo (g alo) Glx klx blx (g alx) (m z_sum)
    have Gln : FnOk l.prog w K mg base CX0 1 fln _ ["symbol"] spIsName := ok_lisname Fln
    have Glm := ok_least Flm Gll kll bll (g all) Gln kln bln (g aln) (m z_range) (m z_len)
    have Glz : FnOk l.prog w K mg base CX0 1 flz _ ["grammar", "row"] spStart := ok_start Flz (m z_range) (m z_len)
    have Glr := ok_round (kn := kn0) Flr Glm klm blm (g alm) (m z_range) (m z_len)
    have Glt := ok_table Flt Glz klz blz (g alz) Glr klr blr (g alr) (m z_range) (m z_len)
    have Gat : FnOk l.prog w K mg base CX0 1 fat _ ["draws", "k", "many"] (spAt K) := ok_at (k := 0) Fat (m z_len) (m z_int)
    have Ggr := ok_gramT Fgr Gat kat bat (g aat) (m z_range) (m z_int) (m z_len)
    have Gpr := ok_prices Fpr Gat kat bat (g aat) (m z_range) (m z_int)
    have Gro := ok_row Fro Gat kat bat (g aat) (m z_range)
    have Gfi := ok_firstF Ffi kfi bfi (g afi) Fpa kpa bpa (g apa) Gll kll bll (g all) Gln kln bln (g aln) (m z_range) (m z_len) 96
    exact ok_law Flw Gat kat bat (g aat) (ok_draws (k := 0) Fdr (m z_range) (m z_min) (m z_len) (m z_abs) (m z_int)) kdr bdr (g adr) Gfi kfi bfi (g afi) Ggr kgr bgr (g agr) Glo klo blo (g alo) Gpr kpr bpr (g apr) Gro kro bro (g aro) Glt klt blt (g alt) Gme kme bme (g ame) Gmp kmp bmp (g amp) Gtm ktm btm (g atm) (m z_int) (m z_isinstance) (m z_len) (m z_min) (m z_range) (m z_repr) (m z_sum) (m z_tuple)
end Ld

open PySem PySem.W PyProof.Rows
set_option maxRecDepth 100000 in
set_option maxHeartbeats 0 in
theorem PySem.Challenge.cw_leastmend_k21_told_mendings_holds : PySem.Challenge.rw_leastmend_k21_told_mendings.Holds := by
  w_on; o_law; k_head; (case hw => w_witness2)
  k_fill
  refine Lg.walk_top (l := PySem.Challenge.rw_leastmend_k21_told_mendings) (n := 63) (x := "script") rfl (by decide) rfl (fun w h Y => PySem.W.kIn_of Y) ?F
  case F =>
    intro w mg fa h Y KX G hmg htab
    refine' Ld.all_mk KX G hmg  ?apu ?lpu ?cpu ?kpu ?aou ?lou ?cou ?kou ?ach ?lch ?cch ?kch ?ale ?lle ?cle ?kle ?aad ?lad ?cad ?kad ?ana ?lna ?cna ?kna ?ayc ?lyc ?cyc ?kyc ?asc ?lsc ?csc ?ksc ?afr ?lfr ?cfr ?kfr ?afe ?lfe ?cfe ?kfe ?abt ?lbt ?cbt ?kbt ?awc ?lwc ?cwc ?kwc ?atm ?ltm ?ctm ?ktm ?ano ?lno ?cno ?kno ?alf ?llf ?clf ?klf ?ame ?lme ?cme ?kme ?aml ?lml ?cml ?kml ?aik ?lik ?cik ?kik ?amp ?lmp ?cmp ?kmp ?amq ?lmq ?cmq ?kmq ?adr ?ldr ?cdr ?kdr ?aat ?lat ?cat ?kat ?agr ?lgr ?cgr ?kgr ?apr ?lpr ?cpr ?kpr ?aro ?lro ?cro ?kro ?alp ?llp ?clp ?klp ?alo ?llo ?clo ?klo ?alx ?llx ?clx ?klx ?all ?lll ?cll ?kll ?aln ?lln ?cln ?kln ?alm ?llm ?clm ?klm ?alz ?llz ?clz ?klz ?alr ?llr ?clr ?klr ?alt ?llt ?clt ?klt ?afi ?lfi ?cfi ?kfi ?apa ?lpa ?cpa ?kpa ?alw ?llw ?clw ?klw ?z_len ?z_range ?z_min ?z_abs ?z_int ?z_isinstance ?z_repr ?z_sum ?z_tuple ?z_list ?z_enumerate ?z_zip
    (case apu => k_is)
    (case lpu => k_is)
    (case cpu => k_is)
    (case kpu => k_is)
    (case aou => k_is)
    (case lou => k_is)
    (case cou => k_is)
    (case kou => k_is)
    (case ach => k_is)
    (case lch => k_is)
    (case cch => k_is)
    (case kch => k_is)
    (case ale => k_is)
    (case lle => k_is)
    (case cle => k_is)
    (case kle => k_is)
    (case aad => k_is)
    (case lad => k_is)
    (case cad => k_is)
    (case kad => k_is)
    (case ana => k_is)
    (case lna => k_is)
    (case cna => k_is)
    (case kna => k_is)
    (case ayc => k_is)
    (case lyc => k_is)
    (case cyc => k_is)
    (case kyc => k_is)
    (case asc => k_is)
    (case lsc => k_is)
    (case csc => k_is)
    (case ksc => k_is)
    (case afr => k_is)
    (case lfr => k_is)
    (case cfr => k_is)
    (case kfr => k_is)
    (case afe => k_is)
    (case lfe => k_is)
    (case cfe => k_is)
    (case kfe => k_is)
    (case abt => k_is)
    (case lbt => k_is)
    (case cbt => k_is)
    (case kbt => k_is)
    (case awc => k_is)
    (case lwc => k_is)
    (case cwc => k_is)
    (case kwc => k_is)
    (case atm => k_is)
    (case ltm => k_is)
    (case ctm => k_is)
    (case ktm => k_is)
    (case ano => k_is)
    (case lno => k_is)
    (case cno => k_is)
    (case kno => k_is)
    (case alf => k_is)
    (case llf => k_is)
    (case clf => k_is)
    (case klf => k_is)
    (case ame => k_is)
    (case lme => k_is)
    (case cme => k_is)
    (case kme => k_is)
    (case aml => k_is)
    (case lml => k_is)
    (case cml => k_is)
    (case kml => k_is)
    (case aik => k_is)
    (case lik => k_is)
    (case cik => k_is)
    (case kik => k_is)
    (case amp => k_is)
    (case lmp => k_is)
    (case cmp => k_is)
    (case kmp => k_is)
    (case amq => k_is)
    (case lmq => k_is)
    (case cmq => k_is)
    (case kmq => k_is)
    (case adr => k_is)
    (case ldr => k_is)
    (case cdr => k_is)
    (case kdr => k_is)
    (case aat => k_is)
    (case lat => k_is)
    (case cat => k_is)
    (case kat => k_is)
    (case agr => k_is)
    (case lgr => k_is)
    (case cgr => k_is)
    (case kgr => k_is)
    (case apr => k_is)
    (case lpr => k_is)
    (case cpr => k_is)
    (case kpr => k_is)
    (case aro => k_is)
    (case lro => k_is)
    (case cro => k_is)
    (case kro => k_is)
    (case alp => k_is)
    (case llp => k_is)
    (case clp => k_is)
    (case klp => k_is)
    (case alo => k_is)
    (case llo => k_is)
    (case clo => k_is)
    (case klo => k_is)
    (case alx => k_is)
    (case llx => k_is)
    (case clx => k_is)
    (case klx => k_is)
    (case all => k_is)
    (case lll => k_is)
    (case cll => k_is)
    (case kll => k_is)
    (case aln => k_is)
    (case lln => k_is)
    (case cln => k_is)
    (case kln => k_is)
    (case alm => k_is)
    (case llm => k_is)
    (case clm => k_is)
    (case klm => k_is)
    (case alz => k_is)
    (case llz => k_is)
    (case clz => k_is)
    (case klz => k_is)
    (case alr => k_is)
    (case llr => k_is)
    (case clr => k_is)
    (case klr => k_is)
    (case alt => k_is)
    (case llt => k_is)
    (case clt => k_is)
    (case klt => k_is)
    (case afi => k_is)
    (case lfi => k_is)
    (case cfi => k_is)
    (case kfi => k_is)
    (case apa => k_is)
    (case lpa => k_is)
    (case cpa => k_is)
    (case kpa => k_is)
    (case alw => k_is)
    (case llw => k_is)
    (case clw => k_is)
    (case klw => k_is)
    (case z_len => k_is)
    (case z_range => k_is)
    (case z_min => k_is)
    (case z_abs => k_is)
    (case z_int => k_is)
    (case z_isinstance => k_is)
    (case z_repr => k_is)
    (case z_sum => k_is)
    (case z_tuple => k_is)
    (case z_list => k_is)
    (case z_enumerate => k_is)
    (case z_zip => k_is)
