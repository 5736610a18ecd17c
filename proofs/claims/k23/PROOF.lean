import PyProof.Rows.All
import Wide.All
import OpenK.AllK
import Wide.FinOn
import HandS.ForMost
import HandS.AnyAll
import HandS.Walk
import HandS.IsInst
import HandS.EndTab
import HandS.Deep
import PyProof.ReprRoads
import HandS.DeepEq
import HandS.DictComp
import HandS.DictEq
import PyProof.P3Eq
import PyProof.DictFindH
import HandS.ForExc
import HandS.ExcInit
import HandS.ExcIs
import HandS.TryMany
import HandS.ExcField
import HandS.TupLe
import PySem.Challenge.RW_leastmend_k23_lists_of_mends
set_option Elab.async false
set_option linter.all false
set_option maxRecDepth 100000
set_option maxHeartbeats 4000000
/-! all(test for x in e): any thing that is walked, any test that leaves the heap's objects as they stand; the test may read what the def holds. -/
namespace Gc
open PySem PySem.Spec PyProof.Rows L2 GxR
/-- the code object of the inner block, found in the table or made and entered there: one end for both -/
theorem code_either {M : Model} {A : Around} {E : Value → Shared → Prop} {s : Shared} {env : Env} {c P : Addr} {ps : Array Value} {gp : Pos} {qn : Str} {scope : Scope} {Q : Value → Shared → Prop}
    (hc : env.code = .ref c) (C : PySem.W.CodeHd s.heap c P) (tab : s.heap.get? P = some { cls := .none, data := .fields ps }) (ok : TriplesOk ps.toList)
    (go : ∀ (code : Value) (h3 : Heap) (tk : Nat) (more : Array Value), Heap.ExtBut P s.heap h3 → s.heap.objs.size ≤ h3.objs.size → h3.get? P = some { cls := .none, data := .fields (ps ++ more) } → TriplesOk (ps ++ more).toList → Q code { s with heap := h3, toks := tk }) :
    wpAny M A (genexprCode env gp qn scope) Q E s := by
  cases found : codeAmong gp ps.toList with
  | some cv =>
    have q := go cv s.heap s.toks #[] (Heap.ExtBut.refl _ _) (Nat.le_refl _) (by rw [Array.append_empty]; exact tab) (by rw [Array.append_empty]; exact ok)
    exact wpAny_genexprCode_hit hc (C.code tab ok) found q
  | none =>
    refine wpAny_genexprCodeX hc (C.code tab ok) (C.tab tab) found fun c' h3 tk ext big small made _ entered _ => ?_
    obtain ⟨_, _, _, _, _, _, _, _, _, _, _, _, _, _, _, _, _, _, _, ok3, _⟩ := made
    exact go (.ref c') h3 tk _ ext (Nat.le_of_lt (Nat.lt_of_le_of_lt big small)) entered.2 ok3
/-- what is walked: xv in the heap h1 gives n items, the i-th under Pf i; its iterator is the next new object; it reads nothing of the table at P -/
def SrcOk (prog : Program) (w : World) (h1 : Heap) (P : Addr) (xv : Value) (n : Nat) (Pf : Nat → Value → Prop) : Prop :=
  ∃ fp : List Addr, (∀ b ∈ fp, b ≤ h1.objs.size) ∧ P ∉ fp ∧
    ∀ (A : Around) (E : Value → Shared → Prop) (s : Shared) (Q : Value → Shared → Prop), s.heap = h1 →
      (∀ (o : Obj) (St : Nat → Heap → Prop), (∀ A' : Around, A'.handled = none → Walks prog w A' h1.objs.size fp [h1.objs.size] n Pf St) → St 0 (h1.push o) → Q (.ref h1.objs.size) { s with heap := h1.push o }) → wpAny (model prog w) A (pyIter xv) Q E s
/-- the environment in which the inner block runs -/
abbrev blkEnv (X : Cx) (scope : Scope) (C : Addr) (code : Value) : Env := genEnv scope (cloFrom X.env.cells scope.names []) C code builtinsNs X.env
/-- the test: of an item under Pf i it gives pb i, wherever all that stood in h1 (but the table at P) stands -/
def EltG (X : Cx) (scope : Scope) (x : Str) (elt : Expr) (P : Addr) (h1 : Heap) (Pf : Nat → Value → Prop) (pb : Nat → Bool) : Prop :=
  ∀ (C : Addr) (code : Value) (A' : Around) (E' : Value → Shared → Prop) (i : Nat) (v : Value) (s₂ : Shared) (m₂ : Str → Option Value), A'.handled = none → A'.depth ≤ X.A.depth + 1 → A'.units ≤ X.A.units + 8 → Pf i v →
    (∀ b o, b ≠ P → h1.get? b = some o → s₂.heap.get? b = some o) → s₂.heap.Ns C m₂ → m₂ x = some v →
    wpAny (model X.prog X.w) A' (eval elt (blkEnv X scope C code)) (fun y s₃ => y = .bool (pb i) ∧ Keeps s₂ s₃) E' s₂
/-- the block's own scope, over the def's scope sc -/
structure GenSc (sc scope : Scope) (x : Str) : Prop where
  kind : scope.kind = .function
  co : scope.isCoroutine = false
  cell : ∀ y ∈ scope.names, y.2 ≠ .cell
  dot : scope.names.lookup (".0" : Str) = some NameKind.local
  loc : scope.names.lookup x = some .local
  free : ∀ y ∈ scope.names, y.2 = .free → sc.names.lookup y.1 = some .cell
section
variable {X : Cx}
/-- all(test for x in e) -/
def tAllG (X : Cx) (scope : Scope) (x : Str) (elt : Expr) (P : Addr) (te : TE) : TE := fun σ H Q => te σ H fun v H1 => ∃ (n : Nat) (Pf : Nat → Value → Prop) (pb : Nat → Bool),
  (∀ (pins : List (Addr × Obj)) (s1 : Shared) (xv : Value), Inv X pins σ H1 s1 → RelV v xv → SrcOk X.prog X.w s1.heap P xv n Pf ∧ EltG X scope x elt P s1.heap Pf pb) ∧ TabG H1 P ∧ ∀ H2, Tabbed P H1 H2 → Q (.bl ((List.range n).all pb)) H2
theorem pe_allG {c P : Addr} {elt iter : Expr} {x : Str} {px p pos gpos : Pos} {scope : Scope} {te : TE} {k : Nat}
    (hr : Room k X.A) (hg : Gl X "all") (hm : X.mg "all" = none) (hb : bootBuiltins "all" = some (.builtin "all")) (TB : TabB X.base X.mg c P) (hcode : X.env.code = .ref c) (S : GenSc X.env.scope scope x) (hi : PE X iter te)
    (hs : ∀ v, genFold iter X.env v = pure v)
    (he : starEach [.GeneratorExp elt [⟨.Name x px, iter, [], 0⟩] scope gpos] X.env = (false, eval (.GeneratorExp elt [⟨.Name x px, iter, [], 0⟩] scope gpos) X.env) :: starEach [] X.env := by rfl) :
    PE X (.Call (.Name "all" p) [.GeneratorExp elt [⟨.Name x px, iter, [], 0⟩] scope gpos] [] pos) (tAllG X scope x elt P te) := by
  refine ⟨fun pins s σ H Q I h => ?_⟩
  have has : ∀ y ∈ scope.names, y.2 = .free → ∃ a, X.env.cells.lookup y.1 = some a := fun y hy e => I.ok.has _ (.inl (S.free y hy e))
  refine wpAny_Call_Name_kw (ld_blt I hg hm hb ?_)
  refine PyProof.Rows.callWith_builtin1 ?_ he (by rfl)
  rw [he]
  show wpAny _ _ (spliced (_ :: backTo pos (starEach [] X.env))) _ _ _
  refine Calls.spliced_cons ?_
  refine wpAny_GeneratorExp_walksQD hr.hd S.co (closure_ok has) S.cell S.dot S.loc S.kind (by have := hr.dp; omega) ?_ hs
  refine thn (hi.run pins s σ H _ I h) fun xv s1 hv => ?_
  obtain ⟨v, H1, J, rv, n, Pf, pb, sem, ⟨ps, hP, trip⟩, fin⟩ := hv
  obtain ⟨⟨fp, below, apart, begins⟩, test⟩ := sem pins s1 xv J rv
  refine begins _ _ s1 _ rfl fun o St W at0 => ⟨J.nolimit.push o, ?_⟩
  have tab1 : s1.heap.get? P = some { cls := .none, data := .fields ps } := J.hok P _ hP
  have tabLt : P < s1.heap.objs.size := Heap.lt_size tab1
  have tab2 := Heap.get?_push_of_some o tab1
  have big2 : (s1.heap.push o).objs.size = s1.heap.objs.size + 1 := Heap.size_push ..
  refine code_either hcode (TB.code.keeps fun b u e => Heap.get?_push_of_some _ (J.bk b u e)) tab2 trip fun code h3 tk more ext big tab3 trip3 => ?_
  -- what stood in s1 stands in h3, the table grown
  have stands : ∀ b u, b ≠ P → s1.heap.get? b = some u → h3.get? b = some u := fun b u ne e => ext b u ne (Heap.get?_push_of_some _ e)
  obtain ⟨statLt, statNe⟩ : cStatics < s1.heap.objs.size ∧ cStatics ≠ P := by
    obtain ⟨mc, ns, _⟩ := J.nolimit
    refine ⟨ns.lt, fun z => ?_⟩
    obtain ⟨o1, es, ep, ho, hd, _⟩ := ns
    rw [z, tab1] at ho
    cases ho
    cases hd
  obtain ⟨bm, ob, b1, b2, b3, b4, b5, b6, b7, b8⟩ := TB.bm
  have globs : h3.Ns X.env.globals X.mg := by
    rw [J.ok.glob]
    exact ((J.mod.glob.keeps J.bk).push o).extBut ext TB.gP
  refine wpAny_builtinsFor globs b1 b2 (stands _ _ b4 (J.bk _ _ b5)) b6 b7 b8 ?_
  have newLt : s1.heap.objs.size < h3.objs.size := by
    have big' : (s1.heap.push o).objs.size ≤ h3.objs.size := big
    omega
  refine ⟨s1.heap.objs.size, fp, [s1.heap.objs.size], n, Pf, St, (fun _ => true), (fun i y => y = .bool (pb i)), rfl, W, ?_, fun b hb => ?_, (J.nolimit.push o).extBut ext statNe, fun z => ?_, fun href up => ?_, ?_⟩
  · exact (W X.A hr.hd).frame _ _ _ at0 fun b hb u e => ext b u (fun z => apart (by rw [← z]; exact hb)) e
  · exact Nat.lt_of_le_of_lt (below b hb) newLt
  · exact Nat.ne_of_lt statLt (List.mem_singleton.mp z)
  · refine ⟨fun A' E' i v s₂ m₂ _ _ _ _ _ _ _ => ?_, fun A' E' i v s₂ m₂ h1 h2 h3' hv _ hn hx old => ?_⟩
    · rw [List.forIn_nil]
      exact wpAny_pure ⟨rfl, keeps_refl _⟩
    · refine test _ _ A' E' i v s₂ m₂ h1 h2 h3' hv (fun b u ne e => ?_) hn hx
      have lt := Heap.lt_size e
      refine old b (List.mem_range.mpr (Nat.lt_trans lt newLt)) (fun z => ?_) u (up _ _ (stands b u ne e))
      exact Nat.ne_of_lt lt (List.mem_singleton.mp z)
  · intro g h5 tk5 gs bare gBig gLast up5 WG atG
    rw [GxR.passing_true, List.length_range] at WG
    refine Calls.spliced_nil (call_all_walkS (WG.in4_1.self 0 _ _ _ atG ⟨g, _, _, _, n, _, _, pb, rfl, WG.in4_1, atG, fun j y sj Qj Ej item q => ?_, fun s' mv => ?_⟩))
    · obtain ⟨i, at_, rfl⟩ := item
      obtain ⟨_, ij⟩ := List.getElem?_eq_some_iff.mp at_
      rw [List.getElem_range] at ij
      rw [← ij]
      exact wpAny_truthy_bool q
    · -- behind the walk: the table has grown, all else stands
      have off : ∀ b u, s1.heap.get? b = some u → b ∉ h3.objs.size :: [s1.heap.objs.size] := fun b u e hb => by
        have lt := Heap.lt_size e
        rcases List.mem_cons.mp hb with z | z
        · exact Nat.lt_irrefl _ (Nat.lt_trans (by rw [← z]; exact lt) newLt)
        · exact Nat.ne_of_lt lt (List.mem_singleton.mp z)
      have K := inv_tab (more := more) (h' := s'.heap) (g' := s'.gens) (d' := s'.drawn) (t' := s'.toks) J hP (fun b u ne e => mv.heap b u (off b u e) (up5 b u (stands b u ne e)))
        (mv.heap P _ (off P _ tab1) (up5 P _ tab3)) (AllBare.movedS (J.bare.push bare) mv)
      rw [sh_eta s1 s' mv.os] at K
      exact ⟨.bl _, _, K, rfl, fin _ ⟨⟨ps ++ more, upd_same, trip3⟩, fun b ne => upd_ne ne⟩⟩
end
/-! ### captured names -/
theorem mem_of_lookup {α : Type} {n : Str} {c : α} : ∀ {l : List (Str × α)}, l.lookup n = some c → (n, c) ∈ l
  | (k, v) :: r, h => by
    rw [List.lookup_cons] at h
    by_cases e : n = k
    · have e' : (n == k) = true := by rw [e]; simp
      rw [e'] at h
      cases h
      rw [e]
      exact List.mem_cons_self
    · rw [beq_eq_false_iff_ne.mpr e] at h
      exact List.mem_cons_of_mem _ (mem_of_lookup h)
theorem cap_lookup {cells : List (Str × Addr)} {names : List (Str × NameKind)} {n : Str} {c : Addr} (hm : (n, NameKind.free) ∈ names) (hc : cells.lookup n = some c) : (cloFrom cells names []).lookup n = some c := by
  obtain ⟨d, hd⟩ := mem_lookup (cloFrom_has (acc := []) (cells := cells) hm)
  rcases cloFrom_mem (mem_of_lookup hd) with z | ⟨_, z⟩
  · cases z
  · rw [hd, z, hc]
    rfl
section
variable {X : Cx} {pins : List (Addr × Obj)} {σ : L2.St} {H : Hp} {s : Shared}
/-- the def's name y, captured, in slot i: what the block reads of it, wherever all that stood stands -/
theorem captured {scope : Scope} {y : Str} {i : Nat} {v : V} {P : Addr} {ps : Array Value} (I : Inv X pins σ H s) (hP : H P = some (.tbl ps)) (hc : X.env.scope.names.lookup y = some .cell) (hf : (y, NameKind.free) ∈ scope.names) (hN : X.N[i]? = some y) (hv : σ[i]? = some (some v)) :
    ∃ a u, (cloFrom X.env.cells scope.names []).lookup y = some a ∧ RelV v u ∧ ∀ h : Heap, (∀ b o, b ≠ P → s.heap.get? b = some o → h.get? b = some o) → h.IsCell a (some u) := by
  obtain ⟨m, _, hl⟩ := I.loc
  obtain ⟨u, ru, l⟩ := hl i y v hN hv (.inr (.inl hc))
  rcases l with ⟨k, _⟩ | ⟨_, a, ha, o, ho, hd⟩
  · have k' : X.env.scope.names.lookup y = some NameKind.local := k
    rw [hc] at k'
    cases k'
  · refine ⟨a, u, cap_lookup hf ha, ru, fun h up => ⟨o, up a o (fun z => ?_) ho, hd⟩⟩
    have t : s.heap.get? P = some { cls := .none, data := .fields ps } := I.hok P _ hP
    rw [z, t] at ho
    cases ho
    cases hd
/-- a text, sign by sign -/
theorem src_str {P : Addr} {ps : Array Value} {z : Str} {t : Tok} (I : Inv X pins σ H s) (hP : H P = some (.tbl ps)) : SrcOk X.prog X.w s.heap P (.str z t) z.cps.size (SignAt z) := by
  have tab : s.heap.get? P = some { cls := .none, data := .fields ps } := I.hok P _ hP
  refine ⟨[s.heap.objs.size], fun b hb => Nat.le_of_eq (List.mem_singleton.mp hb), fun hb => ?_, fun A E s2 Q e q => ?_⟩
  · exact Nat.ne_of_lt (Heap.lt_size tab) (List.mem_singleton.mp hb)
  · obtain ⟨h2, g2, d2, t2, o2⟩ := s2
    obtain rfl : h2 = s.heap := e
    exact wpAny_pyIter_str fun o St W at0 => q o St W at0
theorem walks_weaker {prog : Program} {w : World} {A : Around} {I : Addr} {fp wr : List Addr} {n : Nat} {Pf Pg : Nat → Value → Prop} {St : Nat → Heap → Prop} (W : Walks prog w A I fp wr n Pf St) (f : ∀ i v, Pf i v → Pg i v) : Walks prog w A I fp wr n Pg St :=
  ⟨W.sub, W.frame, fun i s Q E hi st q => W.item i s Q E hi st fun v h' tk y => q v h' tk (f i v y), W.done, W.self⟩
/-- a list -/
theorem src_lst {P l : Addr} {ps : Array Value} {xs : List V} (I : Inv X pins σ H s) (hP : H P = some (.tbl ps)) (hl : SqL X.K H l xs) : SrcOk X.prog X.w s.heap P (.ref l) xs.length (fun i v => ∃ x, xs[i]? = some x ∧ RelV x v) := by
  have tab : s.heap.get? P = some { cls := .none, data := .fields ps } := I.hok P _ hP
  obtain ⟨its, rv, pl, _⟩ := I.list hl
  have lst := pl.isList
  have len : its.toArray.size = xs.length := by rw [List.size_toArray, rv.length]
  have lt : l < s.heap.objs.size := by
    obtain ⟨_, e, _⟩ := _root_.id lst
    exact Heap.lt_size e
  refine ⟨[s.heap.objs.size, l], fun b hb => ?_, fun hb => ?_, fun A E s2 Q e q => ?_⟩
  rotate_left 2
  · obtain ⟨h2, g2, d2, t2, o2⟩ := s2
    obtain rfl : h2 = s.heap := e
    refine wpAny_pyIter_list lst (q _ (fun i h => h.IsListIter s.heap.objs.size l i ∧ h.IsList l its.toArray) (fun A' hA => ?_) ⟨⟨_, Heap.get?_push_size _ rfl, rfl, rfl⟩, lst.push _⟩)
    have W := Walks.list (prog := X.prog) (w := X.w) hA s.heap.objs.size l (Nat.ne_of_lt lt) its.toArray
    rw [len] at W
    refine walks_weaker W fun i v e => ?_
    have e' : its[i]? = some v := by simpa using e
    have hi : i < its.length := (List.getElem?_eq_some_iff.mp e').1
    have hi2 : i < xs.length := by rw [rv.length]; exact hi
    obtain ⟨u, hu, ru⟩ := rv.get (List.getElem?_eq_getElem hi2)
    rw [e'] at hu
    cases hu
    exact ⟨xs[i], List.getElem?_eq_getElem hi2, ru⟩
  · rcases List.mem_cons.mp hb with z | z
    · exact Nat.le_of_eq z
    · rw [List.mem_singleton.mp z]
      exact Nat.le_of_lt lt
  · rcases List.mem_cons.mp hb with z | z
    · exact Nat.ne_of_lt (Heap.lt_size tab) z
    · have z' := List.mem_singleton.mp z
      obtain ⟨o1, e1, _, _, d1⟩ := _root_.id lst
      rw [← z', tab] at e1
      cases e1
      cases d1
end
/-! ### «lo <= x <= hi», lo and hi captured texts -/
def between (lo hi : Str) (c : Nat) : Bool := !(decide ([c] < lo.cps.toList)) && !(decide (hi.cps.toList < [c]))
theorem elt_between {X : Cx} {pins : List (Addr × Obj)} {σ : L2.St} {H : Hp} {s : Shared} {scope : Scope} {x lo hi : Str} {z zl zh : Str} {P : Addr} {ps : Array Value} {i j : Nat} {p1 p2 p3 p4 : Pos} (I : Inv X pins σ H s) (hP : H P = some (.tbl ps))
    (hk : scope.kind = .function) (hl : scope.names.lookup x = some .local) (h1 : scope.names.lookup lo = some .free) (h2 : scope.names.lookup hi = some .free)
    (c1 : X.env.scope.names.lookup lo = some .cell) (c2 : X.env.scope.names.lookup hi = some .cell) (n1 : X.N[i]? = some lo) (n2 : X.N[j]? = some hi) (v1 : σ[i]? = some (some (.str zl))) (v2 : σ[j]? = some (some (.str zh)))
    (d0 : (x == ("__debug__" : Str)) = false := by decide) (d1 : (lo == ("__debug__" : Str)) = false := by decide) (d2 : (hi == ("__debug__" : Str)) = false := by decide) (e1 : (lo == ("__classdict__" : Str)) = false := by decide) (e2 : (hi == ("__classdict__" : Str)) = false := by decide) :
    EltG X scope x (.Compare (.Name lo p1) [.LtE, .LtE] [.Name x p2, .Name hi p3] p4) P s.heap (SignAt z) (fun k => between zl zh (z.cps.getD k 0)) := by
  obtain ⟨a, u, la, ru, ca⟩ := captured (scope := scope) I hP c1 (mem_of_lookup h1) n1 v1
  obtain ⟨b, v, lb, rv, cb⟩ := captured (scope := scope) I hP c2 (mem_of_lookup h2) n2 v2
  obtain ⟨ta, rfl⟩ := ru
  obtain ⟨tb, rfl⟩ := rv
  intro C code A' E' k item s₂ m₂ _ _ _ sign old ns hx
  obtain ⟨cc, tc, hcc, rfl⟩ := sign
  have gd : z.cps.getD k 0 = cc := by
    rw [Array.getD_eq_getD_getElem?, hcc]
    rfl
  refine Compare_chain ?_ (by with_unfolding_all rfl)
  refine wpAny_Name (wpAny_loadName_free hk (show scope.names.lookup lo = some .free from h1) la (ca _ old) ?_ e1) d1
  refine chain_link (wpAny_Name (wpAny_loadName_local hk (show scope.names.lookup x = some .local from hl) ns hx ?_) d0)
  refine PySem.P.le_str (wpAny_truthy_bool ?_)
  show (if (!decide (([cc] : List Nat) < zl.cps.toList)) = true then _ else _)
  by_cases q : ([cc] : List Nat) < zl.cps.toList
  · rw [decide_eq_true q]
    refine ite_ff ⟨?_, keeps_refl _⟩
    show _ = Value.bool (between zl zh (z.cps.getD k 0))
    rw [gd]
    unfold between
    rw [decide_eq_true q]
    rfl
  · rw [decide_eq_false q]
    refine ite_tt (chain_last ?_)
    refine wpAny_Name (wpAny_loadName_free hk (show scope.names.lookup hi = some .free from h2) lb (cb _ old) ?_ e2) d2
    refine PySem.P.le_str ⟨?_, keeps_refl _⟩
    show _ = Value.bool (between zl zh (z.cps.getD k 0))
    rw [gd]
    unfold between
    rw [decide_eq_false q]
    rfl
theorem range_all (z : Array Nat) (p : Nat → Bool) : (List.range z.size).all (fun k => p (z.getD k 0)) = z.toList.all p := by
  rw [Bool.eq_iff_iff, List.all_eq_true, List.all_eq_true]
  constructor
  · intro h b hb
    obtain ⟨j, hj, e⟩ := List.getElem_of_mem hb
    have hj' : j < z.size := by simpa using hj
    have q := h j (List.mem_range.mpr hj')
    rw [Array.getD_eq_getD_getElem?, Array.getElem?_eq_getElem hj'] at q
    rw [← e]
    simpa using q
  · intro h j hj
    have hj' := List.mem_range.mp hj
    rw [Array.getD_eq_getD_getElem?, Array.getElem?_eq_getElem hj']
    exact h _ (by simp)
end Gc

set_option Elab.async false
set_option linter.all false
set_option maxRecDepth 100000
set_option maxHeartbeats 4000000
namespace Ld
open PySem PySem.Spec PyProof.Rows L2
/-! ### the draws: mathematics -/
def dstep (p : Int × List Int) : Int × List Int := if p.1 > 0 then (p.1 / 65536, p.2 ++ [p.1 % 65536]) else p
def diter : Nat → Int × List Int → Int × List Int
  | 0, p => p
  | n + 1, p => dstep (diter n p)
def dabs (x : Int) : Int := if x < 0 then -x else x
def dmix1 (k r : Int) : Int := (r * 48271 + (k + 1) * 69621) % 2147483647
def dmix2 (k r : Int) : Int := (dmix1 k r * 16807 + 11 * k + 5) % 2147483629
def dcell (k x : Int) (ds : List Int) : List Int :=
  if (10 : Int) ^ (18 : Int).toNat ≤ dabs x then (diter 60 (dabs x, ds)).2
  else ds ++ [dmix2 k (dabs x) % 65536] ++ [dmix2 k (dabs x) / 65536 % 32768]
def drawsN (ns : List Int) : Nat → List Int
  | 0 => []
  | i + 1 => dcell (i : Nat) (ns.getD i 0) (drawsN ns i)
def drawsOf (ns : List Int) : List Int := drawsN ns ns.length
def DOk (ds : List Int) : Prop := ∀ x ∈ ds, 0 ≤ x ∧ x < 65536
theorem DOk.app {ds : List Int} {x : Int} (h : DOk ds) (h0 : 0 ≤ x) (h1 : x < 65536) : DOk (ds ++ [x]) := fun y hy => by
  rcases List.mem_append.mp hy with z | z
  · exact h y z
  · rw [List.mem_singleton.mp z]
    exact ⟨h0, h1⟩
theorem dstep_ok {p : Int × List Int} (h : DOk p.2) : DOk (dstep p).2 := by
  unfold dstep
  split
  · exact h.app (Int.emod_nonneg _ (by decide)) (Int.emod_lt_of_pos _ (by decide))
  · exact h
theorem dstep_len (p : Int × List Int) : (dstep p).2.length ≤ p.2.length + 1 := by
  unfold dstep
  split
  · show (p.2 ++ [p.1 % 65536]).length ≤ _
    rw [List.length_append, List.length_singleton]
    exact Nat.le_refl _
  · omega
theorem diter_ok {p : Int × List Int} (h : DOk p.2) : ∀ n, DOk (diter n p).2
  | 0 => h
  | n + 1 => dstep_ok (diter_ok h n)
theorem diter_len (p : Int × List Int) : ∀ n, (diter n p).2.length ≤ p.2.length + n
  | 0 => Nat.le_refl _
  | n + 1 => by
    have := dstep_len (diter n p)
    have := diter_len p n
    show (dstep (diter n p)).2.length ≤ _
    omega
theorem dcell_ok {k x : Int} {ds : List Int} (h : DOk ds) : DOk (dcell k x ds) := by
  unfold dcell
  split
  · exact diter_ok (p := (dabs x, ds)) h 60
  · have h1 : DOk (ds ++ [dmix2 k (dabs x) % 65536]) := h.app (Int.emod_nonneg _ (by decide)) (Int.emod_lt_of_pos _ (by decide))
    refine h1.app (Int.emod_nonneg _ (by decide)) ?_
    have : dmix2 k (dabs x) / 65536 % 32768 < 32768 := Int.emod_lt_of_pos _ (by decide)
    omega
theorem dcell_len (k x : Int) (ds : List Int) : (dcell k x ds).length ≤ ds.length + 60 := by
  unfold dcell
  split
  · exact diter_len (dabs x, ds) 60
  · simp only [List.length_append, List.length_singleton]
    omega
theorem drawsN_ok (ns : List Int) : ∀ n, DOk (drawsN ns n)
  | 0 => fun _ h => nomatch h
  | n + 1 => dcell_ok (drawsN_ok ns n)
theorem drawsN_len (ns : List Int) : ∀ n, (drawsN ns n).length ≤ 60 * n
  | 0 => Nat.le_refl _
  | n + 1 => by
    have := dcell_len (n : Nat) (ns.getD n 0) (drawsN ns n)
    have := drawsN_len ns n
    show (dcell _ _ _).length ≤ _
    omega
theorem drawsOf_len {ns : List Int} (h : ns.length ≤ 63) : (drawsOf ns).length ≤ 3780 := by
  have := drawsN_len ns ns.length
  unfold drawsOf
  omega
/-- a draw below many -/
def atD (ds : List Int) (k many : Int) : Int := if k < (ds.length : Int) then ds.getD k.toNat 0 % many else 0
theorem atD_lo (ds : List Int) (k : Int) {many : Int} (h : 0 < many) : 0 ≤ atD ds k many := by
  unfold atD
  split
  · exact Int.emod_nonneg _ (by omega)
  · exact Int.le_refl _
theorem atD_hi (ds : List Int) (k : Int) {many : Int} (h : 0 < many) : atD ds k many < many := by
  unfold atD
  split
  · exact Int.emod_lt_of_pos _ h
  · exact h
theorem getI {ns : List Int} {i : Nat} (h : i < ns.length) : (ns.map V.int)[i]? = some (V.int (ns.getD i 0)) := by
  rw [List.getElem?_map, List.getElem?_eq_getElem h, List.getD_eq_getElem?_getD, List.getElem?_eq_getElem h]
  rfl
theorem same_upd {H : Hp} {p : Addr} {o : HO} (h : H p = none) : Same H (upd H p o) := fun b x e => by
  rw [upd_ne (ne_of_none e h)]
  exact e
theorem small4000 {n : Nat} (h : n ≤ 4000) : n < sizeLine := Nat.lt_of_le_of_lt h (by decide)
end Ld

set_option Elab.async false
set_option linter.all false
set_option maxRecDepth 100000
set_option maxHeartbeats 4000000
/-! Reading a line, two ways: over codes alone. -/
namespace Ld
open PySem PySem.Spec PyProof.Rows L2 TL
/-! ### words (as in the law of words) -/
def wordB (z lo hi : Str) : Bool := decide (1 ≤ (z.length : Int)) && (decide ((z.length : Int) ≤ 12) && z.cps.toList.all (Gc.between lo hi))
def kindB (z : Str) : Bool := wordB z "A" "Z" && !decide (z = "OTHER")
def nameB (z : Str) : Bool := wordB z "a" "z"
def symB (z : Str) : Bool := kindB z || nameB z
theorem lt_one (a b : Nat) : (([a] : List Nat) < [b]) ↔ a < b := by
  simp [List.cons_lt_cons_iff]
theorem name_codes {z : Str} (h : nameB z = true) : ∀ c ∈ tl z, 97 ≤ c ∧ c ≤ 122 := by
  intro c hc
  unfold nameB wordB at h
  rw [Bool.and_eq_true, Bool.and_eq_true] at h
  have q := List.all_eq_true.mp h.2.2 c hc
  unfold Gc.between at q
  rw [show ("a" : Str).cps.toList = [97] from by decide +kernel, show ("z" : Str).cps.toList = [122] from by decide +kernel] at q
  simp only [Bool.and_eq_true, Bool.not_eq_true', decide_eq_false_iff_not, lt_one] at q
  omega
theorem name_no {z : Str} (h : nameB z = true) {c : Nat} (hc : c < 97) : c ∉ tl z := fun m => by
  have := name_codes h c m
  omega
abbrev Rule := Str × List Str
/-- the text's parts at a space, at a newline -/
theorem colon_tl : tl (":" : Str) = [58] := by decide +kernel
theorem space_tl : tl (" " : Str) = [32] := by decide +kernel
theorem nl_tl : tl ("\n" : Str) = [10] := by decide +kernel
theorem kind_space (x : Str) : ¬ Builtin.Str.strKind x < Builtin.Str.strKind (" " : Str) := kind_ok (by decide +kernel)
theorem kind_nl (x : Str) : ¬ Builtin.Str.strKind x < Builtin.Str.strKind ("\n" : Str) := kind_ok (by decide +kernel)
def spS (x : Str) : List Str := Txt.split x " "
theorem spS_tl (x : Str) : (spS x).map tl = spl [32] 0 [] (tl x) := by
  have h := split_spl x " " (by rw [space_tl]; simp) (kind_space x)
  rw [space_tl] at h
  exact h
theorem cut_first (s : Nat) : ∀ L : List Nat, s ∉ L ∨ ∃ p r, L = p ++ s :: r ∧ s ∉ p
  | [] => .inl (by simp)
  | c :: L => by
    by_cases e : c = s
    · exact .inr ⟨[], L, by rw [e]; rfl, by simp⟩
    · rcases cut_first s L with h | ⟨p, r, h1, h2⟩
      · exact .inl fun m => (List.mem_cons.mp m).elim (fun z => e z.symm) h
      · exact .inr ⟨c :: p, r, by rw [h1]; rfl, fun m => (List.mem_cons.mp m).elim (fun z => e z.symm) h2⟩
theorem spl_no {s : Nat} {p : List Nat} (h : s ∉ p) : spl [s] 0 [] p = [p] := by
  have := spl_last1 (S := []) (acc := []) h
  rw [this]
  rfl
theorem spl_at1 {s : Nat} {p r : List Nat} (h : s ∉ p) : spl [s] 0 [] (p ++ s :: r) = p :: spl [s] 0 [] r := by
  have := spl_part1 (S := []) (acc := []) (rest := r) h
  exact this
/-- split never gives the empty list; its head -/
theorem spl_ne (s : Nat) (L : List Nat) : ∃ p r, spl [s] 0 [] L = p :: r ∧ s ∉ p ∧ ∀ c ∈ p, c ∈ L := by
  rcases cut_first s L with h | ⟨p, r, rfl, h⟩
  · exact ⟨L, [], spl_no h, h, fun _ z => z⟩
  · exact ⟨p, _, spl_at1 h, h, fun c z => List.mem_append_left _ z⟩
/-! ### the program's way -/
def ruleOf (l : Str) : Option Rule :=
  if nameB (Txt.partition l ":").1 = true ∧ (Txt.partition l ":").2.1 ≠ Str.empty ∧ (spS (Txt.partition l ":").2.2).head? = some Str.empty ∧ (spS (Txt.partition l ":").2.2).tail.length ≤ 6 ∧ (spS (Txt.partition l ":").2.2).tail.all symB = true
  then some ((Txt.partition l ":").1, (spS (Txt.partition l ":").2.2).tail) else none
/-- the law's way; b0: the first word without its last sign -/
def endsColon (w : Str) : Prop := ∃ b : List Nat, tl w = b ++ [58]
def lawLine (l : Str) (w0 : Str) (ws : List Str) : Option Rule → Prop := fun o =>
  (o = none ∧ ¬ ∃ n : Str, tl w0 = tl n ++ [58] ∧ nameB n = true ∧ ws.length ≤ 6 ∧ ws.all symB = true) ∨
  ∃ n : Str, o = some (n, ws) ∧ tl w0 = tl n ++ [58] ∧ nameB n = true ∧ ws.length ≤ 6 ∧ ws.all symB = true
theorem str_of (l : List Nat) : ∃ z : Str, tl z = l := ⟨⟨l.toArray⟩, rfl⟩
theorem tl_inj {x y : Str} (h : tl x = tl y) : x = y := ext_tl h
theorem line_eq (l : Str) : ∃ w0 ws, spS l = w0 :: ws ∧ lawLine l w0 ws (ruleOf l) := by
  have hs := spS_tl l
  rcases cut_first 58 (tl l) with h | ⟨A, R, hL, hA⟩
  · -- no colon
    obtain ⟨p, r, e, _, sub⟩ := spl_ne 32 (tl l)
    rw [e] at hs
    cases hsl : spS l with
    | nil => rw [hsl] at hs; cases hs
    | cons w0 ws =>
      rw [hsl, List.map_cons] at hs
      injection hs with h1 h2
      refine ⟨w0, ws, rfl, .inl ⟨?_, ?_⟩⟩
      · unfold ruleOf
        rw [partition_none colon_tl h]
        rw [if_neg (fun z => z.2.1 rfl)]
      · rintro ⟨n, hn, _⟩
        refine h (sub 58 ?_)
        rw [← h1, hn]
        exact List.mem_append_right _ (List.mem_singleton.mpr rfl)
  · obtain ⟨a, ha⟩ := str_of A
    obtain ⟨r, hr⟩ := str_of R
    have el : l = a ++ (":" : Str) ++ r := tl_inj (by rw [tl_append, tl_append, ha, hr, colon_tl, hL]; simp)
    have ep : Txt.partition l ":" = (a, (":" : Str), r) := by
      rw [el]
      exact partition_app colon_tl (by rw [ha]; exact hA)
    have rr := spS_tl r
    rw [hr] at rr
    by_cases h32 : 32 ∈ A
    · -- a space ahead of the colon: no name
      obtain ⟨p, q, hp, np⟩ : ∃ p q, A = p ++ 32 :: q ∧ 32 ∉ p := by
        rcases cut_first 32 A with z | z
        · exact absurd h32 z
        · exact z
      rw [hL, hp, List.append_assoc, List.cons_append, spl_at1 np] at hs
      cases hsl : spS l with
      | nil => rw [hsl] at hs; cases hs
      | cons w0 ws =>
        rw [hsl, List.map_cons] at hs
        injection hs with h1 h2
        refine ⟨w0, ws, rfl, .inl ⟨?_, ?_⟩⟩
        · unfold ruleOf
          rw [ep, if_neg]
          intro z
          exact name_no z.1 (by decide : 32 < 97) (by rw [ha]; exact h32)
        · rintro ⟨n, hn, _⟩
          refine hA ?_
          rw [hp]
          refine List.mem_append_left _ ?_
          rw [← h1, hn]
          exact List.mem_append_right _ (List.mem_singleton.mpr rfl)
    · have h32' : 32 ∉ A ++ [58] := fun z => (List.mem_append.mp z).elim h32 fun z => by simp at z
      cases R with
      | nil =>
        rw [hL, spl_no h32'] at hs
        rw [spl_no (by simp)] at rr
        cases hsl : spS l with
        | nil => rw [hsl] at hs; cases hs
        | cons w0 ws =>
          rw [hsl, List.map_cons] at hs
          injection hs with h1 h2
          have ews : ws = [] := List.map_eq_nil_iff.mp h2
          subst ews
          cases hsr : spS r with
          | nil => rw [hsr] at rr; cases rr
          | cons v0 vs =>
            rw [hsr, List.map_cons] at rr
            injection rr with g1 g2
            have evs : vs = [] := List.map_eq_nil_iff.mp g2
            subst evs
            have ev0 : v0 = Str.empty := tl_inj g1
            refine ⟨w0, [], rfl, ?_⟩
            by_cases hn : nameB a = true
            · refine .inr ⟨a, ?_, by rw [h1, ha], hn, by decide, rfl⟩
              unfold ruleOf
              rw [ep]
              simp only [hsr]
              rw [if_pos ⟨hn, by decide +kernel, by rw [ev0]; rfl, Nat.zero_le _, rfl⟩]
              rfl
            · refine .inl ⟨?_, ?_⟩
              · unfold ruleOf
                rw [ep, if_neg fun z => hn z.1]
              · rintro ⟨n, hn2, hn3, _⟩
                have : n = a := tl_inj (by
                  rw [h1] at hn2
                  rw [ha]
                  exact (List.append_cancel_right hn2).symm)
                rw [this] at hn3
                exact hn hn3
      | cons c R' =>
        by_cases hc : c = 32
        · subst hc
          have e2 : tl l = (A ++ [58]) ++ 32 :: R' := by rw [hL]; simp
          rw [e2, spl_at1 h32'] at hs
          have e3 : spl [32] 0 [] (32 :: R') = [] :: spl [32] 0 [] R' := spl_at1 (p := []) (by simp)
          rw [e3] at rr
          cases hsl : spS l with
          | nil => rw [hsl] at hs; cases hs
          | cons w0 ws =>
            rw [hsl, List.map_cons] at hs
            injection hs with h1 h2
            cases hsr : spS r with
            | nil => rw [hsr] at rr; cases rr
            | cons v0 vs =>
              rw [hsr, List.map_cons] at rr
              injection rr with g1 g2
              have evs : vs = ws := map_tl_inj (g2.trans h2.symm)
              subst evs
              have ev0 : v0 = Str.empty := tl_inj g1
              refine ⟨w0, vs, rfl, ?_⟩
              by_cases hn : nameB a = true ∧ vs.length ≤ 6 ∧ vs.all symB = true
              · refine .inr ⟨a, ?_, by rw [h1, ha], hn⟩
                unfold ruleOf
                rw [ep]
                simp only [hsr]
                rw [if_pos ⟨hn.1, by decide +kernel, by rw [ev0]; rfl, hn.2.1, hn.2.2⟩]
                rfl
              · refine .inl ⟨?_, ?_⟩
                · unfold ruleOf
                  rw [ep]
                  simp only [hsr]
                  rw [if_neg fun z => hn ⟨z.1, z.2.2.2.1, z.2.2.2.2⟩]
                · rintro ⟨n, hn2, hn3, hn4⟩
                  have : n = a := tl_inj (by
                    rw [h1] at hn2
                    rw [ha]
                    exact (List.append_cancel_right hn2).symm)
                  rw [this] at hn3
                  exact hn ⟨hn3, hn4⟩
        · -- a sign right behind the colon
          have e2 : tl l = (A ++ [58]) ++ c :: R' := by rw [hL]; simp
          have first : ∀ (pp : List Nat), 32 ∉ pp → ∃ q t, spl [32] 0 [] (pp ++ c :: R') = (pp ++ c :: q) :: t := by
            intro pp hpp
            rcases cut_first 32 (c :: R') with z | ⟨p, q, hp, np⟩
            · refine ⟨R', [], spl_no fun m => ?_⟩
              rcases List.mem_append.mp m with m | m
              · exact hpp m
              · exact z m
            · cases p with
              | nil =>
                injection hp with x1 x2
                exact absurd x1 hc
              | cons d p' =>
                injection hp with x1 x2
                subst x1
                refine ⟨p', spl [32] 0 [] q, ?_⟩
                rw [x2]
                have n2 : 32 ∉ pp ++ c :: p' := fun m => (List.mem_append.mp m).elim hpp np
                have := spl_at1 (r := q) n2
                rw [List.append_assoc] at this
                exact this
          obtain ⟨q1, t1, f1⟩ := first (A ++ [58]) h32'
          obtain ⟨q2, t2, f2⟩ := first [] (by simp)
          rw [e2, f1] at hs
          rw [List.nil_append] at f2
          rw [f2, List.nil_append] at rr
          cases hsl : spS l with
          | nil => rw [hsl] at hs; cases hs
          | cons w0 ws =>
            rw [hsl, List.map_cons] at hs
            injection hs with h1 h2
            cases hsr : spS r with
            | nil => rw [hsr] at rr; cases rr
            | cons v0 vs =>
              rw [hsr, List.map_cons] at rr
              injection rr with g1 g2
              refine ⟨w0, ws, rfl, .inl ⟨?_, ?_⟩⟩
              · unfold ruleOf
                rw [ep]
                simp only [hsr]
                rw [if_neg]
                intro z
                have z3 := z.2.2.1
                rw [List.head?_cons] at z3
                have z4 : v0 = Str.empty := Option.some.inj z3
                rw [z4] at g1
                cases g1
              · rintro ⟨n, hn2, hn3, _⟩
                rw [h1] at hn2
                -- the name would hold the colon
                refine name_no hn3 (by decide : 58 < 97) ?_
                have e4 : tl n = (A ++ [58] ++ c :: q1).dropLast := by
                  rw [hn2, List.dropLast_concat]
                rw [e4, List.dropLast_append_of_ne_nil (by simp)]
                exact List.mem_append_left _ (List.mem_append_right _ (List.mem_singleton.mpr rfl))
end Ld

set_option Elab.async false
set_option linter.all false
set_option maxRecDepth 100000
set_option maxHeartbeats 4000000
/-! Grammars as texts, read and written: over codes alone; and as data that is compared. -/
namespace Ld
open PySem PySem.Spec PyProof.Rows L2 TL
/-! ### a word's signs, two ways -/
def bigL : Str := "ABCDEFGHIJKLMNOPQRSTUVWXYZ"
def lowL : Str := "abcdefghijklmnopqrstuvwxyz"
theorem bigL_codes : bigL.cps.toList = [65, 66, 67, 68, 69, 70, 71, 72, 73, 74, 75, 76, 77, 78, 79, 80, 81, 82, 83, 84, 85, 86, 87, 88, 89, 90] := by decide +kernel
theorem lowL_codes : lowL.cps.toList = [97, 98, 99, 100, 101, 102, 103, 104, 105, 106, 107, 108, 109, 110, 111, 112, 113, 114, 115, 116, 117, 118, 119, 120, 121, 122] := by decide +kernel
theorem between_big (c : Nat) : Gc.between "A" "Z" c = decide (c ∈ bigL.cps.toList) := by
  unfold Gc.between
  rw [show ("A" : Str).cps.toList = [65] from by decide +kernel, show ("Z" : Str).cps.toList = [90] from by decide +kernel, bigL_codes]
  rw [Bool.eq_iff_iff]
  simp only [Bool.and_eq_true, Bool.not_eq_true', decide_eq_false_iff_not, decide_eq_true_eq, lt_one, List.mem_cons, List.not_mem_nil, or_false]
  omega
theorem between_low (c : Nat) : Gc.between "a" "z" c = decide (c ∈ lowL.cps.toList) := by
  unfold Gc.between
  rw [show ("a" : Str).cps.toList = [97] from by decide +kernel, show ("z" : Str).cps.toList = [122] from by decide +kernel, lowL_codes]
  rw [Bool.eq_iff_iff]
  simp only [Bool.and_eq_true, Bool.not_eq_true', decide_eq_false_iff_not, decide_eq_true_eq, lt_one, List.mem_cons, List.not_mem_nil, or_false]
  omega
def outs (z l : List Nat) : List Nat := z.filter fun c => !decide (c ∈ l)
theorem outs_more {z l : List Nat} {i c : Nat} (h : z[i]? = some c) : outs (z.take (i + 1)) l = outs (z.take i) l ++ (if c ∈ l then [] else [c]) := by
  unfold outs
  rw [List.take_add_one, h, List.filter_append]
  congr 1
  by_cases e : c ∈ l
  · simp [e]
  · simp [e]
theorem outs_len (z l : List Nat) : (outs z l).length ≤ z.length := List.length_filter_le _ _
theorem all_outs (l m : List Nat) (p : Nat → Bool) (hp : ∀ c, p c = decide (c ∈ m)) : l.all p = decide (outs l m = []) := by
  rw [Bool.eq_iff_iff, List.all_eq_true, decide_eq_true_eq]
  unfold outs
  rw [List.filter_eq_nil_iff]
  constructor
  · intro h c hc
    have h2 := h c hc
    rw [hp] at h2
    rw [h2]
    simp
  · intro h c hc
    have h2 := h c hc
    rw [hp]
    simpa using h2
def sizeB (z : Str) : Bool := decide (1 ≤ (z.length : Int)) && decide ((z.length : Int) ≤ 12)
theorem word_big (z : Str) : wordB z "A" "Z" = (sizeB z && decide (outs (tl z) (tl bigL) = [])) := by
  unfold wordB sizeB
  rw [all_outs _ bigL.cps.toList _ between_big, Bool.and_assoc]
theorem word_low (z : Str) : wordB z "a" "z" = (sizeB z && decide (outs (tl z) (tl lowL) = [])) := by
  unfold wordB sizeB
  rw [all_outs _ lowL.cps.toList _ between_low, Bool.and_assoc]
/-! ### lines and texts -/
def lineT (r : Rule) : List Nat := tl r.1 ++ 58 :: r.2.flatMap (fun s => 32 :: tl s)
def writeT (G : List Rule) : List Nat := G.flatMap (fun r => lineT r ++ [10])
def lineS (r : Rule) : Str := r.1 ++ (":" : Str) ++ Txt.join "" (r.2.map (fun s => (" " : Str) ++ s)) ++ ("\n" : Str)
def writeS (G : List Rule) : Str := Txt.join "" (G.map lineS)
theorem nil_tl : tl ("" : Str) = [] := by decide +kernel
theorem joinL_nil : ∀ l : List (List Nat), joinL [] l = l.flatten
  | [] => rfl
  | [p] => by simp [joinL]
  | p :: q :: r => by
    show p ++ ([] ++ joinL [] (q :: r)) = _
    rw [joinL_nil (q :: r)]
    simp
theorem join0_tl (parts : List Str) : tl (Txt.join "" parts) = parts.flatMap tl := by
  rw [join_eq, tl_join, nil_tl, joinL_nil, List.flatMap_def]
theorem lineS_tl (r : Rule) : tl (lineS r) = lineT r ++ [10] := by
  unfold lineS lineT
  rw [tl_append, tl_append, tl_append, join0_tl, colon_tl, nl_tl, List.flatMap_map]
  have : (fun s : Str => tl ((" " : Str) ++ s)) = fun s => 32 :: tl s := by
    funext s
    rw [tl_append, space_tl]
    rfl
  rw [this]
  simp
theorem writeS_tl (G : List Rule) : tl (writeS G) = writeT G := by
  unfold writeS writeT
  rw [join0_tl, List.flatMap_map]
  congr 1
  funext r
  exact lineS_tl r
theorem joinL_space : ∀ (l : List (List Nat)) (p : List Nat), joinL [32] (p :: l) = p ++ l.flatMap (fun s => 32 :: s)
  | [], p => by simp [joinL]
  | q :: r, p => by
    show p ++ ([32] ++ joinL [32] (q :: r)) = _
    rw [joinL_space r q]
    simp
theorem law_line (r : Rule) : Txt.join " " ((r.1 ++ (":" : Str)) :: r.2) ++ ("\n" : Str) = lineS r := by
  refine tl_inj ?_
  rw [tl_append, join_eq, tl_join, List.map_cons, space_tl, joinL_space, lineS_tl, tl_append, colon_tl, nl_tl, List.flatMap_map]
  unfold lineT
  simp
theorem writeS_nil : writeS [] = ("" : Str) := by decide +kernel
theorem writeS_snoc (G : List Rule) (r : Rule) : writeS (G ++ [r]) = writeS G ++ Txt.join " " ((r.1 ++ (":" : Str)) :: r.2) ++ ("\n" : Str) := by
  refine tl_inj ?_
  have e := law_line r
  have e2 := congrArg tl e
  rw [tl_append, lineS_tl] at e2
  rw [writeS_tl, tl_append, tl_append, writeS_tl, List.append_assoc, e2]
  unfold writeT
  simp
/-! ### the reading -/
def GoodR (r : Rule) : Prop := nameB r.1 = true ∧ r.2.length ≤ 6 ∧ r.2.all symB = true
theorem kind_codes {z : Str} (h : kindB z = true) : ∀ c ∈ tl z, 65 ≤ c ∧ c ≤ 90 := by
  intro c hc
  unfold kindB wordB at h
  rw [Bool.and_eq_true, Bool.and_eq_true, Bool.and_eq_true] at h
  have q := List.all_eq_true.mp h.1.2.2 c hc
  unfold Gc.between at q
  rw [show ("A" : Str).cps.toList = [65] from by decide +kernel, show ("Z" : Str).cps.toList = [90] from by decide +kernel] at q
  simp only [Bool.and_eq_true, Bool.not_eq_true', decide_eq_false_iff_not, lt_one] at q
  omega
theorem sym_codes {z : Str} (h : symB z = true) : ∀ c ∈ tl z, 65 ≤ c ∧ c ≤ 122 := by
  intro c hc
  unfold symB at h
  rw [Bool.or_eq_true] at h
  rcases h with h | h
  · have := kind_codes h c hc
    omega
  · have := name_codes h c hc
    omega
theorem spl_syms : ∀ (ss : List (List Nat)), (∀ p ∈ ss, 32 ∉ p) → spl [32] 0 [] (ss.flatMap fun s => 32 :: s) = [] :: ss
  | [], _ => spl_no (p := []) (fun m => nomatch m)
  | q :: r, h => by
    have e : ((q :: r).flatMap fun s => 32 :: s) = [] ++ 32 :: joinL [32] (q :: r) := by
      rw [joinL_space]
      simp
    rw [e, spl_at1 (by simp), spl_join (by simp) h]
theorem rule_back {l : Str} {r : Rule} (h : tl l = lineT r) (g : GoodR r) : ruleOf l = some r := by
  obtain ⟨rest, hr⟩ := str_of (r.2.flatMap fun s => 32 :: tl s)
  have el : l = r.1 ++ (":" : Str) ++ rest := tl_inj (by rw [h, tl_append, tl_append, hr, colon_tl]; unfold lineT; simp)
  have ep : Txt.partition l ":" = (r.1, (":" : Str), rest) := by
    rw [el]
    exact partition_app colon_tl (name_no g.1 (by decide))
  have es : spS rest = Str.empty :: r.2 := by
    refine map_tl_inj ?_
    rw [spS_tl, hr, List.map_cons]
    have := spl_syms (r.2.map tl) fun p hp => by
      obtain ⟨s, hs, rfl⟩ := List.mem_map.mp hp
      intro z
      have := sym_codes (List.all_eq_true.mp g.2.2 s hs) 32 z
      omega
    rw [List.flatMap_map] at this
    rw [this]
    rfl
  unfold ruleOf
  rw [ep]
  simp only [es]
  rw [if_pos ⟨g.1, by decide +kernel, rfl, g.2.1, g.2.2⟩]
  rfl
theorem rule_good {l : Str} {r : Rule} (h : ruleOf l = some r) : GoodR r := by
  unfold ruleOf at h
  split at h
  · rename_i c
    obtain rfl := Option.some.inj h
    exact ⟨c.1, c.2.2.2.1, c.2.2.2.2⟩
  · cases h
inductive Rd
  | line (k : Nat)
  | taken (k : Nat)
  | large (k : Nat)
  | good (G : List Rule)
def rdGo : Nat → List Rule → List Str → Rd
  | _, G, [] => .good G
  | k, G, l :: ls => match ruleOf l with
    | none => .line k
    | some r => if r ∈ G then .taken k else if 24 ≤ k then .large k else rdGo (k + 1) (G ++ [r]) ls
def rdEnd (n : Nat) (u : Str) : Rd → Rd
  | .good G => if u ≠ "" ∨ n = 0 then .line n else .good G
  | x => x
/-- what reading a text gives: of its parts at newlines, the last one apart -/
def rd (ls : List Str) : Rd := rdEnd ls.dropLast.length (ls.getLast?.getD "") (rdGo 0 [] ls.dropLast)
def linesOf (x : Str) : List Str := Txt.split x "\n"
theorem linesOf_tl (x : Str) : (linesOf x).map tl = spl [10] 0 [] (tl x) := by
  have h := split_spl x "\n" (by rw [nl_tl]; simp) (kind_nl x)
  rw [nl_tl] at h
  exact h
theorem linesOf_ne (x : Str) : linesOf x ≠ [] := fun e => by
  have h := linesOf_tl x
  obtain ⟨p, r, q, _⟩ := spl_ne 10 (tl x)
  rw [e, q] at h
  cases h
theorem spl_lines : ∀ G : List Rule, (∀ r ∈ G, 10 ∉ lineT r) → spl [10] 0 [] (writeT G) = G.map lineT ++ [[]]
  | [], _ => spl_no (p := []) (fun m => nomatch m)
  | r :: G, h => by
    have e : writeT (r :: G) = lineT r ++ 10 :: writeT G := by
      unfold writeT
      simp
    rw [e, spl_at1 (h r List.mem_cons_self), spl_lines G fun q hq => h q (List.mem_cons_of_mem _ hq)]
    rfl
theorem line_no10 {r : Rule} (g : GoodR r) : 10 ∉ lineT r := by
  intro m
  unfold lineT at m
  rcases List.mem_append.mp m with m | m
  · exact name_no g.1 (by decide) m
  · rcases List.mem_cons.mp m with m | m
    · cases m
    · obtain ⟨s, hs, q⟩ := List.mem_flatMap.mp m
      rcases List.mem_cons.mp q with q | q
      · cases q
      · have := sym_codes (List.all_eq_true.mp g.2.2 s hs) 10 q
        omega
def lineO (r : Rule) : Str := ⟨(lineT r).toArray⟩
theorem lines_back {x : Str} {G : List Rule} (h : tl x = writeT G) (g : ∀ r ∈ G, GoodR r) : linesOf x = G.map lineO ++ [("" : Str)] := by
  refine map_tl_inj ?_
  rw [linesOf_tl, h, spl_lines G fun r hr => line_no10 (g r hr), List.map_append, List.map_map]
  rfl
theorem rdGo_back : ∀ (G A : List Rule), (∀ r ∈ G, GoodR r) → (A ++ G).Nodup → A.length + G.length ≤ 24 → rdGo A.length A (G.map lineO) = .good (A ++ G)
  | [], A, _, _, _ => by
    rw [List.append_nil]
    rfl
  | r :: G, A, g, nd, h => by
    rw [List.map_cons]
    unfold rdGo
    rw [rule_back (l := lineO r) (r := r) rfl (g r List.mem_cons_self)]
    have h2 : r ∉ A := fun m => by
      rw [List.nodup_append] at nd
      exact nd.2.2 r m r List.mem_cons_self rfl
    have h3 : A.length + G.length + 1 ≤ 24 := by
      rw [List.length_cons] at h
      omega
    simp only
    rw [if_neg h2, if_neg (by omega)]
    have e : A ++ r :: G = (A ++ [r]) ++ G := by simp
    have l : A.length + 1 = (A ++ [r]).length := by simp
    rw [e, l]
    refine rdGo_back G (A ++ [r]) (fun q hq => g q (List.mem_cons_of_mem _ hq)) (by rw [← e]; exact nd) ?_
    rw [← l]
    omega
/-- THE READ-BACK -/
theorem rd_back {G : List Rule} (g : ∀ r ∈ G, GoodR r) (nd : G.Nodup) (n0 : G ≠ []) (h : G.length ≤ 24) : rd (linesOf (writeS G)) = .good G := by
  rw [lines_back (writeS_tl G) g]
  unfold rd
  rw [List.dropLast_concat, List.getLast?_concat]
  have := rdGo_back G [] g nd (by simpa using h)
  rw [List.length_nil, List.nil_append] at this
  rw [this]
  unfold rdEnd
  simp only
  rw [if_neg]
  rintro (z | z)
  · exact z rfl
  · rw [List.length_map] at z
    exact n0 (List.eq_nil_of_length_eq_zero z)
theorem rd_empty : rd (linesOf "") = .line 0 := by
  have e : linesOf "" = [("" : Str)] := by
    refine map_tl_inj ?_
    rw [linesOf_tl, nil_tl, spl_no (by simp)]
    rfl
  rw [e]
  unfold rd rdEnd rdGo
  simp
/-! ### lengths of parts -/
theorem spl_bound (s : Nat) : ∀ (n : Nat) (L : List Nat), L.length ≤ n → ∀ p ∈ spl [s] 0 [] L, p.length ≤ L.length
  | n, L, h => by
    rcases cut_first s L with c | ⟨p, r, rfl, c⟩
    · rw [spl_no c]
      intro q hq
      rw [List.mem_singleton.mp hq]
      exact Nat.le_refl _
    · rw [spl_at1 c]
      intro q hq
      rw [List.length_append, List.length_cons] at h ⊢
      rcases List.mem_cons.mp hq with z | z
      · rw [z]
        omega
      · cases n with
        | zero => omega
        | succ m =>
          have := spl_bound s m r (by omega) q z
          omega
theorem spl_count (s : Nat) : ∀ (n : Nat) (L : List Nat), L.length ≤ n → (spl [s] 0 [] L).length ≤ L.length + 1
  | n, L, h => by
    rcases cut_first s L with c | ⟨p, r, rfl, c⟩
    · rw [spl_no c]
      show 1 ≤ _
      omega
    · rw [spl_at1 c]
      rw [List.length_append, List.length_cons] at h ⊢
      cases n with
      | zero => omega
      | succ m =>
        have := spl_count s m r (by omega)
        rw [List.length_cons]
        omega
theorem map_len {l : List Str} {p : Str} (h : p ∈ l) {n : Nat} (b : ∀ q ∈ l.map tl, q.length ≤ n) : p.length ≤ n := by
  rw [len_tl]
  exact b _ (List.mem_map.mpr ⟨p, h, rfl⟩)
theorem spS_len {x p : Str} (h : p ∈ spS x) : p.length ≤ x.length := map_len h (by rw [spS_tl, len_tl]; exact spl_bound 32 _ _ (Nat.le_refl _))
theorem lines_len {x p : Str} (h : p ∈ linesOf x) : p.length ≤ x.length := map_len h (by rw [linesOf_tl, len_tl]; exact spl_bound 10 _ _ (Nat.le_refl _))
theorem spS_count (x : Str) : (spS x).length ≤ x.length + 1 := by
  have := spl_count 32 _ (tl x) (Nat.le_refl _)
  rw [← spS_tl, List.length_map, ← len_tl] at this
  exact this
theorem lines_count (x : Str) : (linesOf x).length ≤ x.length + 1 := by
  have := spl_count 10 _ (tl x) (Nat.le_refl _)
  rw [← linesOf_tl, List.length_map, ← len_tl] at this
  exact this
theorem spS_cons (x : Str) : ∃ w ws, spS x = w :: ws := by
  cases h : spS x with
  | cons w ws => exact ⟨w, ws, rfl⟩
  | nil =>
    obtain ⟨p, r, e, _⟩ := spl_ne 32 (tl x)
    have := spS_tl x
    rw [h, e] at this
    cases this
theorem part_len (z : Str) : (Txt.partition z ":").1.length ≤ z.length ∧ (Txt.partition z ":").2.2.length ≤ z.length := by
  rcases cut_first 58 (tl z) with h | ⟨A, R, hL, hA⟩
  · rw [partition_none colon_tl h]
    exact ⟨Nat.le_refl _, Nat.zero_le _⟩
  · obtain ⟨a, ha⟩ := str_of A
    obtain ⟨r, hr⟩ := str_of R
    have el : z = a ++ (":" : Str) ++ r := tl_inj (by rw [tl_append, tl_append, ha, hr, colon_tl, hL]; simp)
    have ep : Txt.partition z ":" = (a, (":" : Str), r) := by
      rw [el]
      exact partition_app colon_tl (by rw [ha]; exact hA)
    rw [ep, len_tl z, hL, List.length_append, List.length_cons, len_tl a, len_tl r, ha, hr]
    omega
theorem cutV_tail (x : V) (xs : List V) : cutV (x :: xs) (some 1) none = xs := by
  unfold cutV HT.sIx
  simp only [List.length_cons]
  have e : min (1 : Int).toNat (xs.length + 1) = 1 := by
    have : (1 : Int).toNat = 1 := rfl
    omega
  rw [if_neg (by decide)]
  rw [e]
  simp
/-! ### as data -/
def ruleD (r : Rule) : PyData := .tuple [.str r.1, .list (r.2.map PyData.str)]
def gD (G : List Rule) : PyData := .list (G.map ruleD)
theorem strs_eqv : ∀ xs ys : List Str, PyData.eqvAll (xs.map PyData.str) (ys.map PyData.str) = decide (xs = ys)
  | [], [] => by simp [PyData.eqvAll]
  | [], _ :: _ => by simp [PyData.eqvAll]
  | _ :: _, [] => by simp [PyData.eqvAll]
  | x :: xs, y :: ys => by
    rw [List.map_cons, List.map_cons, PyData.eqvAll, strs_eqv xs ys, PyData.eqv, Bool.eq_iff_iff]
    simp
theorem ruleD_eqv (r q : Rule) : PyData.eqv (ruleD r) (ruleD q) = decide (r = q) := by
  obtain ⟨a, s⟩ := r
  obtain ⟨b, t⟩ := q
  unfold ruleD
  rw [PyData.eqv, PyData.eqvAll, PyData.eqvAll, PyData.eqvAll, PyData.eqv, PyData.eqv, strs_eqv, Bool.eq_iff_iff]
  simp
theorem ruleD_in (G : List Rule) (r : Rule) : ((G.map ruleD).any fun z => PyData.eqv z (ruleD r)) = decide (r ∈ G) := by
  rw [Bool.eq_iff_iff, List.any_eq_true, decide_eq_true_eq]
  constructor
  · rintro ⟨z, hz, e⟩
    obtain ⟨q, hq, rfl⟩ := List.mem_map.mp hz
    rw [ruleD_eqv, decide_eq_true_eq] at e
    rw [← e]
    exact hq
  · intro h
    exact ⟨ruleD r, List.mem_map.mpr ⟨r, h, rfl⟩, by rw [ruleD_eqv]; simp⟩
theorem strOk_sym {z : Str} (h : symB z = true) : PyData.strOk z = true := by
  unfold PyData.strOk
  rw [Array.all_eq_true']
  intro c hc
  have := sym_codes h c (by simpa using hc)
  exact decide_eq_true (by omega)
theorem strs_lay : ∀ {ss : List Str}, (∀ s ∈ ss, PyData.strOk s = true) → PyData.canLayAll0 (ss.map PyData.str) = true
  | [], _ => by simp [PyData.canLayAll0]
  | s :: ss, h => by
    rw [List.map_cons, PyData.canLayAll0, PyData.canLay0, h s List.mem_cons_self, strs_lay fun z hz => h z (List.mem_cons_of_mem _ hz)]
    rfl
theorem strs_depth : ∀ ss : List Str, PyData.depthAll (ss.map PyData.str) ≤ 0
  | [] => by simp [PyData.depthAll]
  | s :: ss => by
    have := strs_depth ss
    simp only [List.map_cons, PyData.depthAll, PyData.depth]
    omega
theorem rule_lay {r : Rule} (g : GoodR r) : (ruleD r).canLay0 = true := by
  have h1 : PyData.strOk r.1 = true := strOk_sym (by unfold symB; rw [g.1, Bool.or_true])
  have h2 := strs_lay (ss := r.2) fun s hs => strOk_sym (List.all_eq_true.mp g.2.2 s hs)
  simp [ruleD, PyData.canLay0, PyData.canLayAll0, h1, h2]
theorem rule_depth (r : Rule) : (ruleD r).depth ≤ 2 := by
  have h := strs_depth r.2
  simp only [ruleD, PyData.depth, PyData.depthAll]
  omega
theorem rules_lay : ∀ {G : List Rule}, (∀ r ∈ G, GoodR r) → PyData.canLayAll0 (G.map ruleD) = true
  | [], _ => by simp [PyData.canLayAll0]
  | r :: G, g => by
    rw [List.map_cons, PyData.canLayAll0, rule_lay (g r List.mem_cons_self), rules_lay fun q hq => g q (List.mem_cons_of_mem _ hq)]
    rfl
theorem rules_depth : ∀ G : List Rule, PyData.depthAll (G.map ruleD) ≤ 2
  | [] => by simp [PyData.depthAll]
  | r :: G => by
    have h1 := rules_depth G
    have h2 := rule_depth r
    simp only [List.map_cons, PyData.depthAll]
    omega
theorem shaped_mk {d : PyData} (h1 : d.canLay0 = true) (h2 : d.depth ≤ 64) : SeqAt.shaped d = true := by
  unfold SeqAt.shaped
  rw [h1, decide_eq_true h2]
  rfl
theorem rule_shaped {r : Rule} (g : GoodR r) : SeqAt.shaped (ruleD r) = true := shaped_mk (rule_lay g) (by have := rule_depth r; omega)
theorem gD_shaped {G : List Rule} (g : ∀ r ∈ G, GoodR r) : SeqAt.shaped (gD G) = true := shaped_mk (by unfold gD; rw [PyData.canLay0]; exact rules_lay g) (by
  have := rules_depth G
  unfold gD
  simp only [PyData.depth]
  omega)
theorem eqv_self {d : PyData} (h : SeqAt.shaped d = true) : PyData.eqv d d = true := SeqAt.eqv_refl d (SeqAt.canLay_of_shaped h)
/-! ### what a reading gives, as data -/
def rdD : Rd → PyData
  | .line k => .tuple [.str "line", .int k]
  | .taken k => .tuple [.str "taken", .int k]
  | .large k => .tuple [.str "large", .int k]
  | .good G => .tuple [.str "grammar", gD G]
def RdOk : Rd → Prop
  | .good G => ∀ r ∈ G, GoodR r
  | _ => True
theorem rd_shaped {x : Rd} (h : RdOk x) : SeqAt.shaped (rdD x) = true := by
  cases x with
  | line k => exact shaped_mk (by simp [rdD, PyData.canLay0, PyData.canLayAll0]; decide +kernel) (by simp [rdD, PyData.depth, PyData.depthAll])
  | taken k => exact shaped_mk (by simp [rdD, PyData.canLay0, PyData.canLayAll0]; decide +kernel) (by simp [rdD, PyData.depth, PyData.depthAll])
  | large k => exact shaped_mk (by simp [rdD, PyData.canLay0, PyData.canLayAll0]; decide +kernel) (by simp [rdD, PyData.depth, PyData.depthAll])
  | good G =>
    have h1 : (gD G).canLay0 = true := SeqAt.canLay_of_shaped (gD_shaped h)
    have h2 : (gD G).depth ≤ 64 - 1 := by
      have := rules_depth G
      unfold gD
      simp only [PyData.depth]
      omega
    refine shaped_mk ?_ ?_
    · simp only [rdD, PyData.canLay0, PyData.canLayAll0, h1, Bool.and_true]
      decide +kernel
    · simp only [rdD, PyData.depth, PyData.depthAll]
      omega
end Ld

set_option Elab.async false
set_option linter.all false
set_option maxRecDepth 100000
set_option maxHeartbeats 4000000
/-! What stands stands, tables may grow; grammars in the heap. -/
namespace Ld
open PySem PySem.Spec PyProof.Rows L2 TL
/-- what stood stands, but that tables stay tables -/
def Up (H H2 : Hp) : Prop := ∀ b o, H b = some o → H2 b = some o ∨ ∃ ps qs, o = .tbl ps ∧ H2 b = some (.tbl qs)
theorem Up.refl (H : Hp) : Up H H := fun _ _ h => .inl h
theorem Up.trans {A B C : Hp} (u : Up A B) (v : Up B C) : Up A C := fun b o h => by
  rcases u b o h with e | ⟨ps, qs, rfl, e⟩
  · exact v b o e
  · rcases v b _ e with e2 | ⟨_, q2, _, e2⟩
    · exact .inr ⟨ps, qs, rfl, e2⟩
    · exact .inr ⟨ps, q2, rfl, e2⟩
theorem Up.dom {A B : Hp} (u : Up A B) {b : Addr} (h : B b = none) : A b = none := by
  cases e : A b with
  | none => rfl
  | some o =>
    rcases u b o e with e2 | ⟨_, _, _, e2⟩
    · rw [h] at e2; cases e2
    · rw [h] at e2; cases e2
theorem Up.lst {A B : Hp} (u : Up A B) {a : Addr} {xs : List V} (h : A a = some (.lst xs)) : B a = some (.lst xs) := by
  rcases u a _ h with e | ⟨_, _, z, _⟩
  · exact e
  · cases z
theorem Up.tup {A B : Hp} (u : Up A B) {a : Addr} {xs : List V} (h : A a = some (.tup xs)) : B a = some (.tup xs) := by
  rcases u a _ h with e | ⟨_, _, z, _⟩
  · exact e
  · cases z
theorem Up.xd {A B : Hp} (u : Up A B) {a : Addr} {fs : List (Str × V)} (h : A a = some (.xd fs)) : B a = some (.xd fs) := by
  rcases u a _ h with e | ⟨_, _, z, _⟩
  · exact e
  · cases z
theorem Up.seq {K : PySem.W.Frag} {A B : Hp} (u : Up A B) {a : Addr} {xs : List V} (h : SqL K A a xs) : SqL K B a xs := by
  rcases h with h | h
  · left
    rcases h with h | ⟨o, h⟩
    · exact .inl (u.lst h)
    · right
      refine ⟨o, ?_⟩
      rcases u a _ h with e | ⟨_, _, z, _⟩
      · exact e
      · cases z
  · exact .inr h
theorem Up.seqT {K : PySem.W.Frag} {A B : Hp} (u : Up A B) {a : Addr} {xs : List V} (h : SqT K A a xs) : SqT K B a xs := by
  rcases h with h | h
  · left
    rcases h with h | ⟨o, h⟩
    · exact .inl (u.tup h)
    · right
      refine ⟨o, ?_⟩
      rcases u a _ h with e | ⟨_, _, z, _⟩
      · exact e
      · cases z
  · exact .inr h
theorem Up.of_same {A B : Hp} (h : Same A B) : Up A B := fun b o e => .inl (h b o e)
theorem Up.upd {A B : Hp} (u : Up A B) {p : Addr} {o : HO} (n : A p = none) : Up A (upd B p o) := fun b x e => by
  have ne : b ≠ p := fun z => by rw [z, n] at e; cases e
  rw [upd_ne ne]
  exact u b x e
theorem Up.put (A : Hp) {p : Addr} {o : HO} (n : A p = none) : Up A (L2.upd A p o) := (Up.refl A).upd n
theorem Up.tabbed {A B : Hp} {T : Addr} (t : GxR.TabG A T) (h : GxR.Tabbed T A B) : Up A B := fun b o e => by
  by_cases z : b = T
  · subst z
    obtain ⟨ps, e1, _⟩ := t
    obtain ⟨qs, e2, _⟩ := h.1
    rw [e1] at e
    cases e
    exact .inr ⟨ps, qs, rfl, e2⟩
  · rw [← h.2 b z] at e
    exact .inl e
/-- the two tables -/
def Tb (T1 T2 : Addr) (H : Hp) : Prop := GxR.TabG H T1 ∧ GxR.TabG H T2
theorem tabG_upd {H : Hp} {T p : Addr} {o : HO} (h : GxR.TabG H T) (n : p ≠ T) : GxR.TabG (upd H p o) T := by
  obtain ⟨ps, e, t⟩ := h
  exact ⟨ps, by rw [upd_ne (Ne.symm n)]; exact e, t⟩
theorem tabG_new {H : Hp} {T p : Addr} {o : HO} (h : GxR.TabG H T) (n : H p = none) : GxR.TabG (upd H p o) T := tabG_upd h fun z => by
  obtain ⟨ps, e, _⟩ := h
  rw [z, e] at n
  cases n
theorem tabG_in {H : Hp} {T p : Addr} {o u : HO} (h : GxR.TabG H T) (n : H p = some u) (k : ∀ ps, u ≠ .tbl ps) : GxR.TabG (upd H p o) T := tabG_upd h fun z => by
  obtain ⟨ps, e, _⟩ := h
  rw [z, e] at n
  cases n
  exact k _ rfl
theorem Tb.new {T1 T2 : Addr} {H : Hp} (t : Tb T1 T2 H) {p : Addr} {o : HO} (n : H p = none) : Tb T1 T2 (upd H p o) := ⟨tabG_new t.1 n, tabG_new t.2 n⟩
theorem Tb.lst {T1 T2 : Addr} {H : Hp} (t : Tb T1 T2 H) {p : Addr} {o : HO} {xs : List V} (n : H p = some (.lst xs)) : Tb T1 T2 (upd H p o) := ⟨tabG_in t.1 n (fun _ z => by cases z), tabG_in t.2 n fun _ z => by cases z⟩
theorem tabbed_other {H H2 : Hp} {T T2 : Addr} (t : GxR.TabG H T2) (h : GxR.Tabbed T H H2) : GxR.TabG H2 T2 := by
  by_cases z : T2 = T
  · rw [z]
    exact h.1
  · obtain ⟨ps, e, k⟩ := t
    exact ⟨ps, by rw [h.2 T2 z]; exact e, k⟩
theorem Tb.on1 {T1 T2 : Addr} {H H2 : Hp} (t : Tb T1 T2 H) (h : GxR.Tabbed T1 H H2) : Tb T1 T2 H2 := ⟨h.1, tabbed_other t.2 h⟩
theorem Tb.on2 {T1 T2 : Addr} {H H2 : Hp} (t : Tb T1 T2 H) (h : GxR.Tabbed T2 H H2) : Tb T1 T2 H2 := ⟨tabbed_other t.1 h, h.1⟩
/-! ### what is new -/
def News (A B : Hp) : Hp := fun a => match A a with
  | none => B a
  | some _ => none
theorem news_of {A B : Hp} {a : Addr} (h : A a = none) : News A B a = B a := by
  unfold News
  rw [h]
theorem news_at {A B : Hp} {a : Addr} {o : HO} (h : News A B a = some o) : A a = none ∧ B a = some o := by
  unfold News at h
  cases e : A a with
  | none =>
    rw [e] at h
    exact ⟨rfl, h⟩
  | some _ =>
    rw [e] at h
    cases h
theorem news_same {A B : Hp} : Same (News A B) B := fun _ _ h => (news_at h).2
theorem News.up {A B C : Hp} (u : Up B C) : Up (News A B) (News A C) := fun b o h => by
  obtain ⟨n, e⟩ := news_at h
  rw [news_of n]
  exact u b o e
theorem News.less {A A2 B : Hp} (d : ∀ b, A2 b = none → A b = none) : Same (News A2 B) (News A B) := fun b o h => by
  obtain ⟨n, e⟩ := news_at h
  rw [news_of (d b n)]
  exact e
theorem News.put {A B : Hp} {p : Addr} {o u : HO} (h : A p = some u) : News A (upd B p o) = News A B := by
  funext b
  unfold News
  cases e : A b with
  | some _ => rfl
  | none =>
    have : b ≠ p := fun z => by rw [z, h] at e; cases e
    simp only
    rw [upd_ne this]
/-! ### rules and grammars in the heap -/
def RuleA (H : Hp) (v : V) (r : Rule) : Prop := ∃ t l, v = .ref t ∧ H t = some (.tup [.str r.1, .ref l]) ∧ H l = some (.lst (r.2.map V.str))
theorem RuleA.up {A B : Hp} (u : Up A B) {v : V} {r : Rule} (h : RuleA A v r) : RuleA B v r := by
  obtain ⟨t, l, e, h1, h2⟩ := h
  exact ⟨t, l, e, u.tup h1, u.lst h2⟩
def GrA (H : Hp) : List V → List Rule → Prop
  | [], [] => True
  | v :: vs, r :: G => RuleA H v r ∧ GrA H vs G
  | _, _ => False
theorem GrA.up {A B : Hp} (u : Up A B) : ∀ {vs : List V} {G : List Rule}, GrA A vs G → GrA B vs G
  | [], [], _ => True.intro
  | _ :: _, _ :: _, h => ⟨h.1.up u, h.2.up u⟩
  | [], _ :: _, h => h.elim
  | _ :: _, [], h => h.elim
theorem GrA.len {A : Hp} : ∀ {vs : List V} {G : List Rule}, GrA A vs G → vs.length = G.length
  | [], [], _ => rfl
  | _ :: _, _ :: _, h => by rw [List.length_cons, List.length_cons, h.2.len]
  | [], _ :: _, h => h.elim
  | _ :: _, [], h => h.elim
theorem GrA.get {A : Hp} : ∀ {vs : List V} {G : List Rule} {i : Nat} {v : V}, GrA A vs G → vs[i]? = some v → ∃ r, G[i]? = some r ∧ RuleA A v r
  | _ :: _, r :: _, 0, _, h, e => by
    cases e
    exact ⟨r, rfl, h.1⟩
  | _ :: _, _ :: _, i + 1, _, h, e => h.2.get (i := i) e
  | [], _, _, _, _, e => by cases e
  | _ :: _, [], _, _, h, _ => h.elim
theorem GrA.snoc {A : Hp} : ∀ {vs : List V} {G : List Rule} {v : V} {r : Rule}, GrA A vs G → RuleA A v r → GrA A (vs ++ [v]) (G ++ [r])
  | [], [], _, _, _, q => ⟨q, True.intro⟩
  | _ :: _, _ :: _, _, _, h, q => ⟨h.1, h.2.snoc q⟩
  | [], _ :: _, _, _, h, _ => h.elim
  | _ :: _, [], _, _, h, _ => h.elim
def GraA (H : Hp) (g : Addr) (G : List Rule) : Prop := ∃ vs, H g = some (.lst vs) ∧ GrA H vs G
theorem GraA.up {A B : Hp} (u : Up A B) {g : Addr} {G : List Rule} (h : GraA A g G) : GraA B g G := by
  obtain ⟨vs, e, q⟩ := h
  exact ⟨vs, u.lst e, q.up u⟩
theorem dp_strs {K : PySem.W.Frag} {H : Hp} : ∀ xs : List Str, DpAll K H (xs.map V.str) (xs.map PyData.str)
  | [] => .nil
  | x :: xs => .cons (.str x) (dp_strs xs)
theorem RuleA.dp {K : PySem.W.Frag} {H : Hp} {v : V} {r : Rule} (h : RuleA H v r) : Dp K H v (ruleD r) := by
  obtain ⟨t, l, rfl, h1, h2⟩ := h
  exact .tup (SqT.of h1) (.cons (.str _) (.cons (.lst (SqL.of h2) (dp_strs _)) .nil))
theorem GrA.dp {K : PySem.W.Frag} {H : Hp} : ∀ {vs : List V} {G : List Rule}, GrA H vs G → DpAll K H vs (G.map ruleD)
  | [], [], _ => .nil
  | _ :: _, _ :: _, h => .cons h.1.dp h.2.dp
  | [], _ :: _, h => h.elim
  | _ :: _, [], h => h.elim
theorem GraA.dp {K : PySem.W.Frag} {H : Hp} {g : Addr} {G : List Rule} (h : GraA H g G) : Dp K H (.ref g) (gD G) := by
  obtain ⟨vs, e, q⟩ := h
  exact .lst (SqL.of e) q.dp
/-- grammars that a law hands in -/
def GoodG (most : Nat) (G : List Rule) : Prop := (∀ r ∈ G, GoodR r) ∧ G.Nodup ∧ G ≠ [] ∧ G.length ≤ most
end Ld

set_option Elab.async false
set_option linter.all false
set_option maxRecDepth 100000
set_option maxHeartbeats 4000000
/-! Small facts that many laws use. -/
namespace Ld
open PySem PySem.Spec PyProof.Rows L2
theorem same_put {A B : Hp} (u : Same A B) {p : Addr} {o : HO} (n : A p = none) : Same A (upd B p o) := fun b x e => by
  rw [upd_ne (ne_of_none e n)]
  exact u b x e
theorem million0 {n : Nat} (h : n ≤ 1000000) : n ≤ sizeLine := Nat.le_trans h (by decide)
theorem million1 {n : Nat} (h : n ≤ 1000000) : n < sizeLine := Nat.lt_of_le_of_lt h (by decide)
theorem str_at {ss : List Str} {j : Nat} {x : V} (h : (ss.map V.str)[j]? = some x) : ∃ s, ss[j]? = some s ∧ x = V.str s := by
  rw [List.getElem?_map] at h
  cases e : ss[j]? with
  | none =>
    rw [e] at h
    cases h
  | some s =>
    rw [e] at h
    exact ⟨s, rfl, (Option.some.inj h).symm⟩
theorem cut_map {ss : List Str} {i k : Nat} (h : k ≤ ss.length) (h2 : i ≤ k) : cutV (ss.map V.str) (some (i : Int)) (some (k : Int)) = ((ss.drop i).take (k - i)).map V.str := by
  unfold cutV
  rw [HT.sIx_nat, HT.sIx_nat, List.length_map, Nat.min_eq_left h, Nat.min_eq_left (Nat.le_trans h2 h), List.map_take, List.map_drop]
end Ld

set_option Elab.async false
set_option linter.all false
set_option maxRecDepth 100000
set_option maxHeartbeats 4000000
/-! repr of data, where nothing is being shown already; a law that is called where nothing is being shown. -/
namespace Lg
open PySem PySem.Spec PyProof.Rows L2 LamX GxR
/-- repr of data at any depth -/
def rRepr (K : PySem.W.Frag) : List V → Hp → VK → Prop := fun xs H Q => ∃ (a : Addr) (d : PyData), xs = [.ref a] ∧ Dp K H (.ref a) d ∧ d.showable = true ∧ SeqAt.shaped d = true ∧ d.shown.length ≤ sizeLine ∧ Q (.str d.shown) H
theorem call_repr {X : Cx} (hg : X.A.guards = some []) (hu : X.A.units + 66 < cLine) : CallR X (.builtin "repr") (rRepr X.K) := by
  intro pins s σ H xs us Q I r h
  obtain ⟨a, d, rfl, hd, show_, shp, sz, q⟩ := h
  obtain ⟨u, rfl, rx⟩ := vals1 r
  obtain rfl : u = Value.ref a := rx
  obtain ⟨as, r1⟩ := Dp.reads I d _ _ hd rfl
  have dep := SeqAt.depth_of_shaped shp
  refine repr_of_reads' r1 show_ (PyData.noDict_hsm (PyData.hasDict_of_canLay d (SeqAt.canLay_of_shaped shp))) hg (by omega) (fun _ _ e => e) (fun h2 v tk up => ?_) sz
  exact ⟨.str _, H, I.kept up, ⟨v, rfl⟩, q⟩
/-- the def at fa keeps sp where it is called by no def at all -/
structure Top (P : Program) (w : World) (K : PySem.W.Frag) (mg : Str → Option Value) (base : Heap) (CX : CXT) (fa : Addr) (fd : FuncData) (ps : List Str) (sp : Sp) : Prop where
  len : ∀ vs H Q E, sp vs H Q E → vs.length = ps.length
  run : ∀ (s : Shared) (H : Hp) (args : Args) (us : List Value) (vs : List V) (Q : VK) (E : XK), Env0 P w K mg base callerA [] s H → BindsTo s fd args (ps.zip us) → Vals vs us → sp vs H Q E →
    codeAny (model P w) callerA (.call (.ref fa) args) (CR CX [] P w H s Q E) s
section
variable {P : Program} {w : World} {K : PySem.W.Frag} {mg : Str → Option Value} {base : Heap}
theorem top_ok {x qual : Str} {st : Stmt} {f : Addr} {fd : FuncData} {N ps : List Str} {k : Nat} {sp : Sp} (F : Fun K x qual st f fd) (S : FnScope N ps (defScope st)) (room : Room (k + 1) callerA) (len : ∀ vs H Q E, sp vs H Q E → vs.length = ps.length)
    (hbody : ∀ (cdv : Value) (s : Shared) (H : Hp) (vs : List V) (Q : VK) (E : XK), Room k (callerA.deeper (envOfC qual (defScope st) s.heap.objs.size f cdv)) → sp vs H Q E →
      ∃ t, PSs (cxOf CX0 P w K mg base N qual (defScope st) f cdv callerA [] s H E).nox (defBody st) t ∧ t { nx := fun _ H' => Q .non H', rt := Q } (start N vs) H) : Top P w K mg base CX0 f fd ps sp := by
  obtain ⟨oc, od, kV, doc, pm, an, cdv, ct, osl, rfl, lk, code⟩ := F.ex
  refine ⟨len, fun s H args us vs Q E e0 bind rel want => ?_⟩
  have count := len _ _ _ _ want
  have inK : K.In s.heap := e0.mod.kin.keeps fun b o e => (e0.bs b o e).1
  have lim : s.heap.NoLimit := e0.mod.nolimit.keeps fun b o e => (e0.bs b o e).1
  have kinds : ∀ y ∈ ps.zip us, (defScope st).names.lookup y.1 = some .local ∨ ((defScope st).names.lookup y.1 = some .cell ∧ ((cellsFrom (s.heap.objs.size + 1) (defScope st).names []).lookup y.1).isSome = true) := by
    rintro ⟨n, v⟩ hy
    exact (S.par n (List.of_mem_zip hy).1).imp_right fun q => ⟨q, PySem.W.cellsFrom_some _ _ _ (.inl q)⟩
  refine codeAny_call_function room.depth (inK _ _ lk) rfl S.co S.gen rfl (PySem.W.codeRec_of inK code) (bind _ _ _ _ ?_)
  refine wpAny_newFunctionEnv_cells S.kind kinds fun env made s1 x => ?_
  subst made
  refine ⟨lim.keeps x.toInCall.keep, codeAny_func ?_⟩
  obtain ⟨t, body, reads⟩ := hbody cdv s H vs Q E (room.deeper _) want
  have I : Inv (cxOf CX0 P w K mg base N qual (defScope st) f cdv callerA [] s H E) [] (start N vs) H s1 := inv_start S room.hd e0 count rel x
  refine wpAny_mono (body.nox.run [] s1 (start N vs) H _ I reads) (fun fl s2 ends => ?_) fun e s2 z => z
  cases fl with
  | brk =>
    obtain ⟨_, _, _, z⟩ := ends
    exact False.elim z
  | cont =>
    obtain ⟨_, _, _, z⟩ := ends
    exact False.elim z
  | next =>
    obtain ⟨σ2, H2, J, q⟩ := ends
    exact ⟨V.non, H2, J.os, J.bare, J.base, J.hok, rfl, q⟩
  | ret u =>
    obtain ⟨v, σ2, H2, J, rv, q⟩ := ends
    exact ⟨v, H2, J.os, J.bare, J.base, J.hok, rv, q⟩
/-- an object that is no table's and no list's is as it is where tables and the script are hidden -/
theorem top_call {cs : List (Addr × Addr)} {fd : FuncData} {x : Str} {sp : Sp} {t1 : Shared} {mb : Str → Option Value} {vals : List Value} {nums : List Int} {fa a : Addr} (inK : K.In t1.heap) (top : t1.heap.Ns mainGlobals mg) (blt : t1.heap.Ns builtinsNs mb) (sameB : ∀ x : Str, x ≠ "__name__" → mb x = bootBuiltins x)
    (lim : t1.heap.NoLimit) (noGens : t1.gens = #[]) (tabs : ∀ p ∈ cs, t1.heap.get? p.2 = some { cls := .none, data := .fields #[] }) (tabsK : ∀ p ∈ cs, K.lookup p.2 = none) (codes : ∀ p ∈ cs, PySem.W.CodeHd t1.heap p.1 p.2)
    (modB : ∃ (bm : Addr) (ob : Obj), mg "__builtins__" = some (.ref bm) ∧ bm ≠ builtinsNs ∧ t1.heap.get? bm = some ob ∧ ob.cls = .type "module" ∧ ob.dict = some builtinsNs ∧ ob.data = .plain)
    (script : t1.heap.get? a = some { cls := .type "list", data := .seq vals.toArray }) (areInts : IntsAre vals nums) (fits : nums.length ≤ sizeLine)
    (F : ∀ base : Heap, K.In base → base.Ns mainGlobals mg → (∀ p ∈ cs, LamX.TabB base mg p.1 p.2) → Top P w K mg base CX0 fa fd [x] sp) (bind : ∀ (s : Shared) (u : Value), BindsTo s fd ⟨[u], []⟩ [(x, u)])
    (want : ∀ H : Hp, (∀ p ∈ cs, H p.2 = some (.tbl #[])) → SqL K H a (nums.map V.int) → sp [.ref a] H (fun v _ => v = .bl true) fun _ _ _ => False) :
    codeAny (model P w) callerA (.call (.ref fa) ⟨[.ref a], []⟩) (fun r s' => r = .ok (.ret (.bool true)) ∧ OldK t1.heap s'.heap ∧ s'.os = t1.os ∧ AllBare s'.gens) t1 := by
  have rel := vals_ints areInts
  have lenV := areInts.length
  let Tm := cs.map (·.2)
  let lst : Obj := { cls := .type "list", data := .seq vals.toArray }
  have memT : ∀ p ∈ cs, p.2 ∈ Tm := fun p hp => List.mem_map.mpr ⟨p, hp, rfl⟩
  have isT : ∀ b ∈ Tm, ∃ p ∈ cs, p.2 = b ∧ t1.heap.get? b = some { cls := .none, data := .fields #[] } := fun b mem => by
    obtain ⟨p, hp, rfl⟩ := List.mem_map.mp mem
    exact ⟨p, hp, rfl, tabs p hp⟩
  have aT : a ∉ Tm := fun mem => by
    obtain ⟨_, _, _, e⟩ := isT a mem
    have := (congrArg Obj.data (Option.some.inj (script.symm.trans e)))
    cases this
  -- the tables, and the script unless it is written: nothing else is tracked
  obtain ⟨H, hT, hS, cases_⟩ : ∃ H : Hp, (∀ p ∈ cs, H p.2 = some (.tbl #[])) ∧ SqL K H a (nums.map V.int) ∧ ∀ b u, H b = some u → (b ∈ Tm ∧ u = .tbl #[]) ∨ (b = a ∧ K.lookup a = none ∧ u = .frz lst (.lst (nums.map V.int))) := by
    cases at_ : K.lookup a with
    | some o =>
      have e := inK a o at_
      rw [script] at e
      cases e
      refine ⟨fun b => if b ∈ Tm then some (.tbl #[]) else none, fun p hp => if_pos (memT p hp), .inr ⟨_, vals.toArray, _, at_, rfl, rfl, rfl, by rw [List.size_toArray, lenV]; exact fits, by simpa using rel⟩, fun b u z => ?_⟩
      by_cases mem : b ∈ Tm
      · exact .inl ⟨mem, (Option.some.inj ((if_pos mem).symm.trans z)).symm⟩
      · cases (if_neg mem).symm.trans z
    | none =>
      refine ⟨fun b => if b ∈ Tm then some (.tbl #[]) else if b = a then some (.frz lst (.lst (nums.map V.int))) else none, fun p hp => if_pos (memT p hp), .inl (.inr ⟨lst, (if_neg aT).trans (if_pos rfl)⟩), fun b u z => ?_⟩
      by_cases mem : b ∈ Tm
      · exact .inl ⟨mem, (Option.some.inj ((if_pos mem).symm.trans z)).symm⟩
      · have z2 := (if_neg mem).symm.trans z
        by_cases e : b = a
        · exact .inr ⟨e, rfl, (Option.some.inj ((if_pos e).symm.trans z2)).symm⟩
        · cases (if_neg e).symm.trans z2
  have off : ∀ {b : Addr} {o : Obj}, t1.heap.get? b = some o → o.data ≠ .fields #[] → (b = a → K.lookup a = none → False) → H b = none := fun {b o} e d n => by
    cases q : H b with
    | none => rfl
    | some u =>
      rcases cases_ b u q with ⟨mem, _⟩ | ⟨e2, k, _⟩
      · obtain ⟨_, _, _, e3⟩ := isT b mem
        rw [e3] at e
        cases e
        exact (d rfl).elim
      · exact (n e2 k).elim
  have offD : ∀ {b : Addr} {o : Obj}, t1.heap.get? b = some o → o.data ≠ .fields #[] → o.data ≠ .seq vals.toArray → H b = none := fun {b o} e d1 d2 => off e d1 fun e2 _ => by
    rw [e2, script] at e
    cases e
    exact d2 rfl
  have ok : HOk P w H t1.heap := fun b u z => by
    rcases cases_ b u z with ⟨mem, rfl⟩ | ⟨rfl, _, rfl⟩
    · obtain ⟨_, _, _, e⟩ := isT b mem
      exact e
    · exact ⟨script, by rw [List.length_map]; exact fits, vals, _, rel, script⟩
  have nsB : ∀ {b : Addr} {m : Str → Option Value}, t1.heap.Ns b m → (hidT t1.heap H).Ns b m := fun {b m} ⟨o, es, ep, e, d, r⟩ => by
    refine ⟨o, es, ep, hidT_get e (offD e ?_ ?_), d, r⟩
    · rw [d]
      intro z
      cases z
    · rw [d]
      intro z
      cases z
  have inB : K.In (hidT t1.heap H) := fun b o e => by
    refine hidT_get (inK b o e) ?_
    cases q : H b with
    | none => rfl
    | some u =>
      rcases cases_ b u q with ⟨mem, _⟩ | ⟨e2, k, _⟩
      · obtain ⟨p, hp, e3, _⟩ := isT b mem
        rw [← e3, tabsK p hp] at e
        cases e
      · rw [e2, k] at e
        cases e
  have tabB : ∀ p ∈ cs, LamX.TabB (hidT t1.heap H) mg p.1 p.2 := fun p hp => by
    obtain ⟨og, eg, epg, atG, dG, _⟩ := id top
    have tp := tabs p hp
    refine ⟨?_, ?_, fun z => ?_⟩
    · obtain ⟨o, us, file, tf, flags, tg, inF, text, tt, e1, r1, r2, r3, r4, r5, r6, r7, r8, ne⟩ := codes p hp
      refine ⟨o, us, file, tf, flags, tg, inF, text, tt, hidT_get e1 (offD e1 ?_ ?_), r1, r2, r3, r4, r5, r6, r7, r8, ne⟩
      · rw [r2]
        intro z
        cases z
        simp at r3
      · rw [r2]
        intro z
        cases z
    · obtain ⟨bm, ob, b1, b2, b3, b4, b5, b6⟩ := modB
      refine ⟨bm, ob, b1, b2, fun q => ?_, fun q => ?_, hidT_get b3 (offD b3 (by rw [b6]; intro z; cases z) (by rw [b6]; intro z; cases z)), b4, b5, b6⟩
      · rw [q, atG] at b3
        cases b3
        rw [dG] at b6
        cases b6
      · rw [q, tp] at b3
        cases b3
        cases b6
    · rw [z, tp] at atG
      cases atG
      cases dG
  have env0 : Env0 P w K mg (hidT t1.heap H) callerA [] t1 H := ⟨rfl, ⟨inB, nsB top, ⟨mb, nsB blt, sameB⟩, let ⟨mc, h1, h2⟩ := lim; ⟨mc, nsB h1, h2⟩⟩, fun b o e => of_hidT e, Nat.le_of_eq (hidT_size _ _), trivial, fun b hb => (List.not_mem_nil hb).elim, ok, .of_eq noGens⟩
  refine codeAny_mono ((F _ inB (nsB top) tabB).run t1 H ⟨[.ref a], []⟩ [.ref a] [.ref a] _ _ env0 (bind t1 (.ref a)) (.cons rfl .nil) (want H hT hS)) fun r s2 left => ?_
  cases r with
  | error e => exact (show False from left).elim
  | ok fl =>
    cases fl with
    | next => exact (show False from left).elim
    | brk => exact (show False from left).elim
    | cont => exact (show False from left).elim
    | ret u =>
      obtain ⟨v, H2, os2, bare2, un, ok2, ru, isTrue_⟩ := left
      obtain rfl : v = .bl true := isTrue_
      obtain rfl : u = Value.bool true := ru
      have grown : ∀ p ∈ cs, ∃ more : Array Value, s2.heap.get? p.2 = some { cls := .none, data := .fields more } := fun p hp => by
        obtain ⟨more, z⟩ := un.tbls p.2 #[] (hT p hp)
        exact ⟨_, ok2 p.2 _ z⟩
      have kept : ∀ b o, b ∉ Tm → t1.heap.get? b = some o → s2.heap.get? b = some o := fun b o out e => by
        cases q : H b with
        | none => exact un.keep b o e q (fun z => (List.not_mem_nil z).elim) (fun z => (List.not_mem_nil z).elim)
        | some u =>
          rcases cases_ b u q with ⟨mem, _⟩ | ⟨_, _, rfl⟩
          · exact (out mem).elim
          · obtain ⟨e1, _⟩ := ok b _ q
            obtain ⟨e2, _⟩ := ok2 b _ (un.frzs b _ _ q)
            rw [e] at e1
            cases e1
            exact e2
      refine ⟨rfl, ⟨fun b o e => ?_, fun b o e => ?_⟩, os2, bare2⟩
      · by_cases mem : b ∈ Tm
        · obtain ⟨p, hp, rfl, at_⟩ := isT b mem
          obtain ⟨more, hm⟩ := grown p hp
          rw [at_] at e
          cases e
          exact .inr (.inl ⟨((codes p hp).tab at_).isCodeTable, rfl, #[], more, rfl, by rw [Array.empty_append]; exact hm⟩)
        · exact .inl (kept b o mem e)
      · by_cases mem : b ∈ Tm
        · obtain ⟨p, hp, rfl, _⟩ := isT b mem
          obtain ⟨more, hm⟩ := grown p hp
          exact ⟨_, hm⟩
        · exact ⟨o, kept b o mem e⟩
end
/-- what is known of the law's promise at the head's heap -/
def LawTop (l : PySem.W.OpenLaw) (w : World) (K : PySem.W.Frag) (n : Nat) (x : Str) (mg : Str → Option Value) (fa : Addr) (h : Heap) : Prop :=
  ∃ (fd : FuncData) (cs : List (Addr × Addr)) (sp : Sp), (∀ p ∈ cs, PySem.W.CodeHd h p.1 p.2 ∧ h.get? p.2 = some { cls := .none, data := .fields #[] } ∧ K.lookup p.2 = none) ∧ (∀ (s : Shared) (u : Value), BindsTo s fd ⟨[u], []⟩ [(x, u)]) ∧
    (∀ (H : Hp) (a : Addr) (ns : List Int), ns.length ≤ n → (∀ p ∈ cs, H p.2 = some (.tbl #[])) → SqL K H a (ns.map V.int) → sp [.ref a] H (fun v _ => v = .bl true) fun _ _ _ => False) ∧
    ∀ base : Heap, K.In base → base.Ns mainGlobals mg → (∀ p ∈ cs, LamX.TabB base mg p.1 p.2) → Top l.prog w K mg base CX0 fa fd [x] sp
theorem walk_top {l : PySem.W.OpenLaw} {n : Nat} {q : Program} {loose : List Str} {XP : (Str → Option Value) → Heap → Prop} {YP : World → Heap → Prop} {d : PySem.DefRec} {K : Params → PySem.W.Frag} {x : Str}
    (most : l.most = some n) (fits : n ≤ sizeLine) (plain : d.params.defaults = []) (hY : ∀ (w : World) (h : Heap), YP w h → (K w.params).In h)
    (F : ∀ (w : World) (mg : Str → Option Value) (fa : Addr) (h : Heap), YP w h → (K w.params).In h → h.Ns mainGlobals mg → mg d.name = some (.ref fa) →
      (∀ (y : Str) (d' : PySem.DefRec) (c T : Addr), (recsOf q).find? (fun e => e.name == y) = some d' → PySem.W.tabIn (K w.params) y = some (c, T) → PySem.W.CodeHd h c T ∧ h.get? T = some { cls := .none, data := .fields #[] }) → LawTop l w (K w.params) n x mg fa h) :
    PySem.W.WalkO q loose XP YP l.row.toRowW d [] (fun f vs => PySem.call f vs) := by
  refine Att.attach_callB most plain fun w s₀ s1 mg mb fa o pm cd doc a vs ns G Y ho hd hcd hmg hobj hints hlen hbits hg => ?_
  have inK := hY w _ Y
  obtain ⟨fd, cs, sp, tabs, bind, want, prom⟩ := F w mg fa _ Y inK G.T.g hmg fun y d' c T found at_ => PySem.W.tab_of G.T inK found at_
  exact top_call inK G.T.g G.T.b G.T.builtins G.T.nolimit hg (fun p hp => (tabs p hp).2.1) (fun p hp => (tabs p hp).2.2) (fun p hp => (tabs p hp).1) G.T.bmain hobj hints (Nat.le_trans hlen fits) prom bind fun H hH hS => want H a ns hlen hH hS
end Lg

set_option Elab.async false
set_option linter.all false
set_option maxRecDepth 100000
set_option maxHeartbeats 4000000
/-! a != b of two dicts that are equal, their values lists. -/
namespace PySem.W
open PySem PySem.Spec PyProof.Rows
section
variable {K : Type} [DecidableEq K] {prog : Program} {w : World} {A : Around} {E : Value → Shared → Prop} {s : Shared} {knd : KeyKind prog w K}
theorem rcP_dictsNe {a b : Addr} {ka kb : List (K × Value)} {r : Bool} {Q : Value → Shared → Prop} (ha : (a == sysModules) = false) (hb : (b == sysModules) = false)
    (da : s.heap.DictOf knd a ka) (db : s.heap.DictOf knd b kb) (hu : A.units < cLine) (hits : ka.length = kb.length → KeqHitsP prog w A.in1 s kb ka r) (h : Q (.bool (!(ka.length == kb.length && r))) s) : wpAny (model prog w) A (compareOp .NotEq (.ref a) (.ref b)) Q E s := by
  refine wpAny_richCompare_same_room (op := .NotEq) da.typeIs db.typeIs PySem.F.slot_dict_ne (wpAny_call_entry PySem.F.slot_dict_ne da.typeIs PySem.F.entry_dict_ne ?_ (PySem.F.args_dict_ne_2 _ _)) hu
  show wpAny _ _ (Builtin.Dict.dictSlotArgs "__ne__" ⟨[.ref a, .ref b], []⟩ >>= _) _ _ s
  refine wpAny_bind ?_
  unfold Builtin.Dict.dictSlotArgs
  refine wpAny_bind (wpAny_notOrdered_dict da.typeIs ?_)
  show wpAny _ _ (pure (Value.ref a, Value.ref b)) _ _ s
  refine wpAny_pure ?_
  refine wpAny_bind (wpAny_isInstance (T := "dict") db.typeIs PySem.F.sub_dict_dict ?_)
  simp only [Bool.not_true, Bool.false_eq_true, if_false]
  refine wpAny_bind (wpAny_pure (wpAny_bind (wpAny_pure ?_)))
  refine wpAny_bind (samePairsP ha hb da db hits ?_)
  refine wpAny_pure ⟨_, rfl, ?_, ?_⟩
  · exact fun x => nomatch x
  · simpa using h
end
end PySem.W
namespace Ld
open PySem PySem.Spec PyProof.Rows L2
def rNeVD (K : PySem.W.Frag) : R2 := fun x y H Q => ∃ a b ks ls n, n ≤ 60 ∧ x = .ref a ∧ y = .ref b ∧ H a = some (.dK ks) ∧ H b = some (.dK ls) ∧ ks.length = ls.length ∧ (∀ p ∈ ks, ∃ u, valV ls p.1 = some u ∧ EqV K H n p.2 u) ∧ Q (.bl false) H
theorem op_neVD {X : Cx} (hu : X.A.units + 64 < cLine) : OpR X (compareOp .NotEq) (rNeVD X.K) := by
  intro pins s σ H x y v u Q I rx ry h
  obtain ⟨a, b, ks, ls, n, hn, rfl, rfl, ea, eb, hlen, hp, q⟩ := h
  obtain rfl : v = Value.ref a := rx
  obtain rfl : u = Value.ref b := ry
  obtain ⟨_, ya, va, ra, da⟩ := (show ObjOk X.prog X.w H s.heap a (.dK ks) from I.hok a _ ea)
  obtain ⟨_, yb, vb, rb, db⟩ := (show ObjOk X.prog X.w H s.heap b (.dK ls) from I.hok b _ eb)
  have hl : va.length = vb.length := by rw [← ra.length, ← rb.length]; exact hlen
  refine PySem.W.rcP_dictsNe (knd := mixKind X.prog X.w) (r := true) ya yb da db (by omega) (fun _ => hits_run (eqV_run I n X.A.in1 (by show X.A.units + 1 + n < cLine; omega)) rb ra hp) ?_
  rw [show (!(va.length == vb.length && true)) = false from by rw [hl]; simp]
  exact ⟨.bl false, H, I, rfl, q⟩
end Ld

set_option Elab.async false
set_option linter.all false
set_option maxRecDepth 100000
set_option maxHeartbeats 4000000
/-! a == b and a != b of equal values that hold dicts with tuples for keys. -/
namespace PySem.W
open PySem PySem.Spec PyProof.Rows
section
variable {K : Type} [DecidableEq K] {prog : Program} {w : World} {A : Around} {E : Value → Shared → Prop} {s : Shared} {knd : HeapKind prog w K}
/-- each key of the one has an equal value in the other -/
inductive HitsT (prog : Program) (w : World) (A : Around) (s : Shared) (ys : List (K × Addr × Value)) : List (K × Addr × Value) → Prop
  | nil : HitsT prog w A s ys []
  | cons {x : K × Addr × Value} {p : Addr × Value} {r : List (K × Addr × Value)} : atKey ys x.1 = some p → SeqAt.EqP prog w A s x.2.2 p.2 true → HitsT prog w A s ys r → HitsT prog w A s ys (x :: r)
theorem samePairsT {nm : String} {a b : Addr} {xs ys : List (K × Addr × Value)} {Q : Bool → Shared → Prop} (hu : knd.room A) (ha : (a == sysModules) = false) (hb : (b == sysModules) = false)
    (da : s.heap.DictOfH knd a xs) (db : s.heap.DictOfH knd b ys) (len : xs.length = ys.length) (hits : HitsT prog w A s ys xs) (h : Q true s) :
    wpAny (model prog w) A (Builtin.Dict.samePairs nm a b) Q E s := by
  obtain ⟨oa, es, ep, hoa, _, hda, hea, hka, hna⟩ := da
  obtain ⟨ob, es', ep', hob, _, hdb, heb, hkb, hnb⟩ := db
  have hla := size_of_entries hea
  have hlb := size_of_entries heb
  have hsz : es.size = es'.size := by rw [hla, hlb, len]
  unfold Builtin.Dict.samePairs Builtin.Dict.showsAll
  rw [if_neg (show ¬ (a == sysModules) = true by rw [ha]; exact Bool.false_ne_true), if_neg (show ¬ (b == sysModules) = true by rw [hb]; exact Bool.false_ne_true)]
  refine wpAny_bind (wpAny_pure (wpAny_bind (wpAny_pure ?_)))
  refine wpAny_bind (wpAny_dictEntries hoa hda ?_)
  dsimp only
  refine wpAny_bind (wpAny_dictEntries hob hdb ?_)
  rw [if_neg (by rw [hsz]; simp)]
  refine wpAny_bind (wpAny_dictEpoch hoa hda ?_)
  refine wpAny_bind ?_
  rw [Std.Legacy.Range.forIn_eq_forIn_range']
  simp only [Std.Legacy.Range.size, Nat.sub_zero, Nat.add_sub_cancel, Nat.div_one]
  refine wpAny_forIn_list _
    (fun rest q s' => s' = s ∧ q = (none, ()) ∧ ∃ i, rest = List.range' i (es.size - i) ∧ i ≤ es.size ∧ HitsT prog w A s ys (xs.drop i))
    _ ?_ ?_ _ _ ⟨rfl, rfl, 0, by simp, Nat.zero_le _, hits⟩
  · rintro x rest q s' ⟨rfl, rfl, i, hr, hi, hpre⟩
    have hlt : i < es.size := by
      rcases Nat.lt_or_ge i es.size with h | h
      · exact h
      · rw [Nat.sub_eq_zero_of_le h] at hr; simp at hr
    obtain ⟨rfl, hrest⟩ : x = i ∧ rest = List.range' (i + 1) (es.size - (i + 1)) := by
      have e : es.size - i = (es.size - (i + 1)) + 1 := by omega
      rw [e, List.range'_succ] at hr
      injection hr with h1 h2
      exact ⟨h1, h2⟩
    refine wpAny_bind (wpAny_dictEntries hoa hda ?_)
    have hlt' : x < xs.length := by rw [← hla]; exact hlt
    rw [entry_at hea x, List.getElem?_eq_getElem hlt']
    obtain ⟨⟨k, c, v⟩, hkv⟩ : ∃ y, xs[x] = y := ⟨_, rfl⟩
    have hdrop : xs.drop x = (k, c, v) :: xs.drop (x + 1) := by rw [← hkv]; exact List.drop_eq_getElem_cons hlt'
    rw [hkv]
    have hin : (k, c, v) ∈ xs := by rw [← hkv]; exact List.getElem_mem hlt'
    rw [hdrop] at hpre
    cases hpre with
    | cons hat heq hrr =>
      rename_i p
      show wpAny _ _ (holding [Value.ref c, v] _ >>= _) _ _ _
      refine wpAny_bind (wpAny_holding (wpAny_bind (wpAny_dictFind_heap hu (hka _ hin) hob hdb heb hkb hnb (fun no => ?_) fun j p2 hj => ?_)))
      · rw [atKey_none_of_get no] at hat
        cases hat
      · have ep : p = p2 := Option.some.inj (hat.symm.trans (atKey_of_get hnb hj))
        subst ep
        refine wpAny_bind (wpAny_dictEntries hob hdb ?_)
        rw [entry_at heb j, hj]
        refine wpAny_holding (heq _ _ ?_)
        show wpAny _ _ (if (!true) = true then _ else _) _ _ _
        rw [if_neg (by decide)]
        refine wpAny_bind (wpAny_dictEpoch hoa hda ?_)
        rw [if_neg (by simp)]
        exact wpAny_pure ⟨rfl, rfl, x + 1, hrest, hlt, hrr⟩
  · rintro q s' ⟨rfl, rfl, i, hr, hi, hpre⟩
    exact wpAny_pure h
theorem rcP_dictsT {a b : Addr} {xs ys : List (K × Addr × Value)} {op : CmpOp} (hop : op = .Eq ∨ op = .NotEq) (hr : knd.room A.in1) (ha : (a == sysModules) = false) (hb : (b == sysModules) = false)
    (da : s.heap.DictOfH knd a xs) (db : s.heap.DictOfH knd b ys) (hu : A.units < cLine) (len : xs.length = ys.length) (hits : HitsT prog w A.in1 s ys xs) (E Q : Value → Shared → Prop) (h : Q (.bool (op == .Eq)) s) : wpAny (model prog w) A (richCompare op (.ref a) (.ref b)) Q E s := by
  rcases hop with rfl | rfl
  · refine wpAny_richCompare_same_room (op := .Eq) da.typeIs db.typeIs PySem.F.slot_dict_eq (wpAny_call_entry PySem.F.slot_dict_eq da.typeIs PySem.F.entry_dict_eq ?_ (PySem.F.args_dict_eq_2 _ _)) hu
    show wpAny _ _ (Builtin.Dict.dictSlotArgs "__eq__" ⟨[.ref a, .ref b], []⟩ >>= _) _ _ s
    refine wpAny_bind ?_
    unfold Builtin.Dict.dictSlotArgs
    refine wpAny_bind (wpAny_notOrdered_dict da.typeIs ?_)
    show wpAny _ _ (pure (Value.ref a, Value.ref b)) _ _ s
    refine wpAny_pure ?_
    refine wpAny_bind (wpAny_isInstance (T := "dict") db.typeIs PySem.F.sub_dict_dict ?_)
    simp only [Bool.not_true, Bool.false_eq_true, if_false]
    refine wpAny_bind (wpAny_pure (wpAny_bind (wpAny_pure ?_)))
    refine wpAny_bind (samePairsT hr ha hb da db len hits ?_)
    refine wpAny_pure ⟨_, rfl, ?_, ?_⟩
    · exact fun x => nomatch x
    · simpa using h
  · refine wpAny_richCompare_same_room (op := .NotEq) da.typeIs db.typeIs PySem.F.slot_dict_ne (wpAny_call_entry PySem.F.slot_dict_ne da.typeIs PySem.F.entry_dict_ne ?_ (PySem.F.args_dict_ne_2 _ _)) hu
    show wpAny _ _ (Builtin.Dict.dictSlotArgs "__ne__" ⟨[.ref a, .ref b], []⟩ >>= _) _ _ s
    refine wpAny_bind ?_
    unfold Builtin.Dict.dictSlotArgs
    refine wpAny_bind (wpAny_notOrdered_dict da.typeIs ?_)
    show wpAny _ _ (pure (Value.ref a, Value.ref b)) _ _ s
    refine wpAny_pure ?_
    refine wpAny_bind (wpAny_isInstance (T := "dict") db.typeIs PySem.F.sub_dict_dict ?_)
    simp only [Bool.not_true, Bool.false_eq_true, if_false]
    refine wpAny_bind (wpAny_pure (wpAny_bind (wpAny_pure ?_)))
    refine wpAny_bind (samePairsT hr ha hb da db len hits ?_)
    refine wpAny_pure ⟨_, rfl, ?_, ?_⟩
    · exact fun x => nomatch x
    · have e : (CmpOp.NotEq == CmpOp.Eq) = false := by decide
      rw [e] at h
      simpa using h
end
end PySem.W
namespace Ld
open PySem PySem.Spec PyProof.Rows L2
/-- equal values, of nesting below n; tuples and lists as data -/
def EqT (K : PySem.W.Frag) (H : Hp) : Nat → V → V → Prop
  | 0 => fun _ _ => False
  | n + 1 => fun x y => (x = y ∧ flatB x = true) ∨ (∃ a, x = .ref a ∧ y = .ref a) ∨ (∃ d, Dp K H x d ∧ Dp K H y d ∧ SeqAt.shaped d = true) ∨
      (∃ a b ks ls, x = .ref a ∧ y = .ref b ∧ H a = some (.dT ks) ∧ H b = some (.dT ls) ∧ ks.length = ls.length ∧ ∀ p ∈ ks, ∃ u, valV ls p.1 = some u ∧ EqT K H n p.2 u) ∨
      (∃ a b ks ls, x = .ref a ∧ y = .ref b ∧ H a = some (.dK ks) ∧ H b = some (.dK ls) ∧ ks.length = ls.length ∧ ∀ p ∈ ks, ∃ u, valV ls p.1 = some u ∧ EqT K H n p.2 u)
theorem hitsT_run {P : Program} {w : World} {A : Around} {s : Shared} {H : Hp} {F : V → V → Prop} (ih : ∀ x y v u, F x y → RelV x v → RelV y u → SeqAt.EqP P w A s v u true) {ls : List (List Key × V)} {yb : List (List Key × Addr × Value)} (rb : KT H ls yb) {ks : List (List Key × V)} {ya : List (List Key × Addr × Value)}
    (ra : KT H ks ya) : (∀ p ∈ ks, ∃ u, valV ls p.1 = some u ∧ F p.2 u) → PySem.W.HitsT P w A s yb ya := by
  unfold KT at ra
  induction ra with
  | nil => intro _; exact .nil
  | @cons p q ps qs h t k =>
    intro hp
    obtain ⟨h1, _, h2⟩ := h
    obtain ⟨u, e, f⟩ := hp p List.mem_cons_self
    have rr : RelO (some u) ((atKey yb p.1).map (·.2)) := by rw [← e]; exact rb.val p.1
    obtain ⟨y, hy, ry⟩ := rr.some_of
    obtain ⟨p2, hp2, rfl⟩ := Option.map_eq_some_iff.mp hy
    exact .cons (by rw [← h1]; exact hp2) (ih _ _ _ _ f h2 ry) (k fun p' hm => hp p' (List.mem_cons_of_mem _ hm))
section
variable {X : Cx} {pins : List (Addr × Obj)} {σ : L2.St} {H : Hp} {s : Shared}
theorem eqT_dT (I : Inv X pins σ H s) {A : Around} {F : V → V → Prop} {op : CmpOp} (hop : op = .Eq ∨ op = .NotEq) (hu : A.units + 1 < cLine) (ih : ∀ x y v u, F x y → RelV x v → RelV y u → SeqAt.EqP X.prog X.w A.in1 s v u true) {a b : Addr} {ks ls : List (List Key × V)}
    (ha : H a = some (.dT ks)) (hb : H b = some (.dT ls)) (hl : ks.length = ls.length) (hp : ∀ p ∈ ks, ∃ u, valV ls p.1 = some u ∧ F p.2 u)
    (E Q : Value → Shared → Prop) (q : Q (.bool (op == .Eq)) s) : wpAny (model X.prog X.w) A (richCompare op (.ref a) (.ref b)) Q E s := by
  obtain ⟨_, za, xa, ra, da⟩ := dt_of I.hok ha
  obtain ⟨_, zb, xb, rb, db⟩ := dt_of I.hok hb
  exact PySem.W.rcP_dictsT hop (show A.units + 1 < cLine from hu) za zb da db (by omega) (by rw [← Paired.length ra, ← Paired.length rb]; exact hl) (hitsT_run ih rb ra hp) E Q q
theorem eqT_dK (I : Inv X pins σ H s) {A : Around} {F : V → V → Prop} {op : CmpOp} (hop : op = .Eq ∨ op = .NotEq) (hu : A.units + 1 < cLine) (ih : ∀ x y v u, F x y → RelV x v → RelV y u → SeqAt.EqP X.prog X.w A.in1 s v u true) {a b : Addr} {ks ls : List (Key × V)}
    (ha : H a = some (.dK ks)) (hb : H b = some (.dK ls)) (hl : ks.length = ls.length) (hp : ∀ p ∈ ks, ∃ u, valV ls p.1 = some u ∧ F p.2 u)
    (E Q : Value → Shared → Prop) (q : Q (.bool (op == .Eq)) s) : wpAny (model X.prog X.w) A (richCompare op (.ref a) (.ref b)) Q E s := by
  obtain ⟨_, ya, va, ra, da⟩ := (show ObjOk X.prog X.w H s.heap a (.dK ks) from I.hok a _ ha)
  obtain ⟨_, yb, vb, rb, db⟩ := (show ObjOk X.prog X.w H s.heap b (.dK ls) from I.hok b _ hb)
  have hl2 : va.length = vb.length := by rw [← ra.length, ← rb.length]; exact hl
  rcases hop with rfl | rfl
  · refine PySem.W.rcP_dicts (knd := mixKind X.prog X.w) (r := true) ya yb da db (by omega) (fun _ => hits_run ih rb ra hp) E Q ?_
    rw [show (va.length == vb.length && true) = true from by rw [hl2]; simp]
    exact q
  · refine PySem.W.rcP_dictsNe (knd := mixKind X.prog X.w) (r := true) ya yb da db (by omega) (fun _ => hits_run ih rb ra hp) ?_
    rw [show (!(va.length == vb.length && true)) = false from by rw [hl2]; simp]
    exact q
theorem eqT_run (I : Inv X pins σ H s) : ∀ (n : Nat) (A : Around), A.units + n + 65 < cLine → ∀ (x y : V) (v u : Value), EqT X.K H n x y → RelV x v → RelV y u → SeqAt.EqP X.prog X.w A s v u true
  | 0, _, _, _, _, _, _, h, _, _ => (show False from h).elim
  | n + 1, A, hu, x, y, v, u, h, rx, ry => by
    have nx := eqT_run I n A.in1 (by show A.units + 1 + n + 65 < cLine; omega)
    rcases h with ⟨rfl, f⟩ | ⟨a, rfl, rfl⟩ | ⟨d, hx, hy, sh⟩ | ⟨a, b, ks, ls, rfl, rfl, ha, hb, hl, hp⟩ | ⟨a, b, ks, ls, rfl, rfl, ha, hb, hl, hp⟩
    · exact (eqAt_same rx ry f).eqP
    · cases (show v = Value.ref a from rx)
      cases (show u = Value.ref a from ry)
      exact (SeqAt.EqAt.same _).eqP
    · obtain ⟨as, r1⟩ := Dp.reads I d x v hx rx
      obtain ⟨bs, r2⟩ := Dp.reads I d y u hy ry
      have e := SeqAt.eqAt_reads d d A s v u as bs r1 r2 (SeqAt.canLay_of_shaped sh) (SeqAt.canLay_of_shaped sh) (SeqAt.room_of_shaped sh (by omega))
      rw [SeqAt.eqv_refl d (SeqAt.canLay_of_shaped sh)] at e
      exact e.eqP
    · cases (show v = Value.ref a from rx)
      cases (show u = Value.ref b from ry)
      by_cases e : a = b
      · subst e
        exact (SeqAt.EqAt.same _).eqP
      · exact SeqAt.eqP_refs e fun E Q q => eqT_dT I (.inl rfl) (by omega) nx ha hb hl hp E Q q
    · cases (show v = Value.ref a from rx)
      cases (show u = Value.ref b from ry)
      by_cases e : a = b
      · subst e
        exact (SeqAt.EqAt.same _).eqP
      · exact SeqAt.eqP_refs e fun E Q q => eqT_dK I (.inl rfl) (by omega) nx ha hb hl hp E Q q
end
/-- a == b and a != b of two dicts that are equal -/
def rEqT (K : PySem.W.Frag) (ne : Bool) : R2 := fun x y H Q => ∃ n, n ≤ 40 ∧ ((∃ a b ks ls, x = .ref a ∧ y = .ref b ∧ H a = some (.dT ks) ∧ H b = some (.dT ls) ∧ ks.length = ls.length ∧ ∀ p ∈ ks, ∃ u, valV ls p.1 = some u ∧ EqT K H n p.2 u) ∨
  (∃ a b ks ls, x = .ref a ∧ y = .ref b ∧ H a = some (.dK ks) ∧ H b = some (.dK ls) ∧ ks.length = ls.length ∧ ∀ p ∈ ks, ∃ u, valV ls p.1 = some u ∧ EqT K H n p.2 u)) ∧ Q (.bl (!ne)) H
theorem op_eqT {X : Cx} (hu : X.A.units + 120 < cLine) : OpR X (compareOp .Eq) (rEqT X.K false) := by
  intro pins s σ H x y v u Q I rx ry h
  obtain ⟨n, hn, h, q⟩ := h
  have nx := eqT_run I n X.A.in1 (by show X.A.units + 1 + n + 65 < cLine; omega)
  rcases h with ⟨a, b, ks, ls, rfl, rfl, ha, hb, hl, hp⟩ | ⟨a, b, ks, ls, rfl, rfl, ha, hb, hl, hp⟩
  · cases (show v = Value.ref a from rx)
    cases (show u = Value.ref b from ry)
    exact eqT_dT I (.inl rfl) (by omega) nx ha hb hl hp _ _ ⟨.bl true, H, I, rfl, q⟩
  · cases (show v = Value.ref a from rx)
    cases (show u = Value.ref b from ry)
    exact eqT_dK I (.inl rfl) (by omega) nx ha hb hl hp _ _ ⟨.bl true, H, I, rfl, q⟩
theorem op_neT {X : Cx} (hu : X.A.units + 120 < cLine) : OpR X (compareOp .NotEq) (rEqT X.K true) := by
  intro pins s σ H x y v u Q I rx ry h
  obtain ⟨n, hn, h, q⟩ := h
  have nx := eqT_run I n X.A.in1 (by show X.A.units + 1 + n + 65 < cLine; omega)
  rcases h with ⟨a, b, ks, ls, rfl, rfl, ha, hb, hl, hp⟩ | ⟨a, b, ks, ls, rfl, rfl, ha, hb, hl, hp⟩
  · cases (show v = Value.ref a from rx)
    cases (show u = Value.ref b from ry)
    exact eqT_dT I (.inr rfl) (by omega) nx ha hb hl hp _ _ ⟨.bl false, H, I, rfl, q⟩
  · cases (show v = Value.ref a from rx)
    cases (show u = Value.ref b from ry)
    exact eqT_dK I (.inr rfl) (by omega) nx ha hb hl hp _ _ ⟨.bl false, H, I, rfl, q⟩
end Ld

set_option Elab.async false
set_option linter.all false
set_option maxRecDepth 100000
set_option maxHeartbeats 4000000
/-! repr of data with dicts in it; a dict's keys may be tuples. -/
namespace Lr
open PySem PyProof.Rows
mutual
/-- v is the data d in h; no dict in it is the one of the modules -/
inductive RdS (h : Heap) : Value → PyData → Prop
  | plain {v : Value} {d : PyData} {as : List Addr} : Reads h v d as → d.hasDict = false → RdS h v d
  | list {a : Addr} {o : Obj} {vs : Array Value} {n : Nat} {xs : List PyData} : h.get? a = some o → o.cls = .type "list" → o.data = .seq vs n → RdSAll h vs.toList xs → RdS h (.ref a) (.list xs)
  | tuple {a : Addr} {o : Obj} {vs : Array Value} {n : Nat} {xs : List PyData} : h.get? a = some o → o.cls = .type "tuple" → o.data = .seq vs n → RdSAll h vs.toList xs → RdS h (.ref a) (.tuple xs)
  | dict {a : Addr} {o : Obj} {es : Array DictEntry} {n : Nat} {kvs : List (PyData × PyData)} : h.get? a = some o → o.cls = .type "dict" → o.data = .dict es n → (a == sysModules) = false →
      RdSAll h (es.toList.map (·.key)) (kvs.map (·.1)) → RdSAll h (es.toList.map (·.val)) (kvs.map (·.2)) → RdS h (.ref a) (.dict kvs)
inductive RdSAll (h : Heap) : List Value → List PyData → Prop
  | nil : RdSAll h [] []
  | cons {v : Value} {vs : List Value} {d : PyData} {ds : List PyData} : RdS h v d → RdSAll h vs ds → RdSAll h (v :: vs) (d :: ds)
end
mutual
theorem RdS.reads {h : Heap} : ∀ {v : Value} {d : PyData}, RdS h v d → ∃ as, Reads h v d as
  | _, _, .plain r _ => ⟨_, r⟩
  | _, _, .list h1 h2 h3 k => let ⟨_, r⟩ := RdSAll.reads k; ⟨_, .list h1 h2 h3 r⟩
  | _, _, .tuple h1 h2 h3 k => let ⟨_, r⟩ := RdSAll.reads k; ⟨_, .tuple h1 h2 h3 r⟩
  | _, _, .dict h1 h2 h3 _ k1 k2 => let ⟨_, r1⟩ := RdSAll.reads k1; let ⟨_, r2⟩ := RdSAll.reads k2; ⟨_, .dict h1 h2 h3 r1 r2⟩
theorem RdSAll.reads {h : Heap} : ∀ {vs : List Value} {ds : List PyData}, RdSAll h vs ds → ∃ as, ReadsAll h vs ds as
  | _, _, .nil => ⟨_, .nil⟩
  | _, _, .cons k r => let ⟨_, r1⟩ := RdS.reads k; let ⟨_, r2⟩ := RdSAll.reads r; ⟨_, .cons r1 r2⟩
end
section
variable {prog : Program} {w : World} {h₀ : Heap}
mutual
theorem RdS.shows : ∀ {v : Value} {d : PyData}, RdS h₀ v d → d.showable = true → d.shown.length ≤ sizeLine → ∃ bs, ReadAtMost h₀ d.depth bs ∧ ReprK prog w bs h₀ d.depth v d.shown
  | _, _, .plain r nd, sh, sz => ReprK.of_reads r sh (PyData.noDict_hsm nd) sz
  | _, _, .list (a := a) (vs := vs) (xs := xs) h1 h2 h3 k, sh, sz => by
    have sz2 : (listText (PyData.shownAll xs)).length ≤ sizeLine := by simpa only [PyData.shown] using sz
    obtain ⟨bs, b1, b2⟩ := RdSAll.shows k (by simpa [PyData.showable] using sh) fun t m => Nat.le_trans (listText_mem_le m) sz2
    obtain ⟨as, r0⟩ := RdSAll.reads k
    have r : Reads h₀ (.ref a) (.list xs) _ := .list h1 h2 h3 r0
    have deep : PyData.depthAll xs < (PyData.list xs).depth := by simp only [PyData.depth]; omega
    have out := not_mem_of_deeper r deep b1
    refine ⟨a :: bs, ReadAtMost.cons r (Nat.le_of_lt deep) b1, ?_⟩
    simp only [PyData.depth, PyData.shown]
    obtain ⟨l⟩ := vs
    cases l with
    | nil =>
      cases (show RdSAll h₀ [] xs from k)
      simp only [PyData.shownAll, listText_nil]
      exact ReprK.listEmpty h1 h2 h3
    | cons x l => exact ReprK.list h1 h2 h3 out (by simpa using b2.length_eq) fun i y e => b2.item i y (by simpa using e)
  | _, _, .tuple (a := a) (xs := xs) h1 h2 h3 k, sh, sz => by
    have sz2 : (tupleText (PyData.shownAll xs)).length ≤ sizeLine := by simpa only [PyData.shown] using sz
    obtain ⟨bs, b1, b2⟩ := RdSAll.shows k (by simpa [PyData.showable] using sh) fun t m => Nat.le_trans (tupleText_mem_le m) sz2
    obtain ⟨as, r0⟩ := RdSAll.reads k
    have r : Reads h₀ (.ref a) (.tuple xs) _ := .tuple h1 h2 h3 r0
    have deep : PyData.depthAll xs < (PyData.tuple xs).depth := by simp only [PyData.depth]; omega
    refine ⟨a :: bs, ReadAtMost.cons r (Nat.le_of_lt deep) b1, ?_⟩
    simp only [PyData.depth, PyData.shown]
    exact ReprK.tuple h1 h2 h3 (not_mem_of_deeper r deep b1) b2
  | _, _, .dict (a := a) (es := es) (kvs := kvs) h1 h2 h3 nsys k1 k2, sh, sz => by
    have sz2 : (dictText (PyData.shownKv kvs)).length ≤ sizeLine := by simpa only [PyData.shown] using sz
    obtain ⟨s1, s2⟩ := PyData.showableKv_split kvs (by simpa [PyData.showable] using sh)
    obtain ⟨bs, b1, b2⟩ := RdSAll.shows k1 s1 fun t m => let ⟨p, hp, hl⟩ := PyData.shownKv_key_le kvs t m; Nat.le_trans hl (Nat.le_trans (dictText_mem_le hp) sz2)
    obtain ⟨cs, c1, c2⟩ := RdSAll.shows k2 s2 fun t m => let ⟨p, hp, hl⟩ := PyData.shownKv_val_le kvs t m; Nat.le_trans hl (Nat.le_trans (dictText_mem_le hp) sz2)
    obtain ⟨as, r0⟩ := RdSAll.reads k1
    obtain ⟨as2, r1⟩ := RdSAll.reads k2
    have r : Reads h₀ (.ref a) (.dict kvs) _ := .dict h1 h2 h3 r0 r1
    have all : ReadAtMost h₀ (PyData.depthKv kvs) (bs ++ cs) := (b1.mono (PyData.depthAll_keys_le kvs)).append (c1.mono (PyData.depthAll_vals_le kvs))
    have deep : PyData.depthKv kvs < (PyData.dict kvs).depth := by simp only [PyData.depth]; omega
    refine ⟨a :: (bs ++ cs), ReadAtMost.cons r (Nat.le_of_lt deep) all, ?_⟩
    simp only [PyData.depth, PyData.shown, PyData.shownKv_eq]
    exact ReprK.dict h1 h2 h3 nsys (not_mem_of_deeper r deep all) (ReprEntriesK.of_two es.toList _ _
      (b2.more_le (fun b m => List.mem_append_left _ m) (PyData.depthAll_keys_le kvs)) (c2.more_le (fun b m => List.mem_append_right _ m) (PyData.depthAll_vals_le kvs)))
theorem RdSAll.shows : ∀ {vs : List Value} {ds : List PyData}, RdSAll h₀ vs ds → PyData.showableAll ds = true → (∀ t ∈ PyData.shownAll ds, t.length ≤ sizeLine) → ∃ bs, ReadAtMost h₀ (PyData.depthAll ds) bs ∧ ReprAllK prog w bs h₀ (PyData.depthAll ds) vs (PyData.shownAll ds)
  | _, _, .nil, _, _ => ⟨[], (fun _ m => nomatch m), by simp only [PyData.shownAll]; exact .nil⟩
  | _, _, .cons (d := d) (ds := ds) k r, sh, sz => by
    have sh2 : d.showable = true ∧ PyData.showableAll ds = true := by simpa [PyData.showableAll] using sh
    obtain ⟨bs, b1, b2⟩ := RdS.shows k sh2.1 (sz _ (by simp only [PyData.shownAll]; exact List.mem_cons_self ..))
    obtain ⟨cs, c1, c2⟩ := RdSAll.shows r sh2.2 fun t m => sz t (by simp only [PyData.shownAll]; exact List.mem_cons_of_mem _ m)
    have u1 : d.depth ≤ PyData.depthAll (d :: ds) := by simp only [PyData.depthAll]; omega
    have u2 : PyData.depthAll ds ≤ PyData.depthAll (d :: ds) := by simp only [PyData.depthAll]; omega
    refine ⟨bs ++ cs, (b1.mono u1).append (c1.mono u2), ?_⟩
    simp only [PyData.shownAll]
    exact .cons ((b2.more fun b m => List.mem_append_left _ m).level_le u1) (c2.more_le (fun b m => List.mem_append_right _ m) u2)
end
/-- repr of a tuple or a dict, where nothing is being shown -/
theorem repr_rdS {a : Addr} {d : PyData} {A : Around} {E : Value → Shared → Prop} {s : Shared} {Q : Value → Shared → Prop} (r : RdS s.heap (.ref a) d) (hd : d.hasDict = true) (sh : d.showable = true) (sz : d.shown.length ≤ sizeLine) (hg : A.guards = some []) (hu : A.units + (d.depth + 1) < cLine)
    (hQ : ∀ h' u tk, (∀ b o, s.heap.get? b = some o → h'.get? b = some o) → Q (.str d.shown u) { s with heap := h', toks := tk }) : wpAny (model prog w) A (call (.builtin "repr") [.ref a]) Q E s := by
  cases r with
  | plain r nd =>
    rw [nd] at hd
    cases hd
  | list h1 h2 h3 k =>
    rename_i o vs n xs
    have sz2 : (listText (PyData.shownAll xs)).length ≤ sizeLine := by simpa only [PyData.shown] using sz
    obtain ⟨bs, b1, b2⟩ := RdSAll.shows (prog := prog) (w := w) k (by simpa [PyData.showable] using sh) fun t m => Nat.le_trans (listText_mem_le m) sz2
    obtain ⟨as, r0⟩ := RdSAll.reads k
    have deep : PyData.depthAll xs < (PyData.list xs).depth := by simp only [PyData.depth]; omega
    have out := not_mem_of_deeper (.list h1 h2 h3 r0) deep b1
    simp only [PyData.depth] at hu
    simp only [PyData.shown] at hQ
    obtain ⟨l⟩ := vs
    cases l with
    | nil =>
      cases (show RdSAll s.heap [] xs from k)
      exact absurd hd (by decide)
    | cons x l =>
      exact call_repr_slot (by omega) ⟨o, h1, h2⟩ F.slot_list_repr.toG (call_list_reprK h1 h2 h3 out (by simpa using b2.length_eq) (fun i y e => b2.item i y (by simpa using e)) (A := A.in1) hg (fun b _ => Clear.nil b) (by show A.units + 1 + _ < cLine; omega) (fun _ _ e => e) (fun h' u tk up => ⟨_, _, rfl, hQ h' u tk up⟩) sz2)
  | tuple h1 h2 h3 k =>
    rename_i o vs n xs
    have sz2 : (tupleText (PyData.shownAll xs)).length ≤ sizeLine := by simpa only [PyData.shown] using sz
    obtain ⟨bs, b1, b2⟩ := RdSAll.shows (prog := prog) (w := w) k (by simpa [PyData.showable] using sh) fun t m => Nat.le_trans (tupleText_mem_le m) sz2
    obtain ⟨as, r0⟩ := RdSAll.reads k
    have deep : PyData.depthAll xs < (PyData.tuple xs).depth := by simp only [PyData.depth]; omega
    simp only [PyData.depth] at hu
    simp only [PyData.shown] at hQ
    exact call_repr_slot (by omega) ⟨o, h1, h2⟩ F.slot_tuple_repr (call_tuple_reprK h1 h2 h3 (not_mem_of_deeper (.tuple h1 h2 h3 r0) deep b1) b2 (A := A.in1) hg (fun b _ => Clear.nil b) (by show A.units + 1 + _ < cLine; omega) (fun _ _ e => e) (fun h' u tk up => ⟨_, _, rfl, hQ h' u tk up⟩) sz2)
  | dict h1 h2 h3 nsys k1 k2 =>
    rename_i o es n kvs
    have sz2 : (dictText (PyData.shownKv kvs)).length ≤ sizeLine := by simpa only [PyData.shown] using sz
    obtain ⟨s1, s2⟩ := PyData.showableKv_split kvs (by simpa [PyData.showable] using sh)
    obtain ⟨bs, b1, b2⟩ := RdSAll.shows (prog := prog) (w := w) k1 s1 fun t m => let ⟨p, hp, hl⟩ := PyData.shownKv_key_le kvs t m; Nat.le_trans hl (Nat.le_trans (dictText_mem_le hp) sz2)
    obtain ⟨cs, c1, c2⟩ := RdSAll.shows (prog := prog) (w := w) k2 s2 fun t m => let ⟨p, hp, hl⟩ := PyData.shownKv_val_le kvs t m; Nat.le_trans hl (Nat.le_trans (dictText_mem_le hp) sz2)
    obtain ⟨as, r0⟩ := RdSAll.reads k1
    obtain ⟨as2, r1⟩ := RdSAll.reads k2
    have all : ReadAtMost s.heap (PyData.depthKv kvs) (bs ++ cs) := (b1.mono (PyData.depthAll_keys_le kvs)).append (c1.mono (PyData.depthAll_vals_le kvs))
    have deep : PyData.depthKv kvs < (PyData.dict kvs).depth := by simp only [PyData.depth]; omega
    simp only [PyData.depth] at hu
    simp only [PyData.shown, PyData.shownKv_eq] at hQ
    exact call_repr_slot (by omega) ⟨o, h1, h2⟩ F.slot_dict_repr (call_dict_reprK h1 h2 h3 nsys (not_mem_of_deeper (.dict h1 h2 h3 r0 r1) deep all) (ReprEntriesK.of_two es.toList _ _
      (b2.more_le (fun b m => List.mem_append_left _ m) (PyData.depthAll_keys_le kvs)) (c2.more_le (fun b m => List.mem_append_right _ m) (PyData.depthAll_vals_le kvs))) (A := A.in1) hg (fun b _ => Clear.nil b) (by show A.units + 1 + _ < cLine; omega) (fun _ _ e => e) (fun h' u tk up => ⟨_, _, rfl, hQ h' u tk up⟩) (by rw [← PyData.shownKv_eq]; exact sz2))
end
end Lr
namespace Lr
open PySem PySem.Spec PyProof.Rows L2
/-- the data of a dict's key -/
def keyD : Key → PyData
  | .inl n => .int n
  | .inr s => .str s
mutual
/-- v is the data d, dicts among it -/
inductive Dq (K : PySem.W.Frag) (H : Hp) : V → PyData → Prop
  | dp {v : V} {d : PyData} : Dp K H v d → Dq K H v d
  | lst {a : Addr} {xs : List V} {ds : List PyData} : SqL K H a xs → DqAll K H xs ds → Dq K H (.ref a) (.list ds)
  | tup {a : Addr} {xs : List V} {ds : List PyData} : SqT K H a xs → DqAll K H xs ds → Dq K H (.ref a) (.tuple ds)
  | dT {a : Addr} {kvs : List (List Key × V)} {ds : List (PyData × PyData)} : H a = some (.dT kvs) → DqT K H kvs ds → Dq K H (.ref a) (.dict ds)
inductive DqAll (K : PySem.W.Frag) (H : Hp) : List V → List PyData → Prop
  | nil : DqAll K H [] []
  | cons {v : V} {vs : List V} {d : PyData} {ds : List PyData} : Dq K H v d → DqAll K H vs ds → DqAll K H (v :: vs) (d :: ds)
inductive DqT (K : PySem.W.Frag) (H : Hp) : List (List Key × V) → List (PyData × PyData) → Prop
  | nil : DqT K H [] []
  | cons {k : List Key} {v : V} {kvs : List (List Key × V)} {d : PyData} {ds : List (PyData × PyData)} : Dq K H v d → DqT K H kvs ds → DqT K H ((k, v) :: kvs) ((.tuple (k.map keyD), d) :: ds)
end
mutual
theorem dp_noDict {K : PySem.W.Frag} {H : Hp} : ∀ (d : PyData) (v : V), Dp K H v d → d.hasDict = false
  | .none, _, _ => rfl
  | .bool _, _, _ => rfl
  | .int _, _, _ => rfl
  | .str _, _, _ => rfl
  | .list ds, _, h => by
    cases h with
    | lst _ h2 => simpa [PyData.hasDict] using dps_noDict ds _ h2
  | .tuple ds, _, h => by
    cases h with
    | tup _ h2 => simpa [PyData.hasDict] using dps_noDict ds _ h2
  | .dict _, _, h => by cases h
theorem dps_noDict {K : PySem.W.Frag} {H : Hp} : ∀ (ds : List PyData) (vs : List V), DpAll K H vs ds → PyData.hasDictAll ds = false
  | [], _, _ => rfl
  | d :: ds, _, h => by
    cases h with
    | cons h1 h2 => simp [PyData.hasDictAll, dp_noDict d _ h1, dps_noDict ds _ h2]
end
theorem dp_keys {K : PySem.W.Frag} {H : Hp} : ∀ k : List Key, DpAll K H (k.map kV) (k.map keyD)
  | [] => .nil
  | .inl n :: k => .cons (.int n) (dp_keys k)
  | .inr s :: k => .cons (.str s) (dp_keys k)
section
variable {X : Cx} {pins : List (Addr × Obj)} {σ : L2.St} {H : Hp} {s : Shared}
theorem dp_rdS (I : Inv X pins σ H s) {v : V} {d : PyData} {u : Value} (h : Dp X.K H v d) (r : RelV v u) : RdS s.heap u d :=
  let ⟨_, z⟩ := Dp.reads I d v u h r
  .plain z (dp_noDict d v h)
mutual
theorem Dq.rdS (I : Inv X pins σ H s) : ∀ {v : V} {d : PyData} {u : Value}, Dq X.K H v d → RelV v u → RdS s.heap u d
  | _, _, _, .dp h, r => dp_rdS I h r
  | _, _, _, .lst hs ha, r => by
    cases r
    obtain ⟨its, rv, ⟨o, n, ho, hc, _, hd⟩, _⟩ := I.list hs
    exact .list ho hc hd (DqAll.rdS I ha rv)
  | _, _, _, .tup hs ha, r => by
    cases r
    obtain ⟨its, rv, ⟨o, ho, hc, n, hd⟩, _⟩ := I.tuple hs
    exact .tuple ho hc hd (DqAll.rdS I ha rv)
  | _, _, _, .dT hs ha, r => by
    cases r
    obtain ⟨_, y, xs, kt, o, es, ep, h1, h2, h3, h4, _⟩ := dt_of I.hok hs
    obtain ⟨k1, k2⟩ := DqT.rdS I ha kt
    refine .dict h1 h2.1 h3 y ?_ ?_
    · rw [h4, List.map_map]
      exact k1
    · rw [h4, List.map_map]
      exact k2
theorem DqAll.rdS (I : Inv X pins σ H s) : ∀ {vs : List V} {ds : List PyData} {us : List Value}, DqAll X.K H vs ds → Vals vs us → RdSAll s.heap us ds
  | _, _, _, .nil, r => by
    cases r
    exact .nil
  | _, _, _, .cons h t, r => by
    cases r with
    | cons r1 r2 => exact .cons (Dq.rdS I h r1) (DqAll.rdS I t r2)
theorem DqT.rdS (I : Inv X pins σ H s) : ∀ {kvs : List (List Key × V)} {ds : List (PyData × PyData)} {xs : List (List Key × Addr × Value)}, DqT X.K H kvs ds → KT H kvs xs →
    RdSAll s.heap (xs.map fun x => Value.ref x.2.1) (ds.map (·.1)) ∧ RdSAll s.heap (xs.map fun x => x.2.2) (ds.map (·.2))
  | _, _, _, .nil, r => by
    cases r
    exact ⟨.nil, .nil⟩
  | _, _, _, .cons (k := k) h t, r => by
    cases r with
    | cons r1 r2 =>
      obtain ⟨_, e, rv⟩ := r1
      obtain ⟨z1, z2⟩ := DqT.rdS I t r2
      exact ⟨.cons (dp_rdS I (.tup (SqT.of e) (dp_keys k)) rfl) z1, .cons (Dq.rdS I h rv) z2⟩
end
end
/-- repr of a tuple or a list or a dict, with dicts in it -/
def rReprQ (K : PySem.W.Frag) : List V → Hp → VK → Prop := fun xs H Q => ∃ (a : Addr) (d : PyData), xs = [.ref a] ∧ Dq K H (.ref a) d ∧ d.hasDict = true ∧ d.showable = true ∧ d.depth ≤ 60 ∧ d.shown.length ≤ sizeLine ∧ Q (.str d.shown) H
theorem call_reprQ {X : Cx} (hg : X.A.guards = some []) (hu : X.A.units + 66 < cLine) : CallR X (.builtin "repr") (rReprQ X.K) := by
  intro pins s σ H xs us Q I r h
  obtain ⟨a, d, rfl, hd, has, show_, dep, sz, q⟩ := h
  obtain ⟨u, rfl, rx⟩ := vals1 r
  obtain rfl : u = Value.ref a := rx
  exact repr_rdS (Dq.rdS I hd rfl) has show_ sz hg (by omega) fun h2 v tk up => ⟨.str _, H, I.kept up, ⟨v, rfl⟩, q⟩
/-! ### how long shown data is -/
mutual
/-- a bound of the length of what is shown -/
def wt : PyData → Nat
  | .none => 4
  | .bool _ => 5
  | .int i => (toString i : Str).length
  | .str s => (PySem.reprText s).length
  | .list xs => wtAll xs + 4
  | .tuple xs => wtAll xs + 4
  | .dict kvs => wtKv kvs + 4
def wtAll : List PyData → Nat
  | [] => 0
  | x :: xs => wt x + 2 + wtAll xs
def wtKv : List (PyData × PyData) → Nat
  | [] => 0
  | (k, v) :: r => wt k + wt v + 4 + wtKv r
end
theorem listText_piled (ts : List Str) : (listText ts).length ≤ piled ts + 4 := by
  have : ∀ (ts : List Str) (k : Nat) (acc : Str), (textFrom k acc ts).length ≤ acc.length + piled ts := by
    intro ts
    induction ts with
    | nil =>
      intro k acc
      rw [textFrom, piled_nil]
      exact Nat.le_refl _
    | cons t ts ih =>
      intro k acc
      have h1 := ih (k + 1) (acc ++ (if k > 0 then ", " else "" : String) ++ t)
      have h2 : (acc ++ (if k > 0 then ", " else "" : String) ++ t).length ≤ acc.length + 2 + t.length := by
        rw [strLen_append, strLen_append]
        have : ((if k > 0 then ", " else "" : String) : Str).length ≤ 2 := by
          split
          · exact Nat.le_refl 2
          · exact Nat.zero_le 2
        omega
      rw [textFrom, piled_cons]
      omega
  have h := this ts 0 "["
  have e1 : (("[" : String) : Str).length = 1 := rfl
  have e2 : (("]" : String) : Str).length = 1 := rfl
  unfold listText
  rw [strLen_append]
  omega
theorem joined_piled (ts : List Str) : (Str.join ", " ts).length ≤ piled ts := by
  by_cases h : ts = []
  · subst h
    exact Nat.zero_le _
  · have := join_length_add ts h
    omega
theorem tupleText_piled (ts : List Str) : (tupleText ts).length ≤ piled ts + 4 := by
  have h := joined_piled ts
  have e1 : (("(" : String) : Str).length = 1 := rfl
  have e2 : ((if ts.length == 1 then ",)" else ")" : String) : Str).length ≤ 2 := by
    split
    · exact Nat.le_refl 2
    · exact Nat.le_succ 1
  unfold tupleText
  rw [strLen_append, strLen_append]
  omega
theorem dictText_piled (ts : List Str) : (dictText ts).length ≤ piled ts + 4 := by
  have h := joined_piled ts
  have e1 : (("{" : String) : Str).length = 1 := rfl
  have e2 : (("}" : String) : Str).length = 1 := rfl
  unfold dictText
  rw [strLen_append, strLen_append]
  omega
mutual
theorem shown_wt : ∀ d : PyData, d.shown.length ≤ wt d
  | .none => by
    rw [PyData.shown, wt]
    exact Nat.le_refl _
  | .bool b => by
    rw [PyData.shown, wt]
    cases b
    · exact Nat.le_refl _
    · exact Nat.le_succ _
  | .int i => by
    rw [PyData.shown, wt]
    exact Nat.le_refl _
  | .str s => by
    rw [PyData.shown, wt]
    exact Nat.le_refl _
  | .list xs => by
    rw [PyData.shown, wt]
    have := listText_piled (PyData.shownAll xs)
    have := shownAll_wt xs
    omega
  | .tuple xs => by
    rw [PyData.shown, wt]
    have := tupleText_piled (PyData.shownAll xs)
    have := shownAll_wt xs
    omega
  | .dict kvs => by
    rw [PyData.shown, wt]
    have := dictText_piled (PyData.shownKv kvs)
    have := shownKv_wt kvs
    omega
theorem shownAll_wt : ∀ ds : List PyData, piled (PyData.shownAll ds) ≤ wtAll ds
  | [] => by
    rw [PyData.shownAll, wtAll, piled_nil]
    exact Nat.le_refl _
  | d :: ds => by
    rw [PyData.shownAll, wtAll, piled_cons]
    have := shown_wt d
    have := shownAll_wt ds
    omega
theorem shownKv_wt : ∀ ds : List (PyData × PyData), piled (PyData.shownKv ds) ≤ wtKv ds
  | [] => by
    rw [PyData.shownKv, wtKv, piled_nil]
    exact Nat.le_refl _
  | (k, v) :: ds => by
    rw [PyData.shownKv, wtKv, piled_cons]
    have := shown_wt k
    have := shown_wt v
    have := shownKv_wt ds
    have e : ((": " : String) : Str).length = 2 := rfl
    rw [strLen_append, strLen_append]
    omega
end
theorem wtAll_up {B : Nat} : ∀ {ds : List PyData}, (∀ d ∈ ds, wt d ≤ B) → wtAll ds ≤ (B + 2) * ds.length
  | [], _ => by
    rw [wtAll]
    exact Nat.zero_le _
  | d :: ds, h => by
    rw [wtAll, List.length_cons, Nat.mul_succ]
    have := h d List.mem_cons_self
    have := wtAll_up (ds := ds) fun x m => h x (List.mem_cons_of_mem _ m)
    omega
theorem wtKv_up {B : Nat} : ∀ {ds : List (PyData × PyData)}, (∀ d ∈ ds, wt d.1 + wt d.2 ≤ B) → wtKv ds ≤ (B + 4) * ds.length
  | [], _ => by
    rw [wtKv]
    exact Nat.zero_le _
  | (k, v) :: ds, h => by
    rw [wtKv, List.length_cons, Nat.mul_succ]
    have h1 : wt k + wt v ≤ B := h (k, v) List.mem_cons_self
    have := wtKv_up (ds := ds) fun x m => h x (List.mem_cons_of_mem _ m)
    omega
end Lr

set_option Elab.async false
set_option linter.all false
set_option maxRecDepth 100000
set_option maxHeartbeats 4000000
namespace Ld
open PySem PySem.Spec PyProof.Rows L2 Lg Lr
def topS (i : Nat) : Stmt := PySem.Challenge.pw_leastmend_k23_lists_of_mends.main.body.getD i (.Pass ⟨0, 0, 0, 0⟩)
abbrev s_make_mends : Stmt := topS 4
abbrev s__last_index : Stmt := topS 5
abbrev s__law_draws : Stmt := topS 7
abbrev sDraws : Stmt := topS 7
abbrev s__law_at : Stmt := topS 8
abbrev sAt : Stmt := topS 8
abbrev s__law_is_integer : Stmt := topS 9
abbrev sLInt : Stmt := topS 9
abbrev s__law_due : Stmt := topS 10
abbrev s__law_told : Stmt := topS 11
abbrev s_law : Stmt := topS 12
abbrev sLaw : Stmt := topS 12
section
variable {P : Program} {w : World} {K : PySem.W.Frag} {mg : Str → Option Value} {base : Heap}
/-! ### the law's own draws -/
theorem scDr : FnScope ["script", "draws", "k", "rest", "turn", "mixed"] ["script"] (defScope sDraws) := ⟨rfl, rfl, rfl, by decide +kernel, rfl, by decide +kernel, by decide +kernel⟩
/-- a new list of the draws; what stood stands -/
def spDraws (K : PySem.W.Frag) : Sp := fun vs H Q _ => ∃ (a : Addr) (ns : List Int), vs = [.ref a] ∧ SqL K H a (ns.map V.int) ∧ ns.length ≤ 63 ∧
  ∀ p, H p = none → Q (.ref p) (upd H p (.lst ((drawsOf ns).map V.int)))
theorem ok_draws {f : Addr} {fd : FuncData} {k : Nat} (F : Fun K "_law_draws" "_law_draws" sDraws f fd) (mr : mg "range" = none) (mm : mg "min" = none) (ml : mg "len" = none) (ma : mg "abs" = none) (mi : mg "int" = none) :
    FnOk P w K mg base CX0 (k + 1) f fd ["script"] (spDraws K) := by
  refine F.ok scDr (fun vs H Q E h => ?_) (fun cdv A outer s H vs Q E hr h => ?_)
  · obtain ⟨a, ns, rfl, _⟩ := h
    rfl
  · obtain ⟨a, ns, rfl, hS, hlen, q⟩ := h
    refine ⟨_, pss_cons (ps_set (i := 1) scDr.nd rfl (.inl rfl) (pe_lst pa_nil))
      (pss_cons (ps_for PassesOwn.never rfl (pi_range1 rfl mr (pa_cons (pe_callB (call_min2 rfl) (by rfl) mm (by decide +kernel) (pa_cons pe_int (pa_cons (pe_callB call_len_seq (by rfl) ml PySem.boot_len (pa_cons (pv 0) pa_nil)) pa_nil))) pa_nil))
          (pg_name (i := 2) scDr.nd rfl (.inl rfl))
        (pss_cons (ps_set (i := 3) scDr.nd rfl (.inl rfl) (pe_callB call_abs (by rfl) ma (by decide +kernel) (pa_cons (pe_ix ix_list (pv 0) (pv 2) (fun _ _ => rfl)) pa_nil)))
        (pss_one (ps_if (pt_cmpR op_ge (pv 3) (pe_op op_pow pe_int pe_int) (nomark _))
          (pss_one (ps_for PassesOwn.never rfl (pi_range1 rfl mr (pa_cons pe_int pa_nil)) (pg_name (i := 4) scDr.nd rfl (.inl rfl))
            (pss_one (ps_if (pt_cmpR op_gt (pv 3) pe_int (nomark _))
              (pss_cons (ps_expr (pe_bm PySem.F.plainAttrs_list PySem.F.slot_list_append PySem.F.type_list_append mt_append (pv 1) (pa_cons (pe_op op_mod (pe_callTy call_int1 (by rfl) mi (by decide +kernel) (pa_cons (pv 3) pa_nil)) pe_int) pa_nil)))
              (pss_one (ps_set (i := 3) scDr.nd rfl (.inl rfl) (pe_op op_fdiv (pv 3) pe_int)))) pss_nil))))
          (pss_cons (ps_set (i := 5) scDr.nd rfl (.inl rfl) (pe_op op_mod (pe_callTy call_int1 (by rfl) mi (by decide +kernel) (pa_cons (pe_op op_add (pe_op op_mul (pv 3) pe_int) (pe_op op_mul (pe_op op_add (pv 2) pe_int) pe_int)) pa_nil)) pe_int))
          (pss_cons (ps_set (i := 5) scDr.nd rfl (.inl rfl) (pe_op op_mod (pe_callTy call_int1 (by rfl) mi (by decide +kernel) (pa_cons (pe_op op_add (pe_op op_add (pe_op op_mul (pv 5) pe_int) (pe_op op_mul pe_int (pv 2))) pe_int) pa_nil)) pe_int))
          (pss_cons (ps_expr (pe_bm PySem.F.plainAttrs_list PySem.F.slot_list_append PySem.F.type_list_append mt_append (pv 1) (pa_cons (pe_op op_mod (pe_callTy call_int1 (by rfl) mi (by decide +kernel) (pa_cons (pv 5) pa_nil)) pe_int) pa_nil)))
          (pss_one (ps_expr (pe_bm PySem.F.plainAttrs_list PySem.F.slot_list_append PySem.F.type_list_append mt_append (pv 1) (pa_cons (pe_op op_mod (pe_callTy call_int1 (by rfl) mi (by decide +kernel) (pa_cons (pe_op op_fdiv (pv 5) pe_int) pa_nil)) pe_int) pa_nil)))))))))))
      (pss_one (ps_ret (pv 1)))), ?_⟩
    -- draws = []
    refine ⟨Nat.zero_le _, fun o no => ?_⟩
    have s1 : Same H (upd H o (.lst [])) := same_upd no
    have nao : ∀ G : HO, SqL K (upd H o G) a (ns.map V.int) := fun G => (same_upd no).seq hS
    have hi62 : (ns.length : Int) < 2 ^ 62 := by omega
    -- range(min(63, len(script)))
    have ej : (if ((ns.map V.int).length : Int) < 63 then ((ns.map V.int).length : Int) else 63) = (ns.length : Int) := by
      rw [List.length_map]
      split <;> omega
    refine ⟨.ref a, rfl, a, ns.map V.int, rfl, .inl (s1.seq hS), 63, _, rfl, _, rfl, by rw [ej]; omega, by rw [ej]; omega, ?_⟩
    rw [ej]
    refine for_range (lo := 0) (n := ns.length) (fun i σ H' => ∃ v2 v3 v4 v5, σ = [some (.ref a), some (.ref o), v2, v3, v4, v5] ∧ H' = upd H o (.lst ((drawsN ns i).map V.int))) ⟨none, none, none, none, rfl, rfl⟩ ?_ ?_
    · rintro i σ H' hi ⟨v2, v3, v4, v5, rfl, rfl⟩
      have gi := getI hi
      have hSi := nao (.lst ((drawsN ns i).map V.int))
      have hl := drawsN_len ns i
      -- rest = abs(script[k])
      refine ⟨.ref a, rfl, _, rfl, a, _, _, _, rfl, rfl, hSi, at_of (j := i) (by omega) gi, ns.getD i 0, rfl, ?_⟩
      rw [Int.zero_add]
      refine ⟨_, rfl, _, _, rfl, rfl, ⟨by decide, by decide, by decide⟩, _, _, rfl, rfl, _, rfl, ite2 (fun c => ?_) (fun c => ?_)⟩
      · -- the digits
        have c1 : (10 : Int) ^ (18 : Int).toNat ≤ dabs (ns.getD i 0) := of_decide_eq_true c
        have e1 : drawsN ns (i + 1) = (diter 60 (dabs (ns.getD i 0), drawsN ns i)).2 := if_pos c1
        refine ⟨60, rfl, by decide, by decide, for_range (lo := 0) (n := 60) (fun j σ H' => ∃ v4, σ = [some (.ref a), some (.ref o), some (.int i), some (.int (diter j (dabs (ns.getD i 0), drawsN ns i)).1), v4, v5] ∧ H' = upd H o (.lst ((diter j (dabs (ns.getD i 0), drawsN ns i)).2.map V.int)))
          ⟨v4, rfl, rfl⟩ ?_ ?_⟩
        · rintro j σ H' hj ⟨w4, rfl, rfl⟩
          have hl2 := diter_len (dabs (ns.getD i 0), drawsN ns i) j
          generalize hp : diter j (dabs (ns.getD i 0), drawsN ns i) = p at hl2
          have e2 : diter (j + 1) (dabs (ns.getD i 0), drawsN ns i) = dstep p := by rw [← hp]; rfl
          refine ⟨_, rfl, _, _, rfl, rfl, _, rfl, ite2 (fun c2 => ?_) (fun c2 => ?_)⟩
          · have e3 : dstep p = (p.1 / 65536, p.2 ++ [p.1 % 65536]) := if_pos (of_decide_eq_true c2)
            refine ⟨.ref o, rfl, .inl ⟨rfl, _, SqL.of upd_same⟩, _, rfl, .inl ⟨_, rfl, _, _, rfl, rfl, (by show (0 : Int) < 65536; decide), o, _, _, rfl, rfl, upd_same, ?_, _, rfl, _, _, rfl, rfl, ⟨by decide, by decide⟩, some (.int (0 + j)), ?_, ?_⟩⟩
            · rw [List.length_map]
              refine small4000 ?_
              have hl3 : (drawsN ns i).length ≤ 60 * i := hl
              have hl4 : p.2.length ≤ (drawsN ns i).length + j := hl2
              omega
            · rw [e2, e3]
              rfl
            · rw [e2, e3, upd_upd, List.map_append]
              rfl
          · have e3 : dstep p = p := if_neg fun z => c2 (decide_eq_true z)
            refine ⟨some (.int (0 + j)), ?_, ?_⟩
            · rw [e2, e3]
              rfl
            · rw [e2, e3]
        · rintro σ H' ⟨w4, rfl, rfl⟩
          exact ⟨_, _, _, _, rfl, by rw [e1]⟩
      · -- two mixed numbers
        have e1 : drawsN ns (i + 1) = drawsN ns i ++ [dmix2 i (dabs (ns.getD i 0)) % 65536] ++ [dmix2 i (dabs (ns.getD i 0)) / 65536 % 32768] := if_neg fun z => c (decide_eq_true z)
        refine ⟨_, rfl, _, _, rfl, rfl, .inr ⟨by decide, by decide⟩, _, rfl, _, _, rfl, rfl, _, _, rfl, rfl, .inr ⟨by decide, by decide⟩, _, _, rfl, rfl, .inl ⟨_, rfl, _, _, rfl, rfl, (by show (0 : Int) < 2147483647; decide), ?_⟩⟩
        refine ⟨_, rfl, _, _, rfl, rfl, .inr ⟨by decide, by decide⟩, _, rfl, _, _, rfl, rfl, .inl ⟨by decide, by decide⟩, _, _, rfl, rfl, _, _, rfl, rfl, .inl ⟨_, rfl, _, _, rfl, rfl, (by show (0 : Int) < 2147483629; decide), ?_⟩⟩
        refine ⟨.ref o, rfl, .inl ⟨rfl, _, SqL.of upd_same⟩, _, rfl, .inl ⟨_, rfl, _, _, rfl, rfl, (by show (0 : Int) < 65536; decide), o, _, _, rfl, rfl, upd_same, ?_, ?_⟩⟩
        · rw [List.length_map]
          exact small4000 (by omega)
        refine ⟨.ref o, rfl, .inl ⟨rfl, _, SqL.of upd_same⟩, _, rfl, _, _, rfl, rfl, ⟨by decide, by decide⟩, .inl ⟨_, rfl, _, _, rfl, rfl, (by show (0 : Int) < 32768; decide), o, _, _, rfl, rfl, upd_same, ?_, ?_⟩⟩
        · rw [List.length_append, List.length_map]
          exact small4000 (by show (drawsN ns i).length + 1 ≤ 4000; omega)
        refine ⟨_, _, _, _, rfl, ?_⟩
        rw [e1, upd_upd, upd_upd, List.map_append, List.map_append]
        rfl
    · rintro σ H' ⟨v2, v3, v4, v5, rfl, rfl⟩
      exact ⟨.ref o, rfl, q o no⟩
/-! ### a draw below many -/
theorem scAt : FnScope ["draws", "k", "many"] ["draws", "k", "many"] (defScope sAt) := ⟨rfl, rfl, rfl, by decide +kernel, rfl, by decide +kernel, by decide +kernel⟩
def spAt (K : PySem.W.Frag) : Sp := fun vs H Q _ => ∃ (a : Addr) (ds : List Int) (k many : Int), vs = [.ref a, .int k, .int many] ∧ SqL K H a (ds.map V.int) ∧ 0 ≤ k ∧ 0 < many ∧ Q (.int (atD ds k many)) H
theorem ok_at {f : Addr} {fd : FuncData} {k : Nat} (F : Fun K "_law_at" "_law_at" sAt f fd) (ml : mg "len" = none) (mi : mg "int" = none) :
    FnOk P w K mg base CX0 (k + 1) f fd ["draws", "k", "many"] (spAt K) := by
  refine F.ok scAt (fun vs H Q E h => ?_) (fun cdv A outer s H vs Q E hr h => ?_)
  · obtain ⟨a, ds, k, many, rfl, _⟩ := h
    rfl
  · obtain ⟨a, ds, k, many, rfl, hS, h0, hm, q⟩ := h
    refine ⟨_, pss_cons (ps_if (pt_cmpR op_lt (pv 1) (pe_callB call_len_seq (by rfl) ml PySem.boot_len (pa_cons (pv 0) pa_nil)) (nomark _))
        (pss_one (ps_ret (pe_op op_mod (pe_callTy call_int1 (by rfl) mi (by decide +kernel) (pa_cons (pe_ix ix_list (pv 0) (pv 1) (fun _ _ => rfl)) pa_nil)) (pv 2)))) pss_nil)
      (pss_one (ps_ret pe_int)), ?_⟩
    refine ⟨_, rfl, _, rfl, a, _, rfl, .inl hS, _, _, rfl, rfl, _, rfl, ite2 (fun c => ?_) (fun c => ?_)⟩
    · have c1 : k < ((ds.map V.int).length : Int) := of_decide_eq_true c
      rw [List.length_map] at c1
      have gi := getI (ns := ds) (i := k.toNat) (by omega)
      refine ⟨_, rfl, _, rfl, a, _, _, _, rfl, rfl, hS, at_of (j := k.toNat) (by omega) gi, .inl ⟨_, rfl, _, rfl, _, _, rfl, rfl, hm, ?_⟩⟩
      have e : atD ds k many = ds.getD k.toNat 0 % many := if_pos c1
      show Q (.int (ds.getD k.toNat 0 % many)) H
      rw [← e]
      exact q
    · have c1 : ¬ k < ((ds.map V.int).length : Int) := fun z => c (decide_eq_true z)
      rw [List.length_map] at c1
      have e : atD ds k many = 0 := if_neg c1
      show Q (.int 0) H
      rw [← e]
      exact q
theorem units1 {k : Nat} {A : Around} (h : Room k A) : A.units + 1 < cLine := by
  have := h.un
  omega
theorem units64 {k : Nat} {A : Around} (h : Room k A) : A.units + 64 < cLine := by
  have := h.un
  omega
theorem units66 {k : Nat} {A : Around} (h : Room k A) : A.units + 66 < cLine := by
  have := h.un
  omega
theorem units120 {k : Nat} {A : Around} (h : Room k A) : A.units + 120 < cLine := by
  have := h.un
  omega
end
end Ld

set_option Elab.async false
set_option linter.all false
set_option maxRecDepth 100000
set_option maxHeartbeats 4000000
/-! Lists of values that bear lists of things; cuts of lists. -/
namespace Ld
open PySem PySem.Spec PyProof.Rows L2
def Rel2 {α : Type} (R : V → α → Prop) : List V → List α → Prop
  | [], [] => True
  | v :: vs, x :: xs => R v x ∧ Rel2 R vs xs
  | _, _ => False
section
variable {α : Type} {R S : V → α → Prop}
theorem Rel2.mono (h : ∀ v x, R v x → S v x) : ∀ {vs : List V} {xs : List α}, Rel2 R vs xs → Rel2 S vs xs
  | [], [], _ => True.intro
  | _ :: _, _ :: _, q => ⟨h _ _ q.1, Rel2.mono h q.2⟩
  | [], _ :: _, q => q.elim
  | _ :: _, [], q => q.elim
theorem Rel2.len : ∀ {vs : List V} {xs : List α}, Rel2 R vs xs → vs.length = xs.length
  | [], [], _ => rfl
  | _ :: _, _ :: _, q => by rw [List.length_cons, List.length_cons, Rel2.len q.2]
  | [], _ :: _, q => q.elim
  | _ :: _, [], q => q.elim
theorem Rel2.get : ∀ {vs : List V} {xs : List α} {i : Nat} {v : V}, Rel2 R vs xs → vs[i]? = some v → ∃ x, xs[i]? = some x ∧ R v x
  | _ :: _, x :: _, 0, _, q, e => by
    cases e
    exact ⟨x, rfl, q.1⟩
  | _ :: _, _ :: _, i + 1, _, q, e => Rel2.get (i := i) q.2 e
  | [], _, _, _, _, e => by cases e
  | _ :: _, [], _, _, q, _ => q.elim
theorem Rel2.at {vs : List V} {xs : List α} {i : Nat} {x : α} (q : Rel2 R vs xs) (e : xs[i]? = some x) : ∃ v, vs[i]? = some v ∧ R v x := by
  have hi : i < vs.length := by rw [q.len]; exact (List.getElem?_eq_some_iff.mp e).1
  obtain ⟨y, e2, r⟩ := q.get (List.getElem?_eq_getElem hi)
  rw [e] at e2
  cases e2
  exact ⟨_, List.getElem?_eq_getElem hi, r⟩
theorem Rel2.app : ∀ {vs ws : List V} {xs ys : List α}, Rel2 R vs xs → Rel2 R ws ys → Rel2 R (vs ++ ws) (xs ++ ys)
  | [], _, [], _, _, r => r
  | _ :: _, _, _ :: _, _, q, r => ⟨q.1, Rel2.app q.2 r⟩
  | [], _, _ :: _, _, q, _ => q.elim
  | _ :: _, _, [], _, q, _ => q.elim
theorem Rel2.snoc {vs : List V} {xs : List α} {v : V} {x : α} (q : Rel2 R vs xs) (r : R v x) : Rel2 R (vs ++ [v]) (xs ++ [x]) := q.app ⟨r, True.intro⟩
theorem Rel2.take : ∀ {vs : List V} {xs : List α} (n : Nat), Rel2 R vs xs → Rel2 R (vs.take n) (xs.take n)
  | _, _, 0, _ => True.intro
  | [], [], _ + 1, _ => True.intro
  | _ :: _, _ :: _, n + 1, q => ⟨q.1, Rel2.take n q.2⟩
  | [], _ :: _, _ + 1, q => q.elim
  | _ :: _, [], _ + 1, q => q.elim
theorem Rel2.drop : ∀ {vs : List V} {xs : List α} (n : Nat), Rel2 R vs xs → Rel2 R (vs.drop n) (xs.drop n)
  | _, _, 0, q => q
  | [], [], _ + 1, _ => True.intro
  | _ :: _, _ :: _, n + 1, q => Rel2.drop n q.2
  | [], _ :: _, _ + 1, q => q.elim
  | _ :: _, [], _ + 1, q => q.elim
theorem Rel2.reverse : ∀ {vs : List V} {xs : List α}, Rel2 R vs xs → Rel2 R vs.reverse xs.reverse
  | [], [], _ => True.intro
  | v :: vs, x :: xs, q => by
    rw [List.reverse_cons, List.reverse_cons]
    exact (Rel2.reverse q.2).snoc q.1
  | [], _ :: _, q => q.elim
  | _ :: _, [], q => q.elim
theorem Rel2.map {β : Type} {T : V → β → Prop} {g : α → β} (h : ∀ v x, R v x → T v (g x)) : ∀ {vs : List V} {xs : List α}, Rel2 R vs xs → Rel2 T vs (xs.map g)
  | [], [], _ => True.intro
  | _ :: _, _ :: _, q => ⟨h _ _ q.1, Rel2.map h q.2⟩
  | [], _ :: _, q => q.elim
  | _ :: _, [], q => q.elim
theorem Rel2.dp {K : PySem.W.Frag} {H : Hp} {D : α → PyData} (h : ∀ v x, R v x → Dp K H v (D x)) : ∀ {vs : List V} {xs : List α}, Rel2 R vs xs → DpAll K H vs (xs.map D)
  | [], [], _ => .nil
  | _ :: _, _ :: _, q => .cons (h _ _ q.1) (Rel2.dp h q.2)
  | [], _ :: _, q => q.elim
  | _ :: _, [], q => q.elim
end
theorem cut_from {vs : List V} {n : Nat} : cutV vs (some (n : Int)) none = vs.drop n := by
  unfold cutV
  rw [HT.sIx_nat, HT.sIx_none]
  by_cases h : n ≤ vs.length
  · rw [Nat.min_eq_left h, List.take_of_length_le (by rw [List.length_drop]; exact Nat.le_refl _)]
  · have h := Nat.le_of_lt (Nat.lt_of_not_le h)
    rw [Nat.min_eq_right h, List.drop_of_length_le h, List.drop_of_length_le (Nat.le_refl _), List.take_nil]
theorem cut_to {vs : List V} {n : Nat} : cutV vs none (some (n : Int)) = vs.take n := by
  unfold cutV
  rw [HT.sIx_nat, HT.sIx_none, Nat.sub_zero, List.drop_zero]
  by_cases h : n ≤ vs.length
  · rw [Nat.min_eq_left h]
  · have h := Nat.le_of_lt (Nat.lt_of_not_le h)
    rw [Nat.min_eq_right h, List.take_of_length_le h, List.take_of_length_le (Nat.le_refl _)]
theorem cut_mid {vs : List V} {i k : Nat} (h : k ≤ vs.length) (h2 : i ≤ k) : cutV vs (some (i : Int)) (some (k : Int)) = (vs.drop i).take (k - i) := by
  unfold cutV
  rw [HT.sIx_nat, HT.sIx_nat, Nat.min_eq_left h, Nat.min_eq_left (Nat.le_trans h2 h)]
end Ld

set_option Elab.async false
set_option linter.all false
set_option maxRecDepth 100000
set_option maxHeartbeats 4000000
/-! Errors of own classes as values: made by a call, their field read, isinstance asked. -/
namespace PySem.W
open PySem PySem.Spec PySem.Calls PyProof.Rows
section
variable {prog : Program} {w : World} {A : Around} {E : Value → Shared → Prop} {s : Shared} {K : Frag} {x D : Addr} {ox : Obj} {od : Option Obj}
/-- its class, where the error has a dict of its own -/
theorem ask_class {Q : Option Value → Shared → Prop} (lead : findIn K (.ref D) "__getattribute__" = some (some (.builtin "BaseException.__getattribute__"))) (noGet : findIn K (.ref D) "__getattr__" = some none) (below : subIn K (.ref D) (.type "BaseException") = some true)
    (found : findObj K D od "__class__" = some (.bind (.builtin "getset_descriptor.__get__") (.builtin "object.__class__"))) (top : mroIn K D (.type "object") = some true) (Y : K.In s.heap) (J : InstAt s.heap x ox D od) (done : Q (some (.ref D)) { s with toks := s.toks + 1 }) :
    wpAny (model prog w) A (getAttr? (.ref x) "__class__") Q E s := by
  obtain ⟨hp, g, d, t, os⟩ := s
  have its := J.type (M := model prog w)
  have other : (Value.builtin "BaseException.__getattribute__" == Value.builtin "object.__getattribute__") = false := by decide +kernel
  have plain : (onTheHeap (Value.ref D) && Value.builtin "BaseException.__getattribute__" == Value.builtin "object.__getattribute__") = false := by rw [other, Bool.and_false]
  unfold getAttr? getAttrBy? getAttrBy
  refine wpAny_bind (wpAny_mkText (wpAny_bind (wpAny_attempt (wpAny_holding (wpAny_bind (its.at (wpAny_bind ((looks_findIn Y lead).at ?_))))))))
  show wpAny _ _ (ite ((onTheHeap (Value.ref D) && Value.builtin "BaseException.__getattribute__" == Value.builtin "object.__getattribute__") = true) _ _) _ _ _
  rw [plain, if_neg Bool.false_ne_true]
  unfold getAttrByItsOwn hookBefore
  refine wpAny_bind ?_
  rw [if_pos (show onTheHeap (Value.ref D) = true from rfl)]
  refine (looks_findIn Y noGet).at (wpAny_bind (wpAny_attempt (wpAny_holding ?_)))
  unfold callGetattribute
  rw [show (false && onTheHeap (Value.builtin "BaseException.__getattribute__")) = false from rfl, if_neg Bool.false_ne_true]
  unfold boundAndCalled
  rw [PySem.F.excAttr_ValueError.ga.bind (.ref x)]
  refine wpAny_bind (wpAny_pure ?_)
  show wpAny _ _ (call (.builtin "BaseException.__getattribute__") [.ref x, .str "__class__" t]) _ _ _
  refine wpAny_call (codeAny_call_builtin PySem.F.excAttr_ValueError.ga.plain PySem.F.entry_bexc_ga ?_)
  refine @check_slot (model prog w) _ _ ⟨hp, g, d, t + 1, os⟩ "BaseException.__getattribute__" "BaseException" "__getattribute__" (.ref x) [.str "__class__" t] [] _ (by decide +kernel) (by decide +kernel) (its.andThen (looks_subIn Y below)) (PySem.F.args_bexc_ga (.ref x) (.str "__class__" t)) ?_
  unfold Builtin.«object.__getattribute__»
  refine wpAny_bind (wpAny_of_eq (a := ((Value.ref x : Value), [Value.str "__class__" t])) (by first | rfl | (simp only [slotArgs]; rfl)) ?_)
  refine wpAny_bind (wpAny_pure (wpAny_bind (its.at (wpAny_bind ((looks_find Y J found).at ?_)))))
  show wpAny _ _ (holding [Value.builtin "object.__class__"] (call (.builtin "getset_descriptor.__get__") [.builtin "object.__class__", .ref x, .ref D]) >>= ret) _ _ _
  refine wpAny_bind (wpAny_holding (wpAny_call (class_get (s := ⟨hp, g, d, t + 1, os⟩) (ox := ox) (od := od) Y J top (wpAny_pure ?_))))
  show wpAny _ _ (handedOut (.ref D)) _ _ _
  rw [handedOut_of (v := .ref D) rfl]
  first
    | exact wpAny_pure (wpAny_pure done)
    | exact wpAny_pure done
    | exact wpAny_pure (wpAny_bind (wpAny_pure (wpAny_pure done)))
theorem cls_there (have_ : hasDictIn K D = true) : ∃ c d cd sl, K.lookup D = some ⟨c, d, .cls cd, sl⟩ := by
  obtain ⟨cd, hc, _⟩ := any_some have_
  unfold clsIn at hc
  split at hc
  · rename_i c d cd' sl ho
    exact ⟨c, d, cd', sl, ho⟩
  · cases hc
end
end PySem.W
namespace PySem.W
open PySem PySem.Spec PySem.Calls PyProof.Rows
theorem kit_err {K : Frag} {x D : Addr} {ox od : Obj} (lead : findIn K (.ref D) "__getattribute__" = some (some (.builtin "BaseException.__getattribute__"))) (noGet : findIn K (.ref D) "__getattr__" = some none) (below : subIn K (.ref D) (.type "BaseException") = some true) (have_ : hasDictIn K D = true)
    (found : findObj K D (some od) "__class__" = some (.bind (.builtin "getset_descriptor.__get__") (.builtin "object.__class__"))) (top : mroIn K D (.type "object") = some true) : KitX K (.ref x) (.ref D) (fun h => InstAt h x ox D (some od)) := by
  obtain ⟨c, d, cd, sl, at_⟩ := cls_there have_
  refine ⟨fun _ _ _ J => J.type, fun _ _ Y _ => ?_, fun h tp dd its n sl Y e => ?_, fun Y J q => ask_class lead noGet below found top Y J q⟩
  · intro A' Q' E' s' up q
    unfold isType loadHead
    exact wpAny_bind (wpAny_loadPart (up _ _ (Y _ _ at_)) (wpAny_pure q))
  · refine Bool.eq_false_iff.mpr fun q => ?_
    have same : D = tp := Value.ref.inj (beq_iff_eq.mp q)
    rw [← same] at e
    have two := (Y _ _ at_).symm.trans e
    cases two
end PySem.W
namespace Le
open PySem PySem.Spec PyProof.Rows L2
/-- what the written part says of an error's class, for its making, its field «at», and isinstance -/
structure ErrC (K : PySem.W.Frag) (C fI : Addr) : Prop where
  oex : OexC K C
  exc : ExcC K C
  ini : PySem.W.findIn K (.ref C) "__init__" = some (some (.ref fI))
  tyI : PySem.W.typeIn K (.ref fI) = some (.type "function")
  noAt : PySem.W.findIn K (.ref C) "at" = some none
/-- at a: an error of the class at C, made of the integer n -/
def ErrAt (H : Hp) (a C d : Addr) (n : Int) : Prop := H a = some (exo a C (some d)) ∧ H d = some (exd d [(("at" : Str), V.int n)])
def spInit (K : PySem.W.Frag) : Sp := fun vs H Q _ => ∃ (a C fI : Addr) (n : Int), vs = [.ref a, .int n] ∧ ErrC K C fI ∧ H a = some (exo a C none) ∧
  ∀ d, H d = none → d ≠ a → Q .non (upd (upd H d (exd d [(("at" : Str), V.int n)])) a (exo a C (some d)))
section
variable {X : Cx}
/-- C(e, ..) as a value, C's __init__ keeping sp -/
def tErr (C : Addr) (sp : Sp) (ta : TA) : TE := fun σ H Q => ta σ H fun vs H1 => vs.length ≤ 1000 ∧ ∀ a, H1 a = none → sp (.ref a :: (vs ++ [])) (upd H1 a (exo a C none)) (fun v H2 => v = .non ∧ Q (.ref a) H2) (fun _ _ _ => False)
theorem pe_err {e : Expr} {es : List Expr} {ta : TA} {CX : CXT} {x : Str} {C fI : Addr} {k : Nat} {fd : FuncData} {ps : List Str} {sp : Sp} {p pos : Pos} (T : ErrC X.K C fI) (G : FnOk X.prog X.w X.K X.mg X.base CX k fI fd ps sp) (hr : Room (k + 1) X.A) (hb : Binds X.K fd ps []) (hx : Passes CX X (fun _ _ _ => False)) (hg : Gl X x) (hm : X.mg x = some (.ref C)) (ha : PA X (e :: es) ta)
    (hdb : (x == ("__debug__" : Str)) = false := by decide) (he : starEach (e :: es) X.env = (false, eval e X.env) :: starEach es X.env := by rfl) (hpl : (backTo pos (starEach es X.env)).any (·.1) = false := by rfl) : PE X (.Call (.Name x p) (e :: es) [] pos) (tErr C sp ta) := by
  refine ⟨fun pins s σ H Q I h => ?_⟩
  obtain ⟨nm, q, N, bs, bm, sn, sub, ab, col, dd, k0, k1, k2, k3, k5, obj, base⟩ := T.oex.cls
  refine wpAny_Call_Name_kw (ld_glob I hg hm ?_ hdb)
  refine PySem.W.callWith_K (h₀ := X.base) I.ok.mod.kin T.oex.kC (thn (ha.run pos pins s σ H _ I h) fun us s1 got => ?_) he hpl
  obtain ⟨vs, H1, J, rel, few, want⟩ := got
  refine ⟨J.kIn, ?_⟩
  obtain ⟨hp, g, dr, tk, os⟩ := s1
  have next : hp.objs.size ≤ hp.objs.size + 1 := Nat.le_succ _
  have promise := want _ (J.hok.fresh next)
  have J2 : Inv X pins σ (upd H1 (hp.objs.size + 1) (exo (hp.objs.size + 1) C none)) ⟨(hp.push (PySem.W.kdv_tup us)).push (PySem.HandSPX.excO C hp.objs.size), g, dr, tk, os⟩ :=
    J.laid (t' := tk) (fun b o e => Heap.get?_push_of_some _ (Heap.get?_push_of_some _ e)) next (exo_ok (show Heap.get? _ (hp.objs.size + 1) = some (PySem.HandSPX.excO C hp.objs.size) by heap_get))
  have rel2 : Vals (V.ref (hp.objs.size + 1) :: (vs ++ [])) (Value.ref (hp.objs.size + 1) :: (us ++ [])) := .cons rfl (rel.append .nil)
  have count : (Value.ref (hp.objs.size + 1) :: us ++ []).length = ps.length := by
    have e := rel2.length
    rw [G.len _ _ _ _ promise] at e
    exact e.symm
  have room : us.length ≤ sizeLine := by
    rw [← Paired.length rel, sizeLine_eq]
    omega
  show wpAny _ _ (call (.ref C) us) _ _ _
  refine wpAny_call (PySem.HandSPX.call_own F.excBase_ValueError (fun Y => PySem.HandSPX.refsVE_contains Y bm base) (J.kIn _ _ obj) (PySem.W.looks_findIn J.kIn T.ini) (fun self => PySem.W.bind_fn J.kIn self T.tyI) room
    (codeAny_mono (G.run _ X.stack _ _ ⟨Value.ref (hp.objs.size + 1) :: us, []⟩ (Value.ref (hp.objs.size + 1) :: (us ++ [])) _ _ (fun _ _ _ => False) (hr.make C us []) (J2.env0.make C us []) (by have z := hb _ (Value.ref (hp.objs.size + 1) :: us) J2.kIn count; rw [List.cons_append] at z; exact z) rel2 promise) fun r s' left => ?_))
  cases r with
  | error er => exact hx pins σ _ _ er s' J2 left
  | ok fl =>
    cases fl with
    | ret u =>
      obtain ⟨v, H2, os2, bare2, un2, ok2, rv, isNon, q2⟩ := left
      subst isNon
      exact ⟨rv, .ref (hp.objs.size + 1), H2, J2.call' (ch := []) os2 un2 ok2 bare2 (fun b z => absurd z (by simp)), rfl, q2⟩
    | next => exact False.elim left
    | brk => exact False.elim left
    | cont => exact False.elim left
/-- e.at, e an error -/
def tAt (K : PySem.W.Frag) (te : TE) : TE := fun σ H Q => te σ H fun x H1 => ∃ (a C d fI : Addr) (n : Int), x = .ref a ∧ ErrC K C fI ∧ ErrAt H1 a C d n ∧ Q (.int n) H1
theorem inst_of {pins : List (Addr × Obj)} {σ : L2.St} {H : Hp} {s : Shared} {a C d : Addr} {n : Int} (I : Inv X pins σ H s) (h : ErrAt H a C d n) : ∃ (ox od : Obj) (mA : Str → Option Value), PySem.W.InstAt s.heap a ox C (some od) ∧ (∀ f : Str, PySem.W.lookIn f od = some (mA f)) ∧ ∀ f : Str, RelO ([(("at" : Str), V.int n)].lookup f) (mA f) := by
  obtain ⟨t1, ho⟩ := exo_at I.hok h.1
  obtain ⟨mA, ns, rel⟩ := exd_at I.hok h.2
  obtain ⟨od, hd, hl⟩ := lookIn_ns ns
  exact ⟨_, od, mA, ⟨ho, rfl, rfl, hd⟩, hl, rel⟩
theorem pe_at {e : Expr} {te : TE} {pos : Pos} (he : PE X e te) (hb : attributeBase e "at" X.env (eval e X.env) = eval e X.env := by rfl) : PE X (.Attribute e "at" pos) (tAt X.K te) := by
  refine ⟨fun pins s σ H Q I h => ?_⟩
  refine attr_of hb (thn (he.run pins s σ H _ I h) fun u s1 got => ?_)
  obtain ⟨x, H1, J, rx, a, C, d, fI, n, rfl, T, at_, q⟩ := got
  obtain rfl : u = Value.ref a := rx
  obtain ⟨ox, od, mA, inst, look, rel⟩ := inst_of J at_
  have l : List.lookup ("at" : Str) [(("at" : Str), V.int n)] = some (V.int n) := by simp [List.lookup]
  obtain ⟨v, hv, rv⟩ := RelO.some_of (v := V.int n) (o := mA "at") (by rw [← l]; exact rel "at")
  exact HandSPX.exc_get J.kIn inst T.exc.hg T.exc.hk T.exc.hs (PySem.W.findObj_own T.exc.hd T.noAt rfl (by rw [look, hv])) (handed_of rv) ⟨.int n, H1, J.tok _, rv, q⟩
/-- isinstance(e, c), e an error -/
def rIsErr (K : PySem.W.Frag) : List V → Hp → VK → Prop := fun xs H Q => ∃ (a C d fI : Addr) (n : Int) (c : V) (cv : Value) (b : Bool), xs = [.ref a, c] ∧ ClsV c cv ∧ ErrC K C fI ∧ ErrAt H a C d n ∧ PySem.W.kitOne K (.ref C) cv = some b ∧ Q (.bl b) H
theorem call_isErr : CallR X (.builtin "isinstance") (rIsErr X.K) := by
  intro pins s σ H xs us Q I r h
  obtain ⟨a, C, d, fI, n, c, cv, b, rfl, cl, T, at_, kit, q⟩ := h
  obtain ⟨u1, u2, rfl, r1, r2⟩ := vals2 r
  obtain rfl := cl.eq r2
  obtain rfl : u1 = Value.ref a := r1
  obtain ⟨ox, od, mA, inst, _, _⟩ := inst_of I at_
  have there : (PySem.W.clsIn X.K C).isSome = true := by
    obtain ⟨cd, hc, _⟩ := PySem.W.any_some T.exc.hd
    rw [hc]
    rfl
  exact PySem.W.kia_one (PySem.W.kit_err T.exc.hg T.exc.hk T.exc.hs T.exc.hd (PySem.W.findObj_data there T.exc.ha T.exc.hn T.exc.ht) T.exc.hm) I.kIn inst kit (fun z => nomatch z) fun tk => ⟨.bl b, H, I.tok tk, rfl, q⟩
end
end Le

set_option Elab.async false
set_option linter.all false
set_option maxRecDepth 100000
set_option maxHeartbeats 4000000
/-! try with several except clauses, each with or without a name. -/
namespace Lt
open PySem PySem.Spec PyProof.Rows L2
/-- one clause: the class, the slot of its name if it has one, what its suite asks -/
abbrev Cl := Value × Option Nat × (Addr → Value → Option Addr → TS)
/-- the ends of a suite: the name's slot is emptied -/
def emptied (D : Ends) (o : Option Nat) : Ends := match o with
  | none => D
  | some i => { nx := fun σ' H' => D.nx (σ'.set i none) H', rt := D.rt, bk := fun σ' H' => D.bk (σ'.set i none) H', ct := fun σ' H' => D.ct (σ'.set i none) H' }
def named (o : Option Nat) (a : Addr) (σ : L2.St) : L2.St := match o with
  | none => σ
  | some i => σ.set i (some (.ref a))
/-- the wish of the clauses, one after the other -/
def wCls (K : PySem.W.Frag) (Wo : WX) (D : Ends) : List Cl → WX
  | [] => Wo
  | q :: r => fun cls d σ H => ∃ b, PySem.W.exmOne K cls q.1 = some b ∧ (b = true → ∀ a, H a = none → q.2.2 a cls d (emptied D q.2.1) (named q.2.1 a σ) H) ∧ (b = false → wCls K Wo D r cls d σ H)
/-- the clause's name is a local in slot i, or there is none -/
def NameAt (X : Cx) : Option Str → Option Nat → Prop
  | none, none => True
  | some n, some i => X.N[i]? = some n ∧ X.env.kindOf n = some .local
  | _, _ => False
inductive ClsOk (X : Cx) : List ExceptHandler → List Cl → Prop
  | nil : ClsOk X [] []
  | cons {x : Str} {nm : Option Str} {c : Value} {o : Option Nat} {ts : Addr → Value → Option Addr → TS} {b₀ : Stmt} {suite : List Stmt} {np pos' : Pos} {hds : List ExceptHandler} {l : List Cl} (hc : Names X x c) (hn : NameAt X nm o)
      (hsu : ∀ (a : Addr) (oe : Obj) (cls : Value) (d : Option Addr) (pn : List (Addr × Obj)), Zc cls d oe → (∃ vs, oe.data = .fields vs) → PSs (X.suite a ((a, oe) :: pn)) (b₀ :: suite) (ts a cls d)) (r : ClsOk X hds l) :
      ClsOk X (.ExceptHandler (some (.Name x np)) nm (b₀ :: suite) pos' :: hds) ((c, o, ts) :: l)
section
variable {X : Cx} {pins : List (Addr × Obj)} {D : Ends} {Wo : WX}
/-- the clauses are asked -/
theorem asks (tk : Takes X Wo) (hs : X.stack = X.env :: X.outer) (hf : X.env.frame = some X.env.locals) (hN : X.N.Nodup) {B : Heap} {s' : Shared} {h3 : Heap} {a : Addr} {σ : L2.St} {H : Hp} {cls : Value} {d : Option Addr}
    (J3 : ∀ h4, HandSPX.FlyingZ B (X.env :: X.outer) a (Zc cls d) h4 → h3.UpToSlots h4 → Inv X pins σ H { s' with heap := h4 })
    (out : ∀ h4, HandSPX.HeldZ B (X.env :: X.outer) a (Zc cls d) X.env.locals h4 → h3.UpToSlots h4 → Wo cls d σ H → XE X Wo (.ref a) { s' with heap := h4 })
    (fl : HandSPX.FlyingZ B (X.env :: X.outer) a (Zc cls d) h3) (na : H a = none) {hds : List ExceptHandler} {l : List Cl} (ok : ClsOk X hds l) (want : wCls X.K Wo D l cls d σ H) :
    wpAny (model X.prog X.w) X.A (handleBy (.ref a) X.env hds) (SP X pins D) X.xe { s' with heap := h3 } := by
  have I3 := J3 h3 fl (Heap.UpToSlots.refl _)
  have frame : ∀ {h : Heap} {o : Obj} {vs : Array Value}, h.FunFrames B (X.env :: X.outer) → h.get? a = some o → o.data = .fields vs → a ∉ frs (X.env :: X.outer) := by
    intro h o vs ff e dd hm
    obtain ⟨_, o2, e2, out2⟩ := ff.mem hm
    rw [e] at e2
    cases e2
    exact out2 _ dd
  obtain ⟨oe3, vs3, he3, hz3, hd3⟩ := fl.there
  have nfr := frame fl.2.2.1 he3 hd3
  have nL : a ≠ X.env.locals := fun z => nfr (List.mem_filterMap.mpr ⟨X.env, List.mem_cons_self, by rw [hf, z]⟩)
  have nF : a ∉ X.fs := by
    intro hm
    obtain ⟨e, he, q⟩ := List.mem_filterMap.mp hm
    exact nfr (List.mem_filterMap.mpr ⟨e, List.mem_cons_of_mem _ he, q⟩)
  have S3 := I3.suite he3 hd3 na nL nF
  have LT : PySem.W.Looks (model X.prog X.w) h3 (typeOf (.ref a)) cls := fun A Q E s k q => wpAny_typeOf_ref (k _ _ he3) (by rw [hz3.1]; exact q)
  induction ok with
  | nil =>
    refine wpAny_handleBy_nil ?_
    obtain ⟨k1, k2, k3, oe, vs, T, oT, ts2, he, hz, hd, h1, hr⟩ := id fl
    unfold PySem.passOn
    refine wpAny_bind (wpAny_field he hd h1 ?_)
    rw [if_neg (show ¬ ((Value.ref T == Value.none) = true) from by simp)]
    have fin : wpAny (model X.prog X.w) X.A (setFlight (.ref a) X.env.frame) (fun _ s4 => wpAny (model X.prog X.w) X.A (throw (.ref a) : Sem Flow) (SP X pins D) X.xe s4) X.xe { s' with heap := h3 } := by
      rw [hf]
      exact HandSPX.setFlight_upZ fl fun h4 hh4 up4 => wpAny_throw (tk _ _ (out h4 hh4 up4 want))
    first
      | exact wpAny_bind (wpAny_pure (wpAny_bind fin))
      | exact wpAny_bind fin
  | @cons x nm c o ts b₀ suite np pos' hds2 l2 hc hn hsu r ih =>
    obtain ⟨b, hb1, yes, no⟩ := want
    refine wpAny_handleBy_cons (codeAny_handlers_test ?_) (by intro q; cases q)
    have LM := PySem.W.exm_one (M := model X.prog X.w) (I3.kIn) LT hb1
    have test : ∀ {Q E : Value → Shared → Prop}, Q c { s' with heap := h3 } → wpAny (model X.prog X.w) (X.A.mark (some (.ref a))) (eval (.Name x np) X.env) Q E { s' with heap := h3 } := by
      intro Q E q
      obtain ⟨hg, hdbg, hm | ⟨hm, hv, hnn⟩⟩ := hc
      · exact ld_glob (X := X.suite a ((a, oe3) :: (X.pn ++ pins))) S3 hg hm q hdbg
      · exact ld_blt (X := X.suite a ((a, oe3) :: (X.pn ++ pins))) S3 hg hm hv q hnn hdbg
    refine test (LM.here ?_)
    cases b with
    | false => exact ih (no rfl)
    | true =>
      have want2 := yes rfl a na
      cases nm with
      | none =>
        cases o with
        | some i => exact hn.elim
        | none =>
          refine codeAny_handlers_suite (HandSPX.lands_againZ fl fun h4 fl4 up4 => ?_)
          obtain ⟨oe4, vs4, he4, hz4, hd4⟩ := fl4.there
          have S4 := (J3 h4 fl4 up4).suite he4 hd4 na nL nF
          refine wpAny_mono ((hsu a oe4 cls d (X.pn ++ pins) hz4 ⟨_, hd4⟩).run [] _ _ H _ S4 want2) (fun f s6 hsp => ?_) (fun _ _ z => False.elim z)
          cases f
          all_goals
            first
              | (obtain ⟨σ6, H6, S6, q6⟩ := hsp; exact ⟨_, _, S6.unsuite I3.ok, q6⟩)
              | (obtain ⟨v6, σ6, H6, S6, r6, q6⟩ := hsp; exact ⟨_, _, _, S6.unsuite I3.ok, r6, q6⟩)
      | some n =>
        cases o with
        | none => exact hn.elim
        | some i =>
          obtain ⟨hi, hln⟩ := hn
          refine codeAny_handlers_suite_as (HandSPX.lands_againZ fl fun h4 fl4 up4 => ?_)
          obtain ⟨oe4, vs4, he4, hz4, hd4⟩ := fl4.there
          have S4 := (J3 h4 fl4 up4).suite he4 hd4 na nL nF
          refine store_ok (X := X.suite a ((a, oe4) :: (X.pn ++ pins))) (v := .ref a) S4 hN hi (.inl hln) rfl (fun s5 S5 => ?_) (.inr hln)
          refine wpAny_mono ((hsu a oe4 cls d (X.pn ++ pins) hz4 ⟨_, hd4⟩).run [] s5 _ H _ S5 want2) (fun f s6 hsp => ?_) (fun _ _ z => False.elim z)
          cases f
          all_goals
            first
              | (obtain ⟨σ6, H6, S6, q6⟩ := hsp; exact gone_ok (S6.unsuite I3.ok) hN hi hln fun s7 J7 => ⟨_, _, J7, q6⟩)
              | (obtain ⟨v6, σ6, H6, S6, r6, q6⟩ := hsp; exact gone_ok (S6.unsuite I3.ok) hN hi hln fun s7 J7 => ⟨_, _, _, J7, r6, q6⟩)
theorem ps_try_cls {body : List Stmt} {h₀ : ExceptHandler} {hds : List ExceptHandler} {l : List Cl} {pos : Pos} {tb : WX → TS} (hs : X.stack = X.env :: X.outer) (hf : X.env.frame = some X.env.locals) (hN : X.N.Nodup) (tk : Takes X Wo)
    (hb : ∀ (W : WX) (pn : List (Addr × Obj)) (xe : Value → Shared → Prop), Takes (X.tr pn xe) W → PassesOwn (model X.prog X.w) X.A X.env xe → PSs (X.tr pn xe) body (tb W))
    (hh : ClsOk X (h₀ :: hds) l) : PS X (.Try body (h₀ :: hds) [] [] pos) (fun D σ H => tb (wCls X.K Wo D l) D σ H) := by
  refine ⟨fun pins s σ H D I h => ?_⟩
  have ok := I.ok
  have hfr : X.A.frames = some (X.env :: X.outer) := ok.frames.trans (congrArg some hs)
  refine wpAny_Try_except (wpAny_mono ((hb (wCls X.K Wo D l) (X.pn ++ pins) (fun e s₁ => wpAny (model X.prog X.w) X.A (noteFrame e X.env) (fun _ s₂ => wpAny (model X.prog X.w) X.A (setFlight e none)
    (fun _ s₃ => wpAny (model X.prog X.w) X.A (handleBy e X.env (h₀ :: hds)) (SP X pins D) X.xe s₃) X.xe s₂) X.xe s₁) (fun u s' xx => ?_) PassesOwn.looking).run [] s σ H D (I.toTry _) h) (fun f s1 hsp => ?_) (fun e s1 he => he))
  · obtain ⟨a, B, sI, pins', σ', H', cls, d, rfl, J', nb, up, sky, na, os, ag, w⟩ := xx
    have J : Inv X pins σ' H' sI := J'.ofTry ok
    refine Sky.land (s := s') (E₁ := X.xe) Zc.steady hfr hf (hs ▸ sky) fun h3 fl3 up3 => ?_
    refine asks tk hs hf hN (B := B) (fun h4 fl4 up4 => J.landed nb fl4.1 ((up.trans up3).trans up4) os ag) (fun h4 hh4 up4 wo => ?_) fl3 na hh w
    exact ⟨a, B, sI, pins, σ', H', cls, d, rfl, J, nb, (up.trans up3).trans up4, .inr (.inr (hs.symm ▸ hh4)), na, os, ag, wo⟩
  · cases f
    case next =>
      obtain ⟨σ', H', J', q⟩ := hsp
      exact wpAny_execs_nil ⟨σ', H', J'.ofTry ok, q⟩
    case ret u =>
      obtain ⟨v, σ', H', J', r, q⟩ := hsp
      exact ⟨v, σ', H', J'.ofTry ok, r, q⟩
    all_goals
      obtain ⟨σ', H', J', q⟩ := hsp
      exact ⟨σ', H', J'.ofTry ok, q⟩
end
end Lt

set_option Elab.async false
set_option linter.all false
set_option maxRecDepth 100000
set_option maxHeartbeats 4000000
/-! Mends in the heap, and the rows that they make. -/
namespace Ld
open PySem PySem.Spec PyProof.Rows L2 Lg Lr Le Lt
structure Md where
  w : Str
  i : Int
  k : Option Str
def mdV (m : Md) : List V := .str m.w :: .int m.i :: m.k.toList.map V.str
def mdD (m : Md) : PyData := .tuple (.str m.w :: .int m.i :: m.k.toList.map PyData.str)
def mdsD (ms : List Md) : PyData := .list (ms.map mdD)
def MK : List Str := ["A", "C"]
def MdOk (m : Md) : Prop := (m.w = "out" ∧ m.k = none) ∨ ((m.w = "put" ∨ m.w = "change") ∧ ∃ k ∈ MK, m.k = some k)
def MdA (H : Hp) (v : V) (m : Md) : Prop := ∃ b, v = .ref b ∧ H b = some (.tup (mdV m))
def MdsA (H : Hp) (a : Addr) (ms : List Md) : Prop := ∃ vs, H a = some (.lst vs) ∧ Rel2 (MdA H) vs ms
theorem MdA.same {A B : Hp} (u : Same A B) (v : V) (m : Md) (h : MdA A v m) : MdA B v m := let ⟨a, e, q⟩ := h; ⟨a, e, u _ _ q⟩
theorem MdsA.same {A B : Hp} (u : Same A B) {a : Addr} {ms : List Md} (h : MdsA A a ms) : MdsA B a ms := let ⟨vs, e, q⟩ := h; ⟨vs, u _ _ e, q.mono (MdA.same u)⟩
theorem dpStrs {K : PySem.W.Frag} {H : Hp} : ∀ l : List Str, DpAll K H (l.map V.str) (l.map PyData.str)
  | [] => .nil
  | x :: xs => .cons (.str _) (dpStrs xs)
theorem MdA.dp {K : PySem.W.Frag} {H : Hp} {v : V} {m : Md} (h : MdA H v m) : Dp K H v (mdD m) := by
  obtain ⟨b, rfl, hb⟩ := h
  exact .tup (SqT.of hb) (.cons (.str _) (.cons (.int _) (dpStrs _)))
theorem MdsA.dp {K : PySem.W.Frag} {H : Hp} {a : Addr} {ms : List Md} (h : MdsA H a ms) : Dp K H (.ref a) (mdsD ms) := by
  obtain ⟨vs, e, q⟩ := h
  exact .lst (SqL.of e) (q.dp fun v m hm => MdA.dp hm)
/-! ### the row after the mends -/
inductive Res
  | bad (k : Nat)
  | row (l : List Str)
def lastOf (n : Nat) (m : Md) : Int := if m.w = "put" then n else (n : Int) - 1
def okAt (n d : Nat) (m : Md) : Bool := decide ((d : Int) ≤ m.i) && decide (m.i ≤ lastOf n m)
def outOf (row : List Str) (d : Nat) (m : Md) : List Str := (row.drop d).take (m.i.toNat - d) ++ m.k.toList
def nextOf (m : Md) : Nat := m.i.toNat + if m.w = "put" then 0 else 1
def runM (row : List Str) : Nat → List Str → Nat → List Md → Res
  | _, out, d, [] => .row (out ++ row.drop d)
  | k, out, d, m :: ms => if okAt row.length d m = true then runM row (k + 1) (out ++ outOf row d m) (nextOf m) ms else .bad k
/-- an error that leaves -/
def Leaves (C : Addr) (n : Int) (H : Hp) (E : XK) : Prop := ∀ d H2, Same H H2 → H2 d = some (.xd [(("at" : Str), V.int n)]) → E (.ref C) (some d) H2
theorem Leaves.later {C : Addr} {n : Int} {H H2 : Hp} {E : XK} (h : Leaves C n H E) (u : Same H H2) : Leaves C n H2 E := fun d H3 u3 => h d H3 (u.trans u3)
abbrev sInit : Stmt := inClass (topS 1) 0
theorem dropAt {α : Type} {l : List α} {i : Nat} {x : α} (h : l[i]? = some x) : l.drop i = x :: l.drop (i + 1) := by
  obtain ⟨hi, e⟩ := List.getElem?_eq_some_iff.mp h
  rw [← e]
  exact List.drop_eq_getElem_cons hi
theorem strDec (a b : Str) : decide (V.str a = V.str b) = decide (a = b) := decide_eq_decide.mpr ⟨fun h => V.str.inj h, fun h => by rw [h]⟩
theorem okAt_cases {n d : Nat} {m : Md} (h : okAt n d m = true) : (d : Int) ≤ m.i ∧ m.i.toNat ≤ n ∧ nextOf m ≤ n ∧ d ≤ m.i.toNat := by
  unfold okAt lastOf at h
  obtain ⟨h1, h2⟩ := Bool.and_eq_true_iff.mp h
  have h1 := of_decide_eq_true h1
  have h2 := of_decide_eq_true h2
  unfold nextOf
  split at h2
  · rename_i e
    rw [if_pos e]
    omega
  · rename_i e
    rw [if_neg e]
    omega
theorem outOf_len {row : List Str} {d : Nat} {m : Md} (h : okAt row.length d m = true) : (outOf row d m).length + d ≤ nextOf m + 1 := by
  obtain ⟨a, b, c, e⟩ := okAt_cases h
  unfold outOf
  have : m.k.toList.length ≤ 1 := by cases m.k <;> simp
  have h2 : m.i.toNat ≤ nextOf m := Nat.le_add_right _ _
  rw [List.length_append, List.length_take]
  omega
theorem TupS_at {A : Hp} {d : Addr} {ws : List V} {o : HO} (h : A d = some (.lst ws)) : ∀ b xs, A b = some (.tup xs) → upd A d o b = some (.tup xs) := fun b xs e => by
  have ne : b ≠ d := fun z => by rw [z, h] at e; cases e
  rw [upd_ne ne]
  exact e
section
variable {P : Program} {w : World} {K : PySem.W.Frag} {mg : Str → Option Value} {base : Heap}
theorem scI : FnScope ["self", "at"] ["self", "at"] (defScope sInit) := ⟨rfl, rfl, rfl, by decide +kernel, rfl, by decide +kernel, by decide +kernel⟩
theorem ok_init {f : Addr} {fd : FuncData} {k : Nat} (F : Fun K "__init__" "MendError.__init__" sInit f fd) : FnOk P w K mg base CX0 (k + 1) f fd ["self", "at"] (spInit K) := by
  refine F.ok scI (fun vs H Q E h => ?_) (fun cdv A outer s H vs Q E hr h => ?_)
  · obtain ⟨a, C, fI, n, rfl, _⟩ := h
    rfl
  · obtain ⟨a, C, fI, n, rfl, T, ea, q⟩ := h
    refine ⟨_, pss_one (ps_ost (pv 0) (pv 1)), ?_⟩
    exact ⟨_, rfl, _, rfl, a, C, rfl, T.oex, T.noAt, .inl ⟨ea, fun d nd ne => q d nd ne⟩⟩
theorem thrown {C fI : Addr} {n : Int} {H1 : Hp} {Q : XK} (T : ErrC K C fI) (want : Leaves C n H1 Q) : ∀ a, H1 a = none → spInit K (.ref a :: ([.int n] ++ [])) (upd H1 a (exo a C none))
    (fun v H2 => v = .non ∧ ∃ (d : Addr) (fs : List (Str × V)), H2 a = some (exo a C (some d)) ∧ H2 d = some (exd d fs) ∧ H1 d = none ∧ Q (.ref C) (some d) (upd (del H2 a) d (.xd fs))) (fun _ _ _ => False) := by
  intro a na
  refine ⟨a, C, fI, n, rfl, T, upd_same, fun d nd ne => ⟨rfl, d, [(("at" : Str), V.int n)], upd_same, ?_, ?_, ?_⟩⟩
  · rw [upd_ne ne]
    exact upd_same
  · rw [upd_ne ne] at nd
    exact nd
  · have nd1 : H1 d = none := by
      rw [upd_ne ne] at nd
      exact nd
    have e : upd (del (upd (upd (upd H1 a (exo a C none)) d (exd d [(("at" : Str), V.int n)])) a (exo a C (some d))) a) d (.xd [(("at" : Str), V.int n)]) = upd H1 d (.xd [(("at" : Str), V.int n)]) := by
      funext b
      by_cases hb : b = d
      · subst hb
        rw [upd_same, upd_same]
      · rw [upd_ne hb, upd_ne hb]
        by_cases ha : b = a
        · subst ha
          rw [del_same, na]
        · rw [del_ne ha, upd_ne ha, upd_ne hb, upd_ne ha]
    rw [e]
    exact want d _ (same_upd nd1) upd_same
theorem scLi : FnScope ["row", "mend"] ["row", "mend"] (defScope s__last_index) := ⟨rfl, rfl, rfl, by decide +kernel, rfl, by decide +kernel, by decide +kernel⟩
def spLi : Sp := fun vs H Q _ => ∃ (r b : Addr) (row : List Str) (m : Md), vs = [.ref r, .ref b] ∧ H r = some (.lst (row.map V.str)) ∧ H b = some (.tup (mdV m)) ∧ Q (.int (lastOf row.length m)) H
theorem ok_li {f : Addr} {fd : FuncData} (F : Fun K "_last_index" "_last_index" s__last_index f fd) (ml : mg "len" = none) : FnOk P w K mg base CX0 1 f fd ["row", "mend"] spLi := by
  refine F.ok scLi (fun vs H Q E h => ?_) (fun cdv A outer s H vs Q E hr h => ?_)
  · obtain ⟨r, b, row, m, rfl, _⟩ := h
    rfl
  · obtain ⟨r, b, row, m, rfl, hr1, hb, q⟩ := h
    refine ⟨_, pss_cons (ps_if (pt_cmpR op_eq (pe_ix ix_tup (pv 1) pe_int (fun _ _ => rfl)) pe_str (nomark _)) (pss_one (ps_ret (pe_callB call_len_seq (by rfl) ml PySem.boot_len (pa_cons (pv 0) pa_nil)))) pss_nil)
      (pss_one (ps_ret (pe_op op_sub (pe_callB call_len_seq (by rfl) ml PySem.boot_len (pa_cons (pv 0) pa_nil)) pe_int))), ?_⟩
    refine ⟨_, rfl, b, _, _, _, rfl, rfl, SqT.of hb, at_of (j := 0) rfl rfl, rfl, _, rfl, ?_⟩
    rw [strDec]
    unfold lastOf at q
    by_cases e : m.w = "put"
    · rw [if_pos e] at q
      rw [decide_eq_true e]
      refine iteT ⟨_, rfl, r, _, rfl, .inl (SqL.of hr1), ?_⟩
      rw [List.length_map]
      exact q
    · rw [if_neg e] at q
      rw [decide_eq_false e]
      refine iteF ⟨_, rfl, r, _, rfl, .inl (SqL.of hr1), _, _, rfl, rfl, ?_⟩
      rw [List.length_map]
      exact q
theorem scMm : FnScope ["row", "found", "made", "done", "place", "mend", "index"] ["row", "found"] (defScope s_make_mends) := ⟨rfl, rfl, rfl, by decide +kernel, rfl, by decide +kernel, by decide +kernel⟩
def spMm (C : Addr) : Sp := fun vs H Q E => ∃ (r f : Addr) (row : List Str) (ms : List Md), vs = [.ref r, .ref f] ∧ H r = some (.lst (row.map V.str)) ∧ MdsA H f ms ∧ (∀ m ∈ ms, MdOk m) ∧ row.length ≤ 1000 ∧ ms.length ≤ 1000 ∧
  (∀ k, runM row 0 [] 0 ms = .bad k → Leaves C k H E) ∧ (∀ l, runM row 0 [] 0 ms = .row l → ∀ p H2, Same H H2 → H p = none → H2 p = some (.lst (l.map V.str)) → Q (.ref p) H2)
theorem ok_mm {f fL fI cB : Addr} {fd fdL fdI : FuncData} (F : Fun K "make_mends" "make_mends" s_make_mends f fd)
    (GL : FnOk P w K mg base CX0 1 fL fdL ["row", "mend"] spLi) (kL : PySem.W.keepIn K (.ref fL) = true) (bL : Binds K fdL ["row", "mend"] []) (gL : mg "_last_index" = some (.ref fL))
    (GI : FnOk P w K mg base CX0 1 fI fdI ["self", "at"] (spInit K)) (bI : Binds K fdI ["self", "at"] []) (EB : ErrC K cB fI) (gB : mg "BadMend" = some (.ref cB)) (me : mg "enumerate" = none) :
    FnOk P w K mg base (L2.CX P w) 3 f fd ["row", "found"] (spMm cB) := by
  refine F.okX scMm (fun vs H Q E h => ?_) (fun cdv A outer s H vs Q E hr h => ?_)
  · obtain ⟨r, f, row, ms, rfl, _⟩ := h
    rfl
  · obtain ⟨r, f, row, ms, rfl, hR, ⟨vs, hf, rel⟩, ok, few, few2, bad, good⟩ := h
    refine ⟨_, pss_cons (ps_set (i := 2) scMm.nd rfl (.inl rfl) (pe_lst pa_nil))
      (pss_cons (ps_set (i := 3) scMm.nd rfl (.inl rfl) pe_int)
      (pss_cons (ps_for (passes_of rfl) rfl (pi_enum (by rfl) me (pa_cons (pv 1) pa_nil)) (pg_tup rfl (pgs_cons (pg_name (i := 4) scMm.nd rfl (.inl rfl)) (pgs_cons (pg_name (i := 5) scMm.nd rfl (.inl rfl)) pgs_nil)))
        (pss_cons (ps_set (i := 6) scMm.nd rfl (.inl rfl) (pe_ix ix_tup (pv 5) pe_int (fun _ _ => rfl)))
        (pss_cons (ps_if (pt_not (pt_chain op_le op_le (pv 3) (pv 6) (pe_call GL (hr.mono (by decide)) (by rfl) gL kL bL .nil pass0 (pa_cons (pv 0) (pa_cons (pv 5) pa_nil)))))
          (pss_one (ps_raise rfl (takes_of rfl rfl rfl rfl) (pmk_oex EB.oex EB.ini EB.tyI GI hr bI .nil pass0 rfl gB (pa_cons (pv 4) pa_nil)))) pss_nil)
        (pss_cons (ps_expr (pe_bm PySem.F.plainAttrs_list PySem.F.slot_list_extend PySem.F.type_list_extend mt_extend (pv 2) (pa_cons (pe_slice sl_list (pv 0) (po_some (pv 3)) (po_some (pv 6))) pa_nil)))
        (pss_cons (ps_set (i := 3) scMm.nd rfl (.inl rfl) (pv 6))
        (pss_cons (ps_if (pt_cmpR op_ne (pe_ix ix_tup (pv 5) pe_int (fun _ _ => rfl)) pe_str (nomark _)) (pss_one (ps_aug (i := 3) scMm.nd rfl (.inl rfl) pe_int ip_add)) pss_nil)
        (pss_one (ps_if (pt_cmpR op_ne (pe_ix ix_tup (pv 5) pe_int (fun _ _ => rfl)) pe_str (nomark _))
          (pss_one (ps_expr (pe_bm PySem.F.plainAttrs_list PySem.F.slot_list_append PySem.F.type_list_append mt_append (pv 2) (pa_cons (pe_ix ix_tup (pv 5) pe_int (fun _ _ => rfl)) pa_nil)))) pss_nil))))))))
      (pss_one (ps_ret (pe_op op_cat (pv 2) (pe_slice sl_list (pv 0) (po_some (pv 3)) po_none)))))), ?_⟩
    refine ⟨Nat.zero_le _, fun md nmd => ?_⟩
    have s0 : Same H (upd H md (.lst [])) := same_upd nmd
    refine ⟨_, rfl, f, _, rfl, SqL.of (s0 _ _ hf), for_it walk_enum (fun i σ H' => ∃ (v4 v5 v6 : Option V) (out : List Str) (d : Nat), σ = [some (.ref r), some (.ref f), some (.ref md), some (.int d), v4, v5, v6] ∧ Same H H' ∧ H' md = some (.lst (out.map V.str)) ∧ d ≤ row.length ∧ out.length ≤ d + i ∧ runM row 0 [] 0 ms = runM row i out d (ms.drop i))
      ⟨none, none, none, [], 0, rfl, s0, upd_same, Nat.zero_le _, Nat.zero_le _, rfl⟩ (fun i σ H' _ ⟨_, _, _, _, _, _, u, _⟩ => SqL.of (u _ _ hf)) ?_ ?_⟩
    · rintro i x σ H' H'' hi ⟨v4, v5, v6, out, d, rfl, s', hm, dl, ol, er⟩ ⟨T, x1, y, rfl, nT, rfl, hx, hy⟩
      cases hx
      have hy : vs[i]? = some y := hy
      obtain ⟨m, gm, b, rfl, hb⟩ := rel.get hy
      have il : i < ms.length := (List.getElem?_eq_some_iff.mp gm).1
      have mok := ok m (List.mem_of_getElem? gm)
      rw [dropAt gm] at er
      have uT : Same H' (upd H' T (.tup [.int (i : Nat), .ref b])) := same_upd nT
      have hT : upd H' T (.tup [.int (i : Nat), .ref b]) T = some (.tup [.int (i : Nat), .ref b]) := upd_same
      generalize upd H' T (.tup [.int (i : Nat), .ref b]) = H3 at uT hT
      have s3 := s'.trans uT
      have hb3 := s3 _ _ hb
      refine ⟨T, _, rfl, SqT.of hT, rfl, _, _, rfl, _, _, rfl, rfl, ?_⟩
      refine ⟨_, rfl, b, _, _, _, rfl, rfl, SqT.of hb3, at_of (j := 1) rfl rfl, ?_⟩
      have back : ∀ {H4 : Hp} {v4 v5 v6 : Option V} {e : Int}, e = (nextOf m : Nat) → Same H H4 → okAt row.length d m = true → H4 md = some (.lst ((out ++ outOf row d m).map V.str)) →
          ∃ (v4' v5' v6' : Option V) (out' : List Str) (d' : Nat), ([some (.ref r), some (.ref f), some (.ref md), some (.int e), v4, v5, v6] : L2.St) = [some (.ref r), some (.ref f), some (.ref md), some (.int d'), v4', v5', v6'] ∧ Same H H4 ∧ H4 md = some (.lst (out'.map V.str)) ∧ d' ≤ row.length ∧ out'.length ≤ d' + (i + 1) ∧ runM row 0 [] 0 ms = runM row (i + 1) out' d' (ms.drop (i + 1)) := fun {H4 v4 v5 v6 e} ee s4 hok h4 => by
        subst ee
        obtain ⟨a1, a2, a3, a4⟩ := okAt_cases hok
        have l2 := outOf_len hok
        refine ⟨_, _, _, _, _, rfl, s4, h4, a3, ?_, ?_⟩
        · rw [List.length_append]
          omega
        · rw [er]
          show (if okAt row.length d m = true then _ else _) = _
          rw [if_pos hok]
      refine ⟨_, rfl, _, rfl, _, _, rfl, rfl, _, rfl, ?_⟩
      cases c1 : decide ((d : Int) ≤ m.i) with
      | false =>
        have hno : okAt row.length d m = false := by unfold okAt; rw [c1, Bool.false_and]
        have er2 : runM row 0 [] 0 ms = .bad i := by
          rw [er]
          show (if okAt row.length d m = true then _ else _) = _
          rw [hno]
          rfl
        exact iteF ⟨_, rfl, iteT ⟨_, rfl, (by show 1 ≤ 1000; decide), thrown EB ((bad i er2).later s3)⟩⟩
      | true =>
        refine iteT ⟨_, rfl, _, rfl, r, b, row, m, rfl, s3 _ _ hR, hb3, ⟨_, _, rfl, rfl, _, rfl, ?_⟩⟩
        cases c2 : decide (m.i ≤ lastOf row.length m) with
        | false =>
          have hno : okAt row.length d m = false := by unfold okAt; rw [c2, Bool.and_false]
          have er2 : runM row 0 [] 0 ms = .bad i := by
            rw [er]
            show (if okAt row.length d m = true then _ else _) = _
            rw [hno]
            rfl
          exact iteT ⟨_, rfl, (by show 1 ≤ 1000; decide), thrown EB ((bad i er2).later s3)⟩
        | true =>
          have hok : okAt row.length d m = true := by unfold okAt; rw [c1, c2]; rfl
          obtain ⟨a1, a2, a3, a4⟩ := okAt_cases hok
          have l2 := outOf_len hok
          refine iteF ?_
          have ei : m.i = ((m.i.toNat : Nat) : Int) := by omega
          refine ⟨_, rfl, .inl ⟨rfl, _, SqL.of (uT _ _ hm)⟩, _, rfl, _, rfl, _, rfl, _, rfl, _, rfl, r, _, rfl, SqL.of (s3 _ _ hR), ?_⟩
          rw [ei, cut_mid (by rw [List.length_map]; exact a2) a4]
          intro t nt
          have s4 : Same H3 (upd H3 t (.lst (((row.map V.str).drop d).take (m.i.toNat - d)))) := same_upd nt
          have ht : upd H3 t (.lst (((row.map V.str).drop d).take (m.i.toNat - d))) t = some (.lst (((row.map V.str).drop d).take (m.i.toNat - d))) := upd_same
          generalize upd H3 t (.lst (((row.map V.str).drop d).take (m.i.toNat - d))) = H4 at s4 ht
          have hm4 := s4 _ _ (uT _ _ hm)
          refine ⟨md, t, _, _, rfl, rfl, hm4, ht, million0 ?_, ?_⟩
          · rw [List.length_map, List.length_take, List.length_drop, List.length_map]
            omega
          have s5 : Same H (upd H4 md (.lst (out.map V.str ++ ((row.map V.str).drop d).take (m.i.toNat - d)))) := same_put (s3.trans s4) nmd
          have hm5 : upd H4 md (.lst (out.map V.str ++ ((row.map V.str).drop d).take (m.i.toNat - d))) md = some (.lst ((out ++ (row.drop d).take (m.i.toNat - d)).map V.str)) := by
            rw [upd_same, List.map_append, List.map_take, List.map_drop]
          have hb5 : upd H4 md (.lst (out.map V.str ++ ((row.map V.str).drop d).take (m.i.toNat - d))) b = some (.tup (mdV m)) := (TupS_at hm4) _ _ (s4 _ _ hb3)
          generalize upd H4 md (.lst (out.map V.str ++ ((row.map V.str).drop d).take (m.i.toNat - d))) = H5 at s5 hm5 hb5
          refine ⟨_, rfl, ?_⟩
          refine ⟨_, rfl, b, _, _, _, rfl, rfl, SqT.of hb5, at_of (j := 0) rfl rfl, rfl, _, rfl, ?_⟩
          rw [strDec]
          have apl : (out ++ (row.drop d).take (m.i.toNat - d)).length ≤ 100000 := by
            rw [List.length_append, List.length_take]
            omega
          have app : ∀ k, m.k = some k → Same H (upd H5 md (.lst ((out ++ (row.drop d).take (m.i.toNat - d)).map V.str ++ [.str k]))) ∧ upd H5 md (.lst ((out ++ (row.drop d).take (m.i.toNat - d)).map V.str ++ [.str k])) md = some (.lst ((out ++ outOf row d m).map V.str)) := fun k hk => by
            refine ⟨same_put s5 nmd, ?_⟩
            unfold outOf
            rw [upd_same, hk, ← List.append_assoc, List.map_append (l₁ := out ++ _)]
            rfl
          rcases mok with ⟨hw, hk⟩ | ⟨hw | hw, k, hkm, hk⟩
          · rw [hw]
            refine iteT ⟨_, rfl, _, _, rfl, rfl, ?_⟩
            refine ⟨_, rfl, b, _, _, _, rfl, rfl, SqT.of hb5, at_of (j := 0) rfl rfl, rfl, _, rfl, ?_⟩
            rw [strDec, hw]
            refine iteF (back ?_ s5 hok ?_)
            · unfold nextOf
              rw [hw]
              exact rfl
            · rw [hm5]
              unfold outOf
              rw [hk]
              simp
          · have ap := app k hk
            rw [hw]
            refine iteF ?_
            refine ⟨_, rfl, b, _, _, _, rfl, rfl, SqT.of hb5, at_of (j := 0) rfl rfl, rfl, _, rfl, ?_⟩
            rw [strDec, hw]
            refine iteT ⟨_, rfl, .inl ⟨rfl, _, SqL.of hm5⟩, _, rfl, b, _, _, _, rfl, rfl, SqT.of hb5, at_of (j := 2) rfl (by unfold mdV; rw [hk]; rfl), md, _, _, rfl, rfl, hm5, million1 (by rw [List.length_map]; omega), back ?_ ap.1 hok ap.2⟩
            unfold nextOf
            rw [hw]
            exact rfl
          · have ap := app k hk
            rw [hw]
            refine iteT ⟨_, rfl, _, _, rfl, rfl, ?_⟩
            refine ⟨_, rfl, b, _, _, _, rfl, rfl, SqT.of hb5, at_of (j := 0) rfl rfl, rfl, _, rfl, ?_⟩
            rw [strDec, hw]
            refine iteT ⟨_, rfl, .inl ⟨rfl, _, SqL.of hm5⟩, _, rfl, b, _, _, _, rfl, rfl, SqT.of hb5, at_of (j := 2) rfl (by unfold mdV; rw [hk]; rfl), md, _, _, rfl, rfl, hm5, million1 (by rw [List.length_map]; omega), back ?_ ap.1 hok ap.2⟩
            unfold nextOf
            rw [hw]
            exact rfl
    · rintro σ H' ⟨v4, v5, v6, out, d, rfl, s', hm, dl, ol, er⟩
      rw [rel.len, List.drop_length] at er
      have er : runM row 0 [] 0 ms = .row (out ++ row.drop d) := er
      refine ⟨_, rfl, _, rfl, _, rfl, _, rfl, r, _, rfl, SqL.of (s' _ _ hR), ?_⟩
      rw [cut_from]
      intro t nt
      have s1 : Same H' (upd H' t (.lst ((row.map V.str).drop d))) := same_upd nt
      refine ⟨md, t, _, _, rfl, rfl, s1 _ _ hm, upd_same, million0 (by rw [List.length_map, List.length_drop, List.length_map]; rw [rel.len] at ol; omega), fun p np => ?_⟩
      refine good _ er p _ ((s'.trans s1).trans (same_upd np)) ((s'.trans s1).free np) ?_
      rw [upd_same, List.map_append, List.map_drop]
end
end Ld

set_option Elab.async false
set_option linter.all false
set_option maxRecDepth 100000
set_option maxHeartbeats 4000000
namespace Ld
open PySem PySem.Spec PyProof.Rows L2 Lg Lr Le Lt
/-- a told result: H0 the heap before it -/
def ResA (H0 H : Hp) (t : Addr) : Res → Prop
  | .bad k => H t = some (.tup [.str "bad", .int k])
  | .row l => ∃ p, H0 p = none ∧ H t = some (.tup [.str "row", .ref p]) ∧ H p = some (.lst (l.map V.str))
def spRes : Sp := fun vs H Q _ => ∃ (r f : Addr) (row : List Str) (ms : List Md), vs = [.ref r, .ref f] ∧ H r = some (.lst (row.map V.str)) ∧ MdsA H f ms ∧ (∀ m ∈ ms, MdOk m) ∧ row.length ≤ 1000 ∧ ms.length ≤ 1000 ∧
  ∀ t H2, Same H H2 → H t = none → ResA H H2 t (runM row 0 [] 0 ms) → Q (.ref t) H2
theorem run_bad {row out : List Str} {d i : Nat} {m : Md} {ms : List Md} (h : okAt row.length d m = false) : runM row i out d (m :: ms) = .bad i := by
  show (if okAt row.length d m = true then _ else _) = _
  rw [h]
  rfl
theorem run_on {row out : List Str} {d i : Nat} {m : Md} {ms : List Md} (h : okAt row.length d m = true) : runM row i out d (m :: ms) = runM row (i + 1) (out ++ outOf row d m) (nextOf m) ms := by
  show (if okAt row.length d m = true then _ else _) = _
  rw [if_pos h]
theorem last_eq (n : Nat) (m : Md) : (n : Int) - (if (!decide (V.str m.w = V.str "put")) = true then 1 else 0) = lastOf n m := by
  rw [strDec]
  unfold lastOf
  by_cases e : m.w = "put"
  · rw [if_pos e, decide_eq_true e]
    simp
  · rw [if_neg e, decide_eq_false e]
    simp
theorem max_of {i d : Int} (h : d ≤ i) : (if i > d then i else d) = i := by
  split <;> omega
section
variable {P : Program} {w : World} {K : PySem.W.Frag} {mg : Str → Option Value} {base : Heap}
theorem scDu : FnScope ["row", "found", "out", "done", "last", "k", "index"] ["row", "found"] (defScope s__law_due) := ⟨rfl, rfl, rfl, by decide +kernel, rfl, by decide +kernel, by decide +kernel⟩
theorem ok_du {f : Addr} {fd : FuncData} (F : Fun K "_law_due" "_law_due" s__law_due f fd) (ml : mg "len" = none) (mr : mg "range" = none) (mi : mg "int" = none) (mm : mg "max" = none) : FnOk P w K mg base CX0 1 f fd ["row", "found"] spRes := by
  refine F.ok scDu (fun vs H Q E h => ?_) (fun cdv A outer s H vs Q E hr h => ?_)
  · obtain ⟨r, f, row, ms, rfl, _⟩ := h
    rfl
  · obtain ⟨r, f, row, ms, rfl, hR, ⟨vs, hf, rel⟩, ok, few, few2, q⟩ := h
    refine ⟨_, pss_cons (ps_set (i := 2) scDu.nd rfl (.inl rfl) (pe_lst pa_nil))
      (pss_cons (ps_set (i := 3) scDu.nd rfl (.inl rfl) pe_int)
      (pss_cons (ps_set (i := 4) scDu.nd rfl (.inl rfl) pe_int)
      (pss_cons (ps_for PassesOwn.never rfl (pi_range1 rfl mr (pa_cons (pe_callB call_len_seq (by rfl) ml PySem.boot_len (pa_cons (pv 1) pa_nil)) pa_nil)) (pg_name (i := 5) scDu.nd rfl (.inl rfl))
        (pss_cons (ps_set (i := 6) scDu.nd rfl (.inl rfl) (pe_ix ix_tup (pe_ix ix_list (pv 1) (pv 5) (fun _ _ => rfl)) pe_int (fun _ _ => rfl)))
        (pss_cons (ps_if (PW.pt (pw_or (pt_cmpR op_lt (pv 6) (pv 4) (nomark _)) (pw_or (pt_cmpR op_lt (pv 6) (pv 3) (nomark _)) (pw_or1 (pt_cmpR op_gt (pv 6) (pe_op op_sub (pe_callB call_len_seq (by rfl) ml PySem.boot_len (pa_cons (pv 0) pa_nil))
            (pe_callTy call_int1 (by rfl) mi (by decide +kernel) (pa_cons (pe_cmpR op_ne (pe_ix ix_tup (pe_ix ix_list (pv 1) (pv 5) (fun _ _ => rfl)) pe_int (fun _ _ => rfl)) pe_str (nomark _)) pa_nil))) (nomark _))))))
          (pss_one (ps_ret (pe_tup (pa_cons pe_str (pa_cons (pv 5) pa_nil))))) pss_nil)
        (pss_cons (ps_set (i := 2) scDu.nd rfl (.inl rfl) (pe_op op_cat (pv 2) (pe_slice sl_list (pv 0) (po_some (pv 3)) (po_some (pv 6)))))
        (pss_cons (ps_set (i := 3) scDu.nd rfl (.inl rfl) (pe_callB (call_max2 rfl) (by rfl) mm (by decide +kernel) (pa_cons (pv 3) (pa_cons (pv 6) pa_nil))))
        (pss_cons (ps_if (pt_cmpR op_ne (pe_ix ix_tup (pe_ix ix_list (pv 1) (pv 5) (fun _ _ => rfl)) pe_int (fun _ _ => rfl)) pe_str (nomark _))
          (pss_one (ps_expr (pe_bm PySem.F.plainAttrs_list PySem.F.slot_list_append PySem.F.type_list_append mt_append (pv 2) (pa_cons (pe_ix ix_tup (pe_ix ix_list (pv 1) (pv 5) (fun _ _ => rfl)) pe_int (fun _ _ => rfl)) pa_nil)))) pss_nil)
        (pss_cons (ps_if (pt_cmpR op_ne (pe_ix ix_tup (pe_ix ix_list (pv 1) (pv 5) (fun _ _ => rfl)) pe_int (fun _ _ => rfl)) pe_str (nomark _))
          (pss_one (ps_set (i := 3) scDu.nd rfl (.inl rfl) (pe_op op_add (pv 6) pe_int))) pss_nil)
        (pss_one (ps_set (i := 4) scDu.nd rfl (.inl rfl) (pv 6))))))))))
      (pss_one (ps_ret (pe_tup (pa_cons pe_str (pa_cons (pe_op op_cat (pv 2) (pe_slice sl_list (pv 0) (po_some (pv 3)) po_none)) pa_nil)))))))), ?_⟩
    refine ⟨Nat.zero_le _, fun o no => ?_⟩
    have s0 : Same H (upd H o (.lst [])) := same_upd no
    have h0 : upd H o (.lst []) o = some (.lst (([] : List Str).map V.str)) := upd_same
    generalize upd H o (.lst []) = H0 at s0 h0
    have lv := rel.len
    refine ⟨_, rfl, f, _, rfl, .inl (SqL.of (s0 _ _ hf)), ?_⟩
    refine ⟨(vs.length : Int), rfl, by omega, by omega, for_range (lo := 0) (n := ((vs.length : Nat) : Int).toNat) (fun i σ H' => ∃ (v5 v6 : Option V) (o : Addr) (out : List Str) (d : Nat) (la : Int), σ = [some (.ref r), some (.ref f), some (.ref o), some (.int d), some (.int la), v5, v6] ∧ Same H H' ∧ H o = none ∧ H' o = some (.lst (out.map V.str)) ∧ d ≤ row.length ∧ la ≤ d ∧ out.length ≤ d + i ∧ runM row 0 [] 0 ms = runM row i out d (ms.drop i))
      ⟨none, none, o, [], 0, 0, rfl, s0, no, h0, Nat.zero_le _, by omega, Nat.zero_le _, rfl⟩ ?_ ?_⟩
    · rintro i σ H' hi ⟨v5, v6, o, out, d, la, rfl, s', no, hm, dl, lal, ol, er⟩
      have hi : i < vs.length := by omega
      have il : i < ms.length := by omega
      have gm : ms[i]? = some ms[i] := List.getElem?_eq_getElem il
      generalize ms[i] = m at gm
      obtain ⟨v, gv, b, rfl, hb⟩ := rel.at gm
      have mok := ok m (List.mem_of_getElem? gm)
      rw [dropAt gm] at er
      rw [show (0 : Int) + (i : Int) = ((i : Nat) : Int) by omega]
      have hf' := s' _ _ hf
      have hb' := s' _ _ hb
      refine ⟨_, rfl, _, rfl, f, _, _, _, rfl, rfl, SqL.of hf', atI_nat gv, b, _, _, _, rfl, rfl, SqT.of hb', at_of (j := 1) rfl rfl, ?_⟩
      have out_bad : okAt row.length d m = false → ∀ t, H' t = none → Q (.ref t) (upd H' t (.tup [.str "bad", .int i])) := fun no t nt => by
        refine q t _ (s'.trans (same_upd nt)) (s'.free nt) ?_
        rw [er, run_bad no]
        exact upd_same
      refine ⟨_, rfl, _, rfl, _, _, rfl, rfl, _, rfl, ite2 (fun c1 => ?_) (fun c1 => ?_)⟩
      · have c1 : m.i < la := of_decide_eq_true c1
        have hno : okAt row.length d m = false := by unfold okAt; rw [decide_eq_false (by omega), Bool.false_and]
        exact ⟨_, rfl, (by show 2 ≤ sizeLine; decide), out_bad hno⟩
      refine ⟨_, rfl, _, rfl, _, _, rfl, rfl, _, rfl, ite2 (fun c2 => ?_) (fun c2 => ?_)⟩
      · have c2 : m.i < d := of_decide_eq_true c2
        have hno : okAt row.length d m = false := by unfold okAt; rw [decide_eq_false (by omega), Bool.false_and]
        exact ⟨_, rfl, (by show 2 ≤ sizeLine; decide), out_bad hno⟩
      have c2 : ¬ m.i < (d : Int) := fun z => c2 (decide_eq_true z)
      refine ⟨_, rfl, _, rfl, r, _, rfl, .inl (SqL.of (s' _ _ hR)), ?_⟩
      refine ⟨_, rfl, _, rfl, f, _, _, _, rfl, rfl, SqL.of hf', atI_nat gv, b, _, _, _, rfl, rfl, SqT.of hb', at_of (j := 0) rfl rfl, rfl, .inr ⟨_, rfl, ?_⟩⟩
      refine ⟨_, _, rfl, rfl, _, _, rfl, rfl, _, rfl, ?_⟩
      rw [List.length_map, last_eq]
      refine ite2 (fun c3 => ?_) (fun c3 => ?_)
      · have c3 : m.i > lastOf row.length m := of_decide_eq_true c3
        have hno : okAt row.length d m = false := by unfold okAt; rw [decide_eq_false (show ¬ m.i ≤ lastOf row.length m by omega), Bool.and_false]
        exact ⟨_, rfl, (by show 2 ≤ sizeLine; decide), out_bad hno⟩
      have c3 : ¬ m.i > lastOf row.length m := fun z => c3 (decide_eq_true z)
      have hok : okAt row.length d m = true := by unfold okAt; rw [decide_eq_true (show (d : Int) ≤ m.i by omega), decide_eq_true (show m.i ≤ lastOf row.length m by omega)]; rfl
      rw [run_on hok] at er
      obtain ⟨a1, a2, a3, a4⟩ := okAt_cases hok
      have l2 := outOf_len hok
      have ei : m.i = ((m.i.toNat : Nat) : Int) := by omega
      refine ⟨_, rfl, _, rfl, _, rfl, _, rfl, _, rfl, _, rfl, r, _, rfl, SqL.of (s' _ _ hR), ?_⟩
      rw [ei, cut_mid (by rw [List.length_map]; exact a2) a4]
      intro t nt
      have s4 : Same H' (upd H' t (.lst (((row.map V.str).drop d).take (m.i.toNat - d)))) := same_upd nt
      have ht : upd H' t (.lst (((row.map V.str).drop d).take (m.i.toNat - d))) t = some (.lst (((row.map V.str).drop d).take (m.i.toNat - d))) := upd_same
      generalize upd H' t (.lst (((row.map V.str).drop d).take (m.i.toNat - d))) = H4 at s4 ht
      have hm4 := s4 _ _ hm
      refine ⟨o, t, _, _, rfl, rfl, hm4, ht, million0 ?_, fun o2 no2 => ?_⟩
      · rw [List.length_map, List.length_take, List.length_drop, List.length_map]
        omega
      have s5 : Same H (upd H4 o2 (.lst (out.map V.str ++ ((row.map V.str).drop d).take (m.i.toNat - d)))) := (s'.trans s4).trans (same_upd no2)
      have nH2 : H o2 = none := (s'.trans s4).free no2
      have hm5 : upd H4 o2 (.lst (out.map V.str ++ ((row.map V.str).drop d).take (m.i.toNat - d))) o2 = some (.lst ((out ++ (row.drop d).take (m.i.toNat - d)).map V.str)) := by
        rw [upd_same, List.map_append, List.map_take, List.map_drop]
      generalize upd H4 o2 (.lst (out.map V.str ++ ((row.map V.str).drop d).take (m.i.toNat - d))) = H5 at s5 hm5
      have hf5 := s5 _ _ hf
      have hb5 := s5 _ _ hb
      refine ⟨_, rfl, _, rfl, _, _, rfl, ?_⟩
      rw [max_of (by omega)]
      refine ⟨_, rfl, _, rfl, f, _, _, _, rfl, rfl, SqL.of hf5, atI_nat gv, b, _, _, _, rfl, rfl, SqT.of hb5, at_of (j := 0) rfl rfl, rfl, _, rfl, ?_⟩
      rw [strDec]
      have apl : (out ++ (row.drop d).take (m.i.toNat - d)).length ≤ 100000 := by
        rw [List.length_append, List.length_take]
        omega
      have app : ∀ k, m.k = some k → Same H (upd H5 o2 (.lst ((out ++ (row.drop d).take (m.i.toNat - d)).map V.str ++ [.str k]))) ∧ upd H5 o2 (.lst ((out ++ (row.drop d).take (m.i.toNat - d)).map V.str ++ [.str k])) o2 = some (.lst ((out ++ outOf row d m).map V.str)) := fun k hk => by
        refine ⟨same_put s5 nH2, ?_⟩
        unfold outOf
        rw [upd_same, hk, ← List.append_assoc, List.map_append (l₁ := out ++ _)]
        rfl
      have back : ∀ {H6 : Hp} {v5 v6 : Option V} {e : Int}, e = (nextOf m : Nat) → Same H H6 → H6 o2 = some (.lst ((out ++ outOf row d m).map V.str)) →
          ∃ (v5' v6' : Option V) (o' : Addr) (out' : List Str) (d' : Nat) (la' : Int), ([some (.ref r), some (.ref f), some (.ref o2), some (.int e), some (.int ((m.i.toNat : Nat) : Int)), v5, v6] : L2.St) = [some (.ref r), some (.ref f), some (.ref o'), some (.int d'), some (.int la'), v5', v6'] ∧ Same H H6 ∧ H o' = none ∧ H6 o' = some (.lst (out'.map V.str)) ∧ d' ≤ row.length ∧ la' ≤ d' ∧ out'.length ≤ d' + (i + 1) ∧ runM row 0 [] 0 ms = runM row (i + 1) out' d' (ms.drop (i + 1)) := fun {H6 v5 v6 e} ee s6 h6 => by
        subst ee
        refine ⟨_, _, _, _, _, _, rfl, s6, nH2, h6, a3, ?_, ?_, er⟩
        · have : m.i.toNat ≤ nextOf m := Nat.le_add_right _ _
          omega
        · rw [List.length_append]
          omega
      rcases mok with ⟨hw, hk⟩ | ⟨hw | hw, k, hkm, hk⟩
      · rw [hw]
        refine iteF ?_
        refine ⟨_, rfl, _, rfl, f, _, _, _, rfl, rfl, SqL.of hf5, atI_nat gv, b, _, _, _, rfl, rfl, SqT.of hb5, at_of (j := 0) rfl rfl, rfl, _, rfl, ?_⟩
        rw [strDec, hw]
        refine iteT ⟨_, rfl, _, _, rfl, rfl, _, rfl, back ?_ s5 ?_⟩
        · unfold nextOf
          rw [hw]
          rfl
        · rw [hm5]
          unfold outOf
          rw [hk]
          simp
      · have ap := app k hk
        rw [hw]
        refine iteT ⟨_, rfl, .inl ⟨rfl, _, SqL.of hm5⟩, _, rfl, _, rfl, f, _, _, _, rfl, rfl, SqL.of hf5, atI_nat gv, b, _, _, _, rfl, rfl, SqT.of hb5, at_of (j := 2) rfl (by unfold mdV; rw [hk]; rfl), o2, _, _, rfl, rfl, hm5, million1 (by rw [List.length_map]; omega), ?_⟩
        refine ⟨_, rfl, _, rfl, f, _, _, _, rfl, rfl, SqL.of (ap.1 _ _ hf), atI_nat gv, b, _, _, _, rfl, rfl, SqT.of (ap.1 _ _ hb), at_of (j := 0) rfl rfl, rfl, _, rfl, ?_⟩
        rw [strDec, hw]
        refine iteF ⟨_, rfl, back ?_ ap.1 ap.2⟩
        unfold nextOf
        rw [hw]
        rfl
      · have ap := app k hk
        rw [hw]
        refine iteT ⟨_, rfl, .inl ⟨rfl, _, SqL.of hm5⟩, _, rfl, _, rfl, f, _, _, _, rfl, rfl, SqL.of hf5, atI_nat gv, b, _, _, _, rfl, rfl, SqT.of hb5, at_of (j := 2) rfl (by unfold mdV; rw [hk]; rfl), o2, _, _, rfl, rfl, hm5, million1 (by rw [List.length_map]; omega), ?_⟩
        refine ⟨_, rfl, _, rfl, f, _, _, _, rfl, rfl, SqL.of (ap.1 _ _ hf), atI_nat gv, b, _, _, _, rfl, rfl, SqT.of (ap.1 _ _ hb), at_of (j := 0) rfl rfl, rfl, _, rfl, ?_⟩
        rw [strDec, hw]
        refine iteT ⟨_, rfl, _, _, rfl, rfl, _, rfl, back ?_ ap.1 ap.2⟩
        unfold nextOf
        rw [hw]
        rfl
    · rintro σ H' ⟨v5, v6, o, out, d, la, rfl, s', no, hm, dl, lal, ol, er⟩
      rw [show ((vs.length : Nat) : Int).toNat = ms.length by omega, List.drop_length] at er
      have er : runM row 0 [] 0 ms = .row (out ++ row.drop d) := er
      refine ⟨_, rfl, _, rfl, _, rfl, _, rfl, r, _, rfl, SqL.of (s' _ _ hR), ?_⟩
      rw [cut_from]
      intro t nt
      have s1 : Same H' (upd H' t (.lst ((row.map V.str).drop d))) := same_upd nt
      refine ⟨o, t, _, _, rfl, rfl, s1 _ _ hm, upd_same, million0 (by rw [List.length_map, List.length_drop, List.length_map]; omega), fun p np => ?_⟩
      have s2 := (s'.trans s1).trans (same_upd (o := .lst (out.map V.str ++ (row.map V.str).drop d)) np)
      refine ⟨(by show 2 ≤ sizeLine; decide), fun y ny => ?_⟩
      refine q y _ (s2.trans (same_upd ny)) (s2.free ny) ?_
      rw [er]
      refine ⟨p, (s'.trans s1).free np, upd_same, ?_⟩
      rw [upd_ne (ne_of_none upd_same ny), upd_same, List.map_append, List.map_drop]
theorem scTd : FnScope ["row", "found", "e"] ["row", "found"] (defScope s__law_told) := ⟨rfl, rfl, rfl, by decide +kernel, rfl, by decide +kernel, by decide +kernel⟩
theorem xf_of {C fI : Addr} (T : ErrC K C fI) : XfC K C := ⟨T.exc.hg, T.exc.hk, T.exc.hs, T.exc.hd⟩
theorem ok_td {f fC fI cB cM : Addr} {fd fdC : FuncData} (F : Fun K "_law_told" "_law_told" s__law_told f fd)
    (GC : FnOk P w K mg base (L2.CX P w) 3 fC fdC ["row", "found"] (spMm cB)) (kC : PySem.W.keepIn K (.ref fC) = true) (bC : Binds K fdC ["row", "found"] []) (gC : mg "make_mends" = some (.ref fC))
    (EB : ErrC K cB fI) (gB : mg "BadMend" = some (.ref cB)) (gM : mg "MendError" = some (.ref cM)) (TK : PySem.W.exmOne K (.ref cB) (.ref cB) = some true) : FnOk P w K mg base CX0 4 f fd ["row", "found"] spRes := by
  refine F.ok scTd (fun vs H Q E h => ?_) (fun cdv A outer s H vs Q E hr h => ?_)
  · obtain ⟨r, f, row, ms, rfl, _⟩ := h
    rfl
  · obtain ⟨r, f, row, ms, rfl, hR, hf, ok, few, few2, q⟩ := h
    refine ⟨_, pss_one (ps_try_cls rfl rfl scTd.nd takes0 (fun W pn xe tk _ => pss_one (ps_ret (pe_tup (pa_cons pe_str (pa_cons (pe_callS GC hr rfl gC kC bC (fun σ => passAt tk σ) (pa_cons (pv 0) (pa_cons (pv 1) pa_nil))) pa_nil)))))
      (.cons (nm := some "e") (o := some 2) ⟨rfl, by decide, .inl gB⟩ ⟨rfl, rfl⟩ (fun a oe cls d pn hz hf => pss_one (ps_ret (pe_tup (pa_cons pe_str (pa_cons (pe_xf (xf_of EB) EB.noAt hz hf (pv 2)) pa_nil)))))
      (.cons (nm := none) (o := none) ⟨rfl, by decide, .inl gM⟩ True.intro (fun a oe cls d pn hz hf => pss_one (ps_ret (pe_tup (pa_cons pe_str (pa_cons pe_int pa_nil)))))
      .nil))), ?_⟩
    refine ⟨_, rfl, _, rfl, r, f, row, ms, rfl, hR, hf, ok, few, few2, fun k ek d H2 u2 hd => ?_, fun l el p H2 s2 np hp => ?_⟩
    · refine ⟨true, TK, fun _ a na => ?_, fun q => nomatch q⟩
      refine ⟨_, rfl, rfl, rfl, d, _, .int k, rfl, hd, rfl, (by show 2 ≤ sizeLine; decide), fun t nt => q t _ (u2.trans (same_upd nt)) (u2.free nt) ?_⟩
      rw [ek]
      exact upd_same
    · refine ⟨(by show 2 ≤ sizeLine; decide), fun t nt => q t _ (s2.trans (same_upd nt)) (s2.free nt) ?_⟩
      rw [el]
      refine ⟨p, np, upd_same, ?_⟩
      rw [upd_ne (ne_of_none hp nt)]
      exact hp
end
end Ld

set_option Elab.async false
set_option linter.all false
set_option maxRecDepth 100000
set_option maxHeartbeats 4000000
namespace Ld
open PySem PySem.Spec PyProof.Rows L2 Lg Lr Le Lt
theorem MdA.tupS {A B : Hp} (u : ∀ b xs, A b = some (.tup xs) → B b = some (.tup xs)) (v : V) (m : Md) (h : MdA A v m) : MdA B v m := let ⟨a, e, q⟩ := h; ⟨a, e, u _ _ q⟩
def RK : List Str := ["A", "BB", "OTHER"]
def WK : List Str := ["put", "out", "change", "put"]
theorem pick_at {L : List Str} {v : Int} (h0 : 0 ≤ v) (h1 : v < (L.length : Int)) : ∃ s, (L.map V.str)[v.toNat]? = some (V.str s) ∧ s ∈ L := by
  have e : v.toNat < L.length := by omega
  exact ⟨L[v.toNat], by rw [List.getElem?_map, List.getElem?_eq_getElem e]; rfl, List.getElem_mem e⟩
def AK : List Str := RK ++ MK
theorem ak_ok : ∀ k ∈ AK, PyData.strOk k = true := by decide +kernel
theorem wk_ok : ∀ k ∈ WK, PyData.strOk k = true := by decide +kernel
theorem MdOk.wk {m : Md} (h : MdOk m) : m.w ∈ WK := by
  rcases h with ⟨e, _⟩ | ⟨e | e, _⟩ <;> rw [e] <;> decide
theorem MdOk.kk {m : Md} (h : MdOk m) {k : Str} (e : m.k = some k) : k ∈ AK := by
  rcases h with ⟨_, q⟩ | ⟨_, x, hx, q⟩
  · rw [q] at e; cases e
  · rw [q] at e
    cases e
    exact List.mem_append_right _ hx
/-! ### as data -/
def rowD (l : List Str) : PyData := .list (l.map PyData.str)
def resD : Res → PyData
  | .bad k => .tuple [.str "bad", .int k]
  | .row l => .tuple [.str "row", rowD l]
def inD (row : List Str) (ms : List Md) : PyData := .tuple [rowD row, mdsD ms]
theorem strsLay : ∀ {l : List Str}, (∀ k ∈ l, PyData.strOk k = true) → PyData.canLayAll0 (l.map PyData.str) = true
  | [], _ => rfl
  | x :: xs, h => by
    rw [List.map_cons, PyData.canLayAll0, strsLay fun k m => h k (List.mem_cons_of_mem _ m), PyData.canLay0, h x List.mem_cons_self]
    rfl
theorem strsDeep : ∀ l : List Str, PyData.depthAll (l.map PyData.str) ≤ 1
  | [] => by simp [PyData.depthAll]
  | x :: xs => by
    have := strsDeep xs
    simp only [List.map_cons, PyData.depthAll, PyData.depth]
    omega
theorem md_lay {m : Md} (h : MdOk m) : (mdD m).canLay0 = true := by
  have h1 := wk_ok _ h.wk
  have h2 : PyData.canLayAll0 (m.k.toList.map PyData.str) = true := strsLay fun k hk => by
    have : m.k = some k := by simpa using hk
    exact ak_ok _ (h.kk this)
  simp [mdD, PyData.canLay0, PyData.canLayAll0, h1, h2]
theorem md_deep (m : Md) : (mdD m).depth ≤ 2 := by
  have := strsDeep m.k.toList
  simp only [mdD, PyData.depth, PyData.depthAll]
  omega
theorem mds_lay : ∀ {ms : List Md}, (∀ m ∈ ms, MdOk m) → PyData.canLayAll0 (ms.map mdD) = true
  | [], _ => rfl
  | x :: xs, h => by
    rw [List.map_cons, PyData.canLayAll0, mds_lay fun m hm => h m (List.mem_cons_of_mem _ hm), md_lay (h x List.mem_cons_self)]
    rfl
theorem mds_deep : ∀ ms : List Md, PyData.depthAll (ms.map mdD) ≤ 2
  | [] => by simp [PyData.depthAll]
  | x :: xs => by
    have := mds_deep xs
    have := md_deep x
    simp only [List.map_cons, PyData.depthAll]
    omega
theorem inD_shaped {row : List Str} {ms : List Md} (h : ∀ k ∈ row, k ∈ RK) (ok : ∀ m ∈ ms, MdOk m) : SeqAt.shaped (inD row ms) = true := by
  have a := strsLay (l := row) fun k m => ak_ok _ (List.mem_append_left _ (h k m))
  have b := mds_lay ok
  have c := strsDeep row
  have d := mds_deep ms
  refine shaped_mk ?_ ?_
  · simp [inD, rowD, mdsD, PyData.canLay0, PyData.canLayAll0, a, b]
  · simp only [inD, rowD, mdsD, PyData.depth, PyData.depthAll]
    omega
theorem run_mem {row : List Str} {S : Str → Prop} (hr : ∀ x ∈ row, S x) : ∀ {ms : List Md} {i d : Nat} {out l : List Str}, (∀ m ∈ ms, ∀ k, m.k = some k → S k) → (∀ x ∈ out, S x) → runM row i out d ms = .row l → ∀ x ∈ l, S x
  | [], i, d, out, l, _, ho, e, x, hx => by
    have e : Res.row (out ++ row.drop d) = .row l := e
    cases e
    rcases List.mem_append.mp hx with q | q
    · exact ho x q
    · exact hr x (List.mem_of_mem_drop q)
  | m :: ms, i, d, out, l, hm, ho, e, x, hx => by
    cases c : okAt row.length d m with
    | false =>
      rw [run_bad c] at e
      cases e
    | true =>
      rw [run_on c] at e
      refine run_mem hr (fun m' h' => hm m' (List.mem_cons_of_mem _ h')) (fun y hy => ?_) e x hx
      rcases List.mem_append.mp hy with q | q
      · exact ho y q
      · rcases List.mem_append.mp q with q | q
        · exact hr y (List.mem_of_mem_drop (List.mem_of_mem_take q))
        · exact hm m List.mem_cons_self y (by simpa using q)
theorem run_len {row : List Str} : ∀ {ms : List Md} {i d : Nat} {out l : List Str}, out.length ≤ d + i → d ≤ row.length → runM row i out d ms = .row l → l.length ≤ row.length + i + ms.length
  | [], i, d, out, l, ho, hd, e => by
    have e : Res.row (out ++ row.drop d) = .row l := e
    cases e
    rw [List.length_append, List.length_drop, List.length_nil]
    omega
  | m :: ms, i, d, out, l, ho, hd, e => by
    cases c : okAt row.length d m with
    | false =>
      rw [run_bad c] at e
      cases e
    | true =>
      rw [run_on c] at e
      obtain ⟨_, _, a3, _⟩ := okAt_cases c
      have l2 := outOf_len c
      have := run_len (ms := ms) (i := i + 1) (by rw [List.length_append]; omega) a3 e
      rw [List.length_cons]
      omega
theorem resD_shaped {row : List Str} {ms : List Md} (h : ∀ k ∈ row, k ∈ RK) (ok : ∀ m ∈ ms, MdOk m) : SeqAt.shaped (resD (runM row 0 [] 0 ms)) = true := by
  cases e : runM row 0 [] 0 ms with
  | bad k => exact shaped_mk (by simp [resD, PyData.canLay0, PyData.canLayAll0]; decide +kernel) (by simp [resD, PyData.depth, PyData.depthAll])
  | row l =>
    have a := strsLay (l := l) fun k m => ak_ok _ (run_mem (S := fun x => x ∈ AK) (fun x hx => List.mem_append_left _ (h x hx)) (fun m hm k ek => (ok m hm).kk ek) (fun _ z => by cases z) e k m)
    have c := strsDeep l
    have s : PyData.strOk "row" = true := by decide +kernel
    refine shaped_mk ?_ ?_
    · simp [resD, rowD, PyData.canLay0, PyData.canLayAll0, a, s]
    · simp only [resD, rowD, PyData.depth, PyData.depthAll]
      omega
theorem ResA.dp {K : PySem.W.Frag} {H0 H : Hp} {t : Addr} : ∀ {x : Res}, ResA H0 H t x → Dp K H (.ref t) (resD x)
  | .bad k, h => .tup (SqT.of h) (.cons (.str _) (.cons (.int _) .nil))
  | .row l, ⟨p, _, h1, h2⟩ => .tup (SqT.of h1) (.cons (.str _) (.cons (.lst (SqL.of h2) (dpStrs _)) .nil))
theorem ResA.same {H0 A B : Hp} (u : Same A B) {t : Addr} : ∀ {x : Res}, ResA H0 A t x → ResA H0 B t x
  | .bad k, h => u _ _ h
  | .row l, ⟨p, n, h1, h2⟩ => ⟨p, n, u _ _ h1, u _ _ h2⟩
section
variable {P : Program} {w : World} {K : PySem.W.Frag} {mg : Str → Option Value} {base : Heap}
theorem scL : FnScope ["script", "draws", "k", "row", "turn", "found", "index", "cell", "word", "kept", "told"] ["script"] (defScope sLaw) := ⟨rfl, rfl, rfl, by decide +kernel, rfl, by decide +kernel, by decide +kernel⟩
def spLaw (K : PySem.W.Frag) : Sp := fun vs H Q _ => ∃ (a : Addr) (ns : List Int), vs = [.ref a] ∧ SqL K H a (ns.map V.int) ∧ ns.length ≤ 63 ∧ ∀ H', Q (.bl true) H'
theorem ok_law {f fD fA fT fU : Addr} {fd fdD fdA fdT fdU : FuncData} (F : Fun K "law" "law" sLaw f fd)
    (GD : FnOk P w K mg base CX0 1 fD fdD ["script"] (spDraws K)) (kD : PySem.W.keepIn K (.ref fD) = true) (bD : Binds K fdD ["script"] []) (gD : mg "_law_draws" = some (.ref fD))
    (GA : FnOk P w K mg base CX0 1 fA fdA ["draws", "k", "many"] (spAt K)) (kA : PySem.W.keepIn K (.ref fA) = true) (bA : Binds K fdA ["draws", "k", "many"] []) (gA : mg "_law_at" = some (.ref fA))
    (GT : FnOk P w K mg base CX0 4 fT fdT ["row", "found"] spRes) (kT : PySem.W.keepIn K (.ref fT) = true) (bT : Binds K fdT ["row", "found"] []) (gT : mg "_law_told" = some (.ref fT))
    (GU : FnOk P w K mg base CX0 1 fU fdU ["row", "found"] spRes) (kU : PySem.W.keepIn K (.ref fU) = true) (bU : Binds K fdU ["row", "found"] []) (gU : mg "_law_due" = some (.ref fU))
    (mr : mg "range" = none) (mi : mg "int" = none) (ml : mg "len" = none) (mli : mg "list" = none) (mis : mg "isinstance" = none) : Top P w K mg base CX0 f fd ["script"] (spLaw K) := by
  refine top_ok F scL (k := 4) ⟨rfl, by decide, by decide⟩ (fun vs H Q E h => ?_) (fun cdv s H vs Q E hr h => ?_)
  · obtain ⟨a, ns, rfl, _⟩ := h
    rfl
  · obtain ⟨a, ns, rfl, hS, hlen, q⟩ := h
    have hr1 : Room 1 (callerA.deeper (envOfC "law" (defScope sLaw) s.heap.objs.size f cdv)) := hr.mono (by decide)
    refine ⟨_, pss_cons (ps_set (i := 1) scL.nd rfl (.inr rfl) (pe_call GD hr1 (by rfl) gD kD bD .nil pass0 (pa_cons (pv 0) pa_nil)))
      (pss_cons (ps_setLc (i := 3) (own := [("k", 2)]) (g := gName 2) (by rfl) scL.nd rfl rfl (sw_true rfl rfl rfl (by decide +kernel)) (pi_range1 rfl mr (pa_cons (pe_call GA hr1 (by rfl) gA kA bA .nil pass0 (pa_cons (pv 1) (pa_cons pe_int (pa_cons pe_int pa_nil)))) pa_nil))
          (blkOk_by (N := ["script", "draws", "k", "row", "turn", "found", "index", "cell", "word", "kept", "told"]) (sc := defScope sLaw) (by decide +kernel)) (fun _ _ _ _ _ => pg_name (i := 2) scL.nd rfl (Or.inl rfl)) (fun _ _ _ _ _ => pts_nil)
          (fun _ _ _ _ _ => pe_ix (r := rIxL K) ix_list (pe_lst (pa_cons pe_str (pa_cons pe_str (pa_cons pe_str pa_nil)))) (pe_call GA hr1 (by rfl) gA kA bA .nil pass0 (pa_cons (pv 1) (pa_cons (pe_op op_add pe_int (pv 2)) (pa_cons pe_int pa_nil)))) (fun _ _ => rfl)))
      (pss_cons (ps_for PassesOwn.never rfl (pi_range1 rfl mr (pa_cons pe_int pa_nil)) (pg_name (i := 4) scL.nd rfl (.inl rfl))
        (pss_cons (ps_set (i := 5) scL.nd rfl (.inl rfl) (pe_lst pa_nil))
        (pss_cons (ps_set (i := 6) scL.nd rfl (.inl rfl) pe_int)
        (pss_cons (ps_for PassesOwn.never rfl (pi_range1 rfl mr (pa_cons (pe_call GA hr1 (by rfl) gA kA bA .nil pass0 (pa_cons (pv 1) (pa_cons (pe_op op_add pe_int (pv 4)) (pa_cons pe_int pa_nil)))) pa_nil)) (pg_name (i := 2) scL.nd rfl (.inl rfl))
          (pss_cons (ps_set (i := 7) scL.nd rfl (.inl rfl) (pe_call GA hr1 (by rfl) gA kA bA .nil pass0 (pa_cons (pv 1) (pa_cons (pe_op op_add (pe_op op_add pe_int (pe_op op_mul pe_int (pv 4))) (pv 2)) (pa_cons pe_int pa_nil)))))
          (pss_cons (ps_set (i := 6) scL.nd rfl (.inl rfl) (pe_op op_add (pv 6) (pe_op op_mod (pe_callTy call_int1 (by rfl) mi (by decide +kernel) (pa_cons (pv 7) pa_nil)) pe_int)))
          (pss_cons (ps_if (pt_cmpR op_eq (pe_op op_mod (pe_callTy call_int1 (by rfl) mi (by decide +kernel) (pa_cons (pe_op op_fdiv (pv 7) pe_int) pa_nil)) pe_int) pe_int (nomark _))
            (pss_one (ps_set (i := 6) scL.nd rfl (.inl rfl) (pe_op op_sub (pe_op op_mod (pe_callTy call_int1 (by rfl) mi (by decide +kernel) (pa_cons (pe_op op_fdiv (pv 7) pe_int) pa_nil)) (pe_op op_add (pe_callB call_len_seq (by rfl) ml PySem.boot_len (pa_cons (pv 3) pa_nil)) pe_int)) pe_int))) pss_nil)
          (pss_cons (ps_set (i := 8) scL.nd rfl (.inl rfl) (pe_ix ix_list (pe_lst (pa_cons pe_str (pa_cons pe_str (pa_cons pe_str (pa_cons pe_str pa_nil))))) (pe_op op_mod (pe_callTy call_int1 (by rfl) mi (by decide +kernel) (pa_cons (pe_op op_fdiv (pv 7) pe_int) pa_nil)) pe_int) (fun _ _ => rfl)))
          (pss_one (ps_if (pt_cmpR op_eq (pv 8) pe_str (nomark _))
            (pss_one (ps_expr (pe_bm PySem.F.plainAttrs_list PySem.F.slot_list_append PySem.F.type_list_append mt_append (pv 5) (pa_cons (pe_tup (pa_cons (pv 8) (pa_cons (pv 6) pa_nil))) pa_nil))))
            (pss_one (ps_expr (pe_bm PySem.F.plainAttrs_list PySem.F.slot_list_append PySem.F.type_list_append mt_append (pv 5) (pa_cons (pe_tup (pa_cons (pv 8) (pa_cons (pv 6)
              (pa_cons (pe_ix ix_list (pe_lst (pa_cons pe_str (pa_cons pe_str pa_nil))) (pe_op op_mod (pe_callTy call_int1 (by rfl) mi (by decide +kernel) (pa_cons (pe_op op_fdiv (pv 7) pe_int) pa_nil)) pe_int) (fun _ _ => rfl)) pa_nil)))) pa_nil)))))))))))
        (pss_cons (ps_set (i := 9) scL.nd rfl (.inl rfl) (pe_tup (pa_cons (pe_callTy call_list_of (by rfl) mli (by decide +kernel) (pa_cons (pv 3) pa_nil)) (pa_cons (pe_callTy call_list_of (by rfl) mli (by decide +kernel) (pa_cons (pv 5) pa_nil)) pa_nil))))
        (pss_cons (ps_set (i := 10) scL.nd rfl (.inl rfl) (pe_call GT hr (by rfl) gT kT bT .nil pass0 (pa_cons (pv 3) (pa_cons (pv 5) pa_nil))))
        (pss_cons (ps_if (PW.pt (pw_or (pt_cmpR (op_neD (units64 hr)) (pv 10) (pe_call GU hr1 (by rfl) gU kU bU .nil pass0 (pa_cons (pv 3) (pa_cons (pv 5) pa_nil))) (nomark _))
            (pw_or1 (pt_cmpR (op_neD (units64 hr)) (pe_tup (pa_cons (pv 3) (pa_cons (pv 5) pa_nil))) (pv 9) (nomark _))))) (pss_one (ps_ret pe_bl)) pss_nil)
        (pss_one (ps_if (pt_cmpR op_eq (pe_ix ix_tup (pv 10) pe_int (fun _ _ => rfl)) pe_str (nomark _))
          (pss_cons (ps_if (pt_not (pt_val (pe_callB call_isi (by rfl) mis (by decide +kernel) (pa_cons (pe_ix ix_tup (pv 10) pe_int (fun _ _ => rfl)) (pa_cons (pe_bltn (v := .ty "list") (by rfl) mli (by decide +kernel) rfl) pa_nil))))) (pss_one (ps_ret pe_bl)) pss_nil)
          (pss_cons (ps_expr (pe_bm PySem.F.plainAttrs_list PySem.F.slot_list_append PySem.F.type_list_append mt_append (pe_ix ix_tup (pv 10) pe_int (fun _ _ => rfl)) (pa_cons pe_str pa_nil)))
          (pss_one (ps_if (pt_cmpR (op_neD (units64 hr)) (pe_tup (pa_cons (pv 3) (pa_cons (pv 5) pa_nil))) (pv 9) (nomark _)) (pss_one (ps_ret pe_bl)) pss_nil)))) pss_nil)))))))))
      (pss_one (ps_ret pe_bl)))), ?_⟩
    refine ⟨_, rfl, a, ns, rfl, hS, hlen, fun od no => ?_⟩
    have ho : upd H od (.lst ((drawsOf ns).map V.int)) od = some (.lst ((drawsOf ns).map V.int)) := upd_same
    generalize upd H od (.lst ((drawsOf ns).map V.int)) = H1 at ho
    generalize drawsOf ns = ds at ho
    have d7 : (0 : Int) < 7 := by decide
    have d3 : (0 : Int) < 3 := by decide
    have d6 : (0 : Int) < 6 := by decide
    have d60 : (0 : Int) < 60000 := by decide
    refine ⟨_, rfl, od, ds, _, _, rfl, SqL.of ho, by decide, d7, ?_⟩
    have n0 := atD_lo ds 0 d7
    have n1 := atD_hi ds 0 d7
    generalize atD ds 0 7 = n at n0 n1
    refine ⟨n, rfl, by omega, by omega, fun r nr => lc_range (lo := 0) (n := n.toNat) (fun j H' => ∃ row : List Str, Same H1 H' ∧ H' r = some (.lst (row.map V.str)) ∧ row.length = j ∧ ∀ k ∈ row, k ∈ RK) ⟨[], same_upd nr, upd_same, rfl, fun _ m => nomatch m⟩ ?_ ?_⟩
    · rintro j H' hj ⟨row, s', hd, lr, r4⟩
      refine ⟨rfl, (by show 3 ≤ sizeLine; decide), fun p np => ?_⟩
      have s1 : Same H' (upd H' p (.lst (RK.map V.str))) := same_upd np
      have hp : upd H' p (.lst (RK.map V.str)) p = some (.lst (RK.map V.str)) := upd_same
      show _
      refine ⟨_, rfl, _, rfl, _, _, rfl, rfl, od, ds, _, 3, rfl, SqL.of ((s'.trans s1) _ _ ho), by omega, d3, ?_⟩
      have k0 := atD_lo ds (1 + (0 + (j : Int))) d3
      have k1 := atD_hi ds (1 + (0 + (j : Int))) d3
      generalize atD ds (1 + (0 + (j : Int))) 3 = x at k0 k1
      obtain ⟨sy, gsy, s4⟩ := pick_at (L := RK) k0 k1
      refine ⟨p, _, _, _, rfl, rfl, SqL.of hp, at_of (j := x.toNat) (by omega) gsy, _, s1 _ _ hd, ?_, row ++ [sy], same_put (s'.trans s1) nr, ?_, ?_, fun k hk => ?_⟩
      · rw [List.length_map]
        exact million1 (by omega)
      · rw [upd_same, List.map_append]
        rfl
      · rw [List.length_append, List.length_singleton, lr]
      · rcases List.mem_append.mp hk with m | m
        · exact r4 k m
        · rw [List.mem_singleton.mp m]
          exact s4
    rintro H2 ⟨row, s2, hrow, lr, rk⟩
    have lrow : row.length ≤ 7 := by omega
    have ho2 := s2 _ _ ho
    refine ⟨3, rfl, by decide, by decide, for_range (lo := 0) (n := (3 : Int).toNat) (fun i σ H' => ∃ v2 v4 v5 v6 v7 v8 v9 v10, σ = [some (.ref a), some (.ref od), v2, some (.ref r), v4, v5, v6, v7, v8, v9, v10] ∧ Same H2 H')
      ⟨_, _, _, _, _, _, _, _, rfl, Same.refl H2⟩ ?_ ?_⟩
    rotate_left
    · rintro σ H' ⟨v2, v4, v5, v6, v7, v8, v9, v10, rfl, s'⟩
      exact q _
    rintro i σ H' hi ⟨v2, v4, v5, v6, v7, v8, v9, v10, rfl, s'⟩
    have hi : i < 3 := hi
    refine ⟨Nat.zero_le _, fun fo nfo => ?_⟩
    have s3 : Same H' (upd H' fo (.lst [])) := same_upd nfo
    have hfo : upd H' fo (.lst []) fo = some (.lst []) := upd_same
    generalize upd H' fo (.lst []) = H3 at s3 hfo
    have nfo2 : H2 fo = none := s'.free nfo
    have s23 := s'.trans s3
    refine ⟨_, rfl, _, rfl, _, _, rfl, rfl, od, ds, _, _, rfl, SqL.of (s23 _ _ ho2), by omega, d6, ?_⟩
    have e0 := atD_lo ds (8 + (0 + (i : Int))) d6
    have e1 := atD_hi ds (8 + (0 + (i : Int))) d6
    generalize atD ds (8 + (0 + (i : Int))) 6 = m at e0 e1
    refine ⟨m, rfl, by omega, by omega, for_range (lo := 0) (n := m.toNat) (fun j σ H' => ∃ (v2 v7 v8 : Option V) (ix : Int) (vs : List V) (ms : List Md), σ = [some (.ref a), some (.ref od), v2, some (.ref r), some (.int (0 + (i : Int))), some (.ref fo), some (.int ix), v7, v8, v9, v10] ∧ Same H2 H' ∧ H' fo = some (.lst vs) ∧ Rel2 (MdA H') vs ms ∧ ms.length = j ∧ ∀ m ∈ ms, MdOk m)
      ⟨_, _, _, 0, [], [], rfl, s23, hfo, True.intro, rfl, fun _ m => nomatch m⟩ ?_ ?_⟩
    · rintro j σ H' hj ⟨v2, v7, v8, ix, vs, ms, rfl, s', hf, rel, lm, ok⟩
      refine ⟨_, rfl, _, rfl, _, _, rfl, rfl, .inl ⟨by decide, by decide⟩, _, _, rfl, rfl, _, rfl, _, _, rfl, rfl, od, ds, _, _, rfl, SqL.of (s' _ _ ho2), by omega, d60, ?_⟩
      generalize atD ds (12 + 6 * (0 + (i : Int)) + (0 + (j : Int))) 60000 = c
      have d9 : (0 : Int) < 9 := by decide
      have d4 : (0 : Int) < 4 := by decide
      have d2 : (0 : Int) < 2 := by decide
      refine ⟨_, rfl, _, rfl, .inl ⟨_, rfl, _, _, rfl, rfl, d3, _, _, rfl, rfl, ?_⟩⟩
      refine ⟨_, rfl, _, _, rfl, rfl, ⟨by decide, by decide⟩, .inl ⟨_, rfl, _, _, rfl, rfl, d9, rfl, _, rfl, ite2 (fun _ => ?A) (fun _ => ?B)⟩⟩
      case' A =>
        refine ⟨_, rfl, _, _, rfl, rfl, ⟨by decide, by decide⟩, .inl ⟨_, rfl, _, rfl, r, _, rfl, .inl (SqL.of (s' _ _ hrow)), _, _, rfl, rfl, _, _, rfl, rfl, by omega, _, _, rfl, rfl, ?_⟩⟩
        dsimp only
        generalize c / 27 % (((row.map V.str).length : Int) + 3) - 1 = x
      case' B =>
        dsimp only
        generalize ix + c % 3 = x
      all_goals
        refine ⟨(by show 4 ≤ sizeLine; decide), fun p np => ?_⟩
        have s1 : Same H' (upd H' p (.lst (WK.map V.str))) := same_upd np
        have hp : upd H' p (.lst (WK.map V.str)) p = some (.lst (WK.map V.str)) := upd_same
        show _
        generalize hA : upd H' p (.lst (WK.map V.str)) = A1 at s1 hp
        have hA' : upd H' p (.lst [V.str "put", V.str "out", V.str "change", V.str "put"]) = A1 := hA
        simp only [hA']
        have y0 := Int.emod_nonneg (c / 5) (b := 4) (by decide)
        have y1 := Int.emod_lt_of_pos (c / 5) d4
        obtain ⟨wd, gw, mw⟩ := pick_at (L := WK) y0 y1
        refine ⟨_, rfl, _, _, rfl, rfl, ⟨by decide, by decide⟩, .inl ⟨_, rfl, _, _, rfl, rfl, d4, p, _, _, _, rfl, rfl, SqL.of hp, at_of (j := (c / 5 % 4).toNat) (by omega) gw, ?_⟩⟩
        refine ⟨_, rfl, rfl, _, rfl, ?_⟩
        rw [strDec]
        have hf1 := s1 _ _ hf
        by_cases e : wd = "out"
        · rw [decide_eq_true e]
          subst e
          refine iteT ⟨_, rfl, .inl ⟨rfl, _, SqL.of hf1⟩, _, rfl, _, rfl, (by show 2 ≤ sizeLine; decide), fun t nt => ?_⟩
          have s4 : Same A1 (upd A1 t (.tup [.str "out", .int x])) := same_upd nt
          have ht : upd A1 t (.tup [.str "out", .int x]) t = some (.tup (mdV ⟨"out", x, none⟩)) := upd_same
          generalize upd A1 t (.tup [.str "out", .int x]) = A2 at s4 ht
          have hf2 := s4 _ _ hf1
          refine ⟨fo, _, _, rfl, rfl, hf2, million1 (by rw [rel.len, lm]; omega), _, _, _, x, vs ++ [.ref t], ms ++ [⟨"out", x, none⟩], rfl, same_put (s'.trans (s1.trans s4)) nfo2, upd_same, ?_, ?_, fun m hm => ?_⟩
          · exact (rel.mono (MdA.tupS fun b xs z => TupS_at hf2 b xs (s4 _ _ (s1 _ _ z)))).snoc ⟨t, rfl, TupS_at hf2 _ _ ht⟩
          · rw [List.length_append, List.length_singleton, lm]
          · rcases List.mem_append.mp hm with q | q
            · exact ok m q
            · rw [List.mem_singleton.mp q]
              exact .inl ⟨rfl, rfl⟩
        · rw [decide_eq_false e]
          refine iteF ⟨_, rfl, .inl ⟨rfl, _, SqL.of hf1⟩, _, rfl, _, rfl, ?_⟩
          refine ⟨(by show 2 ≤ sizeLine; decide), fun p2 np2 => ?_⟩
          have s4 : Same A1 (upd A1 p2 (.lst (MK.map V.str))) := same_upd np2
          have hp2 : upd A1 p2 (.lst (MK.map V.str)) p2 = some (.lst (MK.map V.str)) := upd_same
          show _
          generalize hB : upd A1 p2 (.lst (MK.map V.str)) = A2 at s4 hp2
          have hB' : upd A1 p2 (.lst [V.str "A", V.str "C"]) = A2 := hB
          simp only [hB']
          have z0 := Int.emod_nonneg (c / 7) (b := 2) (by decide)
          have z1 := Int.emod_lt_of_pos (c / 7) d2
          obtain ⟨kd, gk, mk⟩ := pick_at (L := MK) z0 z1
          refine ⟨_, rfl, _, _, rfl, rfl, ⟨by decide, by decide⟩, .inl ⟨_, rfl, _, _, rfl, rfl, d2, p2, _, _, _, rfl, rfl, SqL.of hp2, at_of (j := (c / 7 % 2).toNat) (by omega) gk, ?_⟩⟩
          refine ⟨(by show 3 ≤ sizeLine; decide), fun t nt => ?_⟩
          have s5 : Same A2 (upd A2 t (.tup [.str wd, .int x, .str kd])) := same_upd nt
          have ht : upd A2 t (.tup [.str wd, .int x, .str kd]) t = some (.tup (mdV ⟨wd, x, some kd⟩)) := upd_same
          generalize upd A2 t (.tup [.str wd, .int x, .str kd]) = A3 at s5 ht
          have hf3 := s5 _ _ (s4 _ _ hf1)
          refine ⟨fo, _, _, rfl, rfl, hf3, million1 (by rw [rel.len, lm]; omega), _, _, _, x, vs ++ [.ref t], ms ++ [⟨wd, x, some kd⟩], rfl, same_put (s'.trans ((s1.trans s4).trans s5)) nfo2, upd_same, ?_, ?_, fun m hm => ?_⟩
          · exact (rel.mono (MdA.tupS fun b xs z => TupS_at hf3 b xs (s5 _ _ (s4 _ _ (s1 _ _ z))))).snoc ⟨t, rfl, TupS_at hf3 _ _ ht⟩
          · rw [List.length_append, List.length_singleton, lm]
          · rcases List.mem_append.mp hm with q | q
            · exact ok m q
            · rw [List.mem_singleton.mp q]
              refine .inr ⟨?_, kd, mk, rfl⟩
              show wd = "put" ∨ wd = "change"
              simp only [WK, List.mem_cons, List.not_mem_nil, or_false] at mw
              rcases mw with z | z | z | z
              · exact .inl z
              · exact absurd z e
              · exact .inr z
              · exact .inl z
    rintro σ H4 ⟨v2, v7, v8, ix, vs, ms, rfl, s4, hf, rel, lm, ok⟩
    have few : ms.length ≤ 10 := by omega
    have hrow4 := s4 _ _ hrow
    -- what is kept
    refine ⟨_, rfl, r, _, rfl, .inl (SqL.of hrow4), fun k1 nk1 => ?_⟩
    have u1 : Same H4 (upd H4 k1 (.lst (row.map V.str))) := same_upd nk1
    have g1 : upd H4 k1 (.lst (row.map V.str)) k1 = some (.lst (row.map V.str)) := upd_same
    generalize upd H4 k1 (.lst (row.map V.str)) = B1 at u1 g1
    refine ⟨_, rfl, fo, _, rfl, .inl (SqL.of (u1 _ _ hf)), fun k2 nk2 => ?_⟩
    have u2 : Same B1 (upd B1 k2 (.lst vs)) := same_upd nk2
    have g2 : upd B1 k2 (.lst vs) k2 = some (.lst vs) := upd_same
    generalize upd B1 k2 (.lst vs) = B2 at u2 g2
    refine ⟨(by show 2 ≤ sizeLine; decide), fun kt nkt => ?_⟩
    have u3 : Same B2 (upd B2 kt (.tup [.ref k1, .ref k2])) := same_upd nkt
    have g3 : upd B2 kt (.tup [.ref k1, .ref k2]) kt = some (.tup [.ref k1, .ref k2]) := upd_same
    generalize upd B2 kt (.tup [.ref k1, .ref k2]) = B3 at u3 g3
    have u13 := (u1.trans u2).trans u3
    have hf3 := u13 _ _ hf
    have hr3 := u13 _ _ hrow4
    have g1' := u3 _ _ (u2 _ _ g1)
    have g2' := u3 _ _ g2
    have rel3 := rel.mono (MdA.same u13)
    have hfA : MdsA B3 fo ms := ⟨vs, hf3, rel3⟩
    have shR := resD_shaped rk ok
    have shI := inD_shaped rk ok
    have few1 : row.length ≤ 1000 := by omega
    have few2 : ms.length ≤ 1000 := by omega
    have keptD : ∀ {C : Hp}, Same B3 C → Dp K C (.ref kt) (inD row ms) := fun {C} u => .tup (SqT.of (u _ _ g3)) (.cons (.lst (SqL.of (u _ _ g1')) (dpStrs _)) (.cons (MdsA.dp ⟨vs, u _ _ g2', rel3.mono (MdA.same u)⟩) .nil))
    have nowD : ∀ {C D : Hp} {t : Addr}, Same B3 C → Same C D → D t = some (.tup [.ref r, .ref fo]) → Dp K D (.ref t) (inD row ms) := fun {C D t} u v z => .tup (SqT.of z) (.cons (.lst (SqL.of ((u.trans v) _ _ hr3)) (dpStrs _)) (.cons (MdsA.dp ⟨vs, (u.trans v) _ _ hf3, rel3.mono (MdA.same (u.trans v))⟩) .nil))
    refine ⟨_, rfl, _, rfl, r, fo, row, ms, rfl, hr3, hfA, ok, few1, few2, fun t C1 w1 nt r1 => ?_⟩
    refine ⟨_, rfl, _, rfl, _, rfl, r, fo, row, ms, rfl, w1 _ _ hr3, hfA.same w1, ok, few1, few2, fun t2 C2 w2 nt2 r2 => ?_⟩
    have r1' := r1.same w2
    refine ⟨_, _, r1'.dp, r2.dp, shR, shR, _, rfl, ?_⟩
    rw [eqv_self shR]
    refine iteF ?_
    have w12 := w1.trans w2
    refine ⟨_, rfl, _, rfl, (by show 2 ≤ sizeLine; decide), fun it nit => ?_⟩
    have w3 : Same C2 (upd C2 it (.tup [.ref r, .ref fo])) := same_upd nit
    have dI := nowD (t := it) w12 w3 upd_same
    have r1'' := r1'.same w3
    have w13 := w12.trans w3
    generalize upd C2 it (.tup [.ref r, .ref fo]) = C3 at w3 dI r1'' w13
    refine ⟨_, rfl, _, _, dI, keptD w13, shI, shI, _, rfl, ?_⟩
    rw [eqv_self shI]
    refine iteF ?_
    have s24 := s4.trans (u13.trans w13)
    clear dI r1' r2
    cases ex : runM row 0 [] 0 ms with
    | bad k =>
      rw [ex] at r1''
      have r1'' : C3 t = some (.tup [.str "bad", .int k]) := r1''
      refine ⟨_, rfl, t, _, _, _, rfl, rfl, SqT.of r1'', at_of (j := 0) rfl rfl, rfl, _, rfl, ?_⟩
      refine iteF ⟨_, _, _, _, _, _, _, _, rfl, s24⟩
    | row l =>
      rw [ex] at r1''
      obtain ⟨p, np, e1, e2⟩ := r1''
      refine ⟨_, rfl, t, _, _, _, rfl, rfl, SqT.of e1, at_of (j := 0) rfl rfl, rfl, _, rfl, ?_⟩
      refine iteT ⟨_, rfl, t, _, _, _, rfl, rfl, SqT.of e1, at_of (j := 1) rfl rfl, _, _, _, _, _, rfl, .ty "list", .base (.lst e2), kit_ty (r := true) (by decide +kernel), _, rfl, iteF ?_⟩
      have np4 : B3 p = none := np
      refine ⟨_, rfl, t, _, _, _, rfl, rfl, SqT.of e1, at_of (j := 1) rfl rfl, .inl ⟨rfl, _, SqL.of e2⟩, p, _, _, rfl, rfl, e2, ?_, ?_⟩
      · have := run_len (Nat.zero_le _) (Nat.zero_le _) ex
        rw [List.length_map]
        exact million1 (by omega)
      have x1 : Same B3 (upd C3 p (.lst (l.map V.str ++ [.str "A"]))) := same_put w13 np
      have x2 : Same H2 (upd C3 p (.lst (l.map V.str ++ [.str "A"]))) := (s4.trans u13).trans x1
      generalize upd C3 p (.lst (l.map V.str ++ [.str "A"])) = C4 at x1 x2
      refine ⟨_, rfl, _, rfl, (by show 2 ≤ sizeLine; decide), fun it nit => ?_⟩
      have w4 : Same C4 (upd C4 it (.tup [.ref r, .ref fo])) := same_upd nit
      have dI := nowD (t := it) x1 w4 upd_same
      have x3 := x1.trans w4
      have x4 := x2.trans w4
      generalize upd C4 it (.tup [.ref r, .ref fo]) = C5 at w4 dI x3 x4
      refine ⟨_, rfl, _, _, dI, keptD x3, shI, shI, _, rfl, ?_⟩
      rw [eqv_self shI]
      exact iteF ⟨_, _, _, _, _, _, _, _, rfl, x4⟩
end
end Ld

set_option Elab.async false
set_option linter.all false
set_option maxRecDepth 100000
set_option maxHeartbeats 4000000

namespace Ld
open PySem PySem.Spec PyProof.Rows L2 Lg Lr Le Lt
def clsOk (K : PySem.W.Frag) (C fI : Addr) (cs : List (Addr × Nat)) (bit : Nat → Bool) : Bool :=
  PySem.W.findIn K (.ref C) "__setattr__" == some (some (.builtin "object.__setattr__")) && (PySem.W.subIn K (.ref C) (.type "BaseException") == some true && (PySem.W.typeIn K (.ref C) == some (.type "type") && (PySem.W.keepIn K (.ref C) &&
  (PySem.W.findIn K (.ref C) "__getattribute__" == some (some (.builtin "BaseException.__getattribute__")) && (PySem.W.findIn K (.ref C) "__getattr__" == some none && (PySem.W.hasDictIn K C && (PySem.W.findIn K (.ref C) "__class__" == some (some (.builtin "object.__class__")) &&
  (PySem.W.specialIn K (.builtin "object.__class__") "__get__" == some (some (.builtin "getset_descriptor.__get__")) && (PySem.W.takesIn K (.builtin "object.__class__") == some true && (PySem.W.mroIn K C (.type "object") == some true && (PySem.W.findIn K (.ref C) "__init__" == some (some (.ref fI)) &&
  (PySem.W.typeIn K (.ref fI) == some (.type "function") && (PySem.W.findIn K (.ref C) "at" == some none && cs.all fun c => PySem.W.kitOne K (.ref C) (.ref c.1) == some (bit c.2))))))))))))))
theorem cls_err {K : PySem.W.Frag} {C fI : Addr} {cs : List (Addr × Nat)} {bit : Nat → Bool} {nm q : Str} {N : Addr} {bs bm : List Value} {sn : List Str} {sub : List Value} {ab : Bool} {col : Option Bool} {dd : Option Addr} {m0 m1 m2 m3 m5 : Option Value}
    (h : clsOk K C fI cs bit = true) (xL : K.lookup C = some (excClassObj nm q C N bs bm true sn sub ab col dd m0 m1 m2 m3 m5 "ValueError.__new__")) (hb : PySem.HandSPX.refsVE bm = true) :
    ErrC K C fI ∧ ∀ c ∈ cs, PySem.W.kitOne K (.ref C) (.ref c.1) = some (bit c.2) := by
  unfold clsOk at h
  simp only [Bool.and_eq_true, beq_iff_eq, List.all_eq_true] at h
  obtain ⟨h1, h2, h3, h4, h5, h6, h7, h8, h9, h10, h11, h12, h13, h14, h15⟩ := h
  exact ⟨⟨⟨⟨nm, q, N, bs, bm, sn, sub, ab, col, dd, m0, m1, m2, m3, m5, xL, hb⟩, h1, h2, h3, h4⟩, ⟨h5, h6, h2, h7, h8, h9, h10, h11⟩, h12, h13, h14⟩, h15⟩

theorem all_mk {l : PySem.W.OpenLaw} {w : World} {K : PySem.W.Frag} {h : Heap} {mg : Str → Option Value} {fa  fI cM cB  fmm fla fdr fat fdu ftd flw : Addr} (X : K.In h) (G : h.Ns mainGlobals mg) (hfa : mg "law" = some (.ref fa))
    {odmm anmm odla anla oddr andr odat anat oddu andu odtd antd odlw anlw odI anI : Option Addr}
    {slmm slla sldr slat sldu sltd sllw slI : Array (Option Value)}
    {ocmm kVmm dcmm pmmm ctmm cdmm ocla kVla dcla pmla ctla cdla ocdr kVdr dcdr pmdr ctdr cddr ocat kVat dcat pmat ctat cdat ocdu kVdu dcdu pmdu ctdu cddu octd kVtd dctd pmtd cttd cdtd oclw kVlw dclw pmlw ctlw cdlw ocI kVI dcI pmI ctI cdI : Value}
    {nmB qB : Str} {NB : Addr} {bsB bmB : List Value} {snB : List Str} {subB : List Value} {abB : Bool} {colB : Option Bool} {ddB : Option Addr} {m0B m1B m2B m3B m5B : Option Value}
    (amm : PySem.W.nsIn K mainGlobals "make_mends" = some (some (.ref fmm)))
    (lmm : K.lookup fmm = some ⟨ocmm, odmm, .func (PySem.W.fnOf "make_mends" "make_mends" (defArgs s_make_mends) (defBody s_make_mends) (defScope s_make_mends) .none kVmm dcmm pmmm anmm cdmm ctmm), slmm⟩)
    (cmm : PySem.W.codeIn K cdmm "make_mends" = true)
    (kmm : PySem.W.keepIn K (.ref fmm) = true)
    (ala : PySem.W.nsIn K mainGlobals "_last_index" = some (some (.ref fla)))
    (lla : K.lookup fla = some ⟨ocla, odla, .func (PySem.W.fnOf "_last_index" "_last_index" (defArgs s__last_index) (defBody s__last_index) (defScope s__last_index) .none kVla dcla pmla anla cdla ctla), slla⟩)
    (cla : PySem.W.codeIn K cdla "_last_index" = true)
    (kla : PySem.W.keepIn K (.ref fla) = true)
    (adr : PySem.W.nsIn K mainGlobals "_law_draws" = some (some (.ref fdr)))
    (ldr : K.lookup fdr = some ⟨ocdr, oddr, .func (PySem.W.fnOf "_law_draws" "_law_draws" (defArgs sDraws) (defBody sDraws) (defScope sDraws) .none kVdr dcdr pmdr andr cddr ctdr), sldr⟩)
    (cdr : PySem.W.codeIn K cddr "_law_draws" = true)
    (kdr : PySem.W.keepIn K (.ref fdr) = true)
    (aat : PySem.W.nsIn K mainGlobals "_law_at" = some (some (.ref fat)))
    (lat : K.lookup fat = some ⟨ocat, odat, .func (PySem.W.fnOf "_law_at" "_law_at" (defArgs sAt) (defBody sAt) (defScope sAt) .none kVat dcat pmat anat cdat ctat), slat⟩)
    (cat : PySem.W.codeIn K cdat "_law_at" = true)
    (kat : PySem.W.keepIn K (.ref fat) = true)
    (adu : PySem.W.nsIn K mainGlobals "_law_due" = some (some (.ref fdu)))
    (ldu : K.lookup fdu = some ⟨ocdu, oddu, .func (PySem.W.fnOf "_law_due" "_law_due" (defArgs s__law_due) (defBody s__law_due) (defScope s__law_due) .none kVdu dcdu pmdu andu cddu ctdu), sldu⟩)
    (cdu : PySem.W.codeIn K cddu "_law_due" = true)
    (kdu : PySem.W.keepIn K (.ref fdu) = true)
    (atd : PySem.W.nsIn K mainGlobals "_law_told" = some (some (.ref ftd)))
    (ltd : K.lookup ftd = some ⟨octd, odtd, .func (PySem.W.fnOf "_law_told" "_law_told" (defArgs s__law_told) (defBody s__law_told) (defScope s__law_told) .none kVtd dctd pmtd antd cdtd cttd), sltd⟩)
    (ctd : PySem.W.codeIn K cdtd "_law_told" = true)
    (ktd : PySem.W.keepIn K (.ref ftd) = true)
    (alw : PySem.W.nsIn K mainGlobals "law" = some (some (.ref flw)))
    (llw : K.lookup flw = some ⟨oclw, odlw, .func (PySem.W.fnOf "law" "law" (defArgs sLaw) (defBody sLaw) (defScope sLaw) .none kVlw dclw pmlw anlw cdlw ctlw), sllw⟩)
    (clw : PySem.W.codeIn K cdlw "law" = true)
    (klw : PySem.W.keepIn K (.ref flw) = true)
    (aM : PySem.W.nsIn K mainGlobals "MendError" = some (some (.ref cM)))
    (gB : PySem.W.nsIn K mainGlobals "BadMend" = some (some (.ref cB)))
    (xB : K.lookup cB = some (excClassObj nmB qB cB NB bsB bmB true snB subB abB colB ddB m0B m1B m2B m3B m5B "ValueError.__new__"))
    (bB : PySem.HandSPX.refsVE bmB = true)
    (i0 : PySem.W.findIn K (.ref cB) "__init__" = some (some (.ref fI)))
    (oB : clsOk K cB fI [] (fun _ => false) = true)
    (lI : K.lookup fI = some ⟨ocI, odI, .func (PySem.W.fnOf "__init__" "MendError.__init__" (defArgs sInit) (defBody sInit) (defScope sInit) .none kVI dcI pmI anI cdI ctI), slI⟩)
    (eI : PySem.W.codeIn K cdI "MendError.__init__" = true)
    (kI : PySem.W.keepIn K (.ref fI) = true)
    (xBB : PySem.W.exmOne K (.ref cB) (.ref cB) = some true)
    (z_len : PySem.W.nsIn K mainGlobals "len" = some none)
    (z_range : PySem.W.nsIn K mainGlobals "range" = some none)
    (z_min : PySem.W.nsIn K mainGlobals "min" = some none)
    (z_max : PySem.W.nsIn K mainGlobals "max" = some none)
    (z_abs : PySem.W.nsIn K mainGlobals "abs" = some none)
    (z_int : PySem.W.nsIn K mainGlobals "int" = some none)
    (z_isinstance : PySem.W.nsIn K mainGlobals "isinstance" = some none)
    (z_list : PySem.W.nsIn K mainGlobals "list" = some none)
    (z_enumerate : PySem.W.nsIn K mainGlobals "enumerate" = some none)
    : LawTop l w K 63 "script" mg fa h := by
  have e := hfa.symm.trans (PySem.W.mg_of X G alw)
  cases e
  have m := fun {x : Str} (z : PySem.W.nsIn K mainGlobals x = some none) => PySem.W.mg_none_of X G z
  have Fmm := fun_mk (st := s_make_mends) lmm cmm kmm
  have Fla := fun_mk (st := s__last_index) lla cla kla
  have Fdr := fun_mk (st := sDraws) ldr cdr kdr
  have Fat := fun_mk (st := sAt) lat cat kat
  have Fdu := fun_mk (st := s__law_due) ldu cdu kdu
  have Ftd := fun_mk (st := s__law_told) ltd ctd ktd
  have Flw := fun_mk (st := sLaw) llw clw klw
  have FI := fun_mk (st := sInit) lI eI kI
  have bmm := Fmm.binds (ps := ["row", "found"]) fun _ _ _ _ _ _ us hl => match us, hl with | [_, _], _ => rfl
  have bla := Fla.binds (ps := ["row", "mend"]) fun _ _ _ _ _ _ us hl => match us, hl with | [_, _], _ => rfl
  have bdr := Fdr.binds (ps := ["script"]) fun _ _ _ _ _ _ us hl => match us, hl with | [_], _ => rfl
  have bat := Fat.binds (ps := ["draws", "k", "many"]) fun _ _ _ _ _ _ us hl => match us, hl with | [_, _, _], _ => rfl
  have bdu := Fdu.binds (ps := ["row", "found"]) fun _ _ _ _ _ _ us hl => match us, hl with | [_, _], _ => rfl
  have btd := Ftd.binds (ps := ["row", "found"]) fun _ _ _ _ _ _ us hl => match us, hl with | [_, _], _ => rfl
  have blw := Flw.binds (ps := ["script"]) fun _ _ _ _ _ _ us hl => match us, hl with | [_], _ => rfl
  have bI := FI.binds (ps := ["self", "at"]) fun _ _ _ _ _ _ us hl => match us, hl with | [_, _], _ => rfl
  obtain ⟨EB, _⟩ := cls_err oB xB bB
  refine ⟨PySem.W.fnOf "law" "law" (defArgs sLaw) (defBody sLaw) (defScope sLaw) .none kVlw dclw pmlw anlw cdlw ctlw, [], spLaw K, fun p hp => ?_, fun s v => .of_eq rfl, fun H a ns hl hH hS => ⟨a, ns, rfl, hS, hl, fun _ => rfl⟩, fun base hK hN hTB => ?_⟩
  · cases hp
  · have g := fun {x : Str} {v : Value} (z : PySem.W.nsIn K mainGlobals x = some (some v)) => PySem.W.mg_of X G z
    have GI : FnOk l.prog w K mg base CX0 1 fI _ ["self", "at"] (spInit K) := ok_init (k := 0) FI
    have Gla : FnOk l.prog w K mg base CX0 1 fla _ ["row", "mend"] spLi := ok_li Fla (m z_len)
    have Gmm := ok_mm Fmm Gla kla bla (g ala) GI bI EB (g gB) (m z_enumerate)
    have Gat : FnOk l.prog w K mg base CX0 1 fat _ ["draws", "k", "many"] (spAt K) := ok_at (k := 0) Fat (m z_len) (m z_int)
    have Gdu : FnOk l.prog w K mg base CX0 1 fdu _ ["row", "found"] spRes := ok_du Fdu (m z_len) (m z_range) (m z_int) (m z_max)
    have Gtd := ok_td Ftd Gmm kmm bmm (g amm) EB (g gB) (g aM) xBB
    exact ok_law Flw (ok_draws (k := 0) Fdr (m z_range) (m z_min) (m z_len) (m z_abs) (m z_int)) kdr bdr (g adr) Gat kat bat (g aat) Gtd ktd btd (g atd) Gdu kdu bdu (g adu) (m z_range) (m z_int) (m z_len) (m z_list) (m z_isinstance)
end Ld

open PySem PySem.W PyProof.Rows
set_option maxRecDepth 100000 in
set_option maxHeartbeats 0 in
theorem PySem.Challenge.cw_leastmend_k23_lists_of_mends_holds : PySem.Challenge.rw_leastmend_k23_lists_of_mends.Holds := by
  w_on; o_law; k_head; (case hw => w_witness2)
  k_fill
  refine Lg.walk_top (l := PySem.Challenge.rw_leastmend_k23_lists_of_mends) (n := 63) (x := "script") rfl (by decide) rfl (fun w h Y => PySem.W.kIn_of Y) ?F
  case F =>
    intro w mg fa h Y KX G hmg htab
    refine' Ld.all_mk KX G hmg  ?amm ?lmm ?cmm ?kmm ?ala ?lla ?cla ?kla ?adr ?ldr ?cdr ?kdr ?aat ?lat ?cat ?kat ?adu ?ldu ?cdu ?kdu ?atd ?ltd ?ctd ?ktd ?alw ?llw ?clw ?klw ?aM ?gB ?xB ?bB ?i0 ?oB ?lI ?eI ?kI ?xBB ?z_len ?z_range ?z_min ?z_max ?z_abs ?z_int ?z_isinstance ?z_list ?z_enumerate
    (case amm => k_is)
    (case lmm => k_is)
    (case cmm => k_is)
    (case kmm => k_is)
    (case ala => k_is)
    (case lla => k_is)
    (case cla => k_is)
    (case kla => k_is)
    (case adr => k_is)
    (case ldr => k_is)
    (case cdr => k_is)
    (case kdr => k_is)
    (case aat => k_is)
    (case lat => k_is)
    (case cat => k_is)
    (case kat => k_is)
    (case adu => k_is)
    (case ldu => k_is)
    (case cdu => k_is)
    (case kdu => k_is)
    (case atd => k_is)
    (case ltd => k_is)
    (case ctd => k_is)
    (case ktd => k_is)
    (case alw => k_is)
    (case llw => k_is)
    (case clw => k_is)
    (case klw => k_is)
    (case aM => k_is)
    (case gB => k_is)
    (case xB => k_is)
    (case bB => decide +kernel)
    (case i0 => k_is)
    (case oB => kernel_rfl)
    (case lI => k_is)
    (case eI => k_is)
    (case kI => k_is)
    (case xBB => first | k_is | kernel_rfl)
    (case z_len => k_is)
    (case z_range => k_is)
    (case z_min => k_is)
    (case z_max => k_is)
    (case z_abs => k_is)
    (case z_int => k_is)
    (case z_isinstance => k_is)
    (case z_list => k_is)
    (case z_enumerate => k_is)
