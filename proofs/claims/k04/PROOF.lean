import PyProof.Rows.All
import Wide.All
import OpenK.AllK
import Wide.FinOn
import HandS.ForMost
import HandS.AnyAll
import HandS.Walk
import HandS.IsInst
import HandS.EndTab
import HandS.Deep
import PyProof.ReprRoads
import HandS.DeepEq
import HandS.DictComp
import HandS.DictEq
import PyProof.P3Eq
import PyProof.DictFindH
import KE.LtData
import HandS.StrMore
import PySem.Challenge.RW_leastmend_k04_cutting_texts
set_option Elab.async false
set_option linter.all false
set_option maxRecDepth 100000
set_option maxHeartbeats 4000000
/-! all(test for x in e): any thing that is walked, any test that leaves the heap's objects as they stand; the test may read what the def holds. -/
namespace Gc
open PySem PySem.Spec PyProof.Rows L2 GxR
/-- the code object of the inner block, found in the table or made and entered there: one end for both -/
theorem code_either {M : Model} {A : Around} {E : Value → Shared → Prop} {s : Shared} {env : Env} {c P : Addr} {ps : Array Value} {gp : Pos} {qn : Str} {scope : Scope} {Q : Value → Shared → Prop}
    (hc : env.code = .ref c) (C : PySem.W.CodeHd s.heap c P) (tab : s.heap.get? P = some { cls := .none, data := .fields ps }) (ok : TriplesOk ps.toList)
    (go : ∀ (code : Value) (h3 : Heap) (tk : Nat) (more : Array Value), Heap.ExtBut P s.heap h3 → s.heap.objs.size ≤ h3.objs.size → h3.get? P = some { cls := .none, data := .fields (ps ++ more) } → TriplesOk (ps ++ more).toList → Q code { s with heap := h3, toks := tk }) :
    wpAny M A (genexprCode env gp qn scope) Q E s := by
  cases found : codeAmong gp ps.toList with
  | some cv =>
    have q := go cv s.heap s.toks #[] (Heap.ExtBut.refl _ _) (Nat.le_refl _) (by rw [Array.append_empty]; exact tab) (by rw [Array.append_empty]; exact ok)
    exact wpAny_genexprCode_hit hc (C.code tab ok) found q
  | none =>
    refine wpAny_genexprCodeX hc (C.code tab ok) (C.tab tab) found fun c' h3 tk ext big small made _ entered _ => ?_
    obtain ⟨_, _, _, _, _, _, _, _, _, _, _, _, _, _, _, _, _, _, _, ok3, _⟩ := made
    exact go (.ref c') h3 tk _ ext (Nat.le_of_lt (Nat.lt_of_le_of_lt big small)) entered.2 ok3
/-- what is walked: xv in the heap h1 gives n items, the i-th under Pf i; its iterator is the next new object; it reads nothing of the table at P -/
def SrcOk (prog : Program) (w : World) (h1 : Heap) (P : Addr) (xv : Value) (n : Nat) (Pf : Nat → Value → Prop) : Prop :=
  ∃ fp : List Addr, (∀ b ∈ fp, b ≤ h1.objs.size) ∧ P ∉ fp ∧
    ∀ (A : Around) (E : Value → Shared → Prop) (s : Shared) (Q : Value → Shared → Prop), s.heap = h1 →
      (∀ (o : Obj) (St : Nat → Heap → Prop), (∀ A' : Around, A'.handled = none → Walks prog w A' h1.objs.size fp [h1.objs.size] n Pf St) → St 0 (h1.push o) → Q (.ref h1.objs.size) { s with heap := h1.push o }) → wpAny (model prog w) A (pyIter xv) Q E s
/-- the environment in which the inner block runs -/
abbrev blkEnv (X : Cx) (scope : Scope) (C : Addr) (code : Value) : Env := genEnv scope (cloFrom X.env.cells scope.names []) C code builtinsNs X.env
/-- the test: of an item under Pf i it gives pb i, wherever all that stood in h1 (but the table at P) stands -/
def EltG (X : Cx) (scope : Scope) (x : Str) (elt : Expr) (P : Addr) (h1 : Heap) (Pf : Nat → Value → Prop) (pb : Nat → Bool) : Prop :=
  ∀ (C : Addr) (code : Value) (A' : Around) (E' : Value → Shared → Prop) (i : Nat) (v : Value) (s₂ : Shared) (m₂ : Str → Option Value), A'.handled = none → A'.depth ≤ X.A.depth + 1 → A'.units ≤ X.A.units + 8 → Pf i v →
    (∀ b o, b ≠ P → h1.get? b = some o → s₂.heap.get? b = some o) → s₂.heap.Ns C m₂ → m₂ x = some v →
    wpAny (model X.prog X.w) A' (eval elt (blkEnv X scope C code)) (fun y s₃ => y = .bool (pb i) ∧ Keeps s₂ s₃) E' s₂
/-- the block's own scope, over the def's scope sc -/
structure GenSc (sc scope : Scope) (x : Str) : Prop where
  kind : scope.kind = .function
  co : scope.isCoroutine = false
  cell : ∀ y ∈ scope.names, y.2 ≠ .cell
  dot : scope.names.lookup (".0" : Str) = some NameKind.local
  loc : scope.names.lookup x = some .local
  free : ∀ y ∈ scope.names, y.2 = .free → sc.names.lookup y.1 = some .cell
section
variable {X : Cx}
/-- all(test for x in e) -/
def tAllG (X : Cx) (scope : Scope) (x : Str) (elt : Expr) (P : Addr) (te : TE) : TE := fun σ H Q => te σ H fun v H1 => ∃ (n : Nat) (Pf : Nat → Value → Prop) (pb : Nat → Bool),
  (∀ (pins : List (Addr × Obj)) (s1 : Shared) (xv : Value), Inv X pins σ H1 s1 → RelV v xv → SrcOk X.prog X.w s1.heap P xv n Pf ∧ EltG X scope x elt P s1.heap Pf pb) ∧ TabG H1 P ∧ ∀ H2, Tabbed P H1 H2 → Q (.bl ((List.range n).all pb)) H2
theorem pe_allG {c P : Addr} {elt iter : Expr} {x : Str} {px p pos gpos : Pos} {scope : Scope} {te : TE} {k : Nat}
    (hr : Room k X.A) (hg : Gl X "all") (hm : X.mg "all" = none) (hb : bootBuiltins "all" = some (.builtin "all")) (TB : TabB X.base X.mg c P) (hcode : X.env.code = .ref c) (S : GenSc X.env.scope scope x) (hi : PE X iter te)
    (hs : ∀ v, genFold iter X.env v = pure v)
    (he : starEach [.GeneratorExp elt [⟨.Name x px, iter, [], 0⟩] scope gpos] X.env = (false, eval (.GeneratorExp elt [⟨.Name x px, iter, [], 0⟩] scope gpos) X.env) :: starEach [] X.env := by rfl) :
    PE X (.Call (.Name "all" p) [.GeneratorExp elt [⟨.Name x px, iter, [], 0⟩] scope gpos] [] pos) (tAllG X scope x elt P te) := by
  refine ⟨fun pins s σ H Q I h => ?_⟩
  have has : ∀ y ∈ scope.names, y.2 = .free → ∃ a, X.env.cells.lookup y.1 = some a := fun y hy e => I.ok.has _ (.inl (S.free y hy e))
  refine wpAny_Call_Name_kw (ld_blt I hg hm hb ?_)
  refine PyProof.Rows.callWith_builtin1 ?_ he (by rfl)
  rw [he]
  show wpAny _ _ (spliced (_ :: backTo pos (starEach [] X.env))) _ _ _
  refine Calls.spliced_cons ?_
  refine wpAny_GeneratorExp_walksQD hr.hd S.co (closure_ok has) S.cell S.dot S.loc S.kind (by have := hr.dp; omega) ?_ hs
  refine thn (hi.run pins s σ H _ I h) fun xv s1 hv => ?_
  obtain ⟨v, H1, J, rv, n, Pf, pb, sem, ⟨ps, hP, trip⟩, fin⟩ := hv
  obtain ⟨⟨fp, below, apart, begins⟩, test⟩ := sem pins s1 xv J rv
  refine begins _ _ s1 _ rfl fun o St W at0 => ⟨J.nolimit.push o, ?_⟩
  have tab1 : s1.heap.get? P = some { cls := .none, data := .fields ps } := J.hok P _ hP
  have tabLt : P < s1.heap.objs.size := Heap.lt_size tab1
  have tab2 := Heap.get?_push_of_some o tab1
  have big2 : (s1.heap.push o).objs.size = s1.heap.objs.size + 1 := Heap.size_push ..
  refine code_either hcode (TB.code.keeps fun b u e => Heap.get?_push_of_some _ (J.bk b u e)) tab2 trip fun code h3 tk more ext big tab3 trip3 => ?_
  -- what stood in s1 stands in h3, the table grown
  have stands : ∀ b u, b ≠ P → s1.heap.get? b = some u → h3.get? b = some u := fun b u ne e => ext b u ne (Heap.get?_push_of_some _ e)
  obtain ⟨statLt, statNe⟩ : cStatics < s1.heap.objs.size ∧ cStatics ≠ P := by
    obtain ⟨mc, ns, _⟩ := J.nolimit
    refine ⟨ns.lt, fun z => ?_⟩
    obtain ⟨o1, es, ep, ho, hd, _⟩ := ns
    rw [z, tab1] at ho
    cases ho
    cases hd
  obtain ⟨bm, ob, b1, b2, b3, b4, b5, b6, b7, b8⟩ := TB.bm
  have globs : h3.Ns X.env.globals X.mg := by
    rw [J.ok.glob]
    exact ((J.mod.glob.keeps J.bk).push o).extBut ext TB.gP
  refine wpAny_builtinsFor globs b1 b2 (stands _ _ b4 (J.bk _ _ b5)) b6 b7 b8 ?_
  have newLt : s1.heap.objs.size < h3.objs.size := by
    have big' : (s1.heap.push o).objs.size ≤ h3.objs.size := big
    omega
  refine ⟨s1.heap.objs.size, fp, [s1.heap.objs.size], n, Pf, St, (fun _ => true), (fun i y => y = .bool (pb i)), rfl, W, ?_, fun b hb => ?_, (J.nolimit.push o).extBut ext statNe, fun z => ?_, fun href up => ?_, ?_⟩
  · exact (W X.A hr.hd).frame _ _ _ at0 fun b hb u e => ext b u (fun z => apart (by rw [← z]; exact hb)) e
  · exact Nat.lt_of_le_of_lt (below b hb) newLt
  · exact Nat.ne_of_lt statLt (List.mem_singleton.mp z)
  · refine ⟨fun A' E' i v s₂ m₂ _ _ _ _ _ _ _ => ?_, fun A' E' i v s₂ m₂ h1 h2 h3' hv _ hn hx old => ?_⟩
    · rw [List.forIn_nil]
      exact wpAny_pure ⟨rfl, keeps_refl _⟩
    · refine test _ _ A' E' i v s₂ m₂ h1 h2 h3' hv (fun b u ne e => ?_) hn hx
      have lt := Heap.lt_size e
      refine old b (List.mem_range.mpr (Nat.lt_trans lt newLt)) (fun z => ?_) u (up _ _ (stands b u ne e))
      exact Nat.ne_of_lt lt (List.mem_singleton.mp z)
  · intro g h5 tk5 gs bare gBig gLast up5 WG atG
    rw [GxR.passing_true, List.length_range] at WG
    refine Calls.spliced_nil (call_all_walkS (WG.in4_1.self 0 _ _ _ atG ⟨g, _, _, _, n, _, _, pb, rfl, WG.in4_1, atG, fun j y sj Qj Ej item q => ?_, fun s' mv => ?_⟩))
    · obtain ⟨i, at_, rfl⟩ := item
      obtain ⟨_, ij⟩ := List.getElem?_eq_some_iff.mp at_
      rw [List.getElem_range] at ij
      rw [← ij]
      exact wpAny_truthy_bool q
    · -- behind the walk: the table has grown, all else stands
      have off : ∀ b u, s1.heap.get? b = some u → b ∉ h3.objs.size :: [s1.heap.objs.size] := fun b u e hb => by
        have lt := Heap.lt_size e
        rcases List.mem_cons.mp hb with z | z
        · exact Nat.lt_irrefl _ (Nat.lt_trans (by rw [← z]; exact lt) newLt)
        · exact Nat.ne_of_lt lt (List.mem_singleton.mp z)
      have K := inv_tab (more := more) (h' := s'.heap) (g' := s'.gens) (d' := s'.drawn) (t' := s'.toks) J hP (fun b u ne e => mv.heap b u (off b u e) (up5 b u (stands b u ne e)))
        (mv.heap P _ (off P _ tab1) (up5 P _ tab3)) (AllBare.movedS (J.bare.push bare) mv)
      rw [sh_eta s1 s' mv.os] at K
      exact ⟨.bl _, _, K, rfl, fin _ ⟨⟨ps ++ more, upd_same, trip3⟩, fun b ne => upd_ne ne⟩⟩
end
/-! ### captured names -/
theorem mem_of_lookup {α : Type} {n : Str} {c : α} : ∀ {l : List (Str × α)}, l.lookup n = some c → (n, c) ∈ l
  | (k, v) :: r, h => by
    rw [List.lookup_cons] at h
    by_cases e : n = k
    · have e' : (n == k) = true := by rw [e]; simp
      rw [e'] at h
      cases h
      rw [e]
      exact List.mem_cons_self
    · rw [beq_eq_false_iff_ne.mpr e] at h
      exact List.mem_cons_of_mem _ (mem_of_lookup h)
theorem cap_lookup {cells : List (Str × Addr)} {names : List (Str × NameKind)} {n : Str} {c : Addr} (hm : (n, NameKind.free) ∈ names) (hc : cells.lookup n = some c) : (cloFrom cells names []).lookup n = some c := by
  obtain ⟨d, hd⟩ := mem_lookup (cloFrom_has (acc := []) (cells := cells) hm)
  rcases cloFrom_mem (mem_of_lookup hd) with z | ⟨_, z⟩
  · cases z
  · rw [hd, z, hc]
    rfl
section
variable {X : Cx} {pins : List (Addr × Obj)} {σ : L2.St} {H : Hp} {s : Shared}
/-- the def's name y, captured, in slot i: what the block reads of it, wherever all that stood stands -/
theorem captured {scope : Scope} {y : Str} {i : Nat} {v : V} {P : Addr} {ps : Array Value} (I : Inv X pins σ H s) (hP : H P = some (.tbl ps)) (hc : X.env.scope.names.lookup y = some .cell) (hf : (y, NameKind.free) ∈ scope.names) (hN : X.N[i]? = some y) (hv : σ[i]? = some (some v)) :
    ∃ a u, (cloFrom X.env.cells scope.names []).lookup y = some a ∧ RelV v u ∧ ∀ h : Heap, (∀ b o, b ≠ P → s.heap.get? b = some o → h.get? b = some o) → h.IsCell a (some u) := by
  obtain ⟨m, _, hl⟩ := I.loc
  obtain ⟨u, ru, l⟩ := hl i y v hN hv (.inr (.inl hc))
  rcases l with ⟨k, _⟩ | ⟨_, a, ha, o, ho, hd⟩
  · have k' : X.env.scope.names.lookup y = some NameKind.local := k
    rw [hc] at k'
    cases k'
  · refine ⟨a, u, cap_lookup hf ha, ru, fun h up => ⟨o, up a o (fun z => ?_) ho, hd⟩⟩
    have t : s.heap.get? P = some { cls := .none, data := .fields ps } := I.hok P _ hP
    rw [z, t] at ho
    cases ho
    cases hd
/-- a text, sign by sign -/
theorem src_str {P : Addr} {ps : Array Value} {z : Str} {t : Tok} (I : Inv X pins σ H s) (hP : H P = some (.tbl ps)) : SrcOk X.prog X.w s.heap P (.str z t) z.cps.size (SignAt z) := by
  have tab : s.heap.get? P = some { cls := .none, data := .fields ps } := I.hok P _ hP
  refine ⟨[s.heap.objs.size], fun b hb => Nat.le_of_eq (List.mem_singleton.mp hb), fun hb => ?_, fun A E s2 Q e q => ?_⟩
  · exact Nat.ne_of_lt (Heap.lt_size tab) (List.mem_singleton.mp hb)
  · obtain ⟨h2, g2, d2, t2, o2⟩ := s2
    obtain rfl : h2 = s.heap := e
    exact wpAny_pyIter_str fun o St W at0 => q o St W at0
theorem walks_weaker {prog : Program} {w : World} {A : Around} {I : Addr} {fp wr : List Addr} {n : Nat} {Pf Pg : Nat → Value → Prop} {St : Nat → Heap → Prop} (W : Walks prog w A I fp wr n Pf St) (f : ∀ i v, Pf i v → Pg i v) : Walks prog w A I fp wr n Pg St :=
  ⟨W.sub, W.frame, fun i s Q E hi st q => W.item i s Q E hi st fun v h' tk y => q v h' tk (f i v y), W.done, W.self⟩
/-- a list -/
theorem src_lst {P l : Addr} {ps : Array Value} {xs : List V} (I : Inv X pins σ H s) (hP : H P = some (.tbl ps)) (hl : SqL X.K H l xs) : SrcOk X.prog X.w s.heap P (.ref l) xs.length (fun i v => ∃ x, xs[i]? = some x ∧ RelV x v) := by
  have tab : s.heap.get? P = some { cls := .none, data := .fields ps } := I.hok P _ hP
  obtain ⟨its, rv, pl, _⟩ := I.list hl
  have lst := pl.isList
  have len : its.toArray.size = xs.length := by rw [List.size_toArray, rv.length]
  have lt : l < s.heap.objs.size := by
    obtain ⟨_, e, _⟩ := _root_.id lst
    exact Heap.lt_size e
  refine ⟨[s.heap.objs.size, l], fun b hb => ?_, fun hb => ?_, fun A E s2 Q e q => ?_⟩
  rotate_left 2
  · obtain ⟨h2, g2, d2, t2, o2⟩ := s2
    obtain rfl : h2 = s.heap := e
    refine wpAny_pyIter_list lst (q _ (fun i h => h.IsListIter s.heap.objs.size l i ∧ h.IsList l its.toArray) (fun A' hA => ?_) ⟨⟨_, Heap.get?_push_size _ rfl, rfl, rfl⟩, lst.push _⟩)
    have W := Walks.list (prog := X.prog) (w := X.w) hA s.heap.objs.size l (Nat.ne_of_lt lt) its.toArray
    rw [len] at W
    refine walks_weaker W fun i v e => ?_
    have e' : its[i]? = some v := by simpa using e
    have hi : i < its.length := (List.getElem?_eq_some_iff.mp e').1
    have hi2 : i < xs.length := by rw [rv.length]; exact hi
    obtain ⟨u, hu, ru⟩ := rv.get (List.getElem?_eq_getElem hi2)
    rw [e'] at hu
    cases hu
    exact ⟨xs[i], List.getElem?_eq_getElem hi2, ru⟩
  · rcases List.mem_cons.mp hb with z | z
    · exact Nat.le_of_eq z
    · rw [List.mem_singleton.mp z]
      exact Nat.le_of_lt lt
  · rcases List.mem_cons.mp hb with z | z
    · exact Nat.ne_of_lt (Heap.lt_size tab) z
    · have z' := List.mem_singleton.mp z
      obtain ⟨o1, e1, _, _, d1⟩ := _root_.id lst
      rw [← z', tab] at e1
      cases e1
      cases d1
end
/-! ### «lo <= x <= hi», lo and hi captured texts -/
def between (lo hi : Str) (c : Nat) : Bool := !(decide ([c] < lo.cps.toList)) && !(decide (hi.cps.toList < [c]))
theorem elt_between {X : Cx} {pins : List (Addr × Obj)} {σ : L2.St} {H : Hp} {s : Shared} {scope : Scope} {x lo hi : Str} {z zl zh : Str} {P : Addr} {ps : Array Value} {i j : Nat} {p1 p2 p3 p4 : Pos} (I : Inv X pins σ H s) (hP : H P = some (.tbl ps))
    (hk : scope.kind = .function) (hl : scope.names.lookup x = some .local) (h1 : scope.names.lookup lo = some .free) (h2 : scope.names.lookup hi = some .free)
    (c1 : X.env.scope.names.lookup lo = some .cell) (c2 : X.env.scope.names.lookup hi = some .cell) (n1 : X.N[i]? = some lo) (n2 : X.N[j]? = some hi) (v1 : σ[i]? = some (some (.str zl))) (v2 : σ[j]? = some (some (.str zh)))
    (d0 : (x == ("__debug__" : Str)) = false := by decide) (d1 : (lo == ("__debug__" : Str)) = false := by decide) (d2 : (hi == ("__debug__" : Str)) = false := by decide) (e1 : (lo == ("__classdict__" : Str)) = false := by decide) (e2 : (hi == ("__classdict__" : Str)) = false := by decide) :
    EltG X scope x (.Compare (.Name lo p1) [.LtE, .LtE] [.Name x p2, .Name hi p3] p4) P s.heap (SignAt z) (fun k => between zl zh (z.cps.getD k 0)) := by
  obtain ⟨a, u, la, ru, ca⟩ := captured (scope := scope) I hP c1 (mem_of_lookup h1) n1 v1
  obtain ⟨b, v, lb, rv, cb⟩ := captured (scope := scope) I hP c2 (mem_of_lookup h2) n2 v2
  obtain ⟨ta, rfl⟩ := ru
  obtain ⟨tb, rfl⟩ := rv
  intro C code A' E' k item s₂ m₂ _ _ _ sign old ns hx
  obtain ⟨cc, tc, hcc, rfl⟩ := sign
  have gd : z.cps.getD k 0 = cc := by
    rw [Array.getD_eq_getD_getElem?, hcc]
    rfl
  refine Compare_chain ?_ (by with_unfolding_all rfl)
  refine wpAny_Name (wpAny_loadName_free hk (show scope.names.lookup lo = some .free from h1) la (ca _ old) ?_ e1) d1
  refine chain_link (wpAny_Name (wpAny_loadName_local hk (show scope.names.lookup x = some .local from hl) ns hx ?_) d0)
  refine PySem.P.le_str (wpAny_truthy_bool ?_)
  show (if (!decide (([cc] : List Nat) < zl.cps.toList)) = true then _ else _)
  by_cases q : ([cc] : List Nat) < zl.cps.toList
  · rw [decide_eq_true q]
    refine ite_ff ⟨?_, keeps_refl _⟩
    show _ = Value.bool (between zl zh (z.cps.getD k 0))
    rw [gd]
    unfold between
    rw [decide_eq_true q]
    rfl
  · rw [decide_eq_false q]
    refine ite_tt (chain_last ?_)
    refine wpAny_Name (wpAny_loadName_free hk (show scope.names.lookup hi = some .free from h2) lb (cb _ old) ?_ e2) d2
    refine PySem.P.le_str ⟨?_, keeps_refl _⟩
    show _ = Value.bool (between zl zh (z.cps.getD k 0))
    rw [gd]
    unfold between
    rw [decide_eq_false q]
    rfl
theorem range_all (z : Array Nat) (p : Nat → Bool) : (List.range z.size).all (fun k => p (z.getD k 0)) = z.toList.all p := by
  rw [Bool.eq_iff_iff, List.all_eq_true, List.all_eq_true]
  constructor
  · intro h b hb
    obtain ⟨j, hj, e⟩ := List.getElem_of_mem hb
    have hj' : j < z.size := by simpa using hj
    have q := h j (List.mem_range.mpr hj')
    rw [Array.getD_eq_getD_getElem?, Array.getElem?_eq_getElem hj'] at q
    rw [← e]
    simpa using q
  · intro h j hj
    have hj' := List.mem_range.mp hj
    rw [Array.getD_eq_getD_getElem?, Array.getElem?_eq_getElem hj']
    exact h _ (by simp)
end Gc

set_option Elab.async false
set_option linter.all false
set_option maxRecDepth 100000
set_option maxHeartbeats 4000000
namespace Ld
open PySem PySem.Spec PyProof.Rows L2
/-! ### the draws: mathematics -/
def dstep (p : Int × List Int) : Int × List Int := if p.1 > 0 then (p.1 / 65536, p.2 ++ [p.1 % 65536]) else p
def diter : Nat → Int × List Int → Int × List Int
  | 0, p => p
  | n + 1, p => dstep (diter n p)
def dabs (x : Int) : Int := if x < 0 then -x else x
def dmix1 (k r : Int) : Int := (r * 48271 + (k + 1) * 69621) % 2147483647
def dmix2 (k r : Int) : Int := (dmix1 k r * 16807 + 11 * k + 5) % 2147483629
def dcell (k x : Int) (ds : List Int) : List Int :=
  if (10 : Int) ^ (18 : Int).toNat ≤ dabs x then (diter 60 (dabs x, ds)).2
  else ds ++ [dmix2 k (dabs x) % 65536] ++ [dmix2 k (dabs x) / 65536 % 32768]
def drawsN (ns : List Int) : Nat → List Int
  | 0 => []
  | i + 1 => dcell (i : Nat) (ns.getD i 0) (drawsN ns i)
def drawsOf (ns : List Int) : List Int := drawsN ns ns.length
def DOk (ds : List Int) : Prop := ∀ x ∈ ds, 0 ≤ x ∧ x < 65536
theorem DOk.app {ds : List Int} {x : Int} (h : DOk ds) (h0 : 0 ≤ x) (h1 : x < 65536) : DOk (ds ++ [x]) := fun y hy => by
  rcases List.mem_append.mp hy with z | z
  · exact h y z
  · rw [List.mem_singleton.mp z]
    exact ⟨h0, h1⟩
theorem dstep_ok {p : Int × List Int} (h : DOk p.2) : DOk (dstep p).2 := by
  unfold dstep
  split
  · exact h.app (Int.emod_nonneg _ (by decide)) (Int.emod_lt_of_pos _ (by decide))
  · exact h
theorem dstep_len (p : Int × List Int) : (dstep p).2.length ≤ p.2.length + 1 := by
  unfold dstep
  split
  · show (p.2 ++ [p.1 % 65536]).length ≤ _
    rw [List.length_append, List.length_singleton]
    exact Nat.le_refl _
  · omega
theorem diter_ok {p : Int × List Int} (h : DOk p.2) : ∀ n, DOk (diter n p).2
  | 0 => h
  | n + 1 => dstep_ok (diter_ok h n)
theorem diter_len (p : Int × List Int) : ∀ n, (diter n p).2.length ≤ p.2.length + n
  | 0 => Nat.le_refl _
  | n + 1 => by
    have := dstep_len (diter n p)
    have := diter_len p n
    show (dstep (diter n p)).2.length ≤ _
    omega
theorem dcell_ok {k x : Int} {ds : List Int} (h : DOk ds) : DOk (dcell k x ds) := by
  unfold dcell
  split
  · exact diter_ok (p := (dabs x, ds)) h 60
  · have h1 : DOk (ds ++ [dmix2 k (dabs x) % 65536]) := h.app (Int.emod_nonneg _ (by decide)) (Int.emod_lt_of_pos _ (by decide))
    refine h1.app (Int.emod_nonneg _ (by decide)) ?_
    have : dmix2 k (dabs x) / 65536 % 32768 < 32768 := Int.emod_lt_of_pos _ (by decide)
    omega
theorem dcell_len (k x : Int) (ds : List Int) : (dcell k x ds).length ≤ ds.length + 60 := by
  unfold dcell
  split
  · exact diter_len (dabs x, ds) 60
  · simp only [List.length_append, List.length_singleton]
    omega
theorem drawsN_ok (ns : List Int) : ∀ n, DOk (drawsN ns n)
  | 0 => fun _ h => nomatch h
  | n + 1 => dcell_ok (drawsN_ok ns n)
theorem drawsN_len (ns : List Int) : ∀ n, (drawsN ns n).length ≤ 60 * n
  | 0 => Nat.le_refl _
  | n + 1 => by
    have := dcell_len (n : Nat) (ns.getD n 0) (drawsN ns n)
    have := drawsN_len ns n
    show (dcell _ _ _).length ≤ _
    omega
theorem drawsOf_len {ns : List Int} (h : ns.length ≤ 63) : (drawsOf ns).length ≤ 3780 := by
  have := drawsN_len ns ns.length
  unfold drawsOf
  omega
/-- a draw below many -/
def atD (ds : List Int) (k many : Int) : Int := if k < (ds.length : Int) then ds.getD k.toNat 0 % many else 0
theorem atD_lo (ds : List Int) (k : Int) {many : Int} (h : 0 < many) : 0 ≤ atD ds k many := by
  unfold atD
  split
  · exact Int.emod_nonneg _ (by omega)
  · exact Int.le_refl _
theorem atD_hi (ds : List Int) (k : Int) {many : Int} (h : 0 < many) : atD ds k many < many := by
  unfold atD
  split
  · exact Int.emod_lt_of_pos _ h
  · exact h
theorem getI {ns : List Int} {i : Nat} (h : i < ns.length) : (ns.map V.int)[i]? = some (V.int (ns.getD i 0)) := by
  rw [List.getElem?_map, List.getElem?_eq_getElem h, List.getD_eq_getElem?_getD, List.getElem?_eq_getElem h]
  rfl
theorem same_upd {H : Hp} {p : Addr} {o : HO} (h : H p = none) : Same H (upd H p o) := fun b x e => by
  rw [upd_ne (ne_of_none e h)]
  exact e
theorem small4000 {n : Nat} (h : n ≤ 4000) : n < sizeLine := Nat.lt_of_le_of_lt h (by decide)
end Ld

set_option Elab.async false
set_option linter.all false
set_option maxRecDepth 100000
set_option maxHeartbeats 4000000
/-! Reading a line, two ways: over codes alone. -/
namespace Ld
open PySem PySem.Spec PyProof.Rows L2 TL
/-! ### words (as in the law of words) -/
def wordB (z lo hi : Str) : Bool := decide (1 ≤ (z.length : Int)) && (decide ((z.length : Int) ≤ 12) && z.cps.toList.all (Gc.between lo hi))
def kindB (z : Str) : Bool := wordB z "A" "Z" && !decide (z = "OTHER")
def nameB (z : Str) : Bool := wordB z "a" "z"
def symB (z : Str) : Bool := kindB z || nameB z
theorem lt_one (a b : Nat) : (([a] : List Nat) < [b]) ↔ a < b := by
  simp [List.cons_lt_cons_iff]
theorem name_codes {z : Str} (h : nameB z = true) : ∀ c ∈ tl z, 97 ≤ c ∧ c ≤ 122 := by
  intro c hc
  unfold nameB wordB at h
  rw [Bool.and_eq_true, Bool.and_eq_true] at h
  have q := List.all_eq_true.mp h.2.2 c hc
  unfold Gc.between at q
  rw [show ("a" : Str).cps.toList = [97] from by decide +kernel, show ("z" : Str).cps.toList = [122] from by decide +kernel] at q
  simp only [Bool.and_eq_true, Bool.not_eq_true', decide_eq_false_iff_not, lt_one] at q
  omega
theorem name_no {z : Str} (h : nameB z = true) {c : Nat} (hc : c < 97) : c ∉ tl z := fun m => by
  have := name_codes h c m
  omega
abbrev Rule := Str × List Str
/-- the text's parts at a space, at a newline -/
theorem colon_tl : tl (":" : Str) = [58] := by decide +kernel
theorem space_tl : tl (" " : Str) = [32] := by decide +kernel
theorem nl_tl : tl ("\n" : Str) = [10] := by decide +kernel
theorem kind_space (x : Str) : ¬ Builtin.Str.strKind x < Builtin.Str.strKind (" " : Str) := kind_ok (by decide +kernel)
theorem kind_nl (x : Str) : ¬ Builtin.Str.strKind x < Builtin.Str.strKind ("\n" : Str) := kind_ok (by decide +kernel)
def spS (x : Str) : List Str := Txt.split x " "
theorem spS_tl (x : Str) : (spS x).map tl = spl [32] 0 [] (tl x) := by
  have h := split_spl x " " (by rw [space_tl]; simp) (kind_space x)
  rw [space_tl] at h
  exact h
theorem cut_first (s : Nat) : ∀ L : List Nat, s ∉ L ∨ ∃ p r, L = p ++ s :: r ∧ s ∉ p
  | [] => .inl (by simp)
  | c :: L => by
    by_cases e : c = s
    · exact .inr ⟨[], L, by rw [e]; rfl, by simp⟩
    · rcases cut_first s L with h | ⟨p, r, h1, h2⟩
      · exact .inl fun m => (List.mem_cons.mp m).elim (fun z => e z.symm) h
      · exact .inr ⟨c :: p, r, by rw [h1]; rfl, fun m => (List.mem_cons.mp m).elim (fun z => e z.symm) h2⟩
theorem spl_no {s : Nat} {p : List Nat} (h : s ∉ p) : spl [s] 0 [] p = [p] := by
  have := spl_last1 (S := []) (acc := []) h
  rw [this]
  rfl
theorem spl_at1 {s : Nat} {p r : List Nat} (h : s ∉ p) : spl [s] 0 [] (p ++ s :: r) = p :: spl [s] 0 [] r := by
  have := spl_part1 (S := []) (acc := []) (rest := r) h
  exact this
/-- split never gives the empty list; its head -/
theorem spl_ne (s : Nat) (L : List Nat) : ∃ p r, spl [s] 0 [] L = p :: r ∧ s ∉ p ∧ ∀ c ∈ p, c ∈ L := by
  rcases cut_first s L with h | ⟨p, r, rfl, h⟩
  · exact ⟨L, [], spl_no h, h, fun _ z => z⟩
  · exact ⟨p, _, spl_at1 h, h, fun c z => List.mem_append_left _ z⟩
/-! ### the program's way -/
def ruleOf (l : Str) : Option Rule :=
  if nameB (Txt.partition l ":").1 = true ∧ (Txt.partition l ":").2.1 ≠ Str.empty ∧ (spS (Txt.partition l ":").2.2).head? = some Str.empty ∧ (spS (Txt.partition l ":").2.2).tail.length ≤ 6 ∧ (spS (Txt.partition l ":").2.2).tail.all symB = true
  then some ((Txt.partition l ":").1, (spS (Txt.partition l ":").2.2).tail) else none
/-- the law's way; b0: the first word without its last sign -/
def endsColon (w : Str) : Prop := ∃ b : List Nat, tl w = b ++ [58]
def lawLine (l : Str) (w0 : Str) (ws : List Str) : Option Rule → Prop := fun o =>
  (o = none ∧ ¬ ∃ n : Str, tl w0 = tl n ++ [58] ∧ nameB n = true ∧ ws.length ≤ 6 ∧ ws.all symB = true) ∨
  ∃ n : Str, o = some (n, ws) ∧ tl w0 = tl n ++ [58] ∧ nameB n = true ∧ ws.length ≤ 6 ∧ ws.all symB = true
theorem str_of (l : List Nat) : ∃ z : Str, tl z = l := ⟨⟨l.toArray⟩, rfl⟩
theorem tl_inj {x y : Str} (h : tl x = tl y) : x = y := ext_tl h
theorem line_eq (l : Str) : ∃ w0 ws, spS l = w0 :: ws ∧ lawLine l w0 ws (ruleOf l) := by
  have hs := spS_tl l
  rcases cut_first 58 (tl l) with h | ⟨A, R, hL, hA⟩
  · -- no colon
    obtain ⟨p, r, e, _, sub⟩ := spl_ne 32 (tl l)
    rw [e] at hs
    cases hsl : spS l with
    | nil => rw [hsl] at hs; cases hs
    | cons w0 ws =>
      rw [hsl, List.map_cons] at hs
      injection hs with h1 h2
      refine ⟨w0, ws, rfl, .inl ⟨?_, ?_⟩⟩
      · unfold ruleOf
        rw [partition_none colon_tl h]
        rw [if_neg (fun z => z.2.1 rfl)]
      · rintro ⟨n, hn, _⟩
        refine h (sub 58 ?_)
        rw [← h1, hn]
        exact List.mem_append_right _ (List.mem_singleton.mpr rfl)
  · obtain ⟨a, ha⟩ := str_of A
    obtain ⟨r, hr⟩ := str_of R
    have el : l = a ++ (":" : Str) ++ r := tl_inj (by rw [tl_append, tl_append, ha, hr, colon_tl, hL]; simp)
    have ep : Txt.partition l ":" = (a, (":" : Str), r) := by
      rw [el]
      exact partition_app colon_tl (by rw [ha]; exact hA)
    have rr := spS_tl r
    rw [hr] at rr
    by_cases h32 : 32 ∈ A
    · -- a space ahead of the colon: no name
      obtain ⟨p, q, hp, np⟩ : ∃ p q, A = p ++ 32 :: q ∧ 32 ∉ p := by
        rcases cut_first 32 A with z | z
        · exact absurd h32 z
        · exact z
      rw [hL, hp, List.append_assoc, List.cons_append, spl_at1 np] at hs
      cases hsl : spS l with
      | nil => rw [hsl] at hs; cases hs
      | cons w0 ws =>
        rw [hsl, List.map_cons] at hs
        injection hs with h1 h2
        refine ⟨w0, ws, rfl, .inl ⟨?_, ?_⟩⟩
        · unfold ruleOf
          rw [ep, if_neg]
          intro z
          exact name_no z.1 (by decide : 32 < 97) (by rw [ha]; exact h32)
        · rintro ⟨n, hn, _⟩
          refine hA ?_
          rw [hp]
          refine List.mem_append_left _ ?_
          rw [← h1, hn]
          exact List.mem_append_right _ (List.mem_singleton.mpr rfl)
    · have h32' : 32 ∉ A ++ [58] := fun z => (List.mem_append.mp z).elim h32 fun z => by simp at z
      cases R with
      | nil =>
        rw [hL, spl_no h32'] at hs
        rw [spl_no (by simp)] at rr
        cases hsl : spS l with
        | nil => rw [hsl] at hs; cases hs
        | cons w0 ws =>
          rw [hsl, List.map_cons] at hs
          injection hs with h1 h2
          have ews : ws = [] := List.map_eq_nil_iff.mp h2
          subst ews
          cases hsr : spS r with
          | nil => rw [hsr] at rr; cases rr
          | cons v0 vs =>
            rw [hsr, List.map_cons] at rr
            injection rr with g1 g2
            have evs : vs = [] := List.map_eq_nil_iff.mp g2
            subst evs
            have ev0 : v0 = Str.empty := tl_inj g1
            refine ⟨w0, [], rfl, ?_⟩
            by_cases hn : nameB a = true
            · refine .inr ⟨a, ?_, by rw [h1, ha], hn, by decide, rfl⟩
              unfold ruleOf
              rw [ep]
              simp only [hsr]
              rw [if_pos ⟨hn, by decide +kernel, by rw [ev0]; rfl, Nat.zero_le _, rfl⟩]
              rfl
            · refine .inl ⟨?_, ?_⟩
              · unfold ruleOf
                rw [ep, if_neg fun z => hn z.1]
              · rintro ⟨n, hn2, hn3, _⟩
                have : n = a := tl_inj (by
                  rw [h1] at hn2
                  rw [ha]
                  exact (List.append_cancel_right hn2).symm)
                rw [this] at hn3
                exact hn hn3
      | cons c R' =>
        by_cases hc : c = 32
        · subst hc
          have e2 : tl l = (A ++ [58]) ++ 32 :: R' := by rw [hL]; simp
          rw [e2, spl_at1 h32'] at hs
          have e3 : spl [32] 0 [] (32 :: R') = [] :: spl [32] 0 [] R' := spl_at1 (p := []) (by simp)
          rw [e3] at rr
          cases hsl : spS l with
          | nil => rw [hsl] at hs; cases hs
          | cons w0 ws =>
            rw [hsl, List.map_cons] at hs
            injection hs with h1 h2
            cases hsr : spS r with
            | nil => rw [hsr] at rr; cases rr
            | cons v0 vs =>
              rw [hsr, List.map_cons] at rr
              injection rr with g1 g2
              have evs : vs = ws := map_tl_inj (g2.trans h2.symm)
              subst evs
              have ev0 : v0 = Str.empty := tl_inj g1
              refine ⟨w0, vs, rfl, ?_⟩
              by_cases hn : nameB a = true ∧ vs.length ≤ 6 ∧ vs.all symB = true
              · refine .inr ⟨a, ?_, by rw [h1, ha], hn⟩
                unfold ruleOf
                rw [ep]
                simp only [hsr]
                rw [if_pos ⟨hn.1, by decide +kernel, by rw [ev0]; rfl, hn.2.1, hn.2.2⟩]
                rfl
              · refine .inl ⟨?_, ?_⟩
                · unfold ruleOf
                  rw [ep]
                  simp only [hsr]
                  rw [if_neg fun z => hn ⟨z.1, z.2.2.2.1, z.2.2.2.2⟩]
                · rintro ⟨n, hn2, hn3, hn4⟩
                  have : n = a := tl_inj (by
                    rw [h1] at hn2
                    rw [ha]
                    exact (List.append_cancel_right hn2).symm)
                  rw [this] at hn3
                  exact hn ⟨hn3, hn4⟩
        · -- a sign right behind the colon
          have e2 : tl l = (A ++ [58]) ++ c :: R' := by rw [hL]; simp
          have first : ∀ (pp : List Nat), 32 ∉ pp → ∃ q t, spl [32] 0 [] (pp ++ c :: R') = (pp ++ c :: q) :: t := by
            intro pp hpp
            rcases cut_first 32 (c :: R') with z | ⟨p, q, hp, np⟩
            · refine ⟨R', [], spl_no fun m => ?_⟩
              rcases List.mem_append.mp m with m | m
              · exact hpp m
              · exact z m
            · cases p with
              | nil =>
                injection hp with x1 x2
                exact absurd x1 hc
              | cons d p' =>
                injection hp with x1 x2
                subst x1
                refine ⟨p', spl [32] 0 [] q, ?_⟩
                rw [x2]
                have n2 : 32 ∉ pp ++ c :: p' := fun m => (List.mem_append.mp m).elim hpp np
                have := spl_at1 (r := q) n2
                rw [List.append_assoc] at this
                exact this
          obtain ⟨q1, t1, f1⟩ := first (A ++ [58]) h32'
          obtain ⟨q2, t2, f2⟩ := first [] (by simp)
          rw [e2, f1] at hs
          rw [List.nil_append] at f2
          rw [f2, List.nil_append] at rr
          cases hsl : spS l with
          | nil => rw [hsl] at hs; cases hs
          | cons w0 ws =>
            rw [hsl, List.map_cons] at hs
            injection hs with h1 h2
            cases hsr : spS r with
            | nil => rw [hsr] at rr; cases rr
            | cons v0 vs =>
              rw [hsr, List.map_cons] at rr
              injection rr with g1 g2
              refine ⟨w0, ws, rfl, .inl ⟨?_, ?_⟩⟩
              · unfold ruleOf
                rw [ep]
                simp only [hsr]
                rw [if_neg]
                intro z
                have z3 := z.2.2.1
                rw [List.head?_cons] at z3
                have z4 : v0 = Str.empty := Option.some.inj z3
                rw [z4] at g1
                cases g1
              · rintro ⟨n, hn2, hn3, _⟩
                rw [h1] at hn2
                -- the name would hold the colon
                refine name_no hn3 (by decide : 58 < 97) ?_
                have e4 : tl n = (A ++ [58] ++ c :: q1).dropLast := by
                  rw [hn2, List.dropLast_concat]
                rw [e4, List.dropLast_append_of_ne_nil (by simp)]
                exact List.mem_append_left _ (List.mem_append_right _ (List.mem_singleton.mpr rfl))
end Ld

set_option Elab.async false
set_option linter.all false
set_option maxRecDepth 100000
set_option maxHeartbeats 4000000
/-! Grammars as texts, read and written: over codes alone; and as data that is compared. -/
namespace Ld
open PySem PySem.Spec PyProof.Rows L2 TL
/-! ### a word's signs, two ways -/
def bigL : Str := "ABCDEFGHIJKLMNOPQRSTUVWXYZ"
def lowL : Str := "abcdefghijklmnopqrstuvwxyz"
theorem bigL_codes : bigL.cps.toList = [65, 66, 67, 68, 69, 70, 71, 72, 73, 74, 75, 76, 77, 78, 79, 80, 81, 82, 83, 84, 85, 86, 87, 88, 89, 90] := by decide +kernel
theorem lowL_codes : lowL.cps.toList = [97, 98, 99, 100, 101, 102, 103, 104, 105, 106, 107, 108, 109, 110, 111, 112, 113, 114, 115, 116, 117, 118, 119, 120, 121, 122] := by decide +kernel
theorem between_big (c : Nat) : Gc.between "A" "Z" c = decide (c ∈ bigL.cps.toList) := by
  unfold Gc.between
  rw [show ("A" : Str).cps.toList = [65] from by decide +kernel, show ("Z" : Str).cps.toList = [90] from by decide +kernel, bigL_codes]
  rw [Bool.eq_iff_iff]
  simp only [Bool.and_eq_true, Bool.not_eq_true', decide_eq_false_iff_not, decide_eq_true_eq, lt_one, List.mem_cons, List.not_mem_nil, or_false]
  omega
theorem between_low (c : Nat) : Gc.between "a" "z" c = decide (c ∈ lowL.cps.toList) := by
  unfold Gc.between
  rw [show ("a" : Str).cps.toList = [97] from by decide +kernel, show ("z" : Str).cps.toList = [122] from by decide +kernel, lowL_codes]
  rw [Bool.eq_iff_iff]
  simp only [Bool.and_eq_true, Bool.not_eq_true', decide_eq_false_iff_not, decide_eq_true_eq, lt_one, List.mem_cons, List.not_mem_nil, or_false]
  omega
def outs (z l : List Nat) : List Nat := z.filter fun c => !decide (c ∈ l)
theorem outs_more {z l : List Nat} {i c : Nat} (h : z[i]? = some c) : outs (z.take (i + 1)) l = outs (z.take i) l ++ (if c ∈ l then [] else [c]) := by
  unfold outs
  rw [List.take_add_one, h, List.filter_append]
  congr 1
  by_cases e : c ∈ l
  · simp [e]
  · simp [e]
theorem outs_len (z l : List Nat) : (outs z l).length ≤ z.length := List.length_filter_le _ _
theorem all_outs (l m : List Nat) (p : Nat → Bool) (hp : ∀ c, p c = decide (c ∈ m)) : l.all p = decide (outs l m = []) := by
  rw [Bool.eq_iff_iff, List.all_eq_true, decide_eq_true_eq]
  unfold outs
  rw [List.filter_eq_nil_iff]
  constructor
  · intro h c hc
    have h2 := h c hc
    rw [hp] at h2
    rw [h2]
    simp
  · intro h c hc
    have h2 := h c hc
    rw [hp]
    simpa using h2
def sizeB (z : Str) : Bool := decide (1 ≤ (z.length : Int)) && decide ((z.length : Int) ≤ 12)
theorem word_big (z : Str) : wordB z "A" "Z" = (sizeB z && decide (outs (tl z) (tl bigL) = [])) := by
  unfold wordB sizeB
  rw [all_outs _ bigL.cps.toList _ between_big, Bool.and_assoc]
theorem word_low (z : Str) : wordB z "a" "z" = (sizeB z && decide (outs (tl z) (tl lowL) = [])) := by
  unfold wordB sizeB
  rw [all_outs _ lowL.cps.toList _ between_low, Bool.and_assoc]
/-! ### lines and texts -/
def lineT (r : Rule) : List Nat := tl r.1 ++ 58 :: r.2.flatMap (fun s => 32 :: tl s)
def writeT (G : List Rule) : List Nat := G.flatMap (fun r => lineT r ++ [10])
def lineS (r : Rule) : Str := r.1 ++ (":" : Str) ++ Txt.join "" (r.2.map (fun s => (" " : Str) ++ s)) ++ ("\n" : Str)
def writeS (G : List Rule) : Str := Txt.join "" (G.map lineS)
theorem nil_tl : tl ("" : Str) = [] := by decide +kernel
theorem joinL_nil : ∀ l : List (List Nat), joinL [] l = l.flatten
  | [] => rfl
  | [p] => by simp [joinL]
  | p :: q :: r => by
    show p ++ ([] ++ joinL [] (q :: r)) = _
    rw [joinL_nil (q :: r)]
    simp
theorem join0_tl (parts : List Str) : tl (Txt.join "" parts) = parts.flatMap tl := by
  rw [join_eq, tl_join, nil_tl, joinL_nil, List.flatMap_def]
theorem lineS_tl (r : Rule) : tl (lineS r) = lineT r ++ [10] := by
  unfold lineS lineT
  rw [tl_append, tl_append, tl_append, join0_tl, colon_tl, nl_tl, List.flatMap_map]
  have : (fun s : Str => tl ((" " : Str) ++ s)) = fun s => 32 :: tl s := by
    funext s
    rw [tl_append, space_tl]
    rfl
  rw [this]
  simp
theorem writeS_tl (G : List Rule) : tl (writeS G) = writeT G := by
  unfold writeS writeT
  rw [join0_tl, List.flatMap_map]
  congr 1
  funext r
  exact lineS_tl r
theorem joinL_space : ∀ (l : List (List Nat)) (p : List Nat), joinL [32] (p :: l) = p ++ l.flatMap (fun s => 32 :: s)
  | [], p => by simp [joinL]
  | q :: r, p => by
    show p ++ ([32] ++ joinL [32] (q :: r)) = _
    rw [joinL_space r q]
    simp
theorem law_line (r : Rule) : Txt.join " " ((r.1 ++ (":" : Str)) :: r.2) ++ ("\n" : Str) = lineS r := by
  refine tl_inj ?_
  rw [tl_append, join_eq, tl_join, List.map_cons, space_tl, joinL_space, lineS_tl, tl_append, colon_tl, nl_tl, List.flatMap_map]
  unfold lineT
  simp
theorem writeS_nil : writeS [] = ("" : Str) := by decide +kernel
theorem writeS_snoc (G : List Rule) (r : Rule) : writeS (G ++ [r]) = writeS G ++ Txt.join " " ((r.1 ++ (":" : Str)) :: r.2) ++ ("\n" : Str) := by
  refine tl_inj ?_
  have e := law_line r
  have e2 := congrArg tl e
  rw [tl_append, lineS_tl] at e2
  rw [writeS_tl, tl_append, tl_append, writeS_tl, List.append_assoc, e2]
  unfold writeT
  simp
/-! ### the reading -/
def GoodR (r : Rule) : Prop := nameB r.1 = true ∧ r.2.length ≤ 6 ∧ r.2.all symB = true
theorem kind_codes {z : Str} (h : kindB z = true) : ∀ c ∈ tl z, 65 ≤ c ∧ c ≤ 90 := by
  intro c hc
  unfold kindB wordB at h
  rw [Bool.and_eq_true, Bool.and_eq_true, Bool.and_eq_true] at h
  have q := List.all_eq_true.mp h.1.2.2 c hc
  unfold Gc.between at q
  rw [show ("A" : Str).cps.toList = [65] from by decide +kernel, show ("Z" : Str).cps.toList = [90] from by decide +kernel] at q
  simp only [Bool.and_eq_true, Bool.not_eq_true', decide_eq_false_iff_not, lt_one] at q
  omega
theorem sym_codes {z : Str} (h : symB z = true) : ∀ c ∈ tl z, 65 ≤ c ∧ c ≤ 122 := by
  intro c hc
  unfold symB at h
  rw [Bool.or_eq_true] at h
  rcases h with h | h
  · have := kind_codes h c hc
    omega
  · have := name_codes h c hc
    omega
theorem spl_syms : ∀ (ss : List (List Nat)), (∀ p ∈ ss, 32 ∉ p) → spl [32] 0 [] (ss.flatMap fun s => 32 :: s) = [] :: ss
  | [], _ => spl_no (p := []) (fun m => nomatch m)
  | q :: r, h => by
    have e : ((q :: r).flatMap fun s => 32 :: s) = [] ++ 32 :: joinL [32] (q :: r) := by
      rw [joinL_space]
      simp
    rw [e, spl_at1 (by simp), spl_join (by simp) h]
theorem rule_back {l : Str} {r : Rule} (h : tl l = lineT r) (g : GoodR r) : ruleOf l = some r := by
  obtain ⟨rest, hr⟩ := str_of (r.2.flatMap fun s => 32 :: tl s)
  have el : l = r.1 ++ (":" : Str) ++ rest := tl_inj (by rw [h, tl_append, tl_append, hr, colon_tl]; unfold lineT; simp)
  have ep : Txt.partition l ":" = (r.1, (":" : Str), rest) := by
    rw [el]
    exact partition_app colon_tl (name_no g.1 (by decide))
  have es : spS rest = Str.empty :: r.2 := by
    refine map_tl_inj ?_
    rw [spS_tl, hr, List.map_cons]
    have := spl_syms (r.2.map tl) fun p hp => by
      obtain ⟨s, hs, rfl⟩ := List.mem_map.mp hp
      intro z
      have := sym_codes (List.all_eq_true.mp g.2.2 s hs) 32 z
      omega
    rw [List.flatMap_map] at this
    rw [this]
    rfl
  unfold ruleOf
  rw [ep]
  simp only [es]
  rw [if_pos ⟨g.1, by decide +kernel, rfl, g.2.1, g.2.2⟩]
  rfl
theorem rule_good {l : Str} {r : Rule} (h : ruleOf l = some r) : GoodR r := by
  unfold ruleOf at h
  split at h
  · rename_i c
    obtain rfl := Option.some.inj h
    exact ⟨c.1, c.2.2.2.1, c.2.2.2.2⟩
  · cases h
inductive Rd
  | line (k : Nat)
  | taken (k : Nat)
  | large (k : Nat)
  | good (G : List Rule)
def rdGo : Nat → List Rule → List Str → Rd
  | _, G, [] => .good G
  | k, G, l :: ls => match ruleOf l with
    | none => .line k
    | some r => if r ∈ G then .taken k else if 24 ≤ k then .large k else rdGo (k + 1) (G ++ [r]) ls
def rdEnd (n : Nat) (u : Str) : Rd → Rd
  | .good G => if u ≠ "" ∨ n = 0 then .line n else .good G
  | x => x
/-- what reading a text gives: of its parts at newlines, the last one apart -/
def rd (ls : List Str) : Rd := rdEnd ls.dropLast.length (ls.getLast?.getD "") (rdGo 0 [] ls.dropLast)
def linesOf (x : Str) : List Str := Txt.split x "\n"
theorem linesOf_tl (x : Str) : (linesOf x).map tl = spl [10] 0 [] (tl x) := by
  have h := split_spl x "\n" (by rw [nl_tl]; simp) (kind_nl x)
  rw [nl_tl] at h
  exact h
theorem linesOf_ne (x : Str) : linesOf x ≠ [] := fun e => by
  have h := linesOf_tl x
  obtain ⟨p, r, q, _⟩ := spl_ne 10 (tl x)
  rw [e, q] at h
  cases h
theorem spl_lines : ∀ G : List Rule, (∀ r ∈ G, 10 ∉ lineT r) → spl [10] 0 [] (writeT G) = G.map lineT ++ [[]]
  | [], _ => spl_no (p := []) (fun m => nomatch m)
  | r :: G, h => by
    have e : writeT (r :: G) = lineT r ++ 10 :: writeT G := by
      unfold writeT
      simp
    rw [e, spl_at1 (h r List.mem_cons_self), spl_lines G fun q hq => h q (List.mem_cons_of_mem _ hq)]
    rfl
theorem line_no10 {r : Rule} (g : GoodR r) : 10 ∉ lineT r := by
  intro m
  unfold lineT at m
  rcases List.mem_append.mp m with m | m
  · exact name_no g.1 (by decide) m
  · rcases List.mem_cons.mp m with m | m
    · cases m
    · obtain ⟨s, hs, q⟩ := List.mem_flatMap.mp m
      rcases List.mem_cons.mp q with q | q
      · cases q
      · have := sym_codes (List.all_eq_true.mp g.2.2 s hs) 10 q
        omega
def lineO (r : Rule) : Str := ⟨(lineT r).toArray⟩
theorem lines_back {x : Str} {G : List Rule} (h : tl x = writeT G) (g : ∀ r ∈ G, GoodR r) : linesOf x = G.map lineO ++ [("" : Str)] := by
  refine map_tl_inj ?_
  rw [linesOf_tl, h, spl_lines G fun r hr => line_no10 (g r hr), List.map_append, List.map_map]
  rfl
theorem rdGo_back : ∀ (G A : List Rule), (∀ r ∈ G, GoodR r) → (A ++ G).Nodup → A.length + G.length ≤ 24 → rdGo A.length A (G.map lineO) = .good (A ++ G)
  | [], A, _, _, _ => by
    rw [List.append_nil]
    rfl
  | r :: G, A, g, nd, h => by
    rw [List.map_cons]
    unfold rdGo
    rw [rule_back (l := lineO r) (r := r) rfl (g r List.mem_cons_self)]
    have h2 : r ∉ A := fun m => by
      rw [List.nodup_append] at nd
      exact nd.2.2 r m r List.mem_cons_self rfl
    have h3 : A.length + G.length + 1 ≤ 24 := by
      rw [List.length_cons] at h
      omega
    simp only
    rw [if_neg h2, if_neg (by omega)]
    have e : A ++ r :: G = (A ++ [r]) ++ G := by simp
    have l : A.length + 1 = (A ++ [r]).length := by simp
    rw [e, l]
    refine rdGo_back G (A ++ [r]) (fun q hq => g q (List.mem_cons_of_mem _ hq)) (by rw [← e]; exact nd) ?_
    rw [← l]
    omega
/-- THE READ-BACK -/
theorem rd_back {G : List Rule} (g : ∀ r ∈ G, GoodR r) (nd : G.Nodup) (n0 : G ≠ []) (h : G.length ≤ 24) : rd (linesOf (writeS G)) = .good G := by
  rw [lines_back (writeS_tl G) g]
  unfold rd
  rw [List.dropLast_concat, List.getLast?_concat]
  have := rdGo_back G [] g nd (by simpa using h)
  rw [List.length_nil, List.nil_append] at this
  rw [this]
  unfold rdEnd
  simp only
  rw [if_neg]
  rintro (z | z)
  · exact z rfl
  · rw [List.length_map] at z
    exact n0 (List.eq_nil_of_length_eq_zero z)
theorem rd_empty : rd (linesOf "") = .line 0 := by
  have e : linesOf "" = [("" : Str)] := by
    refine map_tl_inj ?_
    rw [linesOf_tl, nil_tl, spl_no (by simp)]
    rfl
  rw [e]
  unfold rd rdEnd rdGo
  simp
/-! ### lengths of parts -/
theorem spl_bound (s : Nat) : ∀ (n : Nat) (L : List Nat), L.length ≤ n → ∀ p ∈ spl [s] 0 [] L, p.length ≤ L.length
  | n, L, h => by
    rcases cut_first s L with c | ⟨p, r, rfl, c⟩
    · rw [spl_no c]
      intro q hq
      rw [List.mem_singleton.mp hq]
      exact Nat.le_refl _
    · rw [spl_at1 c]
      intro q hq
      rw [List.length_append, List.length_cons] at h ⊢
      rcases List.mem_cons.mp hq with z | z
      · rw [z]
        omega
      · cases n with
        | zero => omega
        | succ m =>
          have := spl_bound s m r (by omega) q z
          omega
theorem spl_count (s : Nat) : ∀ (n : Nat) (L : List Nat), L.length ≤ n → (spl [s] 0 [] L).length ≤ L.length + 1
  | n, L, h => by
    rcases cut_first s L with c | ⟨p, r, rfl, c⟩
    · rw [spl_no c]
      show 1 ≤ _
      omega
    · rw [spl_at1 c]
      rw [List.length_append, List.length_cons] at h ⊢
      cases n with
      | zero => omega
      | succ m =>
        have := spl_count s m r (by omega)
        rw [List.length_cons]
        omega
theorem map_len {l : List Str} {p : Str} (h : p ∈ l) {n : Nat} (b : ∀ q ∈ l.map tl, q.length ≤ n) : p.length ≤ n := by
  rw [len_tl]
  exact b _ (List.mem_map.mpr ⟨p, h, rfl⟩)
theorem spS_len {x p : Str} (h : p ∈ spS x) : p.length ≤ x.length := map_len h (by rw [spS_tl, len_tl]; exact spl_bound 32 _ _ (Nat.le_refl _))
theorem lines_len {x p : Str} (h : p ∈ linesOf x) : p.length ≤ x.length := map_len h (by rw [linesOf_tl, len_tl]; exact spl_bound 10 _ _ (Nat.le_refl _))
theorem spS_count (x : Str) : (spS x).length ≤ x.length + 1 := by
  have := spl_count 32 _ (tl x) (Nat.le_refl _)
  rw [← spS_tl, List.length_map, ← len_tl] at this
  exact this
theorem lines_count (x : Str) : (linesOf x).length ≤ x.length + 1 := by
  have := spl_count 10 _ (tl x) (Nat.le_refl _)
  rw [← linesOf_tl, List.length_map, ← len_tl] at this
  exact this
theorem spS_cons (x : Str) : ∃ w ws, spS x = w :: ws := by
  cases h : spS x with
  | cons w ws => exact ⟨w, ws, rfl⟩
  | nil =>
    obtain ⟨p, r, e, _⟩ := spl_ne 32 (tl x)
    have := spS_tl x
    rw [h, e] at this
    cases this
theorem part_len (z : Str) : (Txt.partition z ":").1.length ≤ z.length ∧ (Txt.partition z ":").2.2.length ≤ z.length := by
  rcases cut_first 58 (tl z) with h | ⟨A, R, hL, hA⟩
  · rw [partition_none colon_tl h]
    exact ⟨Nat.le_refl _, Nat.zero_le _⟩
  · obtain ⟨a, ha⟩ := str_of A
    obtain ⟨r, hr⟩ := str_of R
    have el : z = a ++ (":" : Str) ++ r := tl_inj (by rw [tl_append, tl_append, ha, hr, colon_tl, hL]; simp)
    have ep : Txt.partition z ":" = (a, (":" : Str), r) := by
      rw [el]
      exact partition_app colon_tl (by rw [ha]; exact hA)
    rw [ep, len_tl z, hL, List.length_append, List.length_cons, len_tl a, len_tl r, ha, hr]
    omega
theorem cutV_tail (x : V) (xs : List V) : cutV (x :: xs) (some 1) none = xs := by
  unfold cutV HT.sIx
  simp only [List.length_cons]
  have e : min (1 : Int).toNat (xs.length + 1) = 1 := by
    have : (1 : Int).toNat = 1 := rfl
    omega
  rw [if_neg (by decide)]
  rw [e]
  simp
/-! ### as data -/
def ruleD (r : Rule) : PyData := .tuple [.str r.1, .list (r.2.map PyData.str)]
def gD (G : List Rule) : PyData := .list (G.map ruleD)
theorem strs_eqv : ∀ xs ys : List Str, PyData.eqvAll (xs.map PyData.str) (ys.map PyData.str) = decide (xs = ys)
  | [], [] => by simp [PyData.eqvAll]
  | [], _ :: _ => by simp [PyData.eqvAll]
  | _ :: _, [] => by simp [PyData.eqvAll]
  | x :: xs, y :: ys => by
    rw [List.map_cons, List.map_cons, PyData.eqvAll, strs_eqv xs ys, PyData.eqv, Bool.eq_iff_iff]
    simp
theorem ruleD_eqv (r q : Rule) : PyData.eqv (ruleD r) (ruleD q) = decide (r = q) := by
  obtain ⟨a, s⟩ := r
  obtain ⟨b, t⟩ := q
  unfold ruleD
  rw [PyData.eqv, PyData.eqvAll, PyData.eqvAll, PyData.eqvAll, PyData.eqv, PyData.eqv, strs_eqv, Bool.eq_iff_iff]
  simp
theorem ruleD_in (G : List Rule) (r : Rule) : ((G.map ruleD).any fun z => PyData.eqv z (ruleD r)) = decide (r ∈ G) := by
  rw [Bool.eq_iff_iff, List.any_eq_true, decide_eq_true_eq]
  constructor
  · rintro ⟨z, hz, e⟩
    obtain ⟨q, hq, rfl⟩ := List.mem_map.mp hz
    rw [ruleD_eqv, decide_eq_true_eq] at e
    rw [← e]
    exact hq
  · intro h
    exact ⟨ruleD r, List.mem_map.mpr ⟨r, h, rfl⟩, by rw [ruleD_eqv]; simp⟩
theorem strOk_sym {z : Str} (h : symB z = true) : PyData.strOk z = true := by
  unfold PyData.strOk
  rw [Array.all_eq_true']
  intro c hc
  have := sym_codes h c (by simpa using hc)
  exact decide_eq_true (by omega)
theorem strs_lay : ∀ {ss : List Str}, (∀ s ∈ ss, PyData.strOk s = true) → PyData.canLayAll0 (ss.map PyData.str) = true
  | [], _ => by simp [PyData.canLayAll0]
  | s :: ss, h => by
    rw [List.map_cons, PyData.canLayAll0, PyData.canLay0, h s List.mem_cons_self, strs_lay fun z hz => h z (List.mem_cons_of_mem _ hz)]
    rfl
theorem strs_depth : ∀ ss : List Str, PyData.depthAll (ss.map PyData.str) ≤ 0
  | [] => by simp [PyData.depthAll]
  | s :: ss => by
    have := strs_depth ss
    simp only [List.map_cons, PyData.depthAll, PyData.depth]
    omega
theorem rule_lay {r : Rule} (g : GoodR r) : (ruleD r).canLay0 = true := by
  have h1 : PyData.strOk r.1 = true := strOk_sym (by unfold symB; rw [g.1, Bool.or_true])
  have h2 := strs_lay (ss := r.2) fun s hs => strOk_sym (List.all_eq_true.mp g.2.2 s hs)
  simp [ruleD, PyData.canLay0, PyData.canLayAll0, h1, h2]
theorem rule_depth (r : Rule) : (ruleD r).depth ≤ 2 := by
  have h := strs_depth r.2
  simp only [ruleD, PyData.depth, PyData.depthAll]
  omega
theorem rules_lay : ∀ {G : List Rule}, (∀ r ∈ G, GoodR r) → PyData.canLayAll0 (G.map ruleD) = true
  | [], _ => by simp [PyData.canLayAll0]
  | r :: G, g => by
    rw [List.map_cons, PyData.canLayAll0, rule_lay (g r List.mem_cons_self), rules_lay fun q hq => g q (List.mem_cons_of_mem _ hq)]
    rfl
theorem rules_depth : ∀ G : List Rule, PyData.depthAll (G.map ruleD) ≤ 2
  | [] => by simp [PyData.depthAll]
  | r :: G => by
    have h1 := rules_depth G
    have h2 := rule_depth r
    simp only [List.map_cons, PyData.depthAll]
    omega
theorem shaped_mk {d : PyData} (h1 : d.canLay0 = true) (h2 : d.depth ≤ 64) : SeqAt.shaped d = true := by
  unfold SeqAt.shaped
  rw [h1, decide_eq_true h2]
  rfl
theorem rule_shaped {r : Rule} (g : GoodR r) : SeqAt.shaped (ruleD r) = true := shaped_mk (rule_lay g) (by have := rule_depth r; omega)
theorem gD_shaped {G : List Rule} (g : ∀ r ∈ G, GoodR r) : SeqAt.shaped (gD G) = true := shaped_mk (by unfold gD; rw [PyData.canLay0]; exact rules_lay g) (by
  have := rules_depth G
  unfold gD
  simp only [PyData.depth]
  omega)
theorem eqv_self {d : PyData} (h : SeqAt.shaped d = true) : PyData.eqv d d = true := SeqAt.eqv_refl d (SeqAt.canLay_of_shaped h)
/-! ### what a reading gives, as data -/
def rdD : Rd → PyData
  | .line k => .tuple [.str "line", .int k]
  | .taken k => .tuple [.str "taken", .int k]
  | .large k => .tuple [.str "large", .int k]
  | .good G => .tuple [.str "grammar", gD G]
def RdOk : Rd → Prop
  | .good G => ∀ r ∈ G, GoodR r
  | _ => True
theorem rd_shaped {x : Rd} (h : RdOk x) : SeqAt.shaped (rdD x) = true := by
  cases x with
  | line k => exact shaped_mk (by simp [rdD, PyData.canLay0, PyData.canLayAll0]; decide +kernel) (by simp [rdD, PyData.depth, PyData.depthAll])
  | taken k => exact shaped_mk (by simp [rdD, PyData.canLay0, PyData.canLayAll0]; decide +kernel) (by simp [rdD, PyData.depth, PyData.depthAll])
  | large k => exact shaped_mk (by simp [rdD, PyData.canLay0, PyData.canLayAll0]; decide +kernel) (by simp [rdD, PyData.depth, PyData.depthAll])
  | good G =>
    have h1 : (gD G).canLay0 = true := SeqAt.canLay_of_shaped (gD_shaped h)
    have h2 : (gD G).depth ≤ 64 - 1 := by
      have := rules_depth G
      unfold gD
      simp only [PyData.depth]
      omega
    refine shaped_mk ?_ ?_
    · simp only [rdD, PyData.canLay0, PyData.canLayAll0, h1, Bool.and_true]
      decide +kernel
    · simp only [rdD, PyData.depth, PyData.depthAll]
      omega
end Ld

set_option Elab.async false
set_option linter.all false
set_option maxRecDepth 100000
set_option maxHeartbeats 4000000
/-! What stands stands, tables may grow; grammars in the heap. -/
namespace Ld
open PySem PySem.Spec PyProof.Rows L2 TL
/-- what stood stands, but that tables stay tables -/
def Up (H H2 : Hp) : Prop := ∀ b o, H b = some o → H2 b = some o ∨ ∃ ps qs, o = .tbl ps ∧ H2 b = some (.tbl qs)
theorem Up.refl (H : Hp) : Up H H := fun _ _ h => .inl h
theorem Up.trans {A B C : Hp} (u : Up A B) (v : Up B C) : Up A C := fun b o h => by
  rcases u b o h with e | ⟨ps, qs, rfl, e⟩
  · exact v b o e
  · rcases v b _ e with e2 | ⟨_, q2, _, e2⟩
    · exact .inr ⟨ps, qs, rfl, e2⟩
    · exact .inr ⟨ps, q2, rfl, e2⟩
theorem Up.dom {A B : Hp} (u : Up A B) {b : Addr} (h : B b = none) : A b = none := by
  cases e : A b with
  | none => rfl
  | some o =>
    rcases u b o e with e2 | ⟨_, _, _, e2⟩
    · rw [h] at e2; cases e2
    · rw [h] at e2; cases e2
theorem Up.lst {A B : Hp} (u : Up A B) {a : Addr} {xs : List V} (h : A a = some (.lst xs)) : B a = some (.lst xs) := by
  rcases u a _ h with e | ⟨_, _, z, _⟩
  · exact e
  · cases z
theorem Up.tup {A B : Hp} (u : Up A B) {a : Addr} {xs : List V} (h : A a = some (.tup xs)) : B a = some (.tup xs) := by
  rcases u a _ h with e | ⟨_, _, z, _⟩
  · exact e
  · cases z
theorem Up.xd {A B : Hp} (u : Up A B) {a : Addr} {fs : List (Str × V)} (h : A a = some (.xd fs)) : B a = some (.xd fs) := by
  rcases u a _ h with e | ⟨_, _, z, _⟩
  · exact e
  · cases z
theorem Up.seq {K : PySem.W.Frag} {A B : Hp} (u : Up A B) {a : Addr} {xs : List V} (h : SqL K A a xs) : SqL K B a xs := by
  rcases h with h | h
  · left
    rcases h with h | ⟨o, h⟩
    · exact .inl (u.lst h)
    · right
      refine ⟨o, ?_⟩
      rcases u a _ h with e | ⟨_, _, z, _⟩
      · exact e
      · cases z
  · exact .inr h
theorem Up.seqT {K : PySem.W.Frag} {A B : Hp} (u : Up A B) {a : Addr} {xs : List V} (h : SqT K A a xs) : SqT K B a xs := by
  rcases h with h | h
  · left
    rcases h with h | ⟨o, h⟩
    · exact .inl (u.tup h)
    · right
      refine ⟨o, ?_⟩
      rcases u a _ h with e | ⟨_, _, z, _⟩
      · exact e
      · cases z
  · exact .inr h
theorem Up.of_same {A B : Hp} (h : Same A B) : Up A B := fun b o e => .inl (h b o e)
theorem Up.upd {A B : Hp} (u : Up A B) {p : Addr} {o : HO} (n : A p = none) : Up A (upd B p o) := fun b x e => by
  have ne : b ≠ p := fun z => by rw [z, n] at e; cases e
  rw [upd_ne ne]
  exact u b x e
theorem Up.put (A : Hp) {p : Addr} {o : HO} (n : A p = none) : Up A (L2.upd A p o) := (Up.refl A).upd n
theorem Up.tabbed {A B : Hp} {T : Addr} (t : GxR.TabG A T) (h : GxR.Tabbed T A B) : Up A B := fun b o e => by
  by_cases z : b = T
  · subst z
    obtain ⟨ps, e1, _⟩ := t
    obtain ⟨qs, e2, _⟩ := h.1
    rw [e1] at e
    cases e
    exact .inr ⟨ps, qs, rfl, e2⟩
  · rw [← h.2 b z] at e
    exact .inl e
/-- the two tables -/
def Tb (T1 T2 : Addr) (H : Hp) : Prop := GxR.TabG H T1 ∧ GxR.TabG H T2
theorem tabG_upd {H : Hp} {T p : Addr} {o : HO} (h : GxR.TabG H T) (n : p ≠ T) : GxR.TabG (upd H p o) T := by
  obtain ⟨ps, e, t⟩ := h
  exact ⟨ps, by rw [upd_ne (Ne.symm n)]; exact e, t⟩
theorem tabG_new {H : Hp} {T p : Addr} {o : HO} (h : GxR.TabG H T) (n : H p = none) : GxR.TabG (upd H p o) T := tabG_upd h fun z => by
  obtain ⟨ps, e, _⟩ := h
  rw [z, e] at n
  cases n
theorem tabG_in {H : Hp} {T p : Addr} {o u : HO} (h : GxR.TabG H T) (n : H p = some u) (k : ∀ ps, u ≠ .tbl ps) : GxR.TabG (upd H p o) T := tabG_upd h fun z => by
  obtain ⟨ps, e, _⟩ := h
  rw [z, e] at n
  cases n
  exact k _ rfl
theorem Tb.new {T1 T2 : Addr} {H : Hp} (t : Tb T1 T2 H) {p : Addr} {o : HO} (n : H p = none) : Tb T1 T2 (upd H p o) := ⟨tabG_new t.1 n, tabG_new t.2 n⟩
theorem Tb.lst {T1 T2 : Addr} {H : Hp} (t : Tb T1 T2 H) {p : Addr} {o : HO} {xs : List V} (n : H p = some (.lst xs)) : Tb T1 T2 (upd H p o) := ⟨tabG_in t.1 n (fun _ z => by cases z), tabG_in t.2 n fun _ z => by cases z⟩
theorem tabbed_other {H H2 : Hp} {T T2 : Addr} (t : GxR.TabG H T2) (h : GxR.Tabbed T H H2) : GxR.TabG H2 T2 := by
  by_cases z : T2 = T
  · rw [z]
    exact h.1
  · obtain ⟨ps, e, k⟩ := t
    exact ⟨ps, by rw [h.2 T2 z]; exact e, k⟩
theorem Tb.on1 {T1 T2 : Addr} {H H2 : Hp} (t : Tb T1 T2 H) (h : GxR.Tabbed T1 H H2) : Tb T1 T2 H2 := ⟨h.1, tabbed_other t.2 h⟩
theorem Tb.on2 {T1 T2 : Addr} {H H2 : Hp} (t : Tb T1 T2 H) (h : GxR.Tabbed T2 H H2) : Tb T1 T2 H2 := ⟨tabbed_other t.1 h, h.1⟩
/-! ### what is new -/
def News (A B : Hp) : Hp := fun a => match A a with
  | none => B a
  | some _ => none
theorem news_of {A B : Hp} {a : Addr} (h : A a = none) : News A B a = B a := by
  unfold News
  rw [h]
theorem news_at {A B : Hp} {a : Addr} {o : HO} (h : News A B a = some o) : A a = none ∧ B a = some o := by
  unfold News at h
  cases e : A a with
  | none =>
    rw [e] at h
    exact ⟨rfl, h⟩
  | some _ =>
    rw [e] at h
    cases h
theorem news_same {A B : Hp} : Same (News A B) B := fun _ _ h => (news_at h).2
theorem News.up {A B C : Hp} (u : Up B C) : Up (News A B) (News A C) := fun b o h => by
  obtain ⟨n, e⟩ := news_at h
  rw [news_of n]
  exact u b o e
theorem News.less {A A2 B : Hp} (d : ∀ b, A2 b = none → A b = none) : Same (News A2 B) (News A B) := fun b o h => by
  obtain ⟨n, e⟩ := news_at h
  rw [news_of (d b n)]
  exact e
theorem News.put {A B : Hp} {p : Addr} {o u : HO} (h : A p = some u) : News A (upd B p o) = News A B := by
  funext b
  unfold News
  cases e : A b with
  | some _ => rfl
  | none =>
    have : b ≠ p := fun z => by rw [z, h] at e; cases e
    simp only
    rw [upd_ne this]
/-! ### rules and grammars in the heap -/
def RuleA (H : Hp) (v : V) (r : Rule) : Prop := ∃ t l, v = .ref t ∧ H t = some (.tup [.str r.1, .ref l]) ∧ H l = some (.lst (r.2.map V.str))
theorem RuleA.up {A B : Hp} (u : Up A B) {v : V} {r : Rule} (h : RuleA A v r) : RuleA B v r := by
  obtain ⟨t, l, e, h1, h2⟩ := h
  exact ⟨t, l, e, u.tup h1, u.lst h2⟩
def GrA (H : Hp) : List V → List Rule → Prop
  | [], [] => True
  | v :: vs, r :: G => RuleA H v r ∧ GrA H vs G
  | _, _ => False
theorem GrA.up {A B : Hp} (u : Up A B) : ∀ {vs : List V} {G : List Rule}, GrA A vs G → GrA B vs G
  | [], [], _ => True.intro
  | _ :: _, _ :: _, h => ⟨h.1.up u, h.2.up u⟩
  | [], _ :: _, h => h.elim
  | _ :: _, [], h => h.elim
theorem GrA.len {A : Hp} : ∀ {vs : List V} {G : List Rule}, GrA A vs G → vs.length = G.length
  | [], [], _ => rfl
  | _ :: _, _ :: _, h => by rw [List.length_cons, List.length_cons, h.2.len]
  | [], _ :: _, h => h.elim
  | _ :: _, [], h => h.elim
theorem GrA.get {A : Hp} : ∀ {vs : List V} {G : List Rule} {i : Nat} {v : V}, GrA A vs G → vs[i]? = some v → ∃ r, G[i]? = some r ∧ RuleA A v r
  | _ :: _, r :: _, 0, _, h, e => by
    cases e
    exact ⟨r, rfl, h.1⟩
  | _ :: _, _ :: _, i + 1, _, h, e => h.2.get (i := i) e
  | [], _, _, _, _, e => by cases e
  | _ :: _, [], _, _, h, _ => h.elim
theorem GrA.snoc {A : Hp} : ∀ {vs : List V} {G : List Rule} {v : V} {r : Rule}, GrA A vs G → RuleA A v r → GrA A (vs ++ [v]) (G ++ [r])
  | [], [], _, _, _, q => ⟨q, True.intro⟩
  | _ :: _, _ :: _, _, _, h, q => ⟨h.1, h.2.snoc q⟩
  | [], _ :: _, _, _, h, _ => h.elim
  | _ :: _, [], _, _, h, _ => h.elim
def GraA (H : Hp) (g : Addr) (G : List Rule) : Prop := ∃ vs, H g = some (.lst vs) ∧ GrA H vs G
theorem GraA.up {A B : Hp} (u : Up A B) {g : Addr} {G : List Rule} (h : GraA A g G) : GraA B g G := by
  obtain ⟨vs, e, q⟩ := h
  exact ⟨vs, u.lst e, q.up u⟩
theorem dp_strs {K : PySem.W.Frag} {H : Hp} : ∀ xs : List Str, DpAll K H (xs.map V.str) (xs.map PyData.str)
  | [] => .nil
  | x :: xs => .cons (.str x) (dp_strs xs)
theorem RuleA.dp {K : PySem.W.Frag} {H : Hp} {v : V} {r : Rule} (h : RuleA H v r) : Dp K H v (ruleD r) := by
  obtain ⟨t, l, rfl, h1, h2⟩ := h
  exact .tup (SqT.of h1) (.cons (.str _) (.cons (.lst (SqL.of h2) (dp_strs _)) .nil))
theorem GrA.dp {K : PySem.W.Frag} {H : Hp} : ∀ {vs : List V} {G : List Rule}, GrA H vs G → DpAll K H vs (G.map ruleD)
  | [], [], _ => .nil
  | _ :: _, _ :: _, h => .cons h.1.dp h.2.dp
  | [], _ :: _, h => h.elim
  | _ :: _, [], h => h.elim
theorem GraA.dp {K : PySem.W.Frag} {H : Hp} {g : Addr} {G : List Rule} (h : GraA H g G) : Dp K H (.ref g) (gD G) := by
  obtain ⟨vs, e, q⟩ := h
  exact .lst (SqL.of e) q.dp
/-- grammars that a law hands in -/
def GoodG (most : Nat) (G : List Rule) : Prop := (∀ r ∈ G, GoodR r) ∧ G.Nodup ∧ G ≠ [] ∧ G.length ≤ most
end Ld

set_option Elab.async false
set_option linter.all false
set_option maxRecDepth 100000
set_option maxHeartbeats 4000000
/-! Small facts that many laws use. -/
namespace Ld
open PySem PySem.Spec PyProof.Rows L2
theorem same_put {A B : Hp} (u : Same A B) {p : Addr} {o : HO} (n : A p = none) : Same A (upd B p o) := fun b x e => by
  rw [upd_ne (ne_of_none e n)]
  exact u b x e
theorem million0 {n : Nat} (h : n ≤ 1000000) : n ≤ sizeLine := Nat.le_trans h (by decide)
theorem million1 {n : Nat} (h : n ≤ 1000000) : n < sizeLine := Nat.lt_of_le_of_lt h (by decide)
theorem str_at {ss : List Str} {j : Nat} {x : V} (h : (ss.map V.str)[j]? = some x) : ∃ s, ss[j]? = some s ∧ x = V.str s := by
  rw [List.getElem?_map] at h
  cases e : ss[j]? with
  | none =>
    rw [e] at h
    cases h
  | some s =>
    rw [e] at h
    exact ⟨s, rfl, (Option.some.inj h).symm⟩
theorem cut_map {ss : List Str} {i k : Nat} (h : k ≤ ss.length) (h2 : i ≤ k) : cutV (ss.map V.str) (some (i : Int)) (some (k : Int)) = ((ss.drop i).take (k - i)).map V.str := by
  unfold cutV
  rw [HT.sIx_nat, HT.sIx_nat, List.length_map, Nat.min_eq_left h, Nat.min_eq_left (Nat.le_trans h2 h), List.map_take, List.map_drop]
end Ld

set_option Elab.async false
set_option linter.all false
set_option maxRecDepth 100000
set_option maxHeartbeats 4000000
/-! repr of data, where nothing is being shown already; a law that is called where nothing is being shown. -/
namespace Lg
open PySem PySem.Spec PyProof.Rows L2 LamX GxR
/-- repr of data at any depth -/
def rRepr (K : PySem.W.Frag) : List V → Hp → VK → Prop := fun xs H Q => ∃ (a : Addr) (d : PyData), xs = [.ref a] ∧ Dp K H (.ref a) d ∧ d.showable = true ∧ SeqAt.shaped d = true ∧ d.shown.length ≤ sizeLine ∧ Q (.str d.shown) H
theorem call_repr {X : Cx} (hg : X.A.guards = some []) (hu : X.A.units + 66 < cLine) : CallR X (.builtin "repr") (rRepr X.K) := by
  intro pins s σ H xs us Q I r h
  obtain ⟨a, d, rfl, hd, show_, shp, sz, q⟩ := h
  obtain ⟨u, rfl, rx⟩ := vals1 r
  obtain rfl : u = Value.ref a := rx
  obtain ⟨as, r1⟩ := Dp.reads I d _ _ hd rfl
  have dep := SeqAt.depth_of_shaped shp
  refine repr_of_reads' r1 show_ (PyData.noDict_hsm (PyData.hasDict_of_canLay d (SeqAt.canLay_of_shaped shp))) hg (by omega) (fun _ _ e => e) (fun h2 v tk up => ?_) sz
  exact ⟨.str _, H, I.kept up, ⟨v, rfl⟩, q⟩
/-- the def at fa keeps sp where it is called by no def at all -/
structure Top (P : Program) (w : World) (K : PySem.W.Frag) (mg : Str → Option Value) (base : Heap) (CX : CXT) (fa : Addr) (fd : FuncData) (ps : List Str) (sp : Sp) : Prop where
  len : ∀ vs H Q E, sp vs H Q E → vs.length = ps.length
  run : ∀ (s : Shared) (H : Hp) (args : Args) (us : List Value) (vs : List V) (Q : VK) (E : XK), Env0 P w K mg base callerA [] s H → BindsTo s fd args (ps.zip us) → Vals vs us → sp vs H Q E →
    codeAny (model P w) callerA (.call (.ref fa) args) (CR CX [] P w H s Q E) s
section
variable {P : Program} {w : World} {K : PySem.W.Frag} {mg : Str → Option Value} {base : Heap}
theorem top_ok {x qual : Str} {st : Stmt} {f : Addr} {fd : FuncData} {N ps : List Str} {k : Nat} {sp : Sp} (F : Fun K x qual st f fd) (S : FnScope N ps (defScope st)) (room : Room (k + 1) callerA) (len : ∀ vs H Q E, sp vs H Q E → vs.length = ps.length)
    (hbody : ∀ (cdv : Value) (s : Shared) (H : Hp) (vs : List V) (Q : VK) (E : XK), Room k (callerA.deeper (envOfC qual (defScope st) s.heap.objs.size f cdv)) → sp vs H Q E →
      ∃ t, PSs (cxOf CX0 P w K mg base N qual (defScope st) f cdv callerA [] s H E).nox (defBody st) t ∧ t { nx := fun _ H' => Q .non H', rt := Q } (start N vs) H) : Top P w K mg base CX0 f fd ps sp := by
  obtain ⟨oc, od, kV, doc, pm, an, cdv, ct, osl, rfl, lk, code⟩ := F.ex
  refine ⟨len, fun s H args us vs Q E e0 bind rel want => ?_⟩
  have count := len _ _ _ _ want
  have inK : K.In s.heap := e0.mod.kin.keeps fun b o e => (e0.bs b o e).1
  have lim : s.heap.NoLimit := e0.mod.nolimit.keeps fun b o e => (e0.bs b o e).1
  have kinds : ∀ y ∈ ps.zip us, (defScope st).names.lookup y.1 = some .local ∨ ((defScope st).names.lookup y.1 = some .cell ∧ ((cellsFrom (s.heap.objs.size + 1) (defScope st).names []).lookup y.1).isSome = true) := by
    rintro ⟨n, v⟩ hy
    exact (S.par n (List.of_mem_zip hy).1).imp_right fun q => ⟨q, PySem.W.cellsFrom_some _ _ _ (.inl q)⟩
  refine codeAny_call_function room.depth (inK _ _ lk) rfl S.co S.gen rfl (PySem.W.codeRec_of inK code) (bind _ _ _ _ ?_)
  refine wpAny_newFunctionEnv_cells S.kind kinds fun env made s1 x => ?_
  subst made
  refine ⟨lim.keeps x.toInCall.keep, codeAny_func ?_⟩
  obtain ⟨t, body, reads⟩ := hbody cdv s H vs Q E (room.deeper _) want
  have I : Inv (cxOf CX0 P w K mg base N qual (defScope st) f cdv callerA [] s H E) [] (start N vs) H s1 := inv_start S room.hd e0 count rel x
  refine wpAny_mono (body.nox.run [] s1 (start N vs) H _ I reads) (fun fl s2 ends => ?_) fun e s2 z => z
  cases fl with
  | brk =>
    obtain ⟨_, _, _, z⟩ := ends
    exact False.elim z
  | cont =>
    obtain ⟨_, _, _, z⟩ := ends
    exact False.elim z
  | next =>
    obtain ⟨σ2, H2, J, q⟩ := ends
    exact ⟨V.non, H2, J.os, J.bare, J.base, J.hok, rfl, q⟩
  | ret u =>
    obtain ⟨v, σ2, H2, J, rv, q⟩ := ends
    exact ⟨v, H2, J.os, J.bare, J.base, J.hok, rv, q⟩
/-- an object that is no table's and no list's is as it is where tables and the script are hidden -/
theorem top_call {cs : List (Addr × Addr)} {fd : FuncData} {x : Str} {sp : Sp} {t1 : Shared} {mb : Str → Option Value} {vals : List Value} {nums : List Int} {fa a : Addr} (inK : K.In t1.heap) (top : t1.heap.Ns mainGlobals mg) (blt : t1.heap.Ns builtinsNs mb) (sameB : ∀ x : Str, x ≠ "__name__" → mb x = bootBuiltins x)
    (lim : t1.heap.NoLimit) (noGens : t1.gens = #[]) (tabs : ∀ p ∈ cs, t1.heap.get? p.2 = some { cls := .none, data := .fields #[] }) (tabsK : ∀ p ∈ cs, K.lookup p.2 = none) (codes : ∀ p ∈ cs, PySem.W.CodeHd t1.heap p.1 p.2)
    (modB : ∃ (bm : Addr) (ob : Obj), mg "__builtins__" = some (.ref bm) ∧ bm ≠ builtinsNs ∧ t1.heap.get? bm = some ob ∧ ob.cls = .type "module" ∧ ob.dict = some builtinsNs ∧ ob.data = .plain)
    (script : t1.heap.get? a = some { cls := .type "list", data := .seq vals.toArray }) (areInts : IntsAre vals nums) (fits : nums.length ≤ sizeLine)
    (F : ∀ base : Heap, K.In base → base.Ns mainGlobals mg → (∀ p ∈ cs, LamX.TabB base mg p.1 p.2) → Top P w K mg base CX0 fa fd [x] sp) (bind : ∀ (s : Shared) (u : Value), BindsTo s fd ⟨[u], []⟩ [(x, u)])
    (want : ∀ H : Hp, (∀ p ∈ cs, H p.2 = some (.tbl #[])) → SqL K H a (nums.map V.int) → sp [.ref a] H (fun v _ => v = .bl true) fun _ _ _ => False) :
    codeAny (model P w) callerA (.call (.ref fa) ⟨[.ref a], []⟩) (fun r s' => r = .ok (.ret (.bool true)) ∧ OldK t1.heap s'.heap ∧ s'.os = t1.os ∧ AllBare s'.gens) t1 := by
  have rel := vals_ints areInts
  have lenV := areInts.length
  let Tm := cs.map (·.2)
  let lst : Obj := { cls := .type "list", data := .seq vals.toArray }
  have memT : ∀ p ∈ cs, p.2 ∈ Tm := fun p hp => List.mem_map.mpr ⟨p, hp, rfl⟩
  have isT : ∀ b ∈ Tm, ∃ p ∈ cs, p.2 = b ∧ t1.heap.get? b = some { cls := .none, data := .fields #[] } := fun b mem => by
    obtain ⟨p, hp, rfl⟩ := List.mem_map.mp mem
    exact ⟨p, hp, rfl, tabs p hp⟩
  have aT : a ∉ Tm := fun mem => by
    obtain ⟨_, _, _, e⟩ := isT a mem
    have := (congrArg Obj.data (Option.some.inj (script.symm.trans e)))
    cases this
  -- the tables, and the script unless it is written: nothing else is tracked
  obtain ⟨H, hT, hS, cases_⟩ : ∃ H : Hp, (∀ p ∈ cs, H p.2 = some (.tbl #[])) ∧ SqL K H a (nums.map V.int) ∧ ∀ b u, H b = some u → (b ∈ Tm ∧ u = .tbl #[]) ∨ (b = a ∧ K.lookup a = none ∧ u = .frz lst (.lst (nums.map V.int))) := by
    cases at_ : K.lookup a with
    | some o =>
      have e := inK a o at_
      rw [script] at e
      cases e
      refine ⟨fun b => if b ∈ Tm then some (.tbl #[]) else none, fun p hp => if_pos (memT p hp), .inr ⟨_, vals.toArray, _, at_, rfl, rfl, rfl, by rw [List.size_toArray, lenV]; exact fits, by simpa using rel⟩, fun b u z => ?_⟩
      by_cases mem : b ∈ Tm
      · exact .inl ⟨mem, (Option.some.inj ((if_pos mem).symm.trans z)).symm⟩
      · cases (if_neg mem).symm.trans z
    | none =>
      refine ⟨fun b => if b ∈ Tm then some (.tbl #[]) else if b = a then some (.frz lst (.lst (nums.map V.int))) else none, fun p hp => if_pos (memT p hp), .inl (.inr ⟨lst, (if_neg aT).trans (if_pos rfl)⟩), fun b u z => ?_⟩
      by_cases mem : b ∈ Tm
      · exact .inl ⟨mem, (Option.some.inj ((if_pos mem).symm.trans z)).symm⟩
      · have z2 := (if_neg mem).symm.trans z
        by_cases e : b = a
        · exact .inr ⟨e, rfl, (Option.some.inj ((if_pos e).symm.trans z2)).symm⟩
        · cases (if_neg e).symm.trans z2
  have off : ∀ {b : Addr} {o : Obj}, t1.heap.get? b = some o → o.data ≠ .fields #[] → (b = a → K.lookup a = none → False) → H b = none := fun {b o} e d n => by
    cases q : H b with
    | none => rfl
    | some u =>
      rcases cases_ b u q with ⟨mem, _⟩ | ⟨e2, k, _⟩
      · obtain ⟨_, _, _, e3⟩ := isT b mem
        rw [e3] at e
        cases e
        exact (d rfl).elim
      · exact (n e2 k).elim
  have offD : ∀ {b : Addr} {o : Obj}, t1.heap.get? b = some o → o.data ≠ .fields #[] → o.data ≠ .seq vals.toArray → H b = none := fun {b o} e d1 d2 => off e d1 fun e2 _ => by
    rw [e2, script] at e
    cases e
    exact d2 rfl
  have ok : HOk P w H t1.heap := fun b u z => by
    rcases cases_ b u z with ⟨mem, rfl⟩ | ⟨rfl, _, rfl⟩
    · obtain ⟨_, _, _, e⟩ := isT b mem
      exact e
    · exact ⟨script, by rw [List.length_map]; exact fits, vals, _, rel, script⟩
  have nsB : ∀ {b : Addr} {m : Str → Option Value}, t1.heap.Ns b m → (hidT t1.heap H).Ns b m := fun {b m} ⟨o, es, ep, e, d, r⟩ => by
    refine ⟨o, es, ep, hidT_get e (offD e ?_ ?_), d, r⟩
    · rw [d]
      intro z
      cases z
    · rw [d]
      intro z
      cases z
  have inB : K.In (hidT t1.heap H) := fun b o e => by
    refine hidT_get (inK b o e) ?_
    cases q : H b with
    | none => rfl
    | some u =>
      rcases cases_ b u q with ⟨mem, _⟩ | ⟨e2, k, _⟩
      · obtain ⟨p, hp, e3, _⟩ := isT b mem
        rw [← e3, tabsK p hp] at e
        cases e
      · rw [e2, k] at e
        cases e
  have tabB : ∀ p ∈ cs, LamX.TabB (hidT t1.heap H) mg p.1 p.2 := fun p hp => by
    obtain ⟨og, eg, epg, atG, dG, _⟩ := id top
    have tp := tabs p hp
    refine ⟨?_, ?_, fun z => ?_⟩
    · obtain ⟨o, us, file, tf, flags, tg, inF, text, tt, e1, r1, r2, r3, r4, r5, r6, r7, r8, ne⟩ := codes p hp
      refine ⟨o, us, file, tf, flags, tg, inF, text, tt, hidT_get e1 (offD e1 ?_ ?_), r1, r2, r3, r4, r5, r6, r7, r8, ne⟩
      · rw [r2]
        intro z
        cases z
        simp at r3
      · rw [r2]
        intro z
        cases z
    · obtain ⟨bm, ob, b1, b2, b3, b4, b5, b6⟩ := modB
      refine ⟨bm, ob, b1, b2, fun q => ?_, fun q => ?_, hidT_get b3 (offD b3 (by rw [b6]; intro z; cases z) (by rw [b6]; intro z; cases z)), b4, b5, b6⟩
      · rw [q, atG] at b3
        cases b3
        rw [dG] at b6
        cases b6
      · rw [q, tp] at b3
        cases b3
        cases b6
    · rw [z, tp] at atG
      cases atG
      cases dG
  have env0 : Env0 P w K mg (hidT t1.heap H) callerA [] t1 H := ⟨rfl, ⟨inB, nsB top, ⟨mb, nsB blt, sameB⟩, let ⟨mc, h1, h2⟩ := lim; ⟨mc, nsB h1, h2⟩⟩, fun b o e => of_hidT e, Nat.le_of_eq (hidT_size _ _), trivial, fun b hb => (List.not_mem_nil hb).elim, ok, .of_eq noGens⟩
  refine codeAny_mono ((F _ inB (nsB top) tabB).run t1 H ⟨[.ref a], []⟩ [.ref a] [.ref a] _ _ env0 (bind t1 (.ref a)) (.cons rfl .nil) (want H hT hS)) fun r s2 left => ?_
  cases r with
  | error e => exact (show False from left).elim
  | ok fl =>
    cases fl with
    | next => exact (show False from left).elim
    | brk => exact (show False from left).elim
    | cont => exact (show False from left).elim
    | ret u =>
      obtain ⟨v, H2, os2, bare2, un, ok2, ru, isTrue_⟩ := left
      obtain rfl : v = .bl true := isTrue_
      obtain rfl : u = Value.bool true := ru
      have grown : ∀ p ∈ cs, ∃ more : Array Value, s2.heap.get? p.2 = some { cls := .none, data := .fields more } := fun p hp => by
        obtain ⟨more, z⟩ := un.tbls p.2 #[] (hT p hp)
        exact ⟨_, ok2 p.2 _ z⟩
      have kept : ∀ b o, b ∉ Tm → t1.heap.get? b = some o → s2.heap.get? b = some o := fun b o out e => by
        cases q : H b with
        | none => exact un.keep b o e q (fun z => (List.not_mem_nil z).elim) (fun z => (List.not_mem_nil z).elim)
        | some u =>
          rcases cases_ b u q with ⟨mem, _⟩ | ⟨_, _, rfl⟩
          · exact (out mem).elim
          · obtain ⟨e1, _⟩ := ok b _ q
            obtain ⟨e2, _⟩ := ok2 b _ (un.frzs b _ _ q)
            rw [e] at e1
            cases e1
            exact e2
      refine ⟨rfl, ⟨fun b o e => ?_, fun b o e => ?_⟩, os2, bare2⟩
      · by_cases mem : b ∈ Tm
        · obtain ⟨p, hp, rfl, at_⟩ := isT b mem
          obtain ⟨more, hm⟩ := grown p hp
          rw [at_] at e
          cases e
          exact .inr (.inl ⟨((codes p hp).tab at_).isCodeTable, rfl, #[], more, rfl, by rw [Array.empty_append]; exact hm⟩)
        · exact .inl (kept b o mem e)
      · by_cases mem : b ∈ Tm
        · obtain ⟨p, hp, rfl, _⟩ := isT b mem
          obtain ⟨more, hm⟩ := grown p hp
          exact ⟨_, hm⟩
        · exact ⟨o, kept b o mem e⟩
end
/-- what is known of the law's promise at the head's heap -/
def LawTop (l : PySem.W.OpenLaw) (w : World) (K : PySem.W.Frag) (n : Nat) (x : Str) (mg : Str → Option Value) (fa : Addr) (h : Heap) : Prop :=
  ∃ (fd : FuncData) (cs : List (Addr × Addr)) (sp : Sp), (∀ p ∈ cs, PySem.W.CodeHd h p.1 p.2 ∧ h.get? p.2 = some { cls := .none, data := .fields #[] } ∧ K.lookup p.2 = none) ∧ (∀ (s : Shared) (u : Value), BindsTo s fd ⟨[u], []⟩ [(x, u)]) ∧
    (∀ (H : Hp) (a : Addr) (ns : List Int), ns.length ≤ n → (∀ p ∈ cs, H p.2 = some (.tbl #[])) → SqL K H a (ns.map V.int) → sp [.ref a] H (fun v _ => v = .bl true) fun _ _ _ => False) ∧
    ∀ base : Heap, K.In base → base.Ns mainGlobals mg → (∀ p ∈ cs, LamX.TabB base mg p.1 p.2) → Top l.prog w K mg base CX0 fa fd [x] sp
theorem walk_top {l : PySem.W.OpenLaw} {n : Nat} {q : Program} {loose : List Str} {XP : (Str → Option Value) → Heap → Prop} {YP : World → Heap → Prop} {d : PySem.DefRec} {K : Params → PySem.W.Frag} {x : Str}
    (most : l.most = some n) (fits : n ≤ sizeLine) (plain : d.params.defaults = []) (hY : ∀ (w : World) (h : Heap), YP w h → (K w.params).In h)
    (F : ∀ (w : World) (mg : Str → Option Value) (fa : Addr) (h : Heap), YP w h → (K w.params).In h → h.Ns mainGlobals mg → mg d.name = some (.ref fa) →
      (∀ (y : Str) (d' : PySem.DefRec) (c T : Addr), (recsOf q).find? (fun e => e.name == y) = some d' → PySem.W.tabIn (K w.params) y = some (c, T) → PySem.W.CodeHd h c T ∧ h.get? T = some { cls := .none, data := .fields #[] }) → LawTop l w (K w.params) n x mg fa h) :
    PySem.W.WalkO q loose XP YP l.row.toRowW d [] (fun f vs => PySem.call f vs) := by
  refine Att.attach_callB most plain fun w s₀ s1 mg mb fa o pm cd doc a vs ns G Y ho hd hcd hmg hobj hints hlen hbits hg => ?_
  have inK := hY w _ Y
  obtain ⟨fd, cs, sp, tabs, bind, want, prom⟩ := F w mg fa _ Y inK G.T.g hmg fun y d' c T found at_ => PySem.W.tab_of G.T inK found at_
  exact top_call inK G.T.g G.T.b G.T.builtins G.T.nolimit hg (fun p hp => (tabs p hp).2.1) (fun p hp => (tabs p hp).2.2) (fun p hp => (tabs p hp).1) G.T.bmain hobj hints (Nat.le_trans hlen fits) prom bind fun H hH hS => want H a ns hlen hH hS
end Lg

set_option Elab.async false
set_option linter.all false
set_option maxRecDepth 100000
set_option maxHeartbeats 4000000
/-! a != b of two dicts that are equal, their values lists. -/
namespace PySem.W
open PySem PySem.Spec PyProof.Rows
section
variable {K : Type} [DecidableEq K] {prog : Program} {w : World} {A : Around} {E : Value → Shared → Prop} {s : Shared} {knd : KeyKind prog w K}
theorem rcP_dictsNe {a b : Addr} {ka kb : List (K × Value)} {r : Bool} {Q : Value → Shared → Prop} (ha : (a == sysModules) = false) (hb : (b == sysModules) = false)
    (da : s.heap.DictOf knd a ka) (db : s.heap.DictOf knd b kb) (hu : A.units < cLine) (hits : ka.length = kb.length → KeqHitsP prog w A.in1 s kb ka r) (h : Q (.bool (!(ka.length == kb.length && r))) s) : wpAny (model prog w) A (compareOp .NotEq (.ref a) (.ref b)) Q E s := by
  refine wpAny_richCompare_same_room (op := .NotEq) da.typeIs db.typeIs PySem.F.slot_dict_ne (wpAny_call_entry PySem.F.slot_dict_ne da.typeIs PySem.F.entry_dict_ne ?_ (PySem.F.args_dict_ne_2 _ _)) hu
  show wpAny _ _ (Builtin.Dict.dictSlotArgs "__ne__" ⟨[.ref a, .ref b], []⟩ >>= _) _ _ s
  refine wpAny_bind ?_
  unfold Builtin.Dict.dictSlotArgs
  refine wpAny_bind (wpAny_notOrdered_dict da.typeIs ?_)
  show wpAny _ _ (pure (Value.ref a, Value.ref b)) _ _ s
  refine wpAny_pure ?_
  refine wpAny_bind (wpAny_isInstance (T := "dict") db.typeIs PySem.F.sub_dict_dict ?_)
  simp only [Bool.not_true, Bool.false_eq_true, if_false]
  refine wpAny_bind (wpAny_pure (wpAny_bind (wpAny_pure ?_)))
  refine wpAny_bind (samePairsP ha hb da db hits ?_)
  refine wpAny_pure ⟨_, rfl, ?_, ?_⟩
  · exact fun x => nomatch x
  · simpa using h
end
end PySem.W
namespace Ld
open PySem PySem.Spec PyProof.Rows L2
def rNeVD (K : PySem.W.Frag) : R2 := fun x y H Q => ∃ a b ks ls n, n ≤ 60 ∧ x = .ref a ∧ y = .ref b ∧ H a = some (.dK ks) ∧ H b = some (.dK ls) ∧ ks.length = ls.length ∧ (∀ p ∈ ks, ∃ u, valV ls p.1 = some u ∧ EqV K H n p.2 u) ∧ Q (.bl false) H
theorem op_neVD {X : Cx} (hu : X.A.units + 64 < cLine) : OpR X (compareOp .NotEq) (rNeVD X.K) := by
  intro pins s σ H x y v u Q I rx ry h
  obtain ⟨a, b, ks, ls, n, hn, rfl, rfl, ea, eb, hlen, hp, q⟩ := h
  obtain rfl : v = Value.ref a := rx
  obtain rfl : u = Value.ref b := ry
  obtain ⟨_, ya, va, ra, da⟩ := (show ObjOk X.prog X.w H s.heap a (.dK ks) from I.hok a _ ea)
  obtain ⟨_, yb, vb, rb, db⟩ := (show ObjOk X.prog X.w H s.heap b (.dK ls) from I.hok b _ eb)
  have hl : va.length = vb.length := by rw [← ra.length, ← rb.length]; exact hlen
  refine PySem.W.rcP_dictsNe (knd := mixKind X.prog X.w) (r := true) ya yb da db (by omega) (fun _ => hits_run (eqV_run I n X.A.in1 (by show X.A.units + 1 + n < cLine; omega)) rb ra hp) ?_
  rw [show (!(va.length == vb.length && true)) = false from by rw [hl]; simp]
  exact ⟨.bl false, H, I, rfl, q⟩
end Ld

set_option Elab.async false
set_option linter.all false
set_option maxRecDepth 100000
set_option maxHeartbeats 4000000
/-! a == b and a != b of equal values that hold dicts with tuples for keys. -/
namespace PySem.W
open PySem PySem.Spec PyProof.Rows
section
variable {K : Type} [DecidableEq K] {prog : Program} {w : World} {A : Around} {E : Value → Shared → Prop} {s : Shared} {knd : HeapKind prog w K}
/-- each key of the one has an equal value in the other -/
inductive HitsT (prog : Program) (w : World) (A : Around) (s : Shared) (ys : List (K × Addr × Value)) : List (K × Addr × Value) → Prop
  | nil : HitsT prog w A s ys []
  | cons {x : K × Addr × Value} {p : Addr × Value} {r : List (K × Addr × Value)} : atKey ys x.1 = some p → SeqAt.EqP prog w A s x.2.2 p.2 true → HitsT prog w A s ys r → HitsT prog w A s ys (x :: r)
theorem samePairsT {nm : String} {a b : Addr} {xs ys : List (K × Addr × Value)} {Q : Bool → Shared → Prop} (hu : knd.room A) (ha : (a == sysModules) = false) (hb : (b == sysModules) = false)
    (da : s.heap.DictOfH knd a xs) (db : s.heap.DictOfH knd b ys) (len : xs.length = ys.length) (hits : HitsT prog w A s ys xs) (h : Q true s) :
    wpAny (model prog w) A (Builtin.Dict.samePairs nm a b) Q E s := by
  obtain ⟨oa, es, ep, hoa, _, hda, hea, hka, hna⟩ := da
  obtain ⟨ob, es', ep', hob, _, hdb, heb, hkb, hnb⟩ := db
  have hla := size_of_entries hea
  have hlb := size_of_entries heb
  have hsz : es.size = es'.size := by rw [hla, hlb, len]
  unfold Builtin.Dict.samePairs Builtin.Dict.showsAll
  rw [if_neg (show ¬ (a == sysModules) = true by rw [ha]; exact Bool.false_ne_true), if_neg (show ¬ (b == sysModules) = true by rw [hb]; exact Bool.false_ne_true)]
  refine wpAny_bind (wpAny_pure (wpAny_bind (wpAny_pure ?_)))
  refine wpAny_bind (wpAny_dictEntries hoa hda ?_)
  dsimp only
  refine wpAny_bind (wpAny_dictEntries hob hdb ?_)
  rw [if_neg (by rw [hsz]; simp)]
  refine wpAny_bind (wpAny_dictEpoch hoa hda ?_)
  refine wpAny_bind ?_
  rw [Std.Legacy.Range.forIn_eq_forIn_range']
  simp only [Std.Legacy.Range.size, Nat.sub_zero, Nat.add_sub_cancel, Nat.div_one]
  refine wpAny_forIn_list _
    (fun rest q s' => s' = s ∧ q = (none, ()) ∧ ∃ i, rest = List.range' i (es.size - i) ∧ i ≤ es.size ∧ HitsT prog w A s ys (xs.drop i))
    _ ?_ ?_ _ _ ⟨rfl, rfl, 0, by simp, Nat.zero_le _, hits⟩
  · rintro x rest q s' ⟨rfl, rfl, i, hr, hi, hpre⟩
    have hlt : i < es.size := by
      rcases Nat.lt_or_ge i es.size with h | h
      · exact h
      · rw [Nat.sub_eq_zero_of_le h] at hr; simp at hr
    obtain ⟨rfl, hrest⟩ : x = i ∧ rest = List.range' (i + 1) (es.size - (i + 1)) := by
      have e : es.size - i = (es.size - (i + 1)) + 1 := by omega
      rw [e, List.range'_succ] at hr
      injection hr with h1 h2
      exact ⟨h1, h2⟩
    refine wpAny_bind (wpAny_dictEntries hoa hda ?_)
    have hlt' : x < xs.length := by rw [← hla]; exact hlt
    rw [entry_at hea x, List.getElem?_eq_getElem hlt']
    obtain ⟨⟨k, c, v⟩, hkv⟩ : ∃ y, xs[x] = y := ⟨_, rfl⟩
    have hdrop : xs.drop x = (k, c, v) :: xs.drop (x + 1) := by rw [← hkv]; exact List.drop_eq_getElem_cons hlt'
    rw [hkv]
    have hin : (k, c, v) ∈ xs := by rw [← hkv]; exact List.getElem_mem hlt'
    rw [hdrop] at hpre
    cases hpre with
    | cons hat heq hrr =>
      rename_i p
      show wpAny _ _ (holding [Value.ref c, v] _ >>= _) _ _ _
      refine wpAny_bind (wpAny_holding (wpAny_bind (wpAny_dictFind_heap hu (hka _ hin) hob hdb heb hkb hnb (fun no => ?_) fun j p2 hj => ?_)))
      · rw [atKey_none_of_get no] at hat
        cases hat
      · have ep : p = p2 := Option.some.inj (hat.symm.trans (atKey_of_get hnb hj))
        subst ep
        refine wpAny_bind (wpAny_dictEntries hob hdb ?_)
        rw [entry_at heb j, hj]
        refine wpAny_holding (heq _ _ ?_)
        show wpAny _ _ (if (!true) = true then _ else _) _ _ _
        rw [if_neg (by decide)]
        refine wpAny_bind (wpAny_dictEpoch hoa hda ?_)
        rw [if_neg (by simp)]
        exact wpAny_pure ⟨rfl, rfl, x + 1, hrest, hlt, hrr⟩
  · rintro q s' ⟨rfl, rfl, i, hr, hi, hpre⟩
    exact wpAny_pure h
theorem rcP_dictsT {a b : Addr} {xs ys : List (K × Addr × Value)} {op : CmpOp} (hop : op = .Eq ∨ op = .NotEq) (hr : knd.room A.in1) (ha : (a == sysModules) = false) (hb : (b == sysModules) = false)
    (da : s.heap.DictOfH knd a xs) (db : s.heap.DictOfH knd b ys) (hu : A.units < cLine) (len : xs.length = ys.length) (hits : HitsT prog w A.in1 s ys xs) (E Q : Value → Shared → Prop) (h : Q (.bool (op == .Eq)) s) : wpAny (model prog w) A (richCompare op (.ref a) (.ref b)) Q E s := by
  rcases hop with rfl | rfl
  · refine wpAny_richCompare_same_room (op := .Eq) da.typeIs db.typeIs PySem.F.slot_dict_eq (wpAny_call_entry PySem.F.slot_dict_eq da.typeIs PySem.F.entry_dict_eq ?_ (PySem.F.args_dict_eq_2 _ _)) hu
    show wpAny _ _ (Builtin.Dict.dictSlotArgs "__eq__" ⟨[.ref a, .ref b], []⟩ >>= _) _ _ s
    refine wpAny_bind ?_
    unfold Builtin.Dict.dictSlotArgs
    refine wpAny_bind (wpAny_notOrdered_dict da.typeIs ?_)
    show wpAny _ _ (pure (Value.ref a, Value.ref b)) _ _ s
    refine wpAny_pure ?_
    refine wpAny_bind (wpAny_isInstance (T := "dict") db.typeIs PySem.F.sub_dict_dict ?_)
    simp only [Bool.not_true, Bool.false_eq_true, if_false]
    refine wpAny_bind (wpAny_pure (wpAny_bind (wpAny_pure ?_)))
    refine wpAny_bind (samePairsT hr ha hb da db len hits ?_)
    refine wpAny_pure ⟨_, rfl, ?_, ?_⟩
    · exact fun x => nomatch x
    · simpa using h
  · refine wpAny_richCompare_same_room (op := .NotEq) da.typeIs db.typeIs PySem.F.slot_dict_ne (wpAny_call_entry PySem.F.slot_dict_ne da.typeIs PySem.F.entry_dict_ne ?_ (PySem.F.args_dict_ne_2 _ _)) hu
    show wpAny _ _ (Builtin.Dict.dictSlotArgs "__ne__" ⟨[.ref a, .ref b], []⟩ >>= _) _ _ s
    refine wpAny_bind ?_
    unfold Builtin.Dict.dictSlotArgs
    refine wpAny_bind (wpAny_notOrdered_dict da.typeIs ?_)
    show wpAny _ _ (pure (Value.ref a, Value.ref b)) _ _ s
    refine wpAny_pure ?_
    refine wpAny_bind (wpAny_isInstance (T := "dict") db.typeIs PySem.F.sub_dict_dict ?_)
    simp only [Bool.not_true, Bool.false_eq_true, if_false]
    refine wpAny_bind (wpAny_pure (wpAny_bind (wpAny_pure ?_)))
    refine wpAny_bind (samePairsT hr ha hb da db len hits ?_)
    refine wpAny_pure ⟨_, rfl, ?_, ?_⟩
    · exact fun x => nomatch x
    · have e : (CmpOp.NotEq == CmpOp.Eq) = false := by decide
      rw [e] at h
      simpa using h
end
end PySem.W
namespace Ld
open PySem PySem.Spec PyProof.Rows L2
/-- equal values, of nesting below n; tuples and lists as data -/
def EqT (K : PySem.W.Frag) (H : Hp) : Nat → V → V → Prop
  | 0 => fun _ _ => False
  | n + 1 => fun x y => (x = y ∧ flatB x = true) ∨ (∃ a, x = .ref a ∧ y = .ref a) ∨ (∃ d, Dp K H x d ∧ Dp K H y d ∧ SeqAt.shaped d = true) ∨
      (∃ a b ks ls, x = .ref a ∧ y = .ref b ∧ H a = some (.dT ks) ∧ H b = some (.dT ls) ∧ ks.length = ls.length ∧ ∀ p ∈ ks, ∃ u, valV ls p.1 = some u ∧ EqT K H n p.2 u) ∨
      (∃ a b ks ls, x = .ref a ∧ y = .ref b ∧ H a = some (.dK ks) ∧ H b = some (.dK ls) ∧ ks.length = ls.length ∧ ∀ p ∈ ks, ∃ u, valV ls p.1 = some u ∧ EqT K H n p.2 u)
theorem hitsT_run {P : Program} {w : World} {A : Around} {s : Shared} {H : Hp} {F : V → V → Prop} (ih : ∀ x y v u, F x y → RelV x v → RelV y u → SeqAt.EqP P w A s v u true) {ls : List (List Key × V)} {yb : List (List Key × Addr × Value)} (rb : KT H ls yb) {ks : List (List Key × V)} {ya : List (List Key × Addr × Value)}
    (ra : KT H ks ya) : (∀ p ∈ ks, ∃ u, valV ls p.1 = some u ∧ F p.2 u) → PySem.W.HitsT P w A s yb ya := by
  unfold KT at ra
  induction ra with
  | nil => intro _; exact .nil
  | @cons p q ps qs h t k =>
    intro hp
    obtain ⟨h1, _, h2⟩ := h
    obtain ⟨u, e, f⟩ := hp p List.mem_cons_self
    have rr : RelO (some u) ((atKey yb p.1).map (·.2)) := by rw [← e]; exact rb.val p.1
    obtain ⟨y, hy, ry⟩ := rr.some_of
    obtain ⟨p2, hp2, rfl⟩ := Option.map_eq_some_iff.mp hy
    exact .cons (by rw [← h1]; exact hp2) (ih _ _ _ _ f h2 ry) (k fun p' hm => hp p' (List.mem_cons_of_mem _ hm))
section
variable {X : Cx} {pins : List (Addr × Obj)} {σ : L2.St} {H : Hp} {s : Shared}
theorem eqT_dT (I : Inv X pins σ H s) {A : Around} {F : V → V → Prop} {op : CmpOp} (hop : op = .Eq ∨ op = .NotEq) (hu : A.units + 1 < cLine) (ih : ∀ x y v u, F x y → RelV x v → RelV y u → SeqAt.EqP X.prog X.w A.in1 s v u true) {a b : Addr} {ks ls : List (List Key × V)}
    (ha : H a = some (.dT ks)) (hb : H b = some (.dT ls)) (hl : ks.length = ls.length) (hp : ∀ p ∈ ks, ∃ u, valV ls p.1 = some u ∧ F p.2 u)
    (E Q : Value → Shared → Prop) (q : Q (.bool (op == .Eq)) s) : wpAny (model X.prog X.w) A (richCompare op (.ref a) (.ref b)) Q E s := by
  obtain ⟨_, za, xa, ra, da⟩ := dt_of I.hok ha
  obtain ⟨_, zb, xb, rb, db⟩ := dt_of I.hok hb
  exact PySem.W.rcP_dictsT hop (show A.units + 1 < cLine from hu) za zb da db (by omega) (by rw [← Paired.length ra, ← Paired.length rb]; exact hl) (hitsT_run ih rb ra hp) E Q q
theorem eqT_dK (I : Inv X pins σ H s) {A : Around} {F : V → V → Prop} {op : CmpOp} (hop : op = .Eq ∨ op = .NotEq) (hu : A.units + 1 < cLine) (ih : ∀ x y v u, F x y → RelV x v → RelV y u → SeqAt.EqP X.prog X.w A.in1 s v u true) {a b : Addr} {ks ls : List (Key × V)}
    (ha : H a = some (.dK ks)) (hb : H b = some (.dK ls)) (hl : ks.length = ls.length) (hp : ∀ p ∈ ks, ∃ u, valV ls p.1 = some u ∧ F p.2 u)
    (E Q : Value → Shared → Prop) (q : Q (.bool (op == .Eq)) s) : wpAny (model X.prog X.w) A (richCompare op (.ref a) (.ref b)) Q E s := by
  obtain ⟨_, ya, va, ra, da⟩ := (show ObjOk X.prog X.w H s.heap a (.dK ks) from I.hok a _ ha)
  obtain ⟨_, yb, vb, rb, db⟩ := (show ObjOk X.prog X.w H s.heap b (.dK ls) from I.hok b _ hb)
  have hl2 : va.length = vb.length := by rw [← ra.length, ← rb.length]; exact hl
  rcases hop with rfl | rfl
  · refine PySem.W.rcP_dicts (knd := mixKind X.prog X.w) (r := true) ya yb da db (by omega) (fun _ => hits_run ih rb ra hp) E Q ?_
    rw [show (va.length == vb.length && true) = true from by rw [hl2]; simp]
    exact q
  · refine PySem.W.rcP_dictsNe (knd := mixKind X.prog X.w) (r := true) ya yb da db (by omega) (fun _ => hits_run ih rb ra hp) ?_
    rw [show (!(va.length == vb.length && true)) = false from by rw [hl2]; simp]
    exact q
theorem eqT_run (I : Inv X pins σ H s) : ∀ (n : Nat) (A : Around), A.units + n + 65 < cLine → ∀ (x y : V) (v u : Value), EqT X.K H n x y → RelV x v → RelV y u → SeqAt.EqP X.prog X.w A s v u true
  | 0, _, _, _, _, _, _, h, _, _ => (show False from h).elim
  | n + 1, A, hu, x, y, v, u, h, rx, ry => by
    have nx := eqT_run I n A.in1 (by show A.units + 1 + n + 65 < cLine; omega)
    rcases h with ⟨rfl, f⟩ | ⟨a, rfl, rfl⟩ | ⟨d, hx, hy, sh⟩ | ⟨a, b, ks, ls, rfl, rfl, ha, hb, hl, hp⟩ | ⟨a, b, ks, ls, rfl, rfl, ha, hb, hl, hp⟩
    · exact (eqAt_same rx ry f).eqP
    · cases (show v = Value.ref a from rx)
      cases (show u = Value.ref a from ry)
      exact (SeqAt.EqAt.same _).eqP
    · obtain ⟨as, r1⟩ := Dp.reads I d x v hx rx
      obtain ⟨bs, r2⟩ := Dp.reads I d y u hy ry
      have e := SeqAt.eqAt_reads d d A s v u as bs r1 r2 (SeqAt.canLay_of_shaped sh) (SeqAt.canLay_of_shaped sh) (SeqAt.room_of_shaped sh (by omega))
      rw [SeqAt.eqv_refl d (SeqAt.canLay_of_shaped sh)] at e
      exact e.eqP
    · cases (show v = Value.ref a from rx)
      cases (show u = Value.ref b from ry)
      by_cases e : a = b
      · subst e
        exact (SeqAt.EqAt.same _).eqP
      · exact SeqAt.eqP_refs e fun E Q q => eqT_dT I (.inl rfl) (by omega) nx ha hb hl hp E Q q
    · cases (show v = Value.ref a from rx)
      cases (show u = Value.ref b from ry)
      by_cases e : a = b
      · subst e
        exact (SeqAt.EqAt.same _).eqP
      · exact SeqAt.eqP_refs e fun E Q q => eqT_dK I (.inl rfl) (by omega) nx ha hb hl hp E Q q
end
/-- a == b and a != b of two dicts that are equal -/
def rEqT (K : PySem.W.Frag) (ne : Bool) : R2 := fun x y H Q => ∃ n, n ≤ 40 ∧ ((∃ a b ks ls, x = .ref a ∧ y = .ref b ∧ H a = some (.dT ks) ∧ H b = some (.dT ls) ∧ ks.length = ls.length ∧ ∀ p ∈ ks, ∃ u, valV ls p.1 = some u ∧ EqT K H n p.2 u) ∨
  (∃ a b ks ls, x = .ref a ∧ y = .ref b ∧ H a = some (.dK ks) ∧ H b = some (.dK ls) ∧ ks.length = ls.length ∧ ∀ p ∈ ks, ∃ u, valV ls p.1 = some u ∧ EqT K H n p.2 u)) ∧ Q (.bl (!ne)) H
theorem op_eqT {X : Cx} (hu : X.A.units + 120 < cLine) : OpR X (compareOp .Eq) (rEqT X.K false) := by
  intro pins s σ H x y v u Q I rx ry h
  obtain ⟨n, hn, h, q⟩ := h
  have nx := eqT_run I n X.A.in1 (by show X.A.units + 1 + n + 65 < cLine; omega)
  rcases h with ⟨a, b, ks, ls, rfl, rfl, ha, hb, hl, hp⟩ | ⟨a, b, ks, ls, rfl, rfl, ha, hb, hl, hp⟩
  · cases (show v = Value.ref a from rx)
    cases (show u = Value.ref b from ry)
    exact eqT_dT I (.inl rfl) (by omega) nx ha hb hl hp _ _ ⟨.bl true, H, I, rfl, q⟩
  · cases (show v = Value.ref a from rx)
    cases (show u = Value.ref b from ry)
    exact eqT_dK I (.inl rfl) (by omega) nx ha hb hl hp _ _ ⟨.bl true, H, I, rfl, q⟩
theorem op_neT {X : Cx} (hu : X.A.units + 120 < cLine) : OpR X (compareOp .NotEq) (rEqT X.K true) := by
  intro pins s σ H x y v u Q I rx ry h
  obtain ⟨n, hn, h, q⟩ := h
  have nx := eqT_run I n X.A.in1 (by show X.A.units + 1 + n + 65 < cLine; omega)
  rcases h with ⟨a, b, ks, ls, rfl, rfl, ha, hb, hl, hp⟩ | ⟨a, b, ks, ls, rfl, rfl, ha, hb, hl, hp⟩
  · cases (show v = Value.ref a from rx)
    cases (show u = Value.ref b from ry)
    exact eqT_dT I (.inr rfl) (by omega) nx ha hb hl hp _ _ ⟨.bl false, H, I, rfl, q⟩
  · cases (show v = Value.ref a from rx)
    cases (show u = Value.ref b from ry)
    exact eqT_dK I (.inr rfl) (by omega) nx ha hb hl hp _ _ ⟨.bl false, H, I, rfl, q⟩
end Ld

set_option Elab.async false
set_option linter.all false
set_option maxRecDepth 100000
set_option maxHeartbeats 4000000
/-! repr of data with dicts in it; a dict's keys may be tuples. -/
namespace Lr
open PySem PyProof.Rows
mutual
/-- v is the data d in h; no dict in it is the one of the modules -/
inductive RdS (h : Heap) : Value → PyData → Prop
  | plain {v : Value} {d : PyData} {as : List Addr} : Reads h v d as → d.hasDict = false → RdS h v d
  | list {a : Addr} {o : Obj} {vs : Array Value} {n : Nat} {xs : List PyData} : h.get? a = some o → o.cls = .type "list" → o.data = .seq vs n → RdSAll h vs.toList xs → RdS h (.ref a) (.list xs)
  | tuple {a : Addr} {o : Obj} {vs : Array Value} {n : Nat} {xs : List PyData} : h.get? a = some o → o.cls = .type "tuple" → o.data = .seq vs n → RdSAll h vs.toList xs → RdS h (.ref a) (.tuple xs)
  | dict {a : Addr} {o : Obj} {es : Array DictEntry} {n : Nat} {kvs : List (PyData × PyData)} : h.get? a = some o → o.cls = .type "dict" → o.data = .dict es n → (a == sysModules) = false →
      RdSAll h (es.toList.map (·.key)) (kvs.map (·.1)) → RdSAll h (es.toList.map (·.val)) (kvs.map (·.2)) → RdS h (.ref a) (.dict kvs)
inductive RdSAll (h : Heap) : List Value → List PyData → Prop
  | nil : RdSAll h [] []
  | cons {v : Value} {vs : List Value} {d : PyData} {ds : List PyData} : RdS h v d → RdSAll h vs ds → RdSAll h (v :: vs) (d :: ds)
end
mutual
theorem RdS.reads {h : Heap} : ∀ {v : Value} {d : PyData}, RdS h v d → ∃ as, Reads h v d as
  | _, _, .plain r _ => ⟨_, r⟩
  | _, _, .list h1 h2 h3 k => let ⟨_, r⟩ := RdSAll.reads k; ⟨_, .list h1 h2 h3 r⟩
  | _, _, .tuple h1 h2 h3 k => let ⟨_, r⟩ := RdSAll.reads k; ⟨_, .tuple h1 h2 h3 r⟩
  | _, _, .dict h1 h2 h3 _ k1 k2 => let ⟨_, r1⟩ := RdSAll.reads k1; let ⟨_, r2⟩ := RdSAll.reads k2; ⟨_, .dict h1 h2 h3 r1 r2⟩
theorem RdSAll.reads {h : Heap} : ∀ {vs : List Value} {ds : List PyData}, RdSAll h vs ds → ∃ as, ReadsAll h vs ds as
  | _, _, .nil => ⟨_, .nil⟩
  | _, _, .cons k r => let ⟨_, r1⟩ := RdS.reads k; let ⟨_, r2⟩ := RdSAll.reads r; ⟨_, .cons r1 r2⟩
end
section
variable {prog : Program} {w : World} {h₀ : Heap}
mutual
theorem RdS.shows : ∀ {v : Value} {d : PyData}, RdS h₀ v d → d.showable = true → d.shown.length ≤ sizeLine → ∃ bs, ReadAtMost h₀ d.depth bs ∧ ReprK prog w bs h₀ d.depth v d.shown
  | _, _, .plain r nd, sh, sz => ReprK.of_reads r sh (PyData.noDict_hsm nd) sz
  | _, _, .list (a := a) (vs := vs) (xs := xs) h1 h2 h3 k, sh, sz => by
    have sz2 : (listText (PyData.shownAll xs)).length ≤ sizeLine := by simpa only [PyData.shown] using sz
    obtain ⟨bs, b1, b2⟩ := RdSAll.shows k (by simpa [PyData.showable] using sh) fun t m => Nat.le_trans (listText_mem_le m) sz2
    obtain ⟨as, r0⟩ := RdSAll.reads k
    have r : Reads h₀ (.ref a) (.list xs) _ := .list h1 h2 h3 r0
    have deep : PyData.depthAll xs < (PyData.list xs).depth := by simp only [PyData.depth]; omega
    have out := not_mem_of_deeper r deep b1
    refine ⟨a :: bs, ReadAtMost.cons r (Nat.le_of_lt deep) b1, ?_⟩
    simp only [PyData.depth, PyData.shown]
    obtain ⟨l⟩ := vs
    cases l with
    | nil =>
      cases (show RdSAll h₀ [] xs from k)
      simp only [PyData.shownAll, listText_nil]
      exact ReprK.listEmpty h1 h2 h3
    | cons x l => exact ReprK.list h1 h2 h3 out (by simpa using b2.length_eq) fun i y e => b2.item i y (by simpa using e)
  | _, _, .tuple (a := a) (xs := xs) h1 h2 h3 k, sh, sz => by
    have sz2 : (tupleText (PyData.shownAll xs)).length ≤ sizeLine := by simpa only [PyData.shown] using sz
    obtain ⟨bs, b1, b2⟩ := RdSAll.shows k (by simpa [PyData.showable] using sh) fun t m => Nat.le_trans (tupleText_mem_le m) sz2
    obtain ⟨as, r0⟩ := RdSAll.reads k
    have r : Reads h₀ (.ref a) (.tuple xs) _ := .tuple h1 h2 h3 r0
    have deep : PyData.depthAll xs < (PyData.tuple xs).depth := by simp only [PyData.depth]; omega
    refine ⟨a :: bs, ReadAtMost.cons r (Nat.le_of_lt deep) b1, ?_⟩
    simp only [PyData.depth, PyData.shown]
    exact ReprK.tuple h1 h2 h3 (not_mem_of_deeper r deep b1) b2
  | _, _, .dict (a := a) (es := es) (kvs := kvs) h1 h2 h3 nsys k1 k2, sh, sz => by
    have sz2 : (dictText (PyData.shownKv kvs)).length ≤ sizeLine := by simpa only [PyData.shown] using sz
    obtain ⟨s1, s2⟩ := PyData.showableKv_split kvs (by simpa [PyData.showable] using sh)
    obtain ⟨bs, b1, b2⟩ := RdSAll.shows k1 s1 fun t m => let ⟨p, hp, hl⟩ := PyData.shownKv_key_le kvs t m; Nat.le_trans hl (Nat.le_trans (dictText_mem_le hp) sz2)
    obtain ⟨cs, c1, c2⟩ := RdSAll.shows k2 s2 fun t m => let ⟨p, hp, hl⟩ := PyData.shownKv_val_le kvs t m; Nat.le_trans hl (Nat.le_trans (dictText_mem_le hp) sz2)
    obtain ⟨as, r0⟩ := RdSAll.reads k1
    obtain ⟨as2, r1⟩ := RdSAll.reads k2
    have r : Reads h₀ (.ref a) (.dict kvs) _ := .dict h1 h2 h3 r0 r1
    have all : ReadAtMost h₀ (PyData.depthKv kvs) (bs ++ cs) := (b1.mono (PyData.depthAll_keys_le kvs)).append (c1.mono (PyData.depthAll_vals_le kvs))
    have deep : PyData.depthKv kvs < (PyData.dict kvs).depth := by simp only [PyData.depth]; omega
    refine ⟨a :: (bs ++ cs), ReadAtMost.cons r (Nat.le_of_lt deep) all, ?_⟩
    simp only [PyData.depth, PyData.shown, PyData.shownKv_eq]
    exact ReprK.dict h1 h2 h3 nsys (not_mem_of_deeper r deep all) (ReprEntriesK.of_two es.toList _ _
      (b2.more_le (fun b m => List.mem_append_left _ m) (PyData.depthAll_keys_le kvs)) (c2.more_le (fun b m => List.mem_append_right _ m) (PyData.depthAll_vals_le kvs)))
theorem RdSAll.shows : ∀ {vs : List Value} {ds : List PyData}, RdSAll h₀ vs ds → PyData.showableAll ds = true → (∀ t ∈ PyData.shownAll ds, t.length ≤ sizeLine) → ∃ bs, ReadAtMost h₀ (PyData.depthAll ds) bs ∧ ReprAllK prog w bs h₀ (PyData.depthAll ds) vs (PyData.shownAll ds)
  | _, _, .nil, _, _ => ⟨[], (fun _ m => nomatch m), by simp only [PyData.shownAll]; exact .nil⟩
  | _, _, .cons (d := d) (ds := ds) k r, sh, sz => by
    have sh2 : d.showable = true ∧ PyData.showableAll ds = true := by simpa [PyData.showableAll] using sh
    obtain ⟨bs, b1, b2⟩ := RdS.shows k sh2.1 (sz _ (by simp only [PyData.shownAll]; exact List.mem_cons_self ..))
    obtain ⟨cs, c1, c2⟩ := RdSAll.shows r sh2.2 fun t m => sz t (by simp only [PyData.shownAll]; exact List.mem_cons_of_mem _ m)
    have u1 : d.depth ≤ PyData.depthAll (d :: ds) := by simp only [PyData.depthAll]; omega
    have u2 : PyData.depthAll ds ≤ PyData.depthAll (d :: ds) := by simp only [PyData.depthAll]; omega
    refine ⟨bs ++ cs, (b1.mono u1).append (c1.mono u2), ?_⟩
    simp only [PyData.shownAll]
    exact .cons ((b2.more fun b m => List.mem_append_left _ m).level_le u1) (c2.more_le (fun b m => List.mem_append_right _ m) u2)
end
/-- repr of a tuple or a dict, where nothing is being shown -/
theorem repr_rdS {a : Addr} {d : PyData} {A : Around} {E : Value → Shared → Prop} {s : Shared} {Q : Value → Shared → Prop} (r : RdS s.heap (.ref a) d) (hd : d.hasDict = true) (sh : d.showable = true) (sz : d.shown.length ≤ sizeLine) (hg : A.guards = some []) (hu : A.units + (d.depth + 1) < cLine)
    (hQ : ∀ h' u tk, (∀ b o, s.heap.get? b = some o → h'.get? b = some o) → Q (.str d.shown u) { s with heap := h', toks := tk }) : wpAny (model prog w) A (call (.builtin "repr") [.ref a]) Q E s := by
  cases r with
  | plain r nd =>
    rw [nd] at hd
    cases hd
  | list h1 h2 h3 k =>
    rename_i o vs n xs
    have sz2 : (listText (PyData.shownAll xs)).length ≤ sizeLine := by simpa only [PyData.shown] using sz
    obtain ⟨bs, b1, b2⟩ := RdSAll.shows (prog := prog) (w := w) k (by simpa [PyData.showable] using sh) fun t m => Nat.le_trans (listText_mem_le m) sz2
    obtain ⟨as, r0⟩ := RdSAll.reads k
    have deep : PyData.depthAll xs < (PyData.list xs).depth := by simp only [PyData.depth]; omega
    have out := not_mem_of_deeper (.list h1 h2 h3 r0) deep b1
    simp only [PyData.depth] at hu
    simp only [PyData.shown] at hQ
    obtain ⟨l⟩ := vs
    cases l with
    | nil =>
      cases (show RdSAll s.heap [] xs from k)
      exact absurd hd (by decide)
    | cons x l =>
      exact call_repr_slot (by omega) ⟨o, h1, h2⟩ F.slot_list_repr.toG (call_list_reprK h1 h2 h3 out (by simpa using b2.length_eq) (fun i y e => b2.item i y (by simpa using e)) (A := A.in1) hg (fun b _ => Clear.nil b) (by show A.units + 1 + _ < cLine; omega) (fun _ _ e => e) (fun h' u tk up => ⟨_, _, rfl, hQ h' u tk up⟩) sz2)
  | tuple h1 h2 h3 k =>
    rename_i o vs n xs
    have sz2 : (tupleText (PyData.shownAll xs)).length ≤ sizeLine := by simpa only [PyData.shown] using sz
    obtain ⟨bs, b1, b2⟩ := RdSAll.shows (prog := prog) (w := w) k (by simpa [PyData.showable] using sh) fun t m => Nat.le_trans (tupleText_mem_le m) sz2
    obtain ⟨as, r0⟩ := RdSAll.reads k
    have deep : PyData.depthAll xs < (PyData.tuple xs).depth := by simp only [PyData.depth]; omega
    simp only [PyData.depth] at hu
    simp only [PyData.shown] at hQ
    exact call_repr_slot (by omega) ⟨o, h1, h2⟩ F.slot_tuple_repr (call_tuple_reprK h1 h2 h3 (not_mem_of_deeper (.tuple h1 h2 h3 r0) deep b1) b2 (A := A.in1) hg (fun b _ => Clear.nil b) (by show A.units + 1 + _ < cLine; omega) (fun _ _ e => e) (fun h' u tk up => ⟨_, _, rfl, hQ h' u tk up⟩) sz2)
  | dict h1 h2 h3 nsys k1 k2 =>
    rename_i o es n kvs
    have sz2 : (dictText (PyData.shownKv kvs)).length ≤ sizeLine := by simpa only [PyData.shown] using sz
    obtain ⟨s1, s2⟩ := PyData.showableKv_split kvs (by simpa [PyData.showable] using sh)
    obtain ⟨bs, b1, b2⟩ := RdSAll.shows (prog := prog) (w := w) k1 s1 fun t m => let ⟨p, hp, hl⟩ := PyData.shownKv_key_le kvs t m; Nat.le_trans hl (Nat.le_trans (dictText_mem_le hp) sz2)
    obtain ⟨cs, c1, c2⟩ := RdSAll.shows (prog := prog) (w := w) k2 s2 fun t m => let ⟨p, hp, hl⟩ := PyData.shownKv_val_le kvs t m; Nat.le_trans hl (Nat.le_trans (dictText_mem_le hp) sz2)
    obtain ⟨as, r0⟩ := RdSAll.reads k1
    obtain ⟨as2, r1⟩ := RdSAll.reads k2
    have all : ReadAtMost s.heap (PyData.depthKv kvs) (bs ++ cs) := (b1.mono (PyData.depthAll_keys_le kvs)).append (c1.mono (PyData.depthAll_vals_le kvs))
    have deep : PyData.depthKv kvs < (PyData.dict kvs).depth := by simp only [PyData.depth]; omega
    simp only [PyData.depth] at hu
    simp only [PyData.shown, PyData.shownKv_eq] at hQ
    exact call_repr_slot (by omega) ⟨o, h1, h2⟩ F.slot_dict_repr (call_dict_reprK h1 h2 h3 nsys (not_mem_of_deeper (.dict h1 h2 h3 r0 r1) deep all) (ReprEntriesK.of_two es.toList _ _
      (b2.more_le (fun b m => List.mem_append_left _ m) (PyData.depthAll_keys_le kvs)) (c2.more_le (fun b m => List.mem_append_right _ m) (PyData.depthAll_vals_le kvs))) (A := A.in1) hg (fun b _ => Clear.nil b) (by show A.units + 1 + _ < cLine; omega) (fun _ _ e => e) (fun h' u tk up => ⟨_, _, rfl, hQ h' u tk up⟩) (by rw [← PyData.shownKv_eq]; exact sz2))
end
end Lr
namespace Lr
open PySem PySem.Spec PyProof.Rows L2
/-- the data of a dict's key -/
def keyD : Key → PyData
  | .inl n => .int n
  | .inr s => .str s
mutual
/-- v is the data d, dicts among it -/
inductive Dq (K : PySem.W.Frag) (H : Hp) : V → PyData → Prop
  | dp {v : V} {d : PyData} : Dp K H v d → Dq K H v d
  | lst {a : Addr} {xs : List V} {ds : List PyData} : SqL K H a xs → DqAll K H xs ds → Dq K H (.ref a) (.list ds)
  | tup {a : Addr} {xs : List V} {ds : List PyData} : SqT K H a xs → DqAll K H xs ds → Dq K H (.ref a) (.tuple ds)
  | dT {a : Addr} {kvs : List (List Key × V)} {ds : List (PyData × PyData)} : H a = some (.dT kvs) → DqT K H kvs ds → Dq K H (.ref a) (.dict ds)
inductive DqAll (K : PySem.W.Frag) (H : Hp) : List V → List PyData → Prop
  | nil : DqAll K H [] []
  | cons {v : V} {vs : List V} {d : PyData} {ds : List PyData} : Dq K H v d → DqAll K H vs ds → DqAll K H (v :: vs) (d :: ds)
inductive DqT (K : PySem.W.Frag) (H : Hp) : List (List Key × V) → List (PyData × PyData) → Prop
  | nil : DqT K H [] []
  | cons {k : List Key} {v : V} {kvs : List (List Key × V)} {d : PyData} {ds : List (PyData × PyData)} : Dq K H v d → DqT K H kvs ds → DqT K H ((k, v) :: kvs) ((.tuple (k.map keyD), d) :: ds)
end
mutual
theorem dp_noDict {K : PySem.W.Frag} {H : Hp} : ∀ (d : PyData) (v : V), Dp K H v d → d.hasDict = false
  | .none, _, _ => rfl
  | .bool _, _, _ => rfl
  | .int _, _, _ => rfl
  | .str _, _, _ => rfl
  | .list ds, _, h => by
    cases h with
    | lst _ h2 => simpa [PyData.hasDict] using dps_noDict ds _ h2
  | .tuple ds, _, h => by
    cases h with
    | tup _ h2 => simpa [PyData.hasDict] using dps_noDict ds _ h2
  | .dict _, _, h => by cases h
theorem dps_noDict {K : PySem.W.Frag} {H : Hp} : ∀ (ds : List PyData) (vs : List V), DpAll K H vs ds → PyData.hasDictAll ds = false
  | [], _, _ => rfl
  | d :: ds, _, h => by
    cases h with
    | cons h1 h2 => simp [PyData.hasDictAll, dp_noDict d _ h1, dps_noDict ds _ h2]
end
theorem dp_keys {K : PySem.W.Frag} {H : Hp} : ∀ k : List Key, DpAll K H (k.map kV) (k.map keyD)
  | [] => .nil
  | .inl n :: k => .cons (.int n) (dp_keys k)
  | .inr s :: k => .cons (.str s) (dp_keys k)
section
variable {X : Cx} {pins : List (Addr × Obj)} {σ : L2.St} {H : Hp} {s : Shared}
theorem dp_rdS (I : Inv X pins σ H s) {v : V} {d : PyData} {u : Value} (h : Dp X.K H v d) (r : RelV v u) : RdS s.heap u d :=
  let ⟨_, z⟩ := Dp.reads I d v u h r
  .plain z (dp_noDict d v h)
mutual
theorem Dq.rdS (I : Inv X pins σ H s) : ∀ {v : V} {d : PyData} {u : Value}, Dq X.K H v d → RelV v u → RdS s.heap u d
  | _, _, _, .dp h, r => dp_rdS I h r
  | _, _, _, .lst hs ha, r => by
    cases r
    obtain ⟨its, rv, ⟨o, n, ho, hc, _, hd⟩, _⟩ := I.list hs
    exact .list ho hc hd (DqAll.rdS I ha rv)
  | _, _, _, .tup hs ha, r => by
    cases r
    obtain ⟨its, rv, ⟨o, ho, hc, n, hd⟩, _⟩ := I.tuple hs
    exact .tuple ho hc hd (DqAll.rdS I ha rv)
  | _, _, _, .dT hs ha, r => by
    cases r
    obtain ⟨_, y, xs, kt, o, es, ep, h1, h2, h3, h4, _⟩ := dt_of I.hok hs
    obtain ⟨k1, k2⟩ := DqT.rdS I ha kt
    refine .dict h1 h2.1 h3 y ?_ ?_
    · rw [h4, List.map_map]
      exact k1
    · rw [h4, List.map_map]
      exact k2
theorem DqAll.rdS (I : Inv X pins σ H s) : ∀ {vs : List V} {ds : List PyData} {us : List Value}, DqAll X.K H vs ds → Vals vs us → RdSAll s.heap us ds
  | _, _, _, .nil, r => by
    cases r
    exact .nil
  | _, _, _, .cons h t, r => by
    cases r with
    | cons r1 r2 => exact .cons (Dq.rdS I h r1) (DqAll.rdS I t r2)
theorem DqT.rdS (I : Inv X pins σ H s) : ∀ {kvs : List (List Key × V)} {ds : List (PyData × PyData)} {xs : List (List Key × Addr × Value)}, DqT X.K H kvs ds → KT H kvs xs →
    RdSAll s.heap (xs.map fun x => Value.ref x.2.1) (ds.map (·.1)) ∧ RdSAll s.heap (xs.map fun x => x.2.2) (ds.map (·.2))
  | _, _, _, .nil, r => by
    cases r
    exact ⟨.nil, .nil⟩
  | _, _, _, .cons (k := k) h t, r => by
    cases r with
    | cons r1 r2 =>
      obtain ⟨_, e, rv⟩ := r1
      obtain ⟨z1, z2⟩ := DqT.rdS I t r2
      exact ⟨.cons (dp_rdS I (.tup (SqT.of e) (dp_keys k)) rfl) z1, .cons (Dq.rdS I h rv) z2⟩
end
end
/-- repr of a tuple or a list or a dict, with dicts in it -/
def rReprQ (K : PySem.W.Frag) : List V → Hp → VK → Prop := fun xs H Q => ∃ (a : Addr) (d : PyData), xs = [.ref a] ∧ Dq K H (.ref a) d ∧ d.hasDict = true ∧ d.showable = true ∧ d.depth ≤ 60 ∧ d.shown.length ≤ sizeLine ∧ Q (.str d.shown) H
theorem call_reprQ {X : Cx} (hg : X.A.guards = some []) (hu : X.A.units + 66 < cLine) : CallR X (.builtin "repr") (rReprQ X.K) := by
  intro pins s σ H xs us Q I r h
  obtain ⟨a, d, rfl, hd, has, show_, dep, sz, q⟩ := h
  obtain ⟨u, rfl, rx⟩ := vals1 r
  obtain rfl : u = Value.ref a := rx
  exact repr_rdS (Dq.rdS I hd rfl) has show_ sz hg (by omega) fun h2 v tk up => ⟨.str _, H, I.kept up, ⟨v, rfl⟩, q⟩
/-! ### how long shown data is -/
mutual
/-- a bound of the length of what is shown -/
def wt : PyData → Nat
  | .none => 4
  | .bool _ => 5
  | .int i => (toString i : Str).length
  | .str s => (PySem.reprText s).length
  | .list xs => wtAll xs + 4
  | .tuple xs => wtAll xs + 4
  | .dict kvs => wtKv kvs + 4
def wtAll : List PyData → Nat
  | [] => 0
  | x :: xs => wt x + 2 + wtAll xs
def wtKv : List (PyData × PyData) → Nat
  | [] => 0
  | (k, v) :: r => wt k + wt v + 4 + wtKv r
end
theorem listText_piled (ts : List Str) : (listText ts).length ≤ piled ts + 4 := by
  have : ∀ (ts : List Str) (k : Nat) (acc : Str), (textFrom k acc ts).length ≤ acc.length + piled ts := by
    intro ts
    induction ts with
    | nil =>
      intro k acc
      rw [textFrom, piled_nil]
      exact Nat.le_refl _
    | cons t ts ih =>
      intro k acc
      have h1 := ih (k + 1) (acc ++ (if k > 0 then ", " else "" : String) ++ t)
      have h2 : (acc ++ (if k > 0 then ", " else "" : String) ++ t).length ≤ acc.length + 2 + t.length := by
        rw [strLen_append, strLen_append]
        have : ((if k > 0 then ", " else "" : String) : Str).length ≤ 2 := by
          split
          · exact Nat.le_refl 2
          · exact Nat.zero_le 2
        omega
      rw [textFrom, piled_cons]
      omega
  have h := this ts 0 "["
  have e1 : (("[" : String) : Str).length = 1 := rfl
  have e2 : (("]" : String) : Str).length = 1 := rfl
  unfold listText
  rw [strLen_append]
  omega
theorem joined_piled (ts : List Str) : (Str.join ", " ts).length ≤ piled ts := by
  by_cases h : ts = []
  · subst h
    exact Nat.zero_le _
  · have := join_length_add ts h
    omega
theorem tupleText_piled (ts : List Str) : (tupleText ts).length ≤ piled ts + 4 := by
  have h := joined_piled ts
  have e1 : (("(" : String) : Str).length = 1 := rfl
  have e2 : ((if ts.length == 1 then ",)" else ")" : String) : Str).length ≤ 2 := by
    split
    · exact Nat.le_refl 2
    · exact Nat.le_succ 1
  unfold tupleText
  rw [strLen_append, strLen_append]
  omega
theorem dictText_piled (ts : List Str) : (dictText ts).length ≤ piled ts + 4 := by
  have h := joined_piled ts
  have e1 : (("{" : String) : Str).length = 1 := rfl
  have e2 : (("}" : String) : Str).length = 1 := rfl
  unfold dictText
  rw [strLen_append, strLen_append]
  omega
mutual
theorem shown_wt : ∀ d : PyData, d.shown.length ≤ wt d
  | .none => by
    rw [PyData.shown, wt]
    exact Nat.le_refl _
  | .bool b => by
    rw [PyData.shown, wt]
    cases b
    · exact Nat.le_refl _
    · exact Nat.le_succ _
  | .int i => by
    rw [PyData.shown, wt]
    exact Nat.le_refl _
  | .str s => by
    rw [PyData.shown, wt]
    exact Nat.le_refl _
  | .list xs => by
    rw [PyData.shown, wt]
    have := listText_piled (PyData.shownAll xs)
    have := shownAll_wt xs
    omega
  | .tuple xs => by
    rw [PyData.shown, wt]
    have := tupleText_piled (PyData.shownAll xs)
    have := shownAll_wt xs
    omega
  | .dict kvs => by
    rw [PyData.shown, wt]
    have := dictText_piled (PyData.shownKv kvs)
    have := shownKv_wt kvs
    omega
theorem shownAll_wt : ∀ ds : List PyData, piled (PyData.shownAll ds) ≤ wtAll ds
  | [] => by
    rw [PyData.shownAll, wtAll, piled_nil]
    exact Nat.le_refl _
  | d :: ds => by
    rw [PyData.shownAll, wtAll, piled_cons]
    have := shown_wt d
    have := shownAll_wt ds
    omega
theorem shownKv_wt : ∀ ds : List (PyData × PyData), piled (PyData.shownKv ds) ≤ wtKv ds
  | [] => by
    rw [PyData.shownKv, wtKv, piled_nil]
    exact Nat.le_refl _
  | (k, v) :: ds => by
    rw [PyData.shownKv, wtKv, piled_cons]
    have := shown_wt k
    have := shown_wt v
    have := shownKv_wt ds
    have e : ((": " : String) : Str).length = 2 := rfl
    rw [strLen_append, strLen_append]
    omega
end
theorem wtAll_up {B : Nat} : ∀ {ds : List PyData}, (∀ d ∈ ds, wt d ≤ B) → wtAll ds ≤ (B + 2) * ds.length
  | [], _ => by
    rw [wtAll]
    exact Nat.zero_le _
  | d :: ds, h => by
    rw [wtAll, List.length_cons, Nat.mul_succ]
    have := h d List.mem_cons_self
    have := wtAll_up (ds := ds) fun x m => h x (List.mem_cons_of_mem _ m)
    omega
theorem wtKv_up {B : Nat} : ∀ {ds : List (PyData × PyData)}, (∀ d ∈ ds, wt d.1 + wt d.2 ≤ B) → wtKv ds ≤ (B + 4) * ds.length
  | [], _ => by
    rw [wtKv]
    exact Nat.zero_le _
  | (k, v) :: ds, h => by
    rw [wtKv, List.length_cons, Nat.mul_succ]
    have h1 : wt k + wt v ≤ B := h (k, v) List.mem_cons_self
    have := wtKv_up (ds := ds) fun x m => h x (List.mem_cons_of_mem _ m)
    omega
end Lr

set_option Elab.async false
set_option linter.all false
set_option maxRecDepth 100000
set_option maxHeartbeats 4000000
namespace Ld
open PySem PySem.Spec PyProof.Rows L2 Lg Lr
def topS (i : Nat) : Stmt := PySem.Challenge.pw_leastmend_k04_cutting_texts.main.body.getD i (.Pass ⟨0, 0, 0, 0⟩)
abbrev s_match_at : Stmt := topS 1
abbrev s__word_length : Stmt := topS 2
abbrev s__run_length : Stmt := topS 3
abbrev s_cut : Stmt := topS 4
abbrev s__sign_at : Stmt := topS 5
abbrev s_kinds_of_signs : Stmt := topS 6
abbrev s__law_draws : Stmt := topS 8
abbrev sDraws : Stmt := topS 8
abbrev s__law_at : Stmt := topS 9
abbrev sAt : Stmt := topS 9
abbrev s__law_is_integer : Stmt := topS 10
abbrev sLInt : Stmt := topS 10
abbrev s__law_mix : Stmt := topS 11
abbrev sMix : Stmt := topS 11
abbrev s__law_lexicon : Stmt := topS 12
abbrev s__law_text : Stmt := topS 13
abbrev s__law_match : Stmt := topS 14
abbrev s__law_cut : Stmt := topS 15
abbrev s_law : Stmt := topS 16
abbrev sLaw : Stmt := topS 16
section
variable {P : Program} {w : World} {K : PySem.W.Frag} {mg : Str → Option Value} {base : Heap}
/-! ### the law's own draws -/
theorem scDr : FnScope ["script", "draws", "k", "rest", "turn", "mixed"] ["script"] (defScope sDraws) := ⟨rfl, rfl, rfl, by decide +kernel, rfl, by decide +kernel, by decide +kernel⟩
/-- a new list of the draws; what stood stands -/
def spDraws (K : PySem.W.Frag) : Sp := fun vs H Q _ => ∃ (a : Addr) (ns : List Int), vs = [.ref a] ∧ SqL K H a (ns.map V.int) ∧ ns.length ≤ 63 ∧
  ∀ p, H p = none → Q (.ref p) (upd H p (.lst ((drawsOf ns).map V.int)))
theorem ok_draws {f : Addr} {fd : FuncData} {k : Nat} (F : Fun K "_law_draws" "_law_draws" sDraws f fd) (mr : mg "range" = none) (mm : mg "min" = none) (ml : mg "len" = none) (ma : mg "abs" = none) (mi : mg "int" = none) :
    FnOk P w K mg base CX0 (k + 1) f fd ["script"] (spDraws K) := by
  refine F.ok scDr (fun vs H Q E h => ?_) (fun cdv A outer s H vs Q E hr h => ?_)
  · obtain ⟨a, ns, rfl, _⟩ := h
    rfl
  · obtain ⟨a, ns, rfl, hS, hlen, q⟩ := h
    refine ⟨_, pss_cons (ps_set (i := 1) scDr.nd rfl (.inl rfl) (pe_lst pa_nil))
      (pss_cons (ps_for PassesOwn.never rfl (pi_range1 rfl mr (pa_cons (pe_callB (call_min2 rfl) (by rfl) mm (by decide +kernel) (pa_cons pe_int (pa_cons (pe_callB call_len_seq (by rfl) ml PySem.boot_len (pa_cons (pv 0) pa_nil)) pa_nil))) pa_nil))
          (pg_name (i := 2) scDr.nd rfl (.inl rfl))
        (pss_cons (ps_set (i := 3) scDr.nd rfl (.inl rfl) (pe_callB call_abs (by rfl) ma (by decide +kernel) (pa_cons (pe_ix ix_list (pv 0) (pv 2) (fun _ _ => rfl)) pa_nil)))
        (pss_one (ps_if (pt_cmpR op_ge (pv 3) (pe_op op_pow pe_int pe_int) (nomark _))
          (pss_one (ps_for PassesOwn.never rfl (pi_range1 rfl mr (pa_cons pe_int pa_nil)) (pg_name (i := 4) scDr.nd rfl (.inl rfl))
            (pss_one (ps_if (pt_cmpR op_gt (pv 3) pe_int (nomark _))
              (pss_cons (ps_expr (pe_bm PySem.F.plainAttrs_list PySem.F.slot_list_append PySem.F.type_list_append mt_append (pv 1) (pa_cons (pe_op op_mod (pe_callTy call_int1 (by rfl) mi (by decide +kernel) (pa_cons (pv 3) pa_nil)) pe_int) pa_nil)))
              (pss_one (ps_set (i := 3) scDr.nd rfl (.inl rfl) (pe_op op_fdiv (pv 3) pe_int)))) pss_nil))))
          (pss_cons (ps_set (i := 5) scDr.nd rfl (.inl rfl) (pe_op op_mod (pe_callTy call_int1 (by rfl) mi (by decide +kernel) (pa_cons (pe_op op_add (pe_op op_mul (pv 3) pe_int) (pe_op op_mul (pe_op op_add (pv 2) pe_int) pe_int)) pa_nil)) pe_int))
          (pss_cons (ps_set (i := 5) scDr.nd rfl (.inl rfl) (pe_op op_mod (pe_callTy call_int1 (by rfl) mi (by decide +kernel) (pa_cons (pe_op op_add (pe_op op_add (pe_op op_mul (pv 5) pe_int) (pe_op op_mul pe_int (pv 2))) pe_int) pa_nil)) pe_int))
          (pss_cons (ps_expr (pe_bm PySem.F.plainAttrs_list PySem.F.slot_list_append PySem.F.type_list_append mt_append (pv 1) (pa_cons (pe_op op_mod (pe_callTy call_int1 (by rfl) mi (by decide +kernel) (pa_cons (pv 5) pa_nil)) pe_int) pa_nil)))
          (pss_one (ps_expr (pe_bm PySem.F.plainAttrs_list PySem.F.slot_list_append PySem.F.type_list_append mt_append (pv 1) (pa_cons (pe_op op_mod (pe_callTy call_int1 (by rfl) mi (by decide +kernel) (pa_cons (pe_op op_fdiv (pv 5) pe_int) pa_nil)) pe_int) pa_nil)))))))))))
      (pss_one (ps_ret (pv 1)))), ?_⟩
    -- draws = []
    refine ⟨Nat.zero_le _, fun o no => ?_⟩
    have s1 : Same H (upd H o (.lst [])) := same_upd no
    have nao : ∀ G : HO, SqL K (upd H o G) a (ns.map V.int) := fun G => (same_upd no).seq hS
    have hi62 : (ns.length : Int) < 2 ^ 62 := by omega
    -- range(min(63, len(script)))
    have ej : (if ((ns.map V.int).length : Int) < 63 then ((ns.map V.int).length : Int) else 63) = (ns.length : Int) := by
      rw [List.length_map]
      split <;> omega
    refine ⟨.ref a, rfl, a, ns.map V.int, rfl, .inl (s1.seq hS), 63, _, rfl, _, rfl, by rw [ej]; omega, by rw [ej]; omega, ?_⟩
    rw [ej]
    refine for_range (lo := 0) (n := ns.length) (fun i σ H' => ∃ v2 v3 v4 v5, σ = [some (.ref a), some (.ref o), v2, v3, v4, v5] ∧ H' = upd H o (.lst ((drawsN ns i).map V.int))) ⟨none, none, none, none, rfl, rfl⟩ ?_ ?_
    · rintro i σ H' hi ⟨v2, v3, v4, v5, rfl, rfl⟩
      have gi := getI hi
      have hSi := nao (.lst ((drawsN ns i).map V.int))
      have hl := drawsN_len ns i
      -- rest = abs(script[k])
      refine ⟨.ref a, rfl, _, rfl, a, _, _, _, rfl, rfl, hSi, at_of (j := i) (by omega) gi, ns.getD i 0, rfl, ?_⟩
      rw [Int.zero_add]
      refine ⟨_, rfl, _, _, rfl, rfl, ⟨by decide, by decide, by decide⟩, _, _, rfl, rfl, _, rfl, ite2 (fun c => ?_) (fun c => ?_)⟩
      · -- the digits
        have c1 : (10 : Int) ^ (18 : Int).toNat ≤ dabs (ns.getD i 0) := of_decide_eq_true c
        have e1 : drawsN ns (i + 1) = (diter 60 (dabs (ns.getD i 0), drawsN ns i)).2 := if_pos c1
        refine ⟨60, rfl, by decide, by decide, for_range (lo := 0) (n := 60) (fun j σ H' => ∃ v4, σ = [some (.ref a), some (.ref o), some (.int i), some (.int (diter j (dabs (ns.getD i 0), drawsN ns i)).1), v4, v5] ∧ H' = upd H o (.lst ((diter j (dabs (ns.getD i 0), drawsN ns i)).2.map V.int)))
          ⟨v4, rfl, rfl⟩ ?_ ?_⟩
        · rintro j σ H' hj ⟨w4, rfl, rfl⟩
          have hl2 := diter_len (dabs (ns.getD i 0), drawsN ns i) j
          generalize hp : diter j (dabs (ns.getD i 0), drawsN ns i) = p at hl2
          have e2 : diter (j + 1) (dabs (ns.getD i 0), drawsN ns i) = dstep p := by rw [← hp]; rfl
          refine ⟨_, rfl, _, _, rfl, rfl, _, rfl, ite2 (fun c2 => ?_) (fun c2 => ?_)⟩
          · have e3 : dstep p = (p.1 / 65536, p.2 ++ [p.1 % 65536]) := if_pos (of_decide_eq_true c2)
            refine ⟨.ref o, rfl, .inl ⟨rfl, _, SqL.of upd_same⟩, _, rfl, .inl ⟨_, rfl, _, _, rfl, rfl, (by show (0 : Int) < 65536; decide), o, _, _, rfl, rfl, upd_same, ?_, _, rfl, _, _, rfl, rfl, ⟨by decide, by decide⟩, some (.int (0 + j)), ?_, ?_⟩⟩
            · rw [List.length_map]
              refine small4000 ?_
              have hl3 : (drawsN ns i).length ≤ 60 * i := hl
              have hl4 : p.2.length ≤ (drawsN ns i).length + j := hl2
              omega
            · rw [e2, e3]
              rfl
            · rw [e2, e3, upd_upd, List.map_append]
              rfl
          · have e3 : dstep p = p := if_neg fun z => c2 (decide_eq_true z)
            refine ⟨some (.int (0 + j)), ?_, ?_⟩
            · rw [e2, e3]
              rfl
            · rw [e2, e3]
        · rintro σ H' ⟨w4, rfl, rfl⟩
          exact ⟨_, _, _, _, rfl, by rw [e1]⟩
      · -- two mixed numbers
        have e1 : drawsN ns (i + 1) = drawsN ns i ++ [dmix2 i (dabs (ns.getD i 0)) % 65536] ++ [dmix2 i (dabs (ns.getD i 0)) / 65536 % 32768] := if_neg fun z => c (decide_eq_true z)
        refine ⟨_, rfl, _, _, rfl, rfl, .inr ⟨by decide, by decide⟩, _, rfl, _, _, rfl, rfl, _, _, rfl, rfl, .inr ⟨by decide, by decide⟩, _, _, rfl, rfl, .inl ⟨_, rfl, _, _, rfl, rfl, (by show (0 : Int) < 2147483647; decide), ?_⟩⟩
        refine ⟨_, rfl, _, _, rfl, rfl, .inr ⟨by decide, by decide⟩, _, rfl, _, _, rfl, rfl, .inl ⟨by decide, by decide⟩, _, _, rfl, rfl, _, _, rfl, rfl, .inl ⟨_, rfl, _, _, rfl, rfl, (by show (0 : Int) < 2147483629; decide), ?_⟩⟩
        refine ⟨.ref o, rfl, .inl ⟨rfl, _, SqL.of upd_same⟩, _, rfl, .inl ⟨_, rfl, _, _, rfl, rfl, (by show (0 : Int) < 65536; decide), o, _, _, rfl, rfl, upd_same, ?_, ?_⟩⟩
        · rw [List.length_map]
          exact small4000 (by omega)
        refine ⟨.ref o, rfl, .inl ⟨rfl, _, SqL.of upd_same⟩, _, rfl, _, _, rfl, rfl, ⟨by decide, by decide⟩, .inl ⟨_, rfl, _, _, rfl, rfl, (by show (0 : Int) < 32768; decide), o, _, _, rfl, rfl, upd_same, ?_, ?_⟩⟩
        · rw [List.length_append, List.length_map]
          exact small4000 (by show (drawsN ns i).length + 1 ≤ 4000; omega)
        refine ⟨_, _, _, _, rfl, ?_⟩
        rw [e1, upd_upd, upd_upd, List.map_append, List.map_append]
        rfl
    · rintro σ H' ⟨v2, v3, v4, v5, rfl, rfl⟩
      exact ⟨.ref o, rfl, q o no⟩
/-! ### a draw below many -/
theorem scAt : FnScope ["draws", "k", "many"] ["draws", "k", "many"] (defScope sAt) := ⟨rfl, rfl, rfl, by decide +kernel, rfl, by decide +kernel, by decide +kernel⟩
def spAt (K : PySem.W.Frag) : Sp := fun vs H Q _ => ∃ (a : Addr) (ds : List Int) (k many : Int), vs = [.ref a, .int k, .int many] ∧ SqL K H a (ds.map V.int) ∧ 0 ≤ k ∧ 0 < many ∧ Q (.int (atD ds k many)) H
theorem ok_at {f : Addr} {fd : FuncData} {k : Nat} (F : Fun K "_law_at" "_law_at" sAt f fd) (ml : mg "len" = none) (mi : mg "int" = none) :
    FnOk P w K mg base CX0 (k + 1) f fd ["draws", "k", "many"] (spAt K) := by
  refine F.ok scAt (fun vs H Q E h => ?_) (fun cdv A outer s H vs Q E hr h => ?_)
  · obtain ⟨a, ds, k, many, rfl, _⟩ := h
    rfl
  · obtain ⟨a, ds, k, many, rfl, hS, h0, hm, q⟩ := h
    refine ⟨_, pss_cons (ps_if (pt_cmpR op_lt (pv 1) (pe_callB call_len_seq (by rfl) ml PySem.boot_len (pa_cons (pv 0) pa_nil)) (nomark _))
        (pss_one (ps_ret (pe_op op_mod (pe_callTy call_int1 (by rfl) mi (by decide +kernel) (pa_cons (pe_ix ix_list (pv 0) (pv 1) (fun _ _ => rfl)) pa_nil)) (pv 2)))) pss_nil)
      (pss_one (ps_ret pe_int)), ?_⟩
    refine ⟨_, rfl, _, rfl, a, _, rfl, .inl hS, _, _, rfl, rfl, _, rfl, ite2 (fun c => ?_) (fun c => ?_)⟩
    · have c1 : k < ((ds.map V.int).length : Int) := of_decide_eq_true c
      rw [List.length_map] at c1
      have gi := getI (ns := ds) (i := k.toNat) (by omega)
      refine ⟨_, rfl, _, rfl, a, _, _, _, rfl, rfl, hS, at_of (j := k.toNat) (by omega) gi, .inl ⟨_, rfl, _, rfl, _, _, rfl, rfl, hm, ?_⟩⟩
      have e : atD ds k many = ds.getD k.toNat 0 % many := if_pos c1
      show Q (.int (ds.getD k.toNat 0 % many)) H
      rw [← e]
      exact q
    · have c1 : ¬ k < ((ds.map V.int).length : Int) := fun z => c (decide_eq_true z)
      rw [List.length_map] at c1
      have e : atD ds k many = 0 := if_neg c1
      show Q (.int 0) H
      rw [← e]
      exact q
theorem units1 {k : Nat} {A : Around} (h : Room k A) : A.units + 1 < cLine := by
  have := h.un
  omega
theorem units64 {k : Nat} {A : Around} (h : Room k A) : A.units + 64 < cLine := by
  have := h.un
  omega
theorem units66 {k : Nat} {A : Around} (h : Room k A) : A.units + 66 < cLine := by
  have := h.un
  omega
theorem units120 {k : Nat} {A : Around} (h : Room k A) : A.units + 120 < cLine := by
  have := h.un
  omega
end
end Ld

set_option Elab.async false
set_option linter.all false
set_option maxRecDepth 100000
set_option maxHeartbeats 4000000
namespace Ld
open PySem PySem.Spec PyProof.Rows L2 Lg
section
variable {P : Program} {w : World} {K : PySem.W.Frag} {mg : Str → Option Value} {base : Heap}
/-! ### _law_mix -/
theorem scMx : FnScope ["draws", "k", "many", "value"] ["draws", "k", "many"] (defScope sMix) := ⟨rfl, rfl, rfl, by decide +kernel, rfl, by decide +kernel, by decide +kernel⟩
def spMix (K : PySem.W.Frag) : Sp := fun vs H Q _ => ∃ (a : Addr) (ds : List Int) (k many : Int), vs = [.ref a, .int k, .int many] ∧ SqL K H a (ds.map V.int) ∧ 0 < many ∧ ∀ v, 0 ≤ v → v < many → Q (.int v) H
theorem ok_mix {f : Addr} {fd : FuncData} (F : Fun K "_law_mix" "_law_mix" sMix f fd) (ml : mg "len" = none) (mi : mg "int" = none) : FnOk P w K mg base CX0 1 f fd ["draws", "k", "many"] (spMix K) := by
  refine F.ok scMx (fun vs H Q E h => ?_) (fun cdv A outer s H vs Q E hr h => ?_)
  · obtain ⟨a, ds, k, many, rfl, _⟩ := h
    rfl
  · obtain ⟨a, ds, k, many, rfl, hS, hm, q⟩ := h
    refine ⟨_, pss_cons (ps_set (i := 3) scMx.nd rfl (.inl rfl) pe_int)
      (pss_cons (ps_if (pt_cmpR op_gt (pe_callB call_len_seq (by rfl) ml PySem.boot_len (pa_cons (pv 0) pa_nil)) pe_int (nomark _))
        (pss_one (ps_set (i := 3) scMx.nd rfl (.inl rfl) (pe_ix ix_list (pv 0) (pe_op op_mod (pe_callTy call_int1 (by rfl) mi (by decide +kernel) (pa_cons (pv 1) pa_nil)) (pe_callB call_len_seq (by rfl) ml PySem.boot_len (pa_cons (pv 0) pa_nil))) (fun _ _ => rfl)))) pss_nil)
      (pss_cons (ps_if (pt_cmpR op_lt (pv 1) (pe_callB call_len_seq (by rfl) ml PySem.boot_len (pa_cons (pv 0) pa_nil)) (nomark _))
        (pss_one (ps_ret (pe_op op_mod (pe_callTy call_int1 (by rfl) mi (by decide +kernel) (pa_cons (pv 3) pa_nil)) (pv 2)))) pss_nil)
      (pss_one (ps_ret (pe_op op_mod (pe_callTy call_int1 (by rfl) mi (by decide +kernel) (pa_cons (pe_op op_fdiv (pe_callTy call_int1 (by rfl) mi (by decide +kernel) (pa_cons (pe_op op_add (pe_op op_mul (pv 3) pe_int) (pe_op op_mul (pv 1) pe_int)) pa_nil)) pe_int) pa_nil)) (pv 2)))))), ?_⟩
    have fin : ∀ x : Int, Q (.int (x % many)) H := fun x => q _ (Int.emod_nonneg _ (by omega)) (Int.emod_lt_of_pos _ hm)
    refine ⟨_, rfl, a, _, rfl, .inl hS, _, _, rfl, rfl, _, rfl, ite2 (fun c => ?_) (fun c => ?_)⟩
    · have c1 : (0 : Int) < ((ds.map V.int).length : Int) := of_decide_eq_true c
      have lo := Int.emod_nonneg k (b := ((ds.map V.int).length : Int)) (by omega)
      have hi := Int.emod_lt_of_pos k c1
      have gi := getI (ns := ds) (i := (k % ((ds.map V.int).length : Int)).toNat) (by rw [List.length_map] at *; omega)
      refine ⟨_, rfl, _, rfl, .inl ⟨_, rfl, _, rfl, a, _, rfl, .inl hS, _, _, rfl, rfl, c1, a, _, _, _, rfl, rfl, hS, at_of (j := (k % ((ds.map V.int).length : Int)).toNat) (by omega) gi, ?_⟩⟩
      refine ⟨_, rfl, _, rfl, a, _, rfl, .inl hS, _, _, rfl, rfl, _, rfl, ite2 (fun c => ?_) (fun c => ?_)⟩
      · exact ⟨_, rfl, .inl ⟨_, rfl, _, rfl, _, _, rfl, rfl, hm, fin _⟩⟩
      · exact ⟨_, rfl, _, _, rfl, rfl, .inr ⟨by decide, by decide⟩, _, rfl, _, _, rfl, rfl, .inr ⟨by decide, by decide⟩, _, _, rfl, rfl, .inl ⟨_, rfl, _, _, rfl, rfl, ⟨by decide, by decide⟩, .inl ⟨_, rfl, _, rfl, _, _, rfl, rfl, hm, fin _⟩⟩⟩
    · refine ⟨_, rfl, _, rfl, a, _, rfl, .inl hS, _, _, rfl, rfl, _, rfl, ite2 (fun c => ?_) (fun c => ?_)⟩
      · exact ⟨_, rfl, .inl ⟨_, rfl, _, rfl, _, _, rfl, rfl, hm, fin _⟩⟩
      · exact ⟨_, rfl, _, _, rfl, rfl, .inr ⟨by decide, by decide⟩, _, rfl, _, _, rfl, rfl, .inr ⟨by decide, by decide⟩, _, _, rfl, rfl, .inl ⟨_, rfl, _, _, rfl, rfl, ⟨by decide, by decide⟩, .inl ⟨_, rfl, _, rfl, _, _, rfl, rfl, hm, fin _⟩⟩⟩
end
end Ld

set_option Elab.async false
set_option linter.all false
set_option maxRecDepth 100000
set_option maxHeartbeats 4000000
/-! Lists of values that bear lists of things; cuts of lists. -/
namespace Ld
open PySem PySem.Spec PyProof.Rows L2
def Rel2 {α : Type} (R : V → α → Prop) : List V → List α → Prop
  | [], [] => True
  | v :: vs, x :: xs => R v x ∧ Rel2 R vs xs
  | _, _ => False
section
variable {α : Type} {R S : V → α → Prop}
theorem Rel2.mono (h : ∀ v x, R v x → S v x) : ∀ {vs : List V} {xs : List α}, Rel2 R vs xs → Rel2 S vs xs
  | [], [], _ => True.intro
  | _ :: _, _ :: _, q => ⟨h _ _ q.1, Rel2.mono h q.2⟩
  | [], _ :: _, q => q.elim
  | _ :: _, [], q => q.elim
theorem Rel2.len : ∀ {vs : List V} {xs : List α}, Rel2 R vs xs → vs.length = xs.length
  | [], [], _ => rfl
  | _ :: _, _ :: _, q => by rw [List.length_cons, List.length_cons, Rel2.len q.2]
  | [], _ :: _, q => q.elim
  | _ :: _, [], q => q.elim
theorem Rel2.get : ∀ {vs : List V} {xs : List α} {i : Nat} {v : V}, Rel2 R vs xs → vs[i]? = some v → ∃ x, xs[i]? = some x ∧ R v x
  | _ :: _, x :: _, 0, _, q, e => by
    cases e
    exact ⟨x, rfl, q.1⟩
  | _ :: _, _ :: _, i + 1, _, q, e => Rel2.get (i := i) q.2 e
  | [], _, _, _, _, e => by cases e
  | _ :: _, [], _, _, q, _ => q.elim
theorem Rel2.at {vs : List V} {xs : List α} {i : Nat} {x : α} (q : Rel2 R vs xs) (e : xs[i]? = some x) : ∃ v, vs[i]? = some v ∧ R v x := by
  have hi : i < vs.length := by rw [q.len]; exact (List.getElem?_eq_some_iff.mp e).1
  obtain ⟨y, e2, r⟩ := q.get (List.getElem?_eq_getElem hi)
  rw [e] at e2
  cases e2
  exact ⟨_, List.getElem?_eq_getElem hi, r⟩
theorem Rel2.app : ∀ {vs ws : List V} {xs ys : List α}, Rel2 R vs xs → Rel2 R ws ys → Rel2 R (vs ++ ws) (xs ++ ys)
  | [], _, [], _, _, r => r
  | _ :: _, _, _ :: _, _, q, r => ⟨q.1, Rel2.app q.2 r⟩
  | [], _, _ :: _, _, q, _ => q.elim
  | _ :: _, _, [], _, q, _ => q.elim
theorem Rel2.snoc {vs : List V} {xs : List α} {v : V} {x : α} (q : Rel2 R vs xs) (r : R v x) : Rel2 R (vs ++ [v]) (xs ++ [x]) := q.app ⟨r, True.intro⟩
theorem Rel2.take : ∀ {vs : List V} {xs : List α} (n : Nat), Rel2 R vs xs → Rel2 R (vs.take n) (xs.take n)
  | _, _, 0, _ => True.intro
  | [], [], _ + 1, _ => True.intro
  | _ :: _, _ :: _, n + 1, q => ⟨q.1, Rel2.take n q.2⟩
  | [], _ :: _, _ + 1, q => q.elim
  | _ :: _, [], _ + 1, q => q.elim
theorem Rel2.drop : ∀ {vs : List V} {xs : List α} (n : Nat), Rel2 R vs xs → Rel2 R (vs.drop n) (xs.drop n)
  | _, _, 0, q => q
  | [], [], _ + 1, _ => True.intro
  | _ :: _, _ :: _, n + 1, q => Rel2.drop n q.2
  | [], _ :: _, _ + 1, q => q.elim
  | _ :: _, [], _ + 1, q => q.elim
theorem Rel2.reverse : ∀ {vs : List V} {xs : List α}, Rel2 R vs xs → Rel2 R vs.reverse xs.reverse
  | [], [], _ => True.intro
  | v :: vs, x :: xs, q => by
    rw [List.reverse_cons, List.reverse_cons]
    exact (Rel2.reverse q.2).snoc q.1
  | [], _ :: _, q => q.elim
  | _ :: _, [], q => q.elim
theorem Rel2.map {β : Type} {T : V → β → Prop} {g : α → β} (h : ∀ v x, R v x → T v (g x)) : ∀ {vs : List V} {xs : List α}, Rel2 R vs xs → Rel2 T vs (xs.map g)
  | [], [], _ => True.intro
  | _ :: _, _ :: _, q => ⟨h _ _ q.1, Rel2.map h q.2⟩
  | [], _ :: _, q => q.elim
  | _ :: _, [], q => q.elim
theorem Rel2.dp {K : PySem.W.Frag} {H : Hp} {D : α → PyData} (h : ∀ v x, R v x → Dp K H v (D x)) : ∀ {vs : List V} {xs : List α}, Rel2 R vs xs → DpAll K H vs (xs.map D)
  | [], [], _ => .nil
  | _ :: _, _ :: _, q => .cons (h _ _ q.1) (Rel2.dp h q.2)
  | [], _ :: _, q => q.elim
  | _ :: _, [], q => q.elim
end
theorem cut_from {vs : List V} {n : Nat} : cutV vs (some (n : Int)) none = vs.drop n := by
  unfold cutV
  rw [HT.sIx_nat, HT.sIx_none]
  by_cases h : n ≤ vs.length
  · rw [Nat.min_eq_left h, List.take_of_length_le (by rw [List.length_drop]; exact Nat.le_refl _)]
  · have h := Nat.le_of_lt (Nat.lt_of_not_le h)
    rw [Nat.min_eq_right h, List.drop_of_length_le h, List.drop_of_length_le (Nat.le_refl _), List.take_nil]
theorem cut_to {vs : List V} {n : Nat} : cutV vs none (some (n : Int)) = vs.take n := by
  unfold cutV
  rw [HT.sIx_nat, HT.sIx_none, Nat.sub_zero, List.drop_zero]
  by_cases h : n ≤ vs.length
  · rw [Nat.min_eq_left h]
  · have h := Nat.le_of_lt (Nat.lt_of_not_le h)
    rw [Nat.min_eq_right h, List.take_of_length_le h, List.take_of_length_le (Nat.le_refl _)]
theorem cut_mid {vs : List V} {i k : Nat} (h : k ≤ vs.length) (h2 : i ≤ k) : cutV vs (some (i : Int)) (some (k : Int)) = (vs.drop i).take (k - i) := by
  unfold cutV
  rw [HT.sIx_nat, HT.sIx_nat, Nat.min_eq_left h, Nat.min_eq_left (Nat.le_trans h2 h)]
end Ld

set_option Elab.async false
set_option linter.all false
set_option maxRecDepth 100000
set_option maxHeartbeats 4000000
/-! Prices: mathematics, and how they lie in the heap. -/
namespace Ld
open PySem PySem.Spec PyProof.Rows L2 Lr
abbrev sk (s : Str) : Key := Sum.inr s
def P3 : List Str := ["A", "BB", "C"]
def P4 : List Str := ["A", "BB", "C", "OTHER"]
structure Prc where
  put : Int
  out : Int
  chg : Int
  ex : List (List Key × V)
def exOk (k : List Key) : Prop := (∃ a ∈ P3, k = [sk "put", sk a]) ∨ (∃ a ∈ P4, k = [sk "out", sk a]) ∨ ∃ a ∈ P4, ∃ b ∈ P3, a ≠ b ∧ k = [sk "change", sk a, sk b]
structure PrcOk (Z : Prc) : Prop where
  put : 1 ≤ Z.put ∧ Z.put ≤ 1000
  out : 1 ≤ Z.out ∧ Z.out ≤ 1000
  chg : 1 ≤ Z.chg ∧ Z.chg ≤ 1000
  ex : ∀ p ∈ Z.ex, exOk p.1 ∧ ∃ i : Int, 1 ≤ i ∧ i ≤ 1000 ∧ p.2 = .int i
  nd : (Z.ex.map (·.1)).Nodup
  few : Z.ex.length ≤ 5
/-- the number at a key, or another -/
def exI (Z : Prc) (k : List Key) (d : Int) : Int := match valV Z.ex k with
  | some (.int i) => i
  | _ => d
def putP (Z : Prc) (k : Str) : Int := exI Z [sk "put", sk k] Z.put
def outP (Z : Prc) (k : Str) : Int := exI Z [sk "out", sk k] Z.out
def chgP (Z : Prc) (a b : Str) : Int := if a = b then 0 else exI Z [sk "change", sk a, sk b] Z.chg
/-- the sum of the prices of leaving out -/
def outsP (Z : Prc) (ks : List Str) : Int := (ks.map (outP Z)).sum
/-- the price of the leaf of k over the stretch from i to j -/
def leafP (Z : Prc) (row : List Str) (k : Str) (i j : Nat) : Int :=
  if i = j then putP Z k else outsP Z ((row.drop i).take (j - 1 - i)) + chgP Z (row.getD (j - 1) "") k
theorem valV_from {κ : Type} [DecidableEq κ] {kvs : List (κ × V)} {k : κ} {v : V} (h : valV kvs k = some v) : (k, v) ∈ kvs := by
  unfold valV at h
  obtain ⟨p, hp, e⟩ := Option.map_eq_some_iff.mp h
  have e1 := List.find?_some hp
  have e2 : p.1 = k := of_decide_eq_true e1
  have m := List.mem_of_find?_eq_some hp
  rw [← e, ← e2]
  exact m
theorem exI_is {Z : Prc} (ok : PrcOk Z) (k : List Key) (d : Int) : (valV Z.ex k).getD (.int d) = .int (exI Z k d) := by
  unfold exI
  cases e : valV Z.ex k with
  | none => rfl
  | some v =>
    obtain ⟨_, i, _, _, rfl⟩ := ok.ex _ (valV_from e)
    rfl
theorem exI_in {Z : Prc} (ok : PrcOk Z) (k : List Key) {d : Int} (h : 1 ≤ d ∧ d ≤ 1000) : 1 ≤ exI Z k d ∧ exI Z k d ≤ 1000 := by
  unfold exI
  cases e : valV Z.ex k with
  | none => exact h
  | some v =>
    obtain ⟨_, i, h1, h2, e2⟩ := ok.ex _ (valV_from e)
    dsimp only at e2
    rw [e2]
    exact ⟨h1, h2⟩
theorem putP_in {Z : Prc} (ok : PrcOk Z) (k : Str) : 1 ≤ putP Z k ∧ putP Z k ≤ 1000 := exI_in ok _ ok.put
theorem outP_in {Z : Prc} (ok : PrcOk Z) (k : Str) : 1 ≤ outP Z k ∧ outP Z k ≤ 1000 := exI_in ok _ ok.out
theorem chgP_in {Z : Prc} (ok : PrcOk Z) (a b : Str) : 0 ≤ chgP Z a b ∧ chgP Z a b ≤ 1000 := by
  unfold chgP
  split
  · exact ⟨by decide, by decide⟩
  · have := exI_in ok [sk "change", sk a, sk b] ok.chg
    exact ⟨by omega, this.2⟩
theorem outsP_in {Z : Prc} (ok : PrcOk Z) : ∀ ks : List Str, 0 ≤ outsP Z ks ∧ outsP Z ks ≤ 1000 * ks.length
  | [] => ⟨Int.le_refl 0, Int.le_refl 0⟩
  | k :: ks => by
    have h1 := outP_in ok k
    have h2 := outsP_in ok ks
    unfold outsP at h2 ⊢
    rw [List.map_cons, List.sum_cons, List.length_cons]
    omega
theorem leafP_in {Z : Prc} (ok : PrcOk Z) (row : List Str) (k : Str) (i j : Nat) : 0 ≤ leafP Z row k i j ∧ leafP Z row k i j ≤ 1000 * (row.length + 1) := by
  unfold leafP
  split
  · have := putP_in ok k
    omega
  · have h1 := outsP_in ok ((row.drop i).take (j - 1 - i))
    have h2 := chgP_in ok (row.getD (j - 1) "") k
    have h3 : ((row.drop i).take (j - 1 - i)).length ≤ row.length := by
      rw [List.length_take, List.length_drop]
      omega
    omega
/-- the prices Z stand at t -/
def PrA (H : Hp) (t : Addr) (Z : Prc) : Prop := ∃ d, H t = some (.tup [.int Z.put, .int Z.out, .int Z.chg, .ref d]) ∧ H d = some (.dT Z.ex)
theorem Up.dT {A B : Hp} (u : Up A B) {a : Addr} {kvs : List (List Key × V)} (h : A a = some (.dT kvs)) : B a = some (.dT kvs) := by
  rcases u a _ h with e | ⟨_, _, z, _⟩
  · exact e
  · cases z
theorem PrA.up {A B : Hp} (u : Up A B) {t : Addr} {Z : Prc} (h : PrA A t Z) : PrA B t Z := by
  obtain ⟨d, h1, h2⟩ := h
  exact ⟨d, u.tup h1, u.dT h2⟩
/-! ### prices as data -/
def vD : V → PyData
  | .int i => .int i
  | .str s => .str s
  | _ => .none
def exD (kvs : List (List Key × V)) : List (PyData × PyData) := kvs.map fun p => (.tuple (p.1.map keyD), vD p.2)
def prD (Z : Prc) : PyData := .tuple [.int Z.put, .int Z.out, .int Z.chg, .dict (exD Z.ex)]
theorem dqT_ints {K : PySem.W.Frag} {H : Hp} : ∀ {kvs : List (List Key × V)}, (∀ p ∈ kvs, ∃ i : Int, p.2 = .int i) → DqT K H kvs (exD kvs)
  | [], _ => .nil
  | (k, v) :: kvs, h => by
    obtain ⟨i, e⟩ := h (k, v) List.mem_cons_self
    dsimp only at e
    subst e
    exact .cons (.dp (.int i)) (dqT_ints fun p m => h p (List.mem_cons_of_mem _ m))
theorem PrA.dq {K : PySem.W.Frag} {H : Hp} {t : Addr} {Z : Prc} (ok : PrcOk Z) (h : PrA H t Z) : Dq K H (.ref t) (prD Z) := by
  obtain ⟨d, h1, h2⟩ := h
  exact .tup (SqT.of h1) (.cons (.dp (.int _)) (.cons (.dp (.int _)) (.cons (.dp (.int _)) (.cons (.dT h2 (dqT_ints fun p m => let ⟨_, i, _, _, e⟩ := ok.ex p m; ⟨i, e⟩)) .nil))))
theorem int_small {i : Int} (h0 : 0 ≤ i) (h1 : i ≤ 1000) : (PyData.int i).showable = true := by
  rw [PyData.showable]
  have a : i.natAbs ≤ 1000 := by omega
  refine decide_eq_true ?_
  have : i.natAbs.log2 ≤ (1000 : Nat).log2 := by
    rcases Nat.eq_zero_or_pos i.natAbs with z | z
    · rw [z]
      exact Nat.zero_le _
    · exact (Nat.le_log2 (by decide)).mpr (Nat.le_trans (Nat.log2_self_le (Nat.ne_of_gt z)) a)
  have e : (1000 : Nat).log2 ≤ 10 := by decide
  omega
theorem int_wt {i : Int} (h0 : 0 ≤ i) (h1 : i < 10 ^ 9) : wt (.int i) ≤ 9 := by
  rw [wt]
  exact toString_length_le h0 (by decide) h1
theorem keys_show : ∀ ks : List Key, (∀ k ∈ ks, ∃ s, k = sk s) → PyData.showableAll (ks.map keyD) = true
  | [], _ => rfl
  | k :: ks, h => by
    obtain ⟨s, rfl⟩ := h k List.mem_cons_self
    rw [List.map_cons, PyData.showableAll, keys_show ks fun x m => h x (List.mem_cons_of_mem _ m)]
    rfl
theorem exOk_keys {k : List Key} (h : exOk k) : ∀ x ∈ k, ∃ s, x = sk s := by
  rcases h with ⟨a, _, rfl⟩ | ⟨a, _, rfl⟩ | ⟨a, _, b, _, _, rfl⟩
  all_goals
    intro x hx
    simp only [List.mem_cons, List.not_mem_nil, or_false] at hx
    rcases hx with rfl | rfl | rfl <;> exact ⟨_, rfl⟩
theorem ex_show : ∀ {kvs : List (List Key × V)}, (∀ p ∈ kvs, exOk p.1 ∧ ∃ i : Int, 1 ≤ i ∧ i ≤ 1000 ∧ p.2 = .int i) → PyData.showableKv (exD kvs) = true
  | [], _ => rfl
  | (k, v) :: kvs, h => by
    obtain ⟨h1, i, h2, h3, e⟩ := h (k, v) List.mem_cons_self
    dsimp only at e
    subst e
    have r := ex_show (kvs := kvs) fun p m => h p (List.mem_cons_of_mem _ m)
    show PyData.showableKv ((.tuple (k.map keyD), .int i) :: exD kvs) = true
    rw [PyData.showableKv, r, int_small (by omega) h3, PyData.showable, keys_show k (exOk_keys h1)]
    rfl
theorem prD_show {Z : Prc} (ok : PrcOk Z) : (prD Z).showable = true := by
  unfold prD
  rw [PyData.showable, PyData.showableAll, PyData.showableAll, PyData.showableAll, PyData.showableAll, PyData.showableAll, int_small (by have := ok.put; omega) ok.put.2, int_small (by have := ok.out; omega) ok.out.2,
    int_small (by have := ok.chg; omega) ok.chg.2, PyData.showable, ex_show ok.ex]
  rfl
theorem keys_wt {k : List Key} (h : exOk k) : wt (.tuple (k.map keyD)) ≤ 60 := by
  have c : ∀ a ∈ P4, wt (.tuple ([sk "out", sk a].map keyD)) ≤ 60 := by decide +kernel
  have b : ∀ a ∈ P3, wt (.tuple ([sk "put", sk a].map keyD)) ≤ 60 := by decide +kernel
  have d : ∀ a ∈ P4, ∀ b ∈ P3, wt (.tuple ([sk "change", sk a, sk b].map keyD)) ≤ 60 := by decide +kernel
  rcases h with ⟨a, ha, rfl⟩ | ⟨a, ha, rfl⟩ | ⟨a, ha, e, he, _, rfl⟩
  · exact b a ha
  · exact c a ha
  · exact d a ha e he
theorem prD_wt {Z : Prc} (ok : PrcOk Z) : wt (prD Z) ≤ 500 := by
  have e0 : wt (prD Z) = wt (.int Z.put) + 2 + (wt (.int Z.out) + 2 + (wt (.int Z.chg) + 2 + (wtKv (exD Z.ex) + 4 + 2 + 0))) + 4 := by
    unfold prD
    simp only [wt, wtAll]
  have h1 := int_wt (i := Z.put) (by have := ok.put; omega) (by have := ok.put; omega)
  have h2 := int_wt (i := Z.out) (by have := ok.out; omega) (by have := ok.out; omega)
  have h3 := int_wt (i := Z.chg) (by have := ok.chg; omega) (by have := ok.chg; omega)
  have h4 := wtKv_up (B := 69) (ds := exD Z.ex) fun p m => by
    obtain ⟨q, hq, rfl⟩ := List.mem_map.mp m
    obtain ⟨k1, i, k2, k3, e⟩ := ok.ex q hq
    have a := keys_wt k1
    have b : wt (vD q.2) ≤ 9 := by
      rw [e]
      exact int_wt (by omega) (by omega)
    dsimp only
    omega
  have h5 : (exD Z.ex).length ≤ 5 := by
    unfold exD
    rw [List.length_map]
    exact ok.few
  have : (69 + 4) * (exD Z.ex).length ≤ (69 + 4) * 5 := Nat.mul_le_mul_left _ h5
  omega
end Ld

set_option Elab.async false
set_option linter.all false
set_option maxRecDepth 100000
set_option maxHeartbeats 4000000
/-! Least costs of trees over stretches: mathematics. Stretches may be known. -/
namespace Lb
open PySem Ld
abbrev Cost := Int × Int
def cle (a b : Cost) : Prop := a.1 < b.1 ∨ (a.1 = b.1 ∧ a.2 ≤ b.2)
def clt (a b : Cost) : Prop := a.1 < b.1 ∨ (a.1 = b.1 ∧ a.2 < b.2)
theorem cle_refl (a : Cost) : cle a a := .inr ⟨rfl, Int.le_refl _⟩
theorem cle_trans {a b c : Cost} (h : cle a b) (k : cle b c) : cle a c := by
  unfold cle at *
  omega
theorem cle_anti {a b : Cost} (h : cle a b) (k : cle b a) : a = b := by
  unfold cle at *
  exact Prod.ext (by omega) (by omega)
theorem cle_of_clt {a b : Cost} (h : clt a b) : cle a b := by
  unfold cle clt at *
  omega
theorem cle_or (a b : Cost) : cle a b ∨ clt b a := by
  unfold cle clt
  omega
theorem clt_not {a b : Cost} (h : clt a b) (k : cle b a) : False := by
  unfold cle clt at *
  omega
theorem clt_of {a b c : Cost} (h : cle a b) (k : clt b c) : clt a c := by
  unfold cle clt at *
  omega
theorem cle_add {a b c d : Cost} (h : cle a b) (k : cle c d) : cle (a.1 + c.1, a.2 + c.2) (b.1 + d.1, b.2 + d.2) := by
  unfold cle at *
  dsimp only
  omega
/-- the least of the costs of S; none where there is none -/
def LeastO (S : Cost → Prop) : Option Cost → Prop
  | none => ∀ c, ¬ S c
  | some c => S c ∧ ∀ d, S d → cle c d
theorem least_one {S : Cost → Prop} {a b : Option Cost} (h : LeastO S a) (k : LeastO S b) : a = b := by
  match a, b with
  | none, none => rfl
  | none, some c => exact (h c k.1).elim
  | some c, none => exact (k c h.1).elim
  | some c, some d => rw [cle_anti (h.2 d k.1) (k.2 c h.1)]
theorem LeastO.up {S : Cost → Prop} {o : Option Cost} (h : LeastO S o) {c : Cost} (m : S c) : ∃ d, o = some d ∧ cle d c := by
  match o with
  | none => exact (h c m).elim
  | some d => exact ⟨d, rfl, h.2 c m⟩
theorem LeastO.mem {S : Cost → Prop} {c : Cost} (h : LeastO S (some c)) : S c := h.1
theorem LeastO.of {S : Cost → Prop} {o : Option Cost} (h1 : ∀ c, o = some c → S c) (h2 : ∀ c, S c → ∃ d, o = some d ∧ cle d c) : LeastO S o := by
  match o with
  | none =>
    intro c m
    obtain ⟨d, e, _⟩ := h2 c m
    cases e
  | some c =>
    refine ⟨h1 c rfl, fun d m => ?_⟩
    obtain ⟨e, q, z⟩ := h2 d m
    rw [Option.some.inj q]
    exact z
theorem least1 {S : Cost → Prop} (pos : ∀ c, S c → 0 ≤ c.1 ∧ 0 ≤ c.2) : ∀ (n : Nat) (c : Cost), S c → c.1.toNat = n → ∃ d, S d ∧ ∀ x, S x → d.1 ≤ x.1 := by
  intro n
  induction n using Nat.strongRecOn with
  | _ n ih =>
    intro c hc e
    by_cases h : ∃ d, S d ∧ d.1 < c.1
    · obtain ⟨d, hd, lt⟩ := h
      have := pos d hd
      exact ih d.1.toNat (by omega) d hd rfl
    · exact ⟨c, hc, fun x hx => Int.not_lt.mp fun z => h ⟨x, hx, z⟩⟩
theorem least2 {S : Cost → Prop} (pos : ∀ c, S c → 0 ≤ c.1 ∧ 0 ≤ c.2) : ∀ (n : Nat) (c : Cost), S c → c.2.toNat = n → ∃ d, S d ∧ ∀ x, S x → d.2 ≤ x.2 := by
  intro n
  induction n using Nat.strongRecOn with
  | _ n ih =>
    intro c hc e
    by_cases h : ∃ d, S d ∧ d.2 < c.2
    · obtain ⟨d, hd, lt⟩ := h
      have := pos d hd
      exact ih d.2.toNat (by omega) d hd rfl
    · exact ⟨c, hc, fun x hx => Int.not_lt.mp fun z => h ⟨x, hx, z⟩⟩
theorem least_ex {S : Cost → Prop} (pos : ∀ c, S c → 0 ≤ c.1 ∧ 0 ≤ c.2) : ∃ o, LeastO S o := by
  by_cases h : ∃ c, S c
  · obtain ⟨c, hc⟩ := h
    obtain ⟨d, hd, le⟩ := least1 pos _ c hc rfl
    obtain ⟨e, ⟨he, e1⟩, le2⟩ := least2 (S := fun x => S x ∧ x.1 = d.1) (fun x hx => pos x hx.1) _ d ⟨hd, rfl⟩ rfl
    refine ⟨some e, he, fun x hx => ?_⟩
    have a := le x hx
    by_cases q : x.1 = d.1
    · have := le2 x ⟨hx, q⟩
      unfold cle
      omega
    · unfold cle
      omega
  · exact ⟨none, fun c hc => h ⟨c, hc⟩⟩
/-- the entries of a stretch -/
structure Ent where
  nm : Str → Option Cost
  rs : Nat → Nat → Option Cost
/-- rules, leaves' prices, which symbols are names, what is known -/
structure Pb where
  G : List Rule
  leaf : Str → Nat → Nat → Int
  isN : Str → Bool
  kn : Nat → Nat → Option Ent
mutual
/-- costs of the trees of a name over a stretch -/
inductive TreeC (B : Pb) : Str → Nat → Nat → Cost → Prop
  | known {N : Str} {i j : Nat} {e : Ent} {c : Cost} : B.kn i j = some e → e.nm N = some c → TreeC B N i j c
  | mk {N : Str} {i j r : Nat} {ss : List Str} {c : Cost} : B.kn i j = none → B.G[r]? = some (N, ss) → RestC B r 0 i j c → TreeC B N i j (c.1, c.2 + 1)
/-- costs of the parts for the symbols of a rule from a dot on -/
inductive RestC (B : Pb) : Nat → Nat → Nat → Nat → Cost → Prop
  | known {r d i j : Nat} {e : Ent} {c : Cost} : B.kn i j = some e → e.rs r d = some c → RestC B r d i j c
  | nil {r d i : Nat} {N : Str} {ss : List Str} : B.kn i i = none → B.G[r]? = some (N, ss) → d = ss.length → RestC B r d i i (0, 0)
  | leaf {r d i j e : Nat} {N k : Str} {ss : List Str} {c : Cost} : B.kn i j = none → B.G[r]? = some (N, ss) → ss[d]? = some k → B.isN k = false → i ≤ e → e ≤ j → RestC B r (d + 1) e j c → RestC B r d i j (B.leaf k i e + c.1, 1 + c.2)
  | tree {r d i j e : Nat} {N k : Str} {ss : List Str} {a c : Cost} : B.kn i j = none → B.G[r]? = some (N, ss) → ss[d]? = some k → B.isN k = true → i ≤ e → e ≤ j → TreeC B k i e a → RestC B r (d + 1) e j c → RestC B r d i j (a.1 + c.1, a.2 + c.2)
end
/-- nothing costs less than nothing -/
structure PbOk (B : Pb) : Prop where
  leaf : ∀ k i e, 0 ≤ B.leaf k i e
  kn : ∀ i j e, B.kn i j = some e → (∀ N c, e.nm N = some c → 0 ≤ c.1 ∧ 0 ≤ c.2) ∧ ∀ r d c, e.rs r d = some c → 0 ≤ c.1 ∧ 0 ≤ c.2
mutual
theorem TreeC.pos {B : Pb} (ok : PbOk B) : ∀ {N : Str} {i j : Nat} {c : Cost}, TreeC B N i j c → 0 ≤ c.1 ∧ 0 ≤ c.2
  | _, _, _, _, .known h k => (ok.kn _ _ _ h).1 _ _ k
  | _, _, _, _, .mk _ _ k => by
    have := RestC.pos ok k
    dsimp only
    omega
theorem RestC.pos {B : Pb} (ok : PbOk B) : ∀ {r d i j : Nat} {c : Cost}, RestC B r d i j c → 0 ≤ c.1 ∧ 0 ≤ c.2
  | _, _, _, _, _, .known h k => (ok.kn _ _ _ h).2 _ _ _ k
  | _, _, _, _, _, .nil _ _ _ => ⟨Int.le_refl _, Int.le_refl _⟩
  | _, _, _, _, _, .leaf (k := k) (i := i) (e := e) _ _ _ _ _ _ z => by
    have := RestC.pos ok z
    have := ok.leaf k i e
    dsimp only
    omega
  | _, _, _, _, _, .tree _ _ _ _ _ _ y z => by
    have := TreeC.pos ok y
    have := RestC.pos ok z
    dsimp only
    omega
end
/-- what the parts of a rule from a dot on cost by the entries of T -/
def CombC (B : Pb) (T : Nat → Nat → Ent) (r d i j : Nat) (c : Cost) : Prop := ∃ N ss, B.G[r]? = some (N, ss) ∧ ((d = ss.length ∧ i = j ∧ c = (0, 0)) ∨
  ∃ (k : Str) (e : Nat) (a b : Cost), ss[d]? = some k ∧ i ≤ e ∧ e ≤ j ∧ (T e j).rs r (d + 1) = some b ∧ ((B.isN k = false ∧ a = (B.leaf k i e, 1)) ∨ (B.isN k = true ∧ (T i e).nm k = some a)) ∧ c = (a.1 + b.1, a.2 + b.2))
structure SoundAt (B : Pb) (e : Ent) (i j : Nat) : Prop where
  nm : ∀ N c, e.nm N = some c → TreeC B N i j c
  rs : ∀ r d c, e.rs r d = some c → RestC B r d i j c
structure LeastAt (B : Pb) (e : Ent) (i j : Nat) : Prop where
  nm : ∀ N, LeastO (TreeC B N i j) (e.nm N)
  rs : ∀ r d, LeastO (RestC B r d i j) (e.rs r d)
theorem LeastAt.sound {B : Pb} {e : Ent} {i j : Nat} (h : LeastAt B e i j) : SoundAt B e i j := by
  refine ⟨fun N c q => ?_, fun r d c q => ?_⟩
  · have := h.nm N
    rw [q] at this
    exact this.1
  · have := h.rs r d
    rw [q] at this
    exact this.1
theorem known_least {B : Pb} {e : Ent} {i j : Nat} (h : B.kn i j = some e) : LeastAt B e i j := by
  constructor
  · intro N
    refine LeastO.of (fun c q => .known h q) fun c m => ?_
    cases m with
    | known h2 q =>
      rw [h] at h2
      rw [Option.some.inj h2]
      exact ⟨c, q, cle_refl c⟩
    | mk h2 _ _ =>
      rw [h] at h2
      cases h2
  · intro r d
    refine LeastO.of (fun c q => .known h q) fun c m => ?_
    cases m with
    | known h2 q =>
      rw [h] at h2
      rw [Option.some.inj h2]
      exact ⟨c, q, cle_refl c⟩
    | nil h2 _ _ =>
      rw [h] at h2
      cases h2
    | leaf h2 _ _ _ _ _ _ =>
      rw [h] at h2
      cases h2
    | tree h2 _ _ _ _ _ _ _ =>
      rw [h] at h2
      cases h2
/-- the table T with e at one stretch -/
def wi (T : Nat → Nat → Ent) (i j : Nat) (e : Ent) : Nat → Nat → Ent := fun a b => if a = i ∧ b = j then e else T a b
theorem wi_same {T : Nat → Nat → Ent} {i j : Nat} {e : Ent} : wi T i j e i j = e := if_pos ⟨rfl, rfl⟩
theorem wi_other {T : Nat → Nat → Ent} {i j a b : Nat} {e : Ent} (h : ¬ (a = i ∧ b = j)) : wi T i j e a b = T a b := if_neg h
section
variable {B : Pb} {T : Nat → Nat → Ent} {i j : Nat}
/-- all stretches within, but this one, are done -/
def Short (B : Pb) (T : Nat → Nat → Ent) (i j : Nat) : Prop := ∀ a b, i ≤ a → a ≤ b → b ≤ j → ¬ (a = i ∧ b = j) → LeastAt B (T a b) a b
theorem Short.sound (h : Short B T i j) {e : Ent} (s : SoundAt B e i j) {a b : Nat} (h1 : i ≤ a) (h2 : a ≤ b) (h3 : b ≤ j) : SoundAt B (wi T i j e a b) a b := by
  by_cases q : a = i ∧ b = j
  · rw [q.1, q.2, wi_same]
    exact s
  · rw [wi_other q]
    exact (h a b h1 h2 h3 q).sound
theorem comb_sound (short : Short B T i j) (hk : B.kn i j = none) {e : Ent} (s : SoundAt B e i j) {r d : Nat} {c : Cost} (h : CombC B (wi T i j e) r d i j c) : RestC B r d i j c := by
  obtain ⟨N, ss, hr, ⟨e1, e2, e3⟩ | ⟨k, f, a, b, hs, h1, h2, hb, ha, rfl⟩⟩ := h
  · subst e2
    rw [e3]
    exact .nil hk hr e1
  · have rb := (short.sound s h1 h2 (Nat.le_refl j)).rs _ _ _ hb
    rcases ha with ⟨n, rfl⟩ | ⟨n, q⟩
    · exact .leaf hk hr hs n h1 h2 rb
    · exact .tree hk hr hs n h1 h2 ((short.sound s (Nat.le_refl i) h1 h2).nm _ _ q) rb
/-- names of cost within A have their entries -/
def NB (B : Pb) (i j : Nat) (A : Cost → Prop) (e : Ent) : Prop := ∀ N c, TreeC B N i j c → A c → ∃ d, e.nm N = some d ∧ cle d c
def RB (B : Pb) (i j : Nat) (A : Cost → Prop) (e : Ent) (r d : Nat) : Prop := ∀ c, RestC B r d i j c → A (c.1, c.2 + 1) → ∃ x, e.rs r d = some x ∧ cle x c
/-- A holds what is less than something in A' -/
structure Under (A A' : Cost → Prop) : Prop where
  lt : ∀ a b, A' a → clt b a → A b
  le : ∀ a b, A' a → cle b a → A' b
theorem rest_bound (ok : PbOk B) (short : Short B T i j) (hk : B.kn i j = none) {e : Ent} {A A' : Cost → Prop} (U : Under A A') (nb : NB B i j A e) {r d : Nat} (next : RB B i j A' e r (d + 1)) {o : Option Cost} (ho : LeastO (CombC B (wi T i j e) r d i j) o) :
    ∀ c, RestC B r d i j c → A' (c.1, c.2 + 1) → ∃ x, o = some x ∧ cle x c := by
  have down : ∀ {f : Nat} {c : Cost}, i ≤ f → f ≤ j → RestC B r (d + 1) f j c → (f = i → A' (c.1, c.2 + 1)) → ∃ x, (wi T i j e f j).rs r (d + 1) = some x ∧ cle x c := fun {f c} h1 h2 z q => by
    by_cases w : f = i ∧ j = j
    · rw [w.1, wi_same]
      rw [w.1] at z
      exact next c z (q w.1)
    · rw [wi_other w]
      exact ((short f j h1 h2 (Nat.le_refl j) w).rs r (d + 1)).up z
  intro c hc ha
  cases hc with
  | known h _ =>
    rw [hk] at h
    cases h
  | nil _ hr hd => exact ho.up ⟨_, _, hr, .inl ⟨hd, rfl, rfl⟩⟩
  | leaf h0 hr hs hn h1 h2 z =>
    rename_i f N k ss c
    have p0 := ok.leaf k i f
    obtain ⟨x, ex, lx⟩ := down h1 h2 z fun _ => U.le _ _ ha (by unfold cle; dsimp only; omega)
    obtain ⟨y, ey, ly⟩ := ho.up ⟨N, ss, hr, .inr ⟨k, f, (B.leaf k i f, 1), x, hs, h1, h2, ex, .inl ⟨hn, rfl⟩, rfl⟩⟩
    exact ⟨y, ey, cle_trans ly (cle_add (cle_refl (B.leaf k i f, 1)) lx)⟩
  | tree h0 hr hs hn h1 h2 t z =>
    rename_i f N k ss a c
    have pa := TreeC.pos ok t
    have pc := RestC.pos ok z
    obtain ⟨x, ex, lx⟩ := down h1 h2 z fun _ => U.le _ _ ha (by unfold cle; dsimp only; omega)
    obtain ⟨y, ey, ly⟩ : ∃ y, (wi T i j e i f).nm k = some y ∧ cle y a := by
      by_cases w : i = i ∧ f = j
      · rw [w.2, wi_same]
        rw [w.2] at t
        exact nb k a t (U.lt _ _ ha (by unfold clt; dsimp only; omega))
      · rw [wi_other w]
        exact ((short i f (Nat.le_refl i) h1 h2 w).nm k).up t
    obtain ⟨v, ev, lv⟩ := ho.up ⟨N, ss, hr, .inr ⟨k, f, y, x, hs, h1, h2, ex, .inr ⟨hn, ey⟩, rfl⟩⟩
    exact ⟨v, ev, cle_trans lv (cle_add ly lx)⟩
end
end Lb

set_option Elab.async false
set_option linter.all false
set_option maxRecDepth 100000
set_option maxHeartbeats 4000000
/-! Entries that are bettered in rounds: when they are the least ones. -/
namespace Lb
open PySem Ld
section
variable {B : Pb} {T : Nat → Nat → Ent} {i j : Nat} {e : Ent}
mutual
theorem closedT (short : Short B T i j) (hk : B.kn i j = none) (crs : ∀ r d, LeastO (CombC B (wi T i j e) r d i j) (e.rs r d)) (cnm : ∀ r N ss c, B.G[r]? = some (N, ss) → e.rs r 0 = some c → ∃ x, e.nm N = some x ∧ cle x (c.1, c.2 + 1)) :
    ∀ {N : Str} {a b : Nat} {c : Cost}, TreeC B N a b c → i ≤ a → a ≤ b → b ≤ j → ∃ x, (wi T i j e a b).nm N = some x ∧ cle x c
  | N, a, b, c, .known h q, h1, h2, h3 => by
    by_cases w : a = i ∧ b = j
    · rw [w.1, w.2, hk] at h
      cases h
    · rw [wi_other w]
      exact ((short a b h1 h2 h3 w).nm N).up (.known h q)
  | N, a, b, _, .mk (c := c) h0 hr z, h1, h2, h3 => by
    by_cases w : a = i ∧ b = j
    · obtain ⟨x, ex, lx⟩ := closedR short hk crs cnm z h1 h2 h3
      rw [w.1, w.2, wi_same] at ex ⊢
      obtain ⟨y, ey, ly⟩ := cnm _ _ _ _ hr ex
      refine ⟨y, ey, cle_trans ly ?_⟩
      unfold cle at *
      dsimp only
      omega
    · rw [wi_other w]
      exact ((short a b h1 h2 h3 w).nm N).up (.mk h0 hr z)
theorem closedR (short : Short B T i j) (hk : B.kn i j = none) (crs : ∀ r d, LeastO (CombC B (wi T i j e) r d i j) (e.rs r d)) (cnm : ∀ r N ss c, B.G[r]? = some (N, ss) → e.rs r 0 = some c → ∃ x, e.nm N = some x ∧ cle x (c.1, c.2 + 1)) :
    ∀ {r d a b : Nat} {c : Cost}, RestC B r d a b c → i ≤ a → a ≤ b → b ≤ j → ∃ x, (wi T i j e a b).rs r d = some x ∧ cle x c
  | r, d, a, b, c, .known h q, h1, h2, h3 => by
    by_cases w : a = i ∧ b = j
    · rw [w.1, w.2, hk] at h
      cases h
    · rw [wi_other w]
      exact ((short a b h1 h2 h3 w).rs r d).up (.known h q)
  | r, d, a, _, _, .nil h0 hr hd, h1, h2, h3 => by
    by_cases w : a = i ∧ a = j
    · obtain ⟨w1, w2⟩ := w
      subst w1
      subst w2
      rw [wi_same]
      exact (crs r d).up ⟨_, _, hr, .inl ⟨hd, rfl, rfl⟩⟩
    · rw [wi_other w]
      exact ((short a a h1 h2 h3 w).rs r d).up (.nil h0 hr hd)
  | r, d, a, b, _, .leaf (e := f) (k := k) (c := c) h0 hr hs hn k1 k2 z, h1, h2, h3 => by
    by_cases w : a = i ∧ b = j
    · obtain ⟨x, ex, lx⟩ := closedR short hk crs cnm z (Nat.le_trans h1 k1) k2 h3
      obtain ⟨w1, w2⟩ := w
      subst w1
      subst w2
      rw [wi_same]
      obtain ⟨y, ey, ly⟩ := (crs r d).up ⟨_, _, hr, .inr ⟨k, f, (B.leaf k a f, 1), x, hs, k1, k2, ex, .inl ⟨hn, rfl⟩, rfl⟩⟩
      exact ⟨y, ey, cle_trans ly (cle_add (cle_refl (B.leaf k a f, 1)) lx)⟩
    · rw [wi_other w]
      exact ((short a b h1 h2 h3 w).rs r d).up (.leaf h0 hr hs hn k1 k2 z)
  | r, d, a, b, _, .tree (e := f) (k := k) (a := ca) (c := c) h0 hr hs hn k1 k2 t z, h1, h2, h3 => by
    by_cases w : a = i ∧ b = j
    · obtain ⟨x, ex, lx⟩ := closedR short hk crs cnm z (Nat.le_trans h1 k1) k2 h3
      obtain ⟨y, ey, ly⟩ := closedT short hk crs cnm t h1 k1 (Nat.le_trans k2 h3)
      obtain ⟨w1, w2⟩ := w
      subst w1
      subst w2
      rw [wi_same]
      obtain ⟨v, ev, lv⟩ := (crs r d).up ⟨_, _, hr, .inr ⟨k, f, y, x, hs, k1, k2, ex, .inr ⟨hn, ey⟩, rfl⟩⟩
      exact ⟨v, ev, cle_trans lv (cle_add ly lx)⟩
    · rw [wi_other w]
      exact ((short a b h1 h2 h3 w).rs r d).up (.tree h0 hr hs hn k1 k2 t z)
end
/-- entries that no round betters are the least ones -/
theorem closed_least (ij : i ≤ j) (short : Short B T i j) (hk : B.kn i j = none) (snd : SoundAt B e i j) (crs : ∀ r d, LeastO (CombC B (wi T i j e) r d i j) (e.rs r d))
    (cnm : ∀ r N ss c, B.G[r]? = some (N, ss) → e.rs r 0 = some c → ∃ x, e.nm N = some x ∧ cle x (c.1, c.2 + 1)) : LeastAt B e i j := by
  refine ⟨fun N => LeastO.of (snd.nm N) fun c m => ?_, fun r d => LeastO.of (snd.rs r d) fun c m => ?_⟩
  · obtain ⟨x, ex, lx⟩ := closedT short hk crs cnm m (Nat.le_refl i) ij (Nat.le_refl j)
    rw [wi_same] at ex
    exact ⟨x, ex, lx⟩
  · obtain ⟨x, ex, lx⟩ := closedR short hk crs cnm m (Nat.le_refl i) ij (Nat.le_refl j)
    rw [wi_same] at ex
    exact ⟨x, ex, lx⟩
theorem rest_in (hk : B.kn i j = none) {r d : Nat} {c : Cost} (h : RestC B r d i j c) : ∃ N ss, B.G[r]? = some (N, ss) ∧ d ≤ ss.length := by
  cases h with
  | known h _ =>
    rw [hk] at h
    cases h
  | nil _ hr hd => exact ⟨_, _, hr, Nat.le_of_eq hd⟩
  | leaf _ hr hs _ _ _ _ => exact ⟨_, _, hr, Nat.le_of_lt (List.getElem?_eq_some_iff.mp hs).1⟩
  | tree _ hr hs _ _ _ _ _ => exact ⟨_, _, hr, Nat.le_of_lt (List.getElem?_eq_some_iff.mp hs).1⟩
def setR (e : Ent) (r d : Nat) (o : Option Cost) : Ent := ⟨e.nm, fun a b => if a = r ∧ b = d then o else e.rs a b⟩
def setN (e : Ent) (N : Str) (o : Option Cost) : Ent := ⟨fun M => if M = N then o else e.nm M, e.rs⟩
/-- within a round: the rules before r, and r from the dot d on, are made -/
structure RInv (B : Pb) (i j : Nat) (e0 e : Ent) (r d : Nat) : Prop where
  snd : SoundAt B e i j
  mono : ∀ N c, e0.nm N = some c → ∃ x, e.nm N = some x ∧ cle x c
  up : ∀ A A', Under A A' → NB B i j A e0 → NB B i j A e ∧ (∀ a b, a < r → RB B i j A' e a b) ∧ (∀ b, d ≤ b → RB B i j A' e r b) ∧
    ∀ a N ss c, a < r → B.G[a]? = some (N, ss) → RestC B a 0 i j c → A' (c.1, c.2 + 1) → ∃ x, e.nm N = some x ∧ cle x (c.1, c.2 + 1)
theorem RInv.start (snd : SoundAt B e i j) {d : Nat} (out : ∀ b c, d ≤ b → ¬ RestC B 0 b i j c) : RInv B i j e e 0 d :=
  ⟨snd, fun N c h => ⟨c, h, cle_refl c⟩, fun A A' U nb => ⟨nb, fun a b h => absurd h (Nat.not_lt_zero a), fun b h c m => (out b c h m).elim, fun a N ss c h => absurd h (Nat.not_lt_zero a)⟩⟩
theorem RInv.rest (ok : PbOk B) (short : Short B T i j) (hk : B.kn i j = none) {e0 : Ent} {r d : Nat} (h : RInv B i j e0 e r (d + 1)) {o : Option Cost} (ho : LeastO (CombC B (wi T i j e) r d i j) o) : RInv B i j e0 (setR e r d o) r d := by
  refine ⟨⟨h.snd.nm, fun a b c q => ?_⟩, h.mono, fun A A' U nb => ?_⟩
  · change (if a = r ∧ b = d then o else e.rs a b) = some c at q
    split at q
    · rename_i w
      rw [w.1, w.2]
      rw [q] at ho
      exact comb_sound short hk h.snd ho.1
    · exact h.snd.rs a b c q
  · obtain ⟨u1, u2, u3, u4⟩ := h.up A A' U nb
    refine ⟨u1, fun a b lt c m ha => ?_, fun b le c m ha => ?_, u4⟩
    · obtain ⟨x, ex, lx⟩ := u2 a b lt c m ha
      refine ⟨x, ?_, lx⟩
      show (if a = r ∧ b = d then o else e.rs a b) = some x
      rw [if_neg (by omega)]
      exact ex
    · by_cases w : b = d
      · rw [w] at m ⊢
        obtain ⟨x, ex, lx⟩ := rest_bound ok short hk U u1 (u3 (d + 1) (Nat.le_refl _)) ho c m ha
        refine ⟨x, ?_, lx⟩
        show (if r = r ∧ d = d then o else e.rs r d) = some x
        rw [if_pos ⟨rfl, rfl⟩]
        exact ex
      · obtain ⟨x, ex, lx⟩ := u3 b (by omega) c m ha
        refine ⟨x, ?_, lx⟩
        show (if r = r ∧ b = d then o else e.rs r b) = some x
        rw [if_neg (by omega)]
        exact ex
/-- the name of a rule, looked at behind its rests: o is what stands at the name then -/
theorem RInv.name (hk : B.kn i j = none) {e0 : Ent} {r d : Nat} {N : Str} {ss : List Str} (h : RInv B i j e0 e r 0) (hr : B.G[r]? = some (N, ss)) {o : Option Cost} (own : ∀ c, o = some c → e.nm N = some c ∨ ∃ x, e.rs r 0 = some x ∧ c = (x.1, x.2 + 1))
    (old : ∀ c, e.nm N = some c → ∃ x, o = some x ∧ cle x c) (new : ∀ c, e.rs r 0 = some c → ∃ x, o = some x ∧ cle x (c.1, c.2 + 1)) (out : ∀ b c, d ≤ b → ¬ RestC B (r + 1) b i j c) : RInv B i j e0 (setN e N o) (r + 1) d := by
  have less : ∀ M c, e.nm M = some c → ∃ x, (setN e N o).nm M = some x ∧ cle x c := fun M c q => by
    show ∃ x, (if M = N then o else e.nm M) = some x ∧ cle x c
    by_cases w : M = N
    · rw [if_pos w]
      rw [w] at q
      exact old c q
    · rw [if_neg w]
      exact ⟨c, q, cle_refl c⟩
  have more : ∀ {M : Str} {c : Cost}, (∃ x, e.nm M = some x ∧ cle x c) → ∃ x, (setN e N o).nm M = some x ∧ cle x c := fun {M c} ⟨x, ex, lx⟩ => by
    obtain ⟨y, ey, ly⟩ := less M x ex
    exact ⟨y, ey, cle_trans ly lx⟩
  refine ⟨⟨fun M c q => ?_, h.snd.rs⟩, fun M c q => ?_, fun A A' U nb => ?_⟩
  · change (if M = N then o else e.nm M) = some c at q
    split at q
    · rename_i w
      rw [w]
      rcases own c q with z | ⟨x, ex, rfl⟩
      · exact h.snd.nm N c z
      · exact .mk hk hr (h.snd.rs r 0 x ex)
    · exact h.snd.nm M c q
  · exact more (h.mono M c q)
  · obtain ⟨u1, u2, u3, u4⟩ := h.up A A' U nb
    refine ⟨fun M c m ha => more (u1 M c m ha), fun a b lt => ?_, fun b le c m => (out b c le m).elim, fun a M ts c lt ha m hb => ?_⟩
    · rcases Nat.lt_succ_iff_lt_or_eq.mp lt with q | q
      · exact u2 a b q
      · rw [q]
        exact u3 b (Nat.zero_le b)
    · rcases Nat.lt_succ_iff_lt_or_eq.mp lt with q | q
      · exact more (u4 a M ts c q ha m hb)
      · rw [q] at ha m
        rw [hr] at ha
        obtain ⟨e1, e2⟩ := Prod.mk.inj (Option.some.inj ha)
        obtain ⟨x, ex, lx⟩ := u3 0 (Nat.le_refl 0) c m hb
        obtain ⟨y, ey, ly⟩ := new x ex
        refine ⟨y, ?_, cle_trans ly ?_⟩
        · show (if M = N then o else e.nm M) = some y
          rw [if_pos e1.symm]
          exact ey
        · unfold cle at *
          dsimp only
          omega
/-- what a whole round gives -/
structure RoundOk (B : Pb) (i j : Nat) (e0 e : Ent) : Prop where
  snd : SoundAt B e i j
  mono : ∀ N c, e0.nm N = some c → ∃ x, e.nm N = some x ∧ cle x c
  up : ∀ A A', Under A A' → NB B i j A e0 → NB B i j A' e ∧ ∀ r d, RB B i j A' e r d
theorem RInv.all (hk : B.kn i j = none) {e0 : Ent} {d : Nat} (h : RInv B i j e0 e B.G.length d) : RoundOk B i j e0 e := by
  refine ⟨h.snd, h.mono, fun A A' U nb => ?_⟩
  obtain ⟨u1, u2, u3, u4⟩ := h.up A A' U nb
  refine ⟨fun N c m ha => ?_, fun r d c m ha => ?_⟩
  · cases m with
    | known q _ =>
      rw [hk] at q
      cases q
    | mk _ hr z => exact u4 _ _ _ _ (List.getElem?_eq_some_iff.mp hr).1 hr z ha
  · obtain ⟨N, ss, hr, _⟩ := rest_in hk m
    exact u2 r d (List.getElem?_eq_some_iff.mp hr).1 c m ha
theorem countP_less {α : Type} {p q : α → Bool} : ∀ {l : List α}, (∀ x ∈ l, p x = true → q x = true) → ∀ {a : α}, a ∈ l → q a = true → p a = false → l.countP p + 1 ≤ l.countP q
  | x :: l, h, a, ha, hq, hp => by
    have le : l.countP p ≤ l.countP q := List.countP_mono_left fun y hy => h y (List.mem_cons_of_mem _ hy)
    rw [List.countP_cons, List.countP_cons]
    rcases List.mem_cons.mp ha with e | m
    · rw [← e, hp, hq]
      simp
      omega
    · have := countP_less (fun y hy => h y (List.mem_cons_of_mem _ hy)) m hq hp
      by_cases z : p x = true
      · rw [z, h x List.mem_cons_self z]
        simp
        omega
      · rw [if_neg z]
        split <;> omega
open Classical in
/-- names whose entry is not the least one yet -/
noncomputable def nfin (B : Pb) (i j : Nat) (Ns : List Str) (e : Ent) : Nat := Ns.countP fun N => !decide (LeastO (TreeC B N i j) (e.nm N))
theorem tree_in (hk : B.kn i j = none) {Ns : List Str} (cover : ∀ (r : Nat) N ss, B.G[r]? = some (N, ss) → N ∈ Ns) {N : Str} {c : Cost} (h : TreeC B N i j c) : N ∈ Ns := by
  cases h with
  | known q _ =>
    rw [hk] at q
    cases q
  | mk _ hr _ => exact cover _ _ _ hr
theorem RoundOk.final {e0 : Ent} (h : RoundOk B i j e0 e) (s0 : SoundAt B e0 i j) {N : Str} (f : LeastO (TreeC B N i j) (e0.nm N)) : LeastO (TreeC B N i j) (e.nm N) := by
  refine LeastO.of (h.snd.nm N) fun c m => ?_
  obtain ⟨x, ex, lx⟩ := f.up m
  obtain ⟨y, ey, ly⟩ := h.mono N x ex
  exact ⟨y, ey, cle_trans ly lx⟩
open Classical in
theorem RoundOk.fewer (ok : PbOk B) (hk : B.kn i j = none) {Ns : List Str} (cover : ∀ (r : Nat) N ss, B.G[r]? = some (N, ss) → N ∈ Ns) {e0 : Ent} (s0 : SoundAt B e0 i j) (h : RoundOk B i j e0 e) : nfin B i j Ns e ≤ nfin B i j Ns e0 - 1 := by
  have stay : ∀ N ∈ Ns, (!decide (LeastO (TreeC B N i j) (e.nm N))) = true → (!decide (LeastO (TreeC B N i j) (e0.nm N))) = true := fun N _ q => by
    by_cases f : LeastO (TreeC B N i j) (e0.nm N)
    · rw [decide_eq_true (h.final s0 f)] at q
      cases q
    · rw [decide_eq_false f]
      rfl
  by_cases z : ∃ N ∈ Ns, ¬ LeastO (TreeC B N i j) (e0.nm N)
  · have some_of : ∀ {N : Str}, ¬ LeastO (TreeC B N i j) (e0.nm N) → ∃ c, LeastO (TreeC B N i j) (some c) := fun {N} nf => by
      obtain ⟨o, ho⟩ := least_ex (S := TreeC B N i j) fun c m => TreeC.pos ok m
      cases o with
      | some c => exact ⟨c, ho⟩
      | none =>
        refine (nf ?_).elim
        cases q : e0.nm N with
        | none => exact ho
        | some c => exact (ho c (s0.nm N c q)).elim
    obtain ⟨o, ho⟩ := least_ex (S := fun c => ∃ N ∈ Ns, ¬ LeastO (TreeC B N i j) (e0.nm N) ∧ LeastO (TreeC B N i j) (some c)) fun c ⟨N, _, _, m⟩ => TreeC.pos ok m.1
    cases o with
    | none =>
      obtain ⟨N, hN, nf⟩ := z
      obtain ⟨c, hc⟩ := some_of nf
      exact (ho c ⟨N, hN, nf, hc⟩).elim
    | some c =>
      obtain ⟨⟨N, hN, nf, hc⟩, low⟩ := ho
      have nb : NB B i j (fun x => clt x c) e0 := fun M x m lt => by
        by_cases f : LeastO (TreeC B M i j) (e0.nm M)
        · exact f.up m
        · obtain ⟨y, hy⟩ := some_of f
          have l1 := low y ⟨M, tree_in hk cover m, f, hy⟩
          exact (clt_not lt (cle_trans l1 (hy.2 x m))).elim
      have U : Under (fun x => clt x c) (fun x => cle x c) := ⟨fun a b h1 h2 => by unfold clt cle at *; omega, fun a b h1 h2 => cle_trans h2 h1⟩
      obtain ⟨u1, _⟩ := h.up _ _ U nb
      have fin : LeastO (TreeC B N i j) (e.nm N) := LeastO.of (h.snd.nm N) fun x m => by
        obtain ⟨y, ey, ly⟩ := u1 N c hc.1 (cle_refl c)
        exact ⟨y, ey, cle_trans ly (hc.2 x m)⟩
      have := countP_less stay hN (by rw [decide_eq_false nf]; rfl) (by rw [decide_eq_true fin]; rfl)
      unfold nfin
      omega
  · have all : nfin B i j Ns e = 0 := by
      unfold nfin
      refine List.countP_eq_zero.mpr fun N hN q => ?_
      by_cases f : LeastO (TreeC B N i j) (e0.nm N)
      · rw [decide_eq_true (h.final s0 f)] at q
        cases q
      · exact z ⟨N, hN, f⟩
    omega
open Classical in
theorem RoundOk.done (hk : B.kn i j = none) {Ns : List Str} (cover : ∀ (r : Nat) N ss, B.G[r]? = some (N, ss) → N ∈ Ns) {e0 : Ent} (h : RoundOk B i j e0 e) (z : nfin B i j Ns e0 = 0) : LeastAt B e i j := by
  have fin : ∀ N ∈ Ns, LeastO (TreeC B N i j) (e0.nm N) := fun N hN => by
    unfold nfin at z
    have q := List.countP_eq_zero.mp z N hN
    by_cases f : LeastO (TreeC B N i j) (e0.nm N)
    · exact f
    · rw [decide_eq_false f] at q
      exact (q rfl).elim
  obtain ⟨u1, u2⟩ := h.up (fun _ => True) (fun _ => True) ⟨fun _ _ _ _ => trivial, fun _ _ _ _ => trivial⟩ fun N c m _ => (fin N (tree_in hk cover m)).up m
  exact ⟨fun N => LeastO.of (h.snd.nm N) fun c m => u1 N c m trivial, fun r d => LeastO.of (h.snd.rs r d) fun c m => u2 r d c m trivial⟩
/-- behind t rounds, where there are m names -/
structure Prog (B : Pb) (i j : Nat) (Ns : List Str) (t : Nat) (e : Ent) : Prop where
  snd : SoundAt B e i j
  few : nfin B i j Ns e ≤ Ns.length - t
  done : Ns.length + 1 ≤ t → LeastAt B e i j
theorem Prog.start (Ns : List Str) (snd : SoundAt B e i j) : Prog B i j Ns 0 e := by
  refine ⟨snd, ?_, fun h => absurd h (Nat.not_succ_le_zero _)⟩
  unfold nfin
  exact List.countP_le_length
theorem Prog.step (ok : PbOk B) (hk : B.kn i j = none) {Ns : List Str} (cover : ∀ (r : Nat) N ss, B.G[r]? = some (N, ss) → N ∈ Ns) {t : Nat} {e0 : Ent} (h : Prog B i j Ns t e0) (k : RoundOk B i j e0 e) : Prog B i j Ns (t + 1) e := by
  refine ⟨k.snd, ?_, fun q => k.done hk cover (Ns := Ns) ?_⟩
  · have := k.fewer ok hk cover h.snd
    have := h.few
    omega
  · have := h.few
    omega
end
end Lb

set_option Elab.async false
set_option linter.all false
set_option maxRecDepth 100000
set_option maxHeartbeats 4000000
/-! x < y of data; costs, entries and tables in the heap. -/
namespace Ld
open PySem PySem.Spec PyProof.Rows L2 Lr Lb
def rLtD (K : PySem.W.Frag) : R2 := fun x y H Q => ∃ d e, Dp K H x d ∧ Dp K H y e ∧ PySem.W.alike d e = true ∧ d ≠ .none ∧ d.depth ≤ 64 ∧ Q (.bl (PySem.W.dataLt d e)) H
theorem op_ltD {X : Cx} (hu : X.A.units + 65 < cLine) : OpR X (compareOp .Lt) (rLtD X.K) := by
  intro pins s σ H x y v u Q I rx ry h
  obtain ⟨d, e, hd, he, al, nn, dep, q⟩ := h
  obtain ⟨as, r1⟩ := Dp.reads I d x v hd rx
  obtain ⟨bs, r2⟩ := Dp.reads I e y u he ry
  have : min d.depth e.depth ≤ d.depth := Nat.min_le_left _ _
  exact PySem.W.rcLt_alike d e X.A s v u as bs r1 r2 al nn (by omega) X.prog X.w X.xe _ ⟨.bl _, H, I, rfl, q⟩
/-- a cost as data -/
def cD (c : Cost) : PyData := .tuple [.int c.1, .int c.2]
open PySem.W in
theorem cost_lt (a b : Cost) : dataLt (cD a) (cD b) = decide (a.1 < b.1 ∨ (a.1 = b.1 ∧ a.2 < b.2)) := by
  unfold cD
  rw [dataLt_tuple]
  have al : ∀ x y : Int, alike (.int x) (.int y) = true := fun x y => by simp [alike]
  by_cases e : a.1 = b.1
  · have ev : PyData.eqv (.int a.1) (.int b.1) = true := by simp [PyData.eqv, e]
    rw [dataLt_all_yes (al _ _) ev]
    by_cases e2 : a.2 = b.2
    · have ev2 : PyData.eqv (.int a.2) (.int b.2) = true := by simp [PyData.eqv, e2]
      rw [dataLt_all_yes (al _ _) ev2]
      rw [show lexLt itemOrd (keyToksAll []) (keyToksAll []) = false from by decide +kernel]
      refine (decide_eq_false ?_).symm
      omega
    · have ev2 : PyData.eqv (.int a.2) (.int b.2) = false := by simp [PyData.eqv, e2]
      rw [dataLt_all_no (al _ _) ev2, dataLt_int, Bool.eq_iff_iff, decide_eq_true_eq, decide_eq_true_eq]
      omega
  · have ev : PyData.eqv (.int a.1) (.int b.1) = false := by simp [PyData.eqv, e]
    rw [dataLt_all_no (al _ _) ev, dataLt_int, Bool.eq_iff_iff, decide_eq_true_eq, decide_eq_true_eq]
    omega
theorem cD_alike (a b : Cost) : PySem.W.alike (cD a) (cD b) = true := by simp [cD, PySem.W.alike, PySem.W.alikeAll]
theorem cD_shaped (a : Cost) : SeqAt.shaped (cD a) = true := by
  refine shaped_mk ?_ (by simp [cD, PyData.depth, PyData.depthAll])
  simp [cD, PyData.canLay0, PyData.canLayAll0]
/-- the value of a cost, or None -/
def CostV (H : Hp) (v : V) : Option Cost → Prop
  | none => v = .non
  | some c => ∃ t, v = .ref t ∧ H t = some (.tup [.int c.1, .int c.2])
theorem CostV.up {A B : Hp} (u : Up A B) {v : V} : ∀ {o : Option Cost}, CostV A v o → CostV B v o
  | none, h => h
  | some _, ⟨t, e, h⟩ => ⟨t, e, u.tup h⟩
theorem CostV.dp {K : PySem.W.Frag} {H : Hp} {v : V} {c : Cost} (h : CostV H v (some c)) : Dp K H v (cD c) := by
  obtain ⟨t, rfl, h⟩ := h
  exact .tup (SqT.of h) (.cons (.int _) (.cons (.int _) .nil))
def kN (N : Str) : List Key := [sk "name", sk N]
def kR (r d : Nat) : List Key := [sk "rest", Sum.inl (r : Int), Sum.inl (d : Int)]
def kS (i j : Nat) : List Key := [Sum.inl (i : Int), Sum.inl (j : Int)]
theorem kN_ne (N : Str) (r d : Nat) : kN N ≠ kR r d := fun h => by
  have := congrArg List.length h
  cases this
theorem kN_inj {N M : Str} (h : kN N = kN M) : N = M := by
  unfold kN at h
  simp at h
  exact h
theorem kR_inj {r d r2 d2 : Nat} (h : kR r d = kR r2 d2) : r = r2 ∧ d = d2 := by
  unfold kR at h
  simp at h
  exact ⟨Int.ofNat_inj.mp h.1, Int.ofNat_inj.mp h.2⟩
theorem kS_inj {i j a b : Nat} (h : kS i j = kS a b) : i = a ∧ j = b := by
  unfold kS at h
  simp at h
  exact ⟨Int.ofNat_inj.mp h.1, Int.ofNat_inj.mp h.2⟩
/-- the dict of a stretch's entries -/
structure EntK (H : Hp) (G : List Rule) (kvs : List (List Key × V)) (e : Ent) : Prop where
  nm : ∀ N, (∃ r ∈ G, r.1 = N) → ∃ v, valV kvs (kN N) = some v ∧ CostV H v (e.nm N)
  rs : ∀ (r d : Nat) N ss, G[r]? = some (N, ss) → d ≤ ss.length → ∃ v, valV kvs (kR r d) = some v ∧ CostV H v (e.rs r d)
  ks : ∀ p ∈ kvs, (∃ N, (∃ r ∈ G, r.1 = N) ∧ p.1 = kN N) ∨ ∃ (r d : Nat) (N : Str) (ss : List Str), G[r]? = some (N, ss) ∧ d ≤ ss.length ∧ p.1 = kR r d
  nd : (kvs.map (·.1)).Nodup
theorem EntK.up {A B : Hp} (u : Up A B) {G : List Rule} {kvs : List (List Key × V)} {e : Ent} (h : EntK A G kvs e) : EntK B G kvs e := by
  refine ⟨fun N q => ?_, fun r d N ss h1 h2 => ?_, h.ks, h.nd⟩
  · obtain ⟨v, e1, c⟩ := h.nm N q
    exact ⟨v, e1, c.up u⟩
  · obtain ⟨v, e1, c⟩ := h.rs r d N ss h1 h2
    exact ⟨v, e1, c.up u⟩
/-- the table of a row of n signs: the dict of stretches -/
structure TabK (H : Hp) (G : List Rule) (n : Nat) (F : List (List Key × V)) (T : Nat → Nat → Ent) : Prop where
  at_ : ∀ i j, i ≤ j → j ≤ n → ∃ d kvs, valV F (kS i j) = some (.ref d) ∧ H d = some (.dT kvs) ∧ EntK H G kvs (T i j)
  ks : ∀ p ∈ F, ∃ i j, i ≤ j ∧ j ≤ n ∧ p.1 = kS i j
  nd : (F.map (·.1)).Nodup
  apart : ∀ p ∈ F, ∀ q ∈ F, p.2 = q.2 → p.1 = q.1
theorem TabK.up {A B : Hp} (u : Up A B) {G : List Rule} {n : Nat} {F : List (List Key × V)} {T : Nat → Nat → Ent} (h : TabK A G n F T) : TabK B G n F T := by
  refine ⟨fun i j h1 h2 => ?_, h.ks, h.nd, h.apart⟩
  obtain ⟨d, kvs, e1, e2, e3⟩ := h.at_ i j h1 h2
  exact ⟨d, kvs, e1, u.dT e2, e3.up u⟩
theorem valV_at2 : ∀ {kvs : List (List Key × V)} {p : List Key × V}, (kvs.map (·.1)).Nodup → p ∈ kvs → valV kvs p.1 = some p.2
  | q :: r, p, nd, h => by
    rw [List.map_cons, List.nodup_cons] at nd
    rcases List.mem_cons.mp h with e | m
    · rw [e]
      exact valV_pos rfl
    · have ne : ¬ q.1 = p.1 := fun z => nd.1 (by rw [z]; exact List.mem_map.mpr ⟨p, m, rfl⟩)
      rw [valV_neg ne]
      exact valV_at2 nd.2 m
theorem nodup_le2 {α : Type} [DecidableEq α] : ∀ {l m : List α}, l.Nodup → (∀ x ∈ l, x ∈ m) → l.length ≤ m.length
  | [], _, _, _ => Nat.zero_le _
  | x :: l, m, nd, h => by
    have hx := h x List.mem_cons_self
    have h2 := nodup_le2 (l := l) (m := m.erase x) (List.nodup_cons.mp nd).2 fun y hy => by
      have ne : y ≠ x := fun e => (List.nodup_cons.mp nd).1 (e ▸ hy)
      exact (List.mem_erase_of_ne ne).mpr (h y (List.mem_cons_of_mem _ hy))
    have h3 := List.length_erase_of_mem hx
    have h4 := List.length_pos_of_mem hx
    rw [List.length_cons]
    omega
theorem key_in {kvs : List (List Key × V)} {k : List Key} {v : V} (h : valV kvs k = some v) : k ∈ kvs.map (·.1) := List.mem_map.mpr ⟨(k, v), valV_from h, rfl⟩
theorem CostV.eqT {K : PySem.W.Frag} {H : Hp} {v u : V} {o : Option Cost} (h : CostV H v o) (k : CostV H u o) : EqT K H 1 v u := by
  cases o with
  | none =>
    rw [show v = .non from h, show u = .non from k]
    exact .inl ⟨rfl, rfl⟩
  | some c => exact .inr (.inr (.inl ⟨cD c, h.dp, k.dp, cD_shaped c⟩))
/-- two dicts of the same entries are equal -/
theorem EntK.eqT {K : PySem.W.Frag} {H : Hp} {G : List Rule} {ks ls : List (List Key × V)} {e : Ent} (h : EntK H G ks e) (k : EntK H G ls e) : ks.length = ls.length ∧ ∀ p ∈ ks, ∃ u, valV ls p.1 = some u ∧ EqT K H 1 p.2 u := by
  have look : ∀ {ks ls : List (List Key × V)}, EntK H G ks e → EntK H G ls e → ∀ p ∈ ks, ∃ u, valV ls p.1 = some u ∧ EqT K H 1 p.2 u := fun {ks ls} h k p hp => by
    have v1 := valV_at2 h.nd hp
    rcases h.ks p hp with ⟨N, hN, e1⟩ | ⟨r, d, N, ss, h1, h2, e1⟩
    · obtain ⟨v, ev, cv⟩ := h.nm N hN
      obtain ⟨u, eu, cu⟩ := k.nm N hN
      rw [e1, ev] at v1
      rw [e1]
      exact ⟨u, eu, by rw [← Option.some.inj v1]; exact cv.eqT cu⟩
    · obtain ⟨v, ev, cv⟩ := h.rs r d N ss h1 h2
      obtain ⟨u, eu, cu⟩ := k.rs r d N ss h1 h2
      rw [e1, ev] at v1
      rw [e1]
      exact ⟨u, eu, by rw [← Option.some.inj v1]; exact cv.eqT cu⟩
  have sub : ∀ {ks ls : List (List Key × V)}, EntK H G ks e → EntK H G ls e → ks.length ≤ ls.length := fun {ks ls} h k => by
    have := nodup_le2 h.nd fun x hx => by
      obtain ⟨p, hp, rfl⟩ := List.mem_map.mp hx
      obtain ⟨u, eu, _⟩ := look h k p hp
      exact key_in eu
    rwa [List.length_map, List.length_map] at this
  exact ⟨Nat.le_antisymm (sub h k) (sub k h), look h k⟩
/-- two tables of the same entries are equal -/
theorem TabK.eqT {K : PySem.W.Frag} {H : Hp} {G : List Rule} {n : Nat} {F F2 : List (List Key × V)} {T : Nat → Nat → Ent} (h : TabK H G n F T) (k : TabK H G n F2 T) : F.length = F2.length ∧ ∀ p ∈ F, ∃ u, valV F2 p.1 = some u ∧ EqT K H 2 p.2 u := by
  have look : ∀ {F F2 : List (List Key × V)}, TabK H G n F T → TabK H G n F2 T → ∀ p ∈ F, ∃ u, valV F2 p.1 = some u ∧ EqT K H 2 p.2 u := fun {F F2} h k p hp => by
    have v1 := valV_at2 h.nd hp
    obtain ⟨i, j, h1, h2, e1⟩ := h.ks p hp
    obtain ⟨d, kvs, e2, e3, e4⟩ := h.at_ i j h1 h2
    obtain ⟨d2, kvs2, f2, f3, f4⟩ := k.at_ i j h1 h2
    rw [e1, e2] at v1
    rw [e1]
    obtain ⟨l, z⟩ := e4.eqT (K := K) f4
    exact ⟨_, f2, .inr (.inr (.inr (.inl ⟨d, d2, kvs, kvs2, (Option.some.inj v1).symm, rfl, e3, f3, l, z⟩)))⟩
  have sub : ∀ {F F2 : List (List Key × V)}, TabK H G n F T → TabK H G n F2 T → F.length ≤ F2.length := fun {F F2} h k => by
    have := nodup_le2 h.nd fun x hx => by
      obtain ⟨p, hp, rfl⟩ := List.mem_map.mp hx
      obtain ⟨u, eu, _⟩ := look h k p hp
      exact key_in eu
    rwa [List.length_map, List.length_map] at this
  exact ⟨Nat.le_antisymm (sub h k) (sub k h), look h k⟩
/-- where both hold the least costs, the entries agree -/
theorem ent_agree {B : Pb} {i j : Nat} {a b : Ent} (h : LeastAt B a i j) (k : LeastAt B b i j) : a = b := by
  obtain ⟨n1, r1⟩ := a
  obtain ⟨n2, r2⟩ := b
  have e1 : n1 = n2 := funext fun N => least_one (h.nm N) (k.nm N)
  have e2 : r1 = r2 := funext fun r => funext fun d => least_one (h.rs r d) (k.rs r d)
  rw [e1, e2]
end Ld

set_option Elab.async false
set_option linter.all false
set_option maxRecDepth 100000
set_option maxHeartbeats 4000000
/-! The least over the ends of a symbol. -/
namespace Ld
open PySem PySem.Spec PyProof.Rows L2 Lr Lb
/-- does a symbol begin with a small letter -/
def isLow (z : Str) : Bool := match z.cps.toList with
  | c :: _ => decide (c ∈ ("abcdefghijklmnopqrstuvwxyz" : Str).cps.toList)
  | [] => false
def pbOf (G : List Rule) (Z : Prc) (row : List Str) (kn : Nat → Nat → Option Ent) : Pb := ⟨G, leafP Z row, isLow, kn⟩
theorem pbOf_ok {G : List Rule} {Z : Prc} (ok : PrcOk Z) {row : List Str} {kn : Nat → Nat → Option Ent} (hk : ∀ i j e, kn i j = some e → (∀ N c, e.nm N = some c → 0 ≤ c.1 ∧ 0 ≤ c.2) ∧ ∀ r d c, e.rs r d = some c → 0 ≤ c.1 ∧ 0 ≤ c.2) : PbOk (pbOf G Z row kn) :=
  ⟨fun k i e => (leafP_in ok row k i e).1, hk⟩
/-- the cost of the symbol at the dot over i to e, by the entries -/
def headC (B : Pb) (T : Nat → Nat → Ent) (k : Str) (i e : Nat) : Option Cost := if B.isN k = true then (T i e).nm k else some (B.leaf k i e, 1)
/-- what the end e gives -/
def endC (B : Pb) (T : Nat → Nat → Ent) (k : Str) (r d i j e : Nat) : Option Cost := match headC B T k i e, (T e j).rs r (d + 1) with
  | some a, some b => some (a.1 + b.1, a.2 + b.2)
  | _, _ => none
/-- what the ends below lim give -/
def UpC (B : Pb) (T : Nat → Nat → Ent) (k : Str) (r d i j lim : Nat) (c : Cost) : Prop := ∃ e, i ≤ e ∧ e < lim ∧ endC B T k r d i j e = some c
theorem upC_start {B : Pb} {T : Nat → Nat → Ent} {k : Str} {r d i j : Nat} : LeastO (UpC B T k r d i j i) none := fun c ⟨e, h1, h2, _⟩ => by omega
theorem endC_is {B : Pb} {T : Nat → Nat → Ent} {k : Str} {r d i j e : Nat} {c : Cost} : endC B T k r d i j e = some c ↔ ∃ a b, (T e j).rs r (d + 1) = some b ∧ ((B.isN k = false ∧ a = (B.leaf k i e, 1)) ∨ (B.isN k = true ∧ (T i e).nm k = some a)) ∧ c = (a.1 + b.1, a.2 + b.2) := by
  unfold endC headC
  by_cases n : B.isN k = true
  · rw [if_pos n]
    cases h1 : (T i e).nm k with
    | none =>
      constructor
      · intro h
        cases h
      · rintro ⟨a, b, _, ⟨q, _⟩ | ⟨_, q⟩, _⟩
        · rw [n] at q
          cases q
        · cases q
    | some a =>
      cases h2 : (T e j).rs r (d + 1) with
      | none =>
        constructor
        · intro h
          cases h
        · rintro ⟨_, b, q, _⟩
          cases q
      | some b =>
        constructor
        · intro h
          exact ⟨a, b, rfl, .inr ⟨n, rfl⟩, (Option.some.inj h).symm⟩
        · rintro ⟨a2, b2, q1, ⟨q, _⟩ | ⟨_, q⟩, rfl⟩
          · rw [n] at q
            cases q
          · cases q
            cases q1
            rfl
  · have n2 : B.isN k = false := by
      cases q : B.isN k with
      | true => exact (n q).elim
      | false => rfl
    rw [if_neg n]
    cases h2 : (T e j).rs r (d + 1) with
    | none =>
      constructor
      · intro h
        cases h
      · rintro ⟨_, b, q, _⟩
        cases q
    | some b =>
      constructor
      · intro h
        exact ⟨_, b, rfl, .inl ⟨n2, rfl⟩, (Option.some.inj h).symm⟩
      · rintro ⟨a2, b2, q1, ⟨_, rfl⟩ | ⟨q, _⟩, rfl⟩
        · cases q1
          rfl
        · exact (n q).elim
theorem upC_end {B : Pb} {T : Nat → Nat → Ent} {k N : Str} {ss : List Str} {r d i j : Nat} (hr : B.G[r]? = some (N, ss)) (hs : ss[d]? = some k) {o : Option Cost} (h : LeastO (UpC B T k r d i j (j + 1)) o) : LeastO (CombC B T r d i j) o := by
  have iff : ∀ c, CombC B T r d i j c ↔ UpC B T k r d i j (j + 1) c := fun c => by
    constructor
    · rintro ⟨N2, s2, hr2, ⟨e1, _, _⟩ | ⟨k2, e, a, b, hs2, h1, h2, hb, ha, hc⟩⟩
      · rw [hr] at hr2
        cases hr2
        have := (List.getElem?_eq_some_iff.mp hs).1
        omega
      · rw [hr] at hr2
        cases hr2
        rw [hs] at hs2
        cases hs2
        exact ⟨e, h1, by omega, endC_is.mpr ⟨a, b, hb, ha, hc⟩⟩
    · rintro ⟨e, h1, h2, he⟩
      obtain ⟨a, b, hb, ha, hc⟩ := endC_is.mp he
      exact ⟨N, ss, hr, .inr ⟨k, e, a, b, hs, h1, by omega, hb, ha, hc⟩⟩
  have eq : CombC B T r d i j = UpC B T k r d i j (j + 1) := funext fun c => propext (iff c)
  rw [eq]
  exact h
theorem comb_full {B : Pb} {T : Nat → Nat → Ent} {N : Str} {ss : List Str} {r i j : Nat} (hr : B.G[r]? = some (N, ss)) : LeastO (CombC B T r ss.length i j) (if i = j then some (0, 0) else none) := by
  refine LeastO.of (fun c h => ?_) fun c h => ?_
  · split at h
    · rename_i e
      exact ⟨N, ss, hr, .inl ⟨rfl, e, (Option.some.inj h).symm⟩⟩
    · cases h
  · obtain ⟨N2, s2, hr2, ⟨_, e, rfl⟩ | ⟨k2, e, a, b, hs2, _⟩⟩ := h
    · rw [if_pos e]
      exact ⟨_, rfl, cle_refl _⟩
    · rw [hr] at hr2
      cases hr2
      have := (List.getElem?_eq_some_iff.mp hs2).1
      omega
/-- the better one of the two -/
def better (b x : Option Cost) : Option Cost := match b, x with
  | b, none => b
  | none, some x => some x
  | some b, some x => if x.1 < b.1 ∨ (x.1 = b.1 ∧ x.2 < b.2) then some x else some b
theorem better_least {S S2 : Cost → Prop} {b x : Option Cost} (h : LeastO S b) (iff : ∀ c, S2 c ↔ S c ∨ x = some c) : LeastO S2 (better b x) := by
  refine LeastO.of (fun c q => (iff c).mpr ?_) fun c q => ?_
  · cases x with
    | none =>
      have e : b = some c := by
        cases b <;> exact q
      left
      rw [e] at h
      exact h.1
    | some x =>
      cases b with
      | none => exact .inr q
      | some b =>
        unfold better at q
        dsimp only at q
        split at q
        · exact .inr q
        · left
          rw [← Option.some.inj q]
          exact h.1
  · rcases (iff c).mp q with s | s
    · obtain ⟨d, e, l⟩ := h.up s
      rw [e]
      cases x with
      | none => exact ⟨d, rfl, l⟩
      | some x =>
        unfold better
        dsimp only
        split
        · refine ⟨x, rfl, cle_trans ?_ l⟩
          unfold cle
          omega
        · exact ⟨d, rfl, l⟩
    · rw [s]
      cases b with
      | none => exact ⟨c, rfl, cle_refl c⟩
      | some b =>
        unfold better
        dsimp only
        split
        · exact ⟨c, rfl, cle_refl c⟩
        · refine ⟨b, rfl, ?_⟩
          unfold cle
          omega
theorem upC_step {B : Pb} {T : Nat → Nat → Ent} {k : Str} {r d i j lim : Nat} (h : i ≤ lim) {b : Option Cost} (l : LeastO (UpC B T k r d i j lim) b) : LeastO (UpC B T k r d i j (lim + 1)) (better b (endC B T k r d i j lim)) := by
  refine better_least l fun c => ?_
  constructor
  · rintro ⟨e, h1, h2, he⟩
    rcases Nat.lt_succ_iff_lt_or_eq.mp h2 with q | q
    · exact .inl ⟨e, h1, q, he⟩
    · rw [q] at he
      exact .inr he
  · rintro (⟨e, h1, h2, he⟩ | he)
    · exact ⟨e, h1, by omega, he⟩
    · exact ⟨lim, h, by omega, he⟩
end Ld

set_option Elab.async false
set_option linter.all false
set_option maxRecDepth 100000
set_option maxHeartbeats 4000000
/-! A table whose entries of one stretch are changed. -/
namespace Ld
open PySem PySem.Spec PyProof.Rows L2 Lr Lb
/-- all but d stays -/
def But (d : Addr) (A B : Hp) : Prop := ∀ b o, b ≠ d → A b = some o → B b = some o
theorem But.of_same {d : Addr} {A B : Hp} (h : Same A B) : But d A B := fun b o _ e => h b o e
theorem But.trans {d : Addr} {A B C : Hp} (h : But d A B) (k : But d B C) : But d A C := fun b o n e => k b o n (h b o n e)
theorem But.upd {d : Addr} {A B : Hp} {o : HO} (h : But d A B) : But d A (L2.upd B d o) := fun b x n e => by
  rw [upd_ne n]
  exact h b x n e
theorem But.same {d : Addr} {A B : Hp} (h : But d A B) (n : A d = none) : Same A B := fun b o e => h b o (fun z => by rw [z, n] at e; cases e) e
section
variable {A B : Hp} {d : Addr} {kd : List (List Key × V)}
theorem But.tup (h : But d A B) (hd : A d = some (.dT kd)) {a : Addr} {xs : List V} (e : A a = some (.tup xs)) : B a = some (.tup xs) := h a _ (fun z => by rw [z, hd] at e; cases e) e
theorem But.lst (h : But d A B) (hd : A d = some (.dT kd)) {a : Addr} {xs : List V} (e : A a = some (.lst xs)) : B a = some (.lst xs) := h a _ (fun z => by rw [z, hd] at e; cases e) e
theorem CostV.but (h : But d A B) (hd : A d = some (.dT kd)) {v : V} : ∀ {o : Option Cost}, CostV A v o → CostV B v o
  | none, q => q
  | some _, ⟨t, e, q⟩ => ⟨t, e, h.tup hd q⟩
theorem EntK.but (h : But d A B) (hd : A d = some (.dT kd)) {G : List Rule} {kvs : List (List Key × V)} {e : Ent} (q : EntK A G kvs e) : EntK B G kvs e := by
  refine ⟨fun N z => ?_, fun r d N ss h1 h2 => ?_, q.ks, q.nd⟩
  · obtain ⟨v, e1, c⟩ := q.nm N z
    exact ⟨v, e1, c.but h hd⟩
  · obtain ⟨v, e1, c⟩ := q.rs r d N ss h1 h2
    exact ⟨v, e1, c.but h hd⟩
theorem RuleA.but (h : But d A B) (hd : A d = some (.dT kd)) {v : V} {r : Rule} (q : RuleA A v r) : RuleA B v r := by
  obtain ⟨t, l, e, h1, h2⟩ := q
  exact ⟨t, l, e, h.tup hd h1, h.lst hd h2⟩
theorem GrA.but (h : But d A B) (hd : A d = some (.dT kd)) : ∀ {vs : List V} {G : List Rule}, GrA A vs G → GrA B vs G
  | [], [], _ => True.intro
  | v :: vs, r :: G, q => ⟨RuleA.but h hd q.1, GrA.but h hd q.2⟩
  | [], _ :: _, q => q.elim
  | _ :: _, [], q => q.elim
theorem GraA.but (h : But d A B) (hd : A d = some (.dT kd)) {g : Addr} {G : List Rule} (q : GraA A g G) : GraA B g G := by
  obtain ⟨vs, e, z⟩ := q
  exact ⟨vs, h.lst hd e, GrA.but h hd z⟩
/-- the table behind a change of the entries of one stretch -/
theorem TabK.but {G : List Rule} {n : Nat} {F : List (List Key × V)} {T : Nat → Nat → Ent} (q : TabK A G n F T) {i j : Nat} (ij : i ≤ j) (jn : j ≤ n) (hF : valV F (kS i j) = some (.ref d)) (hd : A d = some (.dT kd)) (h : But d A B)
    {kvs : List (List Key × V)} {e : Ent} (hd2 : B d = some (.dT kvs)) (he : EntK B G kvs e) : TabK B G n F (wi T i j e) := by
  refine ⟨fun a b h1 h2 => ?_, q.ks, q.nd, q.apart⟩
  by_cases w : a = i ∧ b = j
  · rw [w.1, w.2, wi_same]
    exact ⟨d, kvs, hF, hd2, he⟩
  · obtain ⟨d2, kv2, e1, e2, e3⟩ := q.at_ a b h1 h2
    rw [wi_other w]
    refine ⟨d2, kv2, e1, h d2 _ (fun z => w ?_) e2, e3.but h hd⟩
    have k1 := valV_from e1
    have k2 := valV_from hF
    have := q.apart _ k1 _ k2 (by show V.ref d2 = V.ref d; rw [z])
    exact kS_inj this
end
theorem put_mem2 {kvs : List (List Key × V)} {k : List Key} {v : V} : ∀ p ∈ putK kvs k v, p ∈ kvs ∨ p = (k, v) := fun p hp => by
  unfold putK at hp
  split at hp
  · obtain ⟨q, hq, e⟩ := List.mem_map.mp hp
    split at e
    · rename_i z
      right
      rw [← e, z]
    · left
      rw [← e]
      exact hq
  · rcases List.mem_append.mp hp with m | m
    · exact .inl m
    · exact .inr (List.mem_singleton.mp m)
theorem put_nodup2 {kvs : List (List Key × V)} {k : List Key} {v : V} (h : (kvs.map (·.1)).Nodup) : ((putK kvs k v).map (·.1)).Nodup := by
  unfold putK
  split
  · have e : (kvs.map fun kv => if kv.1 = k then (kv.1, v) else kv).map (·.1) = kvs.map (·.1) := by
      rw [List.map_map]
      refine List.map_congr_left fun q hq => ?_
      show (if q.1 = k then (q.1, v) else q).1 = q.1
      split <;> rfl
    rw [e]
    exact h
  · rename_i out
    rw [List.map_append, List.nodup_append]
    refine ⟨h, by simp, fun a ha b hb e => out ?_⟩
    rw [List.map_singleton, List.mem_singleton] at hb
    obtain ⟨q, hq, e2⟩ := List.mem_map.mp ha
    refine List.any_eq_true.mpr ⟨q, hq, decide_eq_true ?_⟩
    rw [e2, e, hb]
/-- entries with one put anew -/
theorem EntK.putR {H : Hp} {G : List Rule} {kvs : List (List Key × V)} {e : Ent} (h : EntK H G kvs e) {r d : Nat} {N : Str} {ss : List Str} (hr : G[r]? = some (N, ss)) (hd : d ≤ ss.length) {v : V} {o : Option Cost} (hv : CostV H v o) : EntK H G (putK kvs (kR r d) v) (setR e r d o) := by
  refine ⟨fun M hM => ?_, fun a b M ts h1 h2 => ?_, fun p hp => ?_, ?_⟩
  · obtain ⟨u, e1, c⟩ := h.nm M hM
    refine ⟨u, ?_, c⟩
    rw [valV_put, if_neg (kN_ne M r d)]
    exact e1
  · rw [valV_put]
    by_cases w : a = r ∧ b = d
    · rw [w.1, w.2, if_pos rfl]
      refine ⟨v, rfl, ?_⟩
      show CostV H v (if r = r ∧ d = d then o else e.rs r d)
      rw [if_pos ⟨rfl, rfl⟩]
      exact hv
    · rw [if_neg fun z => w (kR_inj z)]
      obtain ⟨u, e1, c⟩ := h.rs a b M ts h1 h2
      refine ⟨u, e1, ?_⟩
      show CostV H u (if a = r ∧ b = d then o else e.rs a b)
      rw [if_neg w]
      exact c
  · rcases put_mem2 p hp with m | rfl
    · exact h.ks p m
    · exact .inr ⟨r, d, N, ss, hr, hd, rfl⟩
  · exact put_nodup2 h.nd
theorem EntK.putN {H : Hp} {G : List Rule} {kvs : List (List Key × V)} {e : Ent} (h : EntK H G kvs e) {N : Str} (hN : ∃ r ∈ G, r.1 = N) {v : V} {o : Option Cost} (hv : CostV H v o) : EntK H G (putK kvs (kN N) v) (setN e N o) := by
  refine ⟨fun M hM => ?_, fun a b M ts h1 h2 => ?_, fun p hp => ?_, ?_⟩
  · rw [valV_put]
    by_cases w : M = N
    · rw [w, if_pos rfl]
      refine ⟨v, rfl, ?_⟩
      show CostV H v (if N = N then o else e.nm N)
      rw [if_pos rfl]
      exact hv
    · rw [if_neg fun z => w (kN_inj z)]
      obtain ⟨u, e1, c⟩ := h.nm M hM
      refine ⟨u, e1, ?_⟩
      show CostV H u (if M = N then o else e.nm M)
      rw [if_neg w]
      exact c
  · obtain ⟨u, e1, c⟩ := h.rs a b M ts h1 h2
    refine ⟨u, ?_, c⟩
    rw [valV_put, if_neg (Ne.symm (kN_ne N a b))]
    exact e1
  · rcases put_mem2 p hp with m | rfl
    · exact h.ks p m
    · exact .inl ⟨N, hN, rfl⟩
  · exact put_nodup2 h.nd
/-- None or a cost, as data -/
def oD : Option Cost → PyData
  | none => .none
  | some c => cD c
theorem CostV.oD {K : PySem.W.Frag} {H : Hp} {v : V} : ∀ {o : Option Cost}, CostV H v o → Dp K H v (oD o)
  | none, h => by
    rw [show v = .non from h]
    exact .non
  | some _, h => h.dp
theorem oD_shaped : ∀ o : Option Cost, SeqAt.shaped (oD o) = true
  | none => shaped_mk rfl (by simp [oD, PyData.depth])
  | some c => cD_shaped c
theorem oD_eqv (a b : Option Cost) : PyData.eqv (oD a) (oD b) = decide (a = b) := by
  cases a with
  | none =>
    cases b with
    | none => simp [oD, PyData.eqv]
    | some c => simp [oD, cD, PyData.eqv]
  | some a =>
    cases b with
    | none => simp [oD, cD, PyData.eqv]
    | some b =>
      rw [Bool.eq_iff_iff, decide_eq_true_eq]
      simp only [oD, cD, PyData.eqv, PyData.eqvAll, Bool.and_true, Bool.and_eq_true, Option.some.injEq]
      constructor
      · intro h
        exact Prod.ext (by simpa using h.1) (by simpa using h.2)
      · rintro rfl
        simp
/-- a round in which nothing moved so far: rules before r, and r from the dot d on -/
structure Still (B : Pb) (T : Nat → Nat → Ent) (i j : Nat) (r d : Nat) : Prop where
  rs : ∀ a b N ss, B.G[a]? = some (N, ss) → b ≤ ss.length → (a < r ∨ (a = r ∧ d ≤ b)) → LeastO (CombC B T a b i j) ((T i j).rs a b)
  nm : ∀ (a : Nat) N ss c, B.G[a]? = some (N, ss) → a < r → (T i j).rs a 0 = some c → ∃ x, (T i j).nm N = some x ∧ cle x (c.1, c.2 + 1)
/-- all of a grammar, nothing moved: the least entries -/
theorem Still.least {B : Pb} {T : Nat → Nat → Ent} {i j d : Nat} (h : Still B T i j B.G.length d) (ij : i ≤ j) (short : Short B T i j) (hk : B.kn i j = none) (snd : SoundAt B (T i j) i j) : LeastAt B (T i j) i j := by
  have e : wi T i j (T i j) = T := funext fun a => funext fun b => by
    by_cases w : a = i ∧ b = j
    · rw [w.1, w.2, wi_same]
    · rw [wi_other w]
  refine closed_least ij short hk snd (fun r d => ?_) fun r N ss c hr hc => h.nm r N ss c hr (List.getElem?_eq_some_iff.mp hr).1 hc
  rw [e]
  refine LeastO.of (fun c q => ?_) fun c q => ?_
  · obtain ⟨N, ss, hr, hd⟩ := rest_in hk (snd.rs r d c q)
    have := h.rs r d N ss hr hd (.inl (List.getElem?_eq_some_iff.mp hr).1)
    rw [q] at this
    exact this.1
  · obtain ⟨N, ss, hr, z⟩ := id q
    have hd : d ≤ ss.length := by
      rcases z with ⟨e1, _⟩ | ⟨k, f, a, b, hs, _⟩
      · omega
      · exact Nat.le_of_lt (List.getElem?_eq_some_iff.mp hs).1
    exact (h.rs r d N ss hr hd (.inl (List.getElem?_eq_some_iff.mp hr).1)).up q
end Ld

set_option Elab.async false
set_option linter.all false
set_option maxRecDepth 100000
set_option maxHeartbeats 4000000
/-! A table of empty entries, while it is made. -/
namespace Ld
open PySem PySem.Spec PyProof.Rows L2 Lr Lb
/-- a dict of Nones at the keys of D -/
structure NonK (D : List Key → Prop) (kvs : List (List Key × V)) : Prop where
  all : ∀ k, D k → valV kvs k = some .non
  ks : ∀ p ∈ kvs, D p.1
  nd : (kvs.map (·.1)).Nodup
theorem NonK.start {D : List Key → Prop} (h : ∀ k, ¬ D k) : NonK D [] := ⟨fun k q => (h k q).elim, (fun _ m => nomatch m), List.nodup_nil⟩
theorem NonK.put {D D2 : List Key → Prop} {kvs : List (List Key × V)} (h : NonK D kvs) {k : List Key} (iff : ∀ x, D2 x ↔ D x ∨ x = k) : NonK D2 (putK kvs k .non) := by
  refine ⟨fun x q => ?_, fun p hp => (iff _).mpr ?_, put_nodup2 h.nd⟩
  · rw [valV_put]
    split
    · rfl
    · rename_i ne
      rcases (iff x).mp q with z | z
      · exact h.all x z
      · exact (ne z).elim
  · rcases put_mem2 p hp with m | rfl
    · exact .inl (h.ks p m)
    · exact .inr rfl
theorem NonK.iff {D D2 : List Key → Prop} {kvs : List (List Key × V)} (h : NonK D kvs) (iff : ∀ x, D2 x ↔ D x) : NonK D2 kvs := ⟨fun k q => h.all k ((iff k).mp q), fun p m => (iff _).mpr (h.ks p m), h.nd⟩
/-- the keys that are there when the names of the first a rules, and the rests before (r, d), are -/
def KeyD (G : List Rule) (a r d : Nat) (k : List Key) : Prop := (∃ (b : Nat) (N : Str) (ss : List Str), b < a ∧ G[b]? = some (N, ss) ∧ k = kN N) ∨
  ∃ (b c : Nat) (N : Str) (ss : List Str), G[b]? = some (N, ss) ∧ c ≤ ss.length ∧ (b < r ∨ (b = r ∧ c < d)) ∧ k = kR b c
theorem keyD_start (G : List Rule) : ∀ k, ¬ KeyD G 0 0 0 k := by
  rintro k (⟨b, N, ss, h, _⟩ | ⟨b, c, N, ss, _, _, h, _⟩)
  · omega
  · omega
theorem keyD_name {G : List Rule} {a d : Nat} {N : Str} {ss : List Str} (h : G[a]? = some (N, ss)) (x : List Key) : KeyD G (a + 1) a d x ↔ KeyD G a a d x ∨ x = kN N := by
  constructor
  · rintro (⟨b, M, ts, h1, h2, rfl⟩ | z)
    · rcases Nat.lt_succ_iff_lt_or_eq.mp h1 with q | q
      · exact .inl (.inl ⟨b, M, ts, q, h2, rfl⟩)
      · rw [q, h] at h2
        cases h2
        exact .inr rfl
    · exact .inl (.inr z)
  · rintro ((⟨b, M, ts, h1, h2, rfl⟩ | z) | rfl)
    · exact .inl ⟨b, M, ts, by omega, h2, rfl⟩
    · exact .inr z
    · exact .inl ⟨a, N, ss, by omega, h, rfl⟩
theorem keyD_rest {G : List Rule} {a r d : Nat} {N : Str} {ss : List Str} (h : G[r]? = some (N, ss)) (hd : d ≤ ss.length) (x : List Key) : KeyD G a r (d + 1) x ↔ KeyD G a r d x ∨ x = kR r d := by
  constructor
  · rintro (z | ⟨b, c, M, ts, h1, h2, h3, rfl⟩)
    · exact .inl (.inl z)
    · by_cases w : b = r ∧ c = d
      · rw [w.1, w.2]
        exact .inr rfl
      · exact .inl (.inr ⟨b, c, M, ts, h1, h2, by omega, rfl⟩)
  · rintro ((z | ⟨b, c, M, ts, h1, h2, h3, rfl⟩) | rfl)
    · exact .inl z
    · exact .inr ⟨b, c, M, ts, h1, h2, by omega, rfl⟩
    · exact .inr ⟨r, d, N, ss, h, hd, by omega, rfl⟩
theorem keyD_next {G : List Rule} {a r : Nat} {N : Str} {ss : List Str} (h : G[r]? = some (N, ss)) (x : List Key) : KeyD G a (r + 1) 0 x ↔ KeyD G a r (ss.length + 1) x := by
  constructor
  · rintro (z | ⟨b, c, M, ts, h1, h2, h3, rfl⟩)
    · exact .inl z
    · refine .inr ⟨b, c, M, ts, h1, h2, ?_, rfl⟩
      by_cases w : b = r
      · rw [w, h] at h1
        cases h1
        exact .inr ⟨w, by omega⟩
      · exact .inl (by omega)
  · rintro (z | ⟨b, c, M, ts, h1, h2, h3, rfl⟩)
    · exact .inl z
    · exact .inr ⟨b, c, M, ts, h1, h2, .inl (by omega), rfl⟩
def ent0 : Ent := ⟨fun _ => none, fun _ _ => none⟩
theorem NonK.ent {H : Hp} {G : List Rule} {kvs : List (List Key × V)} (h : NonK (KeyD G G.length G.length 0) kvs) : EntK H G kvs ent0 := by
  refine ⟨fun N hN => ?_, fun r d N ss h1 h2 => ?_, fun p hp => ?_, h.nd⟩
  · obtain ⟨q, hq, rfl⟩ := hN
    obtain ⟨b, hb⟩ := List.mem_iff_getElem?.mp hq
    exact ⟨.non, h.all _ (.inl ⟨b, q.1, q.2, (List.getElem?_eq_some_iff.mp hb).1, hb, rfl⟩), rfl⟩
  · exact ⟨.non, h.all _ (.inr ⟨r, d, N, ss, h1, h2, .inl (List.getElem?_eq_some_iff.mp h1).1, rfl⟩), rfl⟩
  · rcases h.ks p hp with ⟨b, N, ss, _, h2, e⟩ | ⟨b, c, N, ss, h1, h2, _, e⟩
    · exact .inl ⟨N, ⟨_, List.mem_of_getElem? h2, rfl⟩, e⟩
    · exact .inr ⟨b, c, N, ss, h1, h2, e⟩
/-- a table, as far as it is made -/
structure TabD (H : Hp) (G : List Rule) (D : Nat → Nat → Prop) (F : List (List Key × V)) : Prop where
  at_ : ∀ i j, D i j → ∃ d kvs, valV F (kS i j) = some (.ref d) ∧ H d = some (.dT kvs) ∧ EntK H G kvs ent0
  ks : ∀ p ∈ F, ∃ i j, D i j ∧ p.1 = kS i j
  nd : (F.map (·.1)).Nodup
  apart : ∀ p ∈ F, ∀ q ∈ F, p.2 = q.2 → p.1 = q.1
theorem TabD.start {H : Hp} {G : List Rule} {D : Nat → Nat → Prop} (h : ∀ i j, ¬ D i j) : TabD H G D [] := ⟨fun i j q => (h i j q).elim, (fun _ m => nomatch m), List.nodup_nil, fun _ m => nomatch m⟩
theorem TabD.iff {H : Hp} {G : List Rule} {D D2 : Nat → Nat → Prop} {F : List (List Key × V)} (h : TabD H G D F) (iff : ∀ i j, D2 i j ↔ D i j) : TabD H G D2 F :=
  ⟨fun i j q => h.at_ i j ((iff i j).mp q), fun p m => let ⟨i, j, q, e⟩ := h.ks p m; ⟨i, j, (iff i j).mpr q, e⟩, h.nd, h.apart⟩
theorem TabD.live {H : Hp} {G : List Rule} {D : Nat → Nat → Prop} {F : List (List Key × V)} (h : TabD H G D F) : ∀ p ∈ F, ∃ d kvs, p.2 = .ref d ∧ H d = some (.dT kvs) := fun p hp => by
  obtain ⟨i, j, q, e⟩ := h.ks p hp
  obtain ⟨d, kvs, e1, e2, _⟩ := h.at_ i j q
  have v := valV_at2 h.nd hp
  rw [e, e1] at v
  exact ⟨d, kvs, (Option.some.inj v).symm, e2⟩
theorem TabD.but {A B : Hp} {d : Addr} {kd : List (List Key × V)} {G : List Rule} {D : Nat → Nat → Prop} {F : List (List Key × V)} (h : TabD A G D F) (hd : A d = some (.dT kd)) (out : ∀ p ∈ F, p.2 ≠ .ref d) (b : But d A B) : TabD B G D F := by
  refine ⟨fun i j q => ?_, h.ks, h.nd, h.apart⟩
  obtain ⟨a, kvs, e1, e2, e3⟩ := h.at_ i j q
  refine ⟨a, kvs, e1, b a _ (fun z => out _ (valV_from e1) (by rw [z])) e2, e3.but b hd⟩
theorem TabD.up {A B : Hp} (u : Up A B) {G : List Rule} {D : Nat → Nat → Prop} {F : List (List Key × V)} (h : TabD A G D F) : TabD B G D F := by
  refine ⟨fun i j q => ?_, h.ks, h.nd, h.apart⟩
  obtain ⟨a, kvs, e1, e2, e3⟩ := h.at_ i j q
  exact ⟨a, kvs, e1, u.dT e2, e3.up u⟩
theorem TabD.put {H : Hp} {d : Addr} {kvs : List (List Key × V)} {G : List Rule} {D D2 : Nat → Nat → Prop} {F : List (List Key × V)} (h : TabD H G D F) (out : ∀ p ∈ F, p.2 ≠ .ref d) (hd : H d = some (.dT kvs)) (he : EntK H G kvs ent0) {i j : Nat} (iff : ∀ a b, D2 a b ↔ D a b ∨ (a = i ∧ b = j))
    (nD : ¬ D i j) : TabD H G D2 (putK F (kS i j) (.ref d)) := by
  have nk : valV F (kS i j) = none := by
    cases q : valV F (kS i j) with
    | none => rfl
    | some v =>
      obtain ⟨a, b, hab, e⟩ := h.ks _ (valV_from q)
      obtain ⟨e1, e2⟩ := kS_inj e
      rw [e1, e2] at nD
      exact (nD hab).elim
  refine ⟨fun a b q => ?_, fun p hp => ?_, put_nodup2 h.nd, fun p hp q hq e => ?_⟩
  · rw [valV_put]
    by_cases w : a = i ∧ b = j
    · rw [w.1, w.2, if_pos rfl]
      exact ⟨d, kvs, rfl, hd, he⟩
    · rw [if_neg fun z => w (kS_inj z)]
      rcases (iff a b).mp q with z | z
      · exact h.at_ a b z
      · exact (w z).elim
  · rcases put_mem2 p hp with m | rfl
    · obtain ⟨a, b, hab, e⟩ := h.ks p m
      exact ⟨a, b, (iff a b).mpr (.inl hab), e⟩
    · exact ⟨i, j, (iff i j).mpr (.inr ⟨rfl, rfl⟩), rfl⟩
  · rcases put_mem2 p hp with m | rfl
    · rcases put_mem2 q hq with k | rfl
      · exact h.apart p m q k e
      · exact (out p m e).elim
    · rcases put_mem2 q hq with k | rfl
      · exact (out q k e.symm).elim
      · rfl
theorem TabD.tab {H : Hp} {G : List Rule} {n : Nat} {F : List (List Key × V)} (h : TabD H G (fun i j => i ≤ j ∧ j ≤ n) F) : TabK H G n F (fun _ _ => ent0) :=
  ⟨fun i j h1 h2 => h.at_ i j ⟨h1, h2⟩, fun p m => let ⟨i, j, q, e⟩ := h.ks p m; ⟨i, j, q.1, q.2, e⟩, h.nd, h.apart⟩
end Ld

set_option Elab.async false
set_option linter.all false
set_option maxRecDepth 100000
set_option maxHeartbeats 4000000
/-! A round over the entries of one stretch: what each step gives. -/
namespace Ld
open PySem PySem.Spec PyProof.Rows L2 Lr Lb
/-- a grammar that the table's parts walk over -/
structure GraT (G : List Rule) : Prop where
  name : ∀ r ∈ G, ∀ s ∈ r.2, isLow s = true → ∃ q ∈ G, q.1 = s
  some_ : ∀ r ∈ G, ∀ s ∈ r.2, 0 < s.length ∧ s.length ≤ 100
  few : ∀ r ∈ G, r.2.length ≤ 20
  rules : G.length ≤ 60
theorem setR_self (e : Ent) (r d : Nat) {o : Option Cost} (h : o = e.rs r d) : setR e r d o = e := by
  obtain ⟨n, s⟩ := e
  unfold setR
  have : (fun a b => if a = r ∧ b = d then o else s a b) = s := funext fun a => funext fun b => by
    split
    · rename_i w
      rw [w.1, w.2, h]
    · rfl
  simp only [this]
theorem setN_self (e : Ent) (N : Str) {o : Option Cost} (h : o = e.nm N) : setN e N o = e := by
  obtain ⟨n, s⟩ := e
  unfold setN
  have : (fun M => if M = N then o else n M) = n := funext fun M => by
    split
    · rename_i w
      rw [w, h]
    · rfl
  simp only [this]
section
variable {B : Pb} {T : Nat → Nat → Ent} {i j : Nat} {e0 e : Ent}
theorem RInv.out {r d d2 : Nat} (h : RInv B i j e0 e r d) (out : ∀ b c, d2 ≤ b → ¬ RestC B r b i j c) : RInv B i j e0 e r d2 :=
  ⟨h.snd, h.mono, fun A A' U nb => let ⟨u1, u2, _, u4⟩ := h.up A A' U nb; ⟨u1, u2, fun b le c m => (out b c le m).elim, u4⟩⟩
theorem rest_none (hk : B.kn i j = none) {r : Nat} {N : Str} {ss : List Str} (hr : B.G[r]? = some (N, ss)) {d : Nat} (h : ss.length < d) : ∀ b c, d ≤ b → ¬ RestC B r b i j c := fun b c le m => by
  obtain ⟨M, ts, h1, h2⟩ := rest_in hk m
  rw [hr] at h1
  cases h1
  omega
theorem rest_none2 (hk : B.kn i j = none) (few : ∀ r ∈ B.G, r.2.length ≤ 20) (r : Nat) : ∀ b c, 21 ≤ b → ¬ RestC B r b i j c := fun b c le m => by
  obtain ⟨M, ts, h1, h2⟩ := rest_in hk m
  have := few _ (List.mem_of_getElem? h1)
  dsimp only at this
  omega
theorem Still.rest {r d : Nat} (h : Still B T i j r (d + 1)) (ho : LeastO (CombC B T r d i j) ((T i j).rs r d)) : Still B T i j r d := by
  refine ⟨fun a b N ss h1 h2 h3 => ?_, h.nm⟩
  by_cases w : a = r ∧ b = d
  · rw [w.1, w.2]
    exact ho
  · exact h.rs a b N ss h1 h2 (by omega)
theorem Still.out {r d : Nat} (h : Still B T i j r d) {N : Str} {ss : List Str} (hr : B.G[r]? = some (N, ss)) : Still B T i j r (ss.length + 1) := by
  refine ⟨fun a b M ts h1 h2 h3 => ?_, h.nm⟩
  by_cases w : a = r
  · rw [w, hr] at h1
    cases h1
    omega
  · exact h.rs a b M ts h1 h2 (by omega)
theorem Still.name {r d : Nat} (h : Still B T i j r 0) (few : ∀ r ∈ B.G, r.2.length ≤ 20) {N : Str} {ss : List Str} (hr : B.G[r]? = some (N, ss)) (hn : ∀ c, (T i j).rs r 0 = some c → ∃ x, (T i j).nm N = some x ∧ cle x (c.1, c.2 + 1)) (hd : 21 ≤ d) : Still B T i j (r + 1) d := by
  refine ⟨fun a b M ts h1 h2 h3 => ?_, fun a M ts c h1 h2 h3 => ?_⟩
  · have := few _ (List.mem_of_getElem? h1)
    dsimp only at this
    exact h.rs a b M ts h1 h2 (by omega)
  · by_cases w : a = r
    · rw [w] at h1 h3
      rw [hr] at h1
      cases h1
      exact hn c h3
    · exact h.nm a M ts c h1 (by omega) h3
theorem Still.start (few : ∀ r ∈ B.G, r.2.length ≤ 20) : Still B T i j 0 21 := by
  refine ⟨fun a b M ts h1 h2 h3 => ?_, fun a M ts c h1 h2 => absurd h2 (Nat.not_lt_zero a)⟩
  have := few _ (List.mem_of_getElem? h1)
  dsimp only at this
  omega
end
def keysAll (G : List Rule) : List (List Key) := G.map (fun r => kN r.1) ++ (List.range 60).flatMap fun r => (List.range 21).map fun d => kR r d
theorem keysAll_len {G : List Rule} (h : G.length ≤ 60) : (keysAll G).length ≤ 1320 := by
  unfold keysAll
  rw [List.length_append, List.length_map]
  have : ((List.range 60).flatMap fun r => (List.range 21).map fun d => kR r d).length = 1260 := by
    rw [List.length_flatMap]
    simp only [List.length_map, List.length_range]
    decide
  omega
theorem EntK.few {H : Hp} {G : List Rule} {kvs : List (List Key × V)} {e : Ent} (gt : GraT G) (h : EntK H G kvs e) : kvs.length ≤ 1320 := by
  have := nodup_le2 (l := kvs.map (·.1)) (m := keysAll G) h.nd fun x hx => by
    obtain ⟨p, hp, rfl⟩ := List.mem_map.mp hx
    unfold keysAll
    rcases h.ks p hp with ⟨N, ⟨r, hr, rfl⟩, e1⟩ | ⟨r, d, N, ss, h1, h2, e1⟩
    · rw [e1]
      exact List.mem_append_left _ (List.mem_map.mpr ⟨r, hr, rfl⟩)
    · rw [e1]
      have l1 := (List.getElem?_eq_some_iff.mp h1).1
      have l2 := gt.rules
      have l3 := gt.few _ (List.mem_of_getElem? h1)
      dsimp only at l3
      exact List.mem_append_right _ (List.mem_flatMap.mpr ⟨r, List.mem_range.mpr (by omega), List.mem_map.mpr ⟨d, List.mem_range.mpr (by omega), rfl⟩⟩)
  rw [List.length_map] at this
  exact Nat.le_trans this (keysAll_len gt.rules)
end Ld

set_option Elab.async false
set_option linter.all false
set_option maxRecDepth 100000
set_option maxHeartbeats 4000000
/-! The grammars that the laws of tables and trees make: mathematics. -/
namespace Ld
open PySem PySem.Spec PyProof.Rows L2 Lr Lb
def N4t : List Str := ["s", "expr", "b", "items"]
structure GramT (G : List Rule) : Prop where
  good : ∀ r ∈ G, r.1 ∈ N4t ∧ r.2.length ≤ 3 ∧ ∀ s ∈ r.2, s ∈ N4t ∨ s ∈ P3
  names : ∀ r ∈ G, ∀ s ∈ r.2, s ∈ N4t → ∃ q ∈ G, q.1 = s
  own : ∀ r ∈ G, ∃ q ∈ G, q.1 = r.1 ∧ ∀ x ∈ q.2, x ∈ P3
  ne : G ≠ []
  few : G.length ≤ 12
  nd : G.Nodup
theorem n4t_low : ∀ s ∈ N4t, isLow s = true := by decide +kernel
theorem p3_low : ∀ s ∈ P3, isLow s = false := by decide +kernel
theorem p3_not : ∀ s ∈ P3, s ∉ N4t := by decide +kernel
theorem n4t_name : ∀ s ∈ N4t, nameB s = true := by decide +kernel
theorem p3_kind : ∀ s ∈ P3, kindB s = true := by decide +kernel
theorem n4t_len : ∀ s ∈ N4t, 0 < s.length ∧ s.length ≤ 100 := by decide +kernel
theorem p3_len : ∀ s ∈ P3, 0 < s.length ∧ s.length ≤ 100 := by decide +kernel
theorem sym_good {s : Str} (h : s ∈ N4t ∨ s ∈ P3) : symB s = true := by
  unfold symB
  rcases h with h | h
  · rw [n4t_name s h, Bool.or_true]
  · rw [p3_kind s h, Bool.true_or]
theorem ruleT_good {r : Rule} (h : r.1 ∈ N4t ∧ r.2.length ≤ 3 ∧ ∀ s ∈ r.2, s ∈ N4t ∨ s ∈ P3) : GoodR r :=
  ⟨n4t_name _ h.1, by have := h.2.1; omega, List.all_eq_true.mpr fun s hs => sym_good (h.2.2 s hs)⟩
theorem GramT.goodR {G : List Rule} (h : GramT G) : ∀ r ∈ G, GoodR r := fun r hr => ruleT_good (h.good r hr)
theorem GramT.walk {G : List Rule} (h : GramT G) : GraT G := by
  refine ⟨fun r hr s hs low => ?_, fun r hr s hs => ?_, fun r hr => by have := (h.good r hr).2.1; omega, by have := h.few; omega⟩
  · rcases (h.good r hr).2.2 s hs with z | z
    · exact h.names r hr s hs z
    · rw [p3_low s z] at low
      cases low
  · rcases (h.good r hr).2.2 s hs with z | z
    · exact n4t_len s z
    · exact p3_len s z
theorem GramT.cover {G : List Rule} (h : GramT G) : ∀ q ∈ G, q.1 ∈ N4t := fun q hq => (h.good q hq).1
/-- while the rules are made -/
structure GramP (ns : List Str) (k n : Nat) (G : List Rule) : Prop where
  good : ∀ r ∈ G, r.1 ∈ ns ∧ r.2.length ≤ 3 ∧ ∀ s ∈ r.2, s ∈ ns ∨ s ∈ P3
  own : ∀ (a : Nat) N, a < k → ns[a]? = some N → ∃ q ∈ G, q.1 = N ∧ ∀ x ∈ q.2, x ∈ P3
  few : G.length ≤ n
  ne : 0 < k → G ≠ []
theorem GramP.start (ns : List Str) : GramP ns 0 0 [] := ⟨(fun _ h => nomatch h), (fun a N h => absurd h (Nat.not_lt_zero a)), Nat.le_refl _, fun h => absurd h (Nat.lt_irrefl 0)⟩
theorem GramP.own_ {ns : List Str} {k n : Nat} {G : List Rule} (h : GramP ns k n G) {N : Str} (hN : ns[k]? = some N) {ss : List Str} (l : ss.length ≤ 3) (hs : ∀ s ∈ ss, s ∈ P3) : GramP ns (k + 1) (n + 1) (G ++ [(N, ss)]) := by
  refine ⟨fun r hr => ?_, fun a M lt e => ?_, ?_, fun _ z => by simp at z⟩
  · rcases List.mem_append.mp hr with m | m
    · exact h.good r m
    · rw [List.mem_singleton.mp m]
      exact ⟨List.mem_of_getElem? hN, l, fun s z => .inr (hs s z)⟩
  · rcases Nat.lt_succ_iff_lt_or_eq.mp lt with q | q
    · obtain ⟨r, hr, z⟩ := h.own a M q e
      exact ⟨r, List.mem_append_left _ hr, z⟩
    · rw [q, hN] at e
      cases e
      exact ⟨(N, ss), List.mem_append_right _ (List.mem_singleton.mpr rfl), rfl, hs⟩
  · rw [List.length_append, List.length_singleton]
    have := h.few
    omega
theorem GramP.more {ns : List Str} {k n : Nat} {G : List Rule} (h : GramP ns k n G) {r : Rule} (hr : r.1 ∈ ns ∧ r.2.length ≤ 3 ∧ ∀ s ∈ r.2, s ∈ ns ∨ s ∈ P3) (A B : List Rule) (e : G = A ++ B) : GramP ns k (n + 1) (A ++ [r] ++ B) := by
  refine ⟨fun q hq => ?_, fun a M lt e2 => ?_, ?_, fun _ z => by simp at z⟩
  · rcases List.mem_append.mp hq with m | m
    · rcases List.mem_append.mp m with m | m
      · exact h.good q (by rw [e]; exact List.mem_append_left _ m)
      · rw [List.mem_singleton.mp m]
        exact hr
    · exact h.good q (by rw [e]; exact List.mem_append_right _ m)
  · obtain ⟨q, hq, z⟩ := h.own a M lt e2
    rw [e] at hq
    refine ⟨q, ?_, z⟩
    rcases List.mem_append.mp hq with m | m
    · exact List.mem_append_left _ (List.mem_append_left _ m)
    · exact List.mem_append_right _ m
  · have := h.few
    rw [e] at this
    simp only [List.length_append, List.length_singleton] at this ⊢
    omega
theorem GramP.skip {ns : List Str} {k n m : Nat} {G : List Rule} (h : GramP ns k n G) (l : n ≤ m) : GramP ns k m G := ⟨h.good, h.own, Nat.le_trans h.few l, h.ne⟩
/-- each rule once -/
def nubStep (D : List Rule) (r : Rule) : List Rule := if r ∈ D then D else D ++ [r]
theorem nub_take {G : List Rule} {i : Nat} {r : Rule} (h : G[i]? = some r) : (G.take (i + 1)).foldl nubStep [] = nubStep ((G.take i).foldl nubStep []) r := by
  rw [List.take_add_one, h, List.foldl_append]
  rfl
theorem nub_in (ys : List Rule) : ∀ (D : List Rule) (x : Rule), x ∈ ys.foldl nubStep D ↔ x ∈ D ∨ x ∈ ys := by
  induction ys with
  | nil => simp
  | cons y ys ih =>
    intro D x
    rw [List.foldl_cons, ih, List.mem_cons]
    unfold nubStep
    split
    · rename_i m
      constructor
      · rintro (z | z)
        · exact .inl z
        · exact .inr (.inr z)
      · rintro (z | z | z)
        · exact .inl z
        · exact .inl (z ▸ m)
        · exact .inr z
    · rw [List.mem_append, List.mem_singleton]
      constructor
      · rintro ((z | z) | z)
        · exact .inl z
        · exact .inr (.inl z)
        · exact .inr (.inr z)
      · rintro (z | z | z)
        · exact .inl (.inl z)
        · exact .inl (.inr z)
        · exact .inr z
theorem nub_len (ys : List Rule) : ∀ D : List Rule, (ys.foldl nubStep D).length ≤ D.length + ys.length := by
  induction ys with
  | nil => exact fun D => Nat.le_refl _
  | cons y ys ih =>
    intro D
    have := ih (nubStep D y)
    have : (nubStep D y).length ≤ D.length + 1 := by
      unfold nubStep
      split
      · omega
      · rw [List.length_append]
        exact Nat.le_refl _
    rw [List.foldl_cons, List.length_cons]
    omega
theorem nub_nd (ys : List Rule) : ∀ D : List Rule, D.Nodup → (ys.foldl nubStep D).Nodup := by
  induction ys with
  | nil => exact fun D h => h
  | cons y ys ih =>
    intro D h
    rw [List.foldl_cons]
    refine ih _ ?_
    unfold nubStep
    split
    · exact h
    · rename_i out
      rw [List.nodup_append]
      refine ⟨h, by simp, fun p hp p2 hp2 e => ?_⟩
      rw [List.mem_singleton.mp hp2] at e
      rw [e] at hp
      exact out hp
theorem GramP.gram {ns : List Str} {k n : Nat} {G : List Rule} (h : GramP ns k n G) (sub : ∀ s ∈ ns, s ∈ N4t) (full : k = ns.length) (k0 : 0 < k) (n12 : n ≤ 12) : GramT (G.foldl nubStep []) := by
  have mem : ∀ x, x ∈ G.foldl nubStep [] ↔ x ∈ G := fun x => by rw [nub_in]; simp
  have own : ∀ N ∈ ns, ∃ q ∈ G.foldl nubStep [], q.1 = N ∧ ∀ x ∈ q.2, x ∈ P3 := fun N hN => by
    obtain ⟨a, ha⟩ := List.mem_iff_getElem?.mp hN
    obtain ⟨q, hq, z⟩ := h.own a N (by rw [full]; exact (List.getElem?_eq_some_iff.mp ha).1) ha
    exact ⟨q, (mem q).mpr hq, z⟩
  have g : ∀ r ∈ G.foldl nubStep [], r.1 ∈ ns ∧ r.2.length ≤ 3 ∧ ∀ s ∈ r.2, s ∈ ns ∨ s ∈ P3 := fun r hr => h.good r ((mem r).mp hr)
  refine ⟨fun r hr => ?_, fun r hr s hs n4 => ?_, fun r hr => own _ (g r hr).1, fun z => ?_, ?_, nub_nd G [] List.nodup_nil⟩
  · obtain ⟨g1, g2, g3⟩ := g r hr
    exact ⟨sub _ g1, g2, fun s hs => (g3 s hs).imp_left (sub s)⟩
  · rcases (g r hr).2.2 s hs with z | z
    · obtain ⟨q, hq, e, _⟩ := own s z
      exact ⟨q, hq, e⟩
    · exact (p3_not s z n4).elim
  · cases eG : G with
    | nil => exact h.ne k0 eG
    | cons x G2 =>
      have := (mem x).mpr (by rw [eG]; exact List.mem_cons_self)
      rw [z] at this
      cases this
  · have := nub_len G []
    have := h.few
    rw [List.length_nil] at *
    omega
/-! ### rules in the heap, some of them -/
theorem GrA.app {H : Hp} : ∀ {vs ws : List V} {G G2 : List Rule}, GrA H vs G → GrA H ws G2 → GrA H (vs ++ ws) (G ++ G2)
  | [], _, [], _, _, k => k
  | _ :: _, _, _ :: _, _, h, k => ⟨h.1, GrA.app h.2 k⟩
  | [], _, _ :: _, _, h, _ => h.elim
  | _ :: _, _, [], _, h, _ => h.elim
theorem GrA.take {H : Hp} : ∀ (n : Nat) {vs : List V} {G : List Rule}, GrA H vs G → GrA H (vs.take n) (G.take n)
  | 0, _, _, _ => by
    rw [List.take_zero, List.take_zero]
    exact True.intro
  | _ + 1, [], [], _ => True.intro
  | n + 1, _ :: _, _ :: _, h => ⟨h.1, GrA.take n h.2⟩
  | _ + 1, [], _ :: _, h => h.elim
  | _ + 1, _ :: _, [], h => h.elim
theorem GrA.drop {H : Hp} : ∀ (n : Nat) {vs : List V} {G : List Rule}, GrA H vs G → GrA H (vs.drop n) (G.drop n)
  | 0, _, _, h => h
  | _ + 1, [], [], _ => True.intro
  | n + 1, _ :: _, _ :: _, h => GrA.drop n h.2
  | _ + 1, [], _ :: _, h => h.elim
  | _ + 1, _ :: _, [], h => h.elim
theorem cut_pre {vs : List V} {n : Nat} (h : n ≤ vs.length) : cutV vs none (some (n : Int)) = vs.take n := by
  unfold cutV
  rw [HT.sIx_nat, HT.sIx_none, Nat.min_eq_left h, List.drop_zero, Nat.sub_zero]
theorem cut_post {vs : List V} {n : Nat} (h : n ≤ vs.length) : cutV vs (some (n : Int)) none = vs.drop n := by
  unfold cutV
  rw [HT.sIx_nat, HT.sIx_none, Nat.min_eq_left h]
  exact List.take_of_length_le (by rw [List.length_drop]; exact Nat.le_refl _)
end Ld

set_option Elab.async false
set_option linter.all false
set_option maxRecDepth 100000
set_option maxHeartbeats 4000000
/-! Signs: a kind, a text, a start; pairs of a kind and a text; how far two lists are alike. -/
namespace Ld
open PySem PySem.Spec PyProof.Rows L2 Lr
structure Sg where
  k : Str
  t : Str
  n : Nat
abbrev Pa : Type := Str × Str
def Sg.pa (s : Sg) : Pa := (s.k, s.t)
def SgA (H : Hp) (v : V) (s : Sg) : Prop := ∃ a, v = .ref a ∧ H a = some (.tup [.str s.k, .str s.t, .int s.n])
def PaA (H : Hp) (v : V) (p : Pa) : Prop := ∃ a, v = .ref a ∧ H a = some (.tup [.str p.1, .str p.2])
theorem SgA.same {A B : Hp} (u : Same A B) (v : V) (s : Sg) (h : SgA A v s) : SgA B v s := let ⟨a, e, q⟩ := h; ⟨a, e, u _ _ q⟩
theorem PaA.same {A B : Hp} (u : Same A B) (v : V) (s : Pa) (h : PaA A v s) : PaA B v s := let ⟨a, e, q⟩ := h; ⟨a, e, u _ _ q⟩
/-- tuples stand -/
def TupS (A B : Hp) : Prop := ∀ b xs, A b = some (.tup xs) → B b = some (.tup xs)
theorem TupS.of_same {A B : Hp} (u : Same A B) : TupS A B := fun b xs e => u b _ e
theorem TupS.trans {A B C : Hp} (u : TupS A B) (v : TupS B C) : TupS A C := fun b xs e => v b xs (u b xs e)
theorem TupS.at_lst {A : Hp} {d : Addr} {ws : List V} {o : HO} (h : A d = some (.lst ws)) : TupS A (upd A d o) := fun b xs e => by
  have ne : b ≠ d := fun z => by rw [z, h] at e; cases e
  rw [upd_ne ne]
  exact e
theorem SgA.tupS {A B : Hp} (u : TupS A B) (v : V) (s : Sg) (h : SgA A v s) : SgA B v s := let ⟨a, e, q⟩ := h; ⟨a, e, u _ _ q⟩
theorem PaA.tupS {A B : Hp} (u : TupS A B) (v : V) (s : Pa) (h : PaA A v s) : PaA B v s := let ⟨a, e, q⟩ := h; ⟨a, e, u _ _ q⟩
/-- a list of signs, of pairs, at an address -/
def SgsA (H : Hp) (a : Addr) (xs : List Sg) : Prop := ∃ vs, H a = some (.lst vs) ∧ Rel2 (SgA H) vs xs
def PasA (H : Hp) (a : Addr) (xs : List Pa) : Prop := ∃ vs, H a = some (.lst vs) ∧ Rel2 (PaA H) vs xs
theorem SgsA.same {A B : Hp} (u : Same A B) {a : Addr} {xs : List Sg} (h : SgsA A a xs) : SgsA B a xs := let ⟨vs, e, q⟩ := h; ⟨vs, u _ _ e, q.mono (SgA.same u)⟩
theorem PasA.same {A B : Hp} (u : Same A B) {a : Addr} {xs : List Pa} (h : PasA A a xs) : PasA B a xs := let ⟨vs, e, q⟩ := h; ⟨vs, u _ _ e, q.mono (PaA.same u)⟩
def sgD (s : Sg) : PyData := .tuple [.str s.k, .str s.t, .int s.n]
def paD (p : Pa) : PyData := .tuple [.str p.1, .str p.2]
def sgsD (xs : List Sg) : PyData := .list (xs.map sgD)
def pasD (xs : List Pa) : PyData := .list (xs.map paD)
theorem SgsA.dp {K : PySem.W.Frag} {H : Hp} {a : Addr} {xs : List Sg} (h : SgsA H a xs) : Dp K H (.ref a) (sgsD xs) := by
  obtain ⟨vs, e, q⟩ := h
  refine .lst (SqL.of e) (q.dp fun v s hs => ?_)
  obtain ⟨b, rfl, hb⟩ := hs
  exact .tup (SqT.of hb) (.cons (.str _) (.cons (.str _) (.cons (.int _) .nil)))
theorem PasA.dp {K : PySem.W.Frag} {H : Hp} {a : Addr} {xs : List Pa} (h : PasA H a xs) : Dp K H (.ref a) (pasD xs) := by
  obtain ⟨vs, e, q⟩ := h
  refine .lst (SqL.of e) (q.dp fun v s hs => ?_)
  obtain ⟨b, rfl, hb⟩ := hs
  exact .tup (SqT.of hb) (.cons (.str _) (.cons (.str _) .nil))
theorem pas_eqv : ∀ xs ys : List Pa, PyData.eqvAll (xs.map paD) (ys.map paD) = decide (xs = ys)
  | [], [] => by simp [PyData.eqvAll]
  | [], _ :: _ => by simp [PyData.eqvAll]
  | _ :: _, [] => by simp [PyData.eqvAll]
  | x :: xs, y :: ys => by
    rw [List.map_cons, List.map_cons, PyData.eqvAll, pas_eqv xs ys, paD, paD, PyData.eqv, PyData.eqvAll, PyData.eqvAll, PyData.eqvAll, PyData.eqv, PyData.eqv, Bool.eq_iff_iff]
    obtain ⟨x1, x2⟩ := x
    obtain ⟨y1, y2⟩ := y
    simp
theorem paD_eqv (x y : Pa) : PyData.eqv (paD x) (paD y) = decide (x = y) := by
  obtain ⟨x1, x2⟩ := x
  obtain ⟨y1, y2⟩ := y
  rw [paD, paD, PyData.eqv, PyData.eqvAll, PyData.eqvAll, PyData.eqvAll, PyData.eqv, PyData.eqv, Bool.eq_iff_iff]
  simp
theorem pasD_eqv (xs ys : List Pa) : PyData.eqv (pasD xs) (pasD ys) = decide (xs = ys) := by
  unfold pasD
  rw [PyData.eqv]
  exact pas_eqv xs ys
/-- the texts of a pair can be laid -/
def PaOk (p : Pa) : Prop := PyData.strOk p.1 = true ∧ PyData.strOk p.2 = true
theorem paD_shaped {p : Pa} (h : PaOk p) : SeqAt.shaped (paD p) = true := shaped_mk (by simp [paD, PyData.canLay0, PyData.canLayAll0, h.1, h.2]) (by simp [paD, PyData.depth, PyData.depthAll])
theorem pas_lay : ∀ {xs : List Pa}, (∀ p ∈ xs, PaOk p) → PyData.canLayAll0 (xs.map paD) = true
  | [], _ => rfl
  | x :: xs, h => by
    rw [List.map_cons, PyData.canLayAll0, pas_lay fun p m => h p (List.mem_cons_of_mem _ m), SeqAt.canLay_of_shaped (paD_shaped (h x List.mem_cons_self))]
    rfl
theorem pas_depth : ∀ xs : List Pa, PyData.depthAll (xs.map paD) ≤ 2
  | [] => by simp [PyData.depthAll]
  | x :: xs => by
    have := pas_depth xs
    simp only [List.map_cons, PyData.depthAll, paD, PyData.depth]
    omega
theorem pasD_shaped {xs : List Pa} (h : ∀ p ∈ xs, PaOk p) : SeqAt.shaped (pasD xs) = true := shaped_mk (by unfold pasD; rw [PyData.canLay0]; exact pas_lay h) (by
  have := pas_depth xs
  simp only [pasD, PyData.depth]
  omega)
/-! ### how far two lists are alike -/
structure Lcp {α : Type} (xs ys : List α) (n : Nat) : Prop where
  l1 : n ≤ xs.length
  l2 : n ≤ ys.length
  eq : xs.take n = ys.take n
  most : ∀ m, m ≤ xs.length → m ≤ ys.length → xs.take m = ys.take m → m ≤ n
theorem Lcp.unique {α : Type} {xs ys : List α} {n m : Nat} (h : Lcp xs ys n) (k : Lcp xs ys m) : n = m := Nat.le_antisymm (k.most n h.l1 h.l2 h.eq) (h.most m k.l1 k.l2 k.eq)
theorem take_le {α : Type} {xs ys : List α} {n m : Nat} (h : xs.take n = ys.take n) (l : m ≤ n) : xs.take m = ys.take m := by
  have := congrArg (List.take m) h
  rwa [List.take_take, List.take_take, Nat.min_eq_left l] at this
theorem Lcp.mk' {α : Type} {xs ys : List α} {n : Nat} (l1 : n ≤ xs.length) (l2 : n ≤ ys.length) (eq : xs.take n = ys.take n) (no : n < xs.length → n < ys.length → xs[n]? ≠ ys[n]?) : Lcp xs ys n :=
  ⟨l1, l2, eq, fun m m1 m2 e => Nat.le_of_not_lt fun lt => no (by omega) (by omega) (by
    have h1 : (xs.take m)[n]? = xs[n]? := List.getElem?_take_of_lt lt
    have h2 : (ys.take m)[n]? = ys[n]? := List.getElem?_take_of_lt lt
    rw [← h1, ← h2, e])⟩
theorem take_more {α : Type} {xs ys : List α} {n : Nat} {x : α} (e : xs.take n = ys.take n) (h1 : xs[n]? = some x) (h2 : ys[n]? = some x) : xs.take (n + 1) = ys.take (n + 1) := by
  rw [List.take_add_one, List.take_add_one, e, h1, h2]
/-- the ends behind the first a -/
theorem rev_take {α : Type} {xs : List α} {a n : Nat} (h : n ≤ xs.length - a) : ((xs.drop a).reverse).take n = (xs.drop (xs.length - n)).reverse := by
  rw [List.take_reverse, List.length_drop, List.drop_drop]
  by_cases ha : a ≤ xs.length
  · rw [show a + (xs.length - a - n) = xs.length - n by omega]
  · rw [show n = 0 by omega, List.drop_of_length_le (by omega), List.drop_of_length_le (by omega)]
end Ld

set_option Elab.async false
set_option linter.all false
set_option maxRecDepth 100000
set_option maxHeartbeats 4000000
/-! Lexicons and the cutting of texts, as mathematics; lexicons in the heap. -/
namespace Ld
open PySem PySem.Spec PyProof.Rows L2 Lr
structure Pt where
  k : Str
  f : Str
  c : Str
def PtA (H : Hp) (v : V) (p : Pt) : Prop := ∃ a, v = .ref a ∧ H a = some (.tup [.str p.k, .str p.f, .str p.c])
theorem PtA.tupS {A B : Hp} (u : TupS A B) (v : V) (s : Pt) (h : PtA A v s) : PtA B v s := let ⟨a, e, q⟩ := h; ⟨a, e, u _ _ q⟩
theorem PtA.same {A B : Hp} (u : Same A B) (v : V) (s : Pt) (h : PtA A v s) : PtA B v s := let ⟨a, e, q⟩ := h; ⟨a, e, u _ _ q⟩
/-- the lexicon of ps, passing over the signs of z, at t -/
def LexA (H : Hp) (t : Addr) (ps : List Pt) (z : Str) : Prop := ∃ l vs, H t = some (.tup [.ref l, .str z]) ∧ H l = some (.lst vs) ∧ Rel2 (PtA H) vs ps
theorem LexA.same {A B : Hp} (u : Same A B) {t : Addr} {ps : List Pt} {z : Str} (h : LexA A t ps z) : LexA B t ps z := let ⟨l, vs, e1, e2, q⟩ := h; ⟨l, vs, u _ _ e1, u _ _ e2, q.mono (PtA.same u)⟩
def ptD (p : Pt) : PyData := .tuple [.str p.k, .str p.f, .str p.c]
def lexD (ps : List Pt) (z : Str) : PyData := .tuple [.list (ps.map ptD), .str z]
theorem LexA.dp {K : PySem.W.Frag} {H : Hp} {t : Addr} {ps : List Pt} {z : Str} (h : LexA H t ps z) : Dp K H (.ref t) (lexD ps z) := by
  obtain ⟨l, vs, e1, e2, q⟩ := h
  refine .tup (SqT.of e1) (.cons (.lst (SqL.of e2) (q.dp fun v s hs => ?_)) (.cons (.str _) .nil))
  obtain ⟨b, rfl, hb⟩ := hs
  exact .tup (SqT.of hb) (.cons (.str _) (.cons (.str _) (.cons (.str _) .nil)))
/-! ### matches -/
abbrev cds (z : Str) : List Nat := z.cps.toList
theorem cds_len (z : Str) : (cds z).length = z.length := by
  show z.cps.toList.length = z.cps.size
  rw [Array.length_toList]
def sub (z : Str) (i n : Nat) : Str := ⟨(((cds z).drop i).take n).toArray⟩
theorem cds_sub (z : Str) (i n : Nat) : cds (sub z i n) = ((cds z).drop i).take n := rfl
theorem sub_len (z : Str) (i n : Nat) : (sub z i n).length = min n (z.length - i) := by
  rw [← cds_len, cds_sub, List.length_take, List.length_drop, cds_len]
theorem cutS_sub (z : Str) (i n : Nat) : cutS z (some (i : Int)) (some ((i + n : Nat) : Int)) = sub z i n := by
  unfold cutS sub
  rw [HT.sIx_nat, HT.sIx_nat]
  have hl := cds_len z
  congr 2
  by_cases h : i ≤ z.length
  · rw [Nat.min_eq_left h]
    by_cases h2 : i + n ≤ z.length
    · rw [Nat.min_eq_left h2, Nat.add_sub_cancel_left]
    · have h2 := Nat.le_of_lt (Nat.lt_of_not_le h2)
      rw [Nat.min_eq_right h2, List.take_of_length_le (by rw [List.length_drop, hl]; exact Nat.le_refl _), List.take_of_length_le (by rw [List.length_drop, hl]; omega)]
  · have h := Nat.le_of_lt (Nat.lt_of_not_le h)
    rw [Nat.min_eq_right h, List.drop_of_length_le (Nat.le_of_eq hl), List.drop_of_length_le (by rw [hl]; exact h), List.take_nil, List.take_nil]
theorem str_ext {a b : Str} : a = b ↔ cds a = cds b := ⟨fun h => by rw [h], fun h => by
  obtain ⟨a⟩ := a
  obtain ⟨b⟩ := b
  exact congrArg Str.mk (Array.toList_inj.mp h)⟩
def wordN (w z : Str) (i : Nat) : Nat := if sub z i w.length = w then w.length else 0
def runN (c z : Str) (i : Nat) : Nat := (((cds z).drop i).takeWhile fun x => decide (x ∈ cds c)).length
def matN (p : Pt) (z : Str) (i : Nat) : Nat := if p.f = "word" then wordN p.c z i else runN p.c z i
theorem wordN_le (w z : Str) (i : Nat) : wordN w z i ≤ z.length - i := by
  unfold wordN
  split
  · rename_i h
    have := congrArg Str.length h
    rw [sub_len] at this
    omega
  · exact Nat.zero_le _
theorem runN_le (c z : Str) (i : Nat) : runN c z i ≤ z.length - i := by
  unfold runN
  have := (List.takeWhile_sublist (fun x => decide (x ∈ cds c)) (l := (cds z).drop i)).length_le
  rw [List.length_drop, cds_len] at this
  exact this
theorem matN_le (p : Pt) (z : Str) (i : Nat) : matN p z i ≤ z.length - i := by
  unfold matN
  split
  · exact wordN_le _ _ _
  · exact runN_le _ _ _
theorem starts_is {w z : Str} {i : Nat} (hi : i ≤ z.length) : Txt.startswith3 z w (i : Int) = decide (sub z i w.length = w) := by
  unfold Txt.startswith3
  have e : fromIndex z.length (i : Int) = i := by
    unfold fromIndex
    rw [if_neg (by omega)]
    omega
  rw [e, PySem.StrLaws.subAt_eq, Bool.eq_iff_iff, Bool.and_eq_true, decide_eq_true_eq, beq_iff_eq]
  constructor
  · intro h
    rw [decide_eq_true_eq, str_ext, cds_sub]
    exact h.2
  · intro h
    rw [decide_eq_true_eq] at h
    have l := congrArg Str.length h
    rw [sub_len] at l
    refine ⟨by omega, ?_⟩
    rw [str_ext, cds_sub] at h
    exact h
/-- a run goes on as long as its characters stand -/
theorem run_stop {c z : Str} {i n : Nat} (h : ∀ j, j < n → ∃ x, (cds z)[i + j]? = some x ∧ x ∈ cds c) (e : ∀ x, (cds z)[i + n]? = some x → x ∉ cds c) : runN c z i = n := by
  unfold runN
  have : ∀ (n : Nat) (L : List Nat), (∀ j, j < n → ∃ x, L[j]? = some x ∧ x ∈ cds c) → (∀ x, L[n]? = some x → x ∉ cds c) → (L.takeWhile fun x => decide (x ∈ cds c)).length = n := by
    intro n
    induction n with
    | zero =>
      intro L _ h2
      cases L with
      | nil => rfl
      | cons x L => rw [List.takeWhile_cons, decide_eq_false (h2 x rfl)]; rfl
    | succ n ih =>
      intro L h1 h2
      cases L with
      | nil =>
        obtain ⟨x, hx, _⟩ := h1 0 (Nat.succ_pos _)
        cases hx
      | cons x L =>
        obtain ⟨y, hy, m⟩ := h1 0 (Nat.succ_pos _)
        cases hy
        rw [List.takeWhile_cons, decide_eq_true m]
        show (L.takeWhile _).length + 1 = n + 1
        rw [ih L (fun j hj => h1 (j + 1) (Nat.succ_lt_succ hj)) (fun x hx => h2 x hx)]
  refine this n _ (fun j hj => ?_) (fun x hx => ?_)
  · rw [List.getElem?_drop]
    exact h j hj
  · rw [List.getElem?_drop] at hx
    exact e x hx
/-! ### the sign at an index -/
def best (z : Str) (i : Nat) (b : Str × Nat) (p : Pt) : Str × Nat := if b.2 < matN p z i then (p.k, matN p z i) else b
def bestOf (ps : List Pt) (z : Str) (i : Nat) : Str × Nat := ps.foldl (best z i) ("OTHER", 0)
theorem bestOf_take {ps : List Pt} {z : Str} {i n : Nat} {p : Pt} (h : ps[n]? = some p) : bestOf (ps.take (n + 1)) z i = best z i (bestOf (ps.take n) z i) p := by
  unfold bestOf
  rw [List.take_add_one, h, List.foldl_append]
  rfl
theorem bestOf_le (ps : List Pt) (z : Str) (i : Nat) : (bestOf ps z i).2 ≤ z.length - i := by
  have : ∀ (ps : List Pt) (b : Str × Nat), b.2 ≤ z.length - i → (ps.foldl (best z i) b).2 ≤ z.length - i := by
    intro ps
    induction ps with
    | nil => exact fun b h => h
    | cons p ps ih =>
      intro b h
      rw [List.foldl_cons]
      refine ih _ ?_
      unfold best
      split
      · exact matN_le _ _ _
      · exact h
  exact this ps _ (Nat.zero_le _)
def sizeAt (ps : List Pt) (z : Str) (i : Nat) : Nat := max (bestOf ps z i).2 1
theorem sizeAt_le {ps : List Pt} {z : Str} {i : Nat} (h : i < z.length) : 1 ≤ sizeAt ps z i ∧ i + sizeAt ps z i ≤ z.length := by
  unfold sizeAt
  have := bestOf_le ps z i
  omega
def sgAt (ps : List Pt) (z : Str) (i : Nat) : Sg := ⟨(bestOf ps z i).1, sub z i (sizeAt ps z i), i⟩
theorem sgAt_len {ps : List Pt} {z : Str} {i : Nat} (h : i < z.length) : (sgAt ps z i).t.length = sizeAt ps z i := by
  have := sizeAt_le (ps := ps) h
  show (sub z i (sizeAt ps z i)).length = _
  rw [sub_len]
  omega
/-! ### the cutting -/
def isPassed (o z : Str) (i : Nat) : Bool := decide ((cds z).getD i 0 ∈ cds o)
def stp (ps : List Pt) (o z : Str) (b : Nat × List Sg) : Nat × List Sg :=
  if b.1 < z.length then (if isPassed o z b.1 = true then (b.1 + 1, b.2) else (b.1 + sizeAt ps z b.1, b.2 ++ [sgAt ps z b.1])) else b
def itr (ps : List Pt) (o z : Str) : Nat → Nat × List Sg
  | 0 => (0, [])
  | n + 1 => stp ps o z (itr ps o z n)
def cutOf (ps : List Pt) (o z : Str) : List Sg := (itr ps o z z.length).2
theorem stp_end {ps : List Pt} {o z : Str} {b : Nat × List Sg} (h : ¬ b.1 < z.length) : stp ps o z b = b := if_neg h
theorem stp_pass {ps : List Pt} {o z : Str} {b : Nat × List Sg} (h : b.1 < z.length) (p : isPassed o z b.1 = true) : stp ps o z b = (b.1 + 1, b.2) := (if_pos h).trans (if_pos p)
theorem stp_sign {ps : List Pt} {o z : Str} {b : Nat × List Sg} (h : b.1 < z.length) (p : isPassed o z b.1 = false) : stp ps o z b = (b.1 + sizeAt ps z b.1, b.2 ++ [sgAt ps z b.1]) := (if_pos h).trans (if_neg (by rw [p]; exact Bool.false_ne_true))
theorem itr_fix {ps : List Pt} {o z : Str} {n : Nat} (h : ¬ (itr ps o z n).1 < z.length) : ∀ m, itr ps o z (n + m) = itr ps o z n
  | 0 => rfl
  | m + 1 => by
    show stp ps o z (itr ps o z (n + m)) = _
    rw [itr_fix h m, stp_end h]
/-- each turn goes on, and stays within the text -/
theorem itr_ix (ps : List Pt) (o z : Str) : ∀ n, (itr ps o z n).1 ≤ z.length ∧ (n ≤ (itr ps o z n).1 ∨ (itr ps o z n).1 = z.length)
  | 0 => ⟨Nat.zero_le _, .inl (Nat.zero_le _)⟩
  | n + 1 => by
    obtain ⟨h1, h2⟩ := itr_ix ps o z n
    show (stp ps o z (itr ps o z n)).1 ≤ _ ∧ (_ ≤ (stp ps o z (itr ps o z n)).1 ∨ (stp ps o z (itr ps o z n)).1 = _)
    by_cases c : (itr ps o z n).1 < z.length
    · cases p : isPassed o z (itr ps o z n).1 with
      | true =>
        rw [stp_pass c p]
        dsimp only
        exact ⟨c, by omega⟩
      | false =>
        rw [stp_sign c p]
        have := sizeAt_le (ps := ps) c
        dsimp only
        exact ⟨this.2, by omega⟩
    · rw [stp_end c]
      exact ⟨h1, by omega⟩
theorem itr_done (ps : List Pt) (o z : Str) : ¬ (itr ps o z z.length).1 < z.length := by
  obtain ⟨h1, h2⟩ := itr_ix ps o z z.length
  omega
theorem cut_end {ps : List Pt} {o z : Str} {n : Nat} (h : ¬ (itr ps o z n).1 < z.length) : (itr ps o z n).2 = cutOf ps o z := by
  unfold cutOf
  by_cases c : n ≤ z.length
  · obtain ⟨m, e⟩ := Nat.le.dest c
    rw [← e, itr_fix h m]
  · obtain ⟨m, e⟩ := Nat.le.dest (Nat.le_of_lt (Nat.lt_of_not_le c))
    rw [← e, itr_fix (itr_done ps o z) m]
theorem itr_len (ps : List Pt) (o z : Str) : ∀ n, (itr ps o z n).2.length ≤ (itr ps o z n).1
  | 0 => Nat.le_refl _
  | n + 1 => by
    have h := itr_len ps o z n
    show (stp ps o z (itr ps o z n)).2.length ≤ (stp ps o z (itr ps o z n)).1
    by_cases c : (itr ps o z n).1 < z.length
    · cases p : isPassed o z (itr ps o z n).1 with
      | true =>
        rw [stp_pass c p]
        dsimp only
        omega
      | false =>
        rw [stp_sign c p]
        have := sizeAt_le (ps := ps) c
        dsimp only
        rw [List.length_append, List.length_singleton]
        omega
    · rw [stp_end c]
      exact h
theorem cut_len (ps : List Pt) (o z : Str) : (cutOf ps o z).length ≤ z.length := Nat.le_trans (itr_len ps o z _) (itr_ix ps o z _).1
/-! ### what the signs cover -/
def endOf (xs : List Sg) : Nat := match xs.getLast? with
  | none => 0
  | some s => s.n + s.t.length
theorem endOf_snoc (xs : List Sg) (s : Sg) : endOf (xs ++ [s]) = s.n + s.t.length := by
  unfold endOf
  rw [List.getLast?_append]
  rfl
structure Cov (ps : List Pt) (o z : Str) (xs : List Sg) (i : Nat) : Prop where
  gap : endOf xs ≤ i ∧ ∀ j, endOf xs ≤ j → j < i → isPassed o z j = true
  each : ∀ n s, xs[n]? = some s → endOf (xs.take n) ≤ s.n ∧ (∀ j, endOf (xs.take n) ≤ j → j < s.n → isPassed o z j = true) ∧ s.n < z.length ∧ s = sgAt ps z s.n
theorem itr_cov (ps : List Pt) (o z : Str) : ∀ n, Cov ps o z (itr ps o z n).2 (itr ps o z n).1
  | 0 => ⟨⟨Nat.le_refl _, fun j h1 h2 => absurd h2 (Nat.not_lt_zero _)⟩, fun n s h => by cases h⟩
  | n + 1 => by
    have h := itr_cov ps o z n
    show Cov ps o z (stp ps o z (itr ps o z n)).2 (stp ps o z (itr ps o z n)).1
    by_cases c : (itr ps o z n).1 < z.length
    · cases p : isPassed o z (itr ps o z n).1 with
      | true =>
        rw [stp_pass c p]
        dsimp only
        refine ⟨⟨Nat.le_succ_of_le h.gap.1, fun j h1 h2 => ?_⟩, h.each⟩
        rcases Nat.lt_or_eq_of_le (Nat.le_of_lt_succ h2) with e | e
        · exact h.gap.2 j h1 e
        · rw [e]
          exact p
      | false =>
        rw [stp_sign c p]
        generalize hb : itr ps o z n = b at h c p
        dsimp only
        have ee : endOf (b.2 ++ [sgAt ps z b.1]) = b.1 + sizeAt ps z b.1 := by rw [endOf_snoc, sgAt_len c]; rfl
        refine ⟨⟨by rw [ee]; exact Nat.le_refl _, fun j h1 h2 => by rw [ee] at h1; omega⟩, fun m s hs => ?_⟩
        by_cases lt : m < b.2.length
        · rw [List.getElem?_append_left lt] at hs
          rw [List.take_append_of_le_length (Nat.le_of_lt lt)]
          exact h.each m s hs
        · have em : m = b.2.length := by
            have := (List.getElem?_eq_some_iff.mp hs).1
            rw [List.length_append, List.length_singleton] at this
            omega
          subst em
          rw [List.getElem?_append_right (Nat.le_refl _), Nat.sub_self] at hs
          cases hs
          rw [List.take_left' rfl]
          exact ⟨h.gap.1, h.gap.2, c, rfl⟩
    · rw [stp_end c]
      exact h
theorem cut_cov (ps : List Pt) (o z : Str) : Cov ps o z (cutOf ps o z) z.length := by
  have h := itr_cov ps o z z.length
  have e : (itr ps o z z.length).1 = z.length := by
    have := (itr_ix ps o z z.length).1
    have := itr_done ps o z
    omega
  rw [e] at h
  exact h
end Ld

set_option Elab.async false
set_option linter.all false
set_option maxRecDepth 100000
set_option maxHeartbeats 4000000
namespace Ld
open PySem PySem.Spec PyProof.Rows L2 Lg Lr
theorem atI_code {z : Str} {i : Nat} {c : Nat} (h : (cds z)[i]? = some c) : atI z.cps.toList (i : Int) = some c := atI_nat h
theorem code_at {z : Str} {i : Nat} (h : i < z.length) : ∃ c, (cds z)[i]? = some c ∧ (cds z).getD i 0 = c := by
  rw [← cds_len] at h
  refine ⟨_, List.getElem?_eq_getElem h, ?_⟩
  rw [List.getD_eq_getElem?_getD, List.getElem?_eq_getElem h]
  rfl
section
variable {P : Program} {w : World} {K : PySem.W.Frag} {mg : Str → Option Value} {base : Heap}
theorem scWl : FnScope ["word", "text", "index"] ["word", "text", "index"] (defScope s__word_length) := ⟨rfl, rfl, rfl, by decide +kernel, rfl, by decide +kernel, by decide +kernel⟩
theorem scRl : FnScope ["characters", "text", "index", "end"] ["characters", "text", "index"] (defScope s__run_length) := ⟨rfl, rfl, rfl, by decide +kernel, rfl, by decide +kernel, by decide +kernel⟩
def spLen (g : Str → Str → Nat → Nat) : Sp := fun vs H Q _ => ∃ (c z : Str) (i : Nat), vs = [.str c, .str z, .int i] ∧ c.length ≤ 1000000 ∧ z.length ≤ 1000000 ∧ i ≤ z.length ∧ Q (.int (g c z i : Nat)) H
theorem ok_wl {f : Addr} {fd : FuncData} (F : Fun K "_word_length" "_word_length" s__word_length f fd) (ml : mg "len" = none) : FnOk P w K mg base CX0 1 f fd ["word", "text", "index"] (spLen wordN) := by
  refine F.ok scWl (fun vs H Q E h => ?_) (fun cdv A outer s H vs Q E hr h => ?_)
  · obtain ⟨c, z, i, rfl, _⟩ := h
    rfl
  · obtain ⟨c, z, i, rfl, lc, lz, hi, q⟩ := h
    refine ⟨_, pss_cons (ps_if (pt_val (pe_bm PySem.F.plainAttrs_str PySem.F.slot_str_startswith PySem.F.type_str_startswith mt_startswith3 (pv 1) (pa_cons (pv 0) (pa_cons (pv 2) pa_nil))))
        (pss_one (ps_ret (pe_callB call_len_str (by rfl) ml PySem.boot_len (pa_cons (pv 0) pa_nil)))) pss_nil)
      (pss_one (ps_ret pe_int)), ?_⟩
    refine ⟨_, rfl, rfl, _, rfl, _, rfl, z, c, i, rfl, rfl, _, rfl, ?_⟩
    rw [starts_is hi]
    unfold wordN at q
    by_cases e : sub z i c.length = c
    · rw [decide_eq_true e]
      rw [if_pos e] at q
      exact iteT ⟨_, rfl, c, rfl, million0 lc, q⟩
    · rw [decide_eq_false e]
      rw [if_neg e] at q
      exact iteF q
theorem ok_rl {f : Addr} {fd : FuncData} (F : Fun K "_run_length" "_run_length" s__run_length f fd) (ml : mg "len" = none) : FnOk P w K mg base CX0 1 f fd ["characters", "text", "index"] (spLen runN) := by
  refine F.ok scRl (fun vs H Q E h => ?_) (fun cdv A outer s H vs Q E hr h => ?_)
  · obtain ⟨c, z, i, rfl, _⟩ := h
    rfl
  · obtain ⟨c, z, i, rfl, lc, lz, hi, q⟩ := h
    refine ⟨_, pss_cons (ps_set (i := 3) scRl.nd rfl (.inl rfl) (pv 2))
      (pss_cons (ps_while PassesOwn.never (PW.pt (pw_and (pt_cmpR op_lt (pv 3) (pe_callB call_len_str (by rfl) ml PySem.boot_len (pa_cons (pv 1) pa_nil)) (nomark _))
          (pw_and1 (pt_cmpR op_in_sign (pe_ix ix_str (pv 1) (pv 3) (fun _ _ => rfl)) (pv 0) rfl))))
        (pss_one (ps_aug (i := 3) scRl.nd rfl (.inl rfl) pe_int ip_add)))
      (pss_one (ps_ret (pe_op op_sub (pv 3) (pv 2))))), ?_⟩
    refine ⟨_, rfl, ?_⟩
    refine ⟨fun m σ H' => ∃ n : Nat, σ = [some (.str c), some (.str z), some (.int i), some (.int ((i + n : Nat) : Int))] ∧ H' = H ∧ i + n ≤ z.length ∧ (∀ j, j < n → ∃ x, (cds z)[i + j]? = some x ∧ x ∈ cds c) ∧ m = z.length - (i + n), ⟨_, 0, rfl, rfl, hi, fun j h => absurd h (Nat.not_lt_zero _), rfl⟩, ?_⟩
    rintro m σ H1 ⟨n, rfl, rfl, ln, run, rfl⟩
    have fin : (∀ x, (cds z)[i + n]? = some x → x ∉ cds c) → Q (.int (((i + n : Nat) : Int) - (i : Int))) H1 := fun no => by
      have e := run_stop run no
      rw [e] at q
      rw [show ((i + n : Nat) : Int) - (i : Int) = (n : Int) by omega]
      exact q
    refine ⟨_, rfl, _, rfl, z, rfl, million0 lz, _, _, rfl, rfl, _, rfl, ite2 (fun c1 => ?_) (fun c1 => ?_)⟩
    · have c1 : ((i + n : Nat) : Int) < (z.length : Int) := of_decide_eq_true c1
      obtain ⟨x, hx, _⟩ := code_at (z := z) (i := i + n) (by omega)
      refine ⟨_, rfl, _, rfl, z, _, x, rfl, rfl, million0 lz, atI_code hx, _, rfl, x, c, rfl, rfl, _, rfl, ?_⟩
      by_cases e : x ∈ cds c
      · rw [decide_eq_true e]
        refine iteT ⟨fun σ2 H2 => ∃ m2, m2 < z.length - (i + n) ∧ ∃ n2 : Nat, σ2 = [some (.str c), some (.str z), some (.int i), some (.int ((i + n2 : Nat) : Int))] ∧ H2 = H1 ∧ i + n2 ≤ z.length ∧ (∀ j, j < n2 → ∃ x, (cds z)[i + j]? = some x ∧ x ∈ cds c) ∧ m2 = z.length - (i + n2), fun _ _ z => z, ?_⟩
        refine ⟨_, rfl, _, _, rfl, rfl, z.length - (i + (n + 1)), by omega, n + 1, ?_, rfl, by omega, fun j hj => ?_, rfl⟩
        · show [_, _, _, some (V.int (((i + n : Nat) : Int) + 1))] = _
          rw [show ((i + n : Nat) : Int) + 1 = ((i + (n + 1) : Nat) : Int) by omega]
        · rcases Nat.lt_or_eq_of_le (Nat.le_of_lt_succ hj) with z1 | z1
          · exact run j z1
          · rw [z1]
            exact ⟨x, hx, e⟩
      · rw [decide_eq_false e]
        refine iteF ⟨_, rfl, _, rfl, _, _, rfl, rfl, fin fun y hy => ?_⟩
        rw [hx] at hy
        cases hy
        exact e
    · have c1 : ¬ ((i + n : Nat) : Int) < (z.length : Int) := fun z => c1 (decide_eq_true z)
      refine iteF ⟨_, rfl, _, rfl, _, _, rfl, rfl, fin fun y hy => ?_⟩
      have := (List.getElem?_eq_some_iff.mp hy).1
      rw [cds_len] at this
      omega
theorem scMat : FnScope ["pattern", "text", "index", "kind", "form", "wanted"] ["pattern", "text", "index"] (defScope s_match_at) := ⟨rfl, rfl, rfl, by decide +kernel, rfl, by decide +kernel, by decide +kernel⟩
def spMat : Sp := fun vs H Q _ => ∃ (a : Addr) (p : Pt) (z : Str) (i : Nat), vs = [.ref a, .str z, .int i] ∧ H a = some (.tup [.str p.k, .str p.f, .str p.c]) ∧ p.c.length ≤ 1000000 ∧ z.length ≤ 1000000 ∧ i ≤ z.length ∧ Q (.int (matN p z i : Nat)) H
theorem iteStr {x y : Str} {A B : Prop} (h1 : x = y → A) (h2 : x ≠ y → B) : if decide (V.str x = V.str y) = true then A else B := by
  by_cases e : x = y
  · subst e
    rw [decide_eq_true rfl]
    exact iteT (h1 rfl)
  · rw [decide_eq_false (fun z => e (V.str.inj z))]
    exact iteF (h2 e)
theorem ok_mat {f fW fR : Addr} {fd fdW fdR : FuncData} (F : Fun K "match_at" "match_at" s_match_at f fd)
    (GW : FnOk P w K mg base CX0 1 fW fdW ["word", "text", "index"] (spLen wordN)) (kW : PySem.W.keepIn K (.ref fW) = true) (bW : Binds K fdW ["word", "text", "index"] []) (gW : mg "_word_length" = some (.ref fW))
    (GR : FnOk P w K mg base CX0 1 fR fdR ["characters", "text", "index"] (spLen runN)) (kR : PySem.W.keepIn K (.ref fR) = true) (bR : Binds K fdR ["characters", "text", "index"] []) (gR : mg "_run_length" = some (.ref fR)) :
    FnOk P w K mg base CX0 2 f fd ["pattern", "text", "index"] spMat := by
  refine F.ok scMat (fun vs H Q E h => ?_) (fun cdv A outer s H vs Q E hr h => ?_)
  · obtain ⟨a, p, z, i, rfl, _⟩ := h
    rfl
  · obtain ⟨a, p, z, i, rfl, ha, lc, lz, hi, q⟩ := h
    refine ⟨_, pss_cons (ps_asg (pv 0) (pg_tup rfl (pgs_cons (pg_name (i := 3) scMat.nd rfl (.inl rfl)) (pgs_cons (pg_name (i := 4) scMat.nd rfl (.inl rfl)) (pgs_cons (pg_name (i := 5) scMat.nd rfl (.inl rfl)) pgs_nil)))))
      (pss_cons (ps_if (pt_cmpR op_eq (pv 4) pe_str (nomark _)) (pss_one (ps_ret (pe_call GW hr (by rfl) gW kW bW .nil pass0 (pa_cons (pv 5) (pa_cons (pv 1) (pa_cons (pv 2) pa_nil)))))) pss_nil)
      (pss_one (ps_ret (pe_call GR hr (by rfl) gR kR bR .nil pass0 (pa_cons (pv 5) (pa_cons (pv 1) (pa_cons (pv 2) pa_nil))))))), ?_⟩
    refine ⟨_, rfl, a, _, rfl, SqT.of ha, rfl, _, _, rfl, _, _, rfl, _, _, rfl, rfl, ?_⟩
    unfold matN at q
    refine ⟨_, rfl, rfl, _, rfl, iteStr (fun e => ?_) (fun e => ?_)⟩
    · rw [if_pos e] at q
      exact ⟨_, rfl, _, rfl, _, rfl, p.c, z, i, rfl, lc, lz, hi, q⟩
    · rw [if_neg e] at q
      exact ⟨_, rfl, _, rfl, _, rfl, p.c, z, i, rfl, lc, lz, hi, q⟩
end
end Ld

set_option Elab.async false
set_option linter.all false
set_option maxRecDepth 100000
set_option maxHeartbeats 4000000
namespace Ld
open PySem PySem.Spec PyProof.Rows L2 Lg Lr
def FewP (ps : List Pt) : Prop := ps.length ≤ 1000 ∧ ∀ p ∈ ps, p.c.length ≤ 1000
theorem emax (a b : Nat) : (if (b : Int) > (a : Int) then (b : Int) else (a : Int)) = ((max a b : Nat) : Int) := by
  split <;> omega
section
variable {P : Program} {w : World} {K : PySem.W.Frag} {mg : Str → Option Value} {base : Heap}
theorem scSgA : FnScope ["patterns", "text", "index", "found", "longest", "pattern", "length"] ["patterns", "text", "index"] (defScope s__sign_at) := ⟨rfl, rfl, rfl, by decide +kernel, rfl, by decide +kernel, by decide +kernel⟩
def spSgAt : Sp := fun vs H Q _ => ∃ (l : Addr) (us : List V) (ps : List Pt) (z : Str) (i : Nat), vs = [.ref l, .str z, .int i] ∧ H l = some (.lst us) ∧ Rel2 (PtA H) us ps ∧ FewP ps ∧ z.length ≤ 1000 ∧ i ≤ z.length ∧
  ∀ (t : Addr) (H2 : Hp), Same H H2 → H t = none → H2 t = some (.tup [.str (bestOf ps z i).1, .int (sizeAt ps z i : Nat)]) → Q (.ref t) H2
theorem ok_sgAt {f fM : Addr} {fd fdM : FuncData} (F : Fun K "_sign_at" "_sign_at" s__sign_at f fd)
    (GM : FnOk P w K mg base CX0 2 fM fdM ["pattern", "text", "index"] spMat) (kM : PySem.W.keepIn K (.ref fM) = true) (bM : Binds K fdM ["pattern", "text", "index"] []) (gM : mg "match_at" = some (.ref fM))
    (mm : mg "max" = none) : FnOk P w K mg base CX0 3 f fd ["patterns", "text", "index"] spSgAt := by
  refine F.ok scSgA (fun vs H Q E h => ?_) (fun cdv A outer s H vs Q E hr h => ?_)
  · obtain ⟨l, us, ps, z, i, rfl, _⟩ := h
    rfl
  · obtain ⟨l, us, ps, z, i, rfl, hl, rr, few, lz, hi, q⟩ := h
    refine ⟨_, pss_cons (ps_set (i := 3) scSgA.nd rfl (.inl rfl) pe_str)
      (pss_cons (ps_set (i := 4) scSgA.nd rfl (.inl rfl) pe_int)
      (pss_cons (ps_for PassesOwn.never rfl (pi_list (pv 0)) (pg_name (i := 5) scSgA.nd rfl (.inl rfl))
        (pss_cons (ps_set (i := 6) scSgA.nd rfl (.inl rfl) (pe_call GM hr (by rfl) gM kM bM .nil pass0 (pa_cons (pv 5) (pa_cons (pv 1) (pa_cons (pv 2) pa_nil)))))
        (pss_one (ps_if (pt_cmpR op_gt (pv 6) (pv 4) (nomark _)) (pss_cons (ps_set (i := 3) scSgA.nd rfl (.inl rfl) (pe_ix ix_tup (pv 5) pe_int (fun _ _ => rfl))) (pss_one (ps_set (i := 4) scSgA.nd rfl (.inl rfl) (pv 6)))) pss_nil))))
      (pss_one (ps_ret (pe_tup (pa_cons (pv 3) (pa_cons (pe_callB (call_max2 rfl) (by rfl) mm (by decide +kernel) (pa_cons (pv 4) (pa_cons pe_int pa_nil))) pa_nil))))))), ?_⟩
    refine ⟨_, rfl, l, rfl, ⟨_, SqL.of hl⟩, for_list (a := l) (xs := us) (fun n σ H' => ∃ v5 v6, σ = [some (.ref l), some (.str z), some (.int i), some (.str (bestOf (ps.take n) z i).1), some (.int ((bestOf (ps.take n) z i).2 : Nat)), v5, v6] ∧ H' = H)
      ⟨none, none, rfl, rfl⟩ (fun n σ H' _ ⟨_, _, _, e⟩ => by rw [e]; exact SqL.of hl) ?_ ?_⟩
    · rintro n x σ H' hx ⟨v5, v6, rfl, rfl⟩
      obtain ⟨p, hp, a, rfl, ha⟩ := rr.get hx
      rw [bestOf_take hp]
      generalize bestOf (ps.take n) z i = b
      refine ⟨_, rfl, _, rfl, _, rfl, a, p, z, i, rfl, ha, Nat.le_trans (few.2 p (List.mem_of_getElem? hp)) (by decide), Nat.le_trans lz (by decide), hi, ?_⟩
      refine ⟨_, rfl, _, rfl, _, _, rfl, rfl, _, rfl, ite2 (fun c => ?_) (fun c => ?_)⟩
      · have c : ((matN p z i : Nat) : Int) > ((b.2 : Nat) : Int) := of_decide_eq_true c
        have e : best z i b p = (p.k, matN p z i) := if_pos (by omega)
        rw [e]
        exact ⟨_, rfl, a, _, _, _, rfl, rfl, SqT.of ha, at_of (j := 0) rfl rfl, _, rfl, _, _, rfl, rfl⟩
      · have c : ¬ ((matN p z i : Nat) : Int) > ((b.2 : Nat) : Int) := fun z => c (decide_eq_true z)
        have e : best z i b p = b := if_neg (by omega)
        rw [e]
        exact ⟨_, _, rfl, rfl⟩
    · rintro σ H' ⟨v5, v6, rfl, rfl⟩
      rw [rr.len, List.take_length]
      refine ⟨_, rfl, _, rfl, _, _, rfl, (by show 2 ≤ sizeLine; decide), fun t nt => ?_⟩
      refine q t _ (same_upd nt) nt ?_
      rw [upd_same]
      have := emax (bestOf ps z i).2 1
      unfold sizeAt
      rw [← this]
      rfl
theorem scCut : FnScope ["lexicon", "text", "patterns", "passed", "signs", "index", "kind", "length"] ["lexicon", "text"] (defScope s_cut) := ⟨rfl, rfl, rfl, by decide +kernel, rfl, by decide +kernel, by decide +kernel⟩
def spCut : Sp := fun vs H Q _ => ∃ (t : Addr) (ps : List Pt) (o z : Str), vs = [.ref t, .str z] ∧ LexA H t ps o ∧ FewP ps ∧ z.length ≤ 1000 ∧ ∀ (p : Addr) (H2 : Hp), Same H H2 → H p = none → SgsA H2 p (cutOf ps o z) → Q (.ref p) H2
theorem ok_cut {f fS : Addr} {fd fdS : FuncData} (F : Fun K "cut" "cut" s_cut f fd)
    (GS : FnOk P w K mg base CX0 3 fS fdS ["patterns", "text", "index"] spSgAt) (kS : PySem.W.keepIn K (.ref fS) = true) (bS : Binds K fdS ["patterns", "text", "index"] []) (gS : mg "_sign_at" = some (.ref fS))
    (ml : mg "len" = none) : FnOk P w K mg base CX0 4 f fd ["lexicon", "text"] spCut := by
  refine F.ok scCut (fun vs H Q E h => ?_) (fun cdv A outer s H vs Q E hr h => ?_)
  · obtain ⟨t, ps, o, z, rfl, _⟩ := h
    rfl
  · obtain ⟨t, ps, o, z, rfl, ⟨l, us, ht, hl, rr⟩, few, lz, q⟩ := h
    have bz : z.length ≤ 1000000 := Nat.le_trans lz (by decide)
    refine ⟨_, pss_cons (ps_asg (pv 0) (pg_tup rfl (pgs_cons (pg_name (i := 2) scCut.nd rfl (.inl rfl)) (pgs_cons (pg_name (i := 3) scCut.nd rfl (.inl rfl)) pgs_nil))))
      (pss_cons (ps_set (i := 4) scCut.nd rfl (.inl rfl) (pe_lst pa_nil))
      (pss_cons (ps_set (i := 5) scCut.nd rfl (.inl rfl) pe_int)
      (pss_cons (ps_while PassesOwn.never (pt_cmpR op_lt (pv 5) (pe_callB call_len_str (by rfl) ml PySem.boot_len (pa_cons (pv 1) pa_nil)) (nomark _))
        (pss_one (ps_if (pt_cmpR op_in_sign (pe_ix ix_str (pv 1) (pv 5) (fun _ _ => rfl)) (pv 3) rfl)
          (pss_one (ps_aug (i := 5) scCut.nd rfl (.inl rfl) pe_int ip_add))
          (pss_cons (ps_asg (pe_call GS hr (by rfl) gS kS bS .nil pass0 (pa_cons (pv 2) (pa_cons (pv 1) (pa_cons (pv 5) pa_nil)))) (pg_tup rfl (pgs_cons (pg_name (i := 6) scCut.nd rfl (.inl rfl)) (pgs_cons (pg_name (i := 7) scCut.nd rfl (.inl rfl)) pgs_nil))))
          (pss_cons (ps_expr (pe_bm PySem.F.plainAttrs_list PySem.F.slot_list_append PySem.F.type_list_append mt_append (pv 4) (pa_cons (pe_tup (pa_cons (pv 6) (pa_cons (pe_slice sl_str (pv 1) (po_some (pv 5)) (po_some (pe_op op_add (pv 5) (pv 7)))) (pa_cons (pv 5) pa_nil)))) pa_nil)))
          (pss_one (ps_aug (i := 5) scCut.nd rfl (.inl rfl) (pv 7) ip_add)))))))
      (pss_one (ps_ret (pv 4)))))), ?_⟩
    refine ⟨_, rfl, t, _, rfl, SqT.of ht, rfl, _, _, rfl, _, _, rfl, rfl, ?_⟩
    refine ⟨Nat.zero_le _, fun sl nsl => ?_⟩
    refine ⟨fun m σ H' => ∃ (n : Nat) (v6 v7 : Option V) (ws : List V), σ = [some (.ref t), some (.str z), some (.ref l), some (.str o), some (.ref sl), some (.int ((itr ps o z n).1 : Nat)), v6, v7] ∧ Same H H' ∧ H' sl = some (.lst ws) ∧ Rel2 (SgA H') ws (itr ps o z n).2 ∧ m = z.length - (itr ps o z n).1,
      ⟨_, 0, none, none, [], rfl, same_upd nsl, upd_same, True.intro, rfl⟩, ?_⟩
    rintro m σ H1 ⟨n, v6, v7, ws, rfl, s1, h1, r1, rfl⟩
    have step : itr ps o z (n + 1) = stp ps o z (itr ps o z n) := rfl
    have len1 := itr_len ps o z n
    have ix1 := (itr_ix ps o z n).1
    refine ⟨_, rfl, _, rfl, z, rfl, million0 bz, _, _, rfl, rfl, _, rfl, ?_⟩
    by_cases c : (itr ps o z n).1 < z.length
    · rw [decide_eq_true (show (((itr ps o z n).1 : Nat) : Int) < (z.length : Int) by omega)]
      obtain ⟨x, hx, gx⟩ := code_at c
      refine iteT ⟨fun σ2 H2 => ∃ m2, m2 < z.length - (itr ps o z n).1 ∧ ∃ (n2 : Nat) (v6 v7 : Option V) (ws : List V), σ2 = [some (.ref t), some (.str z), some (.ref l), some (.str o), some (.ref sl), some (.int ((itr ps o z n2).1 : Nat)), v6, v7] ∧ Same H H2 ∧ H2 sl = some (.lst ws) ∧ Rel2 (SgA H2) ws (itr ps o z n2).2 ∧ m2 = z.length - (itr ps o z n2).1, fun _ _ z => z, ?_⟩
      refine ⟨_, rfl, _, rfl, z, _, x, rfl, rfl, million0 bz, atI_code hx, _, rfl, x, o, rfl, rfl, _, rfl, ?_⟩
      by_cases e : x ∈ cds o
      · rw [decide_eq_true e]
        have ip : isPassed o z (itr ps o z n).1 = true := by
          unfold isPassed
          rw [gx]
          exact decide_eq_true e
        have es := step.trans (stp_pass c ip)
        refine iteT ⟨_, rfl, _, _, rfl, rfl, z.length - (itr ps o z (n + 1)).1, ?_, n + 1, v6, v7, ws, ?_, s1, h1, ?_, rfl⟩
        · rw [es]
          dsimp only
          omega
        · rw [es]
          show [_, _, _, _, _, some (V.int ((((itr ps o z n).1 : Nat) : Int) + 1)), _, _] = _
          rw [show (((itr ps o z n).1 : Nat) : Int) + 1 = (((itr ps o z n).1 + 1 : Nat) : Int) by omega]
        · rw [es]
          exact r1
      · rw [decide_eq_false e]
        have ip : isPassed o z (itr ps o z n).1 = false := by
          unfold isPassed
          rw [gx]
          exact decide_eq_false e
        have es := step.trans (stp_sign c ip)
        have sz := sizeAt_le (ps := ps) c
        generalize hb : itr ps o z n = b at *
        refine iteF ⟨_, rfl, _, rfl, _, rfl, l, us, ps, z, b.1, rfl, s1 _ _ hl, rr.mono (PtA.same s1), few, lz, ix1, fun tt H2 s2 ntt htt => ?_⟩
        refine ⟨tt, _, rfl, SqT.of htt, rfl, _, _, rfl, _, _, rfl, rfl, ?_⟩
        have h2 := s2 _ _ h1
        refine ⟨_, rfl, .inl ⟨rfl, _, SqL.of h2⟩, _, rfl, _, rfl, _, rfl, _, rfl, _, rfl, _, rfl, _, _, rfl, rfl, _, rfl, z, rfl, million0 bz, _, rfl, (by show 3 ≤ sizeLine; decide), fun tn ntn => ?_⟩
        have ec : cutS z (some ((b.1 : Nat) : Int)) (some (((b.1 : Nat) : Int) + ((sizeAt ps z b.1 : Nat) : Int))) = sub z b.1 (sizeAt ps z b.1) := by
          rw [show ((b.1 : Nat) : Int) + ((sizeAt ps z b.1 : Nat) : Int) = ((b.1 + sizeAt ps z b.1 : Nat) : Int) by omega]
          exact cutS_sub z _ _
        rw [ec]
        have s3 : Same H2 (upd H2 tn (.tup [.str (bestOf ps z b.1).1, .str (sub z b.1 (sizeAt ps z b.1)), .int ((b.1 : Nat) : Int)])) := same_upd ntn
        have htn : upd H2 tn (.tup [.str (bestOf ps z b.1).1, .str (sub z b.1 (sizeAt ps z b.1)), .int ((b.1 : Nat) : Int)]) tn = some (.tup [.str (bestOf ps z b.1).1, .str (sub z b.1 (sizeAt ps z b.1)), .int ((b.1 : Nat) : Int)]) := upd_same
        generalize upd H2 tn (.tup [.str (bestOf ps z b.1).1, .str (sub z b.1 (sizeAt ps z b.1)), .int ((b.1 : Nat) : Int)]) = H3 at s3 htn
        have h3 := s3 _ _ h2
        have s23 := s2.trans s3
        refine ⟨sl, _, _, rfl, rfl, h3, ?_, ?_⟩
        · rw [r1.len]
          exact million1 (by omega)
        refine ⟨_, rfl, _, rfl, _, _, rfl, rfl, z.length - (itr ps o z (n + 1)).1, ?_, n + 1, some (.str (bestOf ps z b.1).1), some (.int ((sizeAt ps z b.1 : Nat) : Int)), ws ++ [.ref tn], ?_, same_put (s1.trans s23) nsl, upd_same, ?_, rfl⟩
        · rw [es]
          dsimp only
          omega
        · rw [es]
          show [_, _, _, _, _, some (V.int (((b.1 : Nat) : Int) + ((sizeAt ps z b.1 : Nat) : Int))), _, _] = _
          rw [show ((b.1 : Nat) : Int) + ((sizeAt ps z b.1 : Nat) : Int) = ((b.1 + sizeAt ps z b.1 : Nat) : Int) by omega]
        · rw [es]
          exact (r1.mono (SgA.tupS ((TupS.of_same s23).trans (.at_lst h3)))).snoc ⟨tn, rfl, (TupS.at_lst h3) _ _ htn⟩
    · rw [decide_eq_false (show ¬ (((itr ps o z n).1 : Nat) : Int) < (z.length : Int) by omega)]
      refine iteF ⟨_, rfl, q sl H1 s1 nsl ⟨ws, h1, ?_⟩⟩
      rw [← cut_end c]
      exact r1
theorem scKs : FnScope ["signs", "kind", "text", "start"] ["signs"] (defScope s_kinds_of_signs) := ⟨rfl, rfl, rfl, by decide +kernel, rfl, by decide +kernel, by decide +kernel⟩
def spKs : Sp := fun vs H Q _ => ∃ (a : Addr) (xs : List Sg), vs = [.ref a] ∧ SgsA H a xs ∧ xs.length ≤ 1000 ∧ ∀ p H2, Same H H2 → H p = none → H2 p = some (.lst ((xs.map Sg.k).map V.str)) → Q (.ref p) H2
theorem ok_ks {f : Addr} {fd : FuncData} (F : Fun K "kinds_of_signs" "kinds_of_signs" s_kinds_of_signs f fd) : FnOk P w K mg base CX0 1 f fd ["signs"] spKs := by
  refine F.ok scKs (fun vs H Q E h => ?_) (fun cdv A outer s H vs Q E hr h => ?_)
  · obtain ⟨a, xs, rfl, _⟩ := h
    rfl
  · obtain ⟨a, xs, rfl, ⟨vs, ha, ra⟩, len, q⟩ := h
    refine ⟨_, pss_one (ps_ret (pe_lc (own := [("kind", 1), ("text", 2), ("start", 3)]) (g := gTup K 3 (gCons (gName 1) (gCons (gName 2) (gCons (gName 3) gNil)))) rfl scKs.nd (pi_list (pv 0))
      (blkOk_by (N := ["signs", "kind", "text", "start"]) (sc := defScope s_kinds_of_signs) (by decide +kernel)) (fun _ _ _ _ _ => pg_tup rfl (pgs_cons (pg_name (i := 1) scKs.nd rfl (Or.inl rfl)) (pgs_cons (pg_name (i := 2) scKs.nd rfl (Or.inl rfl)) (pgs_cons (pg_name (i := 3) scKs.nd rfl (Or.inl rfl)) pgs_nil)))) (fun _ _ _ _ _ => pts_nil)
      (fun _ _ _ _ _ => pv 1))), ?_⟩
    have hl : vs.length = xs.length := ra.len
    refine ⟨_, rfl, a, rfl, ⟨_, SqL.of ha⟩, fun D hD => lc_list (a := a) (xs := vs) (fun n H' => Same H H' ∧ H' D = some (.lst (((xs.take n).map Sg.k).map V.str))) ⟨same_upd hD, upd_same⟩ (fun n H' _ ⟨s', _⟩ => SqL.of (s' _ _ ha)) ?_ ?_⟩
    · rintro n x H' hx ⟨s', hd⟩
      obtain ⟨y, hy, b, rfl, hb⟩ := ra.get hx
      have hn : n < xs.length := (List.getElem?_eq_some_iff.mp hy).1
      refine ⟨b, _, rfl, SqT.of (s' _ _ hb), rfl, _, _, rfl, _, _, rfl, _, _, rfl, rfl, ?_⟩
      refine ⟨rfl, _, rfl, _, hd, ?_, same_put s' hD, ?_⟩
      · rw [List.length_map, List.length_map, List.length_take]
        exact million1 (by omega)
      · rw [upd_same, List.take_add_one, hy, List.map_append, List.map_append]
        rfl
    · rintro H2 ⟨s2, hd⟩
      rw [hl, List.take_length] at hd
      exact q D H2 s2 hD hd
end
end Ld

set_option Elab.async false
set_option linter.all false
set_option maxRecDepth 100000
set_option maxHeartbeats 4000000
/-! The law's own lexicons. -/
namespace Ld
open PySem PySem.Spec PyProof.Rows L2 Lg Lr
def LK : List Str := ["NUMBER", "PLUS", "IF", "NAME"]
def WL : List Str := ["+", "if", "i", "<=", "if1", "1"]
def RL : List Str := ["0123456789", "abif", "ia1", "+"]
def PL : List Str := ["", " ", " \n", "a "]
def PtOk (p : Pt) : Prop := p.k ∈ LK ∧ ((p.f = "word" ∧ p.c ∈ WL) ∨ (p.f = "run" ∧ p.c ∈ RL))
def LexOk (ps : List Pt) (o : Str) : Prop := ps.length ≤ 6 ∧ (∀ p ∈ ps, PtOk p) ∧ o ∈ PL
theorem pick_at {L : List Str} {v : Int} (h0 : 0 ≤ v) (h1 : v < (L.length : Int)) : ∃ s, (L.map V.str)[v.toNat]? = some (V.str s) ∧ s ∈ L := by
  have e : v.toNat < L.length := by omega
  exact ⟨L[v.toNat], by rw [List.getElem?_map, List.getElem?_eq_getElem e]; rfl, List.getElem_mem e⟩
section
variable {P : Program} {w : World} {K : PySem.W.Frag} {mg : Str → Option Value} {base : Heap}
theorem scLe : FnScope ["draws", "k", "patterns", "n", "at", "kind"] ["draws", "k"] (defScope s__law_lexicon) := ⟨rfl, rfl, rfl, by decide +kernel, rfl, by decide +kernel, by decide +kernel⟩
def spLe (K : PySem.W.Frag) : Sp := fun vs H Q _ => ∃ (a : Addr) (ds : List Int) (k : Int), vs = [.ref a, .int k] ∧ H a = some (.lst (ds.map V.int)) ∧
  ∀ (t : Addr) (H2 : Hp) (ps : List Pt) (o : Str), Same H H2 → H t = none → LexA H2 t ps o → LexOk ps o → Q (.ref t) H2
theorem ok_le {f fM : Addr} {fd fdM : FuncData} (F : Fun K "_law_lexicon" "_law_lexicon" s__law_lexicon f fd)
    (GM : FnOk P w K mg base CX0 1 fM fdM ["draws", "k", "many"] (spMix K)) (kM : PySem.W.keepIn K (.ref fM) = true) (bM : Binds K fdM ["draws", "k", "many"] []) (gM : mg "_law_mix" = some (.ref fM))
    (mr : mg "range" = none) : FnOk P w K mg base CX0 2 f fd ["draws", "k"] (spLe K) := by
  refine F.ok scLe (fun vs H Q E h => ?_) (fun cdv A outer s H vs Q E hr h => ?_)
  · obtain ⟨a, ds, k, rfl, _⟩ := h
    rfl
  · obtain ⟨a, ds, k, rfl, ha, q⟩ := h
    refine ⟨_, pss_cons (ps_set (i := 2) scLe.nd rfl (.inl rfl) (pe_lst pa_nil))
      (pss_cons (ps_for PassesOwn.never rfl (pi_range1 rfl mr (pa_cons (pe_call GM hr (by rfl) gM kM bM .nil pass0 (pa_cons (pv 0) (pa_cons (pv 1) (pa_cons pe_int pa_nil)))) pa_nil)) (pg_name (i := 3) scLe.nd rfl (.inl rfl))
        (pss_cons (ps_set (i := 4) scLe.nd rfl (.inl rfl) (pe_op op_add (pe_op op_add (pv 1) pe_int) (pe_op op_mul pe_int (pv 3))))
        (pss_cons (ps_set (i := 5) scLe.nd rfl (.inl rfl) (pe_ix ix_list (pe_lst (pa_cons pe_str (pa_cons pe_str (pa_cons pe_str (pa_cons pe_str pa_nil))))) (pe_call GM hr (by rfl) gM kM bM .nil pass0 (pa_cons (pv 0) (pa_cons (pv 4) (pa_cons pe_int pa_nil)))) (fun _ _ => rfl)))
        (pss_one (ps_if (pt_cmpR op_eq (pe_call GM hr (by rfl) gM kM bM .nil pass0 (pa_cons (pv 0) (pa_cons (pe_op op_add (pv 4) pe_int) (pa_cons pe_int pa_nil)))) pe_int (nomark _))
          (pss_one (ps_expr (pe_bm PySem.F.plainAttrs_list PySem.F.slot_list_append PySem.F.type_list_append mt_append (pv 2) (pa_cons (pe_tup (pa_cons (pv 5) (pa_cons pe_str (pa_cons (pe_ix ix_list (pe_lst (pa_cons pe_str (pa_cons pe_str (pa_cons pe_str (pa_cons pe_str (pa_cons pe_str (pa_cons pe_str pa_nil))))))) (pe_call GM hr (by rfl) gM kM bM .nil pass0 (pa_cons (pv 0) (pa_cons (pe_op op_add (pv 4) pe_int) (pa_cons pe_int pa_nil)))) (fun _ _ => rfl)) pa_nil)))) pa_nil))))
          (pss_one (ps_expr (pe_bm PySem.F.plainAttrs_list PySem.F.slot_list_append PySem.F.type_list_append mt_append (pv 2) (pa_cons (pe_tup (pa_cons (pv 5) (pa_cons pe_str (pa_cons (pe_ix ix_list (pe_lst (pa_cons pe_str (pa_cons pe_str (pa_cons pe_str (pa_cons pe_str pa_nil))))) (pe_call GM hr (by rfl) gM kM bM .nil pass0 (pa_cons (pv 0) (pa_cons (pe_op op_add (pv 4) pe_int) (pa_cons pe_int pa_nil)))) (fun _ _ => rfl)) pa_nil)))) pa_nil)))))))))
      (pss_one (ps_ret (pe_tup (pa_cons (pv 2) (pa_cons (pe_ix ix_list (pe_lst (pa_cons pe_str (pa_cons pe_str (pa_cons pe_str (pa_cons pe_str pa_nil))))) (pe_call GM hr (by rfl) gM kM bM .nil pass0 (pa_cons (pv 0) (pa_cons (pe_op op_add (pv 1) pe_int) (pa_cons pe_int pa_nil)))) (fun _ _ => rfl)) pa_nil)))))), ?_⟩
    have p7 : (0 : Int) < 7 := by decide
    have p4 : (0 : Int) < 4 := by decide
    have p2 : (0 : Int) < 2 := by decide
    have p6 : (0 : Int) < 6 := by decide
    refine ⟨Nat.zero_le _, fun l nl => ?_⟩
    have s0 : Same H (upd H l (.lst [])) := same_upd nl
    refine ⟨_, rfl, _, rfl, a, ds, _, _, rfl, SqL.of (s0 _ _ ha), p7, fun n n0 n1 => ?_⟩
    refine ⟨n, rfl, by omega, by omega, for_range (lo := 0) (n := n.toNat) (fun i σ H' => ∃ (v3 v4 v5 : Option V) (vs : List V) (ps : List Pt), σ = [some (.ref a), some (.int k), some (.ref l), v3, v4, v5] ∧ Same H H' ∧ H' l = some (.lst vs) ∧ Rel2 (PtA H') vs ps ∧ ps.length = i ∧ ∀ p ∈ ps, PtOk p)
      ⟨none, none, none, [], [], rfl, s0, upd_same, True.intro, rfl, fun _ m => nomatch m⟩ ?_ ?_⟩
    · rintro i σ H' hi ⟨v3, v4, v5, vs, ps, rfl, s', hl, rr, lp, ok⟩
      refine ⟨_, rfl, _, _, rfl, rfl, _, rfl, _, _, rfl, rfl, .inl ⟨by decide, by decide⟩, _, _, rfl, rfl, ?_⟩
      refine ⟨(by show 4 ≤ sizeLine; decide), fun p np => ?_⟩
      have s1 : Same H' (upd H' p (.lst (LK.map V.str))) := same_upd np
      have hp : upd H' p (.lst (LK.map V.str)) p = some (.lst (LK.map V.str)) := upd_same
      show _
      generalize hA : upd H' p (.lst (LK.map V.str)) = A1 at s1 hp
      have hA' : upd H' p (.lst [V.str "NUMBER", V.str "PLUS", V.str "IF", V.str "NAME"]) = A1 := hA
      simp only [hA']
      refine ⟨_, rfl, _, rfl, a, ds, _, _, rfl, SqL.of (s1 _ _ (s' _ _ ha)), p4, fun y y0 y1 => ?_⟩
      obtain ⟨kd, gk, mk⟩ := pick_at (L := LK) y0 (by show y < 4; exact y1)
      refine ⟨p, _, _, _, rfl, rfl, SqL.of hp, at_of (j := y.toNat) (by omega) gk, ?_⟩
      refine ⟨_, rfl, _, rfl, _, _, rfl, rfl, a, ds, _, _, rfl, SqL.of (s1 _ _ (s' _ _ ha)), p2, fun x x0 x1 => ⟨rfl, _, rfl, ite2 (fun _ => ?_) (fun _ => ?_)⟩⟩
      · refine ⟨_, rfl, .inl ⟨rfl, _, SqL.of (s1 _ _ hl)⟩, _, rfl, (by show 6 ≤ sizeLine; decide), fun q2 nq2 => ?_⟩
        have s2 : Same A1 (upd A1 q2 (.lst (WL.map V.str))) := same_upd nq2
        have hq2 : upd A1 q2 (.lst (WL.map V.str)) q2 = some (.lst (WL.map V.str)) := upd_same
        show _
        generalize hB : upd A1 q2 (.lst (WL.map V.str)) = A2 at s2 hq2
        have hB' : upd A1 q2 (.lst [V.str "+", V.str "if", V.str "i", V.str "<=", V.str "if1", V.str "1"]) = A2 := hB
        simp only [hB']
        have s02 := (s'.trans s1).trans s2
        refine ⟨_, rfl, _, rfl, _, _, rfl, rfl, a, ds, _, _, rfl, SqL.of (s02 _ _ ha), p6, fun z z0 z1 => ?_⟩
        obtain ⟨tx, gt, mt⟩ := pick_at (L := WL) z0 (by show z < 6; exact z1)
        refine ⟨q2, _, _, _, rfl, rfl, SqL.of hq2, at_of (j := z.toNat) (by omega) gt, ?_⟩
        refine ⟨(by show 3 ≤ sizeLine; decide), fun t nt => ?_⟩
        have s3 : Same A2 (upd A2 t (.tup [.str kd, .str "word", .str tx])) := same_upd nt
        have ht : upd A2 t (.tup [.str kd, .str "word", .str tx]) t = some (.tup [.str kd, .str "word", .str tx]) := upd_same
        generalize upd A2 t (.tup [.str kd, .str "word", .str tx]) = A3 at s3 ht
        have s13 := (s1.trans s2).trans s3
        have hl3 := s13 _ _ hl
        refine ⟨l, _, _, rfl, rfl, hl3, ?_, _, _, _, vs ++ [.ref t], ps ++ [⟨kd, "word", tx⟩], rfl, same_put (s'.trans s13) nl, upd_same, ?_, ?_, fun s hs => ?_⟩
        · rw [rr.len]
          exact million1 (by omega)
        · exact (rr.mono (PtA.tupS ((TupS.of_same s13).trans (.at_lst hl3)))).snoc ⟨t, rfl, (TupS.at_lst hl3) _ _ ht⟩
        · rw [List.length_append, List.length_singleton, lp]
        · rcases List.mem_append.mp hs with m | m
          · exact ok s m
          · rw [List.mem_singleton.mp m]
            exact ⟨mk, .inl ⟨rfl, mt⟩⟩
      · refine ⟨_, rfl, .inl ⟨rfl, _, SqL.of (s1 _ _ hl)⟩, _, rfl, (by show 4 ≤ sizeLine; decide), fun q2 nq2 => ?_⟩
        have s2 : Same A1 (upd A1 q2 (.lst (RL.map V.str))) := same_upd nq2
        have hq2 : upd A1 q2 (.lst (RL.map V.str)) q2 = some (.lst (RL.map V.str)) := upd_same
        show _
        generalize hB : upd A1 q2 (.lst (RL.map V.str)) = A2 at s2 hq2
        have hB' : upd A1 q2 (.lst [V.str "0123456789", V.str "abif", V.str "ia1", V.str "+"]) = A2 := hB
        simp only [hB']
        have s02 := (s'.trans s1).trans s2
        refine ⟨_, rfl, _, rfl, _, _, rfl, rfl, a, ds, _, _, rfl, SqL.of (s02 _ _ ha), p4, fun z z0 z1 => ?_⟩
        obtain ⟨tx, gt, mt⟩ := pick_at (L := RL) z0 (by show z < 4; exact z1)
        refine ⟨q2, _, _, _, rfl, rfl, SqL.of hq2, at_of (j := z.toNat) (by omega) gt, ?_⟩
        refine ⟨(by show 3 ≤ sizeLine; decide), fun t nt => ?_⟩
        have s3 : Same A2 (upd A2 t (.tup [.str kd, .str "run", .str tx])) := same_upd nt
        have ht : upd A2 t (.tup [.str kd, .str "run", .str tx]) t = some (.tup [.str kd, .str "run", .str tx]) := upd_same
        generalize upd A2 t (.tup [.str kd, .str "run", .str tx]) = A3 at s3 ht
        have s13 := (s1.trans s2).trans s3
        have hl3 := s13 _ _ hl
        refine ⟨l, _, _, rfl, rfl, hl3, ?_, _, _, _, vs ++ [.ref t], ps ++ [⟨kd, "run", tx⟩], rfl, same_put (s'.trans s13) nl, upd_same, ?_, ?_, fun s hs => ?_⟩
        · rw [rr.len]
          exact million1 (by omega)
        · exact (rr.mono (PtA.tupS ((TupS.of_same s13).trans (.at_lst hl3)))).snoc ⟨t, rfl, (TupS.at_lst hl3) _ _ ht⟩
        · rw [List.length_append, List.length_singleton, lp]
        · rcases List.mem_append.mp hs with m | m
          · exact ok s m
          · rw [List.mem_singleton.mp m]
            exact ⟨mk, .inr ⟨rfl, mt⟩⟩
    · rintro σ H' ⟨v3, v4, v5, vs, ps, rfl, s', hl, rr, lp, ok⟩
      refine ⟨_, rfl, (by show 4 ≤ sizeLine; decide), fun p np => ?_⟩
      have s1 : Same H' (upd H' p (.lst (PL.map V.str))) := same_upd np
      have hp : upd H' p (.lst (PL.map V.str)) p = some (.lst (PL.map V.str)) := upd_same
      show _
      generalize hA : upd H' p (.lst (PL.map V.str)) = A1 at s1 hp
      have hA' : upd H' p (.lst [V.str "", V.str " ", V.str " \n", V.str "a "]) = A1 := hA
      simp only [hA']
      refine ⟨_, rfl, _, rfl, _, _, rfl, rfl, a, ds, _, _, rfl, SqL.of (s1 _ _ (s' _ _ ha)), p4, fun y y0 y1 => ?_⟩
      obtain ⟨o, go, mo⟩ := pick_at (L := PL) y0 (by show y < 4; exact y1)
      refine ⟨p, _, _, _, rfl, rfl, SqL.of hp, at_of (j := y.toNat) (by omega) go, ?_⟩
      refine ⟨(by show 2 ≤ sizeLine; decide), fun t nt => ?_⟩
      have st : Same A1 (upd A1 t (.tup [.ref l, .str o])) := same_upd nt
      have s03 := (s'.trans s1).trans st
      exact q t _ ps o s03 ((s'.trans s1).free nt) ⟨l, vs, upd_same, st _ _ (s1 _ _ hl), rr.mono (PtA.same (s1.trans st))⟩ ⟨by omega, ok, mo⟩
end
end Ld

set_option Elab.async false
set_option linter.all false
set_option maxRecDepth 100000
set_option maxHeartbeats 4000000
namespace Ld
open PySem PySem.Spec PyProof.Rows L2 Lg Lr TL
def TX : Str := "if1 +a<=b2\n?fi1i"
def one1 (c : Nat) : Str := ⟨#[c]⟩
def TxOk (z : Str) : Prop := z.length ≤ 400 ∧ ∀ c ∈ cds z, c ∈ cds TX
theorem join_codes (cs : List Nat) : cds (Txt.join "" (cs.map one1)) = cs := by
  have h := join0_tl (cs.map one1)
  have e : (cs.map one1).flatMap tl = cs := by
    induction cs with
    | nil => rfl
    | cons c cs ih =>
      rw [List.map_cons, List.flatMap_cons, ih (join0_tl _)]
      rfl
  exact h.trans e
theorem ones_len (cs : List Nat) : ((cs.map one1).map (·.length)).sum = cs.length := by
  induction cs with
  | nil => rfl
  | cons c cs ih =>
    rw [List.map_cons, List.map_cons, List.sum_cons, ih, List.length_cons]
    show 1 + cs.length = cs.length + 1
    omega
theorem tw_step {p : Nat → Bool} {M : List Nat} {j x : Nat} (h : M[j]? = some x) : ((M.take (j + 1)).takeWhile p).length = if ((M.take j).takeWhile p).length = j ∧ p x = true then j + 1 else ((M.take j).takeWhile p).length := by
  have hj : j < M.length := (List.getElem?_eq_some_iff.mp h).1
  have lj : (M.take j).length = j := by rw [List.length_take]; omega
  rw [List.take_add_one, h, List.takeWhile_append, lj]
  by_cases e : ((M.take j).takeWhile p).length = j
  · rw [if_pos e]
    cases px : p x with
    | true => rw [if_pos ⟨e, rfl⟩]; simp [px, lj]
    | false => rw [if_neg (fun z => Bool.false_ne_true z.2)]; simp [px, lj, e]
  · rw [if_neg e, if_neg (fun z => e z.1)]
section
variable {P : Program} {w : World} {K : PySem.W.Frag} {mg : Str → Option Value} {base : Heap}
theorem scTx : FnScope ["draws", "k", "size", "n"] ["draws", "k"] (defScope s__law_text) := ⟨rfl, rfl, rfl, by decide +kernel, rfl, by decide +kernel, by decide +kernel⟩
def spTx (K : PySem.W.Frag) : Sp := fun vs H Q _ => ∃ (a : Addr) (ds : List Int) (k : Int), vs = [.ref a, .int k] ∧ H a = some (.lst (ds.map V.int)) ∧ ∀ (z : Str) (H2 : Hp), Same H H2 → TxOk z → Q (.str z) H2
theorem ok_tx {f fM : Addr} {fd fdM : FuncData} (F : Fun K "_law_text" "_law_text" s__law_text f fd)
    (GM : FnOk P w K mg base CX0 1 fM fdM ["draws", "k", "many"] (spMix K)) (kM : PySem.W.keepIn K (.ref fM) = true) (bM : Binds K fdM ["draws", "k", "many"] []) (gM : mg "_law_mix" = some (.ref fM))
    (mr : mg "range" = none) : FnOk P w K mg base CX0 2 f fd ["draws", "k"] (spTx K) := by
  refine F.ok scTx (fun vs H Q E h => ?_) (fun cdv A outer s H vs Q E hr h => ?_)
  · obtain ⟨a, ds, k, rfl, _⟩ := h
    rfl
  · obtain ⟨a, ds, k, rfl, ha, q⟩ := h
    refine ⟨_, pss_cons (ps_set (i := 2) scTx.nd rfl (.inl rfl) (pe_call GM hr (by rfl) gM kM bM .nil pass0 (pa_cons (pv 0) (pa_cons (pv 1) (pa_cons pe_int pa_nil)))))
      (pss_cons (ps_if (pt_cmpR op_eq (pe_call GM hr (by rfl) gM kM bM .nil pass0 (pa_cons (pv 0) (pa_cons (pe_op op_add (pv 1) pe_int) (pa_cons pe_int pa_nil)))) pe_int (nomark _))
        (pss_one (ps_set (i := 2) scTx.nd rfl (.inl rfl) (pe_op op_add pe_int (pe_call GM hr (by rfl) gM kM bM .nil pass0 (pa_cons (pv 0) (pa_cons (pe_op op_add (pv 1) pe_int) (pa_cons pe_int pa_nil))))))) pss_nil)
      (pss_one (ps_ret (pe_join pe_str (pe_lc (own := [("n", 3)]) (g := gName 3) rfl scTx.nd (pi_range1 rfl mr (pa_cons (pv 2) pa_nil)) (blkOk_by (N := ["draws", "k", "size", "n"]) (sc := defScope s__law_text) (by decide +kernel)) (fun _ _ _ _ _ => pg_name (i := 3) scTx.nd rfl (Or.inl rfl)) (fun _ _ _ _ _ => pts_nil)
        (fun _ _ _ _ _ => pe_ix (r := rIxS) ix_str pe_str (pe_call GM hr (by rfl) gM kM bM .nil pass0 (pa_cons (pv 0) (pa_cons (pe_op op_add (pe_op op_add (pv 1) pe_int) (pv 3)) (pa_cons pe_int pa_nil)))) (fun _ _ => rfl))))))), ?_⟩
    have p61 : (0 : Int) < 61 := by decide
    have p12 : (0 : Int) < 12 := by decide
    have p340 : (0 : Int) < 340 := by decide
    have p16 : (0 : Int) < 16 := by decide
    have fin : ∀ (D : Addr) (H2 : Hp) (cs : List Nat), Same H H2 → H2 D = some (.lst ((cs.map one1).map V.str)) → cs.length ≤ 400 → (∀ c ∈ cs, c ∈ cds TX) → ((cs.map one1).map (·.length)).sum + (cs.map one1).length * ("" : Str).length ≤ 16777216 ∧ Q (.str (Txt.join "" (cs.map one1))) H2 := fun D H2 cs s2 hd lc ok => by
      refine ⟨?_, q _ H2 s2 ⟨?_, ?_⟩⟩
      · rw [ones_len]
        show cs.length + (cs.map one1).length * 0 ≤ _
        omega
      · rw [← cds_len, join_codes]
        exact lc
      · rw [join_codes]
        exact ok
    refine ⟨_, rfl, _, rfl, a, ds, _, _, rfl, SqL.of ha, p61, fun x x0 x1 => ?_⟩
    refine ⟨_, rfl, _, rfl, _, _, rfl, rfl, a, ds, _, _, rfl, SqL.of ha, p12, fun y y0 y1 => ⟨rfl, _, rfl, ite2 (fun _ => ?_) (fun _ => ?_)⟩⟩
    · refine ⟨_, rfl, _, rfl, _, _, rfl, rfl, a, ds, _, _, rfl, SqL.of ha, p340, fun z z0 z1 => ⟨_, _, rfl, rfl, ⟨_, rfl⟩, _, rfl, 61 + z, rfl, by omega, by omega, fun D hD => lc_range (lo := 0) (n := (61 + z).toNat) (fun j H' => ∃ cs : List Nat, Same H H' ∧ H' D = some (.lst ((cs.map one1).map V.str)) ∧ cs.length = j ∧ ∀ c ∈ cs, c ∈ cds TX) ⟨[], same_upd hD, upd_same, rfl, fun _ m => nomatch m⟩ ?_ ?_⟩⟩
      · rintro j H' hj ⟨cs, s', hd, lc, ok⟩
        refine ⟨rfl, _, rfl, _, rfl, _, _, rfl, rfl, _, rfl, _, _, rfl, rfl, a, ds, _, _, rfl, SqL.of (s' _ _ ha), p16, fun u u0 u1 => ?_⟩
        have lu : u.toNat < (cds TX).length := by
          show u.toNat < 16
          omega
        refine ⟨TX, u, (cds TX)[u.toNat], rfl, rfl, by decide, (by have := atI_nat (xs := cds TX) (List.getElem?_eq_getElem lu); rwa [Int.toNat_of_nonneg u0] at this), _, hd, ?_, cs ++ [(cds TX)[u.toNat]], same_put s' hD, ?_, ?_, fun c hc => ?_⟩
        · rw [List.length_map, List.length_map]
          exact million1 (by omega)
        · rw [upd_same, List.map_append, List.map_append]
          rfl
        · rw [List.length_append, List.length_singleton, lc]
        · rcases List.mem_append.mp hc with m | m
          · exact ok c m
          · rw [List.mem_singleton.mp m]
            exact List.getElem_mem lu
      · rintro H2 ⟨cs, s2, hd, lc, ok⟩
        obtain ⟨f1, f2⟩ := fin D H2 cs s2 hd (by omega) ok
        exact ⟨_, D, _, rfl, rfl, .inl (SqL.of hd), f1, f2⟩
    · refine ⟨⟨_, rfl⟩, _, rfl, x, rfl, by omega, by omega, fun D hD => lc_range (lo := 0) (n := x.toNat) (fun j H' => ∃ cs : List Nat, Same H H' ∧ H' D = some (.lst ((cs.map one1).map V.str)) ∧ cs.length = j ∧ ∀ c ∈ cs, c ∈ cds TX) ⟨[], same_upd hD, upd_same, rfl, fun _ m => nomatch m⟩ ?_ ?_⟩
      · rintro j H' hj ⟨cs, s', hd, lc, ok⟩
        refine ⟨rfl, _, rfl, _, rfl, _, _, rfl, rfl, _, rfl, _, _, rfl, rfl, a, ds, _, _, rfl, SqL.of (s' _ _ ha), p16, fun u u0 u1 => ?_⟩
        have lu : u.toNat < (cds TX).length := by
          show u.toNat < 16
          omega
        refine ⟨TX, u, (cds TX)[u.toNat], rfl, rfl, by decide, (by have := atI_nat (xs := cds TX) (List.getElem?_eq_getElem lu); rwa [Int.toNat_of_nonneg u0] at this), _, hd, ?_, cs ++ [(cds TX)[u.toNat]], same_put s' hD, ?_, ?_, fun c hc => ?_⟩
        · rw [List.length_map, List.length_map]
          exact million1 (by omega)
        · rw [upd_same, List.map_append, List.map_append]
          rfl
        · rw [List.length_append, List.length_singleton, lc]
        · rcases List.mem_append.mp hc with m | m
          · exact ok c m
          · rw [List.mem_singleton.mp m]
            exact List.getElem_mem lu
      · rintro H2 ⟨cs, s2, hd, lc, ok⟩
        obtain ⟨f1, f2⟩ := fin D H2 cs s2 hd (by omega) ok
        exact ⟨_, D, _, rfl, rfl, .inl (SqL.of hd), f1, f2⟩
theorem scLm : FnScope ["pattern", "text", "index", "kind", "form", "chars", "size", "k"] ["pattern", "text", "index"] (defScope s__law_match) := ⟨rfl, rfl, rfl, by decide +kernel, rfl, by decide +kernel, by decide +kernel⟩
theorem ok_lm {f : Addr} {fd : FuncData} (F : Fun K "_law_match" "_law_match" s__law_match f fd) (ml : mg "len" = none) (mi : mg "int" = none) (mr : mg "range" = none) : FnOk P w K mg base CX0 1 f fd ["pattern", "text", "index"] spMat := by
  refine F.ok scLm (fun vs H Q E h => ?_) (fun cdv A outer s H vs Q E hr h => ?_)
  · obtain ⟨a, p, z, i, rfl, _⟩ := h
    rfl
  · obtain ⟨a, p, z, i, rfl, ha, lc, lz, hi, q⟩ := h
    refine ⟨_, pss_cons (ps_asg (pv 0) (pg_tup rfl (pgs_cons (pg_name (i := 3) scLm.nd rfl (.inl rfl)) (pgs_cons (pg_name (i := 4) scLm.nd rfl (.inl rfl)) (pgs_cons (pg_name (i := 5) scLm.nd rfl (.inl rfl)) pgs_nil)))))
      (pss_cons (ps_if (pt_cmpR op_eq (pv 4) pe_str (nomark _)) (pss_one (ps_ret (pe_op op_mul (pe_callB call_len_str (by rfl) ml PySem.boot_len (pa_cons (pv 5) pa_nil))
          (pe_callTy call_int1 (by rfl) mi (by decide +kernel) (pa_cons (pe_cmpR op_eq (pe_slice sl_str (pv 1) (po_some (pv 2)) (po_some (pe_op op_add (pv 2) (pe_callB call_len_str (by rfl) ml PySem.boot_len (pa_cons (pv 5) pa_nil))))) (pv 5) (nomark _)) pa_nil))))) pss_nil)
      (pss_cons (ps_set (i := 6) scLm.nd rfl (.inl rfl) pe_int)
      (pss_cons (ps_for PassesOwn.never rfl (pi_range2 rfl mr (pa_cons (pv 2) (pa_cons (pe_callB call_len_str (by rfl) ml PySem.boot_len (pa_cons (pv 1) pa_nil)) pa_nil))) (pg_name (i := 7) scLm.nd rfl (.inl rfl))
        (pss_one (ps_if (PW.pt (pw_and (pt_cmpR op_eq (pv 6) (pe_op op_sub (pv 7) (pv 2)) (nomark _)) (pw_and1 (pt_cmpR op_in_sign (pe_ix ix_str (pv 1) (pv 7) (fun _ _ => rfl)) (pv 5) rfl))))
          (pss_one (ps_set (i := 6) scLm.nd rfl (.inl rfl) (pe_op op_add (pv 6) pe_int))) pss_nil)))
      (pss_one (ps_ret (pv 6)))))), ?_⟩
    refine ⟨_, rfl, a, _, rfl, SqT.of ha, rfl, _, _, rfl, _, _, rfl, _, _, rfl, rfl, ?_⟩
    unfold matN at q
    refine ⟨_, rfl, rfl, _, rfl, iteStr (fun e => ?_) (fun e => ?_)⟩
    · rw [if_pos e] at q
      refine ⟨_, rfl, p.c, rfl, million0 lc, ?_⟩
      refine ⟨_, rfl, _, rfl, _, rfl, _, rfl, _, rfl, p.c, rfl, million0 lc, _, _, rfl, rfl, _, rfl, z, rfl, million0 lz, ?_⟩
      have ec : cutS z (some (i : Int)) (some ((i : Int) + (p.c.length : Int))) = sub z i p.c.length := by
        rw [show (i : Int) + (p.c.length : Int) = ((i + p.c.length : Nat) : Int) by omega]
        exact cutS_sub z _ _
      rw [ec]
      refine ⟨_, rfl, rfl, .inr ⟨_, rfl, _, _, rfl, rfl, .inl ⟨by omega, by omega⟩, ?_⟩⟩
      have key : (p.c.length : Int) * (if decide (V.str (sub z i p.c.length) = V.str p.c) = true then 1 else 0) = ((wordN p.c z i : Nat) : Int) := by
        unfold wordN
        by_cases e2 : sub z i p.c.length = p.c
        · rw [decide_eq_true (by rw [e2]), if_pos rfl, if_pos e2, Int.mul_one]
        · rw [decide_eq_false (fun z => e2 (V.str.inj z)), if_neg Bool.false_ne_true, if_neg e2, Int.mul_zero]
          rfl
      rw [← key] at q
      exact q
    · rw [if_neg e] at q
      refine ⟨_, rfl, _, rfl, z, rfl, million0 lz, _, _, rfl, ⟨by omega, by omega, by omega, by omega⟩, for_range (lo := (i : Int)) (n := ((z.length : Int) - (i : Int)).toNat) (fun j σ H' => ∃ v7, σ = [some (.ref a), some (.str z), some (.int i), some (.str p.k), some (.str p.f), some (.str p.c), some (.int (((((cds z).drop i).take j).takeWhile fun x => decide (x ∈ cds p.c)).length : Nat)), v7] ∧ H' = H)
        ⟨none, rfl, rfl⟩ ?_ ?_⟩
      · rintro j σ H' hj ⟨v7, rfl, rfl⟩
        obtain ⟨x, hx, _⟩ := code_at (z := z) (i := i + j) (by omega)
        have hx2 : ((cds z).drop i)[j]? = some x := by rw [List.getElem?_drop]; exact hx
        have st := tw_step (p := fun x => decide (x ∈ cds p.c)) hx2
        rw [st]
        generalize ((((cds z).drop i).take j).takeWhile fun x => decide (x ∈ cds p.c)).length = t
        refine ⟨_, rfl, _, rfl, _, rfl, _, _, rfl, rfl, rfl, _, rfl, ?_⟩
        by_cases c1 : t = j
        · rw [decide_eq_true (show V.int ((t : Nat) : Int) = V.int ((i : Int) + (j : Int) - (i : Int)) by rw [c1]; congr 1; omega)]
          refine iteT ⟨_, rfl, _, rfl, z, _, x, rfl, rfl, million0 lz, (by rw [show (i : Int) + (j : Int) = ((i + j : Nat) : Int) by omega]; exact atI_code hx), _, rfl, x, p.c, rfl, rfl, _, rfl, ?_⟩
          by_cases c2 : x ∈ cds p.c
          · rw [decide_eq_true c2, if_pos ⟨c1, rfl⟩]
            rw [c1]
            exact iteT ⟨_, rfl, _, _, rfl, rfl, _, rfl, rfl⟩
          · rw [decide_eq_false c2, if_neg (fun z => Bool.false_ne_true z.2)]
            exact iteF ⟨_, rfl, rfl⟩
        · rw [decide_eq_false (show ¬ V.int ((t : Nat) : Int) = V.int ((i : Int) + (j : Int) - (i : Int)) from fun z => c1 (by have := V.int.inj z; omega)), if_neg (fun z => c1 z.1)]
          exact iteF (iteF ⟨_, rfl, rfl⟩)
      · rintro σ H' ⟨v7, rfl, rfl⟩
        rw [List.take_of_length_le (by rw [List.length_drop, cds_len]; omega)]
        exact ⟨_, rfl, q⟩
end
end Ld

set_option Elab.async false
set_option linter.all false
set_option maxRecDepth 100000
set_option maxHeartbeats 4000000
namespace Ld
open PySem PySem.Spec PyProof.Rows L2 Lg Lr TL
theorem max_sz (ps : List Pt) (z : Str) (i : Nat) : (if ((bestOf ps z i).2 : Int) > (1 : Int) then ((bestOf ps z i).2 : Int) else (1 : Int)) = ((sizeAt ps z i : Nat) : Int) := by
  unfold sizeAt
  split <;> omega
section
variable {P : Program} {w : World} {K : PySem.W.Frag} {mg : Str → Option Value} {base : Heap}
theorem scLc : FnScope ["lexicon", "text", "signs", "index", "turn", "kind", "size", "pattern", "found"] ["lexicon", "text"] (defScope s__law_cut) := ⟨rfl, rfl, rfl, by decide +kernel, rfl, by decide +kernel, by decide +kernel⟩
theorem ok_lc {f fM : Addr} {fd fdM : FuncData} (F : Fun K "_law_cut" "_law_cut" s__law_cut f fd)
    (GM : FnOk P w K mg base CX0 1 fM fdM ["pattern", "text", "index"] spMat) (kM : PySem.W.keepIn K (.ref fM) = true) (bM : Binds K fdM ["pattern", "text", "index"] []) (gM : mg "_law_match" = some (.ref fM))
    (ml : mg "len" = none) (mm : mg "max" = none) (mr : mg "range" = none) : FnOk P w K mg base CX0 2 f fd ["lexicon", "text"] spCut := by
  refine F.ok scLc (fun vs H Q E h => ?_) (fun cdv A outer s H vs Q E hr h => ?_)
  · obtain ⟨t, ps, o, z, rfl, _⟩ := h
    rfl
  · obtain ⟨t, ps, o, z, rfl, ⟨l, us, ht, hl, rr⟩, few, lz, q⟩ := h
    have bz : z.length ≤ 1000000 := Nat.le_trans lz (by decide)
    have maxE : ∀ {X : Cx}, True := fun {_} => True.intro
    refine ⟨_, pss_cons (ps_set (i := 2) scLc.nd rfl (.inl rfl) (pe_lst pa_nil))
      (pss_cons (ps_set (i := 3) scLc.nd rfl (.inl rfl) pe_int)
      (pss_cons (ps_for PassesOwn.never rfl (pi_range1 rfl mr (pa_cons (pe_callB call_len_str (by rfl) ml PySem.boot_len (pa_cons (pv 1) pa_nil)) pa_nil)) (pg_name (i := 4) scLc.nd rfl (.inl rfl))
        (pss_one (ps_if (PW.pt (pw_and (pt_cmpR op_lt (pv 3) (pe_callB call_len_str (by rfl) ml PySem.boot_len (pa_cons (pv 1) pa_nil)) (nomark _)) (pw_and1 (pt_cmpR op_in_sign (pe_ix ix_str (pv 1) (pv 3) (fun _ _ => rfl)) (pe_ix ix_tup (pv 0) pe_int (fun _ _ => rfl)) rfl))))
          (pss_one (ps_set (i := 3) scLc.nd rfl (.inl rfl) (pe_op op_add (pv 3) pe_int)))
          (pss_one (ps_if (pt_cmpR op_lt (pv 3) (pe_callB call_len_str (by rfl) ml PySem.boot_len (pa_cons (pv 1) pa_nil)) (nomark _))
            (pss_cons (ps_set (i := 5) scLc.nd rfl (.inl rfl) pe_str)
            (pss_cons (ps_set (i := 6) scLc.nd rfl (.inl rfl) pe_int)
            (pss_cons (ps_for PassesOwn.never rfl (pi_list (pe_ix ix_tup (pv 0) pe_int (fun _ _ => rfl))) (pg_name (i := 7) scLc.nd rfl (.inl rfl))
              (pss_cons (ps_set (i := 8) scLc.nd rfl (.inl rfl) (pe_call GM hr (by rfl) gM kM bM .nil pass0 (pa_cons (pv 7) (pa_cons (pv 1) (pa_cons (pv 3) pa_nil)))))
              (pss_one (ps_if (pt_cmpR op_gt (pv 8) (pv 6) (nomark _)) (pss_cons (ps_set (i := 5) scLc.nd rfl (.inl rfl) (pe_ix ix_tup (pv 7) pe_int (fun _ _ => rfl))) (pss_one (ps_set (i := 6) scLc.nd rfl (.inl rfl) (pv 8)))) pss_nil))))
            (pss_cons (ps_expr (pe_bm PySem.F.plainAttrs_list PySem.F.slot_list_append PySem.F.type_list_append mt_append (pv 2) (pa_cons (pe_tup (pa_cons (pv 5) (pa_cons (pe_slice sl_str (pv 1) (po_some (pv 3)) (po_some (pe_op op_add (pv 3) (pe_callB (call_max2 rfl) (by rfl) mm (by decide +kernel) (pa_cons pe_int (pa_cons (pv 6) pa_nil)))))) (pa_cons (pv 3) pa_nil)))) pa_nil)))
            (pss_one (ps_set (i := 3) scLc.nd rfl (.inl rfl) (pe_op op_add (pv 3) (pe_callB (call_max2 rfl) (by rfl) mm (by decide +kernel) (pa_cons pe_int (pa_cons (pv 6) pa_nil))))))))))
            pss_nil)))))
      (pss_one (ps_ret (pv 2))))), ?_⟩
    refine ⟨Nat.zero_le _, fun sl nsl => ?_⟩
    refine ⟨_, rfl, z, rfl, million0 bz, (z.length : Int), rfl, by omega, by omega, for_range (lo := 0) (n := (z.length : Int).toNat) (fun n σ H' => ∃ (v4 v5 v6 v7 v8 : Option V) (ws : List V), σ = [some (.ref t), some (.str z), some (.ref sl), some (.int ((itr ps o z n).1 : Nat)), v4, v5, v6, v7, v8] ∧ Same H H' ∧ H' sl = some (.lst ws) ∧ Rel2 (SgA H') ws (itr ps o z n).2)
      ⟨none, none, none, none, none, [], rfl, same_upd nsl, upd_same, True.intro⟩ ?_ ?_⟩
    · rintro n σ H1 hn ⟨v4, v5, v6, v7, v8, ws, rfl, s1, h1, r1⟩
      have es0 : itr ps o z (n + 1) = stp ps o z (itr ps o z n) := rfl
      have len1 := itr_len ps o z n
      have ix1 := (itr_ix ps o z n).1
      rw [es0]
      generalize hb : itr ps o z n = b at *
      have ht1 := s1 _ _ ht
      refine ⟨_, rfl, _, rfl, z, rfl, million0 bz, _, _, rfl, rfl, _, rfl, ?_⟩
      by_cases c : b.1 < z.length
      · have cc : ((b.1 : Nat) : Int) < (z.length : Int) := by omega
        rw [decide_eq_true cc]
        obtain ⟨x, hx, gx⟩ := code_at c
        refine iteT ⟨_, rfl, _, rfl, z, _, x, rfl, rfl, million0 bz, atI_code hx, _, rfl, t, _, _, _, rfl, rfl, SqT.of ht1, at_of (j := 1) rfl rfl, x, o, rfl, rfl, _, rfl, ?_⟩
        by_cases e : x ∈ cds o
        · rw [decide_eq_true e]
          have ip : isPassed o z b.1 = true := by
            unfold isPassed
            rw [gx]
            exact decide_eq_true e
          rw [stp_pass c ip]
          exact iteT ⟨_, rfl, _, _, rfl, rfl, _, _, _, _, _, ws, rfl, s1, h1, r1⟩
        · rw [decide_eq_false e]
          have ip : isPassed o z b.1 = false := by
            unfold isPassed
            rw [gx]
            exact decide_eq_false e
          rw [stp_sign c ip]
          have sz := sizeAt_le (ps := ps) c
          refine iteF ⟨_, rfl, _, rfl, z, rfl, million0 bz, _, _, rfl, rfl, _, rfl, ?_⟩
          rw [decide_eq_true cc]
          refine iteT ⟨_, rfl, t, _, _, _, rfl, rfl, SqT.of ht1, at_of (j := 0) rfl rfl, l, rfl, ⟨_, SqL.of (s1 _ _ hl)⟩, for_list (a := l) (xs := us) (fun j σ H' => ∃ v7 v8, σ = [some (.ref t), some (.str z), some (.ref sl), some (.int ((b.1 : Nat) : Int)), some (.int (0 + (n : Int))), some (.str (bestOf (ps.take j) z b.1).1), some (.int ((bestOf (ps.take j) z b.1).2 : Nat)), v7, v8] ∧ H' = H1)
            ⟨v7, v8, rfl, rfl⟩ (fun j σ H' _ ⟨_, _, _, e⟩ => by rw [e]; exact SqL.of (s1 _ _ hl)) ?_ ?_⟩
          · rintro j x2 σ H' hx2 ⟨v7, v8, rfl, rfl⟩
            obtain ⟨p, hp, a, rfl, ha⟩ := rr.get hx2
            have ha := s1 _ _ ha
            rw [bestOf_take hp]
            generalize bestOf (ps.take j) z b.1 = bb
            refine ⟨_, rfl, _, rfl, _, rfl, a, p, z, b.1, rfl, ha, Nat.le_trans (few.2 p (List.mem_of_getElem? hp)) (by decide), bz, ix1, ?_⟩
            refine ⟨_, rfl, _, rfl, _, _, rfl, rfl, _, rfl, ite2 (fun c => ?_) (fun c => ?_)⟩
            · have c : ((matN p z b.1 : Nat) : Int) > ((bb.2 : Nat) : Int) := of_decide_eq_true c
              have e : best z b.1 bb p = (p.k, matN p z b.1) := if_pos (by omega)
              rw [e]
              exact ⟨_, rfl, a, _, _, _, rfl, rfl, SqT.of ha, at_of (j := 0) rfl rfl, _, rfl, _, _, rfl, rfl⟩
            · have c : ¬ ((matN p z b.1 : Nat) : Int) > ((bb.2 : Nat) : Int) := fun z => c (decide_eq_true z)
              have e : best z b.1 bb p = bb := if_neg (by omega)
              rw [e]
              exact ⟨_, _, rfl, rfl⟩
          · rintro σ H2 ⟨v7, v8, rfl, rfl⟩
            rw [rr.len, List.take_length]
            have me := max_sz ps z b.1
            refine ⟨_, rfl, .inl ⟨rfl, _, SqL.of h1⟩, _, rfl, _, rfl, _, rfl, _, rfl, _, rfl, _, rfl, _, _, rfl, ?_⟩
            rw [me]
            refine ⟨_, _, rfl, rfl, _, rfl, z, rfl, million0 bz, _, rfl, (by show 3 ≤ sizeLine; decide), fun tn ntn => ?_⟩
            have ec : cutS z (some ((b.1 : Nat) : Int)) (some (((b.1 : Nat) : Int) + ((sizeAt ps z b.1 : Nat) : Int))) = sub z b.1 (sizeAt ps z b.1) := by
              rw [show ((b.1 : Nat) : Int) + ((sizeAt ps z b.1 : Nat) : Int) = ((b.1 + sizeAt ps z b.1 : Nat) : Int) by omega]
              exact cutS_sub z _ _
            rw [ec]
            have s3 : Same H2 (upd H2 tn (.tup [.str (bestOf ps z b.1).1, .str (sub z b.1 (sizeAt ps z b.1)), .int ((b.1 : Nat) : Int)])) := same_upd ntn
            have htn : upd H2 tn (.tup [.str (bestOf ps z b.1).1, .str (sub z b.1 (sizeAt ps z b.1)), .int ((b.1 : Nat) : Int)]) tn = some (.tup [.str (bestOf ps z b.1).1, .str (sub z b.1 (sizeAt ps z b.1)), .int ((b.1 : Nat) : Int)]) := upd_same
            generalize upd H2 tn (.tup [.str (bestOf ps z b.1).1, .str (sub z b.1 (sizeAt ps z b.1)), .int ((b.1 : Nat) : Int)]) = H3 at s3 htn
            have h3 := s3 _ _ h1
            refine ⟨sl, _, _, rfl, rfl, h3, ?_, ?_⟩
            · rw [r1.len]
              exact million1 (by omega)
            refine ⟨_, rfl, _, rfl, _, _, rfl, ?_⟩
            rw [me]
            refine ⟨_, _, rfl, rfl, some (.int (0 + (n : Int))), some (.str (bestOf ps z b.1).1), some (.int ((bestOf ps z b.1).2 : Nat)), v7, v8, ws ++ [.ref tn], ?_, same_put (s1.trans s3) nsl, upd_same, ?_⟩
            · dsimp only
              show [_, _, _, some (V.int (((b.1 : Nat) : Int) + ((sizeAt ps z b.1 : Nat) : Int))), _, _, _, _, _] = _
              rw [show ((b.1 : Nat) : Int) + ((sizeAt ps z b.1 : Nat) : Int) = ((b.1 + sizeAt ps z b.1 : Nat) : Int) by omega]
            · exact (r1.mono (SgA.tupS ((TupS.of_same s3).trans (.at_lst h3)))).snoc ⟨tn, rfl, (TupS.at_lst h3) _ _ htn⟩
      · have cc : ¬ ((b.1 : Nat) : Int) < (z.length : Int) := by omega
        rw [decide_eq_false cc, stp_end c]
        refine iteF (iteF ⟨_, rfl, _, rfl, z, rfl, million0 bz, _, _, rfl, rfl, _, rfl, ?_⟩)
        rw [decide_eq_false cc]
        exact iteF ⟨_, _, _, _, _, ws, rfl, s1, h1, r1⟩
    · rintro σ H2 ⟨v4, v5, v6, v7, v8, ws, rfl, s2, h2, r2⟩
      refine ⟨_, rfl, q sl H2 s2 nsl ⟨ws, h2, ?_⟩⟩
      rw [Int.toNat_natCast] at r2
      exact r2
end
end Ld

set_option Elab.async false
set_option linter.all false
set_option maxRecDepth 100000
set_option maxHeartbeats 4000000
namespace Ld
open PySem PySem.Spec PyProof.Rows L2 Lg
section
variable {P : Program} {w : World} {K : PySem.W.Frag} {mg : Str → Option Value} {base : Heap}
/-! ### whole numbers -/
theorem scLInt : FnScope ["actual"] ["actual"] (defScope sLInt) := ⟨rfl, rfl, rfl, by decide +kernel, rfl, by decide +kernel, by decide +kernel⟩
def spLInt : Sp := fun vs H Q _ => ∃ n : Int, vs = [.int n] ∧ Q (.bl true) H
theorem ok_lint {f : Addr} {fd : FuncData} (F : Fun K "_law_is_integer" "_law_is_integer" sLInt f fd) (mi : mg "isinstance" = none) (mn : mg "int" = none) (mb : mg "bool" = none) : FnOk P w K mg base CX0 1 f fd ["actual"] spLInt := by
  refine F.ok scLInt (fun vs H Q E h => ?_) (fun cdv A outer s H vs Q E hr h => ?_)
  · obtain ⟨n, rfl, _⟩ := h
    rfl
  · obtain ⟨n, rfl, q⟩ := h
    refine ⟨_, pss_one (ps_ret (pe_and (pe_callB call_isi (by rfl) mi (by decide +kernel) (pa_cons (pv 0) (pa_cons (pe_bltn (v := .ty "int") (by rfl) mn (by decide +kernel) rfl) pa_nil)))
      (pe_one (pe_not (pe_callB call_isi (by rfl) mi (by decide +kernel) (pa_cons (pv 0) (pa_cons (pe_bltn (v := .ty "bool") (by rfl) mb (by decide +kernel) rfl) pa_nil))))))), ?_⟩
    refine ⟨_, rfl, _, _, _, _, _, rfl, .ty "int", .base (.int _), kit_ty (r := true) (by decide +kernel), _, rfl, iteT ?_⟩
    exact ⟨_, rfl, _, _, _, _, _, rfl, .ty "bool", .base (.int _), kit_ty (r := false) (by decide +kernel), _, rfl, q⟩
end
end Ld

set_option Elab.async false
set_option linter.all false
set_option maxRecDepth 100000
set_option maxHeartbeats 4000000
namespace Ld
open PySem PySem.Spec PyProof.Rows L2 Lg Lr TL
theorem cutS_from (z : Str) (i : Nat) : cutS z (some (i : Int)) none = sub z i (z.length - i) := by
  unfold cutS sub
  rw [HT.sIx_nat, HT.sIx_none]
  have hl := cds_len z
  congr 2
  by_cases h : i ≤ z.length
  · rw [Nat.min_eq_left h]
  · have h := Nat.le_of_lt (Nat.lt_of_not_le h)
    rw [Nat.min_eq_right h, List.drop_of_length_le (Nat.le_of_eq hl), List.drop_of_length_le (by rw [hl]; exact h), List.take_nil, List.take_nil]
theorem ok_code : ∀ c ∈ cds TX, PyData.strOk (one1 c) = true := by decide +kernel
theorem strOk_tx {z : Str} (h : ∀ c ∈ cds z, c ∈ cds TX) : PyData.strOk z = true := by
  unfold PyData.strOk
  rw [Array.all_eq_true']
  intro c hc
  have := ok_code c (h c (by simpa using hc))
  unfold PyData.strOk one1 at this
  simpa using this
theorem gap_in {o z : Str} {e n : Nat} (h : ∀ j, e ≤ j → j < e + n → isPassed o z j = true) : ∀ c ∈ cds (sub z e n), c ∈ cds o := fun c hc => by
  rw [cds_sub] at hc
  obtain ⟨j, hj, ej⟩ := List.getElem_of_mem hc
  rw [List.length_take, List.length_drop] at hj
  rw [List.getElem_take, List.getElem_drop] at ej
  have p := h (e + j) (by omega) (by omega)
  unfold isPassed at p
  rw [List.getD_eq_getElem?_getD, List.getElem?_eq_getElem (by omega), Option.getD_some, ej] at p
  exact of_decide_eq_true p
def KO : List Str := ["NUMBER", "PLUS", "IF", "NAME", "OTHER"]
theorem ko_ok : ∀ k ∈ KO, PyData.strOk k = true := by decide +kernel
theorem lk_ko : ∀ k ∈ LK, k ∈ KO := by decide +kernel
theorem best_ko {ps : List Pt} (h : ∀ p ∈ ps, PtOk p) (z : Str) (i : Nat) : (bestOf ps z i).1 ∈ KO := by
  have : ∀ (ps : List Pt) (b : Str × Nat), (∀ p ∈ ps, PtOk p) → b.1 ∈ KO → (ps.foldl (best z i) b).1 ∈ KO := by
    intro ps
    induction ps with
    | nil => exact fun b _ h => h
    | cons p ps ih =>
      intro b h k
      rw [List.foldl_cons]
      refine ih _ (fun q hq => h q (List.mem_cons_of_mem _ hq)) ?_
      unfold best
      split
      · exact lk_ko _ (h p List.mem_cons_self).1
      · exact k
  exact this ps _ h (by decide)
/-- what the law needs of the signs -/
structure SgsOk (z : Str) (C : List Sg) : Prop where
  k : ∀ s ∈ C, s.k ∈ KO
  t : ∀ s ∈ C, PyData.strOk s.t = true
  len : C.length ≤ 400
theorem sgs_ok {ps : List Pt} {o z : Str} (h : LexOk ps o) (k : TxOk z) : SgsOk z (cutOf ps o z) := by
  have cov := cut_cov ps o z
  have each : ∀ s ∈ cutOf ps o z, s = sgAt ps z s.n := fun s hs => by
    obtain ⟨n, hn, e⟩ := List.getElem_of_mem hs
    exact (cov.each n s (by rw [List.getElem?_eq_getElem hn, e])).2.2.2
  refine ⟨fun s hs => ?_, fun s hs => ?_, Nat.le_trans (cut_len ps o z) k.1⟩
  · rw [each s hs]
    exact best_ko h.2.1 z _
  · rw [each s hs]
    refine strOk_tx fun c hc => k.2 c ?_
    exact List.mem_of_mem_drop (List.mem_of_mem_take hc)
theorem sgs_lay4 : ∀ {C : List Sg}, (∀ s ∈ C, s.k ∈ KO) → (∀ s ∈ C, PyData.strOk s.t = true) → PyData.canLayAll0 (C.map sgD) = true
  | [], _, _ => rfl
  | x :: xs, h, k => by
    have h1 := ko_ok _ (h x List.mem_cons_self)
    have h2 := k x List.mem_cons_self
    rw [List.map_cons, PyData.canLayAll0, sgs_lay4 (fun s m => h s (List.mem_cons_of_mem _ m)) fun s m => k s (List.mem_cons_of_mem _ m)]
    simp [sgD, PyData.canLay0, PyData.canLayAll0, h1, h2]
theorem sgs_depth4 : ∀ xs : List Sg, PyData.depthAll (xs.map sgD) ≤ 2
  | [] => by simp [PyData.depthAll]
  | x :: xs => by
    have := sgs_depth4 xs
    simp only [List.map_cons, PyData.depthAll, sgD, PyData.depth]
    omega
theorem sgs_shaped {z : Str} {C : List Sg} (h : SgsOk z C) : SeqAt.shaped (sgsD C) = true := shaped_mk (by unfold sgsD; rw [PyData.canLay0]; exact sgs_lay4 h.k h.t) (by
  have := sgs_depth4 C
  simp only [sgsD, PyData.depth]
  omega)
def ksD (ks : List Str) : PyData := .list (ks.map PyData.str)
theorem ks_lay : ∀ {ks : List Str}, (∀ k ∈ ks, PyData.strOk k = true) → PyData.canLayAll0 (ks.map PyData.str) = true
  | [], _ => rfl
  | x :: xs, h => by
    rw [List.map_cons, PyData.canLayAll0, ks_lay fun s m => h s (List.mem_cons_of_mem _ m)]
    simp [PyData.canLay0, h x List.mem_cons_self]
theorem ks_shaped {ks : List Str} (h : ∀ k ∈ ks, PyData.strOk k = true) : SeqAt.shaped (ksD ks) = true := shaped_mk (by unfold ksD; rw [PyData.canLay0]; exact ks_lay h) (by
  have := strs_depth ks
  simp only [ksD, PyData.depth]
  omega)
/-! ### lexicons shown -/
theorem lx_ok : (∀ k ∈ LK, PyData.strOk k = true ∧ wt (.str k) ≤ 20) ∧ (∀ k ∈ WL, PyData.strOk k = true ∧ wt (.str k) ≤ 20) ∧ (∀ k ∈ RL, PyData.strOk k = true ∧ wt (.str k) ≤ 20) ∧ (∀ k ∈ PL, PyData.strOk k = true ∧ wt (.str k) ≤ 20) ∧ (∀ k ∈ (["word", "run"] : List Str), PyData.strOk k = true ∧ wt (.str k) ≤ 20) := by decide +kernel
theorem pt_parts {p : Pt} (h : PtOk p) : (PyData.strOk p.k = true ∧ wt (.str p.k) ≤ 20) ∧ (PyData.strOk p.f = true ∧ wt (.str p.f) ≤ 20) ∧ (PyData.strOk p.c = true ∧ wt (.str p.c) ≤ 20) := by
  obtain ⟨a1, a2, a3, a4, a5⟩ := lx_ok
  refine ⟨a1 _ h.1, ?_⟩
  rcases h.2 with ⟨e, m⟩ | ⟨e, m⟩
  · exact ⟨by rw [e]; exact a5 _ (by simp), a2 _ m⟩
  · exact ⟨by rw [e]; exact a5 _ (by simp), a3 _ m⟩
theorem pts_lay : ∀ {ps : List Pt}, (∀ p ∈ ps, PtOk p) → PyData.canLayAll0 (ps.map ptD) = true ∧ PyData.showableAll (ps.map ptD) = true
  | [], _ => ⟨rfl, rfl⟩
  | x :: xs, h => by
    obtain ⟨⟨h1, _⟩, ⟨h2, _⟩, ⟨h3, _⟩⟩ := pt_parts (h x List.mem_cons_self)
    obtain ⟨i1, i2⟩ := pts_lay fun s m => h s (List.mem_cons_of_mem _ m)
    refine ⟨?_, ?_⟩
    · rw [List.map_cons, PyData.canLayAll0, i1]
      simp [ptD, PyData.canLay0, PyData.canLayAll0, h1, h2, h3]
    · rw [List.map_cons, PyData.showableAll, i2, ptD, PyData.showable, PyData.showableAll, PyData.showableAll, PyData.showableAll, PyData.showableAll]
      rfl
theorem pts_depth : ∀ xs : List Pt, PyData.depthAll (xs.map ptD) ≤ 2
  | [] => by simp [PyData.depthAll]
  | x :: xs => by
    have := pts_depth xs
    simp only [List.map_cons, PyData.depthAll, ptD, PyData.depth]
    omega
theorem lex_show {ps : List Pt} {o : Str} (h : LexOk ps o) : (lexD ps o).showable = true := by
  unfold lexD
  rw [PyData.showable, PyData.showableAll, PyData.showableAll, PyData.showableAll, PyData.showable, PyData.showable, (pts_lay h.2.1).2]
  rfl
theorem lex_shaped {ps : List Pt} {o : Str} (h : LexOk ps o) : SeqAt.shaped (lexD ps o) = true := by
  refine shaped_mk ?_ ?_
  · have := (lx_ok.2.2.2.1 _ h.2.2).1
    simp [lexD, PyData.canLay0, PyData.canLayAll0, (pts_lay h.2.1).1, this]
  · have := pts_depth ps
    simp only [lexD, PyData.depth, PyData.depthAll]
    omega
theorem pt_wt {p : Pt} (h : PtOk p) : wt (ptD p) ≤ 80 := by
  obtain ⟨⟨_, h1⟩, ⟨_, h2⟩, ⟨_, h3⟩⟩ := pt_parts h
  have e : wt (ptD p) = wt (.str p.k) + 2 + (wt (.str p.f) + 2 + (wt (.str p.c) + 2 + 0)) + 4 := by
    unfold ptD
    simp only [wt, wtAll]
  omega
theorem lex_shown {ps : List Pt} {o : Str} (h : LexOk ps o) : (lexD ps o).shown.length ≤ sizeLine := by
  have h1 := wtAll_up (B := 80) (ds := ps.map ptD) fun d m => by
    obtain ⟨s, hs, rfl⟩ := List.mem_map.mp m
    exact pt_wt (h.2.1 s hs)
  rw [List.length_map] at h1
  have h2 := (lx_ok.2.2.2.1 _ h.2.2).2
  have h3 : (80 + 2) * ps.length ≤ (80 + 2) * 6 := Nat.mul_le_mul_left _ h.1
  have e : wt (lexD ps o) = wtAll (ps.map ptD) + 4 + 2 + (wt (.str o) + 2 + 0) + 4 := by
    unfold lexD
    simp only [wt, wtAll]
  have := shown_wt (lexD ps o)
  rw [sizeLine_eq]
  omega
theorem pt_short {p : Pt} (h : PtOk p) : p.c.length ≤ 1000 := by
  have a : ∀ k ∈ WL ++ RL, k.length ≤ 1000 := by decide +kernel
  rcases h.2 with ⟨_, m⟩ | ⟨_, m⟩
  · exact a _ (List.mem_append_left _ m)
  · exact a _ (List.mem_append_right _ m)
theorem lex_few {ps : List Pt} {o : Str} (h : LexOk ps o) : FewP ps := ⟨Nat.le_trans h.1 (by decide), fun p hp => pt_short (h.2.1 p hp)⟩
end Ld

set_option Elab.async false
set_option linter.all false
set_option maxRecDepth 100000
set_option maxHeartbeats 4000000
namespace Ld
open PySem PySem.Spec PyProof.Rows L2 Lg Lr TL
theorem LexA.at_lst {H : Hp} {t a : Addr} {ps : List Pt} {z : Str} {ws : List V} {u : HO} (h : LexA H t ps z) (ha : H a = some (.lst ws)) (out : ∀ l, H t = some (.tup [.ref l, .str z]) → l ≠ a) : LexA (upd H a u) t ps z := by
  obtain ⟨l, vs, e1, e2, q⟩ := h
  refine ⟨l, vs, (TupS.at_lst ha) _ _ e1, ?_, q.mono (PtA.tupS (.at_lst ha))⟩
  rw [upd_ne (out l e1)]
  exact e2
theorem emin12 (n : Nat) : (if (n : Int) < (12 : Int) then (n : Int) else (12 : Int)) = ((min n 12 : Nat) : Int) := by
  split <;> omega
section
variable {P : Program} {w : World} {K : PySem.W.Frag} {mg : Str → Option Value} {base : Heap}
theorem scL : FnScope ["script", "draws", "lexicon", "text", "kept", "told", "due", "at", "kind", "word", "start", "kinds", "pattern", "index", "size", "c", "sign"] ["script"] (defScope sLaw) := ⟨rfl, rfl, rfl, by decide +kernel, rfl, by decide +kernel, by decide +kernel⟩
def spLaw (K : PySem.W.Frag) : Sp := fun vs H Q _ => ∃ (a : Addr) (ns : List Int), vs = [.ref a] ∧ SqL K H a (ns.map V.int) ∧ ns.length ≤ 63 ∧ ∀ H', Q (.bl true) H'
theorem ok_law {f fD fE fX fC fQ fK fM fN fI : Addr} {fd fdD fdE fdX fdC fdQ fdK fdM fdN fdI : FuncData} (F : Fun K "law" "law" sLaw f fd)
    (GD : FnOk P w K mg base CX0 1 fD fdD ["script"] (spDraws K)) (kD : PySem.W.keepIn K (.ref fD) = true) (bD : Binds K fdD ["script"] []) (gD : mg "_law_draws" = some (.ref fD))
    (GE : FnOk P w K mg base CX0 2 fE fdE ["draws", "k"] (spLe K)) (kE : PySem.W.keepIn K (.ref fE) = true) (bE : Binds K fdE ["draws", "k"] []) (gE : mg "_law_lexicon" = some (.ref fE))
    (GX : FnOk P w K mg base CX0 2 fX fdX ["draws", "k"] (spTx K)) (kX : PySem.W.keepIn K (.ref fX) = true) (bX : Binds K fdX ["draws", "k"] []) (gX : mg "_law_text" = some (.ref fX))
    (GC : FnOk P w K mg base CX0 4 fC fdC ["lexicon", "text"] spCut) (kC : PySem.W.keepIn K (.ref fC) = true) (bC : Binds K fdC ["lexicon", "text"] []) (gC : mg "cut" = some (.ref fC))
    (GQ : FnOk P w K mg base CX0 2 fQ fdQ ["lexicon", "text"] spCut) (kQ : PySem.W.keepIn K (.ref fQ) = true) (bQ : Binds K fdQ ["lexicon", "text"] []) (gQ : mg "_law_cut" = some (.ref fQ))
    (GK : FnOk P w K mg base CX0 1 fK fdK ["signs"] spKs) (kK : PySem.W.keepIn K (.ref fK) = true) (bK : Binds K fdK ["signs"] []) (gK : mg "kinds_of_signs" = some (.ref fK))
    (GM : FnOk P w K mg base CX0 2 fM fdM ["pattern", "text", "index"] spMat) (kM : PySem.W.keepIn K (.ref fM) = true) (bM : Binds K fdM ["pattern", "text", "index"] []) (gM : mg "match_at" = some (.ref fM))
    (GN : FnOk P w K mg base CX0 1 fN fdN ["pattern", "text", "index"] spMat) (kN : PySem.W.keepIn K (.ref fN) = true) (bN : Binds K fdN ["pattern", "text", "index"] []) (gN : mg "_law_match" = some (.ref fN))
    (GI : FnOk P w K mg base CX0 1 fI fdI ["actual"] spLInt) (kI : PySem.W.keepIn K (.ref fI) = true) (bI : Binds K fdI ["actual"] []) (gI : mg "_law_is_integer" = some (.ref fI))
    (mis : mg "isinstance" = none) (mli : mg "list" = none) (mre : mg "repr" = none) (ml : mg "len" = none) (mmi : mg "min" = none) (mr : mg "range" = none) : Top P w K mg base CX0 f fd ["script"] (spLaw K) := by
  refine top_ok F scL (k := 4) ⟨rfl, by decide, by decide⟩ (fun vs H Q E h => ?_) (fun cdv s H vs Q E hr h => ?_)
  · obtain ⟨a, ns, rfl, _⟩ := h
    rfl
  · obtain ⟨a, ns, rfl, hS, hlen, q⟩ := h
    have hr1 : Room 1 (callerA.deeper (envOfC "law" (defScope sLaw) s.heap.objs.size f cdv)) := hr.mono (by decide)
    have hr2 : Room 2 (callerA.deeper (envOfC "law" (defScope sLaw) s.heap.objs.size f cdv)) := hr.mono (by decide)
    refine ⟨_, pss_cons (ps_set (i := 1) scL.nd rfl (.inl rfl) (pe_call GD hr1 (by rfl) gD kD bD .nil pass0 (pa_cons (pv 0) pa_nil)))
      (pss_cons (ps_set (i := 2) scL.nd rfl (.inr rfl) (pe_call GE hr2 (by rfl) gE kE bE .nil pass0 (pa_cons (pv 1) (pa_cons pe_int pa_nil))))
      (pss_cons (ps_set (i := 3) scL.nd rfl (.inl rfl) (pe_call GX hr2 (by rfl) gX kX bX .nil pass0 (pa_cons (pv 1) (pa_cons pe_int pa_nil))))
      (pss_cons (ps_set (i := 4) scL.nd rfl (.inl rfl) (pe_callB (call_repr rfl (units66 hr)) (by rfl) mre (by decide +kernel) (pa_cons (pv 2) pa_nil)))
      (pss_cons (ps_set (i := 5) scL.nd rfl (.inl rfl) (pe_call GC hr (by rfl) gC kC bC .nil pass0 (pa_cons (pv 2) (pa_cons (pv 3) pa_nil))))
      (pss_cons (ps_set (i := 6) scL.nd rfl (.inl rfl) (pe_call GQ hr2 (by rfl) gQ kQ bQ .nil pass0 (pa_cons (pv 2) (pa_cons (pv 3) pa_nil))))
      (pss_cons (ps_if (PW.pt (pw_or (pt_not (pt_val (pe_callB call_isi (by rfl) mis (by decide +kernel) (pa_cons (pv 5) (pa_cons (pe_bltn (v := .ty "list") (by rfl) mli (by decide +kernel) rfl) pa_nil)))))
          (pw_or (pt_cmpR (op_neD (units64 hr)) (pv 5) (pv 6) (nomark _))
            (pw_or1 (pt_cmpR op_ne (pe_callB (call_repr rfl (units66 hr)) (by rfl) mre (by decide +kernel) (pa_cons (pv 2) pa_nil)) (pv 4) (nomark _)))))) (pss_one (ps_ret pe_bl)) pss_nil)
      (pss_cons (ps_set (i := 7) scL.nd rfl (.inl rfl) pe_int)
      (pss_cons (ps_for PassesOwn.never rfl (pi_list (pv 5)) (pg_tup rfl (pgs_cons (pg_name (i := 8) scL.nd rfl (.inl rfl)) (pgs_cons (pg_name (i := 9) scL.nd rfl (.inl rfl)) (pgs_cons (pg_name (i := 10) scL.nd rfl (.inl rfl)) pgs_nil))))
        (pss_cons (ps_if (PW.pt (pw_or (pt_cmpR op_lt (pv 10) (pv 7) (nomark _)) (pw_or (pt_cmpR op_ne (pe_slice sl_str (pv 3) (po_some (pv 10)) (po_some (pe_op op_add (pv 10) (pe_callB call_len_str (by rfl) ml PySem.boot_len (pa_cons (pv 9) pa_nil))))) (pv 9) (nomark _))
            (pw_or1 (pt_cmpR op_eq (pv 9) pe_str (nomark _)))))) (pss_one (ps_ret pe_bl)) pss_nil)
        (pss_cons (ps_if (pt_cmpR op_gt (pe_callB call_len_seq (by rfl) ml PySem.boot_len (pa_cons (pe_lc (own := [("c", 15)]) (g := gName 15) (tt := tTest (tOp (fun x y H Q => ∃ (c : Nat) (z : Str), x = V.str ⟨#[c]⟩ ∧ y = V.str z ∧ Q (V.bl (!decide (c ∈ z.cps.toList))) H) (tVar 15) (tOp (rIxT K) (tVar 2) (tC (.int 1))))) rfl scL.nd (pi_str (pe_slice sl_str (pv 3) (po_some (pv 7)) (po_some (pv 10)))) (blkOk_by (N := ["script", "draws", "lexicon", "text", "kept", "told", "due", "at", "kind", "word", "start", "kinds", "pattern", "index", "size", "c", "sign"]) (sc := defScope sLaw) (by decide +kernel)) (fun _ _ _ _ _ => pg_name (i := 15) scL.nd rfl (Or.inl rfl)) (fun _ _ _ _ _ => pts_one (pt_cmpR op_notIn_sign (pv 15) (pe_ix ix_tup (pv 2) pe_int (fun _ _ => rfl)) rfl)) (fun _ _ _ _ _ => pv 15)) pa_nil)) pe_int (nomark _)) (pss_one (ps_ret pe_bl)) pss_nil)
        (pss_one (ps_set (i := 7) scL.nd rfl (.inl rfl) (pe_op op_add (pv 10) (pe_callB call_len_str (by rfl) ml PySem.boot_len (pa_cons (pv 9) pa_nil))))))))
      (pss_cons (ps_if (pt_cmpR op_gt (pe_callB call_len_seq (by rfl) ml PySem.boot_len (pa_cons (pe_lc (own := [("c", 15)]) (g := gName 15) (tt := tTest (tOp (fun x y H Q => ∃ (c : Nat) (z : Str), x = V.str ⟨#[c]⟩ ∧ y = V.str z ∧ Q (V.bl (!decide (c ∈ z.cps.toList))) H) (tVar 15) (tOp (rIxT K) (tVar 2) (tC (.int 1))))) rfl scL.nd (pi_str (pe_slice sl_str (pv 3) (po_some (pv 7)) po_none)) (blkOk_by (N := ["script", "draws", "lexicon", "text", "kept", "told", "due", "at", "kind", "word", "start", "kinds", "pattern", "index", "size", "c", "sign"]) (sc := defScope sLaw) (by decide +kernel)) (fun _ _ _ _ _ => pg_name (i := 15) scL.nd rfl (Or.inl rfl)) (fun _ _ _ _ _ => pts_one (pt_cmpR op_notIn_sign (pv 15) (pe_ix ix_tup (pv 2) pe_int (fun _ _ => rfl)) rfl)) (fun _ _ _ _ _ => pv 15)) pa_nil)) pe_int (nomark _)) (pss_one (ps_ret pe_bl)) pss_nil)
      (pss_cons (ps_set (i := 11) scL.nd rfl (.inl rfl) (pe_call GK hr1 (by rfl) gK kK bK .nil pass0 (pa_cons (pv 5) pa_nil)))
      (pss_cons (ps_if (PW.pt (pw_or (pt_not (pt_val (pe_callB call_isi (by rfl) mis (by decide +kernel) (pa_cons (pv 11) (pa_cons (pe_bltn (v := .ty "list") (by rfl) mli (by decide +kernel) rfl) pa_nil)))))
          (pw_or1 (pt_cmpR (op_neD (units64 hr)) (pv 11) (pe_lc (own := [("sign", 16)]) (g := gName 16) rfl scL.nd (pi_list (pv 6)) (blkOk_by (N := ["script", "draws", "lexicon", "text", "kept", "told", "due", "at", "kind", "word", "start", "kinds", "pattern", "index", "size", "c", "sign"]) (sc := defScope sLaw) (by decide +kernel)) (fun _ _ _ _ _ => pg_name (i := 16) scL.nd rfl (Or.inl rfl)) (fun _ _ _ _ _ => pts_nil) (fun _ _ _ _ _ => pe_ix (r := rIxT K) ix_tup (pv 16) pe_int (fun _ _ => rfl))) (nomark _))))) (pss_one (ps_ret pe_bl)) pss_nil)
      (pss_cons (ps_for PassesOwn.never rfl (pi_list (pe_ix ix_tup (pv 2) pe_int (fun _ _ => rfl))) (pg_name (i := 12) scL.nd rfl (.inl rfl))
        (pss_one (ps_for PassesOwn.never rfl (pi_range1 rfl mr (pa_cons (pe_callB (call_min2 rfl) (by rfl) mmi (by decide +kernel) (pa_cons pe_int (pa_cons (pe_callB call_len_str (by rfl) ml PySem.boot_len (pa_cons (pv 3) pa_nil)) pa_nil))) pa_nil)) (pg_name (i := 13) scL.nd rfl (.inl rfl))
          (pss_cons (ps_set (i := 14) scL.nd rfl (.inl rfl) (pe_call GM hr2 (by rfl) gM kM bM .nil pass0 (pa_cons (pv 12) (pa_cons (pv 3) (pa_cons (pv 13) pa_nil)))))
          (pss_one (ps_if (PW.pt (pw_or (pt_not (pt_val (pe_call GI hr1 (by rfl) gI kI bI .nil pass0 (pa_cons (pv 14) pa_nil))))
              (pw_or1 (pt_cmpR op_ne (pv 14) (pe_call GN hr1 (by rfl) gN kN bN .nil pass0 (pa_cons (pv 12) (pa_cons (pv 3) (pa_cons (pv 13) pa_nil)))) (nomark _))))) (pss_one (ps_ret pe_bl)) pss_nil))))))
      (pss_cons (ps_expr (pe_bm PySem.F.plainAttrs_list PySem.F.slot_list_append PySem.F.type_list_append mt_append (pv 5) (pa_cons pe_int pa_nil)))
      (pss_one (ps_ret (pe_cmpR (op_eqD (units64 hr)) (pe_call GC hr (by rfl) gC kC bC .nil pass0 (pa_cons (pv 2) (pa_cons (pv 3) pa_nil))) (pv 6) (nomark _))))))))))))))))), ?_⟩
    refine ⟨_, rfl, a, ns, rfl, hS, hlen, fun od no => ?_⟩
    have ho : upd H od (.lst ((drawsOf ns).map V.int)) od = some (.lst ((drawsOf ns).map V.int)) := upd_same
    generalize upd H od (.lst ((drawsOf ns).map V.int)) = H1 at ho
    generalize drawsOf ns = ds at ho
    refine ⟨_, rfl, od, ds, _, rfl, ho, fun t H2 ps o s2 nt lx lok => ?_⟩
    refine ⟨_, rfl, od, ds, _, rfl, s2 _ _ ho, fun z H3 s3 zok => ?_⟩
    have lx3 := lx.same s3
    have few := lex_few lok
    have z400 : z.length ≤ 1000 := Nat.le_trans zok.1 (by decide)
    have zbig : z.length ≤ 1000000 := Nat.le_trans zok.1 (by decide)
    have sok := sgs_ok lok zok
    have cov := cut_cov ps o z
    refine ⟨_, rfl, t, lexD ps o, rfl, lx3.dp, lex_show lok, lex_shaped lok, lex_shown lok, ?_⟩
    refine ⟨_, rfl, _, rfl, t, ps, o, z, rfl, lx3, few, z400, fun p1 H4 s4 n1 g1 => ?_⟩
    have lx4 := lx3.same s4
    refine ⟨_, rfl, _, rfl, t, ps, o, z, rfl, lx4, few, z400, fun p2 H5 s5 n2 g2 => ?_⟩
    have lx5 := lx4.same s5
    have p12 : p1 ≠ p2 := by
      obtain ⟨_, q1, _⟩ := id g1
      exact ne_of_none q1 n2
    have lout : ∀ l, H5 t = some (.tup [.ref l, .str o]) → l ≠ p1 := fun l e => by
      obtain ⟨l', _, e1, e2, _⟩ := id lx3
      have e3 := (s4.trans s5) _ _ e1
      rw [e] at e3
      cases e3
      exact ne_of_none e2 n1
    have g1 := g1.same s5
    generalize hC : cutOf ps o z = C at g1 g2 sok cov
    obtain ⟨ws1, w1, r1⟩ := id g1
    obtain ⟨ws2, w2, r2⟩ := id g2
    have lw1 := r1.len
    have lw2 := r2.len
    obtain ⟨lp, us, e1, e2, rr⟩ := id lx5
    have shC := sgs_shaped sok
    refine ⟨_, rfl, _, _, _, _, _, rfl, .ty "list", .base (.lst w1), kit_ty (r := true) (by decide +kernel), _, rfl, iteF ?_⟩
    refine ⟨_, rfl, _, rfl, sgsD C, sgsD C, g1.dp, g2.dp, shC, shC, _, rfl, ?_⟩
    rw [eqv_self shC]
    refine iteF ?_
    refine ⟨_, rfl, t, lexD ps o, rfl, lx5.dp, lex_show lok, lex_shaped lok, lex_shown lok, ?_⟩
    refine ⟨_, rfl, rfl, _, rfl, ?_⟩
    rw [decide_eq_true (rfl : V.str (lexD ps o).shown = _)]
    refine iteF ?_
    -- the signs cover the text
    refine ⟨_, rfl, p1, rfl, ⟨_, SqL.of w1⟩, for_list (a := p1) (xs := ws1) (fun n σ H' => ∃ v8 v9 v10, σ = [some (.ref a), some (.ref od), some (.ref t), some (.str z), some (.str (lexD ps o).shown), some (.ref p1), some (.ref p2), some (.int (endOf (C.take n) : Nat)), v8, v9, v10, none, none, none, none, none, none] ∧ Same H5 H')
      ⟨none, none, none, rfl, Same.refl _⟩ (fun n σ H' _ ⟨_, _, _, _, s'⟩ => SqL.of (s' _ _ w1)) ?_ ?_⟩
    · rintro n x σ H' hx ⟨v8, v9, v10, rfl, s'⟩
      obtain ⟨y, hy, b, rfl, hb⟩ := r1.get hx
      obtain ⟨c1, c2, c3, c4⟩ := cov.each n y hy
      have lt : y.t.length = sizeAt ps z y.n := by rw [c4]; exact sgAt_len c3
      have sz := sizeAt_le (ps := ps) c3
      have et : sub z y.n y.t.length = y.t := by
        rw [lt]
        have := congrArg Sg.t c4
        exact this.symm
      have en : endOf (C.take (n + 1)) = y.n + y.t.length := by
        rw [List.take_add_one, hy]
        exact endOf_snoc _ _
      rw [en]
      generalize endOf (C.take n) = e at c1 c2
      refine ⟨b, _, rfl, SqT.of (s' _ _ hb), rfl, _, _, rfl, _, _, rfl, _, _, rfl, rfl, ?_⟩
      refine ⟨_, rfl, _, rfl, _, _, rfl, rfl, _, rfl, ?_⟩
      rw [decide_eq_false (show ¬ ((y.n : Nat) : Int) < ((e : Nat) : Int) by omega)]
      refine iteF ⟨_, rfl, _, rfl, _, rfl, _, rfl, _, rfl, y.t, rfl, million0 (by omega), _, _, rfl, rfl, _, rfl, z, rfl, million0 zbig, ?_⟩
      have ec : cutS z (some ((y.n : Nat) : Int)) (some (((y.n : Nat) : Int) + (y.t.length : Int))) = y.t := by
        rw [show ((y.n : Nat) : Int) + (y.t.length : Int) = ((y.n + y.t.length : Nat) : Int) by omega, cutS_sub, et]
      rw [ec]
      refine ⟨_, rfl, rfl, _, rfl, ?_⟩
      rw [decide_eq_true (rfl : V.str y.t = _)]
      refine iteF ⟨_, rfl, rfl, _, rfl, ?_⟩
      rw [decide_eq_false (show ¬ V.str y.t = V.str "" from fun zz => by
        have := congrArg Str.length (V.str.inj zz)
        rw [show ("" : Str).length = 0 from rfl] at this
        omega)]
      refine iteF ?_
      refine ⟨_, rfl, _, rfl, _, rfl, _, rfl, _, rfl, z, rfl, million0 zbig, ?_⟩
      have ec2 : cutS z (some ((e : Nat) : Int)) (some ((y.n : Nat) : Int)) = sub z e (y.n - e) := by
        rw [show y.n = e + (y.n - e) by omega, cutS_sub, Nat.add_sub_cancel_left]
      rw [ec2]
      have hg := gap_in (o := o) (z := z) (e := e) (n := y.n - e) fun j h1 h2 => c2 j h1 (by omega)
      have ht' := s' _ _ e1
      refine ⟨_, rfl, fun D hD => lc_it walk_str (fun n Hq => Same H' Hq ∧ Hq D = some (.lst [])) ⟨same_upd hD, upd_same⟩ (fun _ _ _ _ => True.intro) ?_ ?_⟩
      · rintro n x Ha Hq hn ⟨sq, hd⟩ ⟨rfl, cc, hc, rfl⟩
        have hcc : cc ∈ cds o := hg cc (by
          have : (cds (sub z e (y.n - e)))[n]? = some cc := by rw [Array.getElem?_toList]; exact hc
          exact List.mem_of_getElem? this)
        refine ⟨rfl, _, rfl, _, rfl, t, _, _, _, rfl, rfl, SqT.of (sq _ _ ht'), at_of (j := 1) rfl rfl, cc, o, rfl, rfl, _, rfl, ?_⟩
        have hcc : cc ∈ o.cps.toList := hcc
        rw [decide_eq_true hcc]
        exact iteF ⟨sq, hd⟩
      · rintro H2 ⟨s6, hd⟩
        refine ⟨D, _, rfl, .inl (SqL.of hd), _, _, rfl, rfl, _, rfl, ?_⟩
        refine iteF ?_
        refine ⟨_, rfl, _, rfl, y.t, rfl, million0 (by omega), _, _, rfl, rfl, some (.str y.k), some (.str y.t), some (.int ((y.n : Nat) : Int)), ?_, s'.trans s6⟩
        dsimp only
        rw [show ((y.n + y.t.length : Nat) : Int) = ((y.n : Nat) : Int) + (y.t.length : Int) by omega]
        rfl
    rintro σ H6 ⟨v8, v9, v10, rfl, s6⟩
    rw [lw1, List.take_length]
    have gap := cov.gap
    generalize endOf C = e at gap
    refine ⟨_, rfl, _, rfl, _, rfl, z, rfl, million0 zbig, ?_⟩
    rw [cutS_from]
    have hg := gap_in (o := o) (z := z) (e := e) (n := z.length - e) fun j h1 h2 => gap.2 j h1 (by have := gap.1; omega)
    have ht6 := s6 _ _ e1
    refine ⟨_, rfl, fun D hD => lc_it walk_str (fun n Hq => Same H6 Hq ∧ Hq D = some (.lst [])) ⟨same_upd hD, upd_same⟩ (fun _ _ _ _ => True.intro) ?_ ?_⟩
    · rintro n x Ha Hq hn ⟨sq, hd⟩ ⟨rfl, cc, hc, rfl⟩
      have hcc : cc ∈ cds o := hg cc (by
        have : (cds (sub z e (z.length - e)))[n]? = some cc := by rw [Array.getElem?_toList]; exact hc
        exact List.mem_of_getElem? this)
      refine ⟨rfl, _, rfl, _, rfl, t, _, _, _, rfl, rfl, SqT.of (sq _ _ ht6), at_of (j := 1) rfl rfl, cc, o, rfl, rfl, _, rfl, ?_⟩
      have hcc : cc ∈ o.cps.toList := hcc
      rw [decide_eq_true hcc]
      exact iteF ⟨sq, hd⟩
    rintro H7 ⟨s7, hd⟩
    refine ⟨D, _, rfl, .inl (SqL.of hd), _, _, rfl, rfl, _, rfl, iteF ?_⟩
    have s57 := s6.trans s7
    have c400 : C.length ≤ 1000 := Nat.le_trans sok.len (by decide)
    refine ⟨_, rfl, p1, C, rfl, g1.same s57, c400, fun p3 H8 s8 n3 h3 => ?_⟩
    refine ⟨_, rfl, _, _, _, _, _, rfl, .ty "list", .base (.lst h3), kit_ty (r := true) (by decide +kernel), _, rfl, iteF ?_⟩
    have s58 := s57.trans s8
    refine ⟨_, rfl, _, rfl, p2, rfl, ⟨_, SqL.of (s58 _ _ w2)⟩, fun D2 hD2 => lc_list (a := p2) (xs := ws2) (fun n H' => Same H8 H' ∧ H' D2 = some (.lst (((C.take n).map Sg.k).map V.str))) ⟨same_upd hD2, upd_same⟩ (fun n H' _ ⟨s', _⟩ => SqL.of (s' _ _ (s58 _ _ w2))) ?_ ?_⟩
    · rintro n x H' hx ⟨s', hd⟩
      obtain ⟨y, hy, b, rfl, hb⟩ := r2.get hx
      have hn : n < C.length := (List.getElem?_eq_some_iff.mp hy).1
      refine ⟨rfl, _, rfl, b, _, _, _, rfl, rfl, SqT.of (s' _ _ (s58 _ _ hb)), at_of (j := 0) rfl rfl, _, hd, ?_, same_put s' hD2, ?_⟩
      · rw [List.length_map, List.length_map, List.length_take]
        exact million1 (by omega)
      · rw [upd_same, List.take_add_one, hy, List.map_append, List.map_append]
        rfl
    rintro H9 ⟨s9, hd9⟩
    rw [lw2, List.take_length] at hd9
    have shK := ks_shaped (ks := C.map Sg.k) fun k hk => by
      obtain ⟨s, hs, rfl⟩ := List.mem_map.mp hk
      exact ko_ok _ (sok.k s hs)
    refine ⟨ksD (C.map Sg.k), ksD (C.map Sg.k), .lst (SqL.of (s9 _ _ h3)) (dp_strs _), .lst (SqL.of hd9) (dp_strs _), shK, shK, _, rfl, ?_⟩
    rw [eqv_self shK]
    refine iteF ?_
    have s59 := s58.trans s9
    -- each match
    refine ⟨_, rfl, t, _, _, _, rfl, rfl, SqT.of (s59 _ _ e1), at_of (j := 0) rfl rfl, lp, rfl, ⟨_, SqL.of (s59 _ _ e2)⟩, for_list (a := lp) (xs := us) (fun n σ H' => ∃ v8 v9 v10 v12 v13 v14, σ = [some (.ref a), some (.ref od), some (.ref t), some (.str z), some (.str (lexD ps o).shown), some (.ref p1), some (.ref p2), some (.int (e : Nat)), v8, v9, v10, some (.ref p3), v12, v13, v14, none, none] ∧ H' = H9)
      ⟨v8, v9, v10, none, none, none, rfl, rfl⟩ (fun n σ H' _ ⟨_, _, _, _, _, _, _, h⟩ => by rw [h]; exact SqL.of (s59 _ _ e2)) ?_ ?_⟩
    · rintro n x σ H' hx ⟨v8, v9, v10, v12, v13, v14, rfl, rfl⟩
      obtain ⟨p, hp, b, rfl, hb⟩ := rr.get hx
      have hb := s59 _ _ hb
      have pc := few.2 p (List.mem_of_getElem? hp)
      refine ⟨_, rfl, z, rfl, million0 zbig, _, _, rfl, ?_⟩
      rw [emin12]
      refine ⟨((min z.length 12 : Nat) : Int), rfl, by omega, by omega, for_range (lo := 0) (n := ((min z.length 12 : Nat) : Int).toNat) (fun j σ H'' => ∃ v8 v9 v10 v13 v14, σ = [some (.ref a), some (.ref od), some (.ref t), some (.str z), some (.str (lexD ps o).shown), some (.ref p1), some (.ref p2), some (.int (e : Nat)), v8, v9, v10, some (.ref p3), some (.ref b), v13, v14, none, none] ∧ H'' = H')
        ⟨v8, v9, v10, v13, v14, rfl, rfl⟩ ?_ ?_⟩
      · rintro j σ H'' hj ⟨v8, v9, v10, v13, v14, rfl, rfl⟩
        have ev : ([.ref b, .str z, .int (0 + (j : Int))] : List V) = [.ref b, .str z, .int ((j : Nat) : Int)] := by rw [show (0 : Int) + (j : Int) = ((j : Nat) : Int) by omega]
        have hj2 : j ≤ z.length := by omega
        refine ⟨_, rfl, _, rfl, _, rfl, b, p, z, j, ev, hb, Nat.le_trans pc (by decide), zbig, hj2, ?_⟩
        refine ⟨_, rfl, _, rfl, true, rfl, iteF ?_⟩
        refine ⟨_, rfl, _, rfl, _, rfl, _, rfl, b, p, z, j, ev, hb, Nat.le_trans pc (by decide), zbig, hj2, rfl, _, rfl, ?_⟩
        rw [decide_eq_true (rfl : V.int ((matN p z j : Nat) : Int) = _)]
        exact iteF ⟨_, _, _, _, _, rfl, rfl⟩
      · rintro σ H'' ⟨v8, v9, v10, v13, v14, rfl, rfl⟩
        exact ⟨_, _, _, _, _, _, rfl, rfl⟩
    rintro σ H' ⟨v8, v9, v10, v12, v13, v14, rfl, rfl⟩
    have w9 := s59 _ _ w1
    refine ⟨_, rfl, .inl ⟨rfl, _, SqL.of w9⟩, p1, _, _, rfl, rfl, w9, ?_, ?_⟩
    · rw [lw1]
      exact million1 (by omega)
    have lxF : LexA (upd H' p1 (.lst (ws1 ++ [V.int 1]))) t ps o := (lx5.same s59).at_lst w9 fun l hl => lout l (by
      have := s59 _ _ e1
      rw [hl] at this
      rw [e1, this])
    have gF : SgsA (upd H' p1 (.lst (ws1 ++ [V.int 1]))) p2 C := by
      obtain ⟨x1, x2, x3⟩ := g2.same s59
      refine ⟨x1, ?_, x3.mono (SgA.tupS (.at_lst w9))⟩
      rw [upd_ne (Ne.symm p12)]
      exact x2
    refine ⟨_, rfl, _, rfl, t, ps, o, z, rfl, lxF, few, z400, fun p9 HZ sz nz gz => ?_⟩
    rw [hC] at gz
    refine ⟨_, rfl, sgsD C, sgsD C, gz.dp, (gF.same sz).dp, shC, shC, ?_⟩
    rw [eqv_self shC]
    exact q _
end
end Ld

set_option Elab.async false
set_option linter.all false
set_option maxRecDepth 100000
set_option maxHeartbeats 4000000

namespace Ld
open PySem PySem.Spec PyProof.Rows L2 Lg 

theorem all_mk {l : PySem.W.OpenLaw} {w : World} {K : PySem.W.Frag} {h : Heap} {mg : Str → Option Value} {fa   fma fwl frl fcu fsa fks fdr fli fmx fle ftx flm flc flw : Addr} (X : K.In h) (G : h.Ns mainGlobals mg) (hfa : mg "law" = some (.ref fa))
    {odma anma odwl anwl odrl anrl odcu ancu odsa ansa odks anks oddr andr odli anli odmx anmx odle anle odtx antx odlm anlm odlc anlc odlw anlw : Option Addr}
    {slma slwl slrl slcu slsa slks sldr slli slmx slle sltx sllm sllc sllw : Array (Option Value)}
    {ocma kVma dcma pmma ctma cdma ocwl kVwl dcwl pmwl ctwl cdwl ocrl kVrl dcrl pmrl ctrl cdrl occu kVcu dccu pmcu ctcu cdcu ocsa kVsa dcsa pmsa ctsa cdsa ocks kVks dcks pmks ctks cdks ocdr kVdr dcdr pmdr ctdr cddr ocli kVli dcli pmli ctli cdli ocmx kVmx dcmx pmmx ctmx cdmx ocle kVle dcle pmle ctle cdle octx kVtx dctx pmtx cttx cdtx oclm kVlm dclm pmlm ctlm cdlm oclc kVlc dclc pmlc ctlc cdlc oclw kVlw dclw pmlw ctlw cdlw : Value}
    (ama : PySem.W.nsIn K mainGlobals "match_at" = some (some (.ref fma)))
    (lma : K.lookup fma = some ⟨ocma, odma, .func (PySem.W.fnOf "match_at" "match_at" (defArgs s_match_at) (defBody s_match_at) (defScope s_match_at) .none kVma dcma pmma anma cdma ctma), slma⟩)
    (cma : PySem.W.codeIn K cdma "match_at" = true)
    (kma : PySem.W.keepIn K (.ref fma) = true)
    (awl : PySem.W.nsIn K mainGlobals "_word_length" = some (some (.ref fwl)))
    (lwl : K.lookup fwl = some ⟨ocwl, odwl, .func (PySem.W.fnOf "_word_length" "_word_length" (defArgs s__word_length) (defBody s__word_length) (defScope s__word_length) .none kVwl dcwl pmwl anwl cdwl ctwl), slwl⟩)
    (cwl : PySem.W.codeIn K cdwl "_word_length" = true)
    (kwl : PySem.W.keepIn K (.ref fwl) = true)
    (arl : PySem.W.nsIn K mainGlobals "_run_length" = some (some (.ref frl)))
    (lrl : K.lookup frl = some ⟨ocrl, odrl, .func (PySem.W.fnOf "_run_length" "_run_length" (defArgs s__run_length) (defBody s__run_length) (defScope s__run_length) .none kVrl dcrl pmrl anrl cdrl ctrl), slrl⟩)
    (crl : PySem.W.codeIn K cdrl "_run_length" = true)
    (krl : PySem.W.keepIn K (.ref frl) = true)
    (acu : PySem.W.nsIn K mainGlobals "cut" = some (some (.ref fcu)))
    (lcu : K.lookup fcu = some ⟨occu, odcu, .func (PySem.W.fnOf "cut" "cut" (defArgs s_cut) (defBody s_cut) (defScope s_cut) .none kVcu dccu pmcu ancu cdcu ctcu), slcu⟩)
    (ccu : PySem.W.codeIn K cdcu "cut" = true)
    (kcu : PySem.W.keepIn K (.ref fcu) = true)
    (asa : PySem.W.nsIn K mainGlobals "_sign_at" = some (some (.ref fsa)))
    (lsa : K.lookup fsa = some ⟨ocsa, odsa, .func (PySem.W.fnOf "_sign_at" "_sign_at" (defArgs s__sign_at) (defBody s__sign_at) (defScope s__sign_at) .none kVsa dcsa pmsa ansa cdsa ctsa), slsa⟩)
    (csa : PySem.W.codeIn K cdsa "_sign_at" = true)
    (ksa : PySem.W.keepIn K (.ref fsa) = true)
    (aks : PySem.W.nsIn K mainGlobals "kinds_of_signs" = some (some (.ref fks)))
    (lks : K.lookup fks = some ⟨ocks, odks, .func (PySem.W.fnOf "kinds_of_signs" "kinds_of_signs" (defArgs s_kinds_of_signs) (defBody s_kinds_of_signs) (defScope s_kinds_of_signs) .none kVks dcks pmks anks cdks ctks), slks⟩)
    (cks : PySem.W.codeIn K cdks "kinds_of_signs" = true)
    (kks : PySem.W.keepIn K (.ref fks) = true)
    (adr : PySem.W.nsIn K mainGlobals "_law_draws" = some (some (.ref fdr)))
    (ldr : K.lookup fdr = some ⟨ocdr, oddr, .func (PySem.W.fnOf "_law_draws" "_law_draws" (defArgs sDraws) (defBody sDraws) (defScope sDraws) .none kVdr dcdr pmdr andr cddr ctdr), sldr⟩)
    (cdr : PySem.W.codeIn K cddr "_law_draws" = true)
    (kdr : PySem.W.keepIn K (.ref fdr) = true)
    (ali : PySem.W.nsIn K mainGlobals "_law_is_integer" = some (some (.ref fli)))
    (lli : K.lookup fli = some ⟨ocli, odli, .func (PySem.W.fnOf "_law_is_integer" "_law_is_integer" (defArgs sLInt) (defBody sLInt) (defScope sLInt) .none kVli dcli pmli anli cdli ctli), slli⟩)
    (cli : PySem.W.codeIn K cdli "_law_is_integer" = true)
    (kli : PySem.W.keepIn K (.ref fli) = true)
    (amx : PySem.W.nsIn K mainGlobals "_law_mix" = some (some (.ref fmx)))
    (lmx : K.lookup fmx = some ⟨ocmx, odmx, .func (PySem.W.fnOf "_law_mix" "_law_mix" (defArgs sMix) (defBody sMix) (defScope sMix) .none kVmx dcmx pmmx anmx cdmx ctmx), slmx⟩)
    (cmx : PySem.W.codeIn K cdmx "_law_mix" = true)
    (kmx : PySem.W.keepIn K (.ref fmx) = true)
    (ale : PySem.W.nsIn K mainGlobals "_law_lexicon" = some (some (.ref fle)))
    (lle : K.lookup fle = some ⟨ocle, odle, .func (PySem.W.fnOf "_law_lexicon" "_law_lexicon" (defArgs s__law_lexicon) (defBody s__law_lexicon) (defScope s__law_lexicon) .none kVle dcle pmle anle cdle ctle), slle⟩)
    (cle : PySem.W.codeIn K cdle "_law_lexicon" = true)
    (kle : PySem.W.keepIn K (.ref fle) = true)
    (atx : PySem.W.nsIn K mainGlobals "_law_text" = some (some (.ref ftx)))
    (ltx : K.lookup ftx = some ⟨octx, odtx, .func (PySem.W.fnOf "_law_text" "_law_text" (defArgs s__law_text) (defBody s__law_text) (defScope s__law_text) .none kVtx dctx pmtx antx cdtx cttx), sltx⟩)
    (ctx : PySem.W.codeIn K cdtx "_law_text" = true)
    (ktx : PySem.W.keepIn K (.ref ftx) = true)
    (alm : PySem.W.nsIn K mainGlobals "_law_match" = some (some (.ref flm)))
    (llm : K.lookup flm = some ⟨oclm, odlm, .func (PySem.W.fnOf "_law_match" "_law_match" (defArgs s__law_match) (defBody s__law_match) (defScope s__law_match) .none kVlm dclm pmlm anlm cdlm ctlm), sllm⟩)
    (clm : PySem.W.codeIn K cdlm "_law_match" = true)
    (klm : PySem.W.keepIn K (.ref flm) = true)
    (alc : PySem.W.nsIn K mainGlobals "_law_cut" = some (some (.ref flc)))
    (llc : K.lookup flc = some ⟨oclc, odlc, .func (PySem.W.fnOf "_law_cut" "_law_cut" (defArgs s__law_cut) (defBody s__law_cut) (defScope s__law_cut) .none kVlc dclc pmlc anlc cdlc ctlc), sllc⟩)
    (clc : PySem.W.codeIn K cdlc "_law_cut" = true)
    (klc : PySem.W.keepIn K (.ref flc) = true)
    (alw : PySem.W.nsIn K mainGlobals "law" = some (some (.ref flw)))
    (llw : K.lookup flw = some ⟨oclw, odlw, .func (PySem.W.fnOf "law" "law" (defArgs sLaw) (defBody sLaw) (defScope sLaw) .none kVlw dclw pmlw anlw cdlw ctlw), sllw⟩)
    (clw : PySem.W.codeIn K cdlw "law" = true)
    (klw : PySem.W.keepIn K (.ref flw) = true)
    (z_len : PySem.W.nsIn K mainGlobals "len" = some none)
    (z_range : PySem.W.nsIn K mainGlobals "range" = some none)
    (z_min : PySem.W.nsIn K mainGlobals "min" = some none)
    (z_max : PySem.W.nsIn K mainGlobals "max" = some none)
    (z_abs : PySem.W.nsIn K mainGlobals "abs" = some none)
    (z_int : PySem.W.nsIn K mainGlobals "int" = some none)
    (z_isinstance : PySem.W.nsIn K mainGlobals "isinstance" = some none)
    (z_bool : PySem.W.nsIn K mainGlobals "bool" = some none)
    (z_list : PySem.W.nsIn K mainGlobals "list" = some none)
    (z_repr : PySem.W.nsIn K mainGlobals "repr" = some none)
    : LawTop l w K 63 "script" mg fa h := by
  have e := hfa.symm.trans (PySem.W.mg_of X G alw)
  cases e
  have m := fun {x : Str} (z : PySem.W.nsIn K mainGlobals x = some none) => PySem.W.mg_none_of X G z
  have Fma := fun_mk (st := s_match_at) lma cma kma
  have Fwl := fun_mk (st := s__word_length) lwl cwl kwl
  have Frl := fun_mk (st := s__run_length) lrl crl krl
  have Fcu := fun_mk (st := s_cut) lcu ccu kcu
  have Fsa := fun_mk (st := s__sign_at) lsa csa ksa
  have Fks := fun_mk (st := s_kinds_of_signs) lks cks kks
  have Fdr := fun_mk (st := sDraws) ldr cdr kdr
  have Fli := fun_mk (st := sLInt) lli cli kli
  have Fmx := fun_mk (st := sMix) lmx cmx kmx
  have Fle := fun_mk (st := s__law_lexicon) lle cle kle
  have Ftx := fun_mk (st := s__law_text) ltx ctx ktx
  have Flm := fun_mk (st := s__law_match) llm clm klm
  have Flc := fun_mk (st := s__law_cut) llc clc klc
  have Flw := fun_mk (st := sLaw) llw clw klw
  have bma := Fma.binds (ps := ["pattern", "text", "index"]) fun _ _ _ _ _ _ us hl => match us, hl with | [_, _, _], _ => rfl
  have bwl := Fwl.binds (ps := ["word", "text", "index"]) fun _ _ _ _ _ _ us hl => match us, hl with | [_, _, _], _ => rfl
  have brl := Frl.binds (ps := ["characters", "text", "index"]) fun _ _ _ _ _ _ us hl => match us, hl with | [_, _, _], _ => rfl
  have bcu := Fcu.binds (ps := ["lexicon", "text"]) fun _ _ _ _ _ _ us hl => match us, hl with | [_, _], _ => rfl
  have bsa := Fsa.binds (ps := ["patterns", "text", "index"]) fun _ _ _ _ _ _ us hl => match us, hl with | [_, _, _], _ => rfl
  have bks := Fks.binds (ps := ["signs"]) fun _ _ _ _ _ _ us hl => match us, hl with | [_], _ => rfl
  have bdr := Fdr.binds (ps := ["script"]) fun _ _ _ _ _ _ us hl => match us, hl with | [_], _ => rfl
  have bli := Fli.binds (ps := ["actual"]) fun _ _ _ _ _ _ us hl => match us, hl with | [_], _ => rfl
  have bmx := Fmx.binds (ps := ["draws", "k", "many"]) fun _ _ _ _ _ _ us hl => match us, hl with | [_, _, _], _ => rfl
  have ble := Fle.binds (ps := ["draws", "k"]) fun _ _ _ _ _ _ us hl => match us, hl with | [_, _], _ => rfl
  have btx := Ftx.binds (ps := ["draws", "k"]) fun _ _ _ _ _ _ us hl => match us, hl with | [_, _], _ => rfl
  have blm := Flm.binds (ps := ["pattern", "text", "index"]) fun _ _ _ _ _ _ us hl => match us, hl with | [_, _, _], _ => rfl
  have blc := Flc.binds (ps := ["lexicon", "text"]) fun _ _ _ _ _ _ us hl => match us, hl with | [_, _], _ => rfl
  have blw := Flw.binds (ps := ["script"]) fun _ _ _ _ _ _ us hl => match us, hl with | [_], _ => rfl
  refine ⟨PySem.W.fnOf "law" "law" (defArgs sLaw) (defBody sLaw) (defScope sLaw) .none kVlw dclw pmlw anlw cdlw ctlw, [], spLaw K, fun p hp => ?_, fun s v => .of_eq rfl, fun H a ns hl hH hS => ⟨a, ns, rfl, hS, hl, fun _ => rfl⟩, fun base hK hN hTB => ?_⟩
  · cases hp
  · have g := fun {x : Str} {v : Value} (z : PySem.W.nsIn K mainGlobals x = some (some v)) => PySem.W.mg_of X G z
    have Gwl : FnOk l.prog w K mg base CX0 1 fwl _ ["word", "text", "index"] (spLen wordN) := ok_wl Fwl (m z_len)
    have Grl : FnOk l.prog w K mg base CX0 1 frl _ ["characters", "text", "index"] (spLen runN) := ok_rl Frl (m z_len)
    have Gma := ok_mat Fma Gwl kwl bwl (g awl) Grl krl brl (g arl)
    have Gsa := ok_sgAt Fsa Gma kma bma (g ama) (m z_max)
    have Gcu := ok_cut Fcu Gsa ksa bsa (g asa) (m z_len)
    have Gks : FnOk l.prog w K mg base CX0 1 fks _ ["signs"] spKs := ok_ks Fks
    have Gmx : FnOk l.prog w K mg base CX0 1 fmx _ ["draws", "k", "many"] (spMix K) := ok_mix Fmx (m z_len) (m z_int)
    have Gle := ok_le Fle Gmx kmx bmx (g amx) (m z_range)
    have Gtx := ok_tx Ftx Gmx kmx bmx (g amx) (m z_range)
    have Glm : FnOk l.prog w K mg base CX0 1 flm _ ["pattern", "text", "index"] spMat := ok_lm Flm (m z_len) (m z_int) (m z_range)
    have Glc := ok_lc Flc Glm klm blm (g alm) (m z_len) (m z_max) (m z_range)
    have Gli : FnOk l.prog w K mg base CX0 1 fli _ ["actual"] spLInt := ok_lint Fli (m z_isinstance) (m z_int) (m z_bool)
    exact ok_law Flw (ok_draws (k := 0) Fdr (m z_range) (m z_min) (m z_len) (m z_abs) (m z_int)) kdr bdr (g adr) Gle kle ble (g ale) Gtx ktx btx (g atx) Gcu kcu bcu (g acu) Glc klc blc (g alc) Gks kks bks (g aks) Gma kma bma (g ama) Glm klm blm (g alm) Gli kli bli (g ali) (m z_isinstance) (m z_list) (m z_repr) (m z_len) (m z_min) (m z_range)
end Ld

open PySem PySem.W PyProof.Rows
set_option maxRecDepth 100000 in
set_option maxHeartbeats 0 in
theorem PySem.Challenge.cw_leastmend_k04_cutting_texts_holds : PySem.Challenge.rw_leastmend_k04_cutting_texts.Holds := by
  w_on; o_law; k_head; (case hw => w_witness2)
  k_fill
  refine Lg.walk_top (l := PySem.Challenge.rw_leastmend_k04_cutting_texts) (n := 63) (x := "script") rfl (by decide) rfl (fun w h Y => PySem.W.kIn_of Y) ?F
  case F =>
    intro w mg fa h Y KX G hmg htab
    refine' Ld.all_mk KX G hmg  ?ama ?lma ?cma ?kma ?awl ?lwl ?cwl ?kwl ?arl ?lrl ?crl ?krl ?acu ?lcu ?ccu ?kcu ?asa ?lsa ?csa ?ksa ?aks ?lks ?cks ?kks ?adr ?ldr ?cdr ?kdr ?ali ?lli ?cli ?kli ?amx ?lmx ?cmx ?kmx ?ale ?lle ?cle ?kle ?atx ?ltx ?ctx ?ktx ?alm ?llm ?clm ?klm ?alc ?llc ?clc ?klc ?alw ?llw ?clw ?klw ?z_len ?z_range ?z_min ?z_max ?z_abs ?z_int ?z_isinstance ?z_bool ?z_list ?z_repr
    (case ama => k_is)
    (case lma => k_is)
    (case cma => k_is)
    (case kma => k_is)
    (case awl => k_is)
    (case lwl => k_is)
    (case cwl => k_is)
    (case kwl => k_is)
    (case arl => k_is)
    (case lrl => k_is)
    (case crl => k_is)
    (case krl => k_is)
    (case acu => k_is)
    (case lcu => k_is)
    (case ccu => k_is)
    (case kcu => k_is)
    (case asa => k_is)
    (case lsa => k_is)
    (case csa => k_is)
    (case ksa => k_is)
    (case aks => k_is)
    (case lks => k_is)
    (case cks => k_is)
    (case kks => k_is)
    (case adr => k_is)
    (case ldr => k_is)
    (case cdr => k_is)
    (case kdr => k_is)
    (case ali => k_is)
    (case lli => k_is)
    (case cli => k_is)
    (case kli => k_is)
    (case amx => k_is)
    (case lmx => k_is)
    (case cmx => k_is)
    (case kmx => k_is)
    (case ale => k_is)
    (case lle => k_is)
    (case cle => k_is)
    (case kle => k_is)
    (case atx => k_is)
    (case ltx => k_is)
    (case ctx => k_is)
    (case ktx => k_is)
    (case alm => k_is)
    (case llm => k_is)
    (case clm => k_is)
    (case klm => k_is)
    (case alc => k_is)
    (case llc => k_is)
    (case clc => k_is)
    (case klc => k_is)
    (case alw => k_is)
    (case llw => k_is)
    (case clw => k_is)
    (case klw => k_is)
    (case z_len => k_is)
    (case z_range => k_is)
    (case z_min => k_is)
    (case z_max => k_is)
    (case z_abs => k_is)
    (case z_int => k_is)
    (case z_isinstance => k_is)
    (case z_bool => k_is)
    (case z_list => k_is)
    (case z_repr => k_is)
