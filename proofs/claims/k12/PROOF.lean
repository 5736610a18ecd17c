import PyProof.Rows.All
import Wide.All
import OpenK.AllK
import Wide.FinOn
import HandS.ForMost
import HandS.AnyAll
import HandS.Walk
import HandS.IsInst
import HandS.EndTab
import HandS.Deep
import PyProof.ReprRoads
import HandS.DeepEq
import HandS.DictComp
import HandS.DictEq
import PyProof.P3Eq
import PyProof.DictFindH
import HandS.NoneIn
import HandS.GenOver
import HandS.GenList
import KE.LtData
import PyProof.Rows.StrReprFit
import HandS.TupLe
import PySem.Challenge.RW_leastmend_k12_prices_of_mends
set_option Elab.async false
set_option linter.all false
set_option maxRecDepth 100000
set_option maxHeartbeats 4000000
/-! all(test for x in e): any thing that is walked, any test that leaves the heap's objects as they stand; the test may read what the def holds. -/
namespace Gc
open PySem PySem.Spec PyProof.Rows L2 GxR
/-- the code object of the inner block, found in the table or made and entered there: one end for both -/
theorem code_either {M : Model} {A : Around} {E : Value → Shared → Prop} {s : Shared} {env : Env} {c P : Addr} {ps : Array Value} {gp : Pos} {qn : Str} {scope : Scope} {Q : Value → Shared → Prop}
    (hc : env.code = .ref c) (C : PySem.W.CodeHd s.heap c P) (tab : s.heap.get? P = some { cls := .none, data := .fields ps }) (ok : TriplesOk ps.toList)
    (go : ∀ (code : Value) (h3 : Heap) (tk : Nat) (more : Array Value), Heap.ExtBut P s.heap h3 → s.heap.objs.size ≤ h3.objs.size → h3.get? P = some { cls := .none, data := .fields (ps ++ more) } → TriplesOk (ps ++ more).toList → Q code { s with heap := h3, toks := tk }) :
    wpAny M A (genexprCode env gp qn scope) Q E s := by
  cases found : codeAmong gp ps.toList with
  | some cv =>
    have q := go cv s.heap s.toks #[] (Heap.ExtBut.refl _ _) (Nat.le_refl _) (by rw [Array.append_empty]; exact tab) (by rw [Array.append_empty]; exact ok)
    exact wpAny_genexprCode_hit hc (C.code tab ok) found q
  | none =>
    refine wpAny_genexprCodeX hc (C.code tab ok) (C.tab tab) found fun c' h3 tk ext big small made _ entered _ => ?_
    obtain ⟨_, _, _, _, _, _, _, _, _, _, _, _, _, _, _, _, _, _, _, ok3, _⟩ := made
    exact go (.ref c') h3 tk _ ext (Nat.le_of_lt (Nat.lt_of_le_of_lt big small)) entered.2 ok3
/-- what is walked: xv in the heap h1 gives n items, the i-th under Pf i; its iterator is the next new object; it reads nothing of the table at P -/
def SrcOk (prog : Program) (w : World) (h1 : Heap) (P : Addr) (xv : Value) (n : Nat) (Pf : Nat → Value → Prop) : Prop :=
  ∃ fp : List Addr, (∀ b ∈ fp, b ≤ h1.objs.size) ∧ P ∉ fp ∧
    ∀ (A : Around) (E : Value → Shared → Prop) (s : Shared) (Q : Value → Shared → Prop), s.heap = h1 →
      (∀ (o : Obj) (St : Nat → Heap → Prop), (∀ A' : Around, A'.handled = none → Walks prog w A' h1.objs.size fp [h1.objs.size] n Pf St) → St 0 (h1.push o) → Q (.ref h1.objs.size) { s with heap := h1.push o }) → wpAny (model prog w) A (pyIter xv) Q E s
/-- the environment in which the inner block runs -/
abbrev blkEnv (X : Cx) (scope : Scope) (C : Addr) (code : Value) : Env := genEnv scope (cloFrom X.env.cells scope.names []) C code builtinsNs X.env
/-- the test: of an item under Pf i it gives pb i, wherever all that stood in h1 (but the table at P) stands -/
def EltG (X : Cx) (scope : Scope) (x : Str) (elt : Expr) (P : Addr) (h1 : Heap) (Pf : Nat → Value → Prop) (pb : Nat → Bool) : Prop :=
  ∀ (C : Addr) (code : Value) (A' : Around) (E' : Value → Shared → Prop) (i : Nat) (v : Value) (s₂ : Shared) (m₂ : Str → Option Value), A'.handled = none → A'.depth ≤ X.A.depth + 1 → A'.units ≤ X.A.units + 8 → Pf i v →
    (∀ b o, b ≠ P → h1.get? b = some o → s₂.heap.get? b = some o) → s₂.heap.Ns C m₂ → m₂ x = some v →
    wpAny (model X.prog X.w) A' (eval elt (blkEnv X scope C code)) (fun y s₃ => y = .bool (pb i) ∧ Keeps s₂ s₃) E' s₂
/-- the block's own scope, over the def's scope sc -/
structure GenSc (sc scope : Scope) (x : Str) : Prop where
  kind : scope.kind = .function
  co : scope.isCoroutine = false
  cell : ∀ y ∈ scope.names, y.2 ≠ .cell
  dot : scope.names.lookup (".0" : Str) = some NameKind.local
  loc : scope.names.lookup x = some .local
  free : ∀ y ∈ scope.names, y.2 = .free → sc.names.lookup y.1 = some .cell
section
variable {X : Cx}
/-- all(test for x in e) -/
def tAllG (X : Cx) (scope : Scope) (x : Str) (elt : Expr) (P : Addr) (te : TE) : TE := fun σ H Q => te σ H fun v H1 => ∃ (n : Nat) (Pf : Nat → Value → Prop) (pb : Nat → Bool),
  (∀ (pins : List (Addr × Obj)) (s1 : Shared) (xv : Value), Inv X pins σ H1 s1 → RelV v xv → SrcOk X.prog X.w s1.heap P xv n Pf ∧ EltG X scope x elt P s1.heap Pf pb) ∧ TabG H1 P ∧ ∀ H2, Tabbed P H1 H2 → Q (.bl ((List.range n).all pb)) H2
theorem pe_allG {c P : Addr} {elt iter : Expr} {x : Str} {px p pos gpos : Pos} {scope : Scope} {te : TE} {k : Nat}
    (hr : Room k X.A) (hg : Gl X "all") (hm : X.mg "all" = none) (hb : bootBuiltins "all" = some (.builtin "all")) (TB : TabB X.base X.mg c P) (hcode : X.env.code = .ref c) (S : GenSc X.env.scope scope x) (hi : PE X iter te)
    (hs : ∀ v, genFold iter X.env v = pure v)
    (he : starEach [.GeneratorExp elt [⟨.Name x px, iter, [], 0⟩] scope gpos] X.env = (false, eval (.GeneratorExp elt [⟨.Name x px, iter, [], 0⟩] scope gpos) X.env) :: starEach [] X.env := by rfl) :
    PE X (.Call (.Name "all" p) [.GeneratorExp elt [⟨.Name x px, iter, [], 0⟩] scope gpos] [] pos) (tAllG X scope x elt P te) := by
  refine ⟨fun pins s σ H Q I h => ?_⟩
  have has : ∀ y ∈ scope.names, y.2 = .free → ∃ a, X.env.cells.lookup y.1 = some a := fun y hy e => I.ok.has _ (.inl (S.free y hy e))
  refine wpAny_Call_Name_kw (ld_blt I hg hm hb ?_)
  refine PyProof.Rows.callWith_builtin1 ?_ he (by rfl)
  rw [he]
  show wpAny _ _ (spliced (_ :: backTo pos (starEach [] X.env))) _ _ _
  refine Calls.spliced_cons ?_
  refine wpAny_GeneratorExp_walksQD hr.hd S.co (closure_ok has) S.cell S.dot S.loc S.kind (by have := hr.dp; omega) ?_ hs
  refine thn (hi.run pins s σ H _ I h) fun xv s1 hv => ?_
  obtain ⟨v, H1, J, rv, n, Pf, pb, sem, ⟨ps, hP, trip⟩, fin⟩ := hv
  obtain ⟨⟨fp, below, apart, begins⟩, test⟩ := sem pins s1 xv J rv
  refine begins _ _ s1 _ rfl fun o St W at0 => ⟨J.nolimit.push o, ?_⟩
  have tab1 : s1.heap.get? P = some { cls := .none, data := .fields ps } := J.hok P _ hP
  have tabLt : P < s1.heap.objs.size := Heap.lt_size tab1
  have tab2 := Heap.get?_push_of_some o tab1
  have big2 : (s1.heap.push o).objs.size = s1.heap.objs.size + 1 := Heap.size_push ..
  refine code_either hcode (TB.code.keeps fun b u e => Heap.get?_push_of_some _ (J.bk b u e)) tab2 trip fun code h3 tk more ext big tab3 trip3 => ?_
  -- what stood in s1 stands in h3, the table grown
  have stands : ∀ b u, b ≠ P → s1.heap.get? b = some u → h3.get? b = some u := fun b u ne e => ext b u ne (Heap.get?_push_of_some _ e)
  obtain ⟨statLt, statNe⟩ : cStatics < s1.heap.objs.size ∧ cStatics ≠ P := by
    obtain ⟨mc, ns, _⟩ := J.nolimit
    refine ⟨ns.lt, fun z => ?_⟩
    obtain ⟨o1, es, ep, ho, hd, _⟩ := ns
    rw [z, tab1] at ho
    cases ho
    cases hd
  obtain ⟨bm, ob, b1, b2, b3, b4, b5, b6, b7, b8⟩ := TB.bm
  have globs : h3.Ns X.env.globals X.mg := by
    rw [J.ok.glob]
    exact ((J.mod.glob.keeps J.bk).push o).extBut ext TB.gP
  refine wpAny_builtinsFor globs b1 b2 (stands _ _ b4 (J.bk _ _ b5)) b6 b7 b8 ?_
  have newLt : s1.heap.objs.size < h3.objs.size := by
    have big' : (s1.heap.push o).objs.size ≤ h3.objs.size := big
    omega
  refine ⟨s1.heap.objs.size, fp, [s1.heap.objs.size], n, Pf, St, (fun _ => true), (fun i y => y = .bool (pb i)), rfl, W, ?_, fun b hb => ?_, (J.nolimit.push o).extBut ext statNe, fun z => ?_, fun href up => ?_, ?_⟩
  · exact (W X.A hr.hd).frame _ _ _ at0 fun b hb u e => ext b u (fun z => apart (by rw [← z]; exact hb)) e
  · exact Nat.lt_of_le_of_lt (below b hb) newLt
  · exact Nat.ne_of_lt statLt (List.mem_singleton.mp z)
  · refine ⟨fun A' E' i v s₂ m₂ _ _ _ _ _ _ _ => ?_, fun A' E' i v s₂ m₂ h1 h2 h3' hv _ hn hx old => ?_⟩
    · rw [List.forIn_nil]
      exact wpAny_pure ⟨rfl, keeps_refl _⟩
    · refine test _ _ A' E' i v s₂ m₂ h1 h2 h3' hv (fun b u ne e => ?_) hn hx
      have lt := Heap.lt_size e
      refine old b (List.mem_range.mpr (Nat.lt_trans lt newLt)) (fun z => ?_) u (up _ _ (stands b u ne e))
      exact Nat.ne_of_lt lt (List.mem_singleton.mp z)
  · intro g h5 tk5 gs bare gBig gLast up5 WG atG
    rw [GxR.passing_true, List.length_range] at WG
    refine Calls.spliced_nil (call_all_walkS (WG.in4_1.self 0 _ _ _ atG ⟨g, _, _, _, n, _, _, pb, rfl, WG.in4_1, atG, fun j y sj Qj Ej item q => ?_, fun s' mv => ?_⟩))
    · obtain ⟨i, at_, rfl⟩ := item
      obtain ⟨_, ij⟩ := List.getElem?_eq_some_iff.mp at_
      rw [List.getElem_range] at ij
      rw [← ij]
      exact wpAny_truthy_bool q
    · -- behind the walk: the table has grown, all else stands
      have off : ∀ b u, s1.heap.get? b = some u → b ∉ h3.objs.size :: [s1.heap.objs.size] := fun b u e hb => by
        have lt := Heap.lt_size e
        rcases List.mem_cons.mp hb with z | z
        · exact Nat.lt_irrefl _ (Nat.lt_trans (by rw [← z]; exact lt) newLt)
        · exact Nat.ne_of_lt lt (List.mem_singleton.mp z)
      have K := inv_tab (more := more) (h' := s'.heap) (g' := s'.gens) (d' := s'.drawn) (t' := s'.toks) J hP (fun b u ne e => mv.heap b u (off b u e) (up5 b u (stands b u ne e)))
        (mv.heap P _ (off P _ tab1) (up5 P _ tab3)) (AllBare.movedS (J.bare.push bare) mv)
      rw [sh_eta s1 s' mv.os] at K
      exact ⟨.bl _, _, K, rfl, fin _ ⟨⟨ps ++ more, upd_same, trip3⟩, fun b ne => upd_ne ne⟩⟩
end
/-! ### captured names -/
theorem mem_of_lookup {α : Type} {n : Str} {c : α} : ∀ {l : List (Str × α)}, l.lookup n = some c → (n, c) ∈ l
  | (k, v) :: r, h => by
    rw [List.lookup_cons] at h
    by_cases e : n = k
    · have e' : (n == k) = true := by rw [e]; simp
      rw [e'] at h
      cases h
      rw [e]
      exact List.mem_cons_self
    · rw [beq_eq_false_iff_ne.mpr e] at h
      exact List.mem_cons_of_mem _ (mem_of_lookup h)
theorem cap_lookup {cells : List (Str × Addr)} {names : List (Str × NameKind)} {n : Str} {c : Addr} (hm : (n, NameKind.free) ∈ names) (hc : cells.lookup n = some c) : (cloFrom cells names []).lookup n = some c := by
  obtain ⟨d, hd⟩ := mem_lookup (cloFrom_has (acc := []) (cells := cells) hm)
  rcases cloFrom_mem (mem_of_lookup hd) with z | ⟨_, z⟩
  · cases z
  · rw [hd, z, hc]
    rfl
section
variable {X : Cx} {pins : List (Addr × Obj)} {σ : L2.St} {H : Hp} {s : Shared}
/-- the def's name y, captured, in slot i: what the block reads of it, wherever all that stood stands -/
theorem captured {scope : Scope} {y : Str} {i : Nat} {v : V} {P : Addr} {ps : Array Value} (I : Inv X pins σ H s) (hP : H P = some (.tbl ps)) (hc : X.env.scope.names.lookup y = some .cell) (hf : (y, NameKind.free) ∈ scope.names) (hN : X.N[i]? = some y) (hv : σ[i]? = some (some v)) :
    ∃ a u, (cloFrom X.env.cells scope.names []).lookup y = some a ∧ RelV v u ∧ ∀ h : Heap, (∀ b o, b ≠ P → s.heap.get? b = some o → h.get? b = some o) → h.IsCell a (some u) := by
  obtain ⟨m, _, hl⟩ := I.loc
  obtain ⟨u, ru, l⟩ := hl i y v hN hv (.inr (.inl hc))
  rcases l with ⟨k, _⟩ | ⟨_, a, ha, o, ho, hd⟩
  · have k' : X.env.scope.names.lookup y = some NameKind.local := k
    rw [hc] at k'
    cases k'
  · refine ⟨a, u, cap_lookup hf ha, ru, fun h up => ⟨o, up a o (fun z => ?_) ho, hd⟩⟩
    have t : s.heap.get? P = some { cls := .none, data := .fields ps } := I.hok P _ hP
    rw [z, t] at ho
    cases ho
    cases hd
/-- a text, sign by sign -/
theorem src_str {P : Addr} {ps : Array Value} {z : Str} {t : Tok} (I : Inv X pins σ H s) (hP : H P = some (.tbl ps)) : SrcOk X.prog X.w s.heap P (.str z t) z.cps.size (SignAt z) := by
  have tab : s.heap.get? P = some { cls := .none, data := .fields ps } := I.hok P _ hP
  refine ⟨[s.heap.objs.size], fun b hb => Nat.le_of_eq (List.mem_singleton.mp hb), fun hb => ?_, fun A E s2 Q e q => ?_⟩
  · exact Nat.ne_of_lt (Heap.lt_size tab) (List.mem_singleton.mp hb)
  · obtain ⟨h2, g2, d2, t2, o2⟩ := s2
    obtain rfl : h2 = s.heap := e
    exact wpAny_pyIter_str fun o St W at0 => q o St W at0
theorem walks_weaker {prog : Program} {w : World} {A : Around} {I : Addr} {fp wr : List Addr} {n : Nat} {Pf Pg : Nat → Value → Prop} {St : Nat → Heap → Prop} (W : Walks prog w A I fp wr n Pf St) (f : ∀ i v, Pf i v → Pg i v) : Walks prog w A I fp wr n Pg St :=
  ⟨W.sub, W.frame, fun i s Q E hi st q => W.item i s Q E hi st fun v h' tk y => q v h' tk (f i v y), W.done, W.self⟩
/-- a list -/
theorem src_lst {P l : Addr} {ps : Array Value} {xs : List V} (I : Inv X pins σ H s) (hP : H P = some (.tbl ps)) (hl : SqL X.K H l xs) : SrcOk X.prog X.w s.heap P (.ref l) xs.length (fun i v => ∃ x, xs[i]? = some x ∧ RelV x v) := by
  have tab : s.heap.get? P = some { cls := .none, data := .fields ps } := I.hok P _ hP
  obtain ⟨its, rv, pl, _⟩ := I.list hl
  have lst := pl.isList
  have len : its.toArray.size = xs.length := by rw [List.size_toArray, rv.length]
  have lt : l < s.heap.objs.size := by
    obtain ⟨_, e, _⟩ := _root_.id lst
    exact Heap.lt_size e
  refine ⟨[s.heap.objs.size, l], fun b hb => ?_, fun hb => ?_, fun A E s2 Q e q => ?_⟩
  rotate_left 2
  · obtain ⟨h2, g2, d2, t2, o2⟩ := s2
    obtain rfl : h2 = s.heap := e
    refine wpAny_pyIter_list lst (q _ (fun i h => h.IsListIter s.heap.objs.size l i ∧ h.IsList l its.toArray) (fun A' hA => ?_) ⟨⟨_, Heap.get?_push_size _ rfl, rfl, rfl⟩, lst.push _⟩)
    have W := Walks.list (prog := X.prog) (w := X.w) hA s.heap.objs.size l (Nat.ne_of_lt lt) its.toArray
    rw [len] at W
    refine walks_weaker W fun i v e => ?_
    have e' : its[i]? = some v := by simpa using e
    have hi : i < its.length := (List.getElem?_eq_some_iff.mp e').1
    have hi2 : i < xs.length := by rw [rv.length]; exact hi
    obtain ⟨u, hu, ru⟩ := rv.get (List.getElem?_eq_getElem hi2)
    rw [e'] at hu
    cases hu
    exact ⟨xs[i], List.getElem?_eq_getElem hi2, ru⟩
  · rcases List.mem_cons.mp hb with z | z
    · exact Nat.le_of_eq z
    · rw [List.mem_singleton.mp z]
      exact Nat.le_of_lt lt
  · rcases List.mem_cons.mp hb with z | z
    · exact Nat.ne_of_lt (Heap.lt_size tab) z
    · have z' := List.mem_singleton.mp z
      obtain ⟨o1, e1, _, _, d1⟩ := _root_.id lst
      rw [← z', tab] at e1
      cases e1
      cases d1
end
/-! ### «lo <= x <= hi», lo and hi captured texts -/
def between (lo hi : Str) (c : Nat) : Bool := !(decide ([c] < lo.cps.toList)) && !(decide (hi.cps.toList < [c]))
theorem elt_between {X : Cx} {pins : List (Addr × Obj)} {σ : L2.St} {H : Hp} {s : Shared} {scope : Scope} {x lo hi : Str} {z zl zh : Str} {P : Addr} {ps : Array Value} {i j : Nat} {p1 p2 p3 p4 : Pos} (I : Inv X pins σ H s) (hP : H P = some (.tbl ps))
    (hk : scope.kind = .function) (hl : scope.names.lookup x = some .local) (h1 : scope.names.lookup lo = some .free) (h2 : scope.names.lookup hi = some .free)
    (c1 : X.env.scope.names.lookup lo = some .cell) (c2 : X.env.scope.names.lookup hi = some .cell) (n1 : X.N[i]? = some lo) (n2 : X.N[j]? = some hi) (v1 : σ[i]? = some (some (.str zl))) (v2 : σ[j]? = some (some (.str zh)))
    (d0 : (x == ("__debug__" : Str)) = false := by decide) (d1 : (lo == ("__debug__" : Str)) = false := by decide) (d2 : (hi == ("__debug__" : Str)) = false := by decide) (e1 : (lo == ("__classdict__" : Str)) = false := by decide) (e2 : (hi == ("__classdict__" : Str)) = false := by decide) :
    EltG X scope x (.Compare (.Name lo p1) [.LtE, .LtE] [.Name x p2, .Name hi p3] p4) P s.heap (SignAt z) (fun k => between zl zh (z.cps.getD k 0)) := by
  obtain ⟨a, u, la, ru, ca⟩ := captured (scope := scope) I hP c1 (mem_of_lookup h1) n1 v1
  obtain ⟨b, v, lb, rv, cb⟩ := captured (scope := scope) I hP c2 (mem_of_lookup h2) n2 v2
  obtain ⟨ta, rfl⟩ := ru
  obtain ⟨tb, rfl⟩ := rv
  intro C code A' E' k item s₂ m₂ _ _ _ sign old ns hx
  obtain ⟨cc, tc, hcc, rfl⟩ := sign
  have gd : z.cps.getD k 0 = cc := by
    rw [Array.getD_eq_getD_getElem?, hcc]
    rfl
  refine Compare_chain ?_ (by with_unfolding_all rfl)
  refine wpAny_Name (wpAny_loadName_free hk (show scope.names.lookup lo = some .free from h1) la (ca _ old) ?_ e1) d1
  refine chain_link (wpAny_Name (wpAny_loadName_local hk (show scope.names.lookup x = some .local from hl) ns hx ?_) d0)
  refine PySem.P.le_str (wpAny_truthy_bool ?_)
  show (if (!decide (([cc] : List Nat) < zl.cps.toList)) = true then _ else _)
  by_cases q : ([cc] : List Nat) < zl.cps.toList
  · rw [decide_eq_true q]
    refine ite_ff ⟨?_, keeps_refl _⟩
    show _ = Value.bool (between zl zh (z.cps.getD k 0))
    rw [gd]
    unfold between
    rw [decide_eq_true q]
    rfl
  · rw [decide_eq_false q]
    refine ite_tt (chain_last ?_)
    refine wpAny_Name (wpAny_loadName_free hk (show scope.names.lookup hi = some .free from h2) lb (cb _ old) ?_ e2) d2
    refine PySem.P.le_str ⟨?_, keeps_refl _⟩
    show _ = Value.bool (between zl zh (z.cps.getD k 0))
    rw [gd]
    unfold between
    rw [decide_eq_false q]
    rfl
theorem range_all (z : Array Nat) (p : Nat → Bool) : (List.range z.size).all (fun k => p (z.getD k 0)) = z.toList.all p := by
  rw [Bool.eq_iff_iff, List.all_eq_true, List.all_eq_true]
  constructor
  · intro h b hb
    obtain ⟨j, hj, e⟩ := List.getElem_of_mem hb
    have hj' : j < z.size := by simpa using hj
    have q := h j (List.mem_range.mpr hj')
    rw [Array.getD_eq_getD_getElem?, Array.getElem?_eq_getElem hj'] at q
    rw [← e]
    simpa using q
  · intro h j hj
    have hj' := List.mem_range.mp hj
    rw [Array.getD_eq_getD_getElem?, Array.getElem?_eq_getElem hj']
    exact h _ (by simp)
end Gc

set_option Elab.async false
set_option linter.all false
set_option maxRecDepth 100000
set_option maxHeartbeats 4000000
namespace Ld
open PySem PySem.Spec PyProof.Rows L2
/-! ### the draws: mathematics -/
def dstep (p : Int × List Int) : Int × List Int := if p.1 > 0 then (p.1 / 65536, p.2 ++ [p.1 % 65536]) else p
def diter : Nat → Int × List Int → Int × List Int
  | 0, p => p
  | n + 1, p => dstep (diter n p)
def dabs (x : Int) : Int := if x < 0 then -x else x
def dmix1 (k r : Int) : Int := (r * 48271 + (k + 1) * 69621) % 2147483647
def dmix2 (k r : Int) : Int := (dmix1 k r * 16807 + 11 * k + 5) % 2147483629
def dcell (k x : Int) (ds : List Int) : List Int :=
  if (10 : Int) ^ (18 : Int).toNat ≤ dabs x then (diter 60 (dabs x, ds)).2
  else ds ++ [dmix2 k (dabs x) % 65536] ++ [dmix2 k (dabs x) / 65536 % 32768]
def drawsN (ns : List Int) : Nat → List Int
  | 0 => []
  | i + 1 => dcell (i : Nat) (ns.getD i 0) (drawsN ns i)
def drawsOf (ns : List Int) : List Int := drawsN ns ns.length
def DOk (ds : List Int) : Prop := ∀ x ∈ ds, 0 ≤ x ∧ x < 65536
theorem DOk.app {ds : List Int} {x : Int} (h : DOk ds) (h0 : 0 ≤ x) (h1 : x < 65536) : DOk (ds ++ [x]) := fun y hy => by
  rcases List.mem_append.mp hy with z | z
  · exact h y z
  · rw [List.mem_singleton.mp z]
    exact ⟨h0, h1⟩
theorem dstep_ok {p : Int × List Int} (h : DOk p.2) : DOk (dstep p).2 := by
  unfold dstep
  split
  · exact h.app (Int.emod_nonneg _ (by decide)) (Int.emod_lt_of_pos _ (by decide))
  · exact h
theorem dstep_len (p : Int × List Int) : (dstep p).2.length ≤ p.2.length + 1 := by
  unfold dstep
  split
  · show (p.2 ++ [p.1 % 65536]).length ≤ _
    rw [List.length_append, List.length_singleton]
    exact Nat.le_refl _
  · omega
theorem diter_ok {p : Int × List Int} (h : DOk p.2) : ∀ n, DOk (diter n p).2
  | 0 => h
  | n + 1 => dstep_ok (diter_ok h n)
theorem diter_len (p : Int × List Int) : ∀ n, (diter n p).2.length ≤ p.2.length + n
  | 0 => Nat.le_refl _
  | n + 1 => by
    have := dstep_len (diter n p)
    have := diter_len p n
    show (dstep (diter n p)).2.length ≤ _
    omega
theorem dcell_ok {k x : Int} {ds : List Int} (h : DOk ds) : DOk (dcell k x ds) := by
  unfold dcell
  split
  · exact diter_ok (p := (dabs x, ds)) h 60
  · have h1 : DOk (ds ++ [dmix2 k (dabs x) % 65536]) := h.app (Int.emod_nonneg _ (by decide)) (Int.emod_lt_of_pos _ (by decide))
    refine h1.app (Int.emod_nonneg _ (by decide)) ?_
    have : dmix2 k (dabs x) / 65536 % 32768 < 32768 := Int.emod_lt_of_pos _ (by decide)
    omega
theorem dcell_len (k x : Int) (ds : List Int) : (dcell k x ds).length ≤ ds.length + 60 := by
  unfold dcell
  split
  · exact diter_len (dabs x, ds) 60
  · simp only [List.length_append, List.length_singleton]
    omega
theorem drawsN_ok (ns : List Int) : ∀ n, DOk (drawsN ns n)
  | 0 => fun _ h => nomatch h
  | n + 1 => dcell_ok (drawsN_ok ns n)
theorem drawsN_len (ns : List Int) : ∀ n, (drawsN ns n).length ≤ 60 * n
  | 0 => Nat.le_refl _
  | n + 1 => by
    have := dcell_len (n : Nat) (ns.getD n 0) (drawsN ns n)
    have := drawsN_len ns n
    show (dcell _ _ _).length ≤ _
    omega
theorem drawsOf_len {ns : List Int} (h : ns.length ≤ 63) : (drawsOf ns).length ≤ 3780 := by
  have := drawsN_len ns ns.length
  unfold drawsOf
  omega
/-- a draw below many -/
def atD (ds : List Int) (k many : Int) : Int := if k < (ds.length : Int) then ds.getD k.toNat 0 % many else 0
theorem atD_lo (ds : List Int) (k : Int) {many : Int} (h : 0 < many) : 0 ≤ atD ds k many := by
  unfold atD
  split
  · exact Int.emod_nonneg _ (by omega)
  · exact Int.le_refl _
theorem atD_hi (ds : List Int) (k : Int) {many : Int} (h : 0 < many) : atD ds k many < many := by
  unfold atD
  split
  · exact Int.emod_lt_of_pos _ h
  · exact h
theorem getI {ns : List Int} {i : Nat} (h : i < ns.length) : (ns.map V.int)[i]? = some (V.int (ns.getD i 0)) := by
  rw [List.getElem?_map, List.getElem?_eq_getElem h, List.getD_eq_getElem?_getD, List.getElem?_eq_getElem h]
  rfl
theorem same_upd {H : Hp} {p : Addr} {o : HO} (h : H p = none) : Same H (upd H p o) := fun b x e => by
  rw [upd_ne (ne_of_none e h)]
  exact e
theorem small4000 {n : Nat} (h : n ≤ 4000) : n < sizeLine := Nat.lt_of_le_of_lt h (by decide)
end Ld

set_option Elab.async false
set_option linter.all false
set_option maxRecDepth 100000
set_option maxHeartbeats 4000000
/-! Reading a line, two ways: over codes alone. -/
namespace Ld
open PySem PySem.Spec PyProof.Rows L2 TL
/-! ### words (as in the law of words) -/
def wordB (z lo hi : Str) : Bool := decide (1 ≤ (z.length : Int)) && (decide ((z.length : Int) ≤ 12) && z.cps.toList.all (Gc.between lo hi))
def kindB (z : Str) : Bool := wordB z "A" "Z" && !decide (z = "OTHER")
def nameB (z : Str) : Bool := wordB z "a" "z"
def symB (z : Str) : Bool := kindB z || nameB z
theorem lt_one (a b : Nat) : (([a] : List Nat) < [b]) ↔ a < b := by
  simp [List.cons_lt_cons_iff]
theorem name_codes {z : Str} (h : nameB z = true) : ∀ c ∈ tl z, 97 ≤ c ∧ c ≤ 122 := by
  intro c hc
  unfold nameB wordB at h
  rw [Bool.and_eq_true, Bool.and_eq_true] at h
  have q := List.all_eq_true.mp h.2.2 c hc
  unfold Gc.between at q
  rw [show ("a" : Str).cps.toList = [97] from by decide +kernel, show ("z" : Str).cps.toList = [122] from by decide +kernel] at q
  simp only [Bool.and_eq_true, Bool.not_eq_true', decide_eq_false_iff_not, lt_one] at q
  omega
theorem name_no {z : Str} (h : nameB z = true) {c : Nat} (hc : c < 97) : c ∉ tl z := fun m => by
  have := name_codes h c m
  omega
abbrev Rule := Str × List Str
/-- the text's parts at a space, at a newline -/
theorem colon_tl : tl (":" : Str) = [58] := by decide +kernel
theorem space_tl : tl (" " : Str) = [32] := by decide +kernel
theorem nl_tl : tl ("\n" : Str) = [10] := by decide +kernel
theorem kind_space (x : Str) : ¬ Builtin.Str.strKind x < Builtin.Str.strKind (" " : Str) := kind_ok (by decide +kernel)
theorem kind_nl (x : Str) : ¬ Builtin.Str.strKind x < Builtin.Str.strKind ("\n" : Str) := kind_ok (by decide +kernel)
def spS (x : Str) : List Str := Txt.split x " "
theorem spS_tl (x : Str) : (spS x).map tl = spl [32] 0 [] (tl x) := by
  have h := split_spl x " " (by rw [space_tl]; simp) (kind_space x)
  rw [space_tl] at h
  exact h
theorem cut_first (s : Nat) : ∀ L : List Nat, s ∉ L ∨ ∃ p r, L = p ++ s :: r ∧ s ∉ p
  | [] => .inl (by simp)
  | c :: L => by
    by_cases e : c = s
    · exact .inr ⟨[], L, by rw [e]; rfl, by simp⟩
    · rcases cut_first s L with h | ⟨p, r, h1, h2⟩
      · exact .inl fun m => (List.mem_cons.mp m).elim (fun z => e z.symm) h
      · exact .inr ⟨c :: p, r, by rw [h1]; rfl, fun m => (List.mem_cons.mp m).elim (fun z => e z.symm) h2⟩
theorem spl_no {s : Nat} {p : List Nat} (h : s ∉ p) : spl [s] 0 [] p = [p] := by
  have := spl_last1 (S := []) (acc := []) h
  rw [this]
  rfl
theorem spl_at1 {s : Nat} {p r : List Nat} (h : s ∉ p) : spl [s] 0 [] (p ++ s :: r) = p :: spl [s] 0 [] r := by
  have := spl_part1 (S := []) (acc := []) (rest := r) h
  exact this
/-- split never gives the empty list; its head -/
theorem spl_ne (s : Nat) (L : List Nat) : ∃ p r, spl [s] 0 [] L = p :: r ∧ s ∉ p ∧ ∀ c ∈ p, c ∈ L := by
  rcases cut_first s L with h | ⟨p, r, rfl, h⟩
  · exact ⟨L, [], spl_no h, h, fun _ z => z⟩
  · exact ⟨p, _, spl_at1 h, h, fun c z => List.mem_append_left _ z⟩
/-! ### the program's way -/
def ruleOf (l : Str) : Option Rule :=
  if nameB (Txt.partition l ":").1 = true ∧ (Txt.partition l ":").2.1 ≠ Str.empty ∧ (spS (Txt.partition l ":").2.2).head? = some Str.empty ∧ (spS (Txt.partition l ":").2.2).tail.length ≤ 6 ∧ (spS (Txt.partition l ":").2.2).tail.all symB = true
  then some ((Txt.partition l ":").1, (spS (Txt.partition l ":").2.2).tail) else none
/-- the law's way; b0: the first word without its last sign -/
def endsColon (w : Str) : Prop := ∃ b : List Nat, tl w = b ++ [58]
def lawLine (l : Str) (w0 : Str) (ws : List Str) : Option Rule → Prop := fun o =>
  (o = none ∧ ¬ ∃ n : Str, tl w0 = tl n ++ [58] ∧ nameB n = true ∧ ws.length ≤ 6 ∧ ws.all symB = true) ∨
  ∃ n : Str, o = some (n, ws) ∧ tl w0 = tl n ++ [58] ∧ nameB n = true ∧ ws.length ≤ 6 ∧ ws.all symB = true
theorem str_of (l : List Nat) : ∃ z : Str, tl z = l := ⟨⟨l.toArray⟩, rfl⟩
theorem tl_inj {x y : Str} (h : tl x = tl y) : x = y := ext_tl h
theorem line_eq (l : Str) : ∃ w0 ws, spS l = w0 :: ws ∧ lawLine l w0 ws (ruleOf l) := by
  have hs := spS_tl l
  rcases cut_first 58 (tl l) with h | ⟨A, R, hL, hA⟩
  · -- no colon
    obtain ⟨p, r, e, _, sub⟩ := spl_ne 32 (tl l)
    rw [e] at hs
    cases hsl : spS l with
    | nil => rw [hsl] at hs; cases hs
    | cons w0 ws =>
      rw [hsl, List.map_cons] at hs
      injection hs with h1 h2
      refine ⟨w0, ws, rfl, .inl ⟨?_, ?_⟩⟩
      · unfold ruleOf
        rw [partition_none colon_tl h]
        rw [if_neg (fun z => z.2.1 rfl)]
      · rintro ⟨n, hn, _⟩
        refine h (sub 58 ?_)
        rw [← h1, hn]
        exact List.mem_append_right _ (List.mem_singleton.mpr rfl)
  · obtain ⟨a, ha⟩ := str_of A
    obtain ⟨r, hr⟩ := str_of R
    have el : l = a ++ (":" : Str) ++ r := tl_inj (by rw [tl_append, tl_append, ha, hr, colon_tl, hL]; simp)
    have ep : Txt.partition l ":" = (a, (":" : Str), r) := by
      rw [el]
      exact partition_app colon_tl (by rw [ha]; exact hA)
    have rr := spS_tl r
    rw [hr] at rr
    by_cases h32 : 32 ∈ A
    · -- a space ahead of the colon: no name
      obtain ⟨p, q, hp, np⟩ : ∃ p q, A = p ++ 32 :: q ∧ 32 ∉ p := by
        rcases cut_first 32 A with z | z
        · exact absurd h32 z
        · exact z
      rw [hL, hp, List.append_assoc, List.cons_append, spl_at1 np] at hs
      cases hsl : spS l with
      | nil => rw [hsl] at hs; cases hs
      | cons w0 ws =>
        rw [hsl, List.map_cons] at hs
        injection hs with h1 h2
        refine ⟨w0, ws, rfl, .inl ⟨?_, ?_⟩⟩
        · unfold ruleOf
          rw [ep, if_neg]
          intro z
          exact name_no z.1 (by decide : 32 < 97) (by rw [ha]; exact h32)
        · rintro ⟨n, hn, _⟩
          refine hA ?_
          rw [hp]
          refine List.mem_append_left _ ?_
          rw [← h1, hn]
          exact List.mem_append_right _ (List.mem_singleton.mpr rfl)
    · have h32' : 32 ∉ A ++ [58] := fun z => (List.mem_append.mp z).elim h32 fun z => by simp at z
      cases R with
      | nil =>
        rw [hL, spl_no h32'] at hs
        rw [spl_no (by simp)] at rr
        cases hsl : spS l with
        | nil => rw [hsl] at hs; cases hs
        | cons w0 ws =>
          rw [hsl, List.map_cons] at hs
          injection hs with h1 h2
          have ews : ws = [] := List.map_eq_nil_iff.mp h2
          subst ews
          cases hsr : spS r with
          | nil => rw [hsr] at rr; cases rr
          | cons v0 vs =>
            rw [hsr, List.map_cons] at rr
            injection rr with g1 g2
            have evs : vs = [] := List.map_eq_nil_iff.mp g2
            subst evs
            have ev0 : v0 = Str.empty := tl_inj g1
            refine ⟨w0, [], rfl, ?_⟩
            by_cases hn : nameB a = true
            · refine .inr ⟨a, ?_, by rw [h1, ha], hn, by decide, rfl⟩
              unfold ruleOf
              rw [ep]
              simp only [hsr]
              rw [if_pos ⟨hn, by decide +kernel, by rw [ev0]; rfl, Nat.zero_le _, rfl⟩]
              rfl
            · refine .inl ⟨?_, ?_⟩
              · unfold ruleOf
                rw [ep, if_neg fun z => hn z.1]
              · rintro ⟨n, hn2, hn3, _⟩
                have : n = a := tl_inj (by
                  rw [h1] at hn2
                  rw [ha]
                  exact (List.append_cancel_right hn2).symm)
                rw [this] at hn3
                exact hn hn3
      | cons c R' =>
        by_cases hc : c = 32
        · subst hc
          have e2 : tl l = (A ++ [58]) ++ 32 :: R' := by rw [hL]; simp
          rw [e2, spl_at1 h32'] at hs
          have e3 : spl [32] 0 [] (32 :: R') = [] :: spl [32] 0 [] R' := spl_at1 (p := []) (by simp)
          rw [e3] at rr
          cases hsl : spS l with
          | nil => rw [hsl] at hs; cases hs
          | cons w0 ws =>
            rw [hsl, List.map_cons] at hs
            injection hs with h1 h2
            cases hsr : spS r with
            | nil => rw [hsr] at rr; cases rr
            | cons v0 vs =>
              rw [hsr, List.map_cons] at rr
              injection rr with g1 g2
              have evs : vs = ws := map_tl_inj (g2.trans h2.symm)
              subst evs
              have ev0 : v0 = Str.empty := tl_inj g1
              refine ⟨w0, vs, rfl, ?_⟩
              by_cases hn : nameB a = true ∧ vs.length ≤ 6 ∧ vs.all symB = true
              · refine .inr ⟨a, ?_, by rw [h1, ha], hn⟩
                unfold ruleOf
                rw [ep]
                simp only [hsr]
                rw [if_pos ⟨hn.1, by decide +kernel, by rw [ev0]; rfl, hn.2.1, hn.2.2⟩]
                rfl
              · refine .inl ⟨?_, ?_⟩
                · unfold ruleOf
                  rw [ep]
                  simp only [hsr]
                  rw [if_neg fun z => hn ⟨z.1, z.2.2.2.1, z.2.2.2.2⟩]
                · rintro ⟨n, hn2, hn3, hn4⟩
                  have : n = a := tl_inj (by
                    rw [h1] at hn2
                    rw [ha]
                    exact (List.append_cancel_right hn2).symm)
                  rw [this] at hn3
                  exact hn ⟨hn3, hn4⟩
        · -- a sign right behind the colon
          have e2 : tl l = (A ++ [58]) ++ c :: R' := by rw [hL]; simp
          have first : ∀ (pp : List Nat), 32 ∉ pp → ∃ q t, spl [32] 0 [] (pp ++ c :: R') = (pp ++ c :: q) :: t := by
            intro pp hpp
            rcases cut_first 32 (c :: R') with z | ⟨p, q, hp, np⟩
            · refine ⟨R', [], spl_no fun m => ?_⟩
              rcases List.mem_append.mp m with m | m
              · exact hpp m
              · exact z m
            · cases p with
              | nil =>
                injection hp with x1 x2
                exact absurd x1 hc
              | cons d p' =>
                injection hp with x1 x2
                subst x1
                refine ⟨p', spl [32] 0 [] q, ?_⟩
                rw [x2]
                have n2 : 32 ∉ pp ++ c :: p' := fun m => (List.mem_append.mp m).elim hpp np
                have := spl_at1 (r := q) n2
                rw [List.append_assoc] at this
                exact this
          obtain ⟨q1, t1, f1⟩ := first (A ++ [58]) h32'
          obtain ⟨q2, t2, f2⟩ := first [] (by simp)
          rw [e2, f1] at hs
          rw [List.nil_append] at f2
          rw [f2, List.nil_append] at rr
          cases hsl : spS l with
          | nil => rw [hsl] at hs; cases hs
          | cons w0 ws =>
            rw [hsl, List.map_cons] at hs
            injection hs with h1 h2
            cases hsr : spS r with
            | nil => rw [hsr] at rr; cases rr
            | cons v0 vs =>
              rw [hsr, List.map_cons] at rr
              injection rr with g1 g2
              refine ⟨w0, ws, rfl, .inl ⟨?_, ?_⟩⟩
              · unfold ruleOf
                rw [ep]
                simp only [hsr]
                rw [if_neg]
                intro z
                have z3 := z.2.2.1
                rw [List.head?_cons] at z3
                have z4 : v0 = Str.empty := Option.some.inj z3
                rw [z4] at g1
                cases g1
              · rintro ⟨n, hn2, hn3, _⟩
                rw [h1] at hn2
                -- the name would hold the colon
                refine name_no hn3 (by decide : 58 < 97) ?_
                have e4 : tl n = (A ++ [58] ++ c :: q1).dropLast := by
                  rw [hn2, List.dropLast_concat]
                rw [e4, List.dropLast_append_of_ne_nil (by simp)]
                exact List.mem_append_left _ (List.mem_append_right _ (List.mem_singleton.mpr rfl))
end Ld

set_option Elab.async false
set_option linter.all false
set_option maxRecDepth 100000
set_option maxHeartbeats 4000000
/-! Grammars as texts, read and written: over codes alone; and as data that is compared. -/
namespace Ld
open PySem PySem.Spec PyProof.Rows L2 TL
/-! ### a word's signs, two ways -/
def bigL : Str := "ABCDEFGHIJKLMNOPQRSTUVWXYZ"
def lowL : Str := "abcdefghijklmnopqrstuvwxyz"
theorem bigL_codes : bigL.cps.toList = [65, 66, 67, 68, 69, 70, 71, 72, 73, 74, 75, 76, 77, 78, 79, 80, 81, 82, 83, 84, 85, 86, 87, 88, 89, 90] := by decide +kernel
theorem lowL_codes : lowL.cps.toList = [97, 98, 99, 100, 101, 102, 103, 104, 105, 106, 107, 108, 109, 110, 111, 112, 113, 114, 115, 116, 117, 118, 119, 120, 121, 122] := by decide +kernel
theorem between_big (c : Nat) : Gc.between "A" "Z" c = decide (c ∈ bigL.cps.toList) := by
  unfold Gc.between
  rw [show ("A" : Str).cps.toList = [65] from by decide +kernel, show ("Z" : Str).cps.toList = [90] from by decide +kernel, bigL_codes]
  rw [Bool.eq_iff_iff]
  simp only [Bool.and_eq_true, Bool.not_eq_true', decide_eq_false_iff_not, decide_eq_true_eq, lt_one, List.mem_cons, List.not_mem_nil, or_false]
  omega
theorem between_low (c : Nat) : Gc.between "a" "z" c = decide (c ∈ lowL.cps.toList) := by
  unfold Gc.between
  rw [show ("a" : Str).cps.toList = [97] from by decide +kernel, show ("z" : Str).cps.toList = [122] from by decide +kernel, lowL_codes]
  rw [Bool.eq_iff_iff]
  simp only [Bool.and_eq_true, Bool.not_eq_true', decide_eq_false_iff_not, decide_eq_true_eq, lt_one, List.mem_cons, List.not_mem_nil, or_false]
  omega
def outs (z l : List Nat) : List Nat := z.filter fun c => !decide (c ∈ l)
theorem outs_more {z l : List Nat} {i c : Nat} (h : z[i]? = some c) : outs (z.take (i + 1)) l = outs (z.take i) l ++ (if c ∈ l then [] else [c]) := by
  unfold outs
  rw [List.take_add_one, h, List.filter_append]
  congr 1
  by_cases e : c ∈ l
  · simp [e]
  · simp [e]
theorem outs_len (z l : List Nat) : (outs z l).length ≤ z.length := List.length_filter_le _ _
theorem all_outs (l m : List Nat) (p : Nat → Bool) (hp : ∀ c, p c = decide (c ∈ m)) : l.all p = decide (outs l m = []) := by
  rw [Bool.eq_iff_iff, List.all_eq_true, decide_eq_true_eq]
  unfold outs
  rw [List.filter_eq_nil_iff]
  constructor
  · intro h c hc
    have h2 := h c hc
    rw [hp] at h2
    rw [h2]
    simp
  · intro h c hc
    have h2 := h c hc
    rw [hp]
    simpa using h2
def sizeB (z : Str) : Bool := decide (1 ≤ (z.length : Int)) && decide ((z.length : Int) ≤ 12)
theorem word_big (z : Str) : wordB z "A" "Z" = (sizeB z && decide (outs (tl z) (tl bigL) = [])) := by
  unfold wordB sizeB
  rw [all_outs _ bigL.cps.toList _ between_big, Bool.and_assoc]
theorem word_low (z : Str) : wordB z "a" "z" = (sizeB z && decide (outs (tl z) (tl lowL) = [])) := by
  unfold wordB sizeB
  rw [all_outs _ lowL.cps.toList _ between_low, Bool.and_assoc]
/-! ### lines and texts -/
def lineT (r : Rule) : List Nat := tl r.1 ++ 58 :: r.2.flatMap (fun s => 32 :: tl s)
def writeT (G : List Rule) : List Nat := G.flatMap (fun r => lineT r ++ [10])
def lineS (r : Rule) : Str := r.1 ++ (":" : Str) ++ Txt.join "" (r.2.map (fun s => (" " : Str) ++ s)) ++ ("\n" : Str)
def writeS (G : List Rule) : Str := Txt.join "" (G.map lineS)
theorem nil_tl : tl ("" : Str) = [] := by decide +kernel
theorem joinL_nil : ∀ l : List (List Nat), joinL [] l = l.flatten
  | [] => rfl
  | [p] => by simp [joinL]
  | p :: q :: r => by
    show p ++ ([] ++ joinL [] (q :: r)) = _
    rw [joinL_nil (q :: r)]
    simp
theorem join0_tl (parts : List Str) : tl (Txt.join "" parts) = parts.flatMap tl := by
  rw [join_eq, tl_join, nil_tl, joinL_nil, List.flatMap_def]
theorem lineS_tl (r : Rule) : tl (lineS r) = lineT r ++ [10] := by
  unfold lineS lineT
  rw [tl_append, tl_append, tl_append, join0_tl, colon_tl, nl_tl, List.flatMap_map]
  have : (fun s : Str => tl ((" " : Str) ++ s)) = fun s => 32 :: tl s := by
    funext s
    rw [tl_append, space_tl]
    rfl
  rw [this]
  simp
theorem writeS_tl (G : List Rule) : tl (writeS G) = writeT G := by
  unfold writeS writeT
  rw [join0_tl, List.flatMap_map]
  congr 1
  funext r
  exact lineS_tl r
theorem joinL_space : ∀ (l : List (List Nat)) (p : List Nat), joinL [32] (p :: l) = p ++ l.flatMap (fun s => 32 :: s)
  | [], p => by simp [joinL]
  | q :: r, p => by
    show p ++ ([32] ++ joinL [32] (q :: r)) = _
    rw [joinL_space r q]
    simp
theorem law_line (r : Rule) : Txt.join " " ((r.1 ++ (":" : Str)) :: r.2) ++ ("\n" : Str) = lineS r := by
  refine tl_inj ?_
  rw [tl_append, join_eq, tl_join, List.map_cons, space_tl, joinL_space, lineS_tl, tl_append, colon_tl, nl_tl, List.flatMap_map]
  unfold lineT
  simp
theorem writeS_nil : writeS [] = ("" : Str) := by decide +kernel
theorem writeS_snoc (G : List Rule) (r : Rule) : writeS (G ++ [r]) = writeS G ++ Txt.join " " ((r.1 ++ (":" : Str)) :: r.2) ++ ("\n" : Str) := by
  refine tl_inj ?_
  have e := law_line r
  have e2 := congrArg tl e
  rw [tl_append, lineS_tl] at e2
  rw [writeS_tl, tl_append, tl_append, writeS_tl, List.append_assoc, e2]
  unfold writeT
  simp
/-! ### the reading -/
def GoodR (r : Rule) : Prop := nameB r.1 = true ∧ r.2.length ≤ 6 ∧ r.2.all symB = true
theorem kind_codes {z : Str} (h : kindB z = true) : ∀ c ∈ tl z, 65 ≤ c ∧ c ≤ 90 := by
  intro c hc
  unfold kindB wordB at h
  rw [Bool.and_eq_true, Bool.and_eq_true, Bool.and_eq_true] at h
  have q := List.all_eq_true.mp h.1.2.2 c hc
  unfold Gc.between at q
  rw [show ("A" : Str).cps.toList = [65] from by decide +kernel, show ("Z" : Str).cps.toList = [90] from by decide +kernel] at q
  simp only [Bool.and_eq_true, Bool.not_eq_true', decide_eq_false_iff_not, lt_one] at q
  omega
theorem sym_codes {z : Str} (h : symB z = true) : ∀ c ∈ tl z, 65 ≤ c ∧ c ≤ 122 := by
  intro c hc
  unfold symB at h
  rw [Bool.or_eq_true] at h
  rcases h with h | h
  · have := kind_codes h c hc
    omega
  · have := name_codes h c hc
    omega
theorem spl_syms : ∀ (ss : List (List Nat)), (∀ p ∈ ss, 32 ∉ p) → spl [32] 0 [] (ss.flatMap fun s => 32 :: s) = [] :: ss
  | [], _ => spl_no (p := []) (fun m => nomatch m)
  | q :: r, h => by
    have e : ((q :: r).flatMap fun s => 32 :: s) = [] ++ 32 :: joinL [32] (q :: r) := by
      rw [joinL_space]
      simp
    rw [e, spl_at1 (by simp), spl_join (by simp) h]
theorem rule_back {l : Str} {r : Rule} (h : tl l = lineT r) (g : GoodR r) : ruleOf l = some r := by
  obtain ⟨rest, hr⟩ := str_of (r.2.flatMap fun s => 32 :: tl s)
  have el : l = r.1 ++ (":" : Str) ++ rest := tl_inj (by rw [h, tl_append, tl_append, hr, colon_tl]; unfold lineT; simp)
  have ep : Txt.partition l ":" = (r.1, (":" : Str), rest) := by
    rw [el]
    exact partition_app colon_tl (name_no g.1 (by decide))
  have es : spS rest = Str.empty :: r.2 := by
    refine map_tl_inj ?_
    rw [spS_tl, hr, List.map_cons]
    have := spl_syms (r.2.map tl) fun p hp => by
      obtain ⟨s, hs, rfl⟩ := List.mem_map.mp hp
      intro z
      have := sym_codes (List.all_eq_true.mp g.2.2 s hs) 32 z
      omega
    rw [List.flatMap_map] at this
    rw [this]
    rfl
  unfold ruleOf
  rw [ep]
  simp only [es]
  rw [if_pos ⟨g.1, by decide +kernel, rfl, g.2.1, g.2.2⟩]
  rfl
theorem rule_good {l : Str} {r : Rule} (h : ruleOf l = some r) : GoodR r := by
  unfold ruleOf at h
  split at h
  · rename_i c
    obtain rfl := Option.some.inj h
    exact ⟨c.1, c.2.2.2.1, c.2.2.2.2⟩
  · cases h
inductive Rd
  | line (k : Nat)
  | taken (k : Nat)
  | large (k : Nat)
  | good (G : List Rule)
def rdGo : Nat → List Rule → List Str → Rd
  | _, G, [] => .good G
  | k, G, l :: ls => match ruleOf l with
    | none => .line k
    | some r => if r ∈ G then .taken k else if 24 ≤ k then .large k else rdGo (k + 1) (G ++ [r]) ls
def rdEnd (n : Nat) (u : Str) : Rd → Rd
  | .good G => if u ≠ "" ∨ n = 0 then .line n else .good G
  | x => x
/-- what reading a text gives: of its parts at newlines, the last one apart -/
def rd (ls : List Str) : Rd := rdEnd ls.dropLast.length (ls.getLast?.getD "") (rdGo 0 [] ls.dropLast)
def linesOf (x : Str) : List Str := Txt.split x "\n"
theorem linesOf_tl (x : Str) : (linesOf x).map tl = spl [10] 0 [] (tl x) := by
  have h := split_spl x "\n" (by rw [nl_tl]; simp) (kind_nl x)
  rw [nl_tl] at h
  exact h
theorem linesOf_ne (x : Str) : linesOf x ≠ [] := fun e => by
  have h := linesOf_tl x
  obtain ⟨p, r, q, _⟩ := spl_ne 10 (tl x)
  rw [e, q] at h
  cases h
theorem spl_lines : ∀ G : List Rule, (∀ r ∈ G, 10 ∉ lineT r) → spl [10] 0 [] (writeT G) = G.map lineT ++ [[]]
  | [], _ => spl_no (p := []) (fun m => nomatch m)
  | r :: G, h => by
    have e : writeT (r :: G) = lineT r ++ 10 :: writeT G := by
      unfold writeT
      simp
    rw [e, spl_at1 (h r List.mem_cons_self), spl_lines G fun q hq => h q (List.mem_cons_of_mem _ hq)]
    rfl
theorem line_no10 {r : Rule} (g : GoodR r) : 10 ∉ lineT r := by
  intro m
  unfold lineT at m
  rcases List.mem_append.mp m with m | m
  · exact name_no g.1 (by decide) m
  · rcases List.mem_cons.mp m with m | m
    · cases m
    · obtain ⟨s, hs, q⟩ := List.mem_flatMap.mp m
      rcases List.mem_cons.mp q with q | q
      · cases q
      · have := sym_codes (List.all_eq_true.mp g.2.2 s hs) 10 q
        omega
def lineO (r : Rule) : Str := ⟨(lineT r).toArray⟩
theorem lines_back {x : Str} {G : List Rule} (h : tl x = writeT G) (g : ∀ r ∈ G, GoodR r) : linesOf x = G.map lineO ++ [("" : Str)] := by
  refine map_tl_inj ?_
  rw [linesOf_tl, h, spl_lines G fun r hr => line_no10 (g r hr), List.map_append, List.map_map]
  rfl
theorem rdGo_back : ∀ (G A : List Rule), (∀ r ∈ G, GoodR r) → (A ++ G).Nodup → A.length + G.length ≤ 24 → rdGo A.length A (G.map lineO) = .good (A ++ G)
  | [], A, _, _, _ => by
    rw [List.append_nil]
    rfl
  | r :: G, A, g, nd, h => by
    rw [List.map_cons]
    unfold rdGo
    rw [rule_back (l := lineO r) (r := r) rfl (g r List.mem_cons_self)]
    have h2 : r ∉ A := fun m => by
      rw [List.nodup_append] at nd
      exact nd.2.2 r m r List.mem_cons_self rfl
    have h3 : A.length + G.length + 1 ≤ 24 := by
      rw [List.length_cons] at h
      omega
    simp only
    rw [if_neg h2, if_neg (by omega)]
    have e : A ++ r :: G = (A ++ [r]) ++ G := by simp
    have l : A.length + 1 = (A ++ [r]).length := by simp
    rw [e, l]
    refine rdGo_back G (A ++ [r]) (fun q hq => g q (List.mem_cons_of_mem _ hq)) (by rw [← e]; exact nd) ?_
    rw [← l]
    omega
/-- THE READ-BACK -/
theorem rd_back {G : List Rule} (g : ∀ r ∈ G, GoodR r) (nd : G.Nodup) (n0 : G ≠ []) (h : G.length ≤ 24) : rd (linesOf (writeS G)) = .good G := by
  rw [lines_back (writeS_tl G) g]
  unfold rd
  rw [List.dropLast_concat, List.getLast?_concat]
  have := rdGo_back G [] g nd (by simpa using h)
  rw [List.length_nil, List.nil_append] at this
  rw [this]
  unfold rdEnd
  simp only
  rw [if_neg]
  rintro (z | z)
  · exact z rfl
  · rw [List.length_map] at z
    exact n0 (List.eq_nil_of_length_eq_zero z)
theorem rd_empty : rd (linesOf "") = .line 0 := by
  have e : linesOf "" = [("" : Str)] := by
    refine map_tl_inj ?_
    rw [linesOf_tl, nil_tl, spl_no (by simp)]
    rfl
  rw [e]
  unfold rd rdEnd rdGo
  simp
/-! ### lengths of parts -/
theorem spl_bound (s : Nat) : ∀ (n : Nat) (L : List Nat), L.length ≤ n → ∀ p ∈ spl [s] 0 [] L, p.length ≤ L.length
  | n, L, h => by
    rcases cut_first s L with c | ⟨p, r, rfl, c⟩
    · rw [spl_no c]
      intro q hq
      rw [List.mem_singleton.mp hq]
      exact Nat.le_refl _
    · rw [spl_at1 c]
      intro q hq
      rw [List.length_append, List.length_cons] at h ⊢
      rcases List.mem_cons.mp hq with z | z
      · rw [z]
        omega
      · cases n with
        | zero => omega
        | succ m =>
          have := spl_bound s m r (by omega) q z
          omega
theorem spl_count (s : Nat) : ∀ (n : Nat) (L : List Nat), L.length ≤ n → (spl [s] 0 [] L).length ≤ L.length + 1
  | n, L, h => by
    rcases cut_first s L with c | ⟨p, r, rfl, c⟩
    · rw [spl_no c]
      show 1 ≤ _
      omega
    · rw [spl_at1 c]
      rw [List.length_append, List.length_cons] at h ⊢
      cases n with
      | zero => omega
      | succ m =>
        have := spl_count s m r (by omega)
        rw [List.length_cons]
        omega
theorem map_len {l : List Str} {p : Str} (h : p ∈ l) {n : Nat} (b : ∀ q ∈ l.map tl, q.length ≤ n) : p.length ≤ n := by
  rw [len_tl]
  exact b _ (List.mem_map.mpr ⟨p, h, rfl⟩)
theorem spS_len {x p : Str} (h : p ∈ spS x) : p.length ≤ x.length := map_len h (by rw [spS_tl, len_tl]; exact spl_bound 32 _ _ (Nat.le_refl _))
theorem lines_len {x p : Str} (h : p ∈ linesOf x) : p.length ≤ x.length := map_len h (by rw [linesOf_tl, len_tl]; exact spl_bound 10 _ _ (Nat.le_refl _))
theorem spS_count (x : Str) : (spS x).length ≤ x.length + 1 := by
  have := spl_count 32 _ (tl x) (Nat.le_refl _)
  rw [← spS_tl, List.length_map, ← len_tl] at this
  exact this
theorem lines_count (x : Str) : (linesOf x).length ≤ x.length + 1 := by
  have := spl_count 10 _ (tl x) (Nat.le_refl _)
  rw [← linesOf_tl, List.length_map, ← len_tl] at this
  exact this
theorem spS_cons (x : Str) : ∃ w ws, spS x = w :: ws := by
  cases h : spS x with
  | cons w ws => exact ⟨w, ws, rfl⟩
  | nil =>
    obtain ⟨p, r, e, _⟩ := spl_ne 32 (tl x)
    have := spS_tl x
    rw [h, e] at this
    cases this
theorem part_len (z : Str) : (Txt.partition z ":").1.length ≤ z.length ∧ (Txt.partition z ":").2.2.length ≤ z.length := by
  rcases cut_first 58 (tl z) with h | ⟨A, R, hL, hA⟩
  · rw [partition_none colon_tl h]
    exact ⟨Nat.le_refl _, Nat.zero_le _⟩
  · obtain ⟨a, ha⟩ := str_of A
    obtain ⟨r, hr⟩ := str_of R
    have el : z = a ++ (":" : Str) ++ r := tl_inj (by rw [tl_append, tl_append, ha, hr, colon_tl, hL]; simp)
    have ep : Txt.partition z ":" = (a, (":" : Str), r) := by
      rw [el]
      exact partition_app colon_tl (by rw [ha]; exact hA)
    rw [ep, len_tl z, hL, List.length_append, List.length_cons, len_tl a, len_tl r, ha, hr]
    omega
theorem cutV_tail (x : V) (xs : List V) : cutV (x :: xs) (some 1) none = xs := by
  unfold cutV HT.sIx
  simp only [List.length_cons]
  have e : min (1 : Int).toNat (xs.length + 1) = 1 := by
    have : (1 : Int).toNat = 1 := rfl
    omega
  rw [if_neg (by decide)]
  rw [e]
  simp
/-! ### as data -/
def ruleD (r : Rule) : PyData := .tuple [.str r.1, .list (r.2.map PyData.str)]
def gD (G : List Rule) : PyData := .list (G.map ruleD)
theorem strs_eqv : ∀ xs ys : List Str, PyData.eqvAll (xs.map PyData.str) (ys.map PyData.str) = decide (xs = ys)
  | [], [] => by simp [PyData.eqvAll]
  | [], _ :: _ => by simp [PyData.eqvAll]
  | _ :: _, [] => by simp [PyData.eqvAll]
  | x :: xs, y :: ys => by
    rw [List.map_cons, List.map_cons, PyData.eqvAll, strs_eqv xs ys, PyData.eqv, Bool.eq_iff_iff]
    simp
theorem ruleD_eqv (r q : Rule) : PyData.eqv (ruleD r) (ruleD q) = decide (r = q) := by
  obtain ⟨a, s⟩ := r
  obtain ⟨b, t⟩ := q
  unfold ruleD
  rw [PyData.eqv, PyData.eqvAll, PyData.eqvAll, PyData.eqvAll, PyData.eqv, PyData.eqv, strs_eqv, Bool.eq_iff_iff]
  simp
theorem ruleD_in (G : List Rule) (r : Rule) : ((G.map ruleD).any fun z => PyData.eqv z (ruleD r)) = decide (r ∈ G) := by
  rw [Bool.eq_iff_iff, List.any_eq_true, decide_eq_true_eq]
  constructor
  · rintro ⟨z, hz, e⟩
    obtain ⟨q, hq, rfl⟩ := List.mem_map.mp hz
    rw [ruleD_eqv, decide_eq_true_eq] at e
    rw [← e]
    exact hq
  · intro h
    exact ⟨ruleD r, List.mem_map.mpr ⟨r, h, rfl⟩, by rw [ruleD_eqv]; simp⟩
theorem strOk_sym {z : Str} (h : symB z = true) : PyData.strOk z = true := by
  unfold PyData.strOk
  rw [Array.all_eq_true']
  intro c hc
  have := sym_codes h c (by simpa using hc)
  exact decide_eq_true (by omega)
theorem strs_lay : ∀ {ss : List Str}, (∀ s ∈ ss, PyData.strOk s = true) → PyData.canLayAll0 (ss.map PyData.str) = true
  | [], _ => by simp [PyData.canLayAll0]
  | s :: ss, h => by
    rw [List.map_cons, PyData.canLayAll0, PyData.canLay0, h s List.mem_cons_self, strs_lay fun z hz => h z (List.mem_cons_of_mem _ hz)]
    rfl
theorem strs_depth : ∀ ss : List Str, PyData.depthAll (ss.map PyData.str) ≤ 0
  | [] => by simp [PyData.depthAll]
  | s :: ss => by
    have := strs_depth ss
    simp only [List.map_cons, PyData.depthAll, PyData.depth]
    omega
theorem rule_lay {r : Rule} (g : GoodR r) : (ruleD r).canLay0 = true := by
  have h1 : PyData.strOk r.1 = true := strOk_sym (by unfold symB; rw [g.1, Bool.or_true])
  have h2 := strs_lay (ss := r.2) fun s hs => strOk_sym (List.all_eq_true.mp g.2.2 s hs)
  simp [ruleD, PyData.canLay0, PyData.canLayAll0, h1, h2]
theorem rule_depth (r : Rule) : (ruleD r).depth ≤ 2 := by
  have h := strs_depth r.2
  simp only [ruleD, PyData.depth, PyData.depthAll]
  omega
theorem rules_lay : ∀ {G : List Rule}, (∀ r ∈ G, GoodR r) → PyData.canLayAll0 (G.map ruleD) = true
  | [], _ => by simp [PyData.canLayAll0]
  | r :: G, g => by
    rw [List.map_cons, PyData.canLayAll0, rule_lay (g r List.mem_cons_self), rules_lay fun q hq => g q (List.mem_cons_of_mem _ hq)]
    rfl
theorem rules_depth : ∀ G : List Rule, PyData.depthAll (G.map ruleD) ≤ 2
  | [] => by simp [PyData.depthAll]
  | r :: G => by
    have h1 := rules_depth G
    have h2 := rule_depth r
    simp only [List.map_cons, PyData.depthAll]
    omega
theorem shaped_mk {d : PyData} (h1 : d.canLay0 = true) (h2 : d.depth ≤ 64) : SeqAt.shaped d = true := by
  unfold SeqAt.shaped
  rw [h1, decide_eq_true h2]
  rfl
theorem rule_shaped {r : Rule} (g : GoodR r) : SeqAt.shaped (ruleD r) = true := shaped_mk (rule_lay g) (by have := rule_depth r; omega)
theorem gD_shaped {G : List Rule} (g : ∀ r ∈ G, GoodR r) : SeqAt.shaped (gD G) = true := shaped_mk (by unfold gD; rw [PyData.canLay0]; exact rules_lay g) (by
  have := rules_depth G
  unfold gD
  simp only [PyData.depth]
  omega)
theorem eqv_self {d : PyData} (h : SeqAt.shaped d = true) : PyData.eqv d d = true := SeqAt.eqv_refl d (SeqAt.canLay_of_shaped h)
/-! ### what a reading gives, as data -/
def rdD : Rd → PyData
  | .line k => .tuple [.str "line", .int k]
  | .taken k => .tuple [.str "taken", .int k]
  | .large k => .tuple [.str "large", .int k]
  | .good G => .tuple [.str "grammar", gD G]
def RdOk : Rd → Prop
  | .good G => ∀ r ∈ G, GoodR r
  | _ => True
theorem rd_shaped {x : Rd} (h : RdOk x) : SeqAt.shaped (rdD x) = true := by
  cases x with
  | line k => exact shaped_mk (by simp [rdD, PyData.canLay0, PyData.canLayAll0]; decide +kernel) (by simp [rdD, PyData.depth, PyData.depthAll])
  | taken k => exact shaped_mk (by simp [rdD, PyData.canLay0, PyData.canLayAll0]; decide +kernel) (by simp [rdD, PyData.depth, PyData.depthAll])
  | large k => exact shaped_mk (by simp [rdD, PyData.canLay0, PyData.canLayAll0]; decide +kernel) (by simp [rdD, PyData.depth, PyData.depthAll])
  | good G =>
    have h1 : (gD G).canLay0 = true := SeqAt.canLay_of_shaped (gD_shaped h)
    have h2 : (gD G).depth ≤ 64 - 1 := by
      have := rules_depth G
      unfold gD
      simp only [PyData.depth]
      omega
    refine shaped_mk ?_ ?_
    · simp only [rdD, PyData.canLay0, PyData.canLayAll0, h1, Bool.and_true]
      decide +kernel
    · simp only [rdD, PyData.depth, PyData.depthAll]
      omega
end Ld

set_option Elab.async false
set_option linter.all false
set_option maxRecDepth 100000
set_option maxHeartbeats 4000000
/-! What stands stands, tables may grow; grammars in the heap. -/
namespace Ld
open PySem PySem.Spec PyProof.Rows L2 TL
/-- what stood stands, but that tables stay tables -/
def Up (H H2 : Hp) : Prop := ∀ b o, H b = some o → H2 b = some o ∨ ∃ ps qs, o = .tbl ps ∧ H2 b = some (.tbl qs)
theorem Up.refl (H : Hp) : Up H H := fun _ _ h => .inl h
theorem Up.trans {A B C : Hp} (u : Up A B) (v : Up B C) : Up A C := fun b o h => by
  rcases u b o h with e | ⟨ps, qs, rfl, e⟩
  · exact v b o e
  · rcases v b _ e with e2 | ⟨_, q2, _, e2⟩
    · exact .inr ⟨ps, qs, rfl, e2⟩
    · exact .inr ⟨ps, q2, rfl, e2⟩
theorem Up.dom {A B : Hp} (u : Up A B) {b : Addr} (h : B b = none) : A b = none := by
  cases e : A b with
  | none => rfl
  | some o =>
    rcases u b o e with e2 | ⟨_, _, _, e2⟩
    · rw [h] at e2; cases e2
    · rw [h] at e2; cases e2
theorem Up.lst {A B : Hp} (u : Up A B) {a : Addr} {xs : List V} (h : A a = some (.lst xs)) : B a = some (.lst xs) := by
  rcases u a _ h with e | ⟨_, _, z, _⟩
  · exact e
  · cases z
theorem Up.tup {A B : Hp} (u : Up A B) {a : Addr} {xs : List V} (h : A a = some (.tup xs)) : B a = some (.tup xs) := by
  rcases u a _ h with e | ⟨_, _, z, _⟩
  · exact e
  · cases z
theorem Up.xd {A B : Hp} (u : Up A B) {a : Addr} {fs : List (Str × V)} (h : A a = some (.xd fs)) : B a = some (.xd fs) := by
  rcases u a _ h with e | ⟨_, _, z, _⟩
  · exact e
  · cases z
theorem Up.seq {K : PySem.W.Frag} {A B : Hp} (u : Up A B) {a : Addr} {xs : List V} (h : SqL K A a xs) : SqL K B a xs := by
  rcases h with h | h
  · left
    rcases h with h | ⟨o, h⟩
    · exact .inl (u.lst h)
    · right
      refine ⟨o, ?_⟩
      rcases u a _ h with e | ⟨_, _, z, _⟩
      · exact e
      · cases z
  · exact .inr h
theorem Up.seqT {K : PySem.W.Frag} {A B : Hp} (u : Up A B) {a : Addr} {xs : List V} (h : SqT K A a xs) : SqT K B a xs := by
  rcases h with h | h
  · left
    rcases h with h | ⟨o, h⟩
    · exact .inl (u.tup h)
    · right
      refine ⟨o, ?_⟩
      rcases u a _ h with e | ⟨_, _, z, _⟩
      · exact e
      · cases z
  · exact .inr h
theorem Up.of_same {A B : Hp} (h : Same A B) : Up A B := fun b o e => .inl (h b o e)
theorem Up.upd {A B : Hp} (u : Up A B) {p : Addr} {o : HO} (n : A p = none) : Up A (upd B p o) := fun b x e => by
  have ne : b ≠ p := fun z => by rw [z, n] at e; cases e
  rw [upd_ne ne]
  exact u b x e
theorem Up.put (A : Hp) {p : Addr} {o : HO} (n : A p = none) : Up A (L2.upd A p o) := (Up.refl A).upd n
theorem Up.tabbed {A B : Hp} {T : Addr} (t : GxR.TabG A T) (h : GxR.Tabbed T A B) : Up A B := fun b o e => by
  by_cases z : b = T
  · subst z
    obtain ⟨ps, e1, _⟩ := t
    obtain ⟨qs, e2, _⟩ := h.1
    rw [e1] at e
    cases e
    exact .inr ⟨ps, qs, rfl, e2⟩
  · rw [← h.2 b z] at e
    exact .inl e
/-- the two tables -/
def Tb (T1 T2 : Addr) (H : Hp) : Prop := GxR.TabG H T1 ∧ GxR.TabG H T2
theorem tabG_upd {H : Hp} {T p : Addr} {o : HO} (h : GxR.TabG H T) (n : p ≠ T) : GxR.TabG (upd H p o) T := by
  obtain ⟨ps, e, t⟩ := h
  exact ⟨ps, by rw [upd_ne (Ne.symm n)]; exact e, t⟩
theorem tabG_new {H : Hp} {T p : Addr} {o : HO} (h : GxR.TabG H T) (n : H p = none) : GxR.TabG (upd H p o) T := tabG_upd h fun z => by
  obtain ⟨ps, e, _⟩ := h
  rw [z, e] at n
  cases n
theorem tabG_in {H : Hp} {T p : Addr} {o u : HO} (h : GxR.TabG H T) (n : H p = some u) (k : ∀ ps, u ≠ .tbl ps) : GxR.TabG (upd H p o) T := tabG_upd h fun z => by
  obtain ⟨ps, e, _⟩ := h
  rw [z, e] at n
  cases n
  exact k _ rfl
theorem Tb.new {T1 T2 : Addr} {H : Hp} (t : Tb T1 T2 H) {p : Addr} {o : HO} (n : H p = none) : Tb T1 T2 (upd H p o) := ⟨tabG_new t.1 n, tabG_new t.2 n⟩
theorem Tb.lst {T1 T2 : Addr} {H : Hp} (t : Tb T1 T2 H) {p : Addr} {o : HO} {xs : List V} (n : H p = some (.lst xs)) : Tb T1 T2 (upd H p o) := ⟨tabG_in t.1 n (fun _ z => by cases z), tabG_in t.2 n fun _ z => by cases z⟩
theorem tabbed_other {H H2 : Hp} {T T2 : Addr} (t : GxR.TabG H T2) (h : GxR.Tabbed T H H2) : GxR.TabG H2 T2 := by
  by_cases z : T2 = T
  · rw [z]
    exact h.1
  · obtain ⟨ps, e, k⟩ := t
    exact ⟨ps, by rw [h.2 T2 z]; exact e, k⟩
theorem Tb.on1 {T1 T2 : Addr} {H H2 : Hp} (t : Tb T1 T2 H) (h : GxR.Tabbed T1 H H2) : Tb T1 T2 H2 := ⟨h.1, tabbed_other t.2 h⟩
theorem Tb.on2 {T1 T2 : Addr} {H H2 : Hp} (t : Tb T1 T2 H) (h : GxR.Tabbed T2 H H2) : Tb T1 T2 H2 := ⟨tabbed_other t.1 h, h.1⟩
/-! ### what is new -/
def News (A B : Hp) : Hp := fun a => match A a with
  | none => B a
  | some _ => none
theorem news_of {A B : Hp} {a : Addr} (h : A a = none) : News A B a = B a := by
  unfold News
  rw [h]
theorem news_at {A B : Hp} {a : Addr} {o : HO} (h : News A B a = some o) : A a = none ∧ B a = some o := by
  unfold News at h
  cases e : A a with
  | none =>
    rw [e] at h
    exact ⟨rfl, h⟩
  | some _ =>
    rw [e] at h
    cases h
theorem news_same {A B : Hp} : Same (News A B) B := fun _ _ h => (news_at h).2
theorem News.up {A B C : Hp} (u : Up B C) : Up (News A B) (News A C) := fun b o h => by
  obtain ⟨n, e⟩ := news_at h
  rw [news_of n]
  exact u b o e
theorem News.less {A A2 B : Hp} (d : ∀ b, A2 b = none → A b = none) : Same (News A2 B) (News A B) := fun b o h => by
  obtain ⟨n, e⟩ := news_at h
  rw [news_of (d b n)]
  exact e
theorem News.put {A B : Hp} {p : Addr} {o u : HO} (h : A p = some u) : News A (upd B p o) = News A B := by
  funext b
  unfold News
  cases e : A b with
  | some _ => rfl
  | none =>
    have : b ≠ p := fun z => by rw [z, h] at e; cases e
    simp only
    rw [upd_ne this]
/-! ### rules and grammars in the heap -/
def RuleA (H : Hp) (v : V) (r : Rule) : Prop := ∃ t l, v = .ref t ∧ H t = some (.tup [.str r.1, .ref l]) ∧ H l = some (.lst (r.2.map V.str))
theorem RuleA.up {A B : Hp} (u : Up A B) {v : V} {r : Rule} (h : RuleA A v r) : RuleA B v r := by
  obtain ⟨t, l, e, h1, h2⟩ := h
  exact ⟨t, l, e, u.tup h1, u.lst h2⟩
def GrA (H : Hp) : List V → List Rule → Prop
  | [], [] => True
  | v :: vs, r :: G => RuleA H v r ∧ GrA H vs G
  | _, _ => False
theorem GrA.up {A B : Hp} (u : Up A B) : ∀ {vs : List V} {G : List Rule}, GrA A vs G → GrA B vs G
  | [], [], _ => True.intro
  | _ :: _, _ :: _, h => ⟨h.1.up u, h.2.up u⟩
  | [], _ :: _, h => h.elim
  | _ :: _, [], h => h.elim
theorem GrA.len {A : Hp} : ∀ {vs : List V} {G : List Rule}, GrA A vs G → vs.length = G.length
  | [], [], _ => rfl
  | _ :: _, _ :: _, h => by rw [List.length_cons, List.length_cons, h.2.len]
  | [], _ :: _, h => h.elim
  | _ :: _, [], h => h.elim
theorem GrA.get {A : Hp} : ∀ {vs : List V} {G : List Rule} {i : Nat} {v : V}, GrA A vs G → vs[i]? = some v → ∃ r, G[i]? = some r ∧ RuleA A v r
  | _ :: _, r :: _, 0, _, h, e => by
    cases e
    exact ⟨r, rfl, h.1⟩
  | _ :: _, _ :: _, i + 1, _, h, e => h.2.get (i := i) e
  | [], _, _, _, _, e => by cases e
  | _ :: _, [], _, _, h, _ => h.elim
theorem GrA.snoc {A : Hp} : ∀ {vs : List V} {G : List Rule} {v : V} {r : Rule}, GrA A vs G → RuleA A v r → GrA A (vs ++ [v]) (G ++ [r])
  | [], [], _, _, _, q => ⟨q, True.intro⟩
  | _ :: _, _ :: _, _, _, h, q => ⟨h.1, h.2.snoc q⟩
  | [], _ :: _, _, _, h, _ => h.elim
  | _ :: _, [], _, _, h, _ => h.elim
def GraA (H : Hp) (g : Addr) (G : List Rule) : Prop := ∃ vs, H g = some (.lst vs) ∧ GrA H vs G
theorem GraA.up {A B : Hp} (u : Up A B) {g : Addr} {G : List Rule} (h : GraA A g G) : GraA B g G := by
  obtain ⟨vs, e, q⟩ := h
  exact ⟨vs, u.lst e, q.up u⟩
theorem dp_strs {K : PySem.W.Frag} {H : Hp} : ∀ xs : List Str, DpAll K H (xs.map V.str) (xs.map PyData.str)
  | [] => .nil
  | x :: xs => .cons (.str x) (dp_strs xs)
theorem RuleA.dp {K : PySem.W.Frag} {H : Hp} {v : V} {r : Rule} (h : RuleA H v r) : Dp K H v (ruleD r) := by
  obtain ⟨t, l, rfl, h1, h2⟩ := h
  exact .tup (SqT.of h1) (.cons (.str _) (.cons (.lst (SqL.of h2) (dp_strs _)) .nil))
theorem GrA.dp {K : PySem.W.Frag} {H : Hp} : ∀ {vs : List V} {G : List Rule}, GrA H vs G → DpAll K H vs (G.map ruleD)
  | [], [], _ => .nil
  | _ :: _, _ :: _, h => .cons h.1.dp h.2.dp
  | [], _ :: _, h => h.elim
  | _ :: _, [], h => h.elim
theorem GraA.dp {K : PySem.W.Frag} {H : Hp} {g : Addr} {G : List Rule} (h : GraA H g G) : Dp K H (.ref g) (gD G) := by
  obtain ⟨vs, e, q⟩ := h
  exact .lst (SqL.of e) q.dp
/-- grammars that a law hands in -/
def GoodG (most : Nat) (G : List Rule) : Prop := (∀ r ∈ G, GoodR r) ∧ G.Nodup ∧ G ≠ [] ∧ G.length ≤ most
end Ld

set_option Elab.async false
set_option linter.all false
set_option maxRecDepth 100000
set_option maxHeartbeats 4000000
/-! Small facts that many laws use. -/
namespace Ld
open PySem PySem.Spec PyProof.Rows L2
theorem same_put {A B : Hp} (u : Same A B) {p : Addr} {o : HO} (n : A p = none) : Same A (upd B p o) := fun b x e => by
  rw [upd_ne (ne_of_none e n)]
  exact u b x e
theorem million0 {n : Nat} (h : n ≤ 1000000) : n ≤ sizeLine := Nat.le_trans h (by decide)
theorem million1 {n : Nat} (h : n ≤ 1000000) : n < sizeLine := Nat.lt_of_le_of_lt h (by decide)
theorem str_at {ss : List Str} {j : Nat} {x : V} (h : (ss.map V.str)[j]? = some x) : ∃ s, ss[j]? = some s ∧ x = V.str s := by
  rw [List.getElem?_map] at h
  cases e : ss[j]? with
  | none =>
    rw [e] at h
    cases h
  | some s =>
    rw [e] at h
    exact ⟨s, rfl, (Option.some.inj h).symm⟩
theorem cut_map {ss : List Str} {i k : Nat} (h : k ≤ ss.length) (h2 : i ≤ k) : cutV (ss.map V.str) (some (i : Int)) (some (k : Int)) = ((ss.drop i).take (k - i)).map V.str := by
  unfold cutV
  rw [HT.sIx_nat, HT.sIx_nat, List.length_map, Nat.min_eq_left h, Nat.min_eq_left (Nat.le_trans h2 h), List.map_take, List.map_drop]
end Ld

set_option Elab.async false
set_option linter.all false
set_option maxRecDepth 100000
set_option maxHeartbeats 4000000
/-! repr of data, where nothing is being shown already; a law that is called where nothing is being shown. -/
namespace Lg
open PySem PySem.Spec PyProof.Rows L2 LamX GxR
/-- repr of data at any depth -/
def rRepr (K : PySem.W.Frag) : List V → Hp → VK → Prop := fun xs H Q => ∃ (a : Addr) (d : PyData), xs = [.ref a] ∧ Dp K H (.ref a) d ∧ d.showable = true ∧ SeqAt.shaped d = true ∧ d.shown.length ≤ sizeLine ∧ Q (.str d.shown) H
theorem call_repr {X : Cx} (hg : X.A.guards = some []) (hu : X.A.units + 66 < cLine) : CallR X (.builtin "repr") (rRepr X.K) := by
  intro pins s σ H xs us Q I r h
  obtain ⟨a, d, rfl, hd, show_, shp, sz, q⟩ := h
  obtain ⟨u, rfl, rx⟩ := vals1 r
  obtain rfl : u = Value.ref a := rx
  obtain ⟨as, r1⟩ := Dp.reads I d _ _ hd rfl
  have dep := SeqAt.depth_of_shaped shp
  refine repr_of_reads' r1 show_ (PyData.noDict_hsm (PyData.hasDict_of_canLay d (SeqAt.canLay_of_shaped shp))) hg (by omega) (fun _ _ e => e) (fun h2 v tk up => ?_) sz
  exact ⟨.str _, H, I.kept up, ⟨v, rfl⟩, q⟩
/-- the def at fa keeps sp where it is called by no def at all -/
structure Top (P : Program) (w : World) (K : PySem.W.Frag) (mg : Str → Option Value) (base : Heap) (CX : CXT) (fa : Addr) (fd : FuncData) (ps : List Str) (sp : Sp) : Prop where
  len : ∀ vs H Q E, sp vs H Q E → vs.length = ps.length
  run : ∀ (s : Shared) (H : Hp) (args : Args) (us : List Value) (vs : List V) (Q : VK) (E : XK), Env0 P w K mg base callerA [] s H → BindsTo s fd args (ps.zip us) → Vals vs us → sp vs H Q E →
    codeAny (model P w) callerA (.call (.ref fa) args) (CR CX [] P w H s Q E) s
section
variable {P : Program} {w : World} {K : PySem.W.Frag} {mg : Str → Option Value} {base : Heap}
theorem top_ok {x qual : Str} {st : Stmt} {f : Addr} {fd : FuncData} {N ps : List Str} {k : Nat} {sp : Sp} (F : Fun K x qual st f fd) (S : FnScope N ps (defScope st)) (room : Room (k + 1) callerA) (len : ∀ vs H Q E, sp vs H Q E → vs.length = ps.length)
    (hbody : ∀ (cdv : Value) (s : Shared) (H : Hp) (vs : List V) (Q : VK) (E : XK), Room k (callerA.deeper (envOfC qual (defScope st) s.heap.objs.size f cdv)) → sp vs H Q E →
      ∃ t, PSs (cxOf CX0 P w K mg base N qual (defScope st) f cdv callerA [] s H E).nox (defBody st) t ∧ t { nx := fun _ H' => Q .non H', rt := Q } (start N vs) H) : Top P w K mg base CX0 f fd ps sp := by
  obtain ⟨oc, od, kV, doc, pm, an, cdv, ct, osl, rfl, lk, code⟩ := F.ex
  refine ⟨len, fun s H args us vs Q E e0 bind rel want => ?_⟩
  have count := len _ _ _ _ want
  have inK : K.In s.heap := e0.mod.kin.keeps fun b o e => (e0.bs b o e).1
  have lim : s.heap.NoLimit := e0.mod.nolimit.keeps fun b o e => (e0.bs b o e).1
  have kinds : ∀ y ∈ ps.zip us, (defScope st).names.lookup y.1 = some .local ∨ ((defScope st).names.lookup y.1 = some .cell ∧ ((cellsFrom (s.heap.objs.size + 1) (defScope st).names []).lookup y.1).isSome = true) := by
    rintro ⟨n, v⟩ hy
    exact (S.par n (List.of_mem_zip hy).1).imp_right fun q => ⟨q, PySem.W.cellsFrom_some _ _ _ (.inl q)⟩
  refine codeAny_call_function room.depth (inK _ _ lk) rfl S.co S.gen rfl (PySem.W.codeRec_of inK code) (bind _ _ _ _ ?_)
  refine wpAny_newFunctionEnv_cells S.kind kinds fun env made s1 x => ?_
  subst made
  refine ⟨lim.keeps x.toInCall.keep, codeAny_func ?_⟩
  obtain ⟨t, body, reads⟩ := hbody cdv s H vs Q E (room.deeper _) want
  have I : Inv (cxOf CX0 P w K mg base N qual (defScope st) f cdv callerA [] s H E) [] (start N vs) H s1 := inv_start S room.hd e0 count rel x
  refine wpAny_mono (body.nox.run [] s1 (start N vs) H _ I reads) (fun fl s2 ends => ?_) fun e s2 z => z
  cases fl with
  | brk =>
    obtain ⟨_, _, _, z⟩ := ends
    exact False.elim z
  | cont =>
    obtain ⟨_, _, _, z⟩ := ends
    exact False.elim z
  | next =>
    obtain ⟨σ2, H2, J, q⟩ := ends
    exact ⟨V.non, H2, J.os, J.bare, J.base, J.hok, rfl, q⟩
  | ret u =>
    obtain ⟨v, σ2, H2, J, rv, q⟩ := ends
    exact ⟨v, H2, J.os, J.bare, J.base, J.hok, rv, q⟩
/-- an object that is no table's and no list's is as it is where tables and the script are hidden -/
theorem top_call {cs : List (Addr × Addr)} {fd : FuncData} {x : Str} {sp : Sp} {t1 : Shared} {mb : Str → Option Value} {vals : List Value} {nums : List Int} {fa a : Addr} (inK : K.In t1.heap) (top : t1.heap.Ns mainGlobals mg) (blt : t1.heap.Ns builtinsNs mb) (sameB : ∀ x : Str, x ≠ "__name__" → mb x = bootBuiltins x)
    (lim : t1.heap.NoLimit) (noGens : t1.gens = #[]) (tabs : ∀ p ∈ cs, t1.heap.get? p.2 = some { cls := .none, data := .fields #[] }) (tabsK : ∀ p ∈ cs, K.lookup p.2 = none) (codes : ∀ p ∈ cs, PySem.W.CodeHd t1.heap p.1 p.2)
    (modB : ∃ (bm : Addr) (ob : Obj), mg "__builtins__" = some (.ref bm) ∧ bm ≠ builtinsNs ∧ t1.heap.get? bm = some ob ∧ ob.cls = .type "module" ∧ ob.dict = some builtinsNs ∧ ob.data = .plain)
    (script : t1.heap.get? a = some { cls := .type "list", data := .seq vals.toArray }) (areInts : IntsAre vals nums) (fits : nums.length ≤ sizeLine)
    (F : ∀ base : Heap, K.In base → base.Ns mainGlobals mg → (∀ p ∈ cs, LamX.TabB base mg p.1 p.2) → Top P w K mg base CX0 fa fd [x] sp) (bind : ∀ (s : Shared) (u : Value), BindsTo s fd ⟨[u], []⟩ [(x, u)])
    (want : ∀ H : Hp, (∀ p ∈ cs, H p.2 = some (.tbl #[])) → SqL K H a (nums.map V.int) → sp [.ref a] H (fun v _ => v = .bl true) fun _ _ _ => False) :
    codeAny (model P w) callerA (.call (.ref fa) ⟨[.ref a], []⟩) (fun r s' => r = .ok (.ret (.bool true)) ∧ OldK t1.heap s'.heap ∧ s'.os = t1.os ∧ AllBare s'.gens) t1 := by
  have rel := vals_ints areInts
  have lenV := areInts.length
  let Tm := cs.map (·.2)
  let lst : Obj := { cls := .type "list", data := .seq vals.toArray }
  have memT : ∀ p ∈ cs, p.2 ∈ Tm := fun p hp => List.mem_map.mpr ⟨p, hp, rfl⟩
  have isT : ∀ b ∈ Tm, ∃ p ∈ cs, p.2 = b ∧ t1.heap.get? b = some { cls := .none, data := .fields #[] } := fun b mem => by
    obtain ⟨p, hp, rfl⟩ := List.mem_map.mp mem
    exact ⟨p, hp, rfl, tabs p hp⟩
  have aT : a ∉ Tm := fun mem => by
    obtain ⟨_, _, _, e⟩ := isT a mem
    have := (congrArg Obj.data (Option.some.inj (script.symm.trans e)))
    cases this
  -- the tables, and the script unless it is written: nothing else is tracked
  obtain ⟨H, hT, hS, cases_⟩ : ∃ H : Hp, (∀ p ∈ cs, H p.2 = some (.tbl #[])) ∧ SqL K H a (nums.map V.int) ∧ ∀ b u, H b = some u → (b ∈ Tm ∧ u = .tbl #[]) ∨ (b = a ∧ K.lookup a = none ∧ u = .frz lst (.lst (nums.map V.int))) := by
    cases at_ : K.lookup a with
    | some o =>
      have e := inK a o at_
      rw [script] at e
      cases e
      refine ⟨fun b => if b ∈ Tm then some (.tbl #[]) else none, fun p hp => if_pos (memT p hp), .inr ⟨_, vals.toArray, _, at_, rfl, rfl, rfl, by rw [List.size_toArray, lenV]; exact fits, by simpa using rel⟩, fun b u z => ?_⟩
      by_cases mem : b ∈ Tm
      · exact .inl ⟨mem, (Option.some.inj ((if_pos mem).symm.trans z)).symm⟩
      · cases (if_neg mem).symm.trans z
    | none =>
      refine ⟨fun b => if b ∈ Tm then some (.tbl #[]) else if b = a then some (.frz lst (.lst (nums.map V.int))) else none, fun p hp => if_pos (memT p hp), .inl (.inr ⟨lst, (if_neg aT).trans (if_pos rfl)⟩), fun b u z => ?_⟩
      by_cases mem : b ∈ Tm
      · exact .inl ⟨mem, (Option.some.inj ((if_pos mem).symm.trans z)).symm⟩
      · have z2 := (if_neg mem).symm.trans z
        by_cases e : b = a
        · exact .inr ⟨e, rfl, (Option.some.inj ((if_pos e).symm.trans z2)).symm⟩
        · cases (if_neg e).symm.trans z2
  have off : ∀ {b : Addr} {o : Obj}, t1.heap.get? b = some o → o.data ≠ .fields #[] → (b = a → K.lookup a = none → False) → H b = none := fun {b o} e d n => by
    cases q : H b with
    | none => rfl
    | some u =>
      rcases cases_ b u q with ⟨mem, _⟩ | ⟨e2, k, _⟩
      · obtain ⟨_, _, _, e3⟩ := isT b mem
        rw [e3] at e
        cases e
        exact (d rfl).elim
      · exact (n e2 k).elim
  have offD : ∀ {b : Addr} {o : Obj}, t1.heap.get? b = some o → o.data ≠ .fields #[] → o.data ≠ .seq vals.toArray → H b = none := fun {b o} e d1 d2 => off e d1 fun e2 _ => by
    rw [e2, script] at e
    cases e
    exact d2 rfl
  have ok : HOk P w H t1.heap := fun b u z => by
    rcases cases_ b u z with ⟨mem, rfl⟩ | ⟨rfl, _, rfl⟩
    · obtain ⟨_, _, _, e⟩ := isT b mem
      exact e
    · exact ⟨script, by rw [List.length_map]; exact fits, vals, _, rel, script⟩
  have nsB : ∀ {b : Addr} {m : Str → Option Value}, t1.heap.Ns b m → (hidT t1.heap H).Ns b m := fun {b m} ⟨o, es, ep, e, d, r⟩ => by
    refine ⟨o, es, ep, hidT_get e (offD e ?_ ?_), d, r⟩
    · rw [d]
      intro z
      cases z
    · rw [d]
      intro z
      cases z
  have inB : K.In (hidT t1.heap H) := fun b o e => by
    refine hidT_get (inK b o e) ?_
    cases q : H b with
    | none => rfl
    | some u =>
      rcases cases_ b u q with ⟨mem, _⟩ | ⟨e2, k, _⟩
      · obtain ⟨p, hp, e3, _⟩ := isT b mem
        rw [← e3, tabsK p hp] at e
        cases e
      · rw [e2, k] at e
        cases e
  have tabB : ∀ p ∈ cs, LamX.TabB (hidT t1.heap H) mg p.1 p.2 := fun p hp => by
    obtain ⟨og, eg, epg, atG, dG, _⟩ := id top
    have tp := tabs p hp
    refine ⟨?_, ?_, fun z => ?_⟩
    · obtain ⟨o, us, file, tf, flags, tg, inF, text, tt, e1, r1, r2, r3, r4, r5, r6, r7, r8, ne⟩ := codes p hp
      refine ⟨o, us, file, tf, flags, tg, inF, text, tt, hidT_get e1 (offD e1 ?_ ?_), r1, r2, r3, r4, r5, r6, r7, r8, ne⟩
      · rw [r2]
        intro z
        cases z
        simp at r3
      · rw [r2]
        intro z
        cases z
    · obtain ⟨bm, ob, b1, b2, b3, b4, b5, b6⟩ := modB
      refine ⟨bm, ob, b1, b2, fun q => ?_, fun q => ?_, hidT_get b3 (offD b3 (by rw [b6]; intro z; cases z) (by rw [b6]; intro z; cases z)), b4, b5, b6⟩
      · rw [q, atG] at b3
        cases b3
        rw [dG] at b6
        cases b6
      · rw [q, tp] at b3
        cases b3
        cases b6
    · rw [z, tp] at atG
      cases atG
      cases dG
  have env0 : Env0 P w K mg (hidT t1.heap H) callerA [] t1 H := ⟨rfl, ⟨inB, nsB top, ⟨mb, nsB blt, sameB⟩, let ⟨mc, h1, h2⟩ := lim; ⟨mc, nsB h1, h2⟩⟩, fun b o e => of_hidT e, Nat.le_of_eq (hidT_size _ _), trivial, fun b hb => (List.not_mem_nil hb).elim, ok, .of_eq noGens⟩
  refine codeAny_mono ((F _ inB (nsB top) tabB).run t1 H ⟨[.ref a], []⟩ [.ref a] [.ref a] _ _ env0 (bind t1 (.ref a)) (.cons rfl .nil) (want H hT hS)) fun r s2 left => ?_
  cases r with
  | error e => exact (show False from left).elim
  | ok fl =>
    cases fl with
    | next => exact (show False from left).elim
    | brk => exact (show False from left).elim
    | cont => exact (show False from left).elim
    | ret u =>
      obtain ⟨v, H2, os2, bare2, un, ok2, ru, isTrue_⟩ := left
      obtain rfl : v = .bl true := isTrue_
      obtain rfl : u = Value.bool true := ru
      have grown : ∀ p ∈ cs, ∃ more : Array Value, s2.heap.get? p.2 = some { cls := .none, data := .fields more } := fun p hp => by
        obtain ⟨more, z⟩ := un.tbls p.2 #[] (hT p hp)
        exact ⟨_, ok2 p.2 _ z⟩
      have kept : ∀ b o, b ∉ Tm → t1.heap.get? b = some o → s2.heap.get? b = some o := fun b o out e => by
        cases q : H b with
        | none => exact un.keep b o e q (fun z => (List.not_mem_nil z).elim) (fun z => (List.not_mem_nil z).elim)
        | some u =>
          rcases cases_ b u q with ⟨mem, _⟩ | ⟨_, _, rfl⟩
          · exact (out mem).elim
          · obtain ⟨e1, _⟩ := ok b _ q
            obtain ⟨e2, _⟩ := ok2 b _ (un.frzs b _ _ q)
            rw [e] at e1
            cases e1
            exact e2
      refine ⟨rfl, ⟨fun b o e => ?_, fun b o e => ?_⟩, os2, bare2⟩
      · by_cases mem : b ∈ Tm
        · obtain ⟨p, hp, rfl, at_⟩ := isT b mem
          obtain ⟨more, hm⟩ := grown p hp
          rw [at_] at e
          cases e
          exact .inr (.inl ⟨((codes p hp).tab at_).isCodeTable, rfl, #[], more, rfl, by rw [Array.empty_append]; exact hm⟩)
        · exact .inl (kept b o mem e)
      · by_cases mem : b ∈ Tm
        · obtain ⟨p, hp, rfl, _⟩ := isT b mem
          obtain ⟨more, hm⟩ := grown p hp
          exact ⟨_, hm⟩
        · exact ⟨o, kept b o mem e⟩
end
/-- what is known of the law's promise at the head's heap -/
def LawTop (l : PySem.W.OpenLaw) (w : World) (K : PySem.W.Frag) (n : Nat) (x : Str) (mg : Str → Option Value) (fa : Addr) (h : Heap) : Prop :=
  ∃ (fd : FuncData) (cs : List (Addr × Addr)) (sp : Sp), (∀ p ∈ cs, PySem.W.CodeHd h p.1 p.2 ∧ h.get? p.2 = some { cls := .none, data := .fields #[] } ∧ K.lookup p.2 = none) ∧ (∀ (s : Shared) (u : Value), BindsTo s fd ⟨[u], []⟩ [(x, u)]) ∧
    (∀ (H : Hp) (a : Addr) (ns : List Int), ns.length ≤ n → (∀ p ∈ cs, H p.2 = some (.tbl #[])) → SqL K H a (ns.map V.int) → sp [.ref a] H (fun v _ => v = .bl true) fun _ _ _ => False) ∧
    ∀ base : Heap, K.In base → base.Ns mainGlobals mg → (∀ p ∈ cs, LamX.TabB base mg p.1 p.2) → Top l.prog w K mg base CX0 fa fd [x] sp
theorem walk_top {l : PySem.W.OpenLaw} {n : Nat} {q : Program} {loose : List Str} {XP : (Str → Option Value) → Heap → Prop} {YP : World → Heap → Prop} {d : PySem.DefRec} {K : Params → PySem.W.Frag} {x : Str}
    (most : l.most = some n) (fits : n ≤ sizeLine) (plain : d.params.defaults = []) (hY : ∀ (w : World) (h : Heap), YP w h → (K w.params).In h)
    (F : ∀ (w : World) (mg : Str → Option Value) (fa : Addr) (h : Heap), YP w h → (K w.params).In h → h.Ns mainGlobals mg → mg d.name = some (.ref fa) →
      (∀ (y : Str) (d' : PySem.DefRec) (c T : Addr), (recsOf q).find? (fun e => e.name == y) = some d' → PySem.W.tabIn (K w.params) y = some (c, T) → PySem.W.CodeHd h c T ∧ h.get? T = some { cls := .none, data := .fields #[] }) → LawTop l w (K w.params) n x mg fa h) :
    PySem.W.WalkO q loose XP YP l.row.toRowW d [] (fun f vs => PySem.call f vs) := by
  refine Att.attach_callB most plain fun w s₀ s1 mg mb fa o pm cd doc a vs ns G Y ho hd hcd hmg hobj hints hlen hbits hg => ?_
  have inK := hY w _ Y
  obtain ⟨fd, cs, sp, tabs, bind, want, prom⟩ := F w mg fa _ Y inK G.T.g hmg fun y d' c T found at_ => PySem.W.tab_of G.T inK found at_
  exact top_call inK G.T.g G.T.b G.T.builtins G.T.nolimit hg (fun p hp => (tabs p hp).2.1) (fun p hp => (tabs p hp).2.2) (fun p hp => (tabs p hp).1) G.T.bmain hobj hints (Nat.le_trans hlen fits) prom bind fun H hH hS => want H a ns hlen hH hS
end Lg

set_option Elab.async false
set_option linter.all false
set_option maxRecDepth 100000
set_option maxHeartbeats 4000000
/-! a != b of two dicts that are equal, their values lists. -/
namespace PySem.W
open PySem PySem.Spec PyProof.Rows
section
variable {K : Type} [DecidableEq K] {prog : Program} {w : World} {A : Around} {E : Value → Shared → Prop} {s : Shared} {knd : KeyKind prog w K}
theorem rcP_dictsNe {a b : Addr} {ka kb : List (K × Value)} {r : Bool} {Q : Value → Shared → Prop} (ha : (a == sysModules) = false) (hb : (b == sysModules) = false)
    (da : s.heap.DictOf knd a ka) (db : s.heap.DictOf knd b kb) (hu : A.units < cLine) (hits : ka.length = kb.length → KeqHitsP prog w A.in1 s kb ka r) (h : Q (.bool (!(ka.length == kb.length && r))) s) : wpAny (model prog w) A (compareOp .NotEq (.ref a) (.ref b)) Q E s := by
  refine wpAny_richCompare_same_room (op := .NotEq) da.typeIs db.typeIs PySem.F.slot_dict_ne (wpAny_call_entry PySem.F.slot_dict_ne da.typeIs PySem.F.entry_dict_ne ?_ (PySem.F.args_dict_ne_2 _ _)) hu
  show wpAny _ _ (Builtin.Dict.dictSlotArgs "__ne__" ⟨[.ref a, .ref b], []⟩ >>= _) _ _ s
  refine wpAny_bind ?_
  unfold Builtin.Dict.dictSlotArgs
  refine wpAny_bind (wpAny_notOrdered_dict da.typeIs ?_)
  show wpAny _ _ (pure (Value.ref a, Value.ref b)) _ _ s
  refine wpAny_pure ?_
  refine wpAny_bind (wpAny_isInstance (T := "dict") db.typeIs PySem.F.sub_dict_dict ?_)
  simp only [Bool.not_true, Bool.false_eq_true, if_false]
  refine wpAny_bind (wpAny_pure (wpAny_bind (wpAny_pure ?_)))
  refine wpAny_bind (samePairsP ha hb da db hits ?_)
  refine wpAny_pure ⟨_, rfl, ?_, ?_⟩
  · exact fun x => nomatch x
  · simpa using h
end
end PySem.W
namespace Ld
open PySem PySem.Spec PyProof.Rows L2
def rNeVD (K : PySem.W.Frag) : R2 := fun x y H Q => ∃ a b ks ls n, n ≤ 60 ∧ x = .ref a ∧ y = .ref b ∧ H a = some (.dK ks) ∧ H b = some (.dK ls) ∧ ks.length = ls.length ∧ (∀ p ∈ ks, ∃ u, valV ls p.1 = some u ∧ EqV K H n p.2 u) ∧ Q (.bl false) H
theorem op_neVD {X : Cx} (hu : X.A.units + 64 < cLine) : OpR X (compareOp .NotEq) (rNeVD X.K) := by
  intro pins s σ H x y v u Q I rx ry h
  obtain ⟨a, b, ks, ls, n, hn, rfl, rfl, ea, eb, hlen, hp, q⟩ := h
  obtain rfl : v = Value.ref a := rx
  obtain rfl : u = Value.ref b := ry
  obtain ⟨_, ya, va, ra, da⟩ := (show ObjOk X.prog X.w H s.heap a (.dK ks) from I.hok a _ ea)
  obtain ⟨_, yb, vb, rb, db⟩ := (show ObjOk X.prog X.w H s.heap b (.dK ls) from I.hok b _ eb)
  have hl : va.length = vb.length := by rw [← ra.length, ← rb.length]; exact hlen
  refine PySem.W.rcP_dictsNe (knd := mixKind X.prog X.w) (r := true) ya yb da db (by omega) (fun _ => hits_run (eqV_run I n X.A.in1 (by show X.A.units + 1 + n < cLine; omega)) rb ra hp) ?_
  rw [show (!(va.length == vb.length && true)) = false from by rw [hl]; simp]
  exact ⟨.bl false, H, I, rfl, q⟩
end Ld

set_option Elab.async false
set_option linter.all false
set_option maxRecDepth 100000
set_option maxHeartbeats 4000000
/-! a == b and a != b of equal values that hold dicts with tuples for keys. -/
namespace PySem.W
open PySem PySem.Spec PyProof.Rows
section
variable {K : Type} [DecidableEq K] {prog : Program} {w : World} {A : Around} {E : Value → Shared → Prop} {s : Shared} {knd : HeapKind prog w K}
/-- each key of the one has an equal value in the other -/
inductive HitsT (prog : Program) (w : World) (A : Around) (s : Shared) (ys : List (K × Addr × Value)) : List (K × Addr × Value) → Prop
  | nil : HitsT prog w A s ys []
  | cons {x : K × Addr × Value} {p : Addr × Value} {r : List (K × Addr × Value)} : atKey ys x.1 = some p → SeqAt.EqP prog w A s x.2.2 p.2 true → HitsT prog w A s ys r → HitsT prog w A s ys (x :: r)
theorem samePairsT {nm : String} {a b : Addr} {xs ys : List (K × Addr × Value)} {Q : Bool → Shared → Prop} (hu : knd.room A) (ha : (a == sysModules) = false) (hb : (b == sysModules) = false)
    (da : s.heap.DictOfH knd a xs) (db : s.heap.DictOfH knd b ys) (len : xs.length = ys.length) (hits : HitsT prog w A s ys xs) (h : Q true s) :
    wpAny (model prog w) A (Builtin.Dict.samePairs nm a b) Q E s := by
  obtain ⟨oa, es, ep, hoa, _, hda, hea, hka, hna⟩ := da
  obtain ⟨ob, es', ep', hob, _, hdb, heb, hkb, hnb⟩ := db
  have hla := size_of_entries hea
  have hlb := size_of_entries heb
  have hsz : es.size = es'.size := by rw [hla, hlb, len]
  unfold Builtin.Dict.samePairs Builtin.Dict.showsAll
  rw [if_neg (show ¬ (a == sysModules) = true by rw [ha]; exact Bool.false_ne_true), if_neg (show ¬ (b == sysModules) = true by rw [hb]; exact Bool.false_ne_true)]
  refine wpAny_bind (wpAny_pure (wpAny_bind (wpAny_pure ?_)))
  refine wpAny_bind (wpAny_dictEntries hoa hda ?_)
  dsimp only
  refine wpAny_bind (wpAny_dictEntries hob hdb ?_)
  rw [if_neg (by rw [hsz]; simp)]
  refine wpAny_bind (wpAny_dictEpoch hoa hda ?_)
  refine wpAny_bind ?_
  rw [Std.Legacy.Range.forIn_eq_forIn_range']
  simp only [Std.Legacy.Range.size, Nat.sub_zero, Nat.add_sub_cancel, Nat.div_one]
  refine wpAny_forIn_list _
    (fun rest q s' => s' = s ∧ q = (none, ()) ∧ ∃ i, rest = List.range' i (es.size - i) ∧ i ≤ es.size ∧ HitsT prog w A s ys (xs.drop i))
    _ ?_ ?_ _ _ ⟨rfl, rfl, 0, by simp, Nat.zero_le _, hits⟩
  · rintro x rest q s' ⟨rfl, rfl, i, hr, hi, hpre⟩
    have hlt : i < es.size := by
      rcases Nat.lt_or_ge i es.size with h | h
      · exact h
      · rw [Nat.sub_eq_zero_of_le h] at hr; simp at hr
    obtain ⟨rfl, hrest⟩ : x = i ∧ rest = List.range' (i + 1) (es.size - (i + 1)) := by
      have e : es.size - i = (es.size - (i + 1)) + 1 := by omega
      rw [e, List.range'_succ] at hr
      injection hr with h1 h2
      exact ⟨h1, h2⟩
    refine wpAny_bind (wpAny_dictEntries hoa hda ?_)
    have hlt' : x < xs.length := by rw [← hla]; exact hlt
    rw [entry_at hea x, List.getElem?_eq_getElem hlt']
    obtain ⟨⟨k, c, v⟩, hkv⟩ : ∃ y, xs[x] = y := ⟨_, rfl⟩
    have hdrop : xs.drop x = (k, c, v) :: xs.drop (x + 1) := by rw [← hkv]; exact List.drop_eq_getElem_cons hlt'
    rw [hkv]
    have hin : (k, c, v) ∈ xs := by rw [← hkv]; exact List.getElem_mem hlt'
    rw [hdrop] at hpre
    cases hpre with
    | cons hat heq hrr =>
      rename_i p
      show wpAny _ _ (holding [Value.ref c, v] _ >>= _) _ _ _
      refine wpAny_bind (wpAny_holding (wpAny_bind (wpAny_dictFind_heap hu (hka _ hin) hob hdb heb hkb hnb (fun no => ?_) fun j p2 hj => ?_)))
      · rw [atKey_none_of_get no] at hat
        cases hat
      · have ep : p = p2 := Option.some.inj (hat.symm.trans (atKey_of_get hnb hj))
        subst ep
        refine wpAny_bind (wpAny_dictEntries hob hdb ?_)
        rw [entry_at heb j, hj]
        refine wpAny_holding (heq _ _ ?_)
        show wpAny _ _ (if (!true) = true then _ else _) _ _ _
        rw [if_neg (by decide)]
        refine wpAny_bind (wpAny_dictEpoch hoa hda ?_)
        rw [if_neg (by simp)]
        exact wpAny_pure ⟨rfl, rfl, x + 1, hrest, hlt, hrr⟩
  · rintro q s' ⟨rfl, rfl, i, hr, hi, hpre⟩
    exact wpAny_pure h
theorem rcP_dictsT {a b : Addr} {xs ys : List (K × Addr × Value)} {op : CmpOp} (hop : op = .Eq ∨ op = .NotEq) (hr : knd.room A.in1) (ha : (a == sysModules) = false) (hb : (b == sysModules) = false)
    (da : s.heap.DictOfH knd a xs) (db : s.heap.DictOfH knd b ys) (hu : A.units < cLine) (len : xs.length = ys.length) (hits : HitsT prog w A.in1 s ys xs) (E Q : Value → Shared → Prop) (h : Q (.bool (op == .Eq)) s) : wpAny (model prog w) A (richCompare op (.ref a) (.ref b)) Q E s := by
  rcases hop with rfl | rfl
  · refine wpAny_richCompare_same_room (op := .Eq) da.typeIs db.typeIs PySem.F.slot_dict_eq (wpAny_call_entry PySem.F.slot_dict_eq da.typeIs PySem.F.entry_dict_eq ?_ (PySem.F.args_dict_eq_2 _ _)) hu
    show wpAny _ _ (Builtin.Dict.dictSlotArgs "__eq__" ⟨[.ref a, .ref b], []⟩ >>= _) _ _ s
    refine wpAny_bind ?_
    unfold Builtin.Dict.dictSlotArgs
    refine wpAny_bind (wpAny_notOrdered_dict da.typeIs ?_)
    show wpAny _ _ (pure (Value.ref a, Value.ref b)) _ _ s
    refine wpAny_pure ?_
    refine wpAny_bind (wpAny_isInstance (T := "dict") db.typeIs PySem.F.sub_dict_dict ?_)
    simp only [Bool.not_true, Bool.false_eq_true, if_false]
    refine wpAny_bind (wpAny_pure (wpAny_bind (wpAny_pure ?_)))
    refine wpAny_bind (samePairsT hr ha hb da db len hits ?_)
    refine wpAny_pure ⟨_, rfl, ?_, ?_⟩
    · exact fun x => nomatch x
    · simpa using h
  · refine wpAny_richCompare_same_room (op := .NotEq) da.typeIs db.typeIs PySem.F.slot_dict_ne (wpAny_call_entry PySem.F.slot_dict_ne da.typeIs PySem.F.entry_dict_ne ?_ (PySem.F.args_dict_ne_2 _ _)) hu
    show wpAny _ _ (Builtin.Dict.dictSlotArgs "__ne__" ⟨[.ref a, .ref b], []⟩ >>= _) _ _ s
    refine wpAny_bind ?_
    unfold Builtin.Dict.dictSlotArgs
    refine wpAny_bind (wpAny_notOrdered_dict da.typeIs ?_)
    show wpAny _ _ (pure (Value.ref a, Value.ref b)) _ _ s
    refine wpAny_pure ?_
    refine wpAny_bind (wpAny_isInstance (T := "dict") db.typeIs PySem.F.sub_dict_dict ?_)
    simp only [Bool.not_true, Bool.false_eq_true, if_false]
    refine wpAny_bind (wpAny_pure (wpAny_bind (wpAny_pure ?_)))
    refine wpAny_bind (samePairsT hr ha hb da db len hits ?_)
    refine wpAny_pure ⟨_, rfl, ?_, ?_⟩
    · exact fun x => nomatch x
    · have e : (CmpOp.NotEq == CmpOp.Eq) = false := by decide
      rw [e] at h
      simpa using h
end
end PySem.W
namespace Ld
open PySem PySem.Spec PyProof.Rows L2
/-- equal values, of nesting below n; tuples and lists as data -/
def EqT (K : PySem.W.Frag) (H : Hp) : Nat → V → V → Prop
  | 0 => fun _ _ => False
  | n + 1 => fun x y => (x = y ∧ flatB x = true) ∨ (∃ a, x = .ref a ∧ y = .ref a) ∨ (∃ d, Dp K H x d ∧ Dp K H y d ∧ SeqAt.shaped d = true) ∨
      (∃ a b ks ls, x = .ref a ∧ y = .ref b ∧ H a = some (.dT ks) ∧ H b = some (.dT ls) ∧ ks.length = ls.length ∧ ∀ p ∈ ks, ∃ u, valV ls p.1 = some u ∧ EqT K H n p.2 u) ∨
      (∃ a b ks ls, x = .ref a ∧ y = .ref b ∧ H a = some (.dK ks) ∧ H b = some (.dK ls) ∧ ks.length = ls.length ∧ ∀ p ∈ ks, ∃ u, valV ls p.1 = some u ∧ EqT K H n p.2 u)
theorem hitsT_run {P : Program} {w : World} {A : Around} {s : Shared} {H : Hp} {F : V → V → Prop} (ih : ∀ x y v u, F x y → RelV x v → RelV y u → SeqAt.EqP P w A s v u true) {ls : List (List Key × V)} {yb : List (List Key × Addr × Value)} (rb : KT H ls yb) {ks : List (List Key × V)} {ya : List (List Key × Addr × Value)}
    (ra : KT H ks ya) : (∀ p ∈ ks, ∃ u, valV ls p.1 = some u ∧ F p.2 u) → PySem.W.HitsT P w A s yb ya := by
  unfold KT at ra
  induction ra with
  | nil => intro _; exact .nil
  | @cons p q ps qs h t k =>
    intro hp
    obtain ⟨h1, _, h2⟩ := h
    obtain ⟨u, e, f⟩ := hp p List.mem_cons_self
    have rr : RelO (some u) ((atKey yb p.1).map (·.2)) := by rw [← e]; exact rb.val p.1
    obtain ⟨y, hy, ry⟩ := rr.some_of
    obtain ⟨p2, hp2, rfl⟩ := Option.map_eq_some_iff.mp hy
    exact .cons (by rw [← h1]; exact hp2) (ih _ _ _ _ f h2 ry) (k fun p' hm => hp p' (List.mem_cons_of_mem _ hm))
section
variable {X : Cx} {pins : List (Addr × Obj)} {σ : L2.St} {H : Hp} {s : Shared}
theorem eqT_dT (I : Inv X pins σ H s) {A : Around} {F : V → V → Prop} {op : CmpOp} (hop : op = .Eq ∨ op = .NotEq) (hu : A.units + 1 < cLine) (ih : ∀ x y v u, F x y → RelV x v → RelV y u → SeqAt.EqP X.prog X.w A.in1 s v u true) {a b : Addr} {ks ls : List (List Key × V)}
    (ha : H a = some (.dT ks)) (hb : H b = some (.dT ls)) (hl : ks.length = ls.length) (hp : ∀ p ∈ ks, ∃ u, valV ls p.1 = some u ∧ F p.2 u)
    (E Q : Value → Shared → Prop) (q : Q (.bool (op == .Eq)) s) : wpAny (model X.prog X.w) A (richCompare op (.ref a) (.ref b)) Q E s := by
  obtain ⟨_, za, xa, ra, da⟩ := dt_of I.hok ha
  obtain ⟨_, zb, xb, rb, db⟩ := dt_of I.hok hb
  exact PySem.W.rcP_dictsT hop (show A.units + 1 < cLine from hu) za zb da db (by omega) (by rw [← Paired.length ra, ← Paired.length rb]; exact hl) (hitsT_run ih rb ra hp) E Q q
theorem eqT_dK (I : Inv X pins σ H s) {A : Around} {F : V → V → Prop} {op : CmpOp} (hop : op = .Eq ∨ op = .NotEq) (hu : A.units + 1 < cLine) (ih : ∀ x y v u, F x y → RelV x v → RelV y u → SeqAt.EqP X.prog X.w A.in1 s v u true) {a b : Addr} {ks ls : List (Key × V)}
    (ha : H a = some (.dK ks)) (hb : H b = some (.dK ls)) (hl : ks.length = ls.length) (hp : ∀ p ∈ ks, ∃ u, valV ls p.1 = some u ∧ F p.2 u)
    (E Q : Value → Shared → Prop) (q : Q (.bool (op == .Eq)) s) : wpAny (model X.prog X.w) A (richCompare op (.ref a) (.ref b)) Q E s := by
  obtain ⟨_, ya, va, ra, da⟩ := (show ObjOk X.prog X.w H s.heap a (.dK ks) from I.hok a _ ha)
  obtain ⟨_, yb, vb, rb, db⟩ := (show ObjOk X.prog X.w H s.heap b (.dK ls) from I.hok b _ hb)
  have hl2 : va.length = vb.length := by rw [← ra.length, ← rb.length]; exact hl
  rcases hop with rfl | rfl
  · refine PySem.W.rcP_dicts (knd := mixKind X.prog X.w) (r := true) ya yb da db (by omega) (fun _ => hits_run ih rb ra hp) E Q ?_
    rw [show (va.length == vb.length && true) = true from by rw [hl2]; simp]
    exact q
  · refine PySem.W.rcP_dictsNe (knd := mixKind X.prog X.w) (r := true) ya yb da db (by omega) (fun _ => hits_run ih rb ra hp) ?_
    rw [show (!(va.length == vb.length && true)) = false from by rw [hl2]; simp]
    exact q
theorem eqT_run (I : Inv X pins σ H s) : ∀ (n : Nat) (A : Around), A.units + n + 65 < cLine → ∀ (x y : V) (v u : Value), EqT X.K H n x y → RelV x v → RelV y u → SeqAt.EqP X.prog X.w A s v u true
  | 0, _, _, _, _, _, _, h, _, _ => (show False from h).elim
  | n + 1, A, hu, x, y, v, u, h, rx, ry => by
    have nx := eqT_run I n A.in1 (by show A.units + 1 + n + 65 < cLine; omega)
    rcases h with ⟨rfl, f⟩ | ⟨a, rfl, rfl⟩ | ⟨d, hx, hy, sh⟩ | ⟨a, b, ks, ls, rfl, rfl, ha, hb, hl, hp⟩ | ⟨a, b, ks, ls, rfl, rfl, ha, hb, hl, hp⟩
    · exact (eqAt_same rx ry f).eqP
    · cases (show v = Value.ref a from rx)
      cases (show u = Value.ref a from ry)
      exact (SeqAt.EqAt.same _).eqP
    · obtain ⟨as, r1⟩ := Dp.reads I d x v hx rx
      obtain ⟨bs, r2⟩ := Dp.reads I d y u hy ry
      have e := SeqAt.eqAt_reads d d A s v u as bs r1 r2 (SeqAt.canLay_of_shaped sh) (SeqAt.canLay_of_shaped sh) (SeqAt.room_of_shaped sh (by omega))
      rw [SeqAt.eqv_refl d (SeqAt.canLay_of_shaped sh)] at e
      exact e.eqP
    · cases (show v = Value.ref a from rx)
      cases (show u = Value.ref b from ry)
      by_cases e : a = b
      · subst e
        exact (SeqAt.EqAt.same _).eqP
      · exact SeqAt.eqP_refs e fun E Q q => eqT_dT I (.inl rfl) (by omega) nx ha hb hl hp E Q q
    · cases (show v = Value.ref a from rx)
      cases (show u = Value.ref b from ry)
      by_cases e : a = b
      · subst e
        exact (SeqAt.EqAt.same _).eqP
      · exact SeqAt.eqP_refs e fun E Q q => eqT_dK I (.inl rfl) (by omega) nx ha hb hl hp E Q q
end
/-- a == b and a != b of two dicts that are equal -/
def rEqT (K : PySem.W.Frag) (ne : Bool) : R2 := fun x y H Q => ∃ n, n ≤ 40 ∧ ((∃ a b ks ls, x = .ref a ∧ y = .ref b ∧ H a = some (.dT ks) ∧ H b = some (.dT ls) ∧ ks.length = ls.length ∧ ∀ p ∈ ks, ∃ u, valV ls p.1 = some u ∧ EqT K H n p.2 u) ∨
  (∃ a b ks ls, x = .ref a ∧ y = .ref b ∧ H a = some (.dK ks) ∧ H b = some (.dK ls) ∧ ks.length = ls.length ∧ ∀ p ∈ ks, ∃ u, valV ls p.1 = some u ∧ EqT K H n p.2 u)) ∧ Q (.bl (!ne)) H
theorem op_eqT {X : Cx} (hu : X.A.units + 120 < cLine) : OpR X (compareOp .Eq) (rEqT X.K false) := by
  intro pins s σ H x y v u Q I rx ry h
  obtain ⟨n, hn, h, q⟩ := h
  have nx := eqT_run I n X.A.in1 (by show X.A.units + 1 + n + 65 < cLine; omega)
  rcases h with ⟨a, b, ks, ls, rfl, rfl, ha, hb, hl, hp⟩ | ⟨a, b, ks, ls, rfl, rfl, ha, hb, hl, hp⟩
  · cases (show v = Value.ref a from rx)
    cases (show u = Value.ref b from ry)
    exact eqT_dT I (.inl rfl) (by omega) nx ha hb hl hp _ _ ⟨.bl true, H, I, rfl, q⟩
  · cases (show v = Value.ref a from rx)
    cases (show u = Value.ref b from ry)
    exact eqT_dK I (.inl rfl) (by omega) nx ha hb hl hp _ _ ⟨.bl true, H, I, rfl, q⟩
theorem op_neT {X : Cx} (hu : X.A.units + 120 < cLine) : OpR X (compareOp .NotEq) (rEqT X.K true) := by
  intro pins s σ H x y v u Q I rx ry h
  obtain ⟨n, hn, h, q⟩ := h
  have nx := eqT_run I n X.A.in1 (by show X.A.units + 1 + n + 65 < cLine; omega)
  rcases h with ⟨a, b, ks, ls, rfl, rfl, ha, hb, hl, hp⟩ | ⟨a, b, ks, ls, rfl, rfl, ha, hb, hl, hp⟩
  · cases (show v = Value.ref a from rx)
    cases (show u = Value.ref b from ry)
    exact eqT_dT I (.inr rfl) (by omega) nx ha hb hl hp _ _ ⟨.bl false, H, I, rfl, q⟩
  · cases (show v = Value.ref a from rx)
    cases (show u = Value.ref b from ry)
    exact eqT_dK I (.inr rfl) (by omega) nx ha hb hl hp _ _ ⟨.bl false, H, I, rfl, q⟩
end Ld

set_option Elab.async false
set_option linter.all false
set_option maxRecDepth 100000
set_option maxHeartbeats 4000000
/-! repr of data with dicts in it; a dict's keys may be tuples. -/
namespace Lr
open PySem PyProof.Rows
mutual
/-- v is the data d in h; no dict in it is the one of the modules -/
inductive RdS (h : Heap) : Value → PyData → Prop
  | plain {v : Value} {d : PyData} {as : List Addr} : Reads h v d as → d.hasDict = false → RdS h v d
  | list {a : Addr} {o : Obj} {vs : Array Value} {n : Nat} {xs : List PyData} : h.get? a = some o → o.cls = .type "list" → o.data = .seq vs n → RdSAll h vs.toList xs → RdS h (.ref a) (.list xs)
  | tuple {a : Addr} {o : Obj} {vs : Array Value} {n : Nat} {xs : List PyData} : h.get? a = some o → o.cls = .type "tuple" → o.data = .seq vs n → RdSAll h vs.toList xs → RdS h (.ref a) (.tuple xs)
  | dict {a : Addr} {o : Obj} {es : Array DictEntry} {n : Nat} {kvs : List (PyData × PyData)} : h.get? a = some o → o.cls = .type "dict" → o.data = .dict es n → (a == sysModules) = false →
      RdSAll h (es.toList.map (·.key)) (kvs.map (·.1)) → RdSAll h (es.toList.map (·.val)) (kvs.map (·.2)) → RdS h (.ref a) (.dict kvs)
inductive RdSAll (h : Heap) : List Value → List PyData → Prop
  | nil : RdSAll h [] []
  | cons {v : Value} {vs : List Value} {d : PyData} {ds : List PyData} : RdS h v d → RdSAll h vs ds → RdSAll h (v :: vs) (d :: ds)
end
mutual
theorem RdS.reads {h : Heap} : ∀ {v : Value} {d : PyData}, RdS h v d → ∃ as, Reads h v d as
  | _, _, .plain r _ => ⟨_, r⟩
  | _, _, .list h1 h2 h3 k => let ⟨_, r⟩ := RdSAll.reads k; ⟨_, .list h1 h2 h3 r⟩
  | _, _, .tuple h1 h2 h3 k => let ⟨_, r⟩ := RdSAll.reads k; ⟨_, .tuple h1 h2 h3 r⟩
  | _, _, .dict h1 h2 h3 _ k1 k2 => let ⟨_, r1⟩ := RdSAll.reads k1; let ⟨_, r2⟩ := RdSAll.reads k2; ⟨_, .dict h1 h2 h3 r1 r2⟩
theorem RdSAll.reads {h : Heap} : ∀ {vs : List Value} {ds : List PyData}, RdSAll h vs ds → ∃ as, ReadsAll h vs ds as
  | _, _, .nil => ⟨_, .nil⟩
  | _, _, .cons k r => let ⟨_, r1⟩ := RdS.reads k; let ⟨_, r2⟩ := RdSAll.reads r; ⟨_, .cons r1 r2⟩
end
section
variable {prog : Program} {w : World} {h₀ : Heap}
mutual
theorem RdS.shows : ∀ {v : Value} {d : PyData}, RdS h₀ v d → d.showable = true → d.shown.length ≤ sizeLine → ∃ bs, ReadAtMost h₀ d.depth bs ∧ ReprK prog w bs h₀ d.depth v d.shown
  | _, _, .plain r nd, sh, sz => ReprK.of_reads r sh (PyData.noDict_hsm nd) sz
  | _, _, .list (a := a) (vs := vs) (xs := xs) h1 h2 h3 k, sh, sz => by
    have sz2 : (listText (PyData.shownAll xs)).length ≤ sizeLine := by simpa only [PyData.shown] using sz
    obtain ⟨bs, b1, b2⟩ := RdSAll.shows k (by simpa [PyData.showable] using sh) fun t m => Nat.le_trans (listText_mem_le m) sz2
    obtain ⟨as, r0⟩ := RdSAll.reads k
    have r : Reads h₀ (.ref a) (.list xs) _ := .list h1 h2 h3 r0
    have deep : PyData.depthAll xs < (PyData.list xs).depth := by simp only [PyData.depth]; omega
    have out := not_mem_of_deeper r deep b1
    refine ⟨a :: bs, ReadAtMost.cons r (Nat.le_of_lt deep) b1, ?_⟩
    simp only [PyData.depth, PyData.shown]
    obtain ⟨l⟩ := vs
    cases l with
    | nil =>
      cases (show RdSAll h₀ [] xs from k)
      simp only [PyData.shownAll, listText_nil]
      exact ReprK.listEmpty h1 h2 h3
    | cons x l => exact ReprK.list h1 h2 h3 out (by simpa using b2.length_eq) fun i y e => b2.item i y (by simpa using e)
  | _, _, .tuple (a := a) (xs := xs) h1 h2 h3 k, sh, sz => by
    have sz2 : (tupleText (PyData.shownAll xs)).length ≤ sizeLine := by simpa only [PyData.shown] using sz
    obtain ⟨bs, b1, b2⟩ := RdSAll.shows k (by simpa [PyData.showable] using sh) fun t m => Nat.le_trans (tupleText_mem_le m) sz2
    obtain ⟨as, r0⟩ := RdSAll.reads k
    have r : Reads h₀ (.ref a) (.tuple xs) _ := .tuple h1 h2 h3 r0
    have deep : PyData.depthAll xs < (PyData.tuple xs).depth := by simp only [PyData.depth]; omega
    refine ⟨a :: bs, ReadAtMost.cons r (Nat.le_of_lt deep) b1, ?_⟩
    simp only [PyData.depth, PyData.shown]
    exact ReprK.tuple h1 h2 h3 (not_mem_of_deeper r deep b1) b2
  | _, _, .dict (a := a) (es := es) (kvs := kvs) h1 h2 h3 nsys k1 k2, sh, sz => by
    have sz2 : (dictText (PyData.shownKv kvs)).length ≤ sizeLine := by simpa only [PyData.shown] using sz
    obtain ⟨s1, s2⟩ := PyData.showableKv_split kvs (by simpa [PyData.showable] using sh)
    obtain ⟨bs, b1, b2⟩ := RdSAll.shows k1 s1 fun t m => let ⟨p, hp, hl⟩ := PyData.shownKv_key_le kvs t m; Nat.le_trans hl (Nat.le_trans (dictText_mem_le hp) sz2)
    obtain ⟨cs, c1, c2⟩ := RdSAll.shows k2 s2 fun t m => let ⟨p, hp, hl⟩ := PyData.shownKv_val_le kvs t m; Nat.le_trans hl (Nat.le_trans (dictText_mem_le hp) sz2)
    obtain ⟨as, r0⟩ := RdSAll.reads k1
    obtain ⟨as2, r1⟩ := RdSAll.reads k2
    have r : Reads h₀ (.ref a) (.dict kvs) _ := .dict h1 h2 h3 r0 r1
    have all : ReadAtMost h₀ (PyData.depthKv kvs) (bs ++ cs) := (b1.mono (PyData.depthAll_keys_le kvs)).append (c1.mono (PyData.depthAll_vals_le kvs))
    have deep : PyData.depthKv kvs < (PyData.dict kvs).depth := by simp only [PyData.depth]; omega
    refine ⟨a :: (bs ++ cs), ReadAtMost.cons r (Nat.le_of_lt deep) all, ?_⟩
    simp only [PyData.depth, PyData.shown, PyData.shownKv_eq]
    exact ReprK.dict h1 h2 h3 nsys (not_mem_of_deeper r deep all) (ReprEntriesK.of_two es.toList _ _
      (b2.more_le (fun b m => List.mem_append_left _ m) (PyData.depthAll_keys_le kvs)) (c2.more_le (fun b m => List.mem_append_right _ m) (PyData.depthAll_vals_le kvs)))
theorem RdSAll.shows : ∀ {vs : List Value} {ds : List PyData}, RdSAll h₀ vs ds → PyData.showableAll ds = true → (∀ t ∈ PyData.shownAll ds, t.length ≤ sizeLine) → ∃ bs, ReadAtMost h₀ (PyData.depthAll ds) bs ∧ ReprAllK prog w bs h₀ (PyData.depthAll ds) vs (PyData.shownAll ds)
  | _, _, .nil, _, _ => ⟨[], (fun _ m => nomatch m), by simp only [PyData.shownAll]; exact .nil⟩
  | _, _, .cons (d := d) (ds := ds) k r, sh, sz => by
    have sh2 : d.showable = true ∧ PyData.showableAll ds = true := by simpa [PyData.showableAll] using sh
    obtain ⟨bs, b1, b2⟩ := RdS.shows k sh2.1 (sz _ (by simp only [PyData.shownAll]; exact List.mem_cons_self ..))
    obtain ⟨cs, c1, c2⟩ := RdSAll.shows r sh2.2 fun t m => sz t (by simp only [PyData.shownAll]; exact List.mem_cons_of_mem _ m)
    have u1 : d.depth ≤ PyData.depthAll (d :: ds) := by simp only [PyData.depthAll]; omega
    have u2 : PyData.depthAll ds ≤ PyData.depthAll (d :: ds) := by simp only [PyData.depthAll]; omega
    refine ⟨bs ++ cs, (b1.mono u1).append (c1.mono u2), ?_⟩
    simp only [PyData.shownAll]
    exact .cons ((b2.more fun b m => List.mem_append_left _ m).level_le u1) (c2.more_le (fun b m => List.mem_append_right _ m) u2)
end
/-- repr of a tuple or a dict, where nothing is being shown -/
theorem repr_rdS {a : Addr} {d : PyData} {A : Around} {E : Value → Shared → Prop} {s : Shared} {Q : Value → Shared → Prop} (r : RdS s.heap (.ref a) d) (hd : d.hasDict = true) (sh : d.showable = true) (sz : d.shown.length ≤ sizeLine) (hg : A.guards = some []) (hu : A.units + (d.depth + 1) < cLine)
    (hQ : ∀ h' u tk, (∀ b o, s.heap.get? b = some o → h'.get? b = some o) → Q (.str d.shown u) { s with heap := h', toks := tk }) : wpAny (model prog w) A (call (.builtin "repr") [.ref a]) Q E s := by
  cases r with
  | plain r nd =>
    rw [nd] at hd
    cases hd
  | list h1 h2 h3 k =>
    rename_i o vs n xs
    have sz2 : (listText (PyData.shownAll xs)).length ≤ sizeLine := by simpa only [PyData.shown] using sz
    obtain ⟨bs, b1, b2⟩ := RdSAll.shows (prog := prog) (w := w) k (by simpa [PyData.showable] using sh) fun t m => Nat.le_trans (listText_mem_le m) sz2
    obtain ⟨as, r0⟩ := RdSAll.reads k
    have deep : PyData.depthAll xs < (PyData.list xs).depth := by simp only [PyData.depth]; omega
    have out := not_mem_of_deeper (.list h1 h2 h3 r0) deep b1
    simp only [PyData.depth] at hu
    simp only [PyData.shown] at hQ
    obtain ⟨l⟩ := vs
    cases l with
    | nil =>
      cases (show RdSAll s.heap [] xs from k)
      exact absurd hd (by decide)
    | cons x l =>
      exact call_repr_slot (by omega) ⟨o, h1, h2⟩ F.slot_list_repr.toG (call_list_reprK h1 h2 h3 out (by simpa using b2.length_eq) (fun i y e => b2.item i y (by simpa using e)) (A := A.in1) hg (fun b _ => Clear.nil b) (by show A.units + 1 + _ < cLine; omega) (fun _ _ e => e) (fun h' u tk up => ⟨_, _, rfl, hQ h' u tk up⟩) sz2)
  | tuple h1 h2 h3 k =>
    rename_i o vs n xs
    have sz2 : (tupleText (PyData.shownAll xs)).length ≤ sizeLine := by simpa only [PyData.shown] using sz
    obtain ⟨bs, b1, b2⟩ := RdSAll.shows (prog := prog) (w := w) k (by simpa [PyData.showable] using sh) fun t m => Nat.le_trans (tupleText_mem_le m) sz2
    obtain ⟨as, r0⟩ := RdSAll.reads k
    have deep : PyData.depthAll xs < (PyData.tuple xs).depth := by simp only [PyData.depth]; omega
    simp only [PyData.depth] at hu
    simp only [PyData.shown] at hQ
    exact call_repr_slot (by omega) ⟨o, h1, h2⟩ F.slot_tuple_repr (call_tuple_reprK h1 h2 h3 (not_mem_of_deeper (.tuple h1 h2 h3 r0) deep b1) b2 (A := A.in1) hg (fun b _ => Clear.nil b) (by show A.units + 1 + _ < cLine; omega) (fun _ _ e => e) (fun h' u tk up => ⟨_, _, rfl, hQ h' u tk up⟩) sz2)
  | dict h1 h2 h3 nsys k1 k2 =>
    rename_i o es n kvs
    have sz2 : (dictText (PyData.shownKv kvs)).length ≤ sizeLine := by simpa only [PyData.shown] using sz
    obtain ⟨s1, s2⟩ := PyData.showableKv_split kvs (by simpa [PyData.showable] using sh)
    obtain ⟨bs, b1, b2⟩ := RdSAll.shows (prog := prog) (w := w) k1 s1 fun t m => let ⟨p, hp, hl⟩ := PyData.shownKv_key_le kvs t m; Nat.le_trans hl (Nat.le_trans (dictText_mem_le hp) sz2)
    obtain ⟨cs, c1, c2⟩ := RdSAll.shows (prog := prog) (w := w) k2 s2 fun t m => let ⟨p, hp, hl⟩ := PyData.shownKv_val_le kvs t m; Nat.le_trans hl (Nat.le_trans (dictText_mem_le hp) sz2)
    obtain ⟨as, r0⟩ := RdSAll.reads k1
    obtain ⟨as2, r1⟩ := RdSAll.reads k2
    have all : ReadAtMost s.heap (PyData.depthKv kvs) (bs ++ cs) := (b1.mono (PyData.depthAll_keys_le kvs)).append (c1.mono (PyData.depthAll_vals_le kvs))
    have deep : PyData.depthKv kvs < (PyData.dict kvs).depth := by simp only [PyData.depth]; omega
    simp only [PyData.depth] at hu
    simp only [PyData.shown, PyData.shownKv_eq] at hQ
    exact call_repr_slot (by omega) ⟨o, h1, h2⟩ F.slot_dict_repr (call_dict_reprK h1 h2 h3 nsys (not_mem_of_deeper (.dict h1 h2 h3 r0 r1) deep all) (ReprEntriesK.of_two es.toList _ _
      (b2.more_le (fun b m => List.mem_append_left _ m) (PyData.depthAll_keys_le kvs)) (c2.more_le (fun b m => List.mem_append_right _ m) (PyData.depthAll_vals_le kvs))) (A := A.in1) hg (fun b _ => Clear.nil b) (by show A.units + 1 + _ < cLine; omega) (fun _ _ e => e) (fun h' u tk up => ⟨_, _, rfl, hQ h' u tk up⟩) (by rw [← PyData.shownKv_eq]; exact sz2))
end
end Lr
namespace Lr
open PySem PySem.Spec PyProof.Rows L2
/-- the data of a dict's key -/
def keyD : Key → PyData
  | .inl n => .int n
  | .inr s => .str s
mutual
/-- v is the data d, dicts among it -/
inductive Dq (K : PySem.W.Frag) (H : Hp) : V → PyData → Prop
  | dp {v : V} {d : PyData} : Dp K H v d → Dq K H v d
  | lst {a : Addr} {xs : List V} {ds : List PyData} : SqL K H a xs → DqAll K H xs ds → Dq K H (.ref a) (.list ds)
  | tup {a : Addr} {xs : List V} {ds : List PyData} : SqT K H a xs → DqAll K H xs ds → Dq K H (.ref a) (.tuple ds)
  | dT {a : Addr} {kvs : List (List Key × V)} {ds : List (PyData × PyData)} : H a = some (.dT kvs) → DqT K H kvs ds → Dq K H (.ref a) (.dict ds)
inductive DqAll (K : PySem.W.Frag) (H : Hp) : List V → List PyData → Prop
  | nil : DqAll K H [] []
  | cons {v : V} {vs : List V} {d : PyData} {ds : List PyData} : Dq K H v d → DqAll K H vs ds → DqAll K H (v :: vs) (d :: ds)
inductive DqT (K : PySem.W.Frag) (H : Hp) : List (List Key × V) → List (PyData × PyData) → Prop
  | nil : DqT K H [] []
  | cons {k : List Key} {v : V} {kvs : List (List Key × V)} {d : PyData} {ds : List (PyData × PyData)} : Dq K H v d → DqT K H kvs ds → DqT K H ((k, v) :: kvs) ((.tuple (k.map keyD), d) :: ds)
end
mutual
theorem dp_noDict {K : PySem.W.Frag} {H : Hp} : ∀ (d : PyData) (v : V), Dp K H v d → d.hasDict = false
  | .none, _, _ => rfl
  | .bool _, _, _ => rfl
  | .int _, _, _ => rfl
  | .str _, _, _ => rfl
  | .list ds, _, h => by
    cases h with
    | lst _ h2 => simpa [PyData.hasDict] using dps_noDict ds _ h2
  | .tuple ds, _, h => by
    cases h with
    | tup _ h2 => simpa [PyData.hasDict] using dps_noDict ds _ h2
  | .dict _, _, h => by cases h
theorem dps_noDict {K : PySem.W.Frag} {H : Hp} : ∀ (ds : List PyData) (vs : List V), DpAll K H vs ds → PyData.hasDictAll ds = false
  | [], _, _ => rfl
  | d :: ds, _, h => by
    cases h with
    | cons h1 h2 => simp [PyData.hasDictAll, dp_noDict d _ h1, dps_noDict ds _ h2]
end
theorem dp_keys {K : PySem.W.Frag} {H : Hp} : ∀ k : List Key, DpAll K H (k.map kV) (k.map keyD)
  | [] => .nil
  | .inl n :: k => .cons (.int n) (dp_keys k)
  | .inr s :: k => .cons (.str s) (dp_keys k)
section
variable {X : Cx} {pins : List (Addr × Obj)} {σ : L2.St} {H : Hp} {s : Shared}
theorem dp_rdS (I : Inv X pins σ H s) {v : V} {d : PyData} {u : Value} (h : Dp X.K H v d) (r : RelV v u) : RdS s.heap u d :=
  let ⟨_, z⟩ := Dp.reads I d v u h r
  .plain z (dp_noDict d v h)
mutual
theorem Dq.rdS (I : Inv X pins σ H s) : ∀ {v : V} {d : PyData} {u : Value}, Dq X.K H v d → RelV v u → RdS s.heap u d
  | _, _, _, .dp h, r => dp_rdS I h r
  | _, _, _, .lst hs ha, r => by
    cases r
    obtain ⟨its, rv, ⟨o, n, ho, hc, _, hd⟩, _⟩ := I.list hs
    exact .list ho hc hd (DqAll.rdS I ha rv)
  | _, _, _, .tup hs ha, r => by
    cases r
    obtain ⟨its, rv, ⟨o, ho, hc, n, hd⟩, _⟩ := I.tuple hs
    exact .tuple ho hc hd (DqAll.rdS I ha rv)
  | _, _, _, .dT hs ha, r => by
    cases r
    obtain ⟨_, y, xs, kt, o, es, ep, h1, h2, h3, h4, _⟩ := dt_of I.hok hs
    obtain ⟨k1, k2⟩ := DqT.rdS I ha kt
    refine .dict h1 h2.1 h3 y ?_ ?_
    · rw [h4, List.map_map]
      exact k1
    · rw [h4, List.map_map]
      exact k2
theorem DqAll.rdS (I : Inv X pins σ H s) : ∀ {vs : List V} {ds : List PyData} {us : List Value}, DqAll X.K H vs ds → Vals vs us → RdSAll s.heap us ds
  | _, _, _, .nil, r => by
    cases r
    exact .nil
  | _, _, _, .cons h t, r => by
    cases r with
    | cons r1 r2 => exact .cons (Dq.rdS I h r1) (DqAll.rdS I t r2)
theorem DqT.rdS (I : Inv X pins σ H s) : ∀ {kvs : List (List Key × V)} {ds : List (PyData × PyData)} {xs : List (List Key × Addr × Value)}, DqT X.K H kvs ds → KT H kvs xs →
    RdSAll s.heap (xs.map fun x => Value.ref x.2.1) (ds.map (·.1)) ∧ RdSAll s.heap (xs.map fun x => x.2.2) (ds.map (·.2))
  | _, _, _, .nil, r => by
    cases r
    exact ⟨.nil, .nil⟩
  | _, _, _, .cons (k := k) h t, r => by
    cases r with
    | cons r1 r2 =>
      obtain ⟨_, e, rv⟩ := r1
      obtain ⟨z1, z2⟩ := DqT.rdS I t r2
      exact ⟨.cons (dp_rdS I (.tup (SqT.of e) (dp_keys k)) rfl) z1, .cons (Dq.rdS I h rv) z2⟩
end
end
/-- repr of a tuple or a list or a dict, with dicts in it -/
def rReprQ (K : PySem.W.Frag) : List V → Hp → VK → Prop := fun xs H Q => ∃ (a : Addr) (d : PyData), xs = [.ref a] ∧ Dq K H (.ref a) d ∧ d.hasDict = true ∧ d.showable = true ∧ d.depth ≤ 60 ∧ d.shown.length ≤ sizeLine ∧ Q (.str d.shown) H
theorem call_reprQ {X : Cx} (hg : X.A.guards = some []) (hu : X.A.units + 66 < cLine) : CallR X (.builtin "repr") (rReprQ X.K) := by
  intro pins s σ H xs us Q I r h
  obtain ⟨a, d, rfl, hd, has, show_, dep, sz, q⟩ := h
  obtain ⟨u, rfl, rx⟩ := vals1 r
  obtain rfl : u = Value.ref a := rx
  exact repr_rdS (Dq.rdS I hd rfl) has show_ sz hg (by omega) fun h2 v tk up => ⟨.str _, H, I.kept up, ⟨v, rfl⟩, q⟩
/-! ### how long shown data is -/
mutual
/-- a bound of the length of what is shown -/
def wt : PyData → Nat
  | .none => 4
  | .bool _ => 5
  | .int i => (toString i : Str).length
  | .str s => (PySem.reprText s).length
  | .list xs => wtAll xs + 4
  | .tuple xs => wtAll xs + 4
  | .dict kvs => wtKv kvs + 4
def wtAll : List PyData → Nat
  | [] => 0
  | x :: xs => wt x + 2 + wtAll xs
def wtKv : List (PyData × PyData) → Nat
  | [] => 0
  | (k, v) :: r => wt k + wt v + 4 + wtKv r
end
theorem listText_piled (ts : List Str) : (listText ts).length ≤ piled ts + 4 := by
  have : ∀ (ts : List Str) (k : Nat) (acc : Str), (textFrom k acc ts).length ≤ acc.length + piled ts := by
    intro ts
    induction ts with
    | nil =>
      intro k acc
      rw [textFrom, piled_nil]
      exact Nat.le_refl _
    | cons t ts ih =>
      intro k acc
      have h1 := ih (k + 1) (acc ++ (if k > 0 then ", " else "" : String) ++ t)
      have h2 : (acc ++ (if k > 0 then ", " else "" : String) ++ t).length ≤ acc.length + 2 + t.length := by
        rw [strLen_append, strLen_append]
        have : ((if k > 0 then ", " else "" : String) : Str).length ≤ 2 := by
          split
          · exact Nat.le_refl 2
          · exact Nat.zero_le 2
        omega
      rw [textFrom, piled_cons]
      omega
  have h := this ts 0 "["
  have e1 : (("[" : String) : Str).length = 1 := rfl
  have e2 : (("]" : String) : Str).length = 1 := rfl
  unfold listText
  rw [strLen_append]
  omega
theorem joined_piled (ts : List Str) : (Str.join ", " ts).length ≤ piled ts := by
  by_cases h : ts = []
  · subst h
    exact Nat.zero_le _
  · have := join_length_add ts h
    omega
theorem tupleText_piled (ts : List Str) : (tupleText ts).length ≤ piled ts + 4 := by
  have h := joined_piled ts
  have e1 : (("(" : String) : Str).length = 1 := rfl
  have e2 : ((if ts.length == 1 then ",)" else ")" : String) : Str).length ≤ 2 := by
    split
    · exact Nat.le_refl 2
    · exact Nat.le_succ 1
  unfold tupleText
  rw [strLen_append, strLen_append]
  omega
theorem dictText_piled (ts : List Str) : (dictText ts).length ≤ piled ts + 4 := by
  have h := joined_piled ts
  have e1 : (("{" : String) : Str).length = 1 := rfl
  have e2 : (("}" : String) : Str).length = 1 := rfl
  unfold dictText
  rw [strLen_append, strLen_append]
  omega
mutual
theorem shown_wt : ∀ d : PyData, d.shown.length ≤ wt d
  | .none => by
    rw [PyData.shown, wt]
    exact Nat.le_refl _
  | .bool b => by
    rw [PyData.shown, wt]
    cases b
    · exact Nat.le_refl _
    · exact Nat.le_succ _
  | .int i => by
    rw [PyData.shown, wt]
    exact Nat.le_refl _
  | .str s => by
    rw [PyData.shown, wt]
    exact Nat.le_refl _
  | .list xs => by
    rw [PyData.shown, wt]
    have := listText_piled (PyData.shownAll xs)
    have := shownAll_wt xs
    omega
  | .tuple xs => by
    rw [PyData.shown, wt]
    have := tupleText_piled (PyData.shownAll xs)
    have := shownAll_wt xs
    omega
  | .dict kvs => by
    rw [PyData.shown, wt]
    have := dictText_piled (PyData.shownKv kvs)
    have := shownKv_wt kvs
    omega
theorem shownAll_wt : ∀ ds : List PyData, piled (PyData.shownAll ds) ≤ wtAll ds
  | [] => by
    rw [PyData.shownAll, wtAll, piled_nil]
    exact Nat.le_refl _
  | d :: ds => by
    rw [PyData.shownAll, wtAll, piled_cons]
    have := shown_wt d
    have := shownAll_wt ds
    omega
theorem shownKv_wt : ∀ ds : List (PyData × PyData), piled (PyData.shownKv ds) ≤ wtKv ds
  | [] => by
    rw [PyData.shownKv, wtKv, piled_nil]
    exact Nat.le_refl _
  | (k, v) :: ds => by
    rw [PyData.shownKv, wtKv, piled_cons]
    have := shown_wt k
    have := shown_wt v
    have := shownKv_wt ds
    have e : ((": " : String) : Str).length = 2 := rfl
    rw [strLen_append, strLen_append]
    omega
end
theorem wtAll_up {B : Nat} : ∀ {ds : List PyData}, (∀ d ∈ ds, wt d ≤ B) → wtAll ds ≤ (B + 2) * ds.length
  | [], _ => by
    rw [wtAll]
    exact Nat.zero_le _
  | d :: ds, h => by
    rw [wtAll, List.length_cons, Nat.mul_succ]
    have := h d List.mem_cons_self
    have := wtAll_up (ds := ds) fun x m => h x (List.mem_cons_of_mem _ m)
    omega
theorem wtKv_up {B : Nat} : ∀ {ds : List (PyData × PyData)}, (∀ d ∈ ds, wt d.1 + wt d.2 ≤ B) → wtKv ds ≤ (B + 4) * ds.length
  | [], _ => by
    rw [wtKv]
    exact Nat.zero_le _
  | (k, v) :: ds, h => by
    rw [wtKv, List.length_cons, Nat.mul_succ]
    have h1 : wt k + wt v ≤ B := h (k, v) List.mem_cons_self
    have := wtKv_up (ds := ds) fun x m => h x (List.mem_cons_of_mem _ m)
    omega
end Lr

set_option Elab.async false
set_option linter.all false
set_option maxRecDepth 100000
set_option maxHeartbeats 4000000
namespace Ld
open PySem PySem.Spec PyProof.Rows L2 Lg Lr
def topS (i : Nat) : Stmt := PySem.Challenge.pw_leastmend_k12_prices_of_mends.main.body.getD i (.Pass ⟨0, 0, 0, 0⟩)
abbrev s_is_kind : Stmt := topS 2
abbrev s__is_word : Stmt := topS 3
abbrev s_is_prices : Stmt := topS 7
abbrev s__is_price : Stmt := topS 8
abbrev s__is_key : Stmt := topS 9
abbrev s__may_be_read : Stmt := topS 10
abbrev s_put_price : Stmt := topS 11
abbrev s_out_price : Stmt := topS 12
abbrev s_change_price : Stmt := topS 13
abbrev s__law_draws : Stmt := topS 15
abbrev sDraws : Stmt := topS 15
abbrev s__law_at : Stmt := topS 16
abbrev sAt : Stmt := topS 16
abbrev s__law_is_integer : Stmt := topS 17
abbrev sLInt : Stmt := topS 17
abbrev s__law_prices : Stmt := topS 18
abbrev sPrices : Stmt := topS 18
abbrev s__law_put : Stmt := topS 19
abbrev sLPut : Stmt := topS 19
abbrev s__law_out : Stmt := topS 20
abbrev sLOut : Stmt := topS 20
abbrev s__law_change : Stmt := topS 21
abbrev sLChg : Stmt := topS 21
abbrev s__law_leaf : Stmt := topS 22
abbrev sLLeaf : Stmt := topS 22
abbrev s__law_is_name : Stmt := topS 23
abbrev sLIsName : Stmt := topS 23
abbrev s__law_bad : Stmt := topS 24
abbrev sBad : Stmt := topS 24
abbrev s_law : Stmt := topS 25
abbrev sLaw : Stmt := topS 25
section
variable {P : Program} {w : World} {K : PySem.W.Frag} {mg : Str → Option Value} {base : Heap}
/-! ### the law's own draws -/
theorem scDr : FnScope ["script", "draws", "k", "rest", "turn", "mixed"] ["script"] (defScope sDraws) := ⟨rfl, rfl, rfl, by decide +kernel, rfl, by decide +kernel, by decide +kernel⟩
/-- a new list of the draws; what stood stands -/
def spDraws (K : PySem.W.Frag) : Sp := fun vs H Q _ => ∃ (a : Addr) (ns : List Int), vs = [.ref a] ∧ SqL K H a (ns.map V.int) ∧ ns.length ≤ 63 ∧
  ∀ p, H p = none → Q (.ref p) (upd H p (.lst ((drawsOf ns).map V.int)))
theorem ok_draws {f : Addr} {fd : FuncData} {k : Nat} (F : Fun K "_law_draws" "_law_draws" sDraws f fd) (mr : mg "range" = none) (mm : mg "min" = none) (ml : mg "len" = none) (ma : mg "abs" = none) (mi : mg "int" = none) :
    FnOk P w K mg base CX0 (k + 1) f fd ["script"] (spDraws K) := by
  refine F.ok scDr (fun vs H Q E h => ?_) (fun cdv A outer s H vs Q E hr h => ?_)
  · obtain ⟨a, ns, rfl, _⟩ := h
    rfl
  · obtain ⟨a, ns, rfl, hS, hlen, q⟩ := h
    refine ⟨_, pss_cons (ps_set (i := 1) scDr.nd rfl (.inl rfl) (pe_lst pa_nil))
      (pss_cons (ps_for PassesOwn.never rfl (pi_range1 rfl mr (pa_cons (pe_callB (call_min2 rfl) (by rfl) mm (by decide +kernel) (pa_cons pe_int (pa_cons (pe_callB call_len_seq (by rfl) ml PySem.boot_len (pa_cons (pv 0) pa_nil)) pa_nil))) pa_nil))
          (pg_name (i := 2) scDr.nd rfl (.inl rfl))
        (pss_cons (ps_set (i := 3) scDr.nd rfl (.inl rfl) (pe_callB call_abs (by rfl) ma (by decide +kernel) (pa_cons (pe_ix ix_list (pv 0) (pv 2) (fun _ _ => rfl)) pa_nil)))
        (pss_one (ps_if (pt_cmpR op_ge (pv 3) (pe_op op_pow pe_int pe_int) (nomark _))
          (pss_one (ps_for PassesOwn.never rfl (pi_range1 rfl mr (pa_cons pe_int pa_nil)) (pg_name (i := 4) scDr.nd rfl (.inl rfl))
            (pss_one (ps_if (pt_cmpR op_gt (pv 3) pe_int (nomark _))
              (pss_cons (ps_expr (pe_bm PySem.F.plainAttrs_list PySem.F.slot_list_append PySem.F.type_list_append mt_append (pv 1) (pa_cons (pe_op op_mod (pe_callTy call_int1 (by rfl) mi (by decide +kernel) (pa_cons (pv 3) pa_nil)) pe_int) pa_nil)))
              (pss_one (ps_set (i := 3) scDr.nd rfl (.inl rfl) (pe_op op_fdiv (pv 3) pe_int)))) pss_nil))))
          (pss_cons (ps_set (i := 5) scDr.nd rfl (.inl rfl) (pe_op op_mod (pe_callTy call_int1 (by rfl) mi (by decide +kernel) (pa_cons (pe_op op_add (pe_op op_mul (pv 3) pe_int) (pe_op op_mul (pe_op op_add (pv 2) pe_int) pe_int)) pa_nil)) pe_int))
          (pss_cons (ps_set (i := 5) scDr.nd rfl (.inl rfl) (pe_op op_mod (pe_callTy call_int1 (by rfl) mi (by decide +kernel) (pa_cons (pe_op op_add (pe_op op_add (pe_op op_mul (pv 5) pe_int) (pe_op op_mul pe_int (pv 2))) pe_int) pa_nil)) pe_int))
          (pss_cons (ps_expr (pe_bm PySem.F.plainAttrs_list PySem.F.slot_list_append PySem.F.type_list_append mt_append (pv 1) (pa_cons (pe_op op_mod (pe_callTy call_int1 (by rfl) mi (by decide +kernel) (pa_cons (pv 5) pa_nil)) pe_int) pa_nil)))
          (pss_one (ps_expr (pe_bm PySem.F.plainAttrs_list PySem.F.slot_list_append PySem.F.type_list_append mt_append (pv 1) (pa_cons (pe_op op_mod (pe_callTy call_int1 (by rfl) mi (by decide +kernel) (pa_cons (pe_op op_fdiv (pv 5) pe_int) pa_nil)) pe_int) pa_nil)))))))))))
      (pss_one (ps_ret (pv 1)))), ?_⟩
    -- draws = []
    refine ⟨Nat.zero_le _, fun o no => ?_⟩
    have s1 : Same H (upd H o (.lst [])) := same_upd no
    have nao : ∀ G : HO, SqL K (upd H o G) a (ns.map V.int) := fun G => (same_upd no).seq hS
    have hi62 : (ns.length : Int) < 2 ^ 62 := by omega
    -- range(min(63, len(script)))
    have ej : (if ((ns.map V.int).length : Int) < 63 then ((ns.map V.int).length : Int) else 63) = (ns.length : Int) := by
      rw [List.length_map]
      split <;> omega
    refine ⟨.ref a, rfl, a, ns.map V.int, rfl, .inl (s1.seq hS), 63, _, rfl, _, rfl, by rw [ej]; omega, by rw [ej]; omega, ?_⟩
    rw [ej]
    refine for_range (lo := 0) (n := ns.length) (fun i σ H' => ∃ v2 v3 v4 v5, σ = [some (.ref a), some (.ref o), v2, v3, v4, v5] ∧ H' = upd H o (.lst ((drawsN ns i).map V.int))) ⟨none, none, none, none, rfl, rfl⟩ ?_ ?_
    · rintro i σ H' hi ⟨v2, v3, v4, v5, rfl, rfl⟩
      have gi := getI hi
      have hSi := nao (.lst ((drawsN ns i).map V.int))
      have hl := drawsN_len ns i
      -- rest = abs(script[k])
      refine ⟨.ref a, rfl, _, rfl, a, _, _, _, rfl, rfl, hSi, at_of (j := i) (by omega) gi, ns.getD i 0, rfl, ?_⟩
      rw [Int.zero_add]
      refine ⟨_, rfl, _, _, rfl, rfl, ⟨by decide, by decide, by decide⟩, _, _, rfl, rfl, _, rfl, ite2 (fun c => ?_) (fun c => ?_)⟩
      · -- the digits
        have c1 : (10 : Int) ^ (18 : Int).toNat ≤ dabs (ns.getD i 0) := of_decide_eq_true c
        have e1 : drawsN ns (i + 1) = (diter 60 (dabs (ns.getD i 0), drawsN ns i)).2 := if_pos c1
        refine ⟨60, rfl, by decide, by decide, for_range (lo := 0) (n := 60) (fun j σ H' => ∃ v4, σ = [some (.ref a), some (.ref o), some (.int i), some (.int (diter j (dabs (ns.getD i 0), drawsN ns i)).1), v4, v5] ∧ H' = upd H o (.lst ((diter j (dabs (ns.getD i 0), drawsN ns i)).2.map V.int)))
          ⟨v4, rfl, rfl⟩ ?_ ?_⟩
        · rintro j σ H' hj ⟨w4, rfl, rfl⟩
          have hl2 := diter_len (dabs (ns.getD i 0), drawsN ns i) j
          generalize hp : diter j (dabs (ns.getD i 0), drawsN ns i) = p at hl2
          have e2 : diter (j + 1) (dabs (ns.getD i 0), drawsN ns i) = dstep p := by rw [← hp]; rfl
          refine ⟨_, rfl, _, _, rfl, rfl, _, rfl, ite2 (fun c2 => ?_) (fun c2 => ?_)⟩
          · have e3 : dstep p = (p.1 / 65536, p.2 ++ [p.1 % 65536]) := if_pos (of_decide_eq_true c2)
            refine ⟨.ref o, rfl, .inl ⟨rfl, _, SqL.of upd_same⟩, _, rfl, .inl ⟨_, rfl, _, _, rfl, rfl, (by show (0 : Int) < 65536; decide), o, _, _, rfl, rfl, upd_same, ?_, _, rfl, _, _, rfl, rfl, ⟨by decide, by decide⟩, some (.int (0 + j)), ?_, ?_⟩⟩
            · rw [List.length_map]
              refine small4000 ?_
              have hl3 : (drawsN ns i).length ≤ 60 * i := hl
              have hl4 : p.2.length ≤ (drawsN ns i).length + j := hl2
              omega
            · rw [e2, e3]
              rfl
            · rw [e2, e3, upd_upd, List.map_append]
              rfl
          · have e3 : dstep p = p := if_neg fun z => c2 (decide_eq_true z)
            refine ⟨some (.int (0 + j)), ?_, ?_⟩
            · rw [e2, e3]
              rfl
            · rw [e2, e3]
        · rintro σ H' ⟨w4, rfl, rfl⟩
          exact ⟨_, _, _, _, rfl, by rw [e1]⟩
      · -- two mixed numbers
        have e1 : drawsN ns (i + 1) = drawsN ns i ++ [dmix2 i (dabs (ns.getD i 0)) % 65536] ++ [dmix2 i (dabs (ns.getD i 0)) / 65536 % 32768] := if_neg fun z => c (decide_eq_true z)
        refine ⟨_, rfl, _, _, rfl, rfl, .inr ⟨by decide, by decide⟩, _, rfl, _, _, rfl, rfl, _, _, rfl, rfl, .inr ⟨by decide, by decide⟩, _, _, rfl, rfl, .inl ⟨_, rfl, _, _, rfl, rfl, (by show (0 : Int) < 2147483647; decide), ?_⟩⟩
        refine ⟨_, rfl, _, _, rfl, rfl, .inr ⟨by decide, by decide⟩, _, rfl, _, _, rfl, rfl, .inl ⟨by decide, by decide⟩, _, _, rfl, rfl, _, _, rfl, rfl, .inl ⟨_, rfl, _, _, rfl, rfl, (by show (0 : Int) < 2147483629; decide), ?_⟩⟩
        refine ⟨.ref o, rfl, .inl ⟨rfl, _, SqL.of upd_same⟩, _, rfl, .inl ⟨_, rfl, _, _, rfl, rfl, (by show (0 : Int) < 65536; decide), o, _, _, rfl, rfl, upd_same, ?_, ?_⟩⟩
        · rw [List.length_map]
          exact small4000 (by omega)
        refine ⟨.ref o, rfl, .inl ⟨rfl, _, SqL.of upd_same⟩, _, rfl, _, _, rfl, rfl, ⟨by decide, by decide⟩, .inl ⟨_, rfl, _, _, rfl, rfl, (by show (0 : Int) < 32768; decide), o, _, _, rfl, rfl, upd_same, ?_, ?_⟩⟩
        · rw [List.length_append, List.length_map]
          exact small4000 (by show (drawsN ns i).length + 1 ≤ 4000; omega)
        refine ⟨_, _, _, _, rfl, ?_⟩
        rw [e1, upd_upd, upd_upd, List.map_append, List.map_append]
        rfl
    · rintro σ H' ⟨v2, v3, v4, v5, rfl, rfl⟩
      exact ⟨.ref o, rfl, q o no⟩
/-! ### a draw below many -/
theorem scAt : FnScope ["draws", "k", "many"] ["draws", "k", "many"] (defScope sAt) := ⟨rfl, rfl, rfl, by decide +kernel, rfl, by decide +kernel, by decide +kernel⟩
def spAt (K : PySem.W.Frag) : Sp := fun vs H Q _ => ∃ (a : Addr) (ds : List Int) (k many : Int), vs = [.ref a, .int k, .int many] ∧ SqL K H a (ds.map V.int) ∧ 0 ≤ k ∧ 0 < many ∧ Q (.int (atD ds k many)) H
theorem ok_at {f : Addr} {fd : FuncData} {k : Nat} (F : Fun K "_law_at" "_law_at" sAt f fd) (ml : mg "len" = none) (mi : mg "int" = none) :
    FnOk P w K mg base CX0 (k + 1) f fd ["draws", "k", "many"] (spAt K) := by
  refine F.ok scAt (fun vs H Q E h => ?_) (fun cdv A outer s H vs Q E hr h => ?_)
  · obtain ⟨a, ds, k, many, rfl, _⟩ := h
    rfl
  · obtain ⟨a, ds, k, many, rfl, hS, h0, hm, q⟩ := h
    refine ⟨_, pss_cons (ps_if (pt_cmpR op_lt (pv 1) (pe_callB call_len_seq (by rfl) ml PySem.boot_len (pa_cons (pv 0) pa_nil)) (nomark _))
        (pss_one (ps_ret (pe_op op_mod (pe_callTy call_int1 (by rfl) mi (by decide +kernel) (pa_cons (pe_ix ix_list (pv 0) (pv 1) (fun _ _ => rfl)) pa_nil)) (pv 2)))) pss_nil)
      (pss_one (ps_ret pe_int)), ?_⟩
    refine ⟨_, rfl, _, rfl, a, _, rfl, .inl hS, _, _, rfl, rfl, _, rfl, ite2 (fun c => ?_) (fun c => ?_)⟩
    · have c1 : k < ((ds.map V.int).length : Int) := of_decide_eq_true c
      rw [List.length_map] at c1
      have gi := getI (ns := ds) (i := k.toNat) (by omega)
      refine ⟨_, rfl, _, rfl, a, _, _, _, rfl, rfl, hS, at_of (j := k.toNat) (by omega) gi, .inl ⟨_, rfl, _, rfl, _, _, rfl, rfl, hm, ?_⟩⟩
      have e : atD ds k many = ds.getD k.toNat 0 % many := if_pos c1
      show Q (.int (ds.getD k.toNat 0 % many)) H
      rw [← e]
      exact q
    · have c1 : ¬ k < ((ds.map V.int).length : Int) := fun z => c (decide_eq_true z)
      rw [List.length_map] at c1
      have e : atD ds k many = 0 := if_neg c1
      show Q (.int 0) H
      rw [← e]
      exact q
theorem units1 {k : Nat} {A : Around} (h : Room k A) : A.units + 1 < cLine := by
  have := h.un
  omega
theorem units64 {k : Nat} {A : Around} (h : Room k A) : A.units + 64 < cLine := by
  have := h.un
  omega
theorem units66 {k : Nat} {A : Around} (h : Room k A) : A.units + 66 < cLine := by
  have := h.un
  omega
theorem units120 {k : Nat} {A : Around} (h : Room k A) : A.units + 120 < cLine := by
  have := h.un
  omega
end
end Ld

set_option Elab.async false
set_option linter.all false
set_option maxRecDepth 100000
set_option maxHeartbeats 4000000
/-! Prices: mathematics, and how they lie in the heap. -/
namespace Ld
open PySem PySem.Spec PyProof.Rows L2 Lr
abbrev sk (s : Str) : Key := Sum.inr s
def P3 : List Str := ["A", "BB", "C"]
def P4 : List Str := ["A", "BB", "C", "OTHER"]
structure Prc where
  put : Int
  out : Int
  chg : Int
  ex : List (List Key × V)
def exOk (k : List Key) : Prop := (∃ a ∈ P3, k = [sk "put", sk a]) ∨ (∃ a ∈ P4, k = [sk "out", sk a]) ∨ ∃ a ∈ P4, ∃ b ∈ P3, a ≠ b ∧ k = [sk "change", sk a, sk b]
structure PrcOk (Z : Prc) : Prop where
  put : 1 ≤ Z.put ∧ Z.put ≤ 1000
  out : 1 ≤ Z.out ∧ Z.out ≤ 1000
  chg : 1 ≤ Z.chg ∧ Z.chg ≤ 1000
  ex : ∀ p ∈ Z.ex, exOk p.1 ∧ ∃ i : Int, 1 ≤ i ∧ i ≤ 1000 ∧ p.2 = .int i
  nd : (Z.ex.map (·.1)).Nodup
  few : Z.ex.length ≤ 5
/-- the number at a key, or another -/
def exI (Z : Prc) (k : List Key) (d : Int) : Int := match valV Z.ex k with
  | some (.int i) => i
  | _ => d
def putP (Z : Prc) (k : Str) : Int := exI Z [sk "put", sk k] Z.put
def outP (Z : Prc) (k : Str) : Int := exI Z [sk "out", sk k] Z.out
def chgP (Z : Prc) (a b : Str) : Int := if a = b then 0 else exI Z [sk "change", sk a, sk b] Z.chg
/-- the sum of the prices of leaving out -/
def outsP (Z : Prc) (ks : List Str) : Int := (ks.map (outP Z)).sum
/-- the price of the leaf of k over the stretch from i to j -/
def leafP (Z : Prc) (row : List Str) (k : Str) (i j : Nat) : Int :=
  if i = j then putP Z k else outsP Z ((row.drop i).take (j - 1 - i)) + chgP Z (row.getD (j - 1) "") k
theorem valV_from {κ : Type} [DecidableEq κ] {kvs : List (κ × V)} {k : κ} {v : V} (h : valV kvs k = some v) : (k, v) ∈ kvs := by
  unfold valV at h
  obtain ⟨p, hp, e⟩ := Option.map_eq_some_iff.mp h
  have e1 := List.find?_some hp
  have e2 : p.1 = k := of_decide_eq_true e1
  have m := List.mem_of_find?_eq_some hp
  rw [← e, ← e2]
  exact m
theorem exI_is {Z : Prc} (ok : PrcOk Z) (k : List Key) (d : Int) : (valV Z.ex k).getD (.int d) = .int (exI Z k d) := by
  unfold exI
  cases e : valV Z.ex k with
  | none => rfl
  | some v =>
    obtain ⟨_, i, _, _, rfl⟩ := ok.ex _ (valV_from e)
    rfl
theorem exI_in {Z : Prc} (ok : PrcOk Z) (k : List Key) {d : Int} (h : 1 ≤ d ∧ d ≤ 1000) : 1 ≤ exI Z k d ∧ exI Z k d ≤ 1000 := by
  unfold exI
  cases e : valV Z.ex k with
  | none => exact h
  | some v =>
    obtain ⟨_, i, h1, h2, e2⟩ := ok.ex _ (valV_from e)
    dsimp only at e2
    rw [e2]
    exact ⟨h1, h2⟩
theorem putP_in {Z : Prc} (ok : PrcOk Z) (k : Str) : 1 ≤ putP Z k ∧ putP Z k ≤ 1000 := exI_in ok _ ok.put
theorem outP_in {Z : Prc} (ok : PrcOk Z) (k : Str) : 1 ≤ outP Z k ∧ outP Z k ≤ 1000 := exI_in ok _ ok.out
theorem chgP_in {Z : Prc} (ok : PrcOk Z) (a b : Str) : 0 ≤ chgP Z a b ∧ chgP Z a b ≤ 1000 := by
  unfold chgP
  split
  · exact ⟨by decide, by decide⟩
  · have := exI_in ok [sk "change", sk a, sk b] ok.chg
    exact ⟨by omega, this.2⟩
theorem outsP_in {Z : Prc} (ok : PrcOk Z) : ∀ ks : List Str, 0 ≤ outsP Z ks ∧ outsP Z ks ≤ 1000 * ks.length
  | [] => ⟨Int.le_refl 0, Int.le_refl 0⟩
  | k :: ks => by
    have h1 := outP_in ok k
    have h2 := outsP_in ok ks
    unfold outsP at h2 ⊢
    rw [List.map_cons, List.sum_cons, List.length_cons]
    omega
theorem leafP_in {Z : Prc} (ok : PrcOk Z) (row : List Str) (k : Str) (i j : Nat) : 0 ≤ leafP Z row k i j ∧ leafP Z row k i j ≤ 1000 * (row.length + 1) := by
  unfold leafP
  split
  · have := putP_in ok k
    omega
  · have h1 := outsP_in ok ((row.drop i).take (j - 1 - i))
    have h2 := chgP_in ok (row.getD (j - 1) "") k
    have h3 : ((row.drop i).take (j - 1 - i)).length ≤ row.length := by
      rw [List.length_take, List.length_drop]
      omega
    omega
/-- the prices Z stand at t -/
def PrA (H : Hp) (t : Addr) (Z : Prc) : Prop := ∃ d, H t = some (.tup [.int Z.put, .int Z.out, .int Z.chg, .ref d]) ∧ H d = some (.dT Z.ex)
theorem Up.dT {A B : Hp} (u : Up A B) {a : Addr} {kvs : List (List Key × V)} (h : A a = some (.dT kvs)) : B a = some (.dT kvs) := by
  rcases u a _ h with e | ⟨_, _, z, _⟩
  · exact e
  · cases z
theorem PrA.up {A B : Hp} (u : Up A B) {t : Addr} {Z : Prc} (h : PrA A t Z) : PrA B t Z := by
  obtain ⟨d, h1, h2⟩ := h
  exact ⟨d, u.tup h1, u.dT h2⟩
/-! ### prices as data -/
def vD : V → PyData
  | .int i => .int i
  | .str s => .str s
  | _ => .none
def exD (kvs : List (List Key × V)) : List (PyData × PyData) := kvs.map fun p => (.tuple (p.1.map keyD), vD p.2)
def prD (Z : Prc) : PyData := .tuple [.int Z.put, .int Z.out, .int Z.chg, .dict (exD Z.ex)]
theorem dqT_ints {K : PySem.W.Frag} {H : Hp} : ∀ {kvs : List (List Key × V)}, (∀ p ∈ kvs, ∃ i : Int, p.2 = .int i) → DqT K H kvs (exD kvs)
  | [], _ => .nil
  | (k, v) :: kvs, h => by
    obtain ⟨i, e⟩ := h (k, v) List.mem_cons_self
    dsimp only at e
    subst e
    exact .cons (.dp (.int i)) (dqT_ints fun p m => h p (List.mem_cons_of_mem _ m))
theorem PrA.dq {K : PySem.W.Frag} {H : Hp} {t : Addr} {Z : Prc} (ok : PrcOk Z) (h : PrA H t Z) : Dq K H (.ref t) (prD Z) := by
  obtain ⟨d, h1, h2⟩ := h
  exact .tup (SqT.of h1) (.cons (.dp (.int _)) (.cons (.dp (.int _)) (.cons (.dp (.int _)) (.cons (.dT h2 (dqT_ints fun p m => let ⟨_, i, _, _, e⟩ := ok.ex p m; ⟨i, e⟩)) .nil))))
theorem int_small {i : Int} (h0 : 0 ≤ i) (h1 : i ≤ 1000) : (PyData.int i).showable = true := by
  rw [PyData.showable]
  have a : i.natAbs ≤ 1000 := by omega
  refine decide_eq_true ?_
  have : i.natAbs.log2 ≤ (1000 : Nat).log2 := by
    rcases Nat.eq_zero_or_pos i.natAbs with z | z
    · rw [z]
      exact Nat.zero_le _
    · exact (Nat.le_log2 (by decide)).mpr (Nat.le_trans (Nat.log2_self_le (Nat.ne_of_gt z)) a)
  have e : (1000 : Nat).log2 ≤ 10 := by decide
  omega
theorem int_wt {i : Int} (h0 : 0 ≤ i) (h1 : i < 10 ^ 9) : wt (.int i) ≤ 9 := by
  rw [wt]
  exact toString_length_le h0 (by decide) h1
theorem keys_show : ∀ ks : List Key, (∀ k ∈ ks, ∃ s, k = sk s) → PyData.showableAll (ks.map keyD) = true
  | [], _ => rfl
  | k :: ks, h => by
    obtain ⟨s, rfl⟩ := h k List.mem_cons_self
    rw [List.map_cons, PyData.showableAll, keys_show ks fun x m => h x (List.mem_cons_of_mem _ m)]
    rfl
theorem exOk_keys {k : List Key} (h : exOk k) : ∀ x ∈ k, ∃ s, x = sk s := by
  rcases h with ⟨a, _, rfl⟩ | ⟨a, _, rfl⟩ | ⟨a, _, b, _, _, rfl⟩
  all_goals
    intro x hx
    simp only [List.mem_cons, List.not_mem_nil, or_false] at hx
    rcases hx with rfl | rfl | rfl <;> exact ⟨_, rfl⟩
theorem ex_show : ∀ {kvs : List (List Key × V)}, (∀ p ∈ kvs, exOk p.1 ∧ ∃ i : Int, 1 ≤ i ∧ i ≤ 1000 ∧ p.2 = .int i) → PyData.showableKv (exD kvs) = true
  | [], _ => rfl
  | (k, v) :: kvs, h => by
    obtain ⟨h1, i, h2, h3, e⟩ := h (k, v) List.mem_cons_self
    dsimp only at e
    subst e
    have r := ex_show (kvs := kvs) fun p m => h p (List.mem_cons_of_mem _ m)
    show PyData.showableKv ((.tuple (k.map keyD), .int i) :: exD kvs) = true
    rw [PyData.showableKv, r, int_small (by omega) h3, PyData.showable, keys_show k (exOk_keys h1)]
    rfl
theorem prD_show {Z : Prc} (ok : PrcOk Z) : (prD Z).showable = true := by
  unfold prD
  rw [PyData.showable, PyData.showableAll, PyData.showableAll, PyData.showableAll, PyData.showableAll, PyData.showableAll, int_small (by have := ok.put; omega) ok.put.2, int_small (by have := ok.out; omega) ok.out.2,
    int_small (by have := ok.chg; omega) ok.chg.2, PyData.showable, ex_show ok.ex]
  rfl
theorem keys_wt {k : List Key} (h : exOk k) : wt (.tuple (k.map keyD)) ≤ 60 := by
  have c : ∀ a ∈ P4, wt (.tuple ([sk "out", sk a].map keyD)) ≤ 60 := by decide +kernel
  have b : ∀ a ∈ P3, wt (.tuple ([sk "put", sk a].map keyD)) ≤ 60 := by decide +kernel
  have d : ∀ a ∈ P4, ∀ b ∈ P3, wt (.tuple ([sk "change", sk a, sk b].map keyD)) ≤ 60 := by decide +kernel
  rcases h with ⟨a, ha, rfl⟩ | ⟨a, ha, rfl⟩ | ⟨a, ha, e, he, _, rfl⟩
  · exact b a ha
  · exact c a ha
  · exact d a ha e he
theorem prD_wt {Z : Prc} (ok : PrcOk Z) : wt (prD Z) ≤ 500 := by
  have e0 : wt (prD Z) = wt (.int Z.put) + 2 + (wt (.int Z.out) + 2 + (wt (.int Z.chg) + 2 + (wtKv (exD Z.ex) + 4 + 2 + 0))) + 4 := by
    unfold prD
    simp only [wt, wtAll]
  have h1 := int_wt (i := Z.put) (by have := ok.put; omega) (by have := ok.put; omega)
  have h2 := int_wt (i := Z.out) (by have := ok.out; omega) (by have := ok.out; omega)
  have h3 := int_wt (i := Z.chg) (by have := ok.chg; omega) (by have := ok.chg; omega)
  have h4 := wtKv_up (B := 69) (ds := exD Z.ex) fun p m => by
    obtain ⟨q, hq, rfl⟩ := List.mem_map.mp m
    obtain ⟨k1, i, k2, k3, e⟩ := ok.ex q hq
    have a := keys_wt k1
    have b : wt (vD q.2) ≤ 9 := by
      rw [e]
      exact int_wt (by omega) (by omega)
    dsimp only
    omega
  have h5 : (exD Z.ex).length ≤ 5 := by
    unfold exD
    rw [List.length_map]
    exact ok.few
  have : (69 + 4) * (exD Z.ex).length ≤ (69 + 4) * 5 := Nat.mul_le_mul_left _ h5
  omega
end Ld

set_option Elab.async false
set_option linter.all false
set_option maxRecDepth 100000
set_option maxHeartbeats 4000000
/-! The law's own prices: of putting in, leaving out, exchanging, of a leaf. -/
namespace Ld
open PySem PySem.Spec PyProof.Rows L2 Lg Lr
section
variable {P : Program} {w : World} {K : PySem.W.Frag} {mg : Str → Option Value} {base : Heap}
theorem scPut : FnScope ["prices", "kind"] ["prices", "kind"] (defScope sLPut) := ⟨rfl, rfl, rfl, by decide +kernel, rfl, by decide +kernel, by decide +kernel⟩
theorem scOut : FnScope ["prices", "kind"] ["prices", "kind"] (defScope sLOut) := ⟨rfl, rfl, rfl, by decide +kernel, rfl, by decide +kernel, by decide +kernel⟩
theorem scChg : FnScope ["prices", "kind", "other"] ["prices", "kind", "other"] (defScope sLChg) := ⟨rfl, rfl, rfl, by decide +kernel, rfl, by decide +kernel, by decide +kernel⟩
theorem scLeaf : FnScope ["prices", "row", "kind", "i", "j", "one"] ["prices", "row", "kind", "i", "j"] (defScope sLLeaf) := ⟨rfl, rfl, rfl, by decide +kernel, rfl, by decide +kernel, by decide +kernel⟩
def spPrice (f : Prc → Str → Int) : Sp := fun vs H Q _ => ∃ (t : Addr) (Z : Prc) (k : Str), vs = [.ref t, .str k] ∧ PrA H t Z ∧ PrcOk Z ∧ ∀ H2, Same H H2 → Q (.int (f Z k)) H2
def spChange : Sp := fun vs H Q _ => ∃ (t : Addr) (Z : Prc) (a b : Str), vs = [.ref t, .str a, .str b] ∧ PrA H t Z ∧ PrcOk Z ∧ ∀ H2, Same H H2 → Q (.int (chgP Z a b)) H2
theorem ok_lput {f : Addr} {fd : FuncData} (F : Fun K "_law_put" "_law_put" sLPut f fd) : FnOk P w K mg base CX0 1 f fd ["prices", "kind"] (spPrice putP) := by
  refine F.ok scPut (fun vs H Q E h => ?_) (fun cdv A outer s H vs Q E hr h => ?_)
  · obtain ⟨t, Z, k, rfl, _⟩ := h
    rfl
  · obtain ⟨t, Z, k, rfl, ⟨d, ht, hd⟩, ok, q⟩ := h
    refine ⟨_, pss_one (ps_ret (pe_dget2 (units1 hr) (pe_ix ix_tup (pv 0) pe_int (fun _ _ => rfl)) (pe_tup (pa_cons pe_str (pa_cons (pv 1) pa_nil))) (pe_ix ix_tup (pv 0) pe_int (fun _ _ => rfl)) ⟨rfl, rfl, rfl, rfl⟩)), ?_⟩
    refine ⟨_, rfl, t, _, _, _, rfl, rfl, SqT.of ht, at_of (j := 3) rfl rfl, d, rfl, .inr ⟨_, .inl hd⟩, _, rfl, (by show 2 ≤ sizeLine; decide), fun p np => ?_⟩
    have s1 : Same H (upd H p (.tup [.str "put", .str k])) := same_upd np
    have g := DGet.t (k := [sk "put", sk k]) (s1 _ _ hd) (b := p) upd_same
    refine ⟨_, rfl, t, _, _, _, rfl, rfl, SqT.of (s1 _ _ ht), at_of (j := 0) rfl rfl, _, g, ?_⟩
    rw [exI_is ok]
    exact q _ s1
theorem ok_lout {f : Addr} {fd : FuncData} (F : Fun K "_law_out" "_law_out" sLOut f fd) : FnOk P w K mg base CX0 1 f fd ["prices", "kind"] (spPrice outP) := by
  refine F.ok scOut (fun vs H Q E h => ?_) (fun cdv A outer s H vs Q E hr h => ?_)
  · obtain ⟨t, Z, k, rfl, _⟩ := h
    rfl
  · obtain ⟨t, Z, k, rfl, ⟨d, ht, hd⟩, ok, q⟩ := h
    refine ⟨_, pss_one (ps_ret (pe_dget2 (units1 hr) (pe_ix ix_tup (pv 0) pe_int (fun _ _ => rfl)) (pe_tup (pa_cons pe_str (pa_cons (pv 1) pa_nil))) (pe_ix ix_tup (pv 0) pe_int (fun _ _ => rfl)) ⟨rfl, rfl, rfl, rfl⟩)), ?_⟩
    refine ⟨_, rfl, t, _, _, _, rfl, rfl, SqT.of ht, at_of (j := 3) rfl rfl, d, rfl, .inr ⟨_, .inl hd⟩, _, rfl, (by show 2 ≤ sizeLine; decide), fun p np => ?_⟩
    have s1 : Same H (upd H p (.tup [.str "out", .str k])) := same_upd np
    have g := DGet.t (k := [sk "out", sk k]) (s1 _ _ hd) (b := p) upd_same
    refine ⟨_, rfl, t, _, _, _, rfl, rfl, SqT.of (s1 _ _ ht), at_of (j := 1) rfl rfl, _, g, ?_⟩
    rw [exI_is ok]
    exact q _ s1
theorem ok_lchg {f : Addr} {fd : FuncData} (F : Fun K "_law_change" "_law_change" sLChg f fd) : FnOk P w K mg base CX0 1 f fd ["prices", "kind", "other"] spChange := by
  refine F.ok scChg (fun vs H Q E h => ?_) (fun cdv A outer s H vs Q E hr h => ?_)
  · obtain ⟨t, Z, a, b, rfl, _⟩ := h
    rfl
  · obtain ⟨t, Z, a, b, rfl, ⟨d, ht, hd⟩, ok, q⟩ := h
    refine ⟨_, pss_cons (ps_if (pt_cmpR op_eq (pv 1) (pv 2) (nomark _)) (pss_one (ps_ret pe_int)) pss_nil)
      (pss_one (ps_ret (pe_dget2 (units1 hr) (pe_ix ix_tup (pv 0) pe_int (fun _ _ => rfl)) (pe_tup (pa_cons pe_str (pa_cons (pv 1) (pa_cons (pv 2) pa_nil)))) (pe_ix ix_tup (pv 0) pe_int (fun _ _ => rfl)) ⟨rfl, rfl, rfl, rfl⟩))), ?_⟩
    refine ⟨_, rfl, _, rfl, rfl, _, rfl, ite2 (fun c => ?_) (fun c => ?_)⟩
    · have e : a = b := V.str.inj (of_decide_eq_true c)
      have := q H (Same.refl H)
      rw [show chgP Z a b = 0 from if_pos e] at this
      exact this
    · have e : ¬ a = b := fun z => c (by rw [z]; exact decide_eq_true rfl)
      refine ⟨_, rfl, t, _, _, _, rfl, rfl, SqT.of ht, at_of (j := 3) rfl rfl, d, rfl, .inr ⟨_, .inl hd⟩, _, rfl, _, rfl, (by show 3 ≤ sizeLine; decide), fun p np => ?_⟩
      have s1 : Same H (upd H p (.tup [.str "change", .str a, .str b])) := same_upd np
      have g := DGet.t (k := [sk "change", sk a, sk b]) (s1 _ _ hd) (b := p) upd_same
      refine ⟨_, rfl, t, _, _, _, rfl, rfl, SqT.of (s1 _ _ ht), at_of (j := 2) rfl rfl, _, g, ?_⟩
      rw [exI_is ok]
      have := q _ s1
      rw [show chgP Z a b = exI Z [sk "change", sk a, sk b] Z.chg from if_neg e] at this
      exact this
end
end Ld

set_option Elab.async false
set_option linter.all false
set_option maxRecDepth 100000
set_option maxHeartbeats 4000000
/-! The law's own rows and prices. -/
namespace Ld
open PySem PySem.Spec PyProof.Rows L2 Lg Lr
def row5 : List Str := ["A", "BB", "C", "OTHER", "A"]
theorem pick5 {v : Int} (h0 : 0 ≤ v) (h1 : v < 5) : ∃ s, (row5.map V.str)[v.toNat]? = some (V.str s) ∧ s ∈ P4 := by
  have e : v.toNat = 0 ∨ v.toNat = 1 ∨ v.toNat = 2 ∨ v.toNat = 3 ∨ v.toNat = 4 := by omega
  rcases e with e | e | e | e | e <;> rw [e] <;> exact ⟨_, rfl, by decide⟩
theorem pick4 {v : Int} (h0 : 0 ≤ v) (h1 : v < 4) : ∃ s, (P4.map V.str)[v.toNat]? = some (V.str s) ∧ s ∈ P4 ∧ (v < 3 → s ∈ P3) := by
  have e : v.toNat = 0 ∨ v.toNat = 1 ∨ v.toNat = 2 ∨ v.toNat = 3 := by omega
  rcases e with e | e | e | e
  · rw [e]
    exact ⟨_, rfl, by decide, fun _ => by decide⟩
  · rw [e]
    exact ⟨_, rfl, by decide, fun _ => by decide⟩
  · rw [e]
    exact ⟨_, rfl, by decide, fun _ => by decide⟩
  · rw [e]
    exact ⟨_, rfl, by decide, fun z => by omega⟩
theorem pick_top {v : Int} (h0 : 0 ≤ v) (h1 : v < 3) : ∃ c : Int, ([V.int 1, V.int 3, V.int 1000] : List V)[v.toNat]? = some (V.int c) ∧ 1 ≤ c ∧ c ≤ 1000 := by
  have e : v.toNat = 0 ∨ v.toNat = 1 ∨ v.toNat = 2 := by omega
  rcases e with e | e | e <;> rw [e]
  · exact ⟨1, rfl, by decide, by decide⟩
  · exact ⟨3, rfl, by decide, by decide⟩
  · exact ⟨1000, rfl, by decide, by decide⟩
section
variable {P : Program} {w : World} {K : PySem.W.Frag} {mg : Str → Option Value} {base : Heap}
theorem put_mem {kvs : List (List Key × V)} {k : List Key} {v : V} : ∀ p ∈ putK kvs k v, p ∈ kvs ∨ p = (k, v) := fun p hp => by
  unfold putK at hp
  split at hp
  · obtain ⟨q, hq, e⟩ := List.mem_map.mp hp
    split at e
    · rename_i z
      right
      rw [← e, z]
    · left
      rw [← e]
      exact hq
  · rcases List.mem_append.mp hp with m | m
    · exact .inl m
    · exact .inr (List.mem_singleton.mp m)
theorem put_nodup {kvs : List (List Key × V)} {k : List Key} {v : V} (h : (kvs.map (·.1)).Nodup) : ((putK kvs k v).map (·.1)).Nodup := by
  unfold putK
  split
  · have e : (kvs.map fun kv => if kv.1 = k then (kv.1, v) else kv).map (·.1) = kvs.map (·.1) := by
      rw [List.map_map]
      refine List.map_congr_left fun q hq => ?_
      show (if q.1 = k then (q.1, v) else q).1 = q.1
      split <;> rfl
    rw [e]
    exact h
  · rename_i out
    rw [List.map_append, List.nodup_append]
    refine ⟨h, by simp, fun a ha b hb e => out ?_⟩
    rw [List.map_singleton, List.mem_singleton] at hb
    obtain ⟨q, hq, e2⟩ := List.mem_map.mp ha
    refine List.any_eq_true.mpr ⟨q, hq, decide_eq_true ?_⟩
    rw [e2, e, hb]
/-- exceptions so far -/
structure ExS (kvs : List (List Key × V)) (n : Nat) : Prop where
  ex : ∀ p ∈ kvs, exOk p.1 ∧ ∃ i : Int, 1 ≤ i ∧ i ≤ 1000 ∧ p.2 = .int i
  nd : (kvs.map (·.1)).Nodup
  few : kvs.length ≤ n
theorem ExS.nil (n : Nat) : ExS [] n := ⟨(fun _ m => nomatch m), List.nodup_nil, Nat.zero_le _⟩
theorem ExS.put {kvs : List (List Key × V)} {n : Nat} (h : ExS kvs n) {k : List Key} {i : Int} (hk : exOk k) (h0 : 1 ≤ i) (h1 : i ≤ 1000) : ExS (putK kvs k (.int i)) (n + 1) := by
  refine ⟨fun p hp => ?_, put_nodup h.nd, Nat.le_trans (length_putK _ _ _) (Nat.succ_le_succ h.few)⟩
  rcases put_mem p hp with m | rfl
  · exact h.ex p m
  · exact ⟨hk, i, h0, h1, rfl⟩
theorem ExS.up {kvs : List (List Key × V)} {n : Nat} (h : ExS kvs n) : ExS kvs (n + 1) := ⟨h.ex, h.nd, Nat.le_succ_of_le h.few⟩
theorem scPr : FnScope ["draws", "first", "top", "put", "out", "change", "kinds", "exceptions", "k", "cell", "one", "two", "value"] ["draws", "first"] (defScope sPrices) := ⟨rfl, rfl, rfl, by decide +kernel, rfl, by decide +kernel, by decide +kernel⟩
def spPrices (K : PySem.W.Frag) : Sp := fun vs H Q _ => ∃ (a : Addr) (ds : List Int) (first : Int), vs = [.ref a, .int first] ∧ H a = some (.lst (ds.map V.int)) ∧ 0 ≤ first ∧
  ∀ (t : Addr) (H2 : Hp) (Z : Prc), Same H H2 → H t = none → PrcOk Z → PrA (News H H2) t Z → Q (.ref t) H2
theorem ok_prices {f fA : Addr} {fd fdA : FuncData} (F : Fun K "_law_prices" "_law_prices" sPrices f fd)
    (GA : FnOk P w K mg base CX0 1 fA fdA ["draws", "k", "many"] (spAt K)) (kA : PySem.W.keepIn K (.ref fA) = true) (bA : Binds K fdA ["draws", "k", "many"] []) (gA : mg "_law_at" = some (.ref fA))
    (mr : mg "range" = none) (mi : mg "int" = none) : FnOk P w K mg base CX0 2 f fd ["draws", "first"] (spPrices K) := by
  refine F.ok scPr (fun vs H Q E h => ?_) (fun cdv A outer s H vs Q E hr h => ?_)
  · obtain ⟨a, ds, first, rfl, _⟩ := h
    rfl
  · obtain ⟨a, ds, first, rfl, ha, f0, q⟩ := h
    refine ⟨_, pss_cons (ps_set (i := 2) scPr.nd rfl (.inr rfl) (pe_ix ix_list (pe_lst (pa_cons pe_int (pa_cons pe_int (pa_cons pe_int pa_nil)))) (pe_call GA hr (by rfl) gA kA bA .nil pass0 (pa_cons (pv 0) (pa_cons (pv 1) (pa_cons pe_int pa_nil)))) (fun _ _ => rfl)))
      (pss_cons (ps_asg (pe_lc (own := [("k", 8)]) (g := gName 8) rfl scPr.nd (pi_range1 rfl mr (pa_cons pe_int pa_nil))
          (blkOk_by (N := ["draws", "first", "top", "put", "out", "change", "kinds", "exceptions", "k", "cell", "one", "two", "value"]) (sc := defScope sPrices) (by decide +kernel)) (fun _ _ _ _ _ => pg_name (i := 8) scPr.nd rfl (Or.inl rfl)) (fun _ _ _ _ _ => pts_nil)
          (fun _ _ _ _ _ => pe_op op_add pe_int (pe_call GA hr (by rfl) gA kA bA .nil pass0 (pa_cons (pv 0) (pa_cons (pe_op op_add (pe_op op_add (pv 1) pe_int) (pv 8)) (pa_cons (pv 2) pa_nil))))))
        (pg_unl rfl (pgs_cons (pg_name (i := 3) scPr.nd rfl (.inl rfl)) (pgs_cons (pg_name (i := 4) scPr.nd rfl (.inl rfl)) (pgs_cons (pg_name (i := 5) scPr.nd rfl (.inl rfl)) pgs_nil)))))
      (pss_cons (ps_set (i := 6) scPr.nd rfl (.inl rfl) (pe_lst (pa_cons pe_str (pa_cons pe_str (pa_cons pe_str (pa_cons pe_str pa_nil))))))
      (pss_cons (ps_set (i := 7) scPr.nd rfl (.inl rfl) pe_dnewT)
      (pss_cons (ps_for PassesOwn.never rfl (pi_range1 rfl mr (pa_cons (pe_call GA hr (by rfl) gA kA bA .nil pass0 (pa_cons (pv 0) (pa_cons (pe_op op_add (pv 1) pe_int) (pa_cons pe_int pa_nil)))) pa_nil)) (pg_name (i := 8) scPr.nd rfl (.inl rfl))
        (pss_cons (ps_set (i := 9) scPr.nd rfl (.inl rfl) (pe_call GA hr (by rfl) gA kA bA .nil pass0 (pa_cons (pv 0) (pa_cons (pe_op op_add (pe_op op_add (pv 1) pe_int) (pv 8)) (pa_cons pe_int pa_nil)))))
        (pss_cons (ps_set (i := 10) scPr.nd rfl (.inl rfl) (pe_ix ix_list (pv 6) (pe_op op_mod (pe_callTy call_int1 (by rfl) mi (by decide +kernel) (pa_cons (pe_op op_fdiv (pv 9) pe_int) pa_nil)) pe_int) (fun _ _ => rfl)))
        (pss_cons (ps_set (i := 11) scPr.nd rfl (.inl rfl) (pe_ix ix_list (pv 6) (pe_op op_mod (pe_callTy call_int1 (by rfl) mi (by decide +kernel) (pa_cons (pe_op op_fdiv (pv 9) pe_int) pa_nil)) pe_int) (fun _ _ => rfl)))
        (pss_cons (ps_set (i := 12) scPr.nd rfl (.inl rfl) (pe_op op_add pe_int (pe_op op_mod (pe_callTy call_int1 (by rfl) mi (by decide +kernel) (pa_cons (pe_op op_fdiv (pv 9) pe_int) pa_nil)) (pv 2))))
        (pss_one (ps_if (pt_cmpR op_eq (pe_op op_mod (pe_callTy call_int1 (by rfl) mi (by decide +kernel) (pa_cons (pv 9) pa_nil)) pe_int) pe_int (nomark _))
          (pss_one (ps_dput (units1 hr) (pv 7) (pe_tup (pa_cons pe_str (pa_cons (pv 11) pa_nil))) (pv 12) (by rfl)))
          (pss_one (ps_if (pt_cmpR op_eq (pe_op op_mod (pe_callTy call_int1 (by rfl) mi (by decide +kernel) (pa_cons (pv 9) pa_nil)) pe_int) pe_int (nomark _))
            (pss_one (ps_dput (units1 hr) (pv 7) (pe_tup (pa_cons pe_str (pa_cons (pv 10) pa_nil))) (pv 12) (by rfl)))
            (pss_one (ps_if (pt_cmpR op_ne (pv 10) (pv 11) (nomark _))
              (pss_one (ps_dput (units1 hr) (pv 7) (pe_tup (pa_cons pe_str (pa_cons (pv 10) (pa_cons (pv 11) pa_nil)))) (pv 12) (by rfl))) pss_nil)))))))))))
      (pss_one (ps_ret (pe_tup (pa_cons (pv 3) (pa_cons (pv 4) (pa_cons (pv 5) (pa_cons (pv 7) pa_nil))))))))))), ?_⟩
    refine ⟨(by show 3 ≤ sizeLine; decide), fun p np => ?_⟩
    have s1 : Same H (upd H p (.lst [.int 1, .int 3, .int 1000])) := same_upd np
    have hp : upd H p (.lst [.int 1, .int 3, .int 1000]) p = some (.lst [.int 1, .int 3, .int 1000]) := upd_same
    show _
    generalize upd H p (.lst [.int 1, .int 3, .int 1000]) = H1 at s1 hp
    have three : (0 : Int) < 3 := by decide
    refine ⟨_, rfl, _, rfl, a, ds, first, 3, rfl, SqL.of (s1 _ _ ha), f0, three, ?_⟩
    have t0 := atD_lo ds first three
    have t1 := atD_hi ds first three
    generalize atD ds first 3 = x at t0 t1
    obtain ⟨top, gtop, top0, top1⟩ := pick_top t0 t1
    refine ⟨p, _, _, _, rfl, rfl, SqL.of hp, at_of (j := x.toNat) (by omega) gtop, ?_⟩
    refine ⟨3, rfl, by decide, by decide, fun D hD => lc_range (lo := 0) (n := 3) (fun j H' => ∃ xs : List Int, Same H1 H' ∧ H' D = some (.lst (xs.map V.int)) ∧ xs.length = j ∧ ∀ y ∈ xs, 1 ≤ y ∧ y ≤ 1000) ⟨[], same_upd hD, upd_same, rfl, fun _ m => nomatch m⟩ ?_ ?_⟩
    · rintro j H' hj ⟨xs, s', hd, lx, gx⟩
      have tp : (0 : Int) < top := by omega
      refine ⟨rfl, _, rfl, _, rfl, _, _, rfl, rfl, _, rfl, _, _, rfl, rfl, _, rfl, a, ds, _, top, rfl, SqL.of ((s1.trans s') _ _ ha), by omega, tp, ?_⟩
      have y0 := atD_lo ds (first + 1 + (0 + (j : Int))) tp
      have y1 := atD_hi ds (first + 1 + (0 + (j : Int))) tp
      generalize atD ds (first + 1 + (0 + (j : Int))) top = y at y0 y1
      refine ⟨_, _, rfl, rfl, _, hd, ?_, xs ++ [1 + y], same_put s' hD, ?_, ?_, fun z hz => ?_⟩
      · rw [List.length_map]
        exact million1 (by omega)
      · rw [upd_same, List.map_append]
        rfl
      · rw [List.length_append, List.length_singleton, lx]
      · rcases List.mem_append.mp hz with m | m
        · exact gx z m
        · rw [List.mem_singleton.mp m]
          omega
    · rintro H2 ⟨xs, s2, hd, lx, gx⟩
      obtain ⟨x1, x2, x3, rfl⟩ : ∃ x1 x2 x3, xs = [x1, x2, x3] := by
        match xs, lx with
        | [x1, x2, x3], _ => exact ⟨x1, x2, x3, rfl⟩
      have g1 := gx x1 (by simp)
      have g2 := gx x2 (by simp)
      have g3 := gx x3 (by simp)
      have s02 := s1.trans s2
      refine ⟨D, _, rfl, SqL.of hd, rfl, _, _, rfl, _, _, rfl, _, _, rfl, rfl, ?_⟩
      refine ⟨(by show 4 ≤ sizeLine; decide), fun kl nkl => ?_⟩
      have s3 : Same H2 (upd H2 kl (.lst (P4.map V.str))) := same_upd nkl
      have hkl : upd H2 kl (.lst (P4.map V.str)) kl = some (.lst (P4.map V.str)) := upd_same
      have s03 := s02.trans s3
      show _
      generalize hH3 : upd H2 kl (.lst (P4.map V.str)) = H3 at hkl s03
      have hH3' : upd H2 kl (.lst [V.str "A", V.str "BB", V.str "C", V.str "OTHER"]) = H3 := hH3
      simp only [hH3']
      intro d nd
      have six : (0 : Int) < 6 := by decide
      have s4 : Same H3 (upd H3 d (.dT [])) := same_upd nd
      refine ⟨_, rfl, _, rfl, _, _, rfl, rfl, a, ds, _, 6, rfl, SqL.of (s4 _ _ (s03 _ _ ha)), by omega, six, ?_⟩
      have n0 := atD_lo ds (first + 4) six
      have n1 := atD_hi ds (first + 4) six
      generalize atD ds (first + 4) 6 = n at n0 n1
      refine ⟨n, rfl, by omega, by omega, for_range (lo := 0) (n := n.toNat) (fun i σ H' => ∃ v8 v9 v10 v11 v12 kvs, σ = [some (.ref a), some (.int first), some (.int top), some (.int x1), some (.int x2), some (.int x3), some (.ref kl), some (.ref d), v8, v9, v10, v11, v12] ∧ Same H3 H' ∧ H' d = some (.dT kvs) ∧ ExS kvs i)
        ⟨none, none, none, none, none, [], rfl, s4, upd_same, ExS.nil 0⟩ ?_ ?_⟩
      · rintro i σ H' hi ⟨v8, v9, v10, v11, v12, kvs, rfl, s', hd', ok⟩
        have big : (0 : Int) < 65536 := by decide
        refine ⟨_, rfl, _, rfl, _, _, rfl, rfl, _, rfl, _, _, rfl, rfl, a, ds, _, 65536, rfl, SqL.of (s' _ _ (s03 _ _ ha)), by omega, big, ?_⟩
        generalize atD ds (first + 5 + (0 + (i : Int))) 65536 = cell
        have a0 := Int.emod_nonneg (cell / 3) (show (4 : Int) ≠ 0 by decide)
        have a1 := Int.emod_lt_of_pos (cell / 3) (show (0 : Int) < 4 by decide)
        have b0 := Int.emod_nonneg (cell / 12) (show (3 : Int) ≠ 0 by decide)
        have b1 := Int.emod_lt_of_pos (cell / 12) three
        have c0 := Int.emod_nonneg (cell / 36) (show top ≠ 0 by omega)
        have c1 := Int.emod_lt_of_pos (cell / 36) (show 0 < top by omega)
        obtain ⟨one, gone, one4, _⟩ := pick4 a0 a1
        obtain ⟨two, gtwo, two4, two3⟩ := pick4 b0 (by omega)
        have two3 := two3 b1
        refine ⟨_, rfl, _, rfl, _, _, rfl, rfl, ⟨by decide, by decide⟩, .inl ⟨_, rfl, _, _, rfl, rfl, (by show (0 : Int) < _; decide), kl, _, _, _, rfl, rfl, SqL.of (s' _ _ hkl), at_of (j := (cell / 3 % 4).toNat) (by omega) gone, ?_⟩⟩
        refine ⟨_, rfl, _, rfl, _, _, rfl, rfl, ⟨by decide, by decide⟩, .inl ⟨_, rfl, _, _, rfl, rfl, (by show (0 : Int) < _; decide), kl, _, _, _, rfl, rfl, SqL.of (s' _ _ hkl), at_of (j := (cell / 12 % 3).toNat) (by omega) gtwo, ?_⟩⟩
        refine ⟨_, rfl, _, _, rfl, rfl, ⟨by decide, by decide⟩, .inl ⟨_, rfl, _, rfl, _, _, rfl, rfl, by omega, _, _, rfl, rfl, ?_⟩⟩
        have small : kvs.length < sizeLine := million1 (by have := ok.few; omega)
        refine ⟨_, rfl, .inl ⟨_, rfl, _, _, rfl, rfl, three, rfl, _, rfl, ite2 (fun _ => ?_) (fun _ => ?_)⟩⟩
        · refine ⟨_, rfl, _, rfl, _, rfl, (by show 2 ≤ sizeLine; decide), fun t nt => ?_⟩
          have st : Same H' (upd H' t (.tup [.str "put", .str two])) := same_upd nt
          exact ⟨d, _, rfl, DPut.t (k := [sk "put", sk two]) (st _ _ hd') upd_same small, _, _, _, _, _, _, rfl, same_put (s'.trans st) nd, upd_same, ok.put (.inl ⟨two, two3, rfl⟩) (by omega) (by omega)⟩
        · refine ⟨_, rfl, .inl ⟨_, rfl, _, _, rfl, rfl, three, rfl, _, rfl, ite2 (fun _ => ?_) (fun _ => ?_)⟩⟩
          · refine ⟨_, rfl, _, rfl, _, rfl, (by show 2 ≤ sizeLine; decide), fun t nt => ?_⟩
            have st : Same H' (upd H' t (.tup [.str "out", .str one])) := same_upd nt
            exact ⟨d, _, rfl, DPut.t (k := [sk "out", sk one]) (st _ _ hd') upd_same small, _, _, _, _, _, _, rfl, same_put (s'.trans st) nd, upd_same, ok.put (.inr (.inl ⟨one, one4, rfl⟩)) (by omega) (by omega)⟩
          · refine ⟨_, rfl, _, rfl, rfl, _, rfl, ite2 (fun c => ?_) (fun _ => ?_)⟩
            · have ne : one ≠ two := fun z => by
                rw [z] at c
                simp at c
              refine ⟨_, rfl, _, rfl, _, rfl, _, rfl, (by show 3 ≤ sizeLine; decide), fun t nt => ?_⟩
              have st : Same H' (upd H' t (.tup [.str "change", .str one, .str two])) := same_upd nt
              exact ⟨d, _, rfl, DPut.t (k := [sk "change", sk one, sk two]) (st _ _ hd') upd_same small, _, _, _, _, _, _, rfl, same_put (s'.trans st) nd, upd_same, ok.put (.inr (.inr ⟨one, one4, two, two3, ne, rfl⟩)) (by omega) (by omega)⟩
            · exact ⟨_, _, _, _, _, kvs, rfl, s', hd', ok.up⟩
      · rintro σ H' ⟨v8, v9, v10, v11, v12, kvs, rfl, s', hd', ok⟩
        refine ⟨_, rfl, _, rfl, _, rfl, _, rfl, (by show 4 ≤ sizeLine; decide), fun t nt => ?_⟩
        have st : Same H' (upd H' t (.tup [.int x1, .int x2, .int x3, .ref d])) := same_upd nt
        have sf := (s03.trans s').trans st
        have nd0 : H d = none := s03.free nd
        have nt0 : H t = none := (s03.trans s').free nt
        refine q t _ ⟨x1, x2, x3, kvs⟩ sf nt0 ⟨g1, g2, g3, ok.ex, ok.nd, Nat.le_trans ok.few (by omega)⟩ ⟨d, ?_, ?_⟩
        · rw [news_of nt0]
          exact upd_same
        · rw [news_of nd0]
          exact st _ _ hd'
end
end Ld

set_option Elab.async false
set_option linter.all false
set_option maxRecDepth 100000
set_option maxHeartbeats 4000000
/-! The program's prices. -/
namespace Ld
open PySem PySem.Spec PyProof.Rows L2 Lg Lr
section
variable {P : Program} {w : World} {K : PySem.W.Frag} {mg : Str → Option Value} {base : Heap}
theorem scPPut : FnScope ["prices", "kind", "put", "out", "change", "exceptions"] ["prices", "kind"] (defScope s_put_price) := ⟨rfl, rfl, rfl, by decide +kernel, rfl, by decide +kernel, by decide +kernel⟩
theorem scPOut : FnScope ["prices", "kind", "put", "out", "change", "exceptions"] ["prices", "kind"] (defScope s_out_price) := ⟨rfl, rfl, rfl, by decide +kernel, rfl, by decide +kernel, by decide +kernel⟩
theorem scPChg : FnScope ["prices", "kind", "other_kind", "put", "out", "change", "exceptions"] ["prices", "kind", "other_kind"] (defScope s_change_price) := ⟨rfl, rfl, rfl, by decide +kernel, rfl, by decide +kernel, by decide +kernel⟩
theorem ok_put {f : Addr} {fd : FuncData} (F : Fun K "put_price" "put_price" s_put_price f fd) : FnOk P w K mg base CX0 1 f fd ["prices", "kind"] (spPrice putP) := by
  refine F.ok scPPut (fun vs H Q E h => ?_) (fun cdv A outer s H vs Q E hr h => ?_)
  · obtain ⟨t, Z, k, rfl, _⟩ := h
    rfl
  · obtain ⟨t, Z, k, rfl, ⟨d, ht, hd⟩, ok, q⟩ := h
    refine ⟨_, pss_cons (ps_asg (pv 0) (pg_tup rfl (pgs_cons (pg_name (i := 2) scPPut.nd rfl (.inl rfl)) (pgs_cons (pg_name (i := 3) scPPut.nd rfl (.inl rfl)) (pgs_cons (pg_name (i := 4) scPPut.nd rfl (.inl rfl)) (pgs_cons (pg_name (i := 5) scPPut.nd rfl (.inl rfl)) pgs_nil))))))
      (pss_one (ps_ret (pe_dget2 (units1 hr) (pv 5) (pe_tup (pa_cons pe_str (pa_cons (pv 1) pa_nil))) (pv 2) ⟨rfl, rfl, rfl, rfl⟩))), ?_⟩
    refine ⟨_, rfl, t, _, rfl, SqT.of ht, rfl, _, _, rfl, _, _, rfl, _, _, rfl, _, _, rfl, rfl, ?_⟩
    refine ⟨_, rfl, d, rfl, .inr ⟨_, .inl hd⟩, _, rfl, (by show 2 ≤ sizeLine; decide), fun p np => ?_⟩
    have s1 : Same H (upd H p (.tup [.str "put", .str k])) := same_upd np
    have g := DGet.t (k := [sk "put", sk k]) (s1 _ _ hd) (b := p) upd_same
    refine ⟨_, rfl, _, g, ?_⟩
    rw [exI_is ok]
    exact q _ s1
theorem ok_out {f : Addr} {fd : FuncData} (F : Fun K "out_price" "out_price" s_out_price f fd) : FnOk P w K mg base CX0 1 f fd ["prices", "kind"] (spPrice outP) := by
  refine F.ok scPOut (fun vs H Q E h => ?_) (fun cdv A outer s H vs Q E hr h => ?_)
  · obtain ⟨t, Z, k, rfl, _⟩ := h
    rfl
  · obtain ⟨t, Z, k, rfl, ⟨d, ht, hd⟩, ok, q⟩ := h
    refine ⟨_, pss_cons (ps_asg (pv 0) (pg_tup rfl (pgs_cons (pg_name (i := 2) scPOut.nd rfl (.inl rfl)) (pgs_cons (pg_name (i := 3) scPOut.nd rfl (.inl rfl)) (pgs_cons (pg_name (i := 4) scPOut.nd rfl (.inl rfl)) (pgs_cons (pg_name (i := 5) scPOut.nd rfl (.inl rfl)) pgs_nil))))))
      (pss_one (ps_ret (pe_dget2 (units1 hr) (pv 5) (pe_tup (pa_cons pe_str (pa_cons (pv 1) pa_nil))) (pv 3) ⟨rfl, rfl, rfl, rfl⟩))), ?_⟩
    refine ⟨_, rfl, t, _, rfl, SqT.of ht, rfl, _, _, rfl, _, _, rfl, _, _, rfl, _, _, rfl, rfl, ?_⟩
    refine ⟨_, rfl, d, rfl, .inr ⟨_, .inl hd⟩, _, rfl, (by show 2 ≤ sizeLine; decide), fun p np => ?_⟩
    have s1 : Same H (upd H p (.tup [.str "out", .str k])) := same_upd np
    have g := DGet.t (k := [sk "out", sk k]) (s1 _ _ hd) (b := p) upd_same
    refine ⟨_, rfl, _, g, ?_⟩
    rw [exI_is ok]
    exact q _ s1
theorem ok_chg {f : Addr} {fd : FuncData} (F : Fun K "change_price" "change_price" s_change_price f fd) : FnOk P w K mg base CX0 1 f fd ["prices", "kind", "other_kind"] spChange := by
  refine F.ok scPChg (fun vs H Q E h => ?_) (fun cdv A outer s H vs Q E hr h => ?_)
  · obtain ⟨t, Z, a, b, rfl, _⟩ := h
    rfl
  · obtain ⟨t, Z, a, b, rfl, ⟨d, ht, hd⟩, ok, q⟩ := h
    refine ⟨_, pss_cons (ps_asg (pv 0) (pg_tup rfl (pgs_cons (pg_name (i := 3) scPChg.nd rfl (.inl rfl)) (pgs_cons (pg_name (i := 4) scPChg.nd rfl (.inl rfl)) (pgs_cons (pg_name (i := 5) scPChg.nd rfl (.inl rfl)) (pgs_cons (pg_name (i := 6) scPChg.nd rfl (.inl rfl)) pgs_nil))))))
      (pss_cons (ps_if (pt_cmpR op_eq (pv 1) (pv 2) (nomark _)) (pss_one (ps_ret pe_int)) pss_nil)
      (pss_one (ps_ret (pe_dget2 (units1 hr) (pv 6) (pe_tup (pa_cons pe_str (pa_cons (pv 1) (pa_cons (pv 2) pa_nil)))) (pv 5) ⟨rfl, rfl, rfl, rfl⟩)))), ?_⟩
    refine ⟨_, rfl, t, _, rfl, SqT.of ht, rfl, _, _, rfl, _, _, rfl, _, _, rfl, _, _, rfl, rfl, ?_⟩
    refine ⟨_, rfl, _, rfl, rfl, _, rfl, ite2 (fun c => ?_) (fun c => ?_)⟩
    · have e : a = b := V.str.inj (of_decide_eq_true c)
      have := q H (Same.refl H)
      rw [show chgP Z a b = 0 from if_pos e] at this
      exact this
    · have e : ¬ a = b := fun z => c (by rw [z]; exact decide_eq_true rfl)
      refine ⟨_, rfl, d, rfl, .inr ⟨_, .inl hd⟩, _, rfl, _, rfl, (by show 3 ≤ sizeLine; decide), fun p np => ?_⟩
      have s1 : Same H (upd H p (.tup [.str "change", .str a, .str b])) := same_upd np
      have g := DGet.t (k := [sk "change", sk a, sk b]) (s1 _ _ hd) (b := p) upd_same
      refine ⟨_, rfl, _, g, ?_⟩
      rw [exI_is ok]
      have := q _ s1
      rw [show chgP Z a b = exI Z [sk "change", sk a, sk b] Z.chg from if_neg e] at this
      exact this
/-! ### whole numbers -/
theorem scLInt : FnScope ["actual"] ["actual"] (defScope sLInt) := ⟨rfl, rfl, rfl, by decide +kernel, rfl, by decide +kernel, by decide +kernel⟩
def spLInt : Sp := fun vs H Q _ => ∃ n : Int, vs = [.int n] ∧ Q (.bl true) H
theorem ok_lint {f : Addr} {fd : FuncData} (F : Fun K "_law_is_integer" "_law_is_integer" sLInt f fd) (mi : mg "isinstance" = none) (mn : mg "int" = none) (mb : mg "bool" = none) : FnOk P w K mg base CX0 1 f fd ["actual"] spLInt := by
  refine F.ok scLInt (fun vs H Q E h => ?_) (fun cdv A outer s H vs Q E hr h => ?_)
  · obtain ⟨n, rfl, _⟩ := h
    rfl
  · obtain ⟨n, rfl, q⟩ := h
    refine ⟨_, pss_one (ps_ret (pe_and (pe_callB call_isi (by rfl) mi (by decide +kernel) (pa_cons (pv 0) (pa_cons (pe_bltn (v := .ty "int") (by rfl) mn (by decide +kernel) rfl) pa_nil)))
      (pe_one (pe_not (pe_callB call_isi (by rfl) mi (by decide +kernel) (pa_cons (pv 0) (pa_cons (pe_bltn (v := .ty "bool") (by rfl) mb (by decide +kernel) rfl) pa_nil))))))), ?_⟩
    refine ⟨_, rfl, _, _, _, _, _, rfl, .ty "int", .base (.int _), kit_ty (r := true) (by decide +kernel), _, rfl, iteT ?_⟩
    exact ⟨_, rfl, _, _, _, _, _, rfl, .ty "bool", .base (.int _), kit_ty (r := false) (by decide +kernel), _, rfl, q⟩
end
end Ld

set_option Elab.async false
set_option linter.all false
set_option maxRecDepth 100000
set_option maxHeartbeats 4000000
/-! A generator expression whose element may call defs (and make generators of its own): first over states alone. -/
namespace Gn
open PySem PySem.Spec PyProof.Rows L2
section
variable {prog : Program} {w : World} {A : Around} {elt iter : Expr} {x : Str} {px pos : Pos} {scope : Scope} {it : Addr} {cenv : Env} {n : Nat} {J : Nat → Shared → Prop} {Fn : Shared → Prop} {pb : Nat → Bool}
/-- the code of the block's turn -/
abbrev turnCode (elt iter : Expr) (x : Str) (px pos : Pos) (scope : Scope) (it : Addr) (cenv : Env) : Code := .compLoop (.GeneratorExp elt [⟨.Name x px, iter, [], 0⟩] scope pos) 0 (.ref it) .none cenv
abbrev startCode (elt iter : Expr) (x : Str) (px pos : Pos) (scope : Scope) (it : Addr) (cenv : Env) : Code := .compStart (.GeneratorExp elt [⟨.Name x px, iter, [], 0⟩] scope pos) 0 (.ref it) .none cenv
/-- J i: the i-th turn is about to begin; it holds whatever the table of generators, as long as none is to be cleaned up -/
structure Core (prog : Program) (w : World) (A : Around) (elt iter : Expr) (x : Str) (px pos : Pos) (scope : Scope) (it : Addr) (cenv : Env) (n : Nat) (J : Nat → Shared → Prop) (Fn : Shared → Prop) (pb : Nat → Bool) : Prop where
  co : cenv.scope.isCoroutine = false
  any : ∀ i s g' t', J i s → AllBare g' → J i { s with gens := g', toks := t' }
  bare : ∀ i s, J i s → AllBare s.gens
  self : ∀ (B : Around) (s : Shared) (Q : Value → Shared → Prop) (E : Value → Shared → Prop), J 0 s → Q (.ref it) s → wpAny (model prog w) B (pyIter (.ref it)) Q E s
  done : ∀ s, J n s → wpAny (model prog w) (A.over (turnCode elt iter x px pos scope it cenv) []) (pyNext (.ref it)) (fun r s' => r = none ∧ Fn s') (fun _ _ => False) s
  turn : ∀ i s, i < n → J i s → wpAny (model prog w) (A.over (turnCode elt iter x px pos scope it cenv) []) (pyNext (.ref it)) (fun r s1 => ∃ u, r = some u ∧
    wpAny (model prog w) (A.over (turnCode elt iter x px pos scope it cenv) []) (letOwnedTupleGo (.Name x px) (.ref it) u) (fun _ s0 =>
      wpAny (model prog w) (A.over (turnCode elt iter x px pos scope it cenv) []) (assign (.Name x px) cenv u) (fun _ s2 =>
        wpAny (model prog w) (A.over (turnCode elt iter x px pos scope it cenv) []) (eval elt cenv) (fun y s3 => y = .bool (pb i) ∧ J (i + 1) s3) (fun _ _ => False) s2) (fun _ _ => False) s0) (fun _ _ => False) s1) (fun _ _ => False) s
def endJ (Fn : Shared → Prop) : GenEnd := fun m s₀ r s₁ => r = .ok .next ∧ (m = 0 ∧ Fn s₁)
def outJ (n : Nat) (J : Nat → Shared → Prop) (pb : Nat → Bool) : Protocol := fun m s₀ v s kap => v = .bool (pb (n - 1 - m)) ∧ m < n ∧ J (n - m) s ∧ ∀ s'', J (n - m) s'' → kap (.send .none) s''
theorem seg_turns (C : Core prog w A elt iter x px pos scope it cenv n J Fn pb) : ∀ (k i : Nat) (s₀ s : Shared), n - i = k → i ≤ n → J i s →
    Seg (model prog w) A (endJ Fn) (outJ n J pb) k s₀ (turnCode elt iter x px pos scope it cenv) ((model prog w).den (turnCode elt iter x px pos scope it cenv)) [] s := by
  intro k
  induction k with
  | zero =>
    intro i s₀ s hk hi hJ
    obtain rfl : i = n := by omega
    show Seg _ A _ _ _ s₀ _ ((compTurn (.GeneratorExp elt [⟨.Name x px, iter, [], 0⟩] scope pos) 0 (.ref it) .none cenv).onRaise (leaving cenv)) [] s
    rw [compTurn_gen, Sem.onRaise_eq_wrap]
    refine seg_bind_wrap (wpAny_standAt ?_)
    refine seg_bind_wrap (wpAny_mono (C.done s hJ) (fun r s' hr => ?_) fun _ _ z => False.elim z)
    obtain ⟨rfl, hJ'⟩ := hr
    exact seg_end (.ok .next) ⟨rfl, rfl, hJ'⟩
  | succ k ih =>
    intro i s₀ s hk hi hJ
    have lt : i < n := by omega
    show Seg _ A _ _ _ s₀ _ ((compTurn (.GeneratorExp elt [⟨.Name x px, iter, [], 0⟩] scope pos) 0 (.ref it) .none cenv).onRaise (leaving cenv)) [] s
    rw [compTurn_gen, Sem.onRaise_eq_wrap]
    refine seg_bind_wrap (wpAny_standAt ?_)
    refine seg_bind_wrap (wpAny_mono (C.turn i s lt hJ) (fun r s1 hr => ?_) fun _ _ z => False.elim z)
    obtain ⟨u, rfl, h1⟩ := hr
    refine seg_bind_wrap (wpAny_mono h1 (fun _ s0 h0 => ?_) fun _ _ z => False.elim z)
    refine seg_bind_wrap (wpAny_mono h0 (fun _ s2 h2 => ?_) fun _ _ z => False.elim z)
    refine seg_bind_wrap ?_
    rw [List.forIn_nil]
    refine wpAny_pure ?_
    simp only [if_true]
    have out : ∀ v, yieldOut cenv v = yieldValue v := fun v => by simp only [yieldOut, C.co, Bool.false_eq_true, if_false]
    simp only [out]
    rw [Sem.bind_eq_wrap', Sem.bind_eq_wrap', Sem.wrap_wrap, Sem.wrap_wrap]
    refine seg_wrap (wpAny_mono h2 (fun y s3 h3 => ?_) fun _ _ z => False.elim z)
    obtain ⟨rfl, hJ3⟩ := h3
    have e1 : n - 1 - k = i := by omega
    have e2 : n - k = i + 1 := by omega
    refine seg_at (seg_yield rfl rfl rfl ⟨by show _ = Value.bool (pb (n - 1 - k)); rw [e1], by show k < n; omega, by show J (n - k) s3; rw [e2]; exact hJ3, fun s'' h'' => ?_⟩)
    have h4 : J (i + 1) s'' := by rw [← e2]; exact h''
    exact seg_again rfl (ih (i + 1) s'' s'' (by omega) lt h4)
theorem seg_begins (C : Core prog w A elt iter x px pos scope it cenv n J Fn pb) (s₀ s : Shared) (hJ : J 0 s) :
    Seg (model prog w) A (endJ Fn) (outJ n J pb) n s₀ (startCode elt iter x px pos scope it cenv) ((model prog w).den (startCode elt iter x px pos scope it cenv)) [] s := by
  have loop := seg_turns C n 0 s₀ s (Nat.sub_zero _) (Nat.zero_le _) hJ
  show Seg _ A _ _ _ s₀ _ ((compStart (.GeneratorExp elt [⟨.Name x px, iter, [], 0⟩] scope pos) 0 (.ref it) .none cenv).onRaise (leaving cenv)) [] s
  unfold compStart
  rw [Sem.onRaise_eq_wrap]
  show Seg _ A _ _ _ s₀ _ ((ask >>= _).wrap _ _ _ _) [] s
  refine seg_bind_wrap (wpAny_askSetting ?_)
  split
  · exact seg_again rfl loop
  · first
      | exact seg_bind_wrap (wpAny_rule (seg_bind_wrap (wpAny_standAt (seg_bind_wrap (C.self _ s _ _ hJ (seg_again rfl loop))))))
      | (refine seg_bind_wrap (wpAny_rule ?_); show Seg _ A _ _ _ s₀ _ ((standAt iter.pos >>= _).wrap _ _ _ _) [] s; exact seg_bind_wrap (wpAny_standAt (seg_bind_wrap (C.self _ s _ _ hJ (seg_again rfl loop)))))
/-- the generator a, number g, sleeps ahead of its i-th turn -/
def Asleep (prog : Program) (w : World) (B : Around) (a : Addr) (g : Nat) (n : Nat) (J : Nat → Shared → Prop) (Fn : Shared → Prop) (pb : Nat → Bool) (i : Nat) (s : Shared) : Prop :=
  J i s ∧ ∃ gs, s.gens[g]? = some gs ∧ ∀ s'', J i s'' → gs.Goes (model prog w) B (endJ Fn) (outJ n J pb) (n - i) (.send .none) s''
/-- what the consumer asks of J: the generator's object stands, there is no lid -/
structure Held (a : Addr) (g : Nat) (J : Nat → Shared → Prop) (Fn : Shared → Prop) : Prop where
  gen : ∀ i s, J i s → s.heap.IsGen a g
  lim : ∀ i s, J i s → s.heap.NoLimit
  any : ∀ i s g' t', J i s → AllBare g' → J i { s with gens := g', toks := t' }
  bare : ∀ i s, J i s → AllBare s.gens
  /-- behind the end: the making of StopIteration leaves all as it stands -/
  more : ∀ s h', Fn s → (∀ b o, s.heap.get? b = some o → h'.get? b = some o) → Fn { s with heap := h' }
  anyF : ∀ s g', Fn s → AllBare g' → Fn { s with gens := g' }
  bareF : ∀ s, Fn s → AllBare s.gens
  fin : ∀ i s, J i s → Fn s
theorem set_bare {s : Shared} {g : Nat} {y : GenState} (h : AllBare s.gens) (hy : y.bare = true) : AllBare (s.setGen g y).gens := allBare_setGen h hy
theorem all_turns {a : Addr} {g : Nat} {R : Result → Shared → Prop} (D : Held a g J Fn) (hh : A.handled = none) (hroom : A.depth < recursionLimit) : ∀ (k i : Nat) (s : Shared), n - i = k → i ≤ n → Asleep prog w A.in1.in1 a g n J Fn pb i s →
    (∀ s', Fn s' → R (.ok (.ret (.bool (((List.range n).drop i).all pb)))) s') → codeAny (model prog w) A (.builtin "all.loop" ⟨[.ref a], []⟩) R s := by
  intro k
  induction k with
  | zero =>
    intro i s hk hi hA hR
    obtain rfl : i = n := by omega
    obtain ⟨hJ, gs, hgs, goes⟩ := hA
    rw [Nat.sub_self] at goes
    refine codeAny_builtin F.entry_all_loop ?_
    rw [Around.under_plainId F.plain_all_loop _]
    show wpAny _ A.in1 (pyNext (.ref a) >>= _) _ _ s
    refine wpAny_bind (wpAny_pyNext_genexpQ (A := A.in1) (P := fun m s₀ s₁ => m = 0 ∧ Fn s₁) hh (D.lim i s hJ) hroom (D.gen i s hJ) hgs (goes _ (D.any i s _ s.toks hJ (set_bare (D.bare i s hJ) rfl))) (fun v s₁ gs' hb hv => ?_) (fun s₁ hp h' up => ?_))
    · exact False.elim (hv.2.2.2 _ hv.2.2.1)
    · refine wpAny_bind (wpAny_rule (wpAny_pure ?_))
      have last := hR _ (D.more _ h' (D.anyF s₁ (s₁.setGen g .finished).gens hp.2 (set_bare (D.bareF s₁ hp.2) rfl)) up)
      rw [List.drop_of_length_le (by simp)] at last
      exact last
  | succ k ih =>
    intro i s hk hi hA hR
    obtain ⟨hJ, gs, hgs, goes⟩ := hA
    have lt : i < n := by omega
    have cut : (List.range n).drop i = i :: (List.range n).drop (i + 1) := by
      rw [List.drop_eq_getElem_cons (by simpa using lt)]
      simp
    have gl : g < s.gens.size := (Array.getElem?_eq_some_iff.mp hgs).1
    rw [hk] at goes
    refine codeAny_builtin F.entry_all_loop ?_
    rw [Around.under_plainId F.plain_all_loop _]
    show wpAny _ A.in1 (pyNext (.ref a) >>= _) _ _ s
    refine wpAny_bind (GenW.wpAny_gsz (n := g + 1) gl (wpAny_pyNext_genexpQ (A := A.in1) (P := fun m s₀ s₁ => m = 0 ∧ Fn s₁) hh (D.lim i s hJ) hroom (D.gen i s hJ) hgs (goes _ (D.any i s _ s.toks hJ (set_bare (D.bare i s hJ) rfl))) (fun v s₁ gs' hb hv => ?_) (fun s₁ hp h' up => ?_)))
    · obtain ⟨ev, hm, hJ1, kap⟩ := hv
      intro big
      have e1 : n - 1 - (k + 1 - 1) = i := by omega
      have e2 : n - (k + 1 - 1) = i + 1 := by omega
      rw [e1] at ev
      rw [e2] at hJ1 kap
      subst ev
      have hJ2 : J (i + 1) (s₁.setGen g gs') := D.any (i + 1) s₁ (s₁.setGen g gs').gens s₁.toks hJ1 (set_bare (D.bare _ _ hJ1) hb)
      refine wpAny_bind (wpAny_holding (wpAny_truthy_bool ?_))
      refine wpAny_bind (wpAny_letGo ?_)
      cases hp : pb i with
      | true =>
        simp only [if_true]
        refine wpAny_pure ⟨plainId_quiet F.plain_all_loop _, ih (i + 1) _ (by omega) lt ⟨hJ2, gs', ?_, ?_⟩ fun s' hj => ?_⟩
        · have q : (s₁.setGen g gs').gens.size = s₁.gens.size := GenW.setGen_size _ _ _
          have big' : g + 1 ≤ (s₁.setGen g gs').gens.size := big
          exact setGen_at (by omega)
        · intro s'' h''
          have e3 : n - (i + 1) = k := by omega
          rw [e3]
          exact kap s'' h''
        · have last := hR s' hj
          rw [cut, List.all_cons, hp, Bool.true_and] at last
          exact last
      | false =>
        simp only [Bool.false_eq_true, if_false]
        refine wpAny_bind (wpAny_rule (wpAny_pure ?_))
        have last := hR _ (D.fin (i + 1) _ hJ2)
        rw [cut, List.all_cons, hp, Bool.false_and] at last
        exact last
    · exact absurd hp.1 (Nat.succ_ne_zero k)
end
end Gn

set_option Elab.async false
set_option linter.all false
set_option maxRecDepth 100000
set_option maxHeartbeats 4000000
/-! .. then with the layer's own words: the element is any expression of the block. -/
namespace Gn
open PySem PySem.Spec PyProof.Rows L2
/-- the environment, the context of the inner block; it began at s with H -/
abbrev blkEnv (X : Cx) (scope : Scope) (C : Addr) (code : Value) : Env := genEnv scope (cloFrom X.env.cells scope.names []) C code builtinsNs X.env
abbrev gblk (X : Cx) (B : Around) (s : Shared) (H : Hp) (scope : Scope) (C : Addr) (code : Value) (fp : List Addr) : Cx :=
  { X with A := B, s_0 := s, H_0 := H, env := blkEnv X scope C code, outer := X.stack, stack := blkEnv X scope C code :: X.stack, ex := fp, fn := fun _ => false, calm := true, pn := [], xe := fun _ _ => False }
section
variable {X : Cx} {pins : List (Addr × Obj)} {σ : L2.St} {H : Hp} {s : Shared}
theorem blk_start {scope : Scope} {own : List (Str × Nat)} {fp : List Addr} {B : Around} {code : Value} {h5 : Heap} {g5 : Array GenState} {t5 : Nat} {m : Str → Option Value} (I : Inv X pins σ H s) (hN : X.N.Nodup) (ok : BlkOk X.N X.env.scope scope own) (noCell : ∀ y ∈ scope.names, y.2 ≠ .cell)
    (hfp : ∀ b ∈ fp, FpOk X pins H b ∧ b < s.heap.objs.size) (kp : ∀ b o, s.heap.get? b = some o → h5.get? b = some o) (ns : h5.Ns s.heap.objs.size m) (bare : AllBare g5) (hh : B.handled = none) (fr : B.frames = some (blkEnv X scope s.heap.objs.size code :: X.stack)) :
    Inv (gblk X B s H scope s.heap.objs.size code fp) [] (wipe σ (own.map (·.2))) H { s with heap := h5, gens := g5, toks := t5 } := by
  have has : ∀ y ∈ scope.names, y.2 = .free → ∃ c, X.env.cells.lookup y.1 = some c := fun y hy e => by
    rcases ok.free y hy e with k | k
    · exact I.ok.has _ (.inl k)
    · exact I.ok.has _ (.inr k)
  have mem : ∀ {y c}, (cloFrom X.env.cells scope.names []).lookup y = some c → X.env.cells.lookup y = some c ∧ c < s.heap.objs.size := fun {y c} e => by
    rcases cloFrom_mem (Gc.mem_of_lookup e) with z | ⟨z, rfl⟩
    · cases z
    · obtain ⟨c, hc⟩ := has _ z rfl
      rw [hc]
      obtain ⟨u, q⟩ := I.cell _ _ hc
      exact ⟨rfl, q.lt⟩
  have free_of : ∀ {y : Str}, (scope.names.lookup y = some NameKind.cell ∨ scope.names.lookup y = some NameKind.free) → (y, NameKind.free) ∈ scope.names := fun {y} hy => by
    rcases hy with e | e
    · exact absurd rfl (noCell _ (Gc.mem_of_lookup e))
    · exact Gc.mem_of_lookup e
  have okB : (gblk X B s H scope s.heap.objs.size code fp).Ok := by
    refine ⟨I.ok.mod, ok.kind, I.ok.glob, rfl, Nat.le_refl _, fun y z c e1 e2 => I.ok.inj y z c (mem e1).1 (mem e2).1, fun y hy => ?_, fun y c z _ => Bool.noConfusion z, fun _ => hh, fr, .inr ⟨rfl, rfl⟩, fun b hb => ⟨Nat.ne_of_lt (hfp b hb).2, fun y c e z => ?_⟩, I.bs, Nat.le_trans I.ok.bsz I.sz,
      fun b o e hb => ?_, fun b hb z => ?_, I.stack, I.stkFree⟩
    · obtain ⟨d, hd⟩ := mem_lookup (cloFrom_has (acc := []) (cells := X.env.cells) (free_of hy))
      exact ⟨d, hd⟩
    · exact (hfp b hb).1.2.2.2.2.1 y c (mem e).1 z
    · rcases (hfp b hb).1.2.2.2.1 with z | z
      · exact I.ok.noex b o e z
      · exact absurd (Nat.lt_of_lt_of_le (Heap.lt_size e) (Nat.le_trans I.ok.bsz z)) (Nat.lt_irrefl _)
    · rcases List.mem_cons.mp (I.stkSub b z) with z | z
      · exact (hfp b hb).1.2.1 z
      · exact (hfp b hb).1.2.2.1 z
  refine ⟨okB, rfl, bare, Un.kept kp, ⟨m, ns, fun i y v e1 e2 e3 => ?_⟩, fun y c e => ?_, I.hok.fresh (Nat.le_refl _), fun y c e => I.freeC y c (mem e).1, fun p hp => absurd (show p ∈ ([] : List (Addr × Obj)) ++ [] from hp) (by simp), I.hok.kept kp, by rw [wipe_length]; exact I.len⟩
  · obtain ⟨e2', out⟩ := wipe_some e2
    have vis : scope.names.lookup y = some .local ∨ scope.names.lookup y = some .cell ∨ scope.names.lookup y = some .free := e3
    have isFree : scope.names.lookup y = some .free := by
      have own_no : ∀ k : NameKind, scope.names.lookup y = some k → (k = .local ∨ k = .cell) → False := fun k e hk => by
        rcases ok.own _ (Gc.mem_of_lookup e) hk with z | z
        · obtain ⟨p, hp, py⟩ := List.mem_map.mp z
          have q := ok.ix p hp
          rw [show p.1 = y from py] at q
          exact out (List.mem_map.mpr ⟨p, hp, nd_ix hN q e1⟩)
        · exact z (List.mem_of_getElem? e1)
      rcases vis with e | e | e
      · exact (own_no _ e (.inl rfl)).elim
      · exact (own_no _ e (.inr rfl)).elim
      · exact e
    have inner : (y, NameKind.free) ∈ scope.names := Gc.mem_of_lookup isFree
    obtain ⟨m0, _, hl⟩ := I.loc
    have visX : Vis X.env.scope y := (ok.free _ inner rfl).elim (fun k => .inr (.inl k)) fun k => .inr (.inr k)
    obtain ⟨u, r, q⟩ := hl i y v e1 e2' visX
    refine ⟨u, r, .inr ⟨.inr isFree, ?_⟩⟩
    rcases q with ⟨k, _⟩ | ⟨_, c, hc, z⟩
    · have k : X.env.scope.names.lookup y = some .local := k
      rcases ok.free _ inner rfl with k' | k' <;> rw [show X.env.scope.names.lookup y = _ from k'] at k <;> cases k
    · exact ⟨c, Gc.cap_lookup inner hc, z.keeps kp⟩
  · obtain ⟨u, z⟩ := I.cell y c (mem e).1
    exact ⟨u, z.keeps kp⟩
theorem inv_regen {Y : Cx} {pn : List (Addr × Obj)} {τ : L2.St} {H' : Hp} {s' : Shared} (I : Inv Y pn τ H' s') (g : Array GenState) (t : Nat) (hb : AllBare g) : Inv Y pn τ H' { s' with gens := g, toks := t } :=
  ⟨I.ok, I.os, hb, I.base, I.loc, I.cell, I.free, I.freeC, I.pin, I.hok, I.len⟩
/-- all(elt for x in iter): x's slot ix; the def's table may grow first; W by the turn and the heap -/
def tAllN (P : Addr) (wi : TI) (ix : Nat) (te : TE) : TE := fun σ H Q => wi σ H fun J H1 => GxR.TabG H1 P ∧ ∀ H2, GxR.Tabbed P H1 H2 → ∃ (n : Nat) (pb : Nat → Bool) (W : Nat → Hp → Prop), W 0 H2 ∧
  (∀ i H3, i < n → W i H3 → J.go i H3 ∧ ∀ x H4, J.yld i H3 x H4 → te ((wipe σ [ix]).set ix (some x)) H4 fun y H5 => y = .bl (pb i) ∧ W (i + 1) H5) ∧ (∀ H3, W n H3 → J.stop n H3) ∧ ∀ i H3, W i H3 → Q (.bl ((List.range n).all pb)) H3
theorem pe_allN {c P : Addr} {elt iter : Expr} {x : Str} {px p pos gpos : Pos} {scope : Scope} {wi : TI} {te : TE} {k ix : Nat}
    (hr : Room (k + 1) X.A) (hg : Gl X "all") (hm : X.mg "all" = none) (hb : bootBuiltins "all" = some (.builtin "all")) (TB : GxR.TabB X.base X.mg c P) (hcode : X.env.code = .ref c) (hN : X.N.Nodup) (S : Gc.GenSc X.env.scope scope x) (ok : BlkOk X.N X.env.scope scope [(x, ix)]) (hx : X.N[ix]? = some x)
    (hi : PI X (.Name x px) iter wi) (hel : ∀ (B : Around) (s : Shared) (H : Hp) (C : Addr) (code : Value) (fp : List Addr), Room k B → PE (gblk X B s H scope C code fp) elt te) (hs : ∀ v, genFold iter X.env v = pure v)
    (he : starEach [.GeneratorExp elt [⟨.Name x px, iter, [], 0⟩] scope gpos] X.env = (false, eval (.GeneratorExp elt [⟨.Name x px, iter, [], 0⟩] scope gpos) X.env) :: starEach [] X.env := by rfl) :
    PE X (.Call (.Name "all" p) [.GeneratorExp elt [⟨.Name x px, iter, [], 0⟩] scope gpos] [] pos) (tAllN P wi ix te) := by
  refine ⟨fun pins s σ H Q I h => ?_⟩
  have has : ∀ y ∈ scope.names, y.2 = .free → ∃ a, X.env.cells.lookup y.1 = some a := fun y hy e => I.ok.has _ (.inl (S.free y hy e))
  refine wpAny_Call_Name_kw (ld_blt I hg hm hb ?_)
  refine PyProof.Rows.callWith_builtin1 ?_ he (by rfl)
  rw [he]
  show wpAny _ _ (spliced (_ :: backTo pos (starEach [] X.env))) _ _ _
  refine Calls.spliced_cons ?_
  refine wpAny_GeneratorExp_make S.co (closure_ok has) S.cell S.dot S.kind (by have := hr.dp; omega) ?_ hs
  refine thn (hi.run pins s σ H _ I h) fun xv s1 h1 => thn h1 fun itv s2 h2 => ?_
  obtain ⟨it, fp, tn, J, H1, rfl, I1, T, st, ffp, ⟨ps, hP, trip⟩, want⟩ := h2
  have tab1 : s2.heap.get? P = some { cls := .none, data := .fields ps } := I1.hok P _ hP
  refine ⟨I1.nolimit, Gc.code_either hcode (TB.code.keeps fun b u e => I1.bk b u e) tab1 trip fun code h3 tk more ext big tab3 trip3 => ?_⟩
  have I2 := GxR.inv_tab (more := more) (h' := h3) (g' := s2.gens) (d' := s2.drawn) (t' := tk) I1 hP ext tab3 I1.bare
  have grown : GxR.Tabbed P H1 (upd H1 P (.tbl (ps ++ more))) := ⟨⟨_, upd_same, trip3⟩, fun b ne => upd_ne ne⟩
  obtain ⟨n, pb, W, w0, step, stop, fin⟩ := want _ grown
  have nP : ∀ b ∈ fp, b ≠ P := fun b hb z => by
    have q := (ffp b hb).1
    rw [z, hP] at q
    cases q
  have fH2 : ∀ b ∈ fp, FpOk X pins (upd H1 P (.tbl (ps ++ more))) b := fun b hb => ⟨by rw [upd_ne (nP b hb)]; exact (ffp b hb).1, (ffp b hb).2⟩
  generalize hH2 : upd H1 P (.tbl (ps ++ more)) = H2 at I2 w0 fH2
  generalize hs3 : ({ s2 with heap := h3, gens := s2.gens, drawn := s2.drawn, toks := tk } : Shared) = s3 at I2
  have eh3 : s3.heap = h3 := by rw [← hs3]
  have st3 : tn 0 s3.heap := T.keep _ _ _ st fun b hb o e => by rw [eh3]; exact ext b o (nP b hb) e
  obtain ⟨bm, ob, b1, b2, b3, b4, b5, b6, b7, b8⟩ := TB.bm
  refine wpAny_builtinsFor (m := X.mg) (by rw [I2.ok.glob]; exact I2.mod.glob.keeps I2.bk) b1 b2 (I2.bk _ _ b5) b6 b7 b8 ?_
  intro h4 ns same
  have sz4 : h4.objs.size = s3.heap.objs.size + 1 := by rw [same.1, Heap.size_push]
  have up4 : ∀ b o, s3.heap.get? b = some o → h4.get? b = some o := fun b o e => same.extBut b o (Nat.ne_of_lt (Heap.lt_size e)) (Heap.get?_push_of_some _ e)
  generalize hgo : ({ cls := .type "generator", data := .fields #[.int s3.gens.size 0, .str "<genexpr>" (s3.toks + 1), .str (X.env.qual ++ "<genexpr>") (s3.toks + 1 + 1)] } : Obj) = go
  have isGen : ∀ h : Heap, h.get? h4.objs.size = some go → h.IsGen h4.objs.size s3.gens.size := fun h e => by
    subst hgo
    exact ⟨_, _, _, e, rfl, rfl, rfl⟩
  have new4 : (h4.push go).get? h4.objs.size = some go := by
    subst hgo
    exact Heap.get?_push_size _ rfl
  have offStack : ∀ b, s3.heap.objs.size ≤ b → b ∉ frs X.stack := fun b hb z => by
    rcases List.mem_cons.mp (I2.stkSub b z) with q | q
    · rw [q] at hb
      exact absurd (Nat.lt_of_lt_of_le I2.lt hb) (Nat.lt_irrefl _)
    · exact I2.nofs hb q
  have up5 : ∀ b o, s3.heap.get? b = some o → (h4.push go).get? b = some o := fun b o e => Heap.get?_push_of_some _ (up4 b o e)
  let B : Around := X.A.in1.in1.over (turnCode elt iter x px gpos scope it (blkEnv X scope s3.heap.objs.size code)) []
  have hhB : B.handled = none := hr.hd
  have frB : B.frames = some (blkEnv X scope s3.heap.objs.size code :: X.stack) := by
    have q : X.A.frames = some X.stack := I2.ok.frames
    show pushEnvs [blkEnv X scope s3.heap.objs.size code] X.A.frames = _
    rw [q]
    rfl
  have roomB : Room k B := ⟨hhB, by have := hr.dp; show X.A.depth + 0 + 1 + 3 * k + 5 < _; omega, by have := hr.un; show X.A.units + 1 + 1 + 0 + 3 + 16 * k + 200 < _; omega⟩
  have lt3 : ∀ b ∈ fp, b < s3.heap.objs.size := fun b hb => by
    obtain ⟨o, e, _⟩ := T.obj _ _ st3 b hb
    exact Heap.lt_size e
  have start := blk_start (B := B) (code := code) (h5 := h4.push go) (g5 := s3.gens.push (.fresh (startCode elt iter x px gpos scope it (blkEnv X scope s3.heap.objs.size code)))) (t5 := s3.toks + 1 + 1 + 1) (own := [(x, ix)]) (fp := fp) I2 hN ok S.cell (fun b hb => ⟨fH2 b hb, lt3 b hb⟩) up5 (ns.push go) (I2.bare.push rfl) hhB frB
  have w1 : wipe σ ([(x, ix)].map (·.2)) = wipe σ [ix] := rfl
  rw [w1] at start
  generalize hY : gblk X B s3 H2 scope s3.heap.objs.size code fp = Y at start
  have a_ne : h4.objs.size ≠ s3.heap.objs.size := by omega
  have pinned : ∀ {τ : L2.St} {H' : Hp} {s' : Shared}, Inv Y [] τ H' s' → s'.heap.get? h4.objs.size = some go → H' h4.objs.size = none → Inv Y [(h4.objs.size, go)] τ H' s' := fun {τ H' s'} K e e2 => K.pins_of fun q hq => by
    obtain rfl := List.mem_singleton.mp hq
    refine ⟨e, e2, by rw [← hY]; exact a_ne, by rw [← hY]; exact offStack _ (by rw [sz4]; exact Nat.le_succ _), fun v z => ?_⟩
    rw [← hgo] at z
    cases z
  have Ypn : Y.pn = [] := by rw [← hY]
  have Yfp : ∀ {H' : Hp}, (∀ b ∈ fp, H' b = none) → ∀ b ∈ fp, FpOk Y [(h4.objs.size, go)] H' b := fun {H'} hn b hb => by
    have okY := start.ok
    have hex : b ∈ Y.ex := by rw [← hY]; exact hb
    refine ⟨hn b hb, (okY.exf b hex).1, okY.exfs b hex, .inl hex, fun y c e => (okY.exf b hex).2 y c e, fun q hq => ?_⟩
    rw [Ypn, List.nil_append] at hq
    obtain rfl := List.mem_singleton.mp hq
    intro z
    have l := lt3 b hb
    have e : b = s3.heap.objs.size + 1 := (show h4.objs.size = b from z).symm.trans sz4
    rw [e] at l
    exact absurd l (Nat.not_lt.mpr (Nat.le_succ _))
  have st5 : tn 0 (h4.push go) := T.keep _ _ _ st3 fun b _ o e => up5 b o e
  have start2 := pinned start new4 (by
    have q := start.hok.fresh (a := h4.objs.size)
    exact I2.hok.fresh (by rw [sz4]; exact Nat.le_succ _))
  -- the i-th turn is about to begin
  let Js : Nat → Shared → Prop := fun i s' => ∃ H', Inv Y [(h4.objs.size, go)] (wipe σ [ix]) H' s' ∧ tn i s'.heap ∧ (∀ b ∈ fp, H' b = none) ∧ W i H'
  let Fs : Shared → Prop := fun s' => ∃ i H', Inv Y [(h4.objs.size, go)] (wipe σ [ix]) H' s' ∧ W i H'
  have held : Held h4.objs.size s3.gens.size Js Fs := {
    gen := fun i s' ⟨H', K, _⟩ => isGen _ (K.pin (h4.objs.size, go) (List.mem_append_right _ (List.mem_singleton.mpr rfl))).1
    lim := fun i s' ⟨H', K, _⟩ => K.nolimit
    any := fun i s' g' t' ⟨H', K, a1, a2, a3⟩ hb => ⟨H', inv_regen K g' t' hb, a1, a2, a3⟩
    bare := fun i s' ⟨H', K, _⟩ => K.bare
    more := fun s' h' ⟨i, H', K, a3⟩ up => ⟨i, H', K.kept (t' := s'.toks) up, a3⟩
    anyF := fun s' g' ⟨i, H', K, a3⟩ hb => ⟨i, H', inv_regen K g' s'.toks hb, a3⟩
    bareF := fun s' ⟨_, H', K, _⟩ => K.bare
    fin := fun i s' ⟨H', K, _, _, a3⟩ => ⟨i, H', K, a3⟩ }
  have progs : Y.prog = X.prog ∧ Y.w = X.w ∧ Y.K = X.K ∧ Y.calm = true ∧ Y.A = B ∧ Y.N = X.N ∧ Y.xe = fun _ _ => False := by
    rw [← hY]
    exact ⟨rfl, rfl, rfl, rfl, rfl, rfl, rfl⟩
  obtain ⟨y1, y2, y3, y4, y5, y6, y7⟩ := progs
  have pe := hel B s3 H2 s3.heap.objs.size code fp roomB
  rw [hY] at pe
  have pg : PG Y (.Name x px) (gName ix) := by
    rw [← hY]
    exact pg_name hN hx (.inl S.loc) (.inr S.loc)
  have envY : Y.env = blkEnv X scope s3.heap.objs.size code := by rw [← hY]
  have core : Core X.prog X.w X.A.in1.in1 elt iter x px gpos scope it (blkEnv X scope s3.heap.objs.size code) n Js Fs pb := {
    co := S.co
    any := held.any
    bare := held.bare
    self := fun B' s' Q' E' ⟨H', K, a1, _⟩ q => T.self B' 0 s' Q' E' a1 q
    done := fun s' ⟨H', K, a1, a2, a3⟩ => by
      have td := T.done Y y1 y2 y3 y4 n [(h4.objs.size, go)] s' _ H' (fun _ _ => False) K (Yfp a2) a1 (stop H' a3)
      rw [y5] at td
      exact thn td fun r s'' ⟨hr, K2⟩ => ⟨hr, n, H', K2, a3⟩
    turn := fun i s' lt ⟨H', K, a1, a2, a3⟩ => by
      obtain ⟨go_, item⟩ := step i H' lt a3
      have ti := T.item Y y1 y2 y3 y4 i [(h4.objs.size, go)] s' _ H' (fun _ _ => False) K (Yfp a2) a1 go_
      rw [y5] at ti
      refine thn ti fun r s6 ⟨u, hr, h6⟩ => ⟨u, hr, ?_⟩
      refine thn h6 fun _ s7 ⟨xv, H7, K7, r7, q7, st7, n7⟩ => ?_
      have K7' := K7.pinned (Yfp n7) (T.obj _ _ st7)
      have pa := pg.run _ s7 _ H7 xv u (fun σ' H' => σ' = (wipe σ [ix]).set ix (some xv) ∧ H' = H7) K7' r7 ⟨rfl, rfl⟩
      rw [y1, y2, y5, y7, envY] at pa
      refine thn pa fun _ s8 ⟨σ8, H8, K8, e8, e8'⟩ => ?_
      subst e8 e8'
      have pv_ := pe.run _ s8 _ H8 _ K8 (item xv H8 q7)
      rw [y1, y2, y5, y7, envY] at pv_
      refine thn pv_ fun y s9 ⟨v, H9, K9, rv, ev, w9⟩ => ?_
      subst ev
      have pin' : ∀ b ∈ fp, ∀ o, s7.heap.get? b = some o → s9.heap.get? b = some o ∧ H9 b = none := fun b hb o e =>
        let z := K9.pin (b, o) (List.mem_append_right _ (List.mem_append_right _ (mem_pinsAt hb e)))
        ⟨z.1, z.2.1⟩
      refine ⟨rv, H9, (K9.unpinned (pins := [(h4.objs.size, go)])).weak ?_ fun j v e => ?_, T.keep _ _ _ st7 fun b hb o e => (pin' b hb o e).1, fun b hb => ?_, w9⟩
      · rw [List.length_set]
      · obtain ⟨_, out⟩ := wipe_some e
        rw [List.getElem?_set_ne (fun z => out (by rw [z]; exact List.mem_singleton.mpr rfl))]
        exact e
      · obtain ⟨o, e, _⟩ := T.obj _ _ st7 b hb
        exact (pin' b hb o e).2 }
  -- the call of all
  refine Calls.spliced_nil ?_
  refine call_function_tree F.kind_all F.plain_all F.entry_all (F.args_all1 _) ?_
  unfold Builtin.«all»
  refine wpAny_bind (m := oneArg "all" _) (wpAny_pure ?_)
  refine wpAny_bind (wpAny_pyIter_gen (isGen _ new4) ?_)
  have hs' : Asleep X.prog X.w X.A.in1.in1 h4.objs.size s3.gens.size n Js Fs pb 0 { s3 with heap := h4.push go, gens := s3.gens.push (.fresh (startCode elt iter x px gpos scope it (blkEnv X scope s3.heap.objs.size code))), toks := s3.toks + 1 + 1 + 1 } :=
    ⟨⟨H2, start2, st5, fun b hb => (fH2 b hb).1, w0⟩, _, Array.getElem?_push_size .., fun s'' h'' => ⟨rfl, seg_begins core s'' s'' h''⟩⟩
  refine wpAny_pure ⟨plainId_quiet F.plain_all_loop _, all_turns held hr.hd (by have := hr.dp; omega) n 0 _ rfl (Nat.zero_le _) hs' fun s' hF => ?_⟩
  obtain ⟨i, H', K, wi'⟩ := hF
  have back : Inv X pins σ H' s' := by
    have b0 : Un (frs X.stack) fp H2 H' s3.heap s'.heap := by
      have q := K.base
      rw [← hY] at q
      exact q
    have o0 : s'.os = s3.os := by
      have q := K.os
      rw [← hY] at q
      exact q
    have k0 : HOk X.prog X.w H' s'.heap := by
      have q := K.hok
      rw [← hY] at q
      exact q
    exact I2.call' (ch := fp) o0 b0 k0 K.bare fun b hb => ⟨(fH2 b hb).2.2.2.1, (fH2 b hb).2.1, (fH2 b hb).2.2.2.2.1, (fH2 b hb).2.2.2.2.2⟩
  exact ⟨.bl _, H', back, rfl, fin i H' wi'⟩
end
end Gn

set_option Elab.async false
set_option linter.all false
set_option maxRecDepth 100000
set_option maxHeartbeats 4000000
/-! Kinds, as the program tells them. -/
namespace Ld
open PySem PySem.Spec PyProof.Rows L2
abbrev sWord : Stmt := s__is_word
abbrev sKind : Stmt := s_is_kind
section
variable {P : Program} {w : World} {K : PySem.W.Frag} {mg : Str → Option Value} {base : Heap}
/-! ### words of letters -/
/-- as Fun.ok, the def's code told -/
theorem okT {x qual : Str} {st : Stmt} {f c : Addr} {fd : FuncData} {N ps : List Str} {k : Nat} {sp : Sp} (F : Fun K x qual st f fd) (hc : fd.code = .ref c) (S : FnScope N ps (defScope st)) (len : ∀ vs H Q E, sp vs H Q E → vs.length = ps.length)
    (hbody : ∀ (A : Around) (outer : List Env) (s : Shared) (H : Hp) (vs : List V) (Q : VK) (E : XK), Room k (A.deeper (envOfC qual (defScope st) s.heap.objs.size f (.ref c))) → sp vs H Q E →
      ∃ t, PSs (cxOf CX0 P w K mg base N qual (defScope st) f (.ref c) A outer s H E).nox (defBody st) t ∧ t { nx := fun _ H' => Q .non H', rt := Q } (start N vs) H) : FnOk P w K mg base CX0 (k + 1) f fd ps sp := by
  obtain ⟨oc, od, kV, doc, pm, an, cdv, ct, osl, rfl, lk, hcd⟩ := F.ex
  have e : cdv = .ref c := hc
  subst e
  refine fn_of lk hcd S len fun A outer s H vs Q E hr hsp => ?_
  obtain ⟨t, h, q⟩ := hbody A outer s H vs Q E hr hsp
  exact ⟨t, h.nox, q⟩
theorem scW : FnScope ["text", "first", "last"] ["text", "first", "last"] (defScope sWord) := ⟨rfl, rfl, rfl, by decide +kernel, rfl, by decide +kernel, by decide +kernel⟩
def spWord (T : Addr) : Sp := fun vs H Q _ => ∃ (z lo hi : Str), vs = [.str z, .str lo, .str hi] ∧ z.length ≤ sizeLine ∧ GxR.TabG H T ∧ ∀ H2, GxR.Tabbed T H H2 → Q (.bl (wordB z lo hi)) H2
theorem wFree : ∀ y ∈ ([((".0" : Str), NameKind.local), ("letter", NameKind.local), ("first", NameKind.free), ("last", NameKind.free)] : List (Str × NameKind)), y.2 = .free → (defScope sWord).names.lookup y.1 = some .cell := by decide +kernel
theorem wCell1 : (defScope sWord).names.lookup ("first" : Str) = some NameKind.cell := by decide +kernel
theorem wCell2 : (defScope sWord).names.lookup ("last" : Str) = some NameKind.cell := by decide +kernel
theorem ok_word {f c T : Addr} {fd : FuncData} {k : Nat} (F : Fun K "_is_word" "_is_word" sWord f fd) (hc : fd.code = .ref c) (TB : GxR.TabB base mg c T) (ml : mg "len" = none) (ma : mg "all" = none) {tk : Tok} (mm : mg "MOST_LETTERS" = some (.int 12 tk)) :
    FnOk P w K mg base CX0 (k + 1) f fd ["text", "first", "last"] (spWord T) := by
  refine okT F hc scW (fun vs H Q E h => ?_) (fun A outer s H vs Q E hr h => ?_)
  · obtain ⟨z, lo, hi, rfl, _⟩ := h
    rfl
  · obtain ⟨z, lo, hi, rfl, hz, tg, q⟩ := h
    refine ⟨_, pss_one (ps_ret (pe_and (pe_chain op_le op_le pe_int (pe_callB call_len_str (by rfl) ml PySem.boot_len (pa_cons (pv 0) pa_nil)) (pe_glob (v := .int 12) rfl mm ⟨_, rfl⟩))
      (pe_one (Gc.pe_allG hr (by rfl) ma (by decide +kernel) TB rfl ⟨rfl, rfl, by decide +kernel, rfl, rfl, wFree⟩ (pv 0) (fun _ => rfl))))), ?_⟩
    refine ⟨_, rfl, z, rfl, hz, _, _, rfl, rfl, _, rfl, ite2 (fun c1 => ?_) (fun c1 => ?_)⟩
    · refine ⟨_, _, rfl, rfl, _, rfl, ite2 (fun c2 => ?_) (fun c2 => ?_)⟩
      · refine ⟨_, rfl, z.cps.size, PySem.SignAt z, fun k => Gc.between lo hi (z.cps.getD k 0), fun pins s1 xv I r => ?_, tg, fun H2 hT => ?_⟩
        · obtain ⟨t, rfl⟩ := r
          obtain ⟨ps, hP, _⟩ := tg
          exact ⟨Gc.src_str I hP, Gc.elt_between (i := 1) (j := 2) I hP rfl rfl rfl rfl wCell1 wCell2 rfl rfl rfl rfl⟩
        · have e : wordB z lo hi = z.cps.toList.all (Gc.between lo hi) := by
            unfold wordB
            rw [c1, c2]
            rfl
          have q2 := q H2 hT
          rw [e, ← Gc.range_all] at q2
          exact q2
      · have e : wordB z lo hi = false := by
          unfold wordB
          rw [Bool.eq_false_iff.mpr c2]
          simp
        have q2 := q H ⟨tg, fun _ _ => rfl⟩
        rw [e] at q2
        exact q2
    · have e : wordB z lo hi = false := by
        unfold wordB
        rw [Bool.eq_false_iff.mpr c1]
        rfl
      have q2 := q H ⟨tg, fun _ _ => rfl⟩
      rw [e] at q2
      exact ⟨_, rfl, iteF q2⟩
theorem scK : FnScope ["text"] ["text"] (defScope sKind) := ⟨rfl, rfl, rfl, by decide +kernel, rfl, by decide +kernel, by decide +kernel⟩
def spOne (T : Addr) (b : Str → Bool) : Sp := fun vs H Q _ => ∃ z : Str, vs = [.str z] ∧ z.length ≤ sizeLine ∧ GxR.TabG H T ∧ ∀ H2, GxR.Tabbed T H H2 → Q (.bl (b z)) H2
theorem str_dec (x y : Str) : decide (V.str x = V.str y) = decide (x = y) := by
  by_cases e : x = y
  · subst e; simp
  · rw [decide_eq_false e]
    exact decide_eq_false fun z => e (V.str.inj z)
theorem ok_kind {f fW T : Addr} {fd fdW : FuncData} {k : Nat} (F : Fun K "is_kind" "is_kind" sKind f fd) (FW : Fun K "_is_word" "_is_word" sWord fW fdW) (GW : FnOk P w K mg base CX0 (k + 1) fW fdW ["text", "first", "last"] (spWord T)) (bW : Binds K fdW ["text", "first", "last"] []) (gW : mg "_is_word" = some (.ref fW)) :
    FnOk P w K mg base CX0 (k + 2) f fd ["text"] (spOne T kindB) := by
  refine F.ok scK (fun vs H Q E h => ?_) (fun cdv A outer s H vs Q E hr h => ?_)
  · obtain ⟨z, rfl, _⟩ := h
    rfl
  · obtain ⟨z, rfl, hz, tg, q⟩ := h
    refine ⟨_, pss_one (ps_ret (pe_and (pe_call GW hr (by rfl) gW FW.kp bW .nil pass0 (pa_cons (pv 0) (pa_cons pe_str (pa_cons pe_str pa_nil)))) (pe_one (pe_cmpR op_ne (pv 0) pe_str (nomark _))))), ?_⟩
    refine ⟨_, rfl, z, _, _, rfl, hz, tg, fun H2 hT => ?_⟩
    have q2 := q H2 hT
    refine ⟨_, rfl, ite2 (fun c => ?_) (fun c => ?_)⟩
    · refine ⟨_, rfl, rfl, ?_⟩
      unfold kindB at q2
      rw [c, ← str_dec] at q2
      exact q2
    · unfold kindB at q2
      rw [Bool.eq_false_iff.mpr c] at q2
      exact q2
end
end Ld

set_option Elab.async false
set_option linter.all false
set_option maxRecDepth 100000
set_option maxHeartbeats 4000000
/-! Least costs of trees over stretches: mathematics. Stretches may be known. -/
namespace Lb
open PySem Ld
abbrev Cost := Int × Int
def cle (a b : Cost) : Prop := a.1 < b.1 ∨ (a.1 = b.1 ∧ a.2 ≤ b.2)
def clt (a b : Cost) : Prop := a.1 < b.1 ∨ (a.1 = b.1 ∧ a.2 < b.2)
theorem cle_refl (a : Cost) : cle a a := .inr ⟨rfl, Int.le_refl _⟩
theorem cle_trans {a b c : Cost} (h : cle a b) (k : cle b c) : cle a c := by
  unfold cle at *
  omega
theorem cle_anti {a b : Cost} (h : cle a b) (k : cle b a) : a = b := by
  unfold cle at *
  exact Prod.ext (by omega) (by omega)
theorem cle_of_clt {a b : Cost} (h : clt a b) : cle a b := by
  unfold cle clt at *
  omega
theorem cle_or (a b : Cost) : cle a b ∨ clt b a := by
  unfold cle clt
  omega
theorem clt_not {a b : Cost} (h : clt a b) (k : cle b a) : False := by
  unfold cle clt at *
  omega
theorem clt_of {a b c : Cost} (h : cle a b) (k : clt b c) : clt a c := by
  unfold cle clt at *
  omega
theorem cle_add {a b c d : Cost} (h : cle a b) (k : cle c d) : cle (a.1 + c.1, a.2 + c.2) (b.1 + d.1, b.2 + d.2) := by
  unfold cle at *
  dsimp only
  omega
/-- the least of the costs of S; none where there is none -/
def LeastO (S : Cost → Prop) : Option Cost → Prop
  | none => ∀ c, ¬ S c
  | some c => S c ∧ ∀ d, S d → cle c d
theorem least_one {S : Cost → Prop} {a b : Option Cost} (h : LeastO S a) (k : LeastO S b) : a = b := by
  match a, b with
  | none, none => rfl
  | none, some c => exact (h c k.1).elim
  | some c, none => exact (k c h.1).elim
  | some c, some d => rw [cle_anti (h.2 d k.1) (k.2 c h.1)]
theorem LeastO.up {S : Cost → Prop} {o : Option Cost} (h : LeastO S o) {c : Cost} (m : S c) : ∃ d, o = some d ∧ cle d c := by
  match o with
  | none => exact (h c m).elim
  | some d => exact ⟨d, rfl, h.2 c m⟩
theorem LeastO.mem {S : Cost → Prop} {c : Cost} (h : LeastO S (some c)) : S c := h.1
theorem LeastO.of {S : Cost → Prop} {o : Option Cost} (h1 : ∀ c, o = some c → S c) (h2 : ∀ c, S c → ∃ d, o = some d ∧ cle d c) : LeastO S o := by
  match o with
  | none =>
    intro c m
    obtain ⟨d, e, _⟩ := h2 c m
    cases e
  | some c =>
    refine ⟨h1 c rfl, fun d m => ?_⟩
    obtain ⟨e, q, z⟩ := h2 d m
    rw [Option.some.inj q]
    exact z
theorem least1 {S : Cost → Prop} (pos : ∀ c, S c → 0 ≤ c.1 ∧ 0 ≤ c.2) : ∀ (n : Nat) (c : Cost), S c → c.1.toNat = n → ∃ d, S d ∧ ∀ x, S x → d.1 ≤ x.1 := by
  intro n
  induction n using Nat.strongRecOn with
  | _ n ih =>
    intro c hc e
    by_cases h : ∃ d, S d ∧ d.1 < c.1
    · obtain ⟨d, hd, lt⟩ := h
      have := pos d hd
      exact ih d.1.toNat (by omega) d hd rfl
    · exact ⟨c, hc, fun x hx => Int.not_lt.mp fun z => h ⟨x, hx, z⟩⟩
theorem least2 {S : Cost → Prop} (pos : ∀ c, S c → 0 ≤ c.1 ∧ 0 ≤ c.2) : ∀ (n : Nat) (c : Cost), S c → c.2.toNat = n → ∃ d, S d ∧ ∀ x, S x → d.2 ≤ x.2 := by
  intro n
  induction n using Nat.strongRecOn with
  | _ n ih =>
    intro c hc e
    by_cases h : ∃ d, S d ∧ d.2 < c.2
    · obtain ⟨d, hd, lt⟩ := h
      have := pos d hd
      exact ih d.2.toNat (by omega) d hd rfl
    · exact ⟨c, hc, fun x hx => Int.not_lt.mp fun z => h ⟨x, hx, z⟩⟩
theorem least_ex {S : Cost → Prop} (pos : ∀ c, S c → 0 ≤ c.1 ∧ 0 ≤ c.2) : ∃ o, LeastO S o := by
  by_cases h : ∃ c, S c
  · obtain ⟨c, hc⟩ := h
    obtain ⟨d, hd, le⟩ := least1 pos _ c hc rfl
    obtain ⟨e, ⟨he, e1⟩, le2⟩ := least2 (S := fun x => S x ∧ x.1 = d.1) (fun x hx => pos x hx.1) _ d ⟨hd, rfl⟩ rfl
    refine ⟨some e, he, fun x hx => ?_⟩
    have a := le x hx
    by_cases q : x.1 = d.1
    · have := le2 x ⟨hx, q⟩
      unfold cle
      omega
    · unfold cle
      omega
  · exact ⟨none, fun c hc => h ⟨c, hc⟩⟩
/-- the entries of a stretch -/
structure Ent where
  nm : Str → Option Cost
  rs : Nat → Nat → Option Cost
/-- rules, leaves' prices, which symbols are names, what is known -/
structure Pb where
  G : List Rule
  leaf : Str → Nat → Nat → Int
  isN : Str → Bool
  kn : Nat → Nat → Option Ent
mutual
/-- costs of the trees of a name over a stretch -/
inductive TreeC (B : Pb) : Str → Nat → Nat → Cost → Prop
  | known {N : Str} {i j : Nat} {e : Ent} {c : Cost} : B.kn i j = some e → e.nm N = some c → TreeC B N i j c
  | mk {N : Str} {i j r : Nat} {ss : List Str} {c : Cost} : B.kn i j = none → B.G[r]? = some (N, ss) → RestC B r 0 i j c → TreeC B N i j (c.1, c.2 + 1)
/-- costs of the parts for the symbols of a rule from a dot on -/
inductive RestC (B : Pb) : Nat → Nat → Nat → Nat → Cost → Prop
  | known {r d i j : Nat} {e : Ent} {c : Cost} : B.kn i j = some e → e.rs r d = some c → RestC B r d i j c
  | nil {r d i : Nat} {N : Str} {ss : List Str} : B.kn i i = none → B.G[r]? = some (N, ss) → d = ss.length → RestC B r d i i (0, 0)
  | leaf {r d i j e : Nat} {N k : Str} {ss : List Str} {c : Cost} : B.kn i j = none → B.G[r]? = some (N, ss) → ss[d]? = some k → B.isN k = false → i ≤ e → e ≤ j → RestC B r (d + 1) e j c → RestC B r d i j (B.leaf k i e + c.1, 1 + c.2)
  | tree {r d i j e : Nat} {N k : Str} {ss : List Str} {a c : Cost} : B.kn i j = none → B.G[r]? = some (N, ss) → ss[d]? = some k → B.isN k = true → i ≤ e → e ≤ j → TreeC B k i e a → RestC B r (d + 1) e j c → RestC B r d i j (a.1 + c.1, a.2 + c.2)
end
/-- nothing costs less than nothing -/
structure PbOk (B : Pb) : Prop where
  leaf : ∀ k i e, 0 ≤ B.leaf k i e
  kn : ∀ i j e, B.kn i j = some e → (∀ N c, e.nm N = some c → 0 ≤ c.1 ∧ 0 ≤ c.2) ∧ ∀ r d c, e.rs r d = some c → 0 ≤ c.1 ∧ 0 ≤ c.2
mutual
theorem TreeC.pos {B : Pb} (ok : PbOk B) : ∀ {N : Str} {i j : Nat} {c : Cost}, TreeC B N i j c → 0 ≤ c.1 ∧ 0 ≤ c.2
  | _, _, _, _, .known h k => (ok.kn _ _ _ h).1 _ _ k
  | _, _, _, _, .mk _ _ k => by
    have := RestC.pos ok k
    dsimp only
    omega
theorem RestC.pos {B : Pb} (ok : PbOk B) : ∀ {r d i j : Nat} {c : Cost}, RestC B r d i j c → 0 ≤ c.1 ∧ 0 ≤ c.2
  | _, _, _, _, _, .known h k => (ok.kn _ _ _ h).2 _ _ _ k
  | _, _, _, _, _, .nil _ _ _ => ⟨Int.le_refl _, Int.le_refl _⟩
  | _, _, _, _, _, .leaf (k := k) (i := i) (e := e) _ _ _ _ _ _ z => by
    have := RestC.pos ok z
    have := ok.leaf k i e
    dsimp only
    omega
  | _, _, _, _, _, .tree _ _ _ _ _ _ y z => by
    have := TreeC.pos ok y
    have := RestC.pos ok z
    dsimp only
    omega
end
/-- what the parts of a rule from a dot on cost by the entries of T -/
def CombC (B : Pb) (T : Nat → Nat → Ent) (r d i j : Nat) (c : Cost) : Prop := ∃ N ss, B.G[r]? = some (N, ss) ∧ ((d = ss.length ∧ i = j ∧ c = (0, 0)) ∨
  ∃ (k : Str) (e : Nat) (a b : Cost), ss[d]? = some k ∧ i ≤ e ∧ e ≤ j ∧ (T e j).rs r (d + 1) = some b ∧ ((B.isN k = false ∧ a = (B.leaf k i e, 1)) ∨ (B.isN k = true ∧ (T i e).nm k = some a)) ∧ c = (a.1 + b.1, a.2 + b.2))
structure SoundAt (B : Pb) (e : Ent) (i j : Nat) : Prop where
  nm : ∀ N c, e.nm N = some c → TreeC B N i j c
  rs : ∀ r d c, e.rs r d = some c → RestC B r d i j c
structure LeastAt (B : Pb) (e : Ent) (i j : Nat) : Prop where
  nm : ∀ N, LeastO (TreeC B N i j) (e.nm N)
  rs : ∀ r d, LeastO (RestC B r d i j) (e.rs r d)
theorem LeastAt.sound {B : Pb} {e : Ent} {i j : Nat} (h : LeastAt B e i j) : SoundAt B e i j := by
  refine ⟨fun N c q => ?_, fun r d c q => ?_⟩
  · have := h.nm N
    rw [q] at this
    exact this.1
  · have := h.rs r d
    rw [q] at this
    exact this.1
theorem known_least {B : Pb} {e : Ent} {i j : Nat} (h : B.kn i j = some e) : LeastAt B e i j := by
  constructor
  · intro N
    refine LeastO.of (fun c q => .known h q) fun c m => ?_
    cases m with
    | known h2 q =>
      rw [h] at h2
      rw [Option.some.inj h2]
      exact ⟨c, q, cle_refl c⟩
    | mk h2 _ _ =>
      rw [h] at h2
      cases h2
  · intro r d
    refine LeastO.of (fun c q => .known h q) fun c m => ?_
    cases m with
    | known h2 q =>
      rw [h] at h2
      rw [Option.some.inj h2]
      exact ⟨c, q, cle_refl c⟩
    | nil h2 _ _ =>
      rw [h] at h2
      cases h2
    | leaf h2 _ _ _ _ _ _ =>
      rw [h] at h2
      cases h2
    | tree h2 _ _ _ _ _ _ _ =>
      rw [h] at h2
      cases h2
/-- the table T with e at one stretch -/
def wi (T : Nat → Nat → Ent) (i j : Nat) (e : Ent) : Nat → Nat → Ent := fun a b => if a = i ∧ b = j then e else T a b
theorem wi_same {T : Nat → Nat → Ent} {i j : Nat} {e : Ent} : wi T i j e i j = e := if_pos ⟨rfl, rfl⟩
theorem wi_other {T : Nat → Nat → Ent} {i j a b : Nat} {e : Ent} (h : ¬ (a = i ∧ b = j)) : wi T i j e a b = T a b := if_neg h
section
variable {B : Pb} {T : Nat → Nat → Ent} {i j : Nat}
/-- all stretches within, but this one, are done -/
def Short (B : Pb) (T : Nat → Nat → Ent) (i j : Nat) : Prop := ∀ a b, i ≤ a → a ≤ b → b ≤ j → ¬ (a = i ∧ b = j) → LeastAt B (T a b) a b
theorem Short.sound (h : Short B T i j) {e : Ent} (s : SoundAt B e i j) {a b : Nat} (h1 : i ≤ a) (h2 : a ≤ b) (h3 : b ≤ j) : SoundAt B (wi T i j e a b) a b := by
  by_cases q : a = i ∧ b = j
  · rw [q.1, q.2, wi_same]
    exact s
  · rw [wi_other q]
    exact (h a b h1 h2 h3 q).sound
theorem comb_sound (short : Short B T i j) (hk : B.kn i j = none) {e : Ent} (s : SoundAt B e i j) {r d : Nat} {c : Cost} (h : CombC B (wi T i j e) r d i j c) : RestC B r d i j c := by
  obtain ⟨N, ss, hr, ⟨e1, e2, e3⟩ | ⟨k, f, a, b, hs, h1, h2, hb, ha, rfl⟩⟩ := h
  · subst e2
    rw [e3]
    exact .nil hk hr e1
  · have rb := (short.sound s h1 h2 (Nat.le_refl j)).rs _ _ _ hb
    rcases ha with ⟨n, rfl⟩ | ⟨n, q⟩
    · exact .leaf hk hr hs n h1 h2 rb
    · exact .tree hk hr hs n h1 h2 ((short.sound s (Nat.le_refl i) h1 h2).nm _ _ q) rb
/-- names of cost within A have their entries -/
def NB (B : Pb) (i j : Nat) (A : Cost → Prop) (e : Ent) : Prop := ∀ N c, TreeC B N i j c → A c → ∃ d, e.nm N = some d ∧ cle d c
def RB (B : Pb) (i j : Nat) (A : Cost → Prop) (e : Ent) (r d : Nat) : Prop := ∀ c, RestC B r d i j c → A (c.1, c.2 + 1) → ∃ x, e.rs r d = some x ∧ cle x c
/-- A holds what is less than something in A' -/
structure Under (A A' : Cost → Prop) : Prop where
  lt : ∀ a b, A' a → clt b a → A b
  le : ∀ a b, A' a → cle b a → A' b
theorem rest_bound (ok : PbOk B) (short : Short B T i j) (hk : B.kn i j = none) {e : Ent} {A A' : Cost → Prop} (U : Under A A') (nb : NB B i j A e) {r d : Nat} (next : RB B i j A' e r (d + 1)) {o : Option Cost} (ho : LeastO (CombC B (wi T i j e) r d i j) o) :
    ∀ c, RestC B r d i j c → A' (c.1, c.2 + 1) → ∃ x, o = some x ∧ cle x c := by
  have down : ∀ {f : Nat} {c : Cost}, i ≤ f → f ≤ j → RestC B r (d + 1) f j c → (f = i → A' (c.1, c.2 + 1)) → ∃ x, (wi T i j e f j).rs r (d + 1) = some x ∧ cle x c := fun {f c} h1 h2 z q => by
    by_cases w : f = i ∧ j = j
    · rw [w.1, wi_same]
      rw [w.1] at z
      exact next c z (q w.1)
    · rw [wi_other w]
      exact ((short f j h1 h2 (Nat.le_refl j) w).rs r (d + 1)).up z
  intro c hc ha
  cases hc with
  | known h _ =>
    rw [hk] at h
    cases h
  | nil _ hr hd => exact ho.up ⟨_, _, hr, .inl ⟨hd, rfl, rfl⟩⟩
  | leaf h0 hr hs hn h1 h2 z =>
    rename_i f N k ss c
    have p0 := ok.leaf k i f
    obtain ⟨x, ex, lx⟩ := down h1 h2 z fun _ => U.le _ _ ha (by unfold cle; dsimp only; omega)
    obtain ⟨y, ey, ly⟩ := ho.up ⟨N, ss, hr, .inr ⟨k, f, (B.leaf k i f, 1), x, hs, h1, h2, ex, .inl ⟨hn, rfl⟩, rfl⟩⟩
    exact ⟨y, ey, cle_trans ly (cle_add (cle_refl (B.leaf k i f, 1)) lx)⟩
  | tree h0 hr hs hn h1 h2 t z =>
    rename_i f N k ss a c
    have pa := TreeC.pos ok t
    have pc := RestC.pos ok z
    obtain ⟨x, ex, lx⟩ := down h1 h2 z fun _ => U.le _ _ ha (by unfold cle; dsimp only; omega)
    obtain ⟨y, ey, ly⟩ : ∃ y, (wi T i j e i f).nm k = some y ∧ cle y a := by
      by_cases w : i = i ∧ f = j
      · rw [w.2, wi_same]
        rw [w.2] at t
        exact nb k a t (U.lt _ _ ha (by unfold clt; dsimp only; omega))
      · rw [wi_other w]
        exact ((short i f (Nat.le_refl i) h1 h2 w).nm k).up t
    obtain ⟨v, ev, lv⟩ := ho.up ⟨N, ss, hr, .inr ⟨k, f, y, x, hs, h1, h2, ex, .inr ⟨hn, ey⟩, rfl⟩⟩
    exact ⟨v, ev, cle_trans lv (cle_add ly lx)⟩
end
end Lb

set_option Elab.async false
set_option linter.all false
set_option maxRecDepth 100000
set_option maxHeartbeats 4000000
/-! Entries that are bettered in rounds: when they are the least ones. -/
namespace Lb
open PySem Ld
section
variable {B : Pb} {T : Nat → Nat → Ent} {i j : Nat} {e : Ent}
mutual
theorem closedT (short : Short B T i j) (hk : B.kn i j = none) (crs : ∀ r d, LeastO (CombC B (wi T i j e) r d i j) (e.rs r d)) (cnm : ∀ r N ss c, B.G[r]? = some (N, ss) → e.rs r 0 = some c → ∃ x, e.nm N = some x ∧ cle x (c.1, c.2 + 1)) :
    ∀ {N : Str} {a b : Nat} {c : Cost}, TreeC B N a b c → i ≤ a → a ≤ b → b ≤ j → ∃ x, (wi T i j e a b).nm N = some x ∧ cle x c
  | N, a, b, c, .known h q, h1, h2, h3 => by
    by_cases w : a = i ∧ b = j
    · rw [w.1, w.2, hk] at h
      cases h
    · rw [wi_other w]
      exact ((short a b h1 h2 h3 w).nm N).up (.known h q)
  | N, a, b, _, .mk (c := c) h0 hr z, h1, h2, h3 => by
    by_cases w : a = i ∧ b = j
    · obtain ⟨x, ex, lx⟩ := closedR short hk crs cnm z h1 h2 h3
      rw [w.1, w.2, wi_same] at ex ⊢
      obtain ⟨y, ey, ly⟩ := cnm _ _ _ _ hr ex
      refine ⟨y, ey, cle_trans ly ?_⟩
      unfold cle at *
      dsimp only
      omega
    · rw [wi_other w]
      exact ((short a b h1 h2 h3 w).nm N).up (.mk h0 hr z)
theorem closedR (short : Short B T i j) (hk : B.kn i j = none) (crs : ∀ r d, LeastO (CombC B (wi T i j e) r d i j) (e.rs r d)) (cnm : ∀ r N ss c, B.G[r]? = some (N, ss) → e.rs r 0 = some c → ∃ x, e.nm N = some x ∧ cle x (c.1, c.2 + 1)) :
    ∀ {r d a b : Nat} {c : Cost}, RestC B r d a b c → i ≤ a → a ≤ b → b ≤ j → ∃ x, (wi T i j e a b).rs r d = some x ∧ cle x c
  | r, d, a, b, c, .known h q, h1, h2, h3 => by
    by_cases w : a = i ∧ b = j
    · rw [w.1, w.2, hk] at h
      cases h
    · rw [wi_other w]
      exact ((short a b h1 h2 h3 w).rs r d).up (.known h q)
  | r, d, a, _, _, .nil h0 hr hd, h1, h2, h3 => by
    by_cases w : a = i ∧ a = j
    · obtain ⟨w1, w2⟩ := w
      subst w1
      subst w2
      rw [wi_same]
      exact (crs r d).up ⟨_, _, hr, .inl ⟨hd, rfl, rfl⟩⟩
    · rw [wi_other w]
      exact ((short a a h1 h2 h3 w).rs r d).up (.nil h0 hr hd)
  | r, d, a, b, _, .leaf (e := f) (k := k) (c := c) h0 hr hs hn k1 k2 z, h1, h2, h3 => by
    by_cases w : a = i ∧ b = j
    · obtain ⟨x, ex, lx⟩ := closedR short hk crs cnm z (Nat.le_trans h1 k1) k2 h3
      obtain ⟨w1, w2⟩ := w
      subst w1
      subst w2
      rw [wi_same]
      obtain ⟨y, ey, ly⟩ := (crs r d).up ⟨_, _, hr, .inr ⟨k, f, (B.leaf k a f, 1), x, hs, k1, k2, ex, .inl ⟨hn, rfl⟩, rfl⟩⟩
      exact ⟨y, ey, cle_trans ly (cle_add (cle_refl (B.leaf k a f, 1)) lx)⟩
    · rw [wi_other w]
      exact ((short a b h1 h2 h3 w).rs r d).up (.leaf h0 hr hs hn k1 k2 z)
  | r, d, a, b, _, .tree (e := f) (k := k) (a := ca) (c := c) h0 hr hs hn k1 k2 t z, h1, h2, h3 => by
    by_cases w : a = i ∧ b = j
    · obtain ⟨x, ex, lx⟩ := closedR short hk crs cnm z (Nat.le_trans h1 k1) k2 h3
      obtain ⟨y, ey, ly⟩ := closedT short hk crs cnm t h1 k1 (Nat.le_trans k2 h3)
      obtain ⟨w1, w2⟩ := w
      subst w1
      subst w2
      rw [wi_same]
      obtain ⟨v, ev, lv⟩ := (crs r d).up ⟨_, _, hr, .inr ⟨k, f, y, x, hs, k1, k2, ex, .inr ⟨hn, ey⟩, rfl⟩⟩
      exact ⟨v, ev, cle_trans lv (cle_add ly lx)⟩
    · rw [wi_other w]
      exact ((short a b h1 h2 h3 w).rs r d).up (.tree h0 hr hs hn k1 k2 t z)
end
/-- entries that no round betters are the least ones -/
theorem closed_least (ij : i ≤ j) (short : Short B T i j) (hk : B.kn i j = none) (snd : SoundAt B e i j) (crs : ∀ r d, LeastO (CombC B (wi T i j e) r d i j) (e.rs r d))
    (cnm : ∀ r N ss c, B.G[r]? = some (N, ss) → e.rs r 0 = some c → ∃ x, e.nm N = some x ∧ cle x (c.1, c.2 + 1)) : LeastAt B e i j := by
  refine ⟨fun N => LeastO.of (snd.nm N) fun c m => ?_, fun r d => LeastO.of (snd.rs r d) fun c m => ?_⟩
  · obtain ⟨x, ex, lx⟩ := closedT short hk crs cnm m (Nat.le_refl i) ij (Nat.le_refl j)
    rw [wi_same] at ex
    exact ⟨x, ex, lx⟩
  · obtain ⟨x, ex, lx⟩ := closedR short hk crs cnm m (Nat.le_refl i) ij (Nat.le_refl j)
    rw [wi_same] at ex
    exact ⟨x, ex, lx⟩
theorem rest_in (hk : B.kn i j = none) {r d : Nat} {c : Cost} (h : RestC B r d i j c) : ∃ N ss, B.G[r]? = some (N, ss) ∧ d ≤ ss.length := by
  cases h with
  | known h _ =>
    rw [hk] at h
    cases h
  | nil _ hr hd => exact ⟨_, _, hr, Nat.le_of_eq hd⟩
  | leaf _ hr hs _ _ _ _ => exact ⟨_, _, hr, Nat.le_of_lt (List.getElem?_eq_some_iff.mp hs).1⟩
  | tree _ hr hs _ _ _ _ _ => exact ⟨_, _, hr, Nat.le_of_lt (List.getElem?_eq_some_iff.mp hs).1⟩
def setR (e : Ent) (r d : Nat) (o : Option Cost) : Ent := ⟨e.nm, fun a b => if a = r ∧ b = d then o else e.rs a b⟩
def setN (e : Ent) (N : Str) (o : Option Cost) : Ent := ⟨fun M => if M = N then o else e.nm M, e.rs⟩
/-- within a round: the rules before r, and r from the dot d on, are made -/
structure RInv (B : Pb) (i j : Nat) (e0 e : Ent) (r d : Nat) : Prop where
  snd : SoundAt B e i j
  mono : ∀ N c, e0.nm N = some c → ∃ x, e.nm N = some x ∧ cle x c
  up : ∀ A A', Under A A' → NB B i j A e0 → NB B i j A e ∧ (∀ a b, a < r → RB B i j A' e a b) ∧ (∀ b, d ≤ b → RB B i j A' e r b) ∧
    ∀ a N ss c, a < r → B.G[a]? = some (N, ss) → RestC B a 0 i j c → A' (c.1, c.2 + 1) → ∃ x, e.nm N = some x ∧ cle x (c.1, c.2 + 1)
theorem RInv.start (snd : SoundAt B e i j) {d : Nat} (out : ∀ b c, d ≤ b → ¬ RestC B 0 b i j c) : RInv B i j e e 0 d :=
  ⟨snd, fun N c h => ⟨c, h, cle_refl c⟩, fun A A' U nb => ⟨nb, fun a b h => absurd h (Nat.not_lt_zero a), fun b h c m => (out b c h m).elim, fun a N ss c h => absurd h (Nat.not_lt_zero a)⟩⟩
theorem RInv.rest (ok : PbOk B) (short : Short B T i j) (hk : B.kn i j = none) {e0 : Ent} {r d : Nat} (h : RInv B i j e0 e r (d + 1)) {o : Option Cost} (ho : LeastO (CombC B (wi T i j e) r d i j) o) : RInv B i j e0 (setR e r d o) r d := by
  refine ⟨⟨h.snd.nm, fun a b c q => ?_⟩, h.mono, fun A A' U nb => ?_⟩
  · change (if a = r ∧ b = d then o else e.rs a b) = some c at q
    split at q
    · rename_i w
      rw [w.1, w.2]
      rw [q] at ho
      exact comb_sound short hk h.snd ho.1
    · exact h.snd.rs a b c q
  · obtain ⟨u1, u2, u3, u4⟩ := h.up A A' U nb
    refine ⟨u1, fun a b lt c m ha => ?_, fun b le c m ha => ?_, u4⟩
    · obtain ⟨x, ex, lx⟩ := u2 a b lt c m ha
      refine ⟨x, ?_, lx⟩
      show (if a = r ∧ b = d then o else e.rs a b) = some x
      rw [if_neg (by omega)]
      exact ex
    · by_cases w : b = d
      · rw [w] at m ⊢
        obtain ⟨x, ex, lx⟩ := rest_bound ok short hk U u1 (u3 (d + 1) (Nat.le_refl _)) ho c m ha
        refine ⟨x, ?_, lx⟩
        show (if r = r ∧ d = d then o else e.rs r d) = some x
        rw [if_pos ⟨rfl, rfl⟩]
        exact ex
      · obtain ⟨x, ex, lx⟩ := u3 b (by omega) c m ha
        refine ⟨x, ?_, lx⟩
        show (if r = r ∧ b = d then o else e.rs r b) = some x
        rw [if_neg (by omega)]
        exact ex
/-- the name of a rule, looked at behind its rests: o is what stands at the name then -/
theorem RInv.name (hk : B.kn i j = none) {e0 : Ent} {r d : Nat} {N : Str} {ss : List Str} (h : RInv B i j e0 e r 0) (hr : B.G[r]? = some (N, ss)) {o : Option Cost} (own : ∀ c, o = some c → e.nm N = some c ∨ ∃ x, e.rs r 0 = some x ∧ c = (x.1, x.2 + 1))
    (old : ∀ c, e.nm N = some c → ∃ x, o = some x ∧ cle x c) (new : ∀ c, e.rs r 0 = some c → ∃ x, o = some x ∧ cle x (c.1, c.2 + 1)) (out : ∀ b c, d ≤ b → ¬ RestC B (r + 1) b i j c) : RInv B i j e0 (setN e N o) (r + 1) d := by
  have less : ∀ M c, e.nm M = some c → ∃ x, (setN e N o).nm M = some x ∧ cle x c := fun M c q => by
    show ∃ x, (if M = N then o else e.nm M) = some x ∧ cle x c
    by_cases w : M = N
    · rw [if_pos w]
      rw [w] at q
      exact old c q
    · rw [if_neg w]
      exact ⟨c, q, cle_refl c⟩
  have more : ∀ {M : Str} {c : Cost}, (∃ x, e.nm M = some x ∧ cle x c) → ∃ x, (setN e N o).nm M = some x ∧ cle x c := fun {M c} ⟨x, ex, lx⟩ => by
    obtain ⟨y, ey, ly⟩ := less M x ex
    exact ⟨y, ey, cle_trans ly lx⟩
  refine ⟨⟨fun M c q => ?_, h.snd.rs⟩, fun M c q => ?_, fun A A' U nb => ?_⟩
  · change (if M = N then o else e.nm M) = some c at q
    split at q
    · rename_i w
      rw [w]
      rcases own c q with z | ⟨x, ex, rfl⟩
      · exact h.snd.nm N c z
      · exact .mk hk hr (h.snd.rs r 0 x ex)
    · exact h.snd.nm M c q
  · exact more (h.mono M c q)
  · obtain ⟨u1, u2, u3, u4⟩ := h.up A A' U nb
    refine ⟨fun M c m ha => more (u1 M c m ha), fun a b lt => ?_, fun b le c m => (out b c le m).elim, fun a M ts c lt ha m hb => ?_⟩
    · rcases Nat.lt_succ_iff_lt_or_eq.mp lt with q | q
      · exact u2 a b q
      · rw [q]
        exact u3 b (Nat.zero_le b)
    · rcases Nat.lt_succ_iff_lt_or_eq.mp lt with q | q
      · exact more (u4 a M ts c q ha m hb)
      · rw [q] at ha m
        rw [hr] at ha
        obtain ⟨e1, e2⟩ := Prod.mk.inj (Option.some.inj ha)
        obtain ⟨x, ex, lx⟩ := u3 0 (Nat.le_refl 0) c m hb
        obtain ⟨y, ey, ly⟩ := new x ex
        refine ⟨y, ?_, cle_trans ly ?_⟩
        · show (if M = N then o else e.nm M) = some y
          rw [if_pos e1.symm]
          exact ey
        · unfold cle at *
          dsimp only
          omega
/-- what a whole round gives -/
structure RoundOk (B : Pb) (i j : Nat) (e0 e : Ent) : Prop where
  snd : SoundAt B e i j
  mono : ∀ N c, e0.nm N = some c → ∃ x, e.nm N = some x ∧ cle x c
  up : ∀ A A', Under A A' → NB B i j A e0 → NB B i j A' e ∧ ∀ r d, RB B i j A' e r d
theorem RInv.all (hk : B.kn i j = none) {e0 : Ent} {d : Nat} (h : RInv B i j e0 e B.G.length d) : RoundOk B i j e0 e := by
  refine ⟨h.snd, h.mono, fun A A' U nb => ?_⟩
  obtain ⟨u1, u2, u3, u4⟩ := h.up A A' U nb
  refine ⟨fun N c m ha => ?_, fun r d c m ha => ?_⟩
  · cases m with
    | known q _ =>
      rw [hk] at q
      cases q
    | mk _ hr z => exact u4 _ _ _ _ (List.getElem?_eq_some_iff.mp hr).1 hr z ha
  · obtain ⟨N, ss, hr, _⟩ := rest_in hk m
    exact u2 r d (List.getElem?_eq_some_iff.mp hr).1 c m ha
theorem countP_less {α : Type} {p q : α → Bool} : ∀ {l : List α}, (∀ x ∈ l, p x = true → q x = true) → ∀ {a : α}, a ∈ l → q a = true → p a = false → l.countP p + 1 ≤ l.countP q
  | x :: l, h, a, ha, hq, hp => by
    have le : l.countP p ≤ l.countP q := List.countP_mono_left fun y hy => h y (List.mem_cons_of_mem _ hy)
    rw [List.countP_cons, List.countP_cons]
    rcases List.mem_cons.mp ha with e | m
    · rw [← e, hp, hq]
      simp
      omega
    · have := countP_less (fun y hy => h y (List.mem_cons_of_mem _ hy)) m hq hp
      by_cases z : p x = true
      · rw [z, h x List.mem_cons_self z]
        simp
        omega
      · rw [if_neg z]
        split <;> omega
open Classical in
/-- names whose entry is not the least one yet -/
noncomputable def nfin (B : Pb) (i j : Nat) (Ns : List Str) (e : Ent) : Nat := Ns.countP fun N => !decide (LeastO (TreeC B N i j) (e.nm N))
theorem tree_in (hk : B.kn i j = none) {Ns : List Str} (cover : ∀ (r : Nat) N ss, B.G[r]? = some (N, ss) → N ∈ Ns) {N : Str} {c : Cost} (h : TreeC B N i j c) : N ∈ Ns := by
  cases h with
  | known q _ =>
    rw [hk] at q
    cases q
  | mk _ hr _ => exact cover _ _ _ hr
theorem RoundOk.final {e0 : Ent} (h : RoundOk B i j e0 e) (s0 : SoundAt B e0 i j) {N : Str} (f : LeastO (TreeC B N i j) (e0.nm N)) : LeastO (TreeC B N i j) (e.nm N) := by
  refine LeastO.of (h.snd.nm N) fun c m => ?_
  obtain ⟨x, ex, lx⟩ := f.up m
  obtain ⟨y, ey, ly⟩ := h.mono N x ex
  exact ⟨y, ey, cle_trans ly lx⟩
open Classical in
theorem RoundOk.fewer (ok : PbOk B) (hk : B.kn i j = none) {Ns : List Str} (cover : ∀ (r : Nat) N ss, B.G[r]? = some (N, ss) → N ∈ Ns) {e0 : Ent} (s0 : SoundAt B e0 i j) (h : RoundOk B i j e0 e) : nfin B i j Ns e ≤ nfin B i j Ns e0 - 1 := by
  have stay : ∀ N ∈ Ns, (!decide (LeastO (TreeC B N i j) (e.nm N))) = true → (!decide (LeastO (TreeC B N i j) (e0.nm N))) = true := fun N _ q => by
    by_cases f : LeastO (TreeC B N i j) (e0.nm N)
    · rw [decide_eq_true (h.final s0 f)] at q
      cases q
    · rw [decide_eq_false f]
      rfl
  by_cases z : ∃ N ∈ Ns, ¬ LeastO (TreeC B N i j) (e0.nm N)
  · have some_of : ∀ {N : Str}, ¬ LeastO (TreeC B N i j) (e0.nm N) → ∃ c, LeastO (TreeC B N i j) (some c) := fun {N} nf => by
      obtain ⟨o, ho⟩ := least_ex (S := TreeC B N i j) fun c m => TreeC.pos ok m
      cases o with
      | some c => exact ⟨c, ho⟩
      | none =>
        refine (nf ?_).elim
        cases q : e0.nm N with
        | none => exact ho
        | some c => exact (ho c (s0.nm N c q)).elim
    obtain ⟨o, ho⟩ := least_ex (S := fun c => ∃ N ∈ Ns, ¬ LeastO (TreeC B N i j) (e0.nm N) ∧ LeastO (TreeC B N i j) (some c)) fun c ⟨N, _, _, m⟩ => TreeC.pos ok m.1
    cases o with
    | none =>
      obtain ⟨N, hN, nf⟩ := z
      obtain ⟨c, hc⟩ := some_of nf
      exact (ho c ⟨N, hN, nf, hc⟩).elim
    | some c =>
      obtain ⟨⟨N, hN, nf, hc⟩, low⟩ := ho
      have nb : NB B i j (fun x => clt x c) e0 := fun M x m lt => by
        by_cases f : LeastO (TreeC B M i j) (e0.nm M)
        · exact f.up m
        · obtain ⟨y, hy⟩ := some_of f
          have l1 := low y ⟨M, tree_in hk cover m, f, hy⟩
          exact (clt_not lt (cle_trans l1 (hy.2 x m))).elim
      have U : Under (fun x => clt x c) (fun x => cle x c) := ⟨fun a b h1 h2 => by unfold clt cle at *; omega, fun a b h1 h2 => cle_trans h2 h1⟩
      obtain ⟨u1, _⟩ := h.up _ _ U nb
      have fin : LeastO (TreeC B N i j) (e.nm N) := LeastO.of (h.snd.nm N) fun x m => by
        obtain ⟨y, ey, ly⟩ := u1 N c hc.1 (cle_refl c)
        exact ⟨y, ey, cle_trans ly (hc.2 x m)⟩
      have := countP_less stay hN (by rw [decide_eq_false nf]; rfl) (by rw [decide_eq_true fin]; rfl)
      unfold nfin
      omega
  · have all : nfin B i j Ns e = 0 := by
      unfold nfin
      refine List.countP_eq_zero.mpr fun N hN q => ?_
      by_cases f : LeastO (TreeC B N i j) (e0.nm N)
      · rw [decide_eq_true (h.final s0 f)] at q
        cases q
      · exact z ⟨N, hN, f⟩
    omega
open Classical in
theorem RoundOk.done (hk : B.kn i j = none) {Ns : List Str} (cover : ∀ (r : Nat) N ss, B.G[r]? = some (N, ss) → N ∈ Ns) {e0 : Ent} (h : RoundOk B i j e0 e) (z : nfin B i j Ns e0 = 0) : LeastAt B e i j := by
  have fin : ∀ N ∈ Ns, LeastO (TreeC B N i j) (e0.nm N) := fun N hN => by
    unfold nfin at z
    have q := List.countP_eq_zero.mp z N hN
    by_cases f : LeastO (TreeC B N i j) (e0.nm N)
    · exact f
    · rw [decide_eq_false f] at q
      exact (q rfl).elim
  obtain ⟨u1, u2⟩ := h.up (fun _ => True) (fun _ => True) ⟨fun _ _ _ _ => trivial, fun _ _ _ _ => trivial⟩ fun N c m _ => (fin N (tree_in hk cover m)).up m
  exact ⟨fun N => LeastO.of (h.snd.nm N) fun c m => u1 N c m trivial, fun r d => LeastO.of (h.snd.rs r d) fun c m => u2 r d c m trivial⟩
/-- behind t rounds, where there are m names -/
structure Prog (B : Pb) (i j : Nat) (Ns : List Str) (t : Nat) (e : Ent) : Prop where
  snd : SoundAt B e i j
  few : nfin B i j Ns e ≤ Ns.length - t
  done : Ns.length + 1 ≤ t → LeastAt B e i j
theorem Prog.start (Ns : List Str) (snd : SoundAt B e i j) : Prog B i j Ns 0 e := by
  refine ⟨snd, ?_, fun h => absurd h (Nat.not_succ_le_zero _)⟩
  unfold nfin
  exact List.countP_le_length
theorem Prog.step (ok : PbOk B) (hk : B.kn i j = none) {Ns : List Str} (cover : ∀ (r : Nat) N ss, B.G[r]? = some (N, ss) → N ∈ Ns) {t : Nat} {e0 : Ent} (h : Prog B i j Ns t e0) (k : RoundOk B i j e0 e) : Prog B i j Ns (t + 1) e := by
  refine ⟨k.snd, ?_, fun q => k.done hk cover (Ns := Ns) ?_⟩
  · have := k.fewer ok hk cover h.snd
    have := h.few
    omega
  · have := h.few
    omega
end
end Lb

set_option Elab.async false
set_option linter.all false
set_option maxRecDepth 100000
set_option maxHeartbeats 4000000
/-! x < y of data; costs, entries and tables in the heap. -/
namespace Ld
open PySem PySem.Spec PyProof.Rows L2 Lr Lb
def rLtD (K : PySem.W.Frag) : R2 := fun x y H Q => ∃ d e, Dp K H x d ∧ Dp K H y e ∧ PySem.W.alike d e = true ∧ d ≠ .none ∧ d.depth ≤ 64 ∧ Q (.bl (PySem.W.dataLt d e)) H
theorem op_ltD {X : Cx} (hu : X.A.units + 65 < cLine) : OpR X (compareOp .Lt) (rLtD X.K) := by
  intro pins s σ H x y v u Q I rx ry h
  obtain ⟨d, e, hd, he, al, nn, dep, q⟩ := h
  obtain ⟨as, r1⟩ := Dp.reads I d x v hd rx
  obtain ⟨bs, r2⟩ := Dp.reads I e y u he ry
  have : min d.depth e.depth ≤ d.depth := Nat.min_le_left _ _
  exact PySem.W.rcLt_alike d e X.A s v u as bs r1 r2 al nn (by omega) X.prog X.w X.xe _ ⟨.bl _, H, I, rfl, q⟩
/-- a cost as data -/
def cD (c : Cost) : PyData := .tuple [.int c.1, .int c.2]
open PySem.W in
theorem cost_lt (a b : Cost) : dataLt (cD a) (cD b) = decide (a.1 < b.1 ∨ (a.1 = b.1 ∧ a.2 < b.2)) := by
  unfold cD
  rw [dataLt_tuple]
  have al : ∀ x y : Int, alike (.int x) (.int y) = true := fun x y => by simp [alike]
  by_cases e : a.1 = b.1
  · have ev : PyData.eqv (.int a.1) (.int b.1) = true := by simp [PyData.eqv, e]
    rw [dataLt_all_yes (al _ _) ev]
    by_cases e2 : a.2 = b.2
    · have ev2 : PyData.eqv (.int a.2) (.int b.2) = true := by simp [PyData.eqv, e2]
      rw [dataLt_all_yes (al _ _) ev2]
      rw [show lexLt itemOrd (keyToksAll []) (keyToksAll []) = false from by decide +kernel]
      refine (decide_eq_false ?_).symm
      omega
    · have ev2 : PyData.eqv (.int a.2) (.int b.2) = false := by simp [PyData.eqv, e2]
      rw [dataLt_all_no (al _ _) ev2, dataLt_int, Bool.eq_iff_iff, decide_eq_true_eq, decide_eq_true_eq]
      omega
  · have ev : PyData.eqv (.int a.1) (.int b.1) = false := by simp [PyData.eqv, e]
    rw [dataLt_all_no (al _ _) ev, dataLt_int, Bool.eq_iff_iff, decide_eq_true_eq, decide_eq_true_eq]
    omega
theorem cD_alike (a b : Cost) : PySem.W.alike (cD a) (cD b) = true := by simp [cD, PySem.W.alike, PySem.W.alikeAll]
theorem cD_shaped (a : Cost) : SeqAt.shaped (cD a) = true := by
  refine shaped_mk ?_ (by simp [cD, PyData.depth, PyData.depthAll])
  simp [cD, PyData.canLay0, PyData.canLayAll0]
/-- the value of a cost, or None -/
def CostV (H : Hp) (v : V) : Option Cost → Prop
  | none => v = .non
  | some c => ∃ t, v = .ref t ∧ H t = some (.tup [.int c.1, .int c.2])
theorem CostV.up {A B : Hp} (u : Up A B) {v : V} : ∀ {o : Option Cost}, CostV A v o → CostV B v o
  | none, h => h
  | some _, ⟨t, e, h⟩ => ⟨t, e, u.tup h⟩
theorem CostV.dp {K : PySem.W.Frag} {H : Hp} {v : V} {c : Cost} (h : CostV H v (some c)) : Dp K H v (cD c) := by
  obtain ⟨t, rfl, h⟩ := h
  exact .tup (SqT.of h) (.cons (.int _) (.cons (.int _) .nil))
def kN (N : Str) : List Key := [sk "name", sk N]
def kR (r d : Nat) : List Key := [sk "rest", Sum.inl (r : Int), Sum.inl (d : Int)]
def kS (i j : Nat) : List Key := [Sum.inl (i : Int), Sum.inl (j : Int)]
theorem kN_ne (N : Str) (r d : Nat) : kN N ≠ kR r d := fun h => by
  have := congrArg List.length h
  cases this
theorem kN_inj {N M : Str} (h : kN N = kN M) : N = M := by
  unfold kN at h
  simp at h
  exact h
theorem kR_inj {r d r2 d2 : Nat} (h : kR r d = kR r2 d2) : r = r2 ∧ d = d2 := by
  unfold kR at h
  simp at h
  exact ⟨Int.ofNat_inj.mp h.1, Int.ofNat_inj.mp h.2⟩
theorem kS_inj {i j a b : Nat} (h : kS i j = kS a b) : i = a ∧ j = b := by
  unfold kS at h
  simp at h
  exact ⟨Int.ofNat_inj.mp h.1, Int.ofNat_inj.mp h.2⟩
/-- the dict of a stretch's entries -/
structure EntK (H : Hp) (G : List Rule) (kvs : List (List Key × V)) (e : Ent) : Prop where
  nm : ∀ N, (∃ r ∈ G, r.1 = N) → ∃ v, valV kvs (kN N) = some v ∧ CostV H v (e.nm N)
  rs : ∀ (r d : Nat) N ss, G[r]? = some (N, ss) → d ≤ ss.length → ∃ v, valV kvs (kR r d) = some v ∧ CostV H v (e.rs r d)
  ks : ∀ p ∈ kvs, (∃ N, (∃ r ∈ G, r.1 = N) ∧ p.1 = kN N) ∨ ∃ (r d : Nat) (N : Str) (ss : List Str), G[r]? = some (N, ss) ∧ d ≤ ss.length ∧ p.1 = kR r d
  nd : (kvs.map (·.1)).Nodup
theorem EntK.up {A B : Hp} (u : Up A B) {G : List Rule} {kvs : List (List Key × V)} {e : Ent} (h : EntK A G kvs e) : EntK B G kvs e := by
  refine ⟨fun N q => ?_, fun r d N ss h1 h2 => ?_, h.ks, h.nd⟩
  · obtain ⟨v, e1, c⟩ := h.nm N q
    exact ⟨v, e1, c.up u⟩
  · obtain ⟨v, e1, c⟩ := h.rs r d N ss h1 h2
    exact ⟨v, e1, c.up u⟩
/-- the table of a row of n signs: the dict of stretches -/
structure TabK (H : Hp) (G : List Rule) (n : Nat) (F : List (List Key × V)) (T : Nat → Nat → Ent) : Prop where
  at_ : ∀ i j, i ≤ j → j ≤ n → ∃ d kvs, valV F (kS i j) = some (.ref d) ∧ H d = some (.dT kvs) ∧ EntK H G kvs (T i j)
  ks : ∀ p ∈ F, ∃ i j, i ≤ j ∧ j ≤ n ∧ p.1 = kS i j
  nd : (F.map (·.1)).Nodup
  apart : ∀ p ∈ F, ∀ q ∈ F, p.2 = q.2 → p.1 = q.1
theorem TabK.up {A B : Hp} (u : Up A B) {G : List Rule} {n : Nat} {F : List (List Key × V)} {T : Nat → Nat → Ent} (h : TabK A G n F T) : TabK B G n F T := by
  refine ⟨fun i j h1 h2 => ?_, h.ks, h.nd, h.apart⟩
  obtain ⟨d, kvs, e1, e2, e3⟩ := h.at_ i j h1 h2
  exact ⟨d, kvs, e1, u.dT e2, e3.up u⟩
theorem valV_at2 : ∀ {kvs : List (List Key × V)} {p : List Key × V}, (kvs.map (·.1)).Nodup → p ∈ kvs → valV kvs p.1 = some p.2
  | q :: r, p, nd, h => by
    rw [List.map_cons, List.nodup_cons] at nd
    rcases List.mem_cons.mp h with e | m
    · rw [e]
      exact valV_pos rfl
    · have ne : ¬ q.1 = p.1 := fun z => nd.1 (by rw [z]; exact List.mem_map.mpr ⟨p, m, rfl⟩)
      rw [valV_neg ne]
      exact valV_at2 nd.2 m
theorem nodup_le2 {α : Type} [DecidableEq α] : ∀ {l m : List α}, l.Nodup → (∀ x ∈ l, x ∈ m) → l.length ≤ m.length
  | [], _, _, _ => Nat.zero_le _
  | x :: l, m, nd, h => by
    have hx := h x List.mem_cons_self
    have h2 := nodup_le2 (l := l) (m := m.erase x) (List.nodup_cons.mp nd).2 fun y hy => by
      have ne : y ≠ x := fun e => (List.nodup_cons.mp nd).1 (e ▸ hy)
      exact (List.mem_erase_of_ne ne).mpr (h y (List.mem_cons_of_mem _ hy))
    have h3 := List.length_erase_of_mem hx
    have h4 := List.length_pos_of_mem hx
    rw [List.length_cons]
    omega
theorem key_in {kvs : List (List Key × V)} {k : List Key} {v : V} (h : valV kvs k = some v) : k ∈ kvs.map (·.1) := List.mem_map.mpr ⟨(k, v), valV_from h, rfl⟩
theorem CostV.eqT {K : PySem.W.Frag} {H : Hp} {v u : V} {o : Option Cost} (h : CostV H v o) (k : CostV H u o) : EqT K H 1 v u := by
  cases o with
  | none =>
    rw [show v = .non from h, show u = .non from k]
    exact .inl ⟨rfl, rfl⟩
  | some c => exact .inr (.inr (.inl ⟨cD c, h.dp, k.dp, cD_shaped c⟩))
/-- two dicts of the same entries are equal -/
theorem EntK.eqT {K : PySem.W.Frag} {H : Hp} {G : List Rule} {ks ls : List (List Key × V)} {e : Ent} (h : EntK H G ks e) (k : EntK H G ls e) : ks.length = ls.length ∧ ∀ p ∈ ks, ∃ u, valV ls p.1 = some u ∧ EqT K H 1 p.2 u := by
  have look : ∀ {ks ls : List (List Key × V)}, EntK H G ks e → EntK H G ls e → ∀ p ∈ ks, ∃ u, valV ls p.1 = some u ∧ EqT K H 1 p.2 u := fun {ks ls} h k p hp => by
    have v1 := valV_at2 h.nd hp
    rcases h.ks p hp with ⟨N, hN, e1⟩ | ⟨r, d, N, ss, h1, h2, e1⟩
    · obtain ⟨v, ev, cv⟩ := h.nm N hN
      obtain ⟨u, eu, cu⟩ := k.nm N hN
      rw [e1, ev] at v1
      rw [e1]
      exact ⟨u, eu, by rw [← Option.some.inj v1]; exact cv.eqT cu⟩
    · obtain ⟨v, ev, cv⟩ := h.rs r d N ss h1 h2
      obtain ⟨u, eu, cu⟩ := k.rs r d N ss h1 h2
      rw [e1, ev] at v1
      rw [e1]
      exact ⟨u, eu, by rw [← Option.some.inj v1]; exact cv.eqT cu⟩
  have sub : ∀ {ks ls : List (List Key × V)}, EntK H G ks e → EntK H G ls e → ks.length ≤ ls.length := fun {ks ls} h k => by
    have := nodup_le2 h.nd fun x hx => by
      obtain ⟨p, hp, rfl⟩ := List.mem_map.mp hx
      obtain ⟨u, eu, _⟩ := look h k p hp
      exact key_in eu
    rwa [List.length_map, List.length_map] at this
  exact ⟨Nat.le_antisymm (sub h k) (sub k h), look h k⟩
/-- two tables of the same entries are equal -/
theorem TabK.eqT {K : PySem.W.Frag} {H : Hp} {G : List Rule} {n : Nat} {F F2 : List (List Key × V)} {T : Nat → Nat → Ent} (h : TabK H G n F T) (k : TabK H G n F2 T) : F.length = F2.length ∧ ∀ p ∈ F, ∃ u, valV F2 p.1 = some u ∧ EqT K H 2 p.2 u := by
  have look : ∀ {F F2 : List (List Key × V)}, TabK H G n F T → TabK H G n F2 T → ∀ p ∈ F, ∃ u, valV F2 p.1 = some u ∧ EqT K H 2 p.2 u := fun {F F2} h k p hp => by
    have v1 := valV_at2 h.nd hp
    obtain ⟨i, j, h1, h2, e1⟩ := h.ks p hp
    obtain ⟨d, kvs, e2, e3, e4⟩ := h.at_ i j h1 h2
    obtain ⟨d2, kvs2, f2, f3, f4⟩ := k.at_ i j h1 h2
    rw [e1, e2] at v1
    rw [e1]
    obtain ⟨l, z⟩ := e4.eqT (K := K) f4
    exact ⟨_, f2, .inr (.inr (.inr (.inl ⟨d, d2, kvs, kvs2, (Option.some.inj v1).symm, rfl, e3, f3, l, z⟩)))⟩
  have sub : ∀ {F F2 : List (List Key × V)}, TabK H G n F T → TabK H G n F2 T → F.length ≤ F2.length := fun {F F2} h k => by
    have := nodup_le2 h.nd fun x hx => by
      obtain ⟨p, hp, rfl⟩ := List.mem_map.mp hx
      obtain ⟨u, eu, _⟩ := look h k p hp
      exact key_in eu
    rwa [List.length_map, List.length_map] at this
  exact ⟨Nat.le_antisymm (sub h k) (sub k h), look h k⟩
/-- where both hold the least costs, the entries agree -/
theorem ent_agree {B : Pb} {i j : Nat} {a b : Ent} (h : LeastAt B a i j) (k : LeastAt B b i j) : a = b := by
  obtain ⟨n1, r1⟩ := a
  obtain ⟨n2, r2⟩ := b
  have e1 : n1 = n2 := funext fun N => least_one (h.nm N) (k.nm N)
  have e2 : r1 = r2 := funext fun r => funext fun d => least_one (h.rs r d) (k.rs r d)
  rw [e1, e2]
end Ld

set_option Elab.async false
set_option linter.all false
set_option maxRecDepth 100000
set_option maxHeartbeats 4000000
/-! The least over the ends of a symbol. -/
namespace Ld
open PySem PySem.Spec PyProof.Rows L2 Lr Lb
/-- does a symbol begin with a small letter -/
def isLow (z : Str) : Bool := match z.cps.toList with
  | c :: _ => decide (c ∈ ("abcdefghijklmnopqrstuvwxyz" : Str).cps.toList)
  | [] => false
def pbOf (G : List Rule) (Z : Prc) (row : List Str) (kn : Nat → Nat → Option Ent) : Pb := ⟨G, leafP Z row, isLow, kn⟩
theorem pbOf_ok {G : List Rule} {Z : Prc} (ok : PrcOk Z) {row : List Str} {kn : Nat → Nat → Option Ent} (hk : ∀ i j e, kn i j = some e → (∀ N c, e.nm N = some c → 0 ≤ c.1 ∧ 0 ≤ c.2) ∧ ∀ r d c, e.rs r d = some c → 0 ≤ c.1 ∧ 0 ≤ c.2) : PbOk (pbOf G Z row kn) :=
  ⟨fun k i e => (leafP_in ok row k i e).1, hk⟩
/-- the cost of the symbol at the dot over i to e, by the entries -/
def headC (B : Pb) (T : Nat → Nat → Ent) (k : Str) (i e : Nat) : Option Cost := if B.isN k = true then (T i e).nm k else some (B.leaf k i e, 1)
/-- what the end e gives -/
def endC (B : Pb) (T : Nat → Nat → Ent) (k : Str) (r d i j e : Nat) : Option Cost := match headC B T k i e, (T e j).rs r (d + 1) with
  | some a, some b => some (a.1 + b.1, a.2 + b.2)
  | _, _ => none
/-- what the ends below lim give -/
def UpC (B : Pb) (T : Nat → Nat → Ent) (k : Str) (r d i j lim : Nat) (c : Cost) : Prop := ∃ e, i ≤ e ∧ e < lim ∧ endC B T k r d i j e = some c
theorem upC_start {B : Pb} {T : Nat → Nat → Ent} {k : Str} {r d i j : Nat} : LeastO (UpC B T k r d i j i) none := fun c ⟨e, h1, h2, _⟩ => by omega
theorem endC_is {B : Pb} {T : Nat → Nat → Ent} {k : Str} {r d i j e : Nat} {c : Cost} : endC B T k r d i j e = some c ↔ ∃ a b, (T e j).rs r (d + 1) = some b ∧ ((B.isN k = false ∧ a = (B.leaf k i e, 1)) ∨ (B.isN k = true ∧ (T i e).nm k = some a)) ∧ c = (a.1 + b.1, a.2 + b.2) := by
  unfold endC headC
  by_cases n : B.isN k = true
  · rw [if_pos n]
    cases h1 : (T i e).nm k with
    | none =>
      constructor
      · intro h
        cases h
      · rintro ⟨a, b, _, ⟨q, _⟩ | ⟨_, q⟩, _⟩
        · rw [n] at q
          cases q
        · cases q
    | some a =>
      cases h2 : (T e j).rs r (d + 1) with
      | none =>
        constructor
        · intro h
          cases h
        · rintro ⟨_, b, q, _⟩
          cases q
      | some b =>
        constructor
        · intro h
          exact ⟨a, b, rfl, .inr ⟨n, rfl⟩, (Option.some.inj h).symm⟩
        · rintro ⟨a2, b2, q1, ⟨q, _⟩ | ⟨_, q⟩, rfl⟩
          · rw [n] at q
            cases q
          · cases q
            cases q1
            rfl
  · have n2 : B.isN k = false := by
      cases q : B.isN k with
      | true => exact (n q).elim
      | false => rfl
    rw [if_neg n]
    cases h2 : (T e j).rs r (d + 1) with
    | none =>
      constructor
      · intro h
        cases h
      · rintro ⟨_, b, q, _⟩
        cases q
    | some b =>
      constructor
      · intro h
        exact ⟨_, b, rfl, .inl ⟨n2, rfl⟩, (Option.some.inj h).symm⟩
      · rintro ⟨a2, b2, q1, ⟨_, rfl⟩ | ⟨q, _⟩, rfl⟩
        · cases q1
          rfl
        · exact (n q).elim
theorem upC_end {B : Pb} {T : Nat → Nat → Ent} {k N : Str} {ss : List Str} {r d i j : Nat} (hr : B.G[r]? = some (N, ss)) (hs : ss[d]? = some k) {o : Option Cost} (h : LeastO (UpC B T k r d i j (j + 1)) o) : LeastO (CombC B T r d i j) o := by
  have iff : ∀ c, CombC B T r d i j c ↔ UpC B T k r d i j (j + 1) c := fun c => by
    constructor
    · rintro ⟨N2, s2, hr2, ⟨e1, _, _⟩ | ⟨k2, e, a, b, hs2, h1, h2, hb, ha, hc⟩⟩
      · rw [hr] at hr2
        cases hr2
        have := (List.getElem?_eq_some_iff.mp hs).1
        omega
      · rw [hr] at hr2
        cases hr2
        rw [hs] at hs2
        cases hs2
        exact ⟨e, h1, by omega, endC_is.mpr ⟨a, b, hb, ha, hc⟩⟩
    · rintro ⟨e, h1, h2, he⟩
      obtain ⟨a, b, hb, ha, hc⟩ := endC_is.mp he
      exact ⟨N, ss, hr, .inr ⟨k, e, a, b, hs, h1, by omega, hb, ha, hc⟩⟩
  have eq : CombC B T r d i j = UpC B T k r d i j (j + 1) := funext fun c => propext (iff c)
  rw [eq]
  exact h
theorem comb_full {B : Pb} {T : Nat → Nat → Ent} {N : Str} {ss : List Str} {r i j : Nat} (hr : B.G[r]? = some (N, ss)) : LeastO (CombC B T r ss.length i j) (if i = j then some (0, 0) else none) := by
  refine LeastO.of (fun c h => ?_) fun c h => ?_
  · split at h
    · rename_i e
      exact ⟨N, ss, hr, .inl ⟨rfl, e, (Option.some.inj h).symm⟩⟩
    · cases h
  · obtain ⟨N2, s2, hr2, ⟨_, e, rfl⟩ | ⟨k2, e, a, b, hs2, _⟩⟩ := h
    · rw [if_pos e]
      exact ⟨_, rfl, cle_refl _⟩
    · rw [hr] at hr2
      cases hr2
      have := (List.getElem?_eq_some_iff.mp hs2).1
      omega
/-- the better one of the two -/
def better (b x : Option Cost) : Option Cost := match b, x with
  | b, none => b
  | none, some x => some x
  | some b, some x => if x.1 < b.1 ∨ (x.1 = b.1 ∧ x.2 < b.2) then some x else some b
theorem better_least {S S2 : Cost → Prop} {b x : Option Cost} (h : LeastO S b) (iff : ∀ c, S2 c ↔ S c ∨ x = some c) : LeastO S2 (better b x) := by
  refine LeastO.of (fun c q => (iff c).mpr ?_) fun c q => ?_
  · cases x with
    | none =>
      have e : b = some c := by
        cases b <;> exact q
      left
      rw [e] at h
      exact h.1
    | some x =>
      cases b with
      | none => exact .inr q
      | some b =>
        unfold better at q
        dsimp only at q
        split at q
        · exact .inr q
        · left
          rw [← Option.some.inj q]
          exact h.1
  · rcases (iff c).mp q with s | s
    · obtain ⟨d, e, l⟩ := h.up s
      rw [e]
      cases x with
      | none => exact ⟨d, rfl, l⟩
      | some x =>
        unfold better
        dsimp only
        split
        · refine ⟨x, rfl, cle_trans ?_ l⟩
          unfold cle
          omega
        · exact ⟨d, rfl, l⟩
    · rw [s]
      cases b with
      | none => exact ⟨c, rfl, cle_refl c⟩
      | some b =>
        unfold better
        dsimp only
        split
        · exact ⟨c, rfl, cle_refl c⟩
        · refine ⟨b, rfl, ?_⟩
          unfold cle
          omega
theorem upC_step {B : Pb} {T : Nat → Nat → Ent} {k : Str} {r d i j lim : Nat} (h : i ≤ lim) {b : Option Cost} (l : LeastO (UpC B T k r d i j lim) b) : LeastO (UpC B T k r d i j (lim + 1)) (better b (endC B T k r d i j lim)) := by
  refine better_least l fun c => ?_
  constructor
  · rintro ⟨e, h1, h2, he⟩
    rcases Nat.lt_succ_iff_lt_or_eq.mp h2 with q | q
    · exact .inl ⟨e, h1, q, he⟩
    · rw [q] at he
      exact .inr he
  · rintro (⟨e, h1, h2, he⟩ | he)
    · exact ⟨e, h1, by omega, he⟩
    · exact ⟨lim, h, by omega, he⟩
end Ld

set_option Elab.async false
set_option linter.all false
set_option maxRecDepth 100000
set_option maxHeartbeats 4000000
/-! A table whose entries of one stretch are changed. -/
namespace Ld
open PySem PySem.Spec PyProof.Rows L2 Lr Lb
/-- all but d stays -/
def But (d : Addr) (A B : Hp) : Prop := ∀ b o, b ≠ d → A b = some o → B b = some o
theorem But.of_same {d : Addr} {A B : Hp} (h : Same A B) : But d A B := fun b o _ e => h b o e
theorem But.trans {d : Addr} {A B C : Hp} (h : But d A B) (k : But d B C) : But d A C := fun b o n e => k b o n (h b o n e)
theorem But.upd {d : Addr} {A B : Hp} {o : HO} (h : But d A B) : But d A (L2.upd B d o) := fun b x n e => by
  rw [upd_ne n]
  exact h b x n e
theorem But.same {d : Addr} {A B : Hp} (h : But d A B) (n : A d = none) : Same A B := fun b o e => h b o (fun z => by rw [z, n] at e; cases e) e
section
variable {A B : Hp} {d : Addr} {kd : List (List Key × V)}
theorem But.tup (h : But d A B) (hd : A d = some (.dT kd)) {a : Addr} {xs : List V} (e : A a = some (.tup xs)) : B a = some (.tup xs) := h a _ (fun z => by rw [z, hd] at e; cases e) e
theorem But.lst (h : But d A B) (hd : A d = some (.dT kd)) {a : Addr} {xs : List V} (e : A a = some (.lst xs)) : B a = some (.lst xs) := h a _ (fun z => by rw [z, hd] at e; cases e) e
theorem CostV.but (h : But d A B) (hd : A d = some (.dT kd)) {v : V} : ∀ {o : Option Cost}, CostV A v o → CostV B v o
  | none, q => q
  | some _, ⟨t, e, q⟩ => ⟨t, e, h.tup hd q⟩
theorem EntK.but (h : But d A B) (hd : A d = some (.dT kd)) {G : List Rule} {kvs : List (List Key × V)} {e : Ent} (q : EntK A G kvs e) : EntK B G kvs e := by
  refine ⟨fun N z => ?_, fun r d N ss h1 h2 => ?_, q.ks, q.nd⟩
  · obtain ⟨v, e1, c⟩ := q.nm N z
    exact ⟨v, e1, c.but h hd⟩
  · obtain ⟨v, e1, c⟩ := q.rs r d N ss h1 h2
    exact ⟨v, e1, c.but h hd⟩
theorem RuleA.but (h : But d A B) (hd : A d = some (.dT kd)) {v : V} {r : Rule} (q : RuleA A v r) : RuleA B v r := by
  obtain ⟨t, l, e, h1, h2⟩ := q
  exact ⟨t, l, e, h.tup hd h1, h.lst hd h2⟩
theorem GrA.but (h : But d A B) (hd : A d = some (.dT kd)) : ∀ {vs : List V} {G : List Rule}, GrA A vs G → GrA B vs G
  | [], [], _ => True.intro
  | v :: vs, r :: G, q => ⟨RuleA.but h hd q.1, GrA.but h hd q.2⟩
  | [], _ :: _, q => q.elim
  | _ :: _, [], q => q.elim
theorem GraA.but (h : But d A B) (hd : A d = some (.dT kd)) {g : Addr} {G : List Rule} (q : GraA A g G) : GraA B g G := by
  obtain ⟨vs, e, z⟩ := q
  exact ⟨vs, h.lst hd e, GrA.but h hd z⟩
/-- the table behind a change of the entries of one stretch -/
theorem TabK.but {G : List Rule} {n : Nat} {F : List (List Key × V)} {T : Nat → Nat → Ent} (q : TabK A G n F T) {i j : Nat} (ij : i ≤ j) (jn : j ≤ n) (hF : valV F (kS i j) = some (.ref d)) (hd : A d = some (.dT kd)) (h : But d A B)
    {kvs : List (List Key × V)} {e : Ent} (hd2 : B d = some (.dT kvs)) (he : EntK B G kvs e) : TabK B G n F (wi T i j e) := by
  refine ⟨fun a b h1 h2 => ?_, q.ks, q.nd, q.apart⟩
  by_cases w : a = i ∧ b = j
  · rw [w.1, w.2, wi_same]
    exact ⟨d, kvs, hF, hd2, he⟩
  · obtain ⟨d2, kv2, e1, e2, e3⟩ := q.at_ a b h1 h2
    rw [wi_other w]
    refine ⟨d2, kv2, e1, h d2 _ (fun z => w ?_) e2, e3.but h hd⟩
    have k1 := valV_from e1
    have k2 := valV_from hF
    have := q.apart _ k1 _ k2 (by show V.ref d2 = V.ref d; rw [z])
    exact kS_inj this
end
theorem put_mem2 {kvs : List (List Key × V)} {k : List Key} {v : V} : ∀ p ∈ putK kvs k v, p ∈ kvs ∨ p = (k, v) := fun p hp => by
  unfold putK at hp
  split at hp
  · obtain ⟨q, hq, e⟩ := List.mem_map.mp hp
    split at e
    · rename_i z
      right
      rw [← e, z]
    · left
      rw [← e]
      exact hq
  · rcases List.mem_append.mp hp with m | m
    · exact .inl m
    · exact .inr (List.mem_singleton.mp m)
theorem put_nodup2 {kvs : List (List Key × V)} {k : List Key} {v : V} (h : (kvs.map (·.1)).Nodup) : ((putK kvs k v).map (·.1)).Nodup := by
  unfold putK
  split
  · have e : (kvs.map fun kv => if kv.1 = k then (kv.1, v) else kv).map (·.1) = kvs.map (·.1) := by
      rw [List.map_map]
      refine List.map_congr_left fun q hq => ?_
      show (if q.1 = k then (q.1, v) else q).1 = q.1
      split <;> rfl
    rw [e]
    exact h
  · rename_i out
    rw [List.map_append, List.nodup_append]
    refine ⟨h, by simp, fun a ha b hb e => out ?_⟩
    rw [List.map_singleton, List.mem_singleton] at hb
    obtain ⟨q, hq, e2⟩ := List.mem_map.mp ha
    refine List.any_eq_true.mpr ⟨q, hq, decide_eq_true ?_⟩
    rw [e2, e, hb]
/-- entries with one put anew -/
theorem EntK.putR {H : Hp} {G : List Rule} {kvs : List (List Key × V)} {e : Ent} (h : EntK H G kvs e) {r d : Nat} {N : Str} {ss : List Str} (hr : G[r]? = some (N, ss)) (hd : d ≤ ss.length) {v : V} {o : Option Cost} (hv : CostV H v o) : EntK H G (putK kvs (kR r d) v) (setR e r d o) := by
  refine ⟨fun M hM => ?_, fun a b M ts h1 h2 => ?_, fun p hp => ?_, ?_⟩
  · obtain ⟨u, e1, c⟩ := h.nm M hM
    refine ⟨u, ?_, c⟩
    rw [valV_put, if_neg (kN_ne M r d)]
    exact e1
  · rw [valV_put]
    by_cases w : a = r ∧ b = d
    · rw [w.1, w.2, if_pos rfl]
      refine ⟨v, rfl, ?_⟩
      show CostV H v (if r = r ∧ d = d then o else e.rs r d)
      rw [if_pos ⟨rfl, rfl⟩]
      exact hv
    · rw [if_neg fun z => w (kR_inj z)]
      obtain ⟨u, e1, c⟩ := h.rs a b M ts h1 h2
      refine ⟨u, e1, ?_⟩
      show CostV H u (if a = r ∧ b = d then o else e.rs a b)
      rw [if_neg w]
      exact c
  · rcases put_mem2 p hp with m | rfl
    · exact h.ks p m
    · exact .inr ⟨r, d, N, ss, hr, hd, rfl⟩
  · exact put_nodup2 h.nd
theorem EntK.putN {H : Hp} {G : List Rule} {kvs : List (List Key × V)} {e : Ent} (h : EntK H G kvs e) {N : Str} (hN : ∃ r ∈ G, r.1 = N) {v : V} {o : Option Cost} (hv : CostV H v o) : EntK H G (putK kvs (kN N) v) (setN e N o) := by
  refine ⟨fun M hM => ?_, fun a b M ts h1 h2 => ?_, fun p hp => ?_, ?_⟩
  · rw [valV_put]
    by_cases w : M = N
    · rw [w, if_pos rfl]
      refine ⟨v, rfl, ?_⟩
      show CostV H v (if N = N then o else e.nm N)
      rw [if_pos rfl]
      exact hv
    · rw [if_neg fun z => w (kN_inj z)]
      obtain ⟨u, e1, c⟩ := h.nm M hM
      refine ⟨u, e1, ?_⟩
      show CostV H u (if M = N then o else e.nm M)
      rw [if_neg w]
      exact c
  · obtain ⟨u, e1, c⟩ := h.rs a b M ts h1 h2
    refine ⟨u, ?_, c⟩
    rw [valV_put, if_neg (Ne.symm (kN_ne N a b))]
    exact e1
  · rcases put_mem2 p hp with m | rfl
    · exact h.ks p m
    · exact .inl ⟨N, hN, rfl⟩
  · exact put_nodup2 h.nd
/-- None or a cost, as data -/
def oD : Option Cost → PyData
  | none => .none
  | some c => cD c
theorem CostV.oD {K : PySem.W.Frag} {H : Hp} {v : V} : ∀ {o : Option Cost}, CostV H v o → Dp K H v (oD o)
  | none, h => by
    rw [show v = .non from h]
    exact .non
  | some _, h => h.dp
theorem oD_shaped : ∀ o : Option Cost, SeqAt.shaped (oD o) = true
  | none => shaped_mk rfl (by simp [oD, PyData.depth])
  | some c => cD_shaped c
theorem oD_eqv (a b : Option Cost) : PyData.eqv (oD a) (oD b) = decide (a = b) := by
  cases a with
  | none =>
    cases b with
    | none => simp [oD, PyData.eqv]
    | some c => simp [oD, cD, PyData.eqv]
  | some a =>
    cases b with
    | none => simp [oD, cD, PyData.eqv]
    | some b =>
      rw [Bool.eq_iff_iff, decide_eq_true_eq]
      simp only [oD, cD, PyData.eqv, PyData.eqvAll, Bool.and_true, Bool.and_eq_true, Option.some.injEq]
      constructor
      · intro h
        exact Prod.ext (by simpa using h.1) (by simpa using h.2)
      · rintro rfl
        simp
/-- a round in which nothing moved so far: rules before r, and r from the dot d on -/
structure Still (B : Pb) (T : Nat → Nat → Ent) (i j : Nat) (r d : Nat) : Prop where
  rs : ∀ a b N ss, B.G[a]? = some (N, ss) → b ≤ ss.length → (a < r ∨ (a = r ∧ d ≤ b)) → LeastO (CombC B T a b i j) ((T i j).rs a b)
  nm : ∀ (a : Nat) N ss c, B.G[a]? = some (N, ss) → a < r → (T i j).rs a 0 = some c → ∃ x, (T i j).nm N = some x ∧ cle x (c.1, c.2 + 1)
/-- all of a grammar, nothing moved: the least entries -/
theorem Still.least {B : Pb} {T : Nat → Nat → Ent} {i j d : Nat} (h : Still B T i j B.G.length d) (ij : i ≤ j) (short : Short B T i j) (hk : B.kn i j = none) (snd : SoundAt B (T i j) i j) : LeastAt B (T i j) i j := by
  have e : wi T i j (T i j) = T := funext fun a => funext fun b => by
    by_cases w : a = i ∧ b = j
    · rw [w.1, w.2, wi_same]
    · rw [wi_other w]
  refine closed_least ij short hk snd (fun r d => ?_) fun r N ss c hr hc => h.nm r N ss c hr (List.getElem?_eq_some_iff.mp hr).1 hc
  rw [e]
  refine LeastO.of (fun c q => ?_) fun c q => ?_
  · obtain ⟨N, ss, hr, hd⟩ := rest_in hk (snd.rs r d c q)
    have := h.rs r d N ss hr hd (.inl (List.getElem?_eq_some_iff.mp hr).1)
    rw [q] at this
    exact this.1
  · obtain ⟨N, ss, hr, z⟩ := id q
    have hd : d ≤ ss.length := by
      rcases z with ⟨e1, _⟩ | ⟨k, f, a, b, hs, _⟩
      · omega
      · exact Nat.le_of_lt (List.getElem?_eq_some_iff.mp hs).1
    exact (h.rs r d N ss hr hd (.inl (List.getElem?_eq_some_iff.mp hr).1)).up q
end Ld

set_option Elab.async false
set_option linter.all false
set_option maxRecDepth 100000
set_option maxHeartbeats 4000000
/-! A table of empty entries, while it is made. -/
namespace Ld
open PySem PySem.Spec PyProof.Rows L2 Lr Lb
/-- a dict of Nones at the keys of D -/
structure NonK (D : List Key → Prop) (kvs : List (List Key × V)) : Prop where
  all : ∀ k, D k → valV kvs k = some .non
  ks : ∀ p ∈ kvs, D p.1
  nd : (kvs.map (·.1)).Nodup
theorem NonK.start {D : List Key → Prop} (h : ∀ k, ¬ D k) : NonK D [] := ⟨fun k q => (h k q).elim, (fun _ m => nomatch m), List.nodup_nil⟩
theorem NonK.put {D D2 : List Key → Prop} {kvs : List (List Key × V)} (h : NonK D kvs) {k : List Key} (iff : ∀ x, D2 x ↔ D x ∨ x = k) : NonK D2 (putK kvs k .non) := by
  refine ⟨fun x q => ?_, fun p hp => (iff _).mpr ?_, put_nodup2 h.nd⟩
  · rw [valV_put]
    split
    · rfl
    · rename_i ne
      rcases (iff x).mp q with z | z
      · exact h.all x z
      · exact (ne z).elim
  · rcases put_mem2 p hp with m | rfl
    · exact .inl (h.ks p m)
    · exact .inr rfl
theorem NonK.iff {D D2 : List Key → Prop} {kvs : List (List Key × V)} (h : NonK D kvs) (iff : ∀ x, D2 x ↔ D x) : NonK D2 kvs := ⟨fun k q => h.all k ((iff k).mp q), fun p m => (iff _).mpr (h.ks p m), h.nd⟩
/-- the keys that are there when the names of the first a rules, and the rests before (r, d), are -/
def KeyD (G : List Rule) (a r d : Nat) (k : List Key) : Prop := (∃ (b : Nat) (N : Str) (ss : List Str), b < a ∧ G[b]? = some (N, ss) ∧ k = kN N) ∨
  ∃ (b c : Nat) (N : Str) (ss : List Str), G[b]? = some (N, ss) ∧ c ≤ ss.length ∧ (b < r ∨ (b = r ∧ c < d)) ∧ k = kR b c
theorem keyD_start (G : List Rule) : ∀ k, ¬ KeyD G 0 0 0 k := by
  rintro k (⟨b, N, ss, h, _⟩ | ⟨b, c, N, ss, _, _, h, _⟩)
  · omega
  · omega
theorem keyD_name {G : List Rule} {a d : Nat} {N : Str} {ss : List Str} (h : G[a]? = some (N, ss)) (x : List Key) : KeyD G (a + 1) a d x ↔ KeyD G a a d x ∨ x = kN N := by
  constructor
  · rintro (⟨b, M, ts, h1, h2, rfl⟩ | z)
    · rcases Nat.lt_succ_iff_lt_or_eq.mp h1 with q | q
      · exact .inl (.inl ⟨b, M, ts, q, h2, rfl⟩)
      · rw [q, h] at h2
        cases h2
        exact .inr rfl
    · exact .inl (.inr z)
  · rintro ((⟨b, M, ts, h1, h2, rfl⟩ | z) | rfl)
    · exact .inl ⟨b, M, ts, by omega, h2, rfl⟩
    · exact .inr z
    · exact .inl ⟨a, N, ss, by omega, h, rfl⟩
theorem keyD_rest {G : List Rule} {a r d : Nat} {N : Str} {ss : List Str} (h : G[r]? = some (N, ss)) (hd : d ≤ ss.length) (x : List Key) : KeyD G a r (d + 1) x ↔ KeyD G a r d x ∨ x = kR r d := by
  constructor
  · rintro (z | ⟨b, c, M, ts, h1, h2, h3, rfl⟩)
    · exact .inl (.inl z)
    · by_cases w : b = r ∧ c = d
      · rw [w.1, w.2]
        exact .inr rfl
      · exact .inl (.inr ⟨b, c, M, ts, h1, h2, by omega, rfl⟩)
  · rintro ((z | ⟨b, c, M, ts, h1, h2, h3, rfl⟩) | rfl)
    · exact .inl z
    · exact .inr ⟨b, c, M, ts, h1, h2, by omega, rfl⟩
    · exact .inr ⟨r, d, N, ss, h, hd, by omega, rfl⟩
theorem keyD_next {G : List Rule} {a r : Nat} {N : Str} {ss : List Str} (h : G[r]? = some (N, ss)) (x : List Key) : KeyD G a (r + 1) 0 x ↔ KeyD G a r (ss.length + 1) x := by
  constructor
  · rintro (z | ⟨b, c, M, ts, h1, h2, h3, rfl⟩)
    · exact .inl z
    · refine .inr ⟨b, c, M, ts, h1, h2, ?_, rfl⟩
      by_cases w : b = r
      · rw [w, h] at h1
        cases h1
        exact .inr ⟨w, by omega⟩
      · exact .inl (by omega)
  · rintro (z | ⟨b, c, M, ts, h1, h2, h3, rfl⟩)
    · exact .inl z
    · exact .inr ⟨b, c, M, ts, h1, h2, .inl (by omega), rfl⟩
def ent0 : Ent := ⟨fun _ => none, fun _ _ => none⟩
theorem NonK.ent {H : Hp} {G : List Rule} {kvs : List (List Key × V)} (h : NonK (KeyD G G.length G.length 0) kvs) : EntK H G kvs ent0 := by
  refine ⟨fun N hN => ?_, fun r d N ss h1 h2 => ?_, fun p hp => ?_, h.nd⟩
  · obtain ⟨q, hq, rfl⟩ := hN
    obtain ⟨b, hb⟩ := List.mem_iff_getElem?.mp hq
    exact ⟨.non, h.all _ (.inl ⟨b, q.1, q.2, (List.getElem?_eq_some_iff.mp hb).1, hb, rfl⟩), rfl⟩
  · exact ⟨.non, h.all _ (.inr ⟨r, d, N, ss, h1, h2, .inl (List.getElem?_eq_some_iff.mp h1).1, rfl⟩), rfl⟩
  · rcases h.ks p hp with ⟨b, N, ss, _, h2, e⟩ | ⟨b, c, N, ss, h1, h2, _, e⟩
    · exact .inl ⟨N, ⟨_, List.mem_of_getElem? h2, rfl⟩, e⟩
    · exact .inr ⟨b, c, N, ss, h1, h2, e⟩
/-- a table, as far as it is made -/
structure TabD (H : Hp) (G : List Rule) (D : Nat → Nat → Prop) (F : List (List Key × V)) : Prop where
  at_ : ∀ i j, D i j → ∃ d kvs, valV F (kS i j) = some (.ref d) ∧ H d = some (.dT kvs) ∧ EntK H G kvs ent0
  ks : ∀ p ∈ F, ∃ i j, D i j ∧ p.1 = kS i j
  nd : (F.map (·.1)).Nodup
  apart : ∀ p ∈ F, ∀ q ∈ F, p.2 = q.2 → p.1 = q.1
theorem TabD.start {H : Hp} {G : List Rule} {D : Nat → Nat → Prop} (h : ∀ i j, ¬ D i j) : TabD H G D [] := ⟨fun i j q => (h i j q).elim, (fun _ m => nomatch m), List.nodup_nil, fun _ m => nomatch m⟩
theorem TabD.iff {H : Hp} {G : List Rule} {D D2 : Nat → Nat → Prop} {F : List (List Key × V)} (h : TabD H G D F) (iff : ∀ i j, D2 i j ↔ D i j) : TabD H G D2 F :=
  ⟨fun i j q => h.at_ i j ((iff i j).mp q), fun p m => let ⟨i, j, q, e⟩ := h.ks p m; ⟨i, j, (iff i j).mpr q, e⟩, h.nd, h.apart⟩
theorem TabD.live {H : Hp} {G : List Rule} {D : Nat → Nat → Prop} {F : List (List Key × V)} (h : TabD H G D F) : ∀ p ∈ F, ∃ d kvs, p.2 = .ref d ∧ H d = some (.dT kvs) := fun p hp => by
  obtain ⟨i, j, q, e⟩ := h.ks p hp
  obtain ⟨d, kvs, e1, e2, _⟩ := h.at_ i j q
  have v := valV_at2 h.nd hp
  rw [e, e1] at v
  exact ⟨d, kvs, (Option.some.inj v).symm, e2⟩
theorem TabD.but {A B : Hp} {d : Addr} {kd : List (List Key × V)} {G : List Rule} {D : Nat → Nat → Prop} {F : List (List Key × V)} (h : TabD A G D F) (hd : A d = some (.dT kd)) (out : ∀ p ∈ F, p.2 ≠ .ref d) (b : But d A B) : TabD B G D F := by
  refine ⟨fun i j q => ?_, h.ks, h.nd, h.apart⟩
  obtain ⟨a, kvs, e1, e2, e3⟩ := h.at_ i j q
  refine ⟨a, kvs, e1, b a _ (fun z => out _ (valV_from e1) (by rw [z])) e2, e3.but b hd⟩
theorem TabD.up {A B : Hp} (u : Up A B) {G : List Rule} {D : Nat → Nat → Prop} {F : List (List Key × V)} (h : TabD A G D F) : TabD B G D F := by
  refine ⟨fun i j q => ?_, h.ks, h.nd, h.apart⟩
  obtain ⟨a, kvs, e1, e2, e3⟩ := h.at_ i j q
  exact ⟨a, kvs, e1, u.dT e2, e3.up u⟩
theorem TabD.put {H : Hp} {d : Addr} {kvs : List (List Key × V)} {G : List Rule} {D D2 : Nat → Nat → Prop} {F : List (List Key × V)} (h : TabD H G D F) (out : ∀ p ∈ F, p.2 ≠ .ref d) (hd : H d = some (.dT kvs)) (he : EntK H G kvs ent0) {i j : Nat} (iff : ∀ a b, D2 a b ↔ D a b ∨ (a = i ∧ b = j))
    (nD : ¬ D i j) : TabD H G D2 (putK F (kS i j) (.ref d)) := by
  have nk : valV F (kS i j) = none := by
    cases q : valV F (kS i j) with
    | none => rfl
    | some v =>
      obtain ⟨a, b, hab, e⟩ := h.ks _ (valV_from q)
      obtain ⟨e1, e2⟩ := kS_inj e
      rw [e1, e2] at nD
      exact (nD hab).elim
  refine ⟨fun a b q => ?_, fun p hp => ?_, put_nodup2 h.nd, fun p hp q hq e => ?_⟩
  · rw [valV_put]
    by_cases w : a = i ∧ b = j
    · rw [w.1, w.2, if_pos rfl]
      exact ⟨d, kvs, rfl, hd, he⟩
    · rw [if_neg fun z => w (kS_inj z)]
      rcases (iff a b).mp q with z | z
      · exact h.at_ a b z
      · exact (w z).elim
  · rcases put_mem2 p hp with m | rfl
    · obtain ⟨a, b, hab, e⟩ := h.ks p m
      exact ⟨a, b, (iff a b).mpr (.inl hab), e⟩
    · exact ⟨i, j, (iff i j).mpr (.inr ⟨rfl, rfl⟩), rfl⟩
  · rcases put_mem2 p hp with m | rfl
    · rcases put_mem2 q hq with k | rfl
      · exact h.apart p m q k e
      · exact (out p m e).elim
    · rcases put_mem2 q hq with k | rfl
      · exact (out q k e.symm).elim
      · rfl
theorem TabD.tab {H : Hp} {G : List Rule} {n : Nat} {F : List (List Key × V)} (h : TabD H G (fun i j => i ≤ j ∧ j ≤ n) F) : TabK H G n F (fun _ _ => ent0) :=
  ⟨fun i j h1 h2 => h.at_ i j ⟨h1, h2⟩, fun p m => let ⟨i, j, q, e⟩ := h.ks p m; ⟨i, j, q.1, q.2, e⟩, h.nd, h.apart⟩
end Ld

set_option Elab.async false
set_option linter.all false
set_option maxRecDepth 100000
set_option maxHeartbeats 4000000
/-! A round over the entries of one stretch: what each step gives. -/
namespace Ld
open PySem PySem.Spec PyProof.Rows L2 Lr Lb
/-- a grammar that the table's parts walk over -/
structure GraT (G : List Rule) : Prop where
  name : ∀ r ∈ G, ∀ s ∈ r.2, isLow s = true → ∃ q ∈ G, q.1 = s
  some_ : ∀ r ∈ G, ∀ s ∈ r.2, 0 < s.length ∧ s.length ≤ 100
  few : ∀ r ∈ G, r.2.length ≤ 20
  rules : G.length ≤ 60
theorem setR_self (e : Ent) (r d : Nat) {o : Option Cost} (h : o = e.rs r d) : setR e r d o = e := by
  obtain ⟨n, s⟩ := e
  unfold setR
  have : (fun a b => if a = r ∧ b = d then o else s a b) = s := funext fun a => funext fun b => by
    split
    · rename_i w
      rw [w.1, w.2, h]
    · rfl
  simp only [this]
theorem setN_self (e : Ent) (N : Str) {o : Option Cost} (h : o = e.nm N) : setN e N o = e := by
  obtain ⟨n, s⟩ := e
  unfold setN
  have : (fun M => if M = N then o else n M) = n := funext fun M => by
    split
    · rename_i w
      rw [w, h]
    · rfl
  simp only [this]
section
variable {B : Pb} {T : Nat → Nat → Ent} {i j : Nat} {e0 e : Ent}
theorem RInv.out {r d d2 : Nat} (h : RInv B i j e0 e r d) (out : ∀ b c, d2 ≤ b → ¬ RestC B r b i j c) : RInv B i j e0 e r d2 :=
  ⟨h.snd, h.mono, fun A A' U nb => let ⟨u1, u2, _, u4⟩ := h.up A A' U nb; ⟨u1, u2, fun b le c m => (out b c le m).elim, u4⟩⟩
theorem rest_none (hk : B.kn i j = none) {r : Nat} {N : Str} {ss : List Str} (hr : B.G[r]? = some (N, ss)) {d : Nat} (h : ss.length < d) : ∀ b c, d ≤ b → ¬ RestC B r b i j c := fun b c le m => by
  obtain ⟨M, ts, h1, h2⟩ := rest_in hk m
  rw [hr] at h1
  cases h1
  omega
theorem rest_none2 (hk : B.kn i j = none) (few : ∀ r ∈ B.G, r.2.length ≤ 20) (r : Nat) : ∀ b c, 21 ≤ b → ¬ RestC B r b i j c := fun b c le m => by
  obtain ⟨M, ts, h1, h2⟩ := rest_in hk m
  have := few _ (List.mem_of_getElem? h1)
  dsimp only at this
  omega
theorem Still.rest {r d : Nat} (h : Still B T i j r (d + 1)) (ho : LeastO (CombC B T r d i j) ((T i j).rs r d)) : Still B T i j r d := by
  refine ⟨fun a b N ss h1 h2 h3 => ?_, h.nm⟩
  by_cases w : a = r ∧ b = d
  · rw [w.1, w.2]
    exact ho
  · exact h.rs a b N ss h1 h2 (by omega)
theorem Still.out {r d : Nat} (h : Still B T i j r d) {N : Str} {ss : List Str} (hr : B.G[r]? = some (N, ss)) : Still B T i j r (ss.length + 1) := by
  refine ⟨fun a b M ts h1 h2 h3 => ?_, h.nm⟩
  by_cases w : a = r
  · rw [w, hr] at h1
    cases h1
    omega
  · exact h.rs a b M ts h1 h2 (by omega)
theorem Still.name {r d : Nat} (h : Still B T i j r 0) (few : ∀ r ∈ B.G, r.2.length ≤ 20) {N : Str} {ss : List Str} (hr : B.G[r]? = some (N, ss)) (hn : ∀ c, (T i j).rs r 0 = some c → ∃ x, (T i j).nm N = some x ∧ cle x (c.1, c.2 + 1)) (hd : 21 ≤ d) : Still B T i j (r + 1) d := by
  refine ⟨fun a b M ts h1 h2 h3 => ?_, fun a M ts c h1 h2 h3 => ?_⟩
  · have := few _ (List.mem_of_getElem? h1)
    dsimp only at this
    exact h.rs a b M ts h1 h2 (by omega)
  · by_cases w : a = r
    · rw [w] at h1 h3
      rw [hr] at h1
      cases h1
      exact hn c h3
    · exact h.nm a M ts c h1 (by omega) h3
theorem Still.start (few : ∀ r ∈ B.G, r.2.length ≤ 20) : Still B T i j 0 21 := by
  refine ⟨fun a b M ts h1 h2 h3 => ?_, fun a M ts c h1 h2 => absurd h2 (Nat.not_lt_zero a)⟩
  have := few _ (List.mem_of_getElem? h1)
  dsimp only at this
  omega
end
def keysAll (G : List Rule) : List (List Key) := G.map (fun r => kN r.1) ++ (List.range 60).flatMap fun r => (List.range 21).map fun d => kR r d
theorem keysAll_len {G : List Rule} (h : G.length ≤ 60) : (keysAll G).length ≤ 1320 := by
  unfold keysAll
  rw [List.length_append, List.length_map]
  have : ((List.range 60).flatMap fun r => (List.range 21).map fun d => kR r d).length = 1260 := by
    rw [List.length_flatMap]
    simp only [List.length_map, List.length_range]
    decide
  omega
theorem EntK.few {H : Hp} {G : List Rule} {kvs : List (List Key × V)} {e : Ent} (gt : GraT G) (h : EntK H G kvs e) : kvs.length ≤ 1320 := by
  have := nodup_le2 (l := kvs.map (·.1)) (m := keysAll G) h.nd fun x hx => by
    obtain ⟨p, hp, rfl⟩ := List.mem_map.mp hx
    unfold keysAll
    rcases h.ks p hp with ⟨N, ⟨r, hr, rfl⟩, e1⟩ | ⟨r, d, N, ss, h1, h2, e1⟩
    · rw [e1]
      exact List.mem_append_left _ (List.mem_map.mpr ⟨r, hr, rfl⟩)
    · rw [e1]
      have l1 := (List.getElem?_eq_some_iff.mp h1).1
      have l2 := gt.rules
      have l3 := gt.few _ (List.mem_of_getElem? h1)
      dsimp only at l3
      exact List.mem_append_right _ (List.mem_flatMap.mpr ⟨r, List.mem_range.mpr (by omega), List.mem_map.mpr ⟨d, List.mem_range.mpr (by omega), rfl⟩⟩)
  rw [List.length_map] at this
  exact Nat.le_trans this (keysAll_len gt.rules)
end Ld

set_option Elab.async false
set_option linter.all false
set_option maxRecDepth 100000
set_option maxHeartbeats 4000000
/-! The grammars that the laws of tables and trees make: mathematics. -/
namespace Ld
open PySem PySem.Spec PyProof.Rows L2 Lr Lb
def N4t : List Str := ["s", "expr", "b", "items"]
structure GramT (G : List Rule) : Prop where
  good : ∀ r ∈ G, r.1 ∈ N4t ∧ r.2.length ≤ 3 ∧ ∀ s ∈ r.2, s ∈ N4t ∨ s ∈ P3
  names : ∀ r ∈ G, ∀ s ∈ r.2, s ∈ N4t → ∃ q ∈ G, q.1 = s
  own : ∀ r ∈ G, ∃ q ∈ G, q.1 = r.1 ∧ ∀ x ∈ q.2, x ∈ P3
  ne : G ≠ []
  few : G.length ≤ 12
  nd : G.Nodup
theorem n4t_low : ∀ s ∈ N4t, isLow s = true := by decide +kernel
theorem p3_low : ∀ s ∈ P3, isLow s = false := by decide +kernel
theorem p3_not : ∀ s ∈ P3, s ∉ N4t := by decide +kernel
theorem n4t_name : ∀ s ∈ N4t, nameB s = true := by decide +kernel
theorem p3_kind : ∀ s ∈ P3, kindB s = true := by decide +kernel
theorem n4t_len : ∀ s ∈ N4t, 0 < s.length ∧ s.length ≤ 100 := by decide +kernel
theorem p3_len : ∀ s ∈ P3, 0 < s.length ∧ s.length ≤ 100 := by decide +kernel
theorem sym_good {s : Str} (h : s ∈ N4t ∨ s ∈ P3) : symB s = true := by
  unfold symB
  rcases h with h | h
  · rw [n4t_name s h, Bool.or_true]
  · rw [p3_kind s h, Bool.true_or]
theorem ruleT_good {r : Rule} (h : r.1 ∈ N4t ∧ r.2.length ≤ 3 ∧ ∀ s ∈ r.2, s ∈ N4t ∨ s ∈ P3) : GoodR r :=
  ⟨n4t_name _ h.1, by have := h.2.1; omega, List.all_eq_true.mpr fun s hs => sym_good (h.2.2 s hs)⟩
theorem GramT.goodR {G : List Rule} (h : GramT G) : ∀ r ∈ G, GoodR r := fun r hr => ruleT_good (h.good r hr)
theorem GramT.walk {G : List Rule} (h : GramT G) : GraT G := by
  refine ⟨fun r hr s hs low => ?_, fun r hr s hs => ?_, fun r hr => by have := (h.good r hr).2.1; omega, by have := h.few; omega⟩
  · rcases (h.good r hr).2.2 s hs with z | z
    · exact h.names r hr s hs z
    · rw [p3_low s z] at low
      cases low
  · rcases (h.good r hr).2.2 s hs with z | z
    · exact n4t_len s z
    · exact p3_len s z
theorem GramT.cover {G : List Rule} (h : GramT G) : ∀ q ∈ G, q.1 ∈ N4t := fun q hq => (h.good q hq).1
/-- while the rules are made -/
structure GramP (ns : List Str) (k n : Nat) (G : List Rule) : Prop where
  good : ∀ r ∈ G, r.1 ∈ ns ∧ r.2.length ≤ 3 ∧ ∀ s ∈ r.2, s ∈ ns ∨ s ∈ P3
  own : ∀ (a : Nat) N, a < k → ns[a]? = some N → ∃ q ∈ G, q.1 = N ∧ ∀ x ∈ q.2, x ∈ P3
  few : G.length ≤ n
  ne : 0 < k → G ≠ []
theorem GramP.start (ns : List Str) : GramP ns 0 0 [] := ⟨(fun _ h => nomatch h), (fun a N h => absurd h (Nat.not_lt_zero a)), Nat.le_refl _, fun h => absurd h (Nat.lt_irrefl 0)⟩
theorem GramP.own_ {ns : List Str} {k n : Nat} {G : List Rule} (h : GramP ns k n G) {N : Str} (hN : ns[k]? = some N) {ss : List Str} (l : ss.length ≤ 3) (hs : ∀ s ∈ ss, s ∈ P3) : GramP ns (k + 1) (n + 1) (G ++ [(N, ss)]) := by
  refine ⟨fun r hr => ?_, fun a M lt e => ?_, ?_, fun _ z => by simp at z⟩
  · rcases List.mem_append.mp hr with m | m
    · exact h.good r m
    · rw [List.mem_singleton.mp m]
      exact ⟨List.mem_of_getElem? hN, l, fun s z => .inr (hs s z)⟩
  · rcases Nat.lt_succ_iff_lt_or_eq.mp lt with q | q
    · obtain ⟨r, hr, z⟩ := h.own a M q e
      exact ⟨r, List.mem_append_left _ hr, z⟩
    · rw [q, hN] at e
      cases e
      exact ⟨(N, ss), List.mem_append_right _ (List.mem_singleton.mpr rfl), rfl, hs⟩
  · rw [List.length_append, List.length_singleton]
    have := h.few
    omega
theorem GramP.more {ns : List Str} {k n : Nat} {G : List Rule} (h : GramP ns k n G) {r : Rule} (hr : r.1 ∈ ns ∧ r.2.length ≤ 3 ∧ ∀ s ∈ r.2, s ∈ ns ∨ s ∈ P3) (A B : List Rule) (e : G = A ++ B) : GramP ns k (n + 1) (A ++ [r] ++ B) := by
  refine ⟨fun q hq => ?_, fun a M lt e2 => ?_, ?_, fun _ z => by simp at z⟩
  · rcases List.mem_append.mp hq with m | m
    · rcases List.mem_append.mp m with m | m
      · exact h.good q (by rw [e]; exact List.mem_append_left _ m)
      · rw [List.mem_singleton.mp m]
        exact hr
    · exact h.good q (by rw [e]; exact List.mem_append_right _ m)
  · obtain ⟨q, hq, z⟩ := h.own a M lt e2
    rw [e] at hq
    refine ⟨q, ?_, z⟩
    rcases List.mem_append.mp hq with m | m
    · exact List.mem_append_left _ (List.mem_append_left _ m)
    · exact List.mem_append_right _ m
  · have := h.few
    rw [e] at this
    simp only [List.length_append, List.length_singleton] at this ⊢
    omega
theorem GramP.skip {ns : List Str} {k n m : Nat} {G : List Rule} (h : GramP ns k n G) (l : n ≤ m) : GramP ns k m G := ⟨h.good, h.own, Nat.le_trans h.few l, h.ne⟩
/-- each rule once -/
def nubStep (D : List Rule) (r : Rule) : List Rule := if r ∈ D then D else D ++ [r]
theorem nub_take {G : List Rule} {i : Nat} {r : Rule} (h : G[i]? = some r) : (G.take (i + 1)).foldl nubStep [] = nubStep ((G.take i).foldl nubStep []) r := by
  rw [List.take_add_one, h, List.foldl_append]
  rfl
theorem nub_in (ys : List Rule) : ∀ (D : List Rule) (x : Rule), x ∈ ys.foldl nubStep D ↔ x ∈ D ∨ x ∈ ys := by
  induction ys with
  | nil => simp
  | cons y ys ih =>
    intro D x
    rw [List.foldl_cons, ih, List.mem_cons]
    unfold nubStep
    split
    · rename_i m
      constructor
      · rintro (z | z)
        · exact .inl z
        · exact .inr (.inr z)
      · rintro (z | z | z)
        · exact .inl z
        · exact .inl (z ▸ m)
        · exact .inr z
    · rw [List.mem_append, List.mem_singleton]
      constructor
      · rintro ((z | z) | z)
        · exact .inl z
        · exact .inr (.inl z)
        · exact .inr (.inr z)
      · rintro (z | z | z)
        · exact .inl (.inl z)
        · exact .inl (.inr z)
        · exact .inr z
theorem nub_len (ys : List Rule) : ∀ D : List Rule, (ys.foldl nubStep D).length ≤ D.length + ys.length := by
  induction ys with
  | nil => exact fun D => Nat.le_refl _
  | cons y ys ih =>
    intro D
    have := ih (nubStep D y)
    have : (nubStep D y).length ≤ D.length + 1 := by
      unfold nubStep
      split
      · omega
      · rw [List.length_append]
        exact Nat.le_refl _
    rw [List.foldl_cons, List.length_cons]
    omega
theorem nub_nd (ys : List Rule) : ∀ D : List Rule, D.Nodup → (ys.foldl nubStep D).Nodup := by
  induction ys with
  | nil => exact fun D h => h
  | cons y ys ih =>
    intro D h
    rw [List.foldl_cons]
    refine ih _ ?_
    unfold nubStep
    split
    · exact h
    · rename_i out
      rw [List.nodup_append]
      refine ⟨h, by simp, fun p hp p2 hp2 e => ?_⟩
      rw [List.mem_singleton.mp hp2] at e
      rw [e] at hp
      exact out hp
theorem GramP.gram {ns : List Str} {k n : Nat} {G : List Rule} (h : GramP ns k n G) (sub : ∀ s ∈ ns, s ∈ N4t) (full : k = ns.length) (k0 : 0 < k) (n12 : n ≤ 12) : GramT (G.foldl nubStep []) := by
  have mem : ∀ x, x ∈ G.foldl nubStep [] ↔ x ∈ G := fun x => by rw [nub_in]; simp
  have own : ∀ N ∈ ns, ∃ q ∈ G.foldl nubStep [], q.1 = N ∧ ∀ x ∈ q.2, x ∈ P3 := fun N hN => by
    obtain ⟨a, ha⟩ := List.mem_iff_getElem?.mp hN
    obtain ⟨q, hq, z⟩ := h.own a N (by rw [full]; exact (List.getElem?_eq_some_iff.mp ha).1) ha
    exact ⟨q, (mem q).mpr hq, z⟩
  have g : ∀ r ∈ G.foldl nubStep [], r.1 ∈ ns ∧ r.2.length ≤ 3 ∧ ∀ s ∈ r.2, s ∈ ns ∨ s ∈ P3 := fun r hr => h.good r ((mem r).mp hr)
  refine ⟨fun r hr => ?_, fun r hr s hs n4 => ?_, fun r hr => own _ (g r hr).1, fun z => ?_, ?_, nub_nd G [] List.nodup_nil⟩
  · obtain ⟨g1, g2, g3⟩ := g r hr
    exact ⟨sub _ g1, g2, fun s hs => (g3 s hs).imp_left (sub s)⟩
  · rcases (g r hr).2.2 s hs with z | z
    · obtain ⟨q, hq, e, _⟩ := own s z
      exact ⟨q, hq, e⟩
    · exact (p3_not s z n4).elim
  · cases eG : G with
    | nil => exact h.ne k0 eG
    | cons x G2 =>
      have := (mem x).mpr (by rw [eG]; exact List.mem_cons_self)
      rw [z] at this
      cases this
  · have := nub_len G []
    have := h.few
    rw [List.length_nil] at *
    omega
/-! ### rules in the heap, some of them -/
theorem GrA.app {H : Hp} : ∀ {vs ws : List V} {G G2 : List Rule}, GrA H vs G → GrA H ws G2 → GrA H (vs ++ ws) (G ++ G2)
  | [], _, [], _, _, k => k
  | _ :: _, _, _ :: _, _, h, k => ⟨h.1, GrA.app h.2 k⟩
  | [], _, _ :: _, _, h, _ => h.elim
  | _ :: _, _, [], _, h, _ => h.elim
theorem GrA.take {H : Hp} : ∀ (n : Nat) {vs : List V} {G : List Rule}, GrA H vs G → GrA H (vs.take n) (G.take n)
  | 0, _, _, _ => by
    rw [List.take_zero, List.take_zero]
    exact True.intro
  | _ + 1, [], [], _ => True.intro
  | n + 1, _ :: _, _ :: _, h => ⟨h.1, GrA.take n h.2⟩
  | _ + 1, [], _ :: _, h => h.elim
  | _ + 1, _ :: _, [], h => h.elim
theorem GrA.drop {H : Hp} : ∀ (n : Nat) {vs : List V} {G : List Rule}, GrA H vs G → GrA H (vs.drop n) (G.drop n)
  | 0, _, _, h => h
  | _ + 1, [], [], _ => True.intro
  | n + 1, _ :: _, _ :: _, h => GrA.drop n h.2
  | _ + 1, [], _ :: _, h => h.elim
  | _ + 1, _ :: _, [], h => h.elim
theorem cut_pre {vs : List V} {n : Nat} (h : n ≤ vs.length) : cutV vs none (some (n : Int)) = vs.take n := by
  unfold cutV
  rw [HT.sIx_nat, HT.sIx_none, Nat.min_eq_left h, List.drop_zero, Nat.sub_zero]
theorem cut_post {vs : List V} {n : Nat} (h : n ≤ vs.length) : cutV vs (some (n : Int)) none = vs.drop n := by
  unfold cutV
  rw [HT.sIx_nat, HT.sIx_none, Nat.min_eq_left h]
  exact List.take_of_length_le (by rw [List.length_drop]; exact Nat.le_refl _)
end Ld

set_option Elab.async false
set_option linter.all false
set_option maxRecDepth 100000
set_option maxHeartbeats 4000000
/-! What names derive, reach, and their least rows: no program here. -/
namespace Ld
open PySem PySem.Spec PyProof.Rows L2 TL
def N4 : List Str := ["a", "bb", "s", "list"]
def K3 : List Str := ["A", "BB", "NUMBER"]
def GoodW (r : Rule) : Prop := r.1 ∈ N4 ∧ r.2.length ≤ 6 ∧ ∀ s ∈ r.2, s ∈ N4 ∨ s ∈ K3
theorem n4_name : N4.all nameB = true := by decide +kernel
theorem k3_sym : K3.all symB = true := by decide +kernel
theorem n4_sym : N4.all symB = true := by decide +kernel
theorem k3_not : ∀ s ∈ K3, s ∉ N4 := by decide +kernel
theorem GoodW.good {r : Rule} (h : GoodW r) : GoodR r := ⟨List.all_eq_true.mp n4_name _ h.1, h.2.1, List.all_eq_true.mpr fun s hs => (h.2.2 s hs).elim (fun z => List.all_eq_true.mp n4_sym _ z) fun z => List.all_eq_true.mp k3_sym _ z⟩
/-! ### counting -/
theorem nodup_le {α : Type} [DecidableEq α] : ∀ {l m : List α}, l.Nodup → (∀ x ∈ l, x ∈ m) → l.length ≤ m.length
  | [], _, _, _ => Nat.zero_le _
  | x :: l, m, nd, h => by
    have hx := h x List.mem_cons_self
    have h2 := nodup_le (l := l) (m := m.erase x) (List.nodup_cons.mp nd).2 fun y hy => by
      have ne : y ≠ x := fun e => (List.nodup_cons.mp nd).1 (e ▸ hy)
      exact (List.mem_erase_of_ne ne).mpr (h y (List.mem_cons_of_mem _ hy))
    have h3 := List.length_erase_of_mem hx
    have h4 := List.length_pos_of_mem hx
    rw [List.length_cons]
    omega
/-- the rules whose names are in D -/
def rulesIn (G : List Rule) (D : List Str) : Nat := (G.filter fun r => decide (r.1 ∈ D)).length
theorem rulesIn_le (G : List Rule) (D : List Str) : rulesIn G D ≤ G.length := List.length_filter_le _ _
theorem rulesIn_mono {G : List Rule} {D D2 : List Str} (h : ∀ n ∈ D, n ∈ D2) : rulesIn G D ≤ rulesIn G D2 := by
  unfold rulesIn
  induction G with
  | nil => exact Nat.le_refl _
  | cons r G ih =>
    rw [List.filter_cons, List.filter_cons]
    by_cases c : r.1 ∈ D
    · rw [if_pos (decide_eq_true c), if_pos (decide_eq_true (h _ c)), List.length_cons, List.length_cons]
      omega
    · rw [if_neg (fun z => c (of_decide_eq_true z))]
      split
      · rw [List.length_cons]
        omega
      · exact ih
theorem rulesIn_lt {G : List Rule} {D D2 : List Str} (h : ∀ n ∈ D, n ∈ D2) {q : Rule} (hq : q ∈ G) (n1 : q.1 ∉ D) (n2 : q.1 ∈ D2) : rulesIn G D < rulesIn G D2 := by
  unfold rulesIn
  induction G with
  | nil => cases hq
  | cons r G ih =>
    have mono := rulesIn_mono (G := G) h
    unfold rulesIn at mono
    rw [List.filter_cons, List.filter_cons]
    rcases List.mem_cons.mp hq with e | m
    · subst e
      rw [if_neg (fun z => n1 (of_decide_eq_true z)), if_pos (decide_eq_true n2), List.length_cons]
      omega
    · have := ih m
      by_cases c : r.1 ∈ D
      · rw [if_pos (decide_eq_true c), if_pos (decide_eq_true (h _ c)), List.length_cons, List.length_cons]
        omega
      · rw [if_neg (fun z => c (of_decide_eq_true z))]
        split
        · rw [List.length_cons]
          omega
        · exact this
/-! ### what derives, what is reached -/
inductive Der (G : List Rule) : Str → Prop
  | mk {n : Str} {ss : List Str} (h : (n, ss) ∈ G) (k : ∀ s ∈ ss, s ∈ N4 → Der G s) : Der G n
def ClosedD (G : List Rule) (D : List Str) : Prop := ∀ r ∈ G, (∀ s ∈ r.2, s ∈ N4 → s ∈ D) → r.1 ∈ D
theorem der_in {G : List Rule} {D : List Str} (c : ClosedD G D) {n : Str} (h : Der G n) : n ∈ D := by
  induction h with
  | mk h k ih => exact c _ h fun s hs hn => ih s hs hn
inductive Rea (G : List Rule) (n0 : Str) : Str → Prop
  | start : Rea G n0 n0
  | step {n s : Str} {ss : List Str} (h : Rea G n0 n) (r : (n, ss) ∈ G) (m : s ∈ ss) (k : s ∈ N4) : Rea G n0 s
def ClosedR (G : List Rule) (D : List Str) : Prop := ∀ r ∈ G, r.1 ∈ D → ∀ s ∈ r.2, s ∈ N4 → s ∈ D
theorem rea_in {G : List Rule} {n0 : Str} {D : List Str} (h0 : n0 ∈ D) (c : ClosedR G D) {n : Str} (h : Rea G n0 n) : n ∈ D := by
  induction h with
  | start => exact h0
  | step h r m k ih => exact c _ r ih _ m k
/-! ### rows of kinds, by number -/
def dig (s : Str) : Nat := if s = "A" then 1 else if s = "BB" then 2 else 3
theorem dig_lo (s : Str) : 1 ≤ dig s := by
  unfold dig
  split
  · decide
  · split <;> decide
theorem dig_hi (s : Str) : dig s ≤ 3 := by
  unfold dig
  split
  · decide
  · split <;> decide
def val : List Str → Nat
  | [] => 0
  | x :: a => dig x * 4 ^ a.length + val a
theorem val_hi : ∀ a : List Str, val a < 4 ^ a.length
  | [] => by decide
  | x :: a => by
    have h1 := val_hi a
    have h2 := dig_hi x
    have h3 : dig x * 4 ^ a.length ≤ 3 * 4 ^ a.length := Nat.mul_le_mul_right _ h2
    show dig x * 4 ^ a.length + val a < 4 ^ (a.length + 1)
    rw [Nat.pow_succ]
    omega
theorem val_lo : ∀ a : List Str, 4 ^ a.length ≤ 3 * val a + 1
  | [] => by decide
  | x :: a => by
    have h1 := val_lo a
    have h2 := dig_lo x
    have h3 : 1 * 4 ^ a.length ≤ dig x * 4 ^ a.length := Nat.mul_le_mul_right _ h2
    show 4 ^ (a.length + 1) ≤ 3 * (dig x * 4 ^ a.length + val a) + 1
    rw [Nat.pow_succ]
    omega
theorem val_len {a b : List Str} (h : val a ≤ val b) : a.length ≤ b.length := by
  refine Nat.le_of_not_lt fun lt => ?_
  have h1 := val_lo a
  have h2 := val_hi b
  have h3 : 4 ^ (b.length + 1) ≤ 4 ^ a.length := Nat.pow_le_pow_right (by decide) lt
  rw [Nat.pow_succ] at h3
  omega
theorem val_app : ∀ a b : List Str, val (a ++ b) = val a * 4 ^ b.length + val b
  | [], b => by simp [val]
  | x :: a, b => by
    show dig x * 4 ^ (a ++ b).length + val (a ++ b) = (dig x * 4 ^ a.length + val a) * 4 ^ b.length + val b
    rw [val_app a b, List.length_append, Nat.pow_add, Nat.add_mul, Nat.mul_assoc]
    omega
theorem val_mono_l {a a2 : List Str} (b : List Str) (h : val a ≤ val a2) : val (a ++ b) ≤ val (a2 ++ b) := by
  rw [val_app, val_app]
  have := Nat.mul_le_mul_right (4 ^ b.length) h
  omega
theorem val_mono_r (a : List Str) {b b2 : List Str} (h : val b ≤ val b2) : val (a ++ b) ≤ val (a ++ b2) := by
  rw [val_app, val_app]
  have hl := Nat.pow_le_pow_right (show 0 < 4 by decide) (val_len h)
  have := Nat.mul_le_mul_left (val a) hl
  omega
theorem val_lt_l {a a2 : List Str} (b : List Str) (h : val a < val a2) : val (a ++ b) < val (a2 ++ b) := by
  rw [val_app, val_app]
  have h0 : 0 < 4 ^ b.length := Nat.pow_pos (by decide)
  have := Nat.mul_lt_mul_of_pos_right h h0
  omega
theorem val_lt_r (a : List Str) {b b2 : List Str} (h : val b < val b2) : val (a ++ b) < val (a ++ b2) := by
  rw [val_app, val_app]
  have hl := Nat.pow_le_pow_right (show 0 < 4 by decide) (val_len (Nat.le_of_lt h))
  have := Nat.mul_le_mul_left (val a) hl
  omega
def KR (r : List Str) : Prop := ∀ k ∈ r, k ∈ K3
theorem dig_inj : ∀ x ∈ K3, ∀ y ∈ K3, dig x = dig y → x = y := by decide +kernel
theorem dig_lt : ∀ x ∈ K3, ∀ y ∈ K3, (x.cps.toList < y.cps.toList ↔ dig x < dig y) := by decide +kernel
theorem val_head {x y : Str} {a b : List Str} (hl : a.length = b.length) : (val (x :: a) < val (y :: b) ↔ dig x < dig y ∨ (dig x = dig y ∧ val a < val b)) := by
  have h1 := val_hi a
  have h2 := val_hi b
  show dig x * 4 ^ a.length + val a < dig y * 4 ^ b.length + val b ↔ _
  rw [← hl] at h2 ⊢
  generalize 4 ^ a.length = p at h1 h2
  constructor
  · intro h
    rcases Nat.lt_trichotomy (dig x) (dig y) with c | c | c
    · exact .inl c
    · refine .inr ⟨c, ?_⟩
      rw [c] at h
      omega
    · have : (dig y + 1) * p ≤ dig x * p := Nat.mul_le_mul_right _ c
      rw [Nat.add_mul] at this
      omega
  · rintro (c | ⟨c, d⟩)
    · have : (dig x + 1) * p ≤ dig y * p := Nat.mul_le_mul_right _ c
      rw [Nat.add_mul] at this
      omega
    · rw [c]
      omega
theorem val_inj : ∀ {a b : List Str}, KR a → KR b → val a = val b → a = b
  | [], [], _, _, _ => rfl
  | [], y :: b, _, _, h => by
    have := val_len (Nat.le_of_eq h.symm)
    simp at this
  | x :: a, [], _, _, h => by
    have := val_len (Nat.le_of_eq h)
    simp at this
  | x :: a, y :: b, ka, kb, h => by
    have l1 := val_len (Nat.le_of_eq h)
    have l2 := val_len (Nat.le_of_eq h.symm)
    have hl : a.length = b.length := by
      rw [List.length_cons, List.length_cons] at l1 l2
      omega
    have n1 : ¬ val (x :: a) < val (y :: b) := by omega
    have n2 : ¬ val (y :: b) < val (x :: a) := by omega
    rw [val_head hl] at n1
    rw [val_head hl.symm] at n2
    have hd : dig x = dig y := by
      rcases Nat.lt_trichotomy (dig x) (dig y) with c | c | c
      · exact (n1 (.inl c)).elim
      · exact c
      · exact (n2 (.inl c)).elim
    have ht : val a = val b := by
      rcases Nat.lt_trichotomy (val a) (val b) with c | c | c
      · exact (n1 (.inr ⟨hd, c⟩)).elim
      · exact c
      · exact (n2 (.inr ⟨hd.symm, c⟩)).elim
    have e1 := dig_inj x (ka x List.mem_cons_self) y (kb y List.mem_cons_self) hd
    have e2 := val_inj (fun k hk => ka k (List.mem_cons_of_mem _ hk)) (fun k hk => kb k (List.mem_cons_of_mem _ hk)) ht
    rw [e1, e2]
/-! ### the order of (length, row) -/
open PySem.W in
theorem rows_alike : ∀ a b : List Str, alikeAll (a.map PyData.str) (b.map PyData.str) = true
  | [], _ => by simp [alikeAll]
  | _ :: _, [] => by simp [alikeAll]
  | x :: a, y :: b => by
    rw [List.map_cons, List.map_cons, alikeAll, rows_alike a b]
    simp [alike]
open PySem.W in
theorem rows_lt : ∀ {a b : List Str}, KR a → KR b → a.length = b.length → lexLt itemOrd (keyToksAll (a.map PyData.str)) (keyToksAll (b.map PyData.str)) = decide (val a < val b)
  | [], [], _, _, _ => by decide +kernel
  | [], _ :: _, _, _, h => by simp at h
  | _ :: _, [], _, _, h => by simp at h
  | x :: a, y :: b, ka, kb, h => by
    have hl : a.length = b.length := by simpa using h
    have kx := ka x List.mem_cons_self
    have ky := kb y List.mem_cons_self
    have al : alike (.str x) (.str y) = true := by simp [alike]
    rw [List.map_cons, List.map_cons]
    by_cases e : x = y
    · have ev : PyData.eqv (.str x) (.str y) = true := by simp [PyData.eqv, e]
      rw [dataLt_all_yes al ev, rows_lt (fun k hk => ka k (List.mem_cons_of_mem _ hk)) (fun k hk => kb k (List.mem_cons_of_mem _ hk)) hl, Bool.eq_iff_iff, decide_eq_true_eq, decide_eq_true_eq, val_head hl, e]
      constructor
      · exact fun z => .inr ⟨rfl, z⟩
      · rintro (z | z)
        · omega
        · exact z.2
    · have ev : PyData.eqv (.str x) (.str y) = false := by simp [PyData.eqv, e]
      rw [dataLt_all_no al ev, dataLt_str, Bool.eq_iff_iff, decide_eq_true_eq, decide_eq_true_eq, dig_lt x kx y ky, val_head hl]
      constructor
      · exact fun z => .inl z
      · rintro (z | z)
        · exact z
        · exact (e (dig_inj x kx y ky z.1)).elim
def pairD (a : List Str) : PyData := .tuple [.int a.length, .list (a.map PyData.str)]
open PySem.W in
theorem pair_alike (a b : List Str) : alike (pairD a) (pairD b) = true := by
  unfold pairD
  simp [alike, alikeAll, rows_alike]
open PySem.W in
theorem pair_lt {a b : List Str} (ka : KR a) (kb : KR b) : dataLt (pairD a) (pairD b) = decide (val a < val b) := by
  unfold pairD
  rw [dataLt_tuple]
  have al : alike (.int a.length) (.int b.length) = true := by simp [alike]
  by_cases e : a.length = b.length
  · have ev : PyData.eqv (.int a.length) (.int b.length) = true := by simp [PyData.eqv, e]
    have al2 : alike (.list (a.map PyData.str)) (.list (b.map PyData.str)) = true := by rw [alike]; exact rows_alike a b
    rw [dataLt_all_yes al ev]
    by_cases e2 : a = b
    · have ev2 : PyData.eqv (.list (a.map PyData.str)) (.list (b.map PyData.str)) = true := by rw [PyData.eqv, strs_eqv, e2]; simp
      rw [dataLt_all_yes al2 ev2, e2]
      have : ¬ val b < val b := by omega
      rw [decide_eq_false this]
      decide +kernel
    · have ev2 : PyData.eqv (.list (a.map PyData.str)) (.list (b.map PyData.str)) = false := by rw [PyData.eqv, strs_eqv, decide_eq_false e2]
      rw [dataLt_all_no al2 ev2, dataLt_list]
      exact rows_lt ka kb e
  · have ev : PyData.eqv (.int a.length) (.int b.length) = false := by
      rw [PyData.eqv]
      exact beq_eq_false_iff_ne.mpr fun z => e (by omega)
    rw [dataLt_all_no al ev, dataLt_int, Bool.eq_iff_iff, decide_eq_true_eq, decide_eq_true_eq]
    constructor
    · intro z
      refine Nat.lt_of_not_le fun le => ?_
      have := val_len le
      omega
    · intro z
      have := val_len (Nat.le_of_lt z)
      omega
end Ld

set_option Elab.async false
set_option linter.all false
set_option maxRecDepth 100000
set_option maxHeartbeats 4000000
/-! How long a shown grammar is. -/
namespace Ld
open PySem PySem.Spec PyProof.Rows L2
theorem textFrom_up {B : Nat} : ∀ (ts : List Str) (k : Nat) (acc : Str), (∀ t ∈ ts, t.length ≤ B) → (textFrom k acc ts).length ≤ acc.length + (B + 2) * ts.length
  | [], _, _, _ => by
    show _ ≤ _
    rw [textFrom]
    omega
  | t :: ts, k, acc, h => by
    have ih := textFrom_up ts (k + 1) (acc ++ (if k > 0 then ", " else "" : String) ++ t) fun x hx => h x (List.mem_cons_of_mem _ hx)
    have e : (acc ++ (if k > 0 then ", " else "" : String) ++ t).length ≤ acc.length + 2 + t.length := by
      rw [strLen_append, strLen_append]
      have : ((if k > 0 then ", " else "" : String) : Str).length ≤ 2 := by
        split
        · exact Nat.le_refl 2
        · exact Nat.zero_le 2
      omega
    have := h t List.mem_cons_self
    rw [textFrom, List.length_cons, Nat.mul_succ]
    omega
theorem listText_up {B : Nat} {ts : List Str} (h : ∀ t ∈ ts, t.length ≤ B) : (listText ts).length ≤ (B + 2) * ts.length + 2 := by
  unfold listText
  have := textFrom_up ts 0 "[" h
  have e1 : ((("[" : String) : Str)).length = 1 := rfl
  have e2 : ((("]" : String) : Str)).length = 1 := rfl
  rw [strLen_append]
  omega
theorem tupleText_up {x y : Str} : (tupleText [x, y]).length ≤ x.length + y.length + 6 := by
  unfold tupleText
  have := join_length_add [x, y] (by simp)
  have p : piled [x, y] = x.length + y.length + 4 := by
    simp only [piled, List.map_cons, List.map_nil, List.sum_cons, List.sum_nil]
    omega
  have e1 : ((("(" : String) : Str)).length = 1 := rfl
  have e2 : (((if ([x, y] : List Str).length == 1 then ",)" else ")" : String) : Str)).length = 1 := rfl
  rw [strLen_append, strLen_append]
  omega
theorem shownAll_map {α : Type} (f : α → PyData) : ∀ xs : List α, PyData.shownAll (xs.map f) = xs.map fun x => (f x).shown
  | [] => rfl
  | x :: xs => by
    rw [List.map_cons, PyData.shownAll, shownAll_map f xs]
    rfl
theorem showAll_map {α : Type} (f : α → PyData) (h : ∀ x, (f x).showable = true) : ∀ xs : List α, PyData.showableAll (xs.map f) = true
  | [] => rfl
  | x :: xs => by
    rw [List.map_cons, PyData.showableAll, h x, showAll_map f h xs]
    rfl
theorem str_showable (s : Str) : (PyData.str s).showable = true := rfl
theorem strs_showable (xs : List Str) : (PyData.list (xs.map PyData.str)).showable = true := by
  rw [PyData.showable]
  exact showAll_map _ str_showable xs
theorem rule_showable (r : Rule) : (ruleD r).showable = true := by
  unfold ruleD
  rw [PyData.showable, PyData.showableAll, PyData.showableAll, PyData.showableAll, strs_showable]
  rfl
theorem gD_showable (G : List Rule) : (gD G).showable = true := by
  unfold gD
  rw [PyData.showable]
  exact showAll_map _ rule_showable G
theorem pairG_showable (G : List Rule) (ks : List Str) : (PyData.tuple [gD G, .list (ks.map PyData.str)]).showable = true := by
  rw [PyData.showable, PyData.showableAll, PyData.showableAll, PyData.showableAll, gD_showable, strs_showable]
  rfl
theorem wordB_le {z lo hi : Str} (h : wordB z lo hi = true) : z.length ≤ 12 := by
  unfold wordB at h
  rw [Bool.and_eq_true, Bool.and_eq_true] at h
  have := of_decide_eq_true h.2.1
  omega
theorem sym_le {z : Str} (h : symB z = true) : z.length ≤ 12 := by
  unfold symB at h
  rcases Bool.or_eq_true _ _ |>.mp h with k | k
  · unfold kindB at k
    rw [Bool.and_eq_true] at k
    exact wordB_le k.1
  · exact wordB_le k
theorem sym_shown {z : Str} (h : symB z = true) : (PyData.str z).shown.length ≤ 122 := by
  rw [PyData.shown]
  have h1 := StrLaws.reprText_len z fun c hc => by
    have := sym_codes h c hc
    have e : (16 : Nat) ^ 8 = 4294967296 := by decide
    omega
  have := sym_le h
  omega
theorem syms_shown {ss : List Str} (h : ∀ s ∈ ss, symB s = true) (l : ss.length ≤ 10) : (PyData.list (ss.map PyData.str)).shown.length ≤ 1242 := by
  rw [PyData.shown, shownAll_map]
  have h1 := listText_up (B := 122) (ts := ss.map fun x => (PyData.str x).shown) fun t ht => by
    obtain ⟨s, hs, rfl⟩ := List.mem_map.mp ht
    exact sym_shown (h s hs)
  rw [List.length_map] at h1
  have : (122 + 2) * ss.length ≤ (122 + 2) * 10 := Nat.mul_le_mul_left _ l
  omega
theorem rule_shown {r : Rule} (g : GoodR r) : (ruleD r).shown.length ≤ 1370 := by
  unfold ruleD
  rw [PyData.shown, PyData.shownAll, PyData.shownAll, PyData.shownAll]
  have h1 := tupleText_up (x := (PyData.str r.1).shown) (y := (PyData.list (r.2.map PyData.str)).shown)
  have h2 := sym_shown (z := r.1) (by unfold symB; rw [g.1, Bool.or_true])
  have h3 := syms_shown (List.all_eq_true.mp g.2.2) (Nat.le_trans g.2.1 (by decide))
  omega
theorem gD_shown {G : List Rule} (g : ∀ r ∈ G, GoodR r) (l : G.length ≤ 12) : (gD G).shown.length ≤ 16466 := by
  unfold gD
  rw [PyData.shown, shownAll_map]
  have h1 := listText_up (B := 1370) (ts := G.map fun x => (ruleD x).shown) fun t ht => by
    obtain ⟨s, hs, rfl⟩ := List.mem_map.mp ht
    exact rule_shown (g s hs)
  rw [List.length_map] at h1
  have : (1370 + 2) * G.length ≤ (1370 + 2) * 12 := Nat.mul_le_mul_left _ l
  omega
def inD (G : List Rule) (ks : List Str) : PyData := .tuple [gD G, .list (ks.map PyData.str)]
theorem inD_showable (G : List Rule) (ks : List Str) : (inD G ks).showable = true := pairG_showable G ks
theorem inD_shown {G : List Rule} {ks : List Str} (g : ∀ r ∈ G, GoodR r) (l : G.length ≤ 12) (h : ∀ s ∈ ks, symB s = true) (l2 : ks.length ≤ 10) : (inD G ks).shown.length ≤ sizeLine := by
  unfold inD
  rw [PyData.shown, PyData.shownAll, PyData.shownAll, PyData.shownAll]
  have h1 := tupleText_up (x := (gD G).shown) (y := (PyData.list (ks.map PyData.str)).shown)
  have h2 := gD_shown g l
  have h3 := syms_shown h l2
  rw [sizeLine_eq]
  omega
theorem inD_shaped {G : List Rule} {ks : List Str} (g : ∀ r ∈ G, GoodR r) (h : ∀ s ∈ ks, symB s = true) : SeqAt.shaped (inD G ks) = true := by
  have h1 : (gD G).canLay0 = true := SeqAt.canLay_of_shaped (gD_shaped g)
  have h2 := strs_lay (ss := ks) fun s hs => strOk_sym (h s hs)
  refine shaped_mk ?_ ?_
  · simp [inD, PyData.canLay0, PyData.canLayAll0, h1, h2]
  · have h3 := rules_depth G
    have h4 := strs_depth ks
    simp only [inD, gD, PyData.depth, PyData.depthAll]
    omega
theorem faultD_shaped (o : Option (Str × Nat)) (h : ∀ s k, o = some (s, k) → PyData.strOk s = true) : SeqAt.shaped (match o with | none => PyData.none | some (s, k) => .tuple [.str s, .int k]) = true := by
  cases o with
  | none => exact shaped_mk rfl (by simp [PyData.depth])
  | some p =>
    obtain ⟨s, k⟩ := p
    refine shaped_mk ?_ (by simp [PyData.depth, PyData.depthAll])
    simp [PyData.canLay0, PyData.canLayAll0, h s k rfl]
end Ld

set_option Elab.async false
set_option linter.all false
set_option maxRecDepth 100000
set_option maxHeartbeats 4000000
/-! What stays where some dicts change; grammars, prices and rows as data. -/
namespace Ld
open PySem PySem.Spec PyProof.Rows L2 Lr Lb
/-- all but S stays; at S there were dicts -/
structure ButS (S : Addr → Prop) (A B : Hp) : Prop where
  keep : ∀ b o, ¬ S b → A b = some o → B b = some o
theorem ButS.of_same {S : Addr → Prop} {A B : Hp} (h : Same A B) : ButS S A B := ⟨fun b o _ e => h b o e⟩
theorem ButS.trans {S : Addr → Prop} {A B C : Hp} (h : ButS S A B) (k : ButS S B C) : ButS S A C := ⟨fun b o n e => k.keep b o n (h.keep b o n e)⟩
theorem ButS.upd {S : Addr → Prop} {A B : Hp} {d : Addr} {o : HO} (h : ButS S A B) (hd : S d) : ButS S A (L2.upd B d o) := ⟨fun b x n e => by
  rw [upd_ne (fun z => n (by rw [z]; exact hd))]
  exact h.keep b x n e⟩
theorem ButS.same {S : Addr → Prop} {A B : Hp} (h : ButS S A B) {C : Hp} (s : Same C A) (n : ∀ b, S b → C b = none) : Same C B := fun b o e => h.keep b o (fun z => by rw [n b z] at e; cases e) (s b o e)
section
variable {S : Addr → Prop} {A B : Hp}
theorem CostV.butS (h : ButS S A B) (dic : ∀ b, S b → ∃ kvs, A b = some (.dT kvs)) {v : V} : ∀ {o : Option Cost}, CostV A v o → CostV B v o
  | none, q => q
  | some _, ⟨t, e, q⟩ => ⟨t, e, h.keep t _ (fun z => by obtain ⟨k, e2⟩ := dic t z; rw [q] at e2; cases e2) q⟩
theorem EntK.butS (h : ButS S A B) (dic : ∀ b, S b → ∃ kvs, A b = some (.dT kvs)) {G : List Rule} {kvs : List (List Key × V)} {e : Ent} (q : EntK A G kvs e) : EntK B G kvs e := by
  refine ⟨fun N z => ?_, fun r d N ss h1 h2 => ?_, q.ks, q.nd⟩
  · obtain ⟨v, e1, c⟩ := q.nm N z
    exact ⟨v, e1, c.butS h dic⟩
  · obtain ⟨v, e1, c⟩ := q.rs r d N ss h1 h2
    exact ⟨v, e1, c.butS h dic⟩
theorem TabK.butS (h : ButS S A B) (dic : ∀ b, S b → ∃ kvs, A b = some (.dT kvs)) {G : List Rule} {n : Nat} {F : List (List Key × V)} {T : Nat → Nat → Ent} (q : TabK A G n F T) (out : ∀ p ∈ F, ∀ d, p.2 = .ref d → ¬ S d) : TabK B G n F T := by
  refine ⟨fun i j h1 h2 => ?_, q.ks, q.nd, q.apart⟩
  obtain ⟨d, kvs, e1, e2, e3⟩ := q.at_ i j h1 h2
  exact ⟨d, kvs, e1, h.keep d _ (out _ (valV_from e1) d rfl) e2, e3.butS h dic⟩
end
theorem TabK.congr {H : Hp} {G : List Rule} {n : Nat} {F : List (List Key × V)} {T T2 : Nat → Nat → Ent} (h : TabK H G n F T) (e : ∀ i j, i ≤ j → j ≤ n → T i j = T2 i j) : TabK H G n F T2 :=
  ⟨fun i j h1 h2 => by rw [← e i j h1 h2]; exact h.at_ i j h1 h2, h.ks, h.nd, h.apart⟩
/-- each value is None or a pair of numbers -/
def VOk (H : Hp) (kvs : List (List Key × V)) : Prop := ∀ p ∈ kvs, ∃ o, CostV H p.2 o
theorem EntK.vok {H : Hp} {G : List Rule} {kvs : List (List Key × V)} {e : Ent} (h : EntK H G kvs e) : VOk H kvs := fun p hp => by
  have v := valV_at2 h.nd hp
  rcases h.ks p hp with ⟨N, hN, e1⟩ | ⟨r, d, N, ss, h1, h2, e1⟩
  · obtain ⟨u, e2, c⟩ := h.nm N hN
    rw [e1, e2] at v
    exact ⟨_, by rw [← Option.some.inj v]; exact c⟩
  · obtain ⟨u, e2, c⟩ := h.rs r d N ss h1 h2
    rw [e1, e2] at v
    exact ⟨_, by rw [← Option.some.inj v]; exact c⟩
theorem TabK.vals {H : Hp} {G : List Rule} (gt : GraT G) {n : Nat} {F : List (List Key × V)} {T : Nat → Nat → Ent} (h : TabK H G n F T) : ∀ p ∈ F, ∃ d kvs, p.2 = .ref d ∧ H d = some (.dT kvs) ∧ VOk H kvs ∧ kvs.length ≤ 1320 := fun p hp => by
  have v := valV_at2 h.nd hp
  obtain ⟨i, j, h1, h2, e⟩ := h.ks p hp
  obtain ⟨d, kvs, e1, e2, e3⟩ := h.at_ i j h1 h2
  rw [e, e1] at v
  exact ⟨d, kvs, (Option.some.inj v).symm, e2, e3.vok, e3.few gt⟩
theorem VOk.butS {S : Addr → Prop} {A B : Hp} (h : ButS S A B) (dic : ∀ b, S b → ∃ kvs, A b = some (.dT kvs)) {kvs : List (List Key × V)} (q : VOk A kvs) : VOk B kvs := fun p hp => let ⟨o, c⟩ := q p hp; ⟨o, c.butS h dic⟩
/-! ### as data -/
def inT (G : List Rule) (Z : Prc) (row : List Str) : PyData := .tuple [gD G, prD Z, .list (row.map PyData.str)]
theorem inT_show {G : List Rule} {Z : Prc} (ok : PrcOk Z) (row : List Str) : (inT G Z row).showable = true := by
  unfold inT
  rw [PyData.showable, PyData.showableAll, PyData.showableAll, PyData.showableAll, PyData.showableAll, gD_showable, prD_show ok, strs_showable]
  rfl
theorem inT_dict (G : List Rule) (Z : Prc) (row : List Str) : (inT G Z row).hasDict = true := by
  simp [inT, prD, PyData.hasDict, PyData.hasDictAll]
theorem keys_depth : ∀ k : List Key, PyData.depthAll (k.map keyD) ≤ 1
  | [] => by simp [PyData.depthAll]
  | .inl _ :: k => by
    have := keys_depth k
    simp only [List.map_cons, keyD, PyData.depthAll, PyData.depth]
    omega
  | .inr _ :: k => by
    have := keys_depth k
    simp only [List.map_cons, keyD, PyData.depthAll, PyData.depth]
    omega
theorem ex_depth : ∀ kvs : List (List Key × V), PyData.depthKv (exD kvs) ≤ 3
  | [] => by simp [exD, PyData.depthKv]
  | (k, v) :: kvs => by
    have h1 := keys_depth k
    have h2 := ex_depth kvs
    have h3 : (vD v).depth ≤ 1 := by cases v <;> simp [vD, PyData.depth]
    show PyData.depthKv ((.tuple (k.map keyD), vD v) :: exD kvs) ≤ 3
    simp only [PyData.depthKv, PyData.depth]
    omega
theorem inT_depth (G : List Rule) (Z : Prc) (row : List Str) : (inT G Z row).depth ≤ 60 := by
  have h1 := rules_depth G
  have h2 := strs_depth row
  have h3 := ex_depth Z.ex
  simp only [inT, gD, prD, PyData.depth, PyData.depthAll]
  omega
theorem row_shown {row : List Str} (h : ∀ k ∈ row, k ∈ P4) (l : row.length ≤ 60) : (PyData.list (row.map PyData.str)).shown.length ≤ 2000 := by
  have one : ∀ k ∈ P4, (PyData.str k).shown.length ≤ 20 := by decide +kernel
  rw [PyData.shown, shownAll_map]
  have h1 := listText_up (B := 20) (ts := row.map fun x => (PyData.str x).shown) fun t ht => by
    obtain ⟨s, hs, rfl⟩ := List.mem_map.mp ht
    exact one s (h s hs)
  rw [List.length_map] at h1
  have : (20 + 2) * row.length ≤ (20 + 2) * 60 := Nat.mul_le_mul_left _ l
  omega
theorem inT_shown {G : List Rule} {Z : Prc} {row : List Str} (g : ∀ r ∈ G, GoodR r) (l : G.length ≤ 12) (ok : PrcOk Z) (h : ∀ k ∈ row, k ∈ P4) (l2 : row.length ≤ 60) : (inT G Z row).shown.length ≤ sizeLine := by
  unfold inT
  rw [PyData.shown, PyData.shownAll, PyData.shownAll, PyData.shownAll, PyData.shownAll]
  have h1 := tupleText_piled [(gD G).shown, (prD Z).shown, (PyData.list (row.map PyData.str)).shown]
  rw [piled_cons, piled_cons, piled_cons, piled_nil] at h1
  have h2 := gD_shown g l
  have h3 := shown_wt (prD Z)
  have h4 := prD_wt ok
  have h5 := row_shown h l2
  rw [sizeLine_eq]
  omega
theorem inT_dq {K : PySem.W.Frag} {H : Hp} {t g pr r : Addr} {G : List Rule} {Z : Prc} {row : List Str} (h : SqT K H t [.ref g, .ref pr, .ref r]) (hg : GraA H g G) (hp : PrA H pr Z) (ok : PrcOk Z) (hr : H r = some (.lst (row.map V.str))) : Dq K H (.ref t) (inT G Z row) :=
  .tup h (.cons (.dp hg.dp) (.cons (hp.dq ok) (.cons (.dp (.lst (SqL.of hr) (dp_strs _))) .nil)))
end Ld

set_option Elab.async false
set_option linter.all false
set_option maxRecDepth 100000
set_option maxHeartbeats 4000000
namespace Ld
open PySem PySem.Spec PyProof.Rows L2 Lg Lr
theorem iteEqT {i j : Int} {A B : Prop} (h : i = j) (a : A) : if decide (V.int i = V.int j) = true then A else B := by
  rw [h, decide_eq_true rfl]
  exact iteT a
theorem iteEqF {i j : Int} {A B : Prop} (h : i ≠ j) (b : B) : if decide (V.int i = V.int j) = true then A else B := by
  rw [decide_eq_false (fun z => h (V.int.inj z))]
  exact iteF b
theorem iteStr {x y : Str} {A B : Prop} (h1 : x = y → A) (h2 : x ≠ y → B) : if decide (V.str x = V.str y) = true then A else B := by
  by_cases e : x = y
  · subst e
    rw [decide_eq_true rfl]
    exact iteT (h1 rfl)
  · rw [decide_eq_false (fun z => e (V.str.inj z))]
    exact iteF (h2 e)
def mayB (z : Str) : Bool := kindB z || decide (z = "OTHER")
def prB (i : Int) : Bool := decide (1 ≤ i) && decide (i ≤ 1000)
def keyB : List Str → Bool
  | [a, b] => if a = "put" then kindB b else if a = "out" then mayB b else false
  | [a, b, c] => if a = "change" then mayB b && (kindB c && !decide (b = c)) else false
  | _ => false
section
variable {P : Program} {w : World} {K : PySem.W.Frag} {mg : Str → Option Value} {base : Heap}
theorem scMay : FnScope ["kind"] ["kind"] (defScope s__may_be_read) := ⟨rfl, rfl, rfl, by decide +kernel, rfl, by decide +kernel, by decide +kernel⟩
theorem scPri : FnScope ["price"] ["price"] (defScope s__is_price) := ⟨rfl, rfl, rfl, by decide +kernel, rfl, by decide +kernel, by decide +kernel⟩
theorem scKey : FnScope ["key"] ["key"] (defScope s__is_key) := ⟨rfl, rfl, rfl, by decide +kernel, rfl, by decide +kernel, by decide +kernel⟩
theorem ok_may {f fK T : Addr} {fd fdK : FuncData} (F : Fun K "_may_be_read" "_may_be_read" s__may_be_read f fd)
    (GK : FnOk P w K mg base CX0 2 fK fdK ["text"] (spOne T kindB)) (kK : PySem.W.keepIn K (.ref fK) = true) (bK : Binds K fdK ["text"] []) (gK : mg "is_kind" = some (.ref fK)) : FnOk P w K mg base CX0 3 f fd ["kind"] (spOne T mayB) := by
  refine F.ok scMay (fun vs H Q E h => ?_) (fun cdv A outer s H vs Q E hr h => ?_)
  · obtain ⟨z, rfl, _⟩ := h
    rfl
  · obtain ⟨z, rfl, hz, tg, q⟩ := h
    refine ⟨_, pss_one (ps_ret (pe_or (pe_call GK hr (by rfl) gK kK bK .nil pass0 (pa_cons (pv 0) pa_nil)) (pe_one (pe_cmpR op_eq (pv 0) pe_str (nomark _))))), ?_⟩
    refine ⟨_, rfl, z, rfl, hz, tg, fun H2 h2 => ⟨_, rfl, ?_⟩⟩
    have := q H2 h2
    unfold mayB at this
    refine ite2 (fun c => ?_) (fun c => ?_)
    · rw [c] at this
      exact this
    · rw [Bool.eq_false_iff.mpr c, Bool.false_or, ← str_dec] at this
      exact ⟨_, rfl, rfl, this⟩
def spPri : Sp := fun vs H Q _ => ∃ i : Int, vs = [.int i] ∧ Q (.bl (prB i)) H
theorem ok_pri {f : Addr} {fd : FuncData} (F : Fun K "_is_price" "_is_price" s__is_price f fd) {t1 t2 : Tok} (m1 : mg "LEAST_PRICE" = some (.int 1 t1)) (m2 : mg "GREATEST_PRICE" = some (.int 1000 t2)) : FnOk P w K mg base CX0 1 f fd ["price"] spPri := by
  refine F.ok scPri (fun vs H Q E h => ?_) (fun cdv A outer s H vs Q E hr h => ?_)
  · obtain ⟨i, rfl, _⟩ := h
    rfl
  · obtain ⟨i, rfl, q⟩ := h
    refine ⟨_, pss_one (ps_ret (pe_chain op_le op_le (pe_glob (v := .int 1) rfl m1 ⟨_, rfl⟩) (pv 0) (pe_glob (v := .int 1000) rfl m2 ⟨_, rfl⟩))), ?_⟩
    unfold prB at q
    refine ⟨_, rfl, _, _, rfl, rfl, _, rfl, ite2 (fun c => ?_) (fun c => ?_)⟩
    · rw [c] at q
      exact ⟨_, _, rfl, rfl, q⟩
    · rw [Bool.eq_false_iff.mpr c] at q
      exact q
def spKey (T : Addr) : Sp := fun vs H Q _ => ∃ (a : Addr) (ks : List Str), vs = [.ref a] ∧ H a = some (.tup (ks.map V.str)) ∧ (∀ k ∈ ks, k.length ≤ sizeLine) ∧ GxR.TabG H T ∧ ∀ H2, GxR.Tabbed T H H2 → Q (.bl (keyB ks)) H2
theorem tab_tup {T a : Addr} {A B : Hp} {xs : List V} (t : GxR.TabG A T) (h : GxR.Tabbed T A B) (e : A a = some (.tup xs)) : B a = some (.tup xs) := (Up.tabbed t h).tup e
theorem tabbed_trans {T : Addr} {A B C : Hp} (h : GxR.Tabbed T A B) (k : GxR.Tabbed T B C) : GxR.Tabbed T A C := ⟨k.1, fun b n => (k.2 b n).trans (h.2 b n)⟩
theorem ok_key {f fK fM T : Addr} {fd fdK fdM : FuncData} (F : Fun K "_is_key" "_is_key" s__is_key f fd)
    (GK : FnOk P w K mg base CX0 2 fK fdK ["text"] (spOne T kindB)) (kK : PySem.W.keepIn K (.ref fK) = true) (bK : Binds K fdK ["text"] []) (gK : mg "is_kind" = some (.ref fK))
    (GM : FnOk P w K mg base CX0 3 fM fdM ["kind"] (spOne T mayB)) (kM : PySem.W.keepIn K (.ref fM) = true) (bM : Binds K fdM ["kind"] []) (gM : mg "_may_be_read" = some (.ref fM))
    (ml : mg "len" = none) : FnOk P w K mg base CX0 4 f fd ["key"] (spKey T) := by
  refine F.ok scKey (fun vs H Q E h => ?_) (fun cdv A outer s H vs Q E hr h => ?_)
  · obtain ⟨a, ks, rfl, _⟩ := h
    rfl
  · obtain ⟨a, ks, rfl, ha, hk, tg, q⟩ := h
    have hr2 := hr.mono (show 2 ≤ 3 by decide)
    refine ⟨_, pss_cons (ps_if (PW.pt (pw_and (pt_cmpR op_eq (pe_callB call_len_seq (by rfl) ml PySem.boot_len (pa_cons (pv 0) pa_nil)) pe_int (nomark _)) (pw_and1 (pt_cmpR op_eq (pe_ix ix_tup (pv 0) pe_int (fun _ _ => rfl)) pe_str (nomark _)))))
        (pss_one (ps_ret (pe_call GK hr2 (by rfl) gK kK bK .nil pass0 (pa_cons (pe_ix ix_tup (pv 0) pe_int (fun _ _ => rfl)) pa_nil)))) pss_nil)
      (pss_cons (ps_if (PW.pt (pw_and (pt_cmpR op_eq (pe_callB call_len_seq (by rfl) ml PySem.boot_len (pa_cons (pv 0) pa_nil)) pe_int (nomark _)) (pw_and1 (pt_cmpR op_eq (pe_ix ix_tup (pv 0) pe_int (fun _ _ => rfl)) pe_str (nomark _)))))
        (pss_one (ps_ret (pe_call GM hr (by rfl) gM kM bM .nil pass0 (pa_cons (pe_ix ix_tup (pv 0) pe_int (fun _ _ => rfl)) pa_nil)))) pss_nil)
      (pss_cons (ps_if (PW.pt (pw_and (pt_cmpR op_eq (pe_callB call_len_seq (by rfl) ml PySem.boot_len (pa_cons (pv 0) pa_nil)) pe_int (nomark _)) (pw_and1 (pt_cmpR op_eq (pe_ix ix_tup (pv 0) pe_int (fun _ _ => rfl)) pe_str (nomark _)))))
        (pss_one (ps_ret (pe_and (pe_call GM hr (by rfl) gM kM bM .nil pass0 (pa_cons (pe_ix ix_tup (pv 0) pe_int (fun _ _ => rfl)) pa_nil))
          (pe_and (pe_call GK hr2 (by rfl) gK kK bK .nil pass0 (pa_cons (pe_ix ix_tup (pv 0) pe_int (fun _ _ => rfl)) pa_nil)) (pe_one (pe_cmpR op_ne (pe_ix ix_tup (pv 0) pe_int (fun _ _ => rfl)) (pe_ix ix_tup (pv 0) pe_int (fun _ _ => rfl)) (nomark _))))))) pss_nil)
      (pss_one (ps_ret pe_bl)))), ?_⟩
    have q0 : keyB ks = false → Q (.bl false) H := fun e => by
      have := q H ⟨tg, fun _ _ => rfl⟩
      rw [e] at this
      exact this
    have no : ∀ {n : Int}, (ks.length : Int) ≠ n → ((ks.map V.str).length : Int) ≠ n := fun {n} h => by rw [List.length_map]; exact h
    by_cases n2 : ks.length = 2
    · obtain ⟨x, y, rfl⟩ : ∃ x y, ks = [x, y] := by
        match ks, n2 with
        | [x, y], _ => exact ⟨x, y, rfl⟩
      have y1 := hk y (by simp)
      refine ⟨_, rfl, a, _, rfl, .inr (SqT.of ha), rfl, _, rfl, iteEqT rfl ⟨_, rfl, a, _, _, _, rfl, rfl, SqT.of ha, at_of (j := 0) rfl rfl, rfl, _, rfl, iteStr (fun e => ?_) (fun e1 => ?_)⟩⟩
      · refine ⟨_, rfl, a, _, _, _, rfl, rfl, SqT.of ha, at_of (j := 1) rfl rfl, y, rfl, y1, tg, fun H2 h2 => ?_⟩
        have := q H2 h2
        rw [show keyB [x, y] = kindB y from if_pos e] at this
        exact this
      · refine ⟨_, rfl, a, _, rfl, .inr (SqT.of ha), rfl, _, rfl, iteEqT rfl ⟨_, rfl, a, _, _, _, rfl, rfl, SqT.of ha, at_of (j := 0) rfl rfl, rfl, _, rfl, iteStr (fun e => ?_) (fun e2 => ?_)⟩⟩
        · refine ⟨_, rfl, a, _, _, _, rfl, rfl, SqT.of ha, at_of (j := 1) rfl rfl, y, rfl, y1, tg, fun H2 h2 => ?_⟩
          have := q H2 h2
          rw [show keyB [x, y] = mayB y from (if_neg e1).trans (if_pos e)] at this
          exact this
        · refine ⟨_, rfl, a, _, rfl, .inr (SqT.of ha), rfl, _, rfl, iteEqF (no (n := 3) (by show ((2 : Nat) : Int) ≠ 3; decide)) (iteF ?_)⟩
          exact q0 ((if_neg e1).trans (if_neg e2))
    · by_cases n3 : ks.length = 3
      · obtain ⟨x, y, z, rfl⟩ : ∃ x y z, ks = [x, y, z] := by
          match ks, n3 with
          | [x, y, z], _ => exact ⟨x, y, z, rfl⟩
        have y1 := hk y (by simp)
        have z1 := hk z (by simp)
        refine ⟨_, rfl, a, _, rfl, .inr (SqT.of ha), rfl, _, rfl, iteEqF (no (n := 2) (by show ((3 : Nat) : Int) ≠ 2; decide)) (iteF ?_)⟩
        refine ⟨_, rfl, a, _, rfl, .inr (SqT.of ha), rfl, _, rfl, iteEqF (no (n := 2) (by show ((3 : Nat) : Int) ≠ 2; decide)) (iteF ?_)⟩
        refine ⟨_, rfl, a, _, rfl, .inr (SqT.of ha), rfl, _, rfl, iteEqT rfl ⟨_, rfl, a, _, _, _, rfl, rfl, SqT.of ha, at_of (j := 0) rfl rfl, rfl, _, rfl, iteStr (fun e => ?_) (fun e => ?_)⟩⟩
        · have ek : keyB [x, y, z] = (mayB y && (kindB z && !decide (y = z))) := if_pos e
          refine ⟨_, rfl, a, _, _, _, rfl, rfl, SqT.of ha, at_of (j := 1) rfl rfl, y, rfl, y1, tg, fun H2 h2 => ⟨_, rfl, ite2 (fun c => ?_) (fun c => ?_)⟩⟩
          · have ha2 := tab_tup tg h2 ha
            refine ⟨_, rfl, a, _, _, _, rfl, rfl, SqT.of ha2, at_of (j := 2) rfl rfl, z, rfl, z1, h2.1, fun H3 h3 => ⟨_, rfl, ite2 (fun c2 => ?_) (fun c2 => ?_)⟩⟩
            · have ha3 := tab_tup h2.1 h3 ha2
              refine ⟨_, rfl, a, _, _, _, rfl, rfl, SqT.of ha3, at_of (j := 1) rfl rfl, _, rfl, a, _, _, _, rfl, rfl, SqT.of ha3, at_of (j := 2) rfl rfl, rfl, ?_⟩
              have := q H3 (tabbed_trans h2 h3)
              rw [ek, c, c2, Bool.true_and, Bool.true_and, ← str_dec] at this
              exact this
            · have := q H3 (tabbed_trans h2 h3)
              rw [ek, Bool.eq_false_iff.mpr c2, Bool.false_and, Bool.and_false] at this
              exact this
          · have := q H2 h2
            rw [ek, Bool.eq_false_iff.mpr c, Bool.false_and] at this
            exact this
        · exact q0 (if_neg e)
      · refine ⟨_, rfl, a, _, rfl, .inr (SqT.of ha), rfl, _, rfl, iteEqF (no (by omega)) (iteF ?_)⟩
        refine ⟨_, rfl, a, _, rfl, .inr (SqT.of ha), rfl, _, rfl, iteEqF (no (by omega)) (iteF ?_)⟩
        refine ⟨_, rfl, a, _, rfl, .inr (SqT.of ha), rfl, _, rfl, iteEqF (no (by omega)) (iteF ?_)⟩
        refine q0 ?_
        match ks, n2, n3 with
        | [], _, _ => rfl
        | [_], _, _ => rfl
        | _ :: _ :: _ :: _ :: _, _, _ => rfl
end
end Ld

set_option Elab.async false
set_option linter.all false
set_option maxRecDepth 100000
set_option maxHeartbeats 4000000
namespace Ld
open PySem PySem.Spec PyProof.Rows L2 Lg Lr
def unk : Key → Str
  | .inr s => s
  | .inl _ => ""
def unkey (k : List Key) : List Str := k.map unk
def unint : V → Int
  | .int i => i
  | _ => 0
def exB (p : List Key × V) : Bool := keyB (unkey p.1) && prB (unint p.2)
def isP (a b c : Int) (kvs : List (List Key × V)) : Bool := (prB a && (prB b && prB c)) && kvs.all exB
def ExG (p : List Key × V) : Prop := p.1 = (unkey p.1).map sk ∧ p.2 = .int (unint p.2) ∧ ∀ k ∈ unkey p.1, k.length ≤ sizeLine
theorem Up.frz {A B : Hp} (u : Up A B) {a : Addr} {o : Obj} {x : HO} (h : A a = some (.frz o x)) : B a = some (.frz o x) := by
  rcases u a _ h with e | ⟨_, _, z, _⟩
  · exact e
  · cases z
theorem Up.unlock {A B : Hp} {d : Addr} {o x : HO} (h : A d = some x) (u : Up (L2.upd A d o) B) : Up A (L2.upd B d x) := fun b y e => by
  by_cases z : b = d
  · subst z
    rw [upd_same]
    rw [h] at e
    exact .inl (by rw [e])
  · rw [upd_ne z]
    exact u b y (by rw [upd_ne z]; exact e)
theorem Tb.dT {T1 T2 : Addr} {H : Hp} (t : Tb T1 T2 H) {p : Addr} {o : HO} {kvs : List (List Key × V)} (n : H p = some (.dT kvs)) : Tb T1 T2 (upd H p o) := ⟨tabG_in t.1 n (fun _ z => by cases z), tabG_in t.2 n fun _ z => by cases z⟩
theorem Tb.frz {T1 T2 : Addr} {H : Hp} (t : Tb T1 T2 H) {p : Addr} {o : HO} {b : Obj} {x : HO} (n : H p = some (.frz b x)) : Tb T1 T2 (upd H p o) := ⟨tabG_in t.1 n (fun _ z => by cases z), tabG_in t.2 n fun _ z => by cases z⟩
theorem key_map (ks : List Str) : (ks.map sk).map kV = ks.map V.str := by
  rw [List.map_map]
  exact List.map_congr_left fun _ _ => rfl
theorem all_idx {α : Type} (p : α → Bool) (xs : List α) (d : α) : ((List.range xs.length).all fun i => p (xs.getD i d)) = xs.all p := by
  rw [Bool.eq_iff_iff, List.all_eq_true, List.all_eq_true]
  constructor
  · intro h s hs
    obtain ⟨j, hj, e⟩ := List.getElem_of_mem hs
    have q := h j (List.mem_range.mpr hj)
    rw [List.getD_eq_getElem?_getD, List.getElem?_eq_getElem hj] at q
    rw [← e]
    exact q
  · intro h j hj
    have hj' := List.mem_range.mp hj
    rw [List.getD_eq_getElem?_getD, List.getElem?_eq_getElem hj']
    exact h _ (List.getElem_mem hj')
section
variable {P : Program} {w : World} {K : PySem.W.Frag} {mg : Str → Option Value} {base : Heap}
theorem scIsP : FnScope ["prices", "put", "out", "change", "exceptions", "price", "key"] ["prices"] (defScope s_is_prices) := ⟨rfl, rfl, rfl, by decide +kernel, rfl, by decide +kernel, by decide +kernel⟩
theorem isPs1 : Gc.GenSc (defScope s_is_prices) (({ kind := ScopeKind.function, names := [(Str.ofString ".0", NameKind.local), (Str.ofString "price", NameKind.local), (Str.ofString "_is_price", NameKind.globalImplicit)], isGenerator := true, isCoroutine := false, more := [] } : Scope)) "price" :=
  ⟨rfl, rfl, by decide +kernel, rfl, rfl, by decide +kernel⟩
theorem isPs2 : Gc.GenSc (defScope s_is_prices) (({ kind := ScopeKind.function, names := [(Str.ofString ".0", NameKind.local), (Str.ofString "key", NameKind.local), (Str.ofString "exceptions", NameKind.free), (Str.ofString "_is_key", NameKind.globalImplicit), (Str.ofString "_is_price", NameKind.globalImplicit)], isGenerator := true, isCoroutine := false, more := [] } : Scope)) "key" :=
  ⟨rfl, rfl, by decide +kernel, rfl, rfl, by decide +kernel⟩
def spIsP (T1 T2 : Addr) : Sp := fun vs H Q _ => ∃ (t d : Addr) (a b c : Int) (kvs : List (List Key × V)), vs = [.ref t] ∧ H t = some (.tup [.int a, .int b, .int c, .ref d]) ∧ H d = some (.dT kvs) ∧ (kvs.map (·.1)).Nodup ∧ (∀ p ∈ kvs, ExG p) ∧ Tb T1 T2 H ∧
  ∀ H2, Up H H2 → Tb T1 T2 H2 → Q (.bl (isP a b c kvs)) H2
theorem ok_isP {f cc fP fK T1 T2 : Addr} {fd fdP fdK : FuncData} (F : Fun K "is_prices" "is_prices" s_is_prices f fd) (hc : fd.code = .ref cc) (TB : GxR.TabB base mg cc T2)
    (GP : FnOk P w K mg base CX0 1 fP fdP ["price"] spPri) (kP : PySem.W.keepIn K (.ref fP) = true) (bP : Binds K fdP ["price"] []) (gP : mg "_is_price" = some (.ref fP))
    (GK : FnOk P w K mg base CX0 4 fK fdK ["key"] (spKey T1)) (kK : PySem.W.keepIn K (.ref fK) = true) (bK : Binds K fdK ["key"] []) (gK : mg "_is_key" = some (.ref fK))
    (ma : mg "all" = none) : FnOk P w K mg base CX0 6 f fd ["prices"] (spIsP T1 T2) := by
  refine okT (k := 5) F hc scIsP (fun vs H Q E h => ?_) (fun A outer s H vs Q E hr h => ?_)
  · obtain ⟨t, d, a, b, c, kvs, rfl, _⟩ := h
    rfl
  · obtain ⟨t, d, a, b, c, kvs, rfl, ht, hd, nd, good, tb, q⟩ := h
    refine ⟨_, pss_cons (ps_asg (pv 0) (pg_tup rfl (pgs_cons (pg_name (i := 1) scIsP.nd rfl (.inl rfl)) (pgs_cons (pg_name (i := 2) scIsP.nd rfl (.inl rfl)) (pgs_cons (pg_name (i := 3) scIsP.nd rfl (.inl rfl)) (pgs_cons (pg_name (i := 4) scIsP.nd rfl (.inr rfl)) pgs_nil))))))
      (pss_cons (ps_if (pt_not (pt_val (Gn.pe_allN (te := tCall spPri [] E0 (tCons (tVar 5) tNil)) (k := 4) (ix := 5) hr (by rfl) ma (by decide +kernel) TB rfl scIsP.nd isPs1
          (blkOk_by (own := [("price", 5)]) (N := ["prices", "put", "out", "change", "exceptions", "price", "key"]) (sc := defScope s_is_prices) (by decide +kernel)) rfl (pi_tup (pe_tup (pa_cons (pv 1) (pa_cons (pv 2) (pa_cons (pv 3) pa_nil)))))
          (fun B s H C code fp hB => pe_call GP (hB.mono (by decide)) (by rfl) gP kP bP .nil pass0 (pa_cons (pv 5) pa_nil)) (fun _ => rfl)))) (pss_one (ps_ret pe_bl)) pss_nil)
      (pss_one (ps_ret (pe_lock (Gn.pe_allN (te := tAndV (tCall (spKey T1) [] E0 (tCons (tVar 6) tNil)) (tCall spPri [] E0 (tCons (tDGet (tVar 4) (tVar 6)) tNil))) (k := 4) (ix := 6) hr (by rfl) ma (by decide +kernel) TB rfl scIsP.nd isPs2
          (blkOk_by (own := [("key", 6)]) (N := ["prices", "put", "out", "change", "exceptions", "price", "key"]) (sc := defScope s_is_prices) (by decide +kernel)) rfl (pi_keys (pv 4))
          (fun B s H C code fp hB => pe_and (pe_call GK hB (by rfl) gK kK bK .nil pass0 (pa_cons (pv 6) pa_nil)) (pe_one (pe_call GP (hB.mono (by decide)) (by rfl) gP kP bP .nil pass0 (pa_cons (pe_dget (units1 hB) (pv 4) (pv 6) (fun _ _ => rfl)) pa_nil)))) (fun _ => rfl)))))), ?_⟩
    refine ⟨_, rfl, t, _, rfl, SqT.of ht, rfl, _, _, rfl, _, _, rfl, _, _, rfl, _, _, rfl, rfl, ?_⟩
    refine ⟨_, rfl, _, rfl, _, rfl, (by show 3 ≤ sizeLine; decide), fun p np => ?_⟩
    have s1 : Same H (upd H p (.tup [.int a, .int b, .int c])) := same_upd np
    have hp : upd H p (.tup [.int a, .int b, .int c]) p = some (.tup [.int a, .int b, .int c]) := upd_same
    have t1 := tb.new (o := .tup [.int a, .int b, .int c]) np
    generalize upd H p (.tup [.int a, .int b, .int c]) = H1 at s1 hp t1
    refine ⟨p, rfl, ⟨_, SqT.of hp⟩, t1.2, fun H2 h2 => ?_⟩
    have u2 := Up.tabbed t1.2 h2
    have t2 := t1.on2 h2
    have hp2 := u2.tup hp
    refine ⟨3, fun i => prB ([a, b, c].getD i 0), fun _ H' => H' = H2, rfl, ?_, ?_, ?_⟩
    · rintro i H3 hi rfl
      have hi : i < 3 := hi
      obtain ⟨y, hy, ey⟩ : ∃ y : Int, [V.int a, V.int b, V.int c][i]? = some (.int y) ∧ [a, b, c].getD i 0 = y := by
        match i, hi with
        | 0, _ => exact ⟨a, rfl, rfl⟩
        | 1, _ => exact ⟨b, rfl, rfl⟩
        | 2, _ => exact ⟨c, rfl, rfl⟩
      refine ⟨⟨_, _, SqT.of hp2, hy⟩, fun x H4 hx => ?_⟩
      obtain ⟨rfl, hx⟩ := hx
      have ex := Option.some.inj ((hx _ (SqT.of hp2)).symm.trans hy)
      refine ⟨_, by rw [ex]; rfl, y, rfl, ?_, rfl⟩
      dsimp only
      rw [ey]
    · rintro H3 rfl
      exact ⟨_, SqT.of hp2, Nat.le_refl 3⟩
    · rintro i H3 rfl
      have e3 : ((List.range 3).all fun i => prB ([a, b, c].getD i 0)) = (prB a && (prB b && prB c)) := by
        have := all_idx prB [a, b, c] 0
        rw [List.all_cons, List.all_cons, List.all_cons, List.all_nil, Bool.and_true] at this
        exact this
      rw [e3]
      have u02 := (Up.of_same s1).trans u2
      refine ⟨_, rfl, ?_⟩
      cases e : (prB a && (prB b && prB c)) with
      | false =>
        have := q H3 u02 t2
        unfold isP at this
        rw [e, Bool.false_and] at this
        exact this
      | true =>
        have hd2 := u02.dT hd
        refine ⟨d, _, hd2, True.intro, fun od => ?_⟩
        have tL : Tb T1 T2 (upd H3 d (.frz od (.dT kvs))) := t2.dT hd2
        have hdL : upd H3 d (.frz od (.dT kvs)) d = some (.frz od (.dT kvs)) := upd_same
        generalize hHL : upd H3 d (.frz od (.dT kvs)) = HL at tL hdL
        refine ⟨_, rfl, d, od, rfl, .inr ⟨kvs, hdL, tL.2, fun H5 h5 => ?_⟩⟩
        refine ⟨kvs.length, fun i => exB (kvs.getD i ([], .non)), fun _ H' => Up HL H' ∧ Tb T1 T2 H', ⟨Up.tabbed tL.2 h5, tL.on2 h5⟩, ?_, ?_, ?_⟩
        · rintro i H6 hi ⟨u6, t6⟩
          have hd6 := u6.frz hdL
          refine ⟨⟨hd6, hi⟩, fun x H7 hx => ?_⟩
          obtain ⟨rfl, k, v, qq, hkv, rfl, hq⟩ := hx
          obtain ⟨e1, e2, e3⟩ := good _ (List.mem_of_getElem? hkv)
          dsimp only at e1 e2 e3
          have eg : kvs.getD i ([], .non) = (k, v) := by rw [List.getD_eq_getElem?_getD, hkv]; rfl
          have hq2 : H7 qq = some (.tup ((unkey k).map V.str)) := by rw [← key_map, ← e1]; exact hq
          refine ⟨_, rfl, qq, unkey k, rfl, hq2, e3, t6.1, fun H8 h8 => ?_⟩
          have u8 := Up.tabbed t6.1 h8
          have t8 := t6.on1 h8
          refine ⟨_, rfl, ite2 (fun c1 => ?_) (fun c1 => ?_)⟩
          · have hd8 := u8.frz hd6
            have dg : DGet H8 d (.ref qq) (some v) := .inr ⟨kvs, k, qq, .inr ⟨od, hd8⟩, rfl, u8.tup hq, (valV_at2 nd (List.mem_of_getElem? hkv)).symm⟩
            rw [e2] at dg
            refine ⟨_, rfl, _, rfl, d, _, rfl, dg, unint v, rfl, ?_, u6.trans u8, t8⟩
            dsimp only
            rw [eg]
            unfold exB
            rw [c1]
            rfl
          · refine ⟨?_, u6.trans u8, t8⟩
            dsimp only
            rw [eg]
            unfold exB
            rw [Bool.eq_false_iff.mpr c1]
            rfl
        · rintro H6 ⟨u6, t6⟩
          exact ⟨u6.frz hdL, Nat.le_refl _⟩
        · rintro i H6 ⟨u6, t6⟩
          refine ⟨u6.frz hdL, ?_⟩
          rw [all_idx exB]
          rw [← hHL] at u6
          have := q (upd H6 d (.dT kvs)) (u02.trans (Up.unlock hd2 u6)) (t6.frz ((hHL ▸ u6 : Up HL H6).frz hdL))
          unfold isP at this
          rw [e, Bool.true_and] at this
          exact this
end
end Ld

set_option Elab.async false
set_option linter.all false
set_option maxRecDepth 100000
set_option maxHeartbeats 4000000
namespace Ld
open PySem PySem.Spec PyProof.Rows L2 Lg Lr
def badKeys : List (List Str) := [["put", "OTHER"], ["change", "A", "OTHER"], ["change", "A", "A"], ["put", "a"], ["out", "ABCDEFGHIJKLM"], ["change", "A"], ["put", "A", "B"], ["swap", "A"], ["out", ""], ["change", "A", "B", "C"], ["put", "A1"], []]
theorem badKeys_bad : ∀ ks ∈ badKeys, keyB ks = false ∧ ∀ k ∈ ks, k.length ≤ 16 := by decide +kernel
theorem pick_bad {n : Int} : ∀ {v : Int}, 0 ≤ v → v < 4 → 0 ≤ n → ∃ c : Int, ([V.int 0, V.int 1001, V.int (-1 - n), V.int (1001 + n)] : List V)[v.toNat]? = some (V.int c) ∧ prB c = false := by
  intro v h0 h1 hn
  have e : v.toNat = 0 ∨ v.toNat = 1 ∨ v.toNat = 2 ∨ v.toNat = 3 := by omega
  rcases e with e | e | e | e <;> rw [e]
  · exact ⟨0, rfl, by decide⟩
  · exact ⟨1001, rfl, by decide⟩
  · exact ⟨-1 - n, rfl, by unfold prB; rw [decide_eq_false (show ¬ 1 ≤ -1 - n by omega)]; rfl⟩
  · exact ⟨1001 + n, rfl, by unfold prB; rw [decide_eq_false (show ¬ 1001 + n ≤ 1000 by omega), Bool.and_false]⟩
theorem unkey_sk (ks : List Str) : unkey (ks.map sk) = ks := by
  unfold unkey
  rw [List.map_map]
  exact (List.map_congr_left fun _ _ => rfl).trans (List.map_id ks)
theorem exG_of {ks : List Str} {i : Int} (h : ∀ k ∈ ks, k.length ≤ 1000000) : ExG (ks.map sk, .int i) := by
  refine ⟨?_, rfl, fun k hk => ?_⟩
  · show ks.map sk = (unkey (ks.map sk)).map sk
    rw [unkey_sk]
  · dsimp only at hk
    rw [unkey_sk] at hk
    exact million0 (h k hk)
theorem mem_put {kvs : List (List Key × V)} {k : List Key} {v : V} : (k, v) ∈ putK kvs k v := by
  unfold putK
  split
  · rename_i h
    obtain ⟨q, hq, e⟩ := List.any_eq_true.mp h
    refine List.mem_map.mpr ⟨q, hq, ?_⟩
    have e := of_decide_eq_true e
    rw [if_pos e, e]
  · exact List.mem_append_right _ (List.mem_singleton.mpr rfl)
theorem put_bad {kvs : List (List Key × V)} {ks : List Str} {i : Int} (h : exB (ks.map sk, .int i) = false) : (putK kvs (ks.map sk) (.int i)).all exB = false := by
  rw [Bool.eq_false_iff]
  intro z
  have := List.all_eq_true.mp z _ mem_put
  rw [h] at this
  cases this
theorem put_exG {kvs : List (List Key × V)} {ks : List Str} {i : Int} (g : ∀ p ∈ kvs, ExG p) (h : ∀ k ∈ ks, k.length ≤ 1000000) : ∀ p ∈ putK kvs (ks.map sk) (.int i), ExG p := fun p hp => by
  rcases put_mem p hp with m | rfl
  · exact g p m
  · exact exG_of h
section
variable {P : Program} {w : World} {K : PySem.W.Frag} {mg : Str → Option Value} {base : Heap}
theorem scBad : FnScope ["draws", "prices", "cell", "value", "put", "out", "change", "exceptions", "pick", "keys"] ["draws", "prices"] (defScope sBad) := ⟨rfl, rfl, rfl, by decide +kernel, rfl, by decide +kernel, by decide +kernel⟩
/-- prices that are none -/
def BadA (H : Hp) (t : Addr) : Prop := ∃ (d : Addr) (a b c : Int) (kvs : List (List Key × V)), H t = some (.tup [.int a, .int b, .int c, .ref d]) ∧ H d = some (.dT kvs) ∧ (kvs.map (·.1)).Nodup ∧ (∀ p ∈ kvs, ExG p) ∧ isP a b c kvs = false
def spBad (K : PySem.W.Frag) (T1 T2 : Addr) : Sp := fun vs H Q _ => ∃ (a t d : Addr) (ds : List Int) (p1 p2 p3 : Int) (kvs : List (List Key × V)), vs = [.ref a, .ref t] ∧ H a = some (.lst (ds.map V.int)) ∧ H t = some (.tup [.int p1, .int p2, .int p3, .ref d]) ∧ H d = some (.dT kvs) ∧
  (kvs.map (·.1)).Nodup ∧ (∀ p ∈ kvs, ExG p) ∧ kvs.length ≤ 1000 ∧ Tb T1 T2 H ∧ ∀ t2 H2, Tb T1 T2 H2 → BadA H2 t2 → Q (.ref t2) H2
theorem ok_bad {f fA T1 T2 : Addr} {fd fdA : FuncData} (F : Fun K "_law_bad" "_law_bad" sBad f fd)
    (GA : FnOk P w K mg base CX0 1 fA fdA ["draws", "k", "many"] (spAt K)) (kA : PySem.W.keepIn K (.ref fA) = true) (bA : Binds K fdA ["draws", "k", "many"] []) (gA : mg "_law_at" = some (.ref fA))
    (mi : mg "int" = none) : FnOk P w K mg base CX0 2 f fd ["draws", "prices"] (spBad K T1 T2) := by
  refine F.ok scBad (fun vs H Q E h => ?_) (fun cdv A outer s H vs Q E hr h => ?_)
  · obtain ⟨a, t, d, ds, p1, p2, p3, kvs, rfl, _⟩ := h
    rfl
  · obtain ⟨a, t, d, ds, p1, p2, p3, kvs, rfl, ha, ht, hd, nd, good, few, tb, q⟩ := h
    have hu := units1 hr
    refine ⟨_, pss_cons (ps_set (i := 2) scBad.nd rfl (.inl rfl) (pe_call GA hr (by rfl) gA kA bA .nil pass0 (pa_cons (pv 0) (pa_cons pe_int (pa_cons pe_int pa_nil)))))
      (pss_cons (ps_set (i := 3) scBad.nd rfl (.inl rfl) (pe_ix ix_list (pe_lst (pa_cons pe_int (pa_cons pe_int (pa_cons (pe_op op_sub (pe_un un_neg pe_int) (pe_callTy call_int1 (by rfl) mi (by decide +kernel) (pa_cons (pv 2) pa_nil))) (pa_cons (pe_op op_add pe_int (pe_callTy call_int1 (by rfl) mi (by decide +kernel) (pa_cons (pv 2) pa_nil))) pa_nil)))))
        (pe_op op_mod (pe_callTy call_int1 (by rfl) mi (by decide +kernel) (pa_cons (pv 2) pa_nil)) pe_int) (fun _ _ => rfl)))
      (pss_cons (ps_asg (pv 1) (pg_tup rfl (pgs_cons (pg_name (i := 4) scBad.nd rfl (.inl rfl)) (pgs_cons (pg_name (i := 5) scBad.nd rfl (.inl rfl)) (pgs_cons (pg_name (i := 6) scBad.nd rfl (.inl rfl)) (pgs_cons (pg_name (i := 7) scBad.nd rfl (.inl rfl)) pgs_nil))))))
      (pss_cons (ps_set (i := 8) scBad.nd rfl (.inl rfl) (pe_call GA hr (by rfl) gA kA bA .nil pass0 (pa_cons (pv 0) (pa_cons pe_int (pa_cons pe_int pa_nil)))))
      (pss_cons (ps_if (pt_cmpR op_lt (pv 8) pe_int (nomark _)) (pss_one (ps_ret (pe_ix ix_list (pe_lst (pa_cons (pe_tup (pa_cons (pv 3) (pa_cons (pv 5) (pa_cons (pv 6) (pa_cons (pv 7) pa_nil))))) (pa_cons (pe_tup (pa_cons (pv 4) (pa_cons (pv 3) (pa_cons (pv 6) (pa_cons (pv 7) pa_nil))))) (pa_cons (pe_tup (pa_cons (pv 4) (pa_cons (pv 5) (pa_cons (pv 3) (pa_cons (pv 7) pa_nil))))) pa_nil)))) (pv 8) (fun _ _ => rfl)))) pss_nil)
      (pss_cons (ps_if (pt_cmpR op_eq (pv 8) pe_int (nomark _)) (pss_cons (ps_dput hu (pv 7) (pe_tup (pa_cons pe_str (pa_cons pe_str pa_nil))) (pv 3) (by rfl)) (pss_one (ps_ret (pe_tup (pa_cons (pv 4) (pa_cons (pv 5) (pa_cons (pv 6) (pa_cons (pv 7) pa_nil)))))))) pss_nil)
      (pss_cons (ps_set (i := 9) scBad.nd rfl (.inl rfl) (pe_lst (pa_cons (pe_tup (pa_cons pe_str (pa_cons pe_str pa_nil))) (pa_cons (pe_tup (pa_cons pe_str (pa_cons pe_str (pa_cons pe_str pa_nil)))) (pa_cons (pe_tup (pa_cons pe_str (pa_cons pe_str (pa_cons pe_str pa_nil)))) (pa_cons (pe_tup (pa_cons pe_str (pa_cons pe_str pa_nil))) (pa_cons (pe_tup (pa_cons pe_str (pa_cons pe_str pa_nil))) pa_nil)))))))
      (pss_cons (ps_set (i := 9) scBad.nd rfl (.inl rfl) (pe_op op_cat (pv 9) (pe_lst (pa_cons (pe_tup (pa_cons pe_str (pa_cons pe_str pa_nil))) (pa_cons (pe_tup (pa_cons pe_str (pa_cons pe_str (pa_cons pe_str pa_nil)))) (pa_cons (pe_tup (pa_cons pe_str (pa_cons pe_str pa_nil))) (pa_cons (pe_tup (pa_cons pe_str (pa_cons pe_str pa_nil))) (pa_cons (pe_tup (pa_cons pe_str (pa_cons pe_str (pa_cons pe_str (pa_cons pe_str pa_nil))))) (pa_cons (pe_tup (pa_cons pe_str (pa_cons pe_str pa_nil))) (pa_cons (pe_tup pa_nil) pa_nil))))))))))
      (pss_cons (ps_dput hu (pv 7) (pe_ix ix_list (pv 9) (pe_op op_mod (pe_callTy call_int1 (by rfl) mi (by decide +kernel) (pa_cons (pv 2) pa_nil)) pe_int) (fun _ _ => rfl)) pe_int (by rfl))
      (pss_one (ps_ret (pe_tup (pa_cons (pv 4) (pa_cons (pv 5) (pa_cons (pv 6) (pa_cons (pv 7) pa_nil))))))))))))))), ?_⟩
    have big : (0 : Int) < 60000 := by decide
    refine ⟨_, rfl, a, ds, _, _, rfl, SqL.of ha, by decide, big, ?_⟩
    have c0 := atD_lo ds 20 big
    generalize atD ds 20 60000 = cell at c0
    refine ⟨_, rfl, _, rfl, .inl ⟨_, rfl, _, _, rfl, rfl, _, rfl, .inl ⟨_, rfl, _, _, rfl, rfl, (by show 4 ≤ sizeLine; decide), fun p np => ?_⟩⟩⟩
    have sp : Same H (upd H p (.lst [.int 0, .int 1001, .int (-1 - cell), .int (1001 + cell)])) := same_upd np
    have hp : upd H p (.lst [.int 0, .int 1001, .int (-1 - cell), .int (1001 + cell)]) p = some (.lst [.int 0, .int 1001, .int (-1 - cell), .int (1001 + cell)]) := upd_same
    have tp := tb.new (o := .lst [.int 0, .int 1001, .int (-1 - cell), .int (1001 + cell)]) np
    show _
    generalize hH1 : upd H p (.lst [.int 0, .int 1001, .int (-1 - cell), .int (1001 + cell)]) = H1 at sp hp tp
    have hH1' : upd H p (.lst [V.int 0, V.int 1001, V.int (-1 - cell), V.int (1001 + cell)]) = H1 := hH1
    obtain ⟨val, gval, bval⟩ := pick_bad (v := cell % 4) (Int.emod_nonneg _ (by decide)) (Int.emod_lt_of_pos _ (by decide)) c0
    refine ⟨_, rfl, .inl ⟨_, rfl, _, _, rfl, rfl, (by show (0 : Int) < 4; decide), p, _, _, _, rfl, rfl, SqL.of (by rw [← hH1] at hp ⊢; exact hp), at_of (j := (cell % 4).toNat) (by have := Int.emod_nonneg cell (show (4 : Int) ≠ 0 by decide); omega) gval, ?_⟩⟩
    have e1 : (upd H p (.lst [V.int 0, V.int 1001, (fun i j => V.int (i - j)) ((fun i => -i) 1) cell, V.int (1001 + cell)])) = H1 := hH1
    simp only [hH1']
    have ha1 := sp _ _ ha
    have ht1 := sp _ _ ht
    have hd1 := sp _ _ hd
    refine ⟨_, rfl, t, _, rfl, SqT.of ht1, rfl, _, _, rfl, _, _, rfl, _, _, rfl, _, _, rfl, rfl, ?_⟩
    have five : (0 : Int) < 5 := by decide
    refine ⟨_, rfl, a, ds, _, _, rfl, SqL.of ha1, by decide, five, ?_⟩
    have k0 := atD_lo ds 21 five
    have k1 := atD_hi ds 21 five
    generalize atD ds 21 5 = pick at k0 k1
    have bad1 : ∀ {x y z : Int}, (x = val ∨ y = val ∨ z = val) → isP x y z kvs = false := fun {x y z} h => by
      unfold isP
      rcases h with rfl | rfl | rfl <;> simp [bval]
    refine ⟨_, rfl, _, _, rfl, rfl, _, rfl, ite2 (fun c => ?_) (fun c => ?_)⟩
    · -- a price that is none
      have c3 : pick < 3 := of_decide_eq_true c
      refine ⟨_, rfl, _, rfl, _, rfl, _, rfl, (by show 4 ≤ sizeLine; decide), fun t1 n1 => ?_⟩
      refine ⟨_, rfl, _, rfl, _, rfl, _, rfl, (by show 4 ≤ sizeLine; decide), fun t2 n2 => ?_⟩
      refine ⟨_, rfl, _, rfl, _, rfl, _, rfl, (by show 4 ≤ sizeLine; decide), fun t3 n3 => ?_⟩
      refine ⟨(by show 3 ≤ sizeLine; decide), fun l nl => ?_⟩
      have s1 : Same H1 (upd H1 t1 (.tup [.int val, .int p2, .int p3, .ref d])) := same_upd n1
      have h1 : upd H1 t1 (.tup [.int val, .int p2, .int p3, .ref d]) t1 = some (.tup [.int val, .int p2, .int p3, .ref d]) := upd_same
      have q1 := tp.new (o := .tup [.int val, .int p2, .int p3, .ref d]) n1
      show _
      generalize upd H1 t1 (.tup [.int val, .int p2, .int p3, .ref d]) = A1 at s1 h1 q1 n2 n3 nl ⊢
      have s2 : Same A1 (upd A1 t2 (.tup [.int p1, .int val, .int p3, .ref d])) := same_upd n2
      have h2 : upd A1 t2 (.tup [.int p1, .int val, .int p3, .ref d]) t2 = some (.tup [.int p1, .int val, .int p3, .ref d]) := upd_same
      have q2 := q1.new (o := .tup [.int p1, .int val, .int p3, .ref d]) n2
      generalize upd A1 t2 (.tup [.int p1, .int val, .int p3, .ref d]) = A2 at s2 h2 q2 n3 nl ⊢
      have s3 : Same A2 (upd A2 t3 (.tup [.int p1, .int p2, .int val, .ref d])) := same_upd n3
      have h3 : upd A2 t3 (.tup [.int p1, .int p2, .int val, .ref d]) t3 = some (.tup [.int p1, .int p2, .int val, .ref d]) := upd_same
      have q3 := q2.new (o := .tup [.int p1, .int p2, .int val, .ref d]) n3
      generalize upd A2 t3 (.tup [.int p1, .int p2, .int val, .ref d]) = A3 at s3 h3 q3 nl ⊢
      have s4 : Same A3 (upd A3 l (.lst [.ref t1, .ref t2, .ref t3])) := same_upd nl
      have h4 : upd A3 l (.lst [.ref t1, .ref t2, .ref t3]) l = some (.lst [.ref t1, .ref t2, .ref t3]) := upd_same
      have q4 := q3.new (o := .lst [.ref t1, .ref t2, .ref t3]) nl
      generalize upd A3 l (.lst [.ref t1, .ref t2, .ref t3]) = A4 at s4 h4 q4 ⊢
      have hd4 := (((s1.trans s2).trans s3).trans s4) _ _ hd1
      have g1 := ((s2.trans s3).trans s4) _ _ h1
      have g2 := (s3.trans s4) _ _ h2
      have g3 := s4 _ _ h3
      have e : pick.toNat = 0 ∨ pick.toNat = 1 ∨ pick.toNat = 2 := by omega
      rcases e with e | e | e
      · refine ⟨_, rfl, l, _, _, _, rfl, rfl, SqL.of h4, at_of (j := 0) (by omega) rfl, q t1 A4 q4 ⟨d, _, _, _, kvs, g1, hd4, nd, good, bad1 (.inl rfl)⟩⟩
      · refine ⟨_, rfl, l, _, _, _, rfl, rfl, SqL.of h4, at_of (j := 1) (by omega) rfl, q t2 A4 q4 ⟨d, _, _, _, kvs, g2, hd4, nd, good, bad1 (.inr (.inl rfl))⟩⟩
      · refine ⟨_, rfl, l, _, _, _, rfl, rfl, SqL.of h4, at_of (j := 2) (by omega) rfl, q t3 A4 q4 ⟨d, _, _, _, kvs, g3, hd4, nd, good, bad1 (.inr (.inr rfl))⟩⟩
    have small : kvs.length < sizeLine := million1 (by omega)
    refine ⟨_, rfl, rfl, _, rfl, ite2 (fun c => ?_) (fun c => ?_)⟩
    · -- an exception that is none
      refine ⟨_, rfl, _, rfl, (by show 2 ≤ sizeLine; decide), fun t1 n1 => ?_⟩
      have s1 : Same H1 (upd H1 t1 (.tup [.str "out", .str "A"])) := same_upd n1
      have h1 : upd H1 t1 (.tup [.str "out", .str "A"]) t1 = some (.tup [.str "out", .str "A"]) := upd_same
      have q1 := tp.new (o := .tup [.str "out", .str "A"]) n1
      have hd2 := s1 _ _ hd1
      refine ⟨d, _, rfl, DPut.t (k := (["out", "A"] : List Str).map sk) hd2 h1 small, ?_⟩
      show _
      generalize upd H1 t1 (.tup [.str "out", .str "A"]) = A1 at s1 h1 q1 hd2 ⊢
      have q2 := q1.dT (o := .dT (putK kvs ((["out", "A"] : List Str).map sk) (.int val))) hd2
      have hd3 : upd A1 d (.dT (putK kvs ((["out", "A"] : List Str).map sk) (.int val))) d = some (.dT (putK kvs ((["out", "A"] : List Str).map sk) (.int val))) := upd_same
      generalize upd A1 d (.dT (putK kvs ((["out", "A"] : List Str).map sk) (.int val))) = A2 at q2 hd3 ⊢
      refine ⟨_, rfl, _, rfl, _, rfl, _, rfl, (by show 4 ≤ sizeLine; decide), fun t2 n2 => ?_⟩
      refine q t2 _ (q2.new n2) ⟨d, p1, p2, p3, _, upd_same, (same_upd n2) _ _ hd3, put_nodup nd, put_exG good (by decide +kernel), ?_⟩
      unfold isP
      rw [put_bad, Bool.and_false]
      show (keyB ["out", "A"] && prB val) = false
      rw [bval, Bool.and_false]
    refine ⟨(by show 2 ≤ sizeLine; decide), fun b0 m0 => ?_⟩
    have s0 : Same H1 (upd H1 b0 (.tup [.str "put", .str "OTHER"])) := same_upd m0
    have h0 : upd H1 b0 (.tup [.str "put", .str "OTHER"]) b0 = some (.tup [.str "put", .str "OTHER"]) := upd_same
    have r0 := tp.new (o := .tup [.str "put", .str "OTHER"]) m0
    show _
    generalize upd H1 b0 (.tup [.str "put", .str "OTHER"]) = B0 at s0 h0 r0 ⊢
    refine ⟨(by show 3 ≤ sizeLine; decide), fun b1 m1 => ?_⟩
    have s1 : Same B0 (upd B0 b1 (.tup [.str "change", .str "A", .str "OTHER"])) := same_upd m1
    have h1 : upd B0 b1 (.tup [.str "change", .str "A", .str "OTHER"]) b1 = some (.tup [.str "change", .str "A", .str "OTHER"]) := upd_same
    have r1 := r0.new (o := .tup [.str "change", .str "A", .str "OTHER"]) m1
    show _
    generalize upd B0 b1 (.tup [.str "change", .str "A", .str "OTHER"]) = B1 at s1 h1 r1 ⊢
    refine ⟨(by show 3 ≤ sizeLine; decide), fun b2 m2 => ?_⟩
    have s2 : Same B1 (upd B1 b2 (.tup [.str "change", .str "A", .str "A"])) := same_upd m2
    have h2 : upd B1 b2 (.tup [.str "change", .str "A", .str "A"]) b2 = some (.tup [.str "change", .str "A", .str "A"]) := upd_same
    have r2 := r1.new (o := .tup [.str "change", .str "A", .str "A"]) m2
    show _
    generalize upd B1 b2 (.tup [.str "change", .str "A", .str "A"]) = B2 at s2 h2 r2 ⊢
    refine ⟨(by show 2 ≤ sizeLine; decide), fun b3 m3 => ?_⟩
    have s3 : Same B2 (upd B2 b3 (.tup [.str "put", .str "a"])) := same_upd m3
    have h3 : upd B2 b3 (.tup [.str "put", .str "a"]) b3 = some (.tup [.str "put", .str "a"]) := upd_same
    have r3 := r2.new (o := .tup [.str "put", .str "a"]) m3
    show _
    generalize upd B2 b3 (.tup [.str "put", .str "a"]) = B3 at s3 h3 r3 ⊢
    refine ⟨(by show 2 ≤ sizeLine; decide), fun b4 m4 => ?_⟩
    have s4 : Same B3 (upd B3 b4 (.tup [.str "out", .str "ABCDEFGHIJKLM"])) := same_upd m4
    have h4 : upd B3 b4 (.tup [.str "out", .str "ABCDEFGHIJKLM"]) b4 = some (.tup [.str "out", .str "ABCDEFGHIJKLM"]) := upd_same
    have r4 := r3.new (o := .tup [.str "out", .str "ABCDEFGHIJKLM"]) m4
    show _
    generalize upd B3 b4 (.tup [.str "out", .str "ABCDEFGHIJKLM"]) = B4 at s4 h4 r4 ⊢
    refine ⟨(by show 5 ≤ sizeLine; decide), fun l1 nl1 => ?_⟩
    have sl1 : Same B4 (upd B4 l1 (.lst [.ref b0, .ref b1, .ref b2, .ref b3, .ref b4])) := same_upd nl1
    have hl1 : upd B4 l1 (.lst [.ref b0, .ref b1, .ref b2, .ref b3, .ref b4]) l1 = some (.lst [.ref b0, .ref b1, .ref b2, .ref b3, .ref b4]) := upd_same
    have rl1 := r4.new (o := .lst [.ref b0, .ref b1, .ref b2, .ref b3, .ref b4]) nl1
    show _
    generalize upd B4 l1 (.lst [.ref b0, .ref b1, .ref b2, .ref b3, .ref b4]) = L1 at sl1 hl1 rl1 ⊢
    refine ⟨_, rfl, ?_⟩
    refine ⟨(by show 2 ≤ sizeLine; decide), fun b5 m5 => ?_⟩
    have s5 : Same L1 (upd L1 b5 (.tup [.str "change", .str "A"])) := same_upd m5
    have h5 : upd L1 b5 (.tup [.str "change", .str "A"]) b5 = some (.tup [.str "change", .str "A"]) := upd_same
    have r5 := rl1.new (o := .tup [.str "change", .str "A"]) m5
    show _
    generalize upd L1 b5 (.tup [.str "change", .str "A"]) = B5 at s5 h5 r5 ⊢
    refine ⟨(by show 3 ≤ sizeLine; decide), fun b6 m6 => ?_⟩
    have s6 : Same B5 (upd B5 b6 (.tup [.str "put", .str "A", .str "B"])) := same_upd m6
    have h6 : upd B5 b6 (.tup [.str "put", .str "A", .str "B"]) b6 = some (.tup [.str "put", .str "A", .str "B"]) := upd_same
    have r6 := r5.new (o := .tup [.str "put", .str "A", .str "B"]) m6
    show _
    generalize upd B5 b6 (.tup [.str "put", .str "A", .str "B"]) = B6 at s6 h6 r6 ⊢
    refine ⟨(by show 2 ≤ sizeLine; decide), fun b7 m7 => ?_⟩
    have s7 : Same B6 (upd B6 b7 (.tup [.str "swap", .str "A"])) := same_upd m7
    have h7 : upd B6 b7 (.tup [.str "swap", .str "A"]) b7 = some (.tup [.str "swap", .str "A"]) := upd_same
    have r7 := r6.new (o := .tup [.str "swap", .str "A"]) m7
    show _
    generalize upd B6 b7 (.tup [.str "swap", .str "A"]) = B7 at s7 h7 r7 ⊢
    refine ⟨(by show 2 ≤ sizeLine; decide), fun b8 m8 => ?_⟩
    have s8 : Same B7 (upd B7 b8 (.tup [.str "out", .str ""])) := same_upd m8
    have h8 : upd B7 b8 (.tup [.str "out", .str ""]) b8 = some (.tup [.str "out", .str ""]) := upd_same
    have r8 := r7.new (o := .tup [.str "out", .str ""]) m8
    show _
    generalize upd B7 b8 (.tup [.str "out", .str ""]) = B8 at s8 h8 r8 ⊢
    refine ⟨(by show 4 ≤ sizeLine; decide), fun b9 m9 => ?_⟩
    have s9 : Same B8 (upd B8 b9 (.tup [.str "change", .str "A", .str "B", .str "C"])) := same_upd m9
    have h9 : upd B8 b9 (.tup [.str "change", .str "A", .str "B", .str "C"]) b9 = some (.tup [.str "change", .str "A", .str "B", .str "C"]) := upd_same
    have r9 := r8.new (o := .tup [.str "change", .str "A", .str "B", .str "C"]) m9
    show _
    generalize upd B8 b9 (.tup [.str "change", .str "A", .str "B", .str "C"]) = B9 at s9 h9 r9 ⊢
    refine ⟨(by show 2 ≤ sizeLine; decide), fun b10 m10 => ?_⟩
    have s10 : Same B9 (upd B9 b10 (.tup [.str "put", .str "A1"])) := same_upd m10
    have h10 : upd B9 b10 (.tup [.str "put", .str "A1"]) b10 = some (.tup [.str "put", .str "A1"]) := upd_same
    have r10 := r9.new (o := .tup [.str "put", .str "A1"]) m10
    show _
    generalize upd B9 b10 (.tup [.str "put", .str "A1"]) = B10 at s10 h10 r10 ⊢
    refine ⟨(by show 0 ≤ sizeLine; decide), fun b11 m11 => ?_⟩
    have s11 : Same B10 (upd B10 b11 (.tup [])) := same_upd m11
    have h11 : upd B10 b11 (.tup []) b11 = some (.tup []) := upd_same
    have r11 := r10.new (o := .tup []) m11
    show _
    generalize upd B10 b11 (.tup []) = B11 at s11 h11 r11 ⊢
    refine ⟨(by show 7 ≤ sizeLine; decide), fun l2 nl2 => ?_⟩
    have sl2 : Same B11 (upd B11 l2 (.lst [.ref b5, .ref b6, .ref b7, .ref b8, .ref b9, .ref b10, .ref b11])) := same_upd nl2
    have hl2 : upd B11 l2 (.lst [.ref b5, .ref b6, .ref b7, .ref b8, .ref b9, .ref b10, .ref b11]) l2 = some (.lst [.ref b5, .ref b6, .ref b7, .ref b8, .ref b9, .ref b10, .ref b11]) := upd_same
    have rl2 := r11.new (o := .lst [.ref b5, .ref b6, .ref b7, .ref b8, .ref b9, .ref b10, .ref b11]) nl2
    show _
    generalize upd B11 l2 (.lst [.ref b5, .ref b6, .ref b7, .ref b8, .ref b9, .ref b10, .ref b11]) = L2_ at sl2 hl2 rl2 ⊢
    have z11 := sl2
    have z10 := s11.trans z11
    have z9 := s10.trans z10
    have z8 := s9.trans z9
    have z7 := s8.trans z8
    have z6 := s7.trans z7
    have z5 := s6.trans z6
    have zl := s5.trans z5
    have z4 := sl1.trans zl
    have z3 := s4.trans z4
    have z2 := s3.trans z3
    have z1 := s2.trans z2
    have z0 := s1.trans z1
    have zz := s0.trans z0
    have g0 := z0 _ _ h0
    have g1 := z1 _ _ h1
    have g2 := z2 _ _ h2
    have g3 := z3 _ _ h3
    have g4 := z4 _ _ h4
    have g5 := z5 _ _ h5
    have g6 := z6 _ _ h6
    have g7 := z7 _ _ h7
    have g8 := z8 _ _ h8
    have g9 := z9 _ _ h9
    have g10 := z10 _ _ h10
    have g11 := z11 _ _ h11
    have hd2 := zz _ _ hd1
    refine ⟨l1, l2, _, _, rfl, rfl, zl _ _ hl1, hl2, (by show 5 + 7 ≤ sizeLine; decide), fun l3 nl3 => ?_⟩
    have s3 : Same L2_ (upd L2_ l3 (.lst [V.ref b0, V.ref b1, V.ref b2, V.ref b3, V.ref b4, V.ref b5, V.ref b6, V.ref b7, V.ref b8, V.ref b9, V.ref b10, V.ref b11])) := same_upd nl3
    have h3_ : upd L2_ l3 (.lst [V.ref b0, V.ref b1, V.ref b2, V.ref b3, V.ref b4, V.ref b5, V.ref b6, V.ref b7, V.ref b8, V.ref b9, V.ref b10, V.ref b11]) l3 = some (.lst [V.ref b0, V.ref b1, V.ref b2, V.ref b3, V.ref b4, V.ref b5, V.ref b6, V.ref b7, V.ref b8, V.ref b9, V.ref b10, V.ref b11]) := upd_same
    have r3_ := rl2.new (o := .lst [V.ref b0, V.ref b1, V.ref b2, V.ref b3, V.ref b4, V.ref b5, V.ref b6, V.ref b7, V.ref b8, V.ref b9, V.ref b10, V.ref b11]) nl3
    show _
    generalize hL3 : upd L2_ l3 (.lst [V.ref b0, V.ref b1, V.ref b2, V.ref b3, V.ref b4, V.ref b5, V.ref b6, V.ref b7, V.ref b8, V.ref b9, V.ref b10, V.ref b11]) = L3 at s3 h3_ r3_
    have v0 := Int.emod_nonneg cell (show (12 : Int) ≠ 0 by decide)
    have v1 := Int.emod_lt_of_pos cell (show (0 : Int) < 12 by decide)
    have pickK : ∃ (b : Addr) (ks : List Str), ([V.ref b0, V.ref b1, V.ref b2, V.ref b3, V.ref b4, V.ref b5, V.ref b6, V.ref b7, V.ref b8, V.ref b9, V.ref b10, V.ref b11] : List V)[(cell % 12).toNat]? = some (.ref b) ∧ L2_ b = some (.tup (ks.map V.str)) ∧ ks ∈ badKeys := by
      have e : (cell % 12).toNat = 0 ∨ (cell % 12).toNat = 1 ∨ (cell % 12).toNat = 2 ∨ (cell % 12).toNat = 3 ∨ (cell % 12).toNat = 4 ∨ (cell % 12).toNat = 5 ∨ (cell % 12).toNat = 6 ∨ (cell % 12).toNat = 7 ∨ (cell % 12).toNat = 8 ∨ (cell % 12).toNat = 9 ∨ (cell % 12).toNat = 10 ∨ (cell % 12).toNat = 11 := by omega
      rcases e with e | e | e | e | e | e | e | e | e | e | e | e
      · rw [e]
        exact ⟨b0, ["put", "OTHER"], rfl, g0, by decide +kernel⟩
      · rw [e]
        exact ⟨b1, ["change", "A", "OTHER"], rfl, g1, by decide +kernel⟩
      · rw [e]
        exact ⟨b2, ["change", "A", "A"], rfl, g2, by decide +kernel⟩
      · rw [e]
        exact ⟨b3, ["put", "a"], rfl, g3, by decide +kernel⟩
      · rw [e]
        exact ⟨b4, ["out", "ABCDEFGHIJKLM"], rfl, g4, by decide +kernel⟩
      · rw [e]
        exact ⟨b5, ["change", "A"], rfl, g5, by decide +kernel⟩
      · rw [e]
        exact ⟨b6, ["put", "A", "B"], rfl, g6, by decide +kernel⟩
      · rw [e]
        exact ⟨b7, ["swap", "A"], rfl, g7, by decide +kernel⟩
      · rw [e]
        exact ⟨b8, ["out", ""], rfl, g8, by decide +kernel⟩
      · rw [e]
        exact ⟨b9, ["change", "A", "B", "C"], rfl, g9, by decide +kernel⟩
      · rw [e]
        exact ⟨b10, ["put", "A1"], rfl, g10, by decide +kernel⟩
      · rw [e]
        exact ⟨b11, [], rfl, g11, by decide +kernel⟩
    obtain ⟨b, ks, gb, hb, mb⟩ := pickK
    obtain ⟨kb, kl⟩ := badKeys_bad ks mb
    have hb3 := s3 _ _ hb
    have hd3 := s3 _ _ hd2
    rw [← key_map] at hb3
    subst hL3
    refine ⟨_, rfl, _, rfl, _, rfl, .inl ⟨_, rfl, _, _, rfl, rfl, (by show (0 : Int) < 12; decide), l3, _, _, _, rfl, rfl, SqL.of h3_, at_of (j := (cell % 12).toNat) (by omega) gb, d, _, rfl, DPut.t (k := ks.map sk) hd3 hb3 small, ?_⟩⟩
    have q2 := r3_.dT (o := .dT (putK kvs (ks.map sk) (.int 5))) hd3
    refine ⟨_, rfl, _, rfl, _, rfl, _, rfl, (by show 4 ≤ sizeLine; decide), fun t2 n2 => ?_⟩
    refine q t2 _ (q2.new n2) ⟨d, p1, p2, p3, _, upd_same, (same_upd n2) _ _ upd_same, put_nodup nd, put_exG good (fun k hk => Nat.le_trans (kl k hk) (by decide)), ?_⟩
    unfold isP
    rw [put_bad, Bool.and_false]
    show (keyB (unkey (ks.map sk)) && prB 5) = false
    rw [unkey_sk, kb, Bool.false_and]
end
end Ld

set_option Elab.async false
set_option linter.all false
set_option maxRecDepth 100000
set_option maxHeartbeats 4000000
namespace Ld
open PySem PySem.Spec PyProof.Rows L2 Lg Lr
theorem key_put : ∀ a ∈ P3, keyB ["put", a] = true ∧ ∀ x ∈ (["put", a] : List Str), x.length ≤ 16 := by decide +kernel
theorem key_out : ∀ a ∈ P4, keyB ["out", a] = true ∧ ∀ x ∈ (["out", a] : List Str), x.length ≤ 16 := by decide +kernel
theorem key_chg : ∀ a ∈ P4, ∀ b ∈ P3, a ≠ b → keyB ["change", a, b] = true ∧ ∀ x ∈ (["change", a, b] : List Str), x.length ≤ 16 := by decide +kernel
theorem exOk_ks {k : List Key} (h : exOk k) : ∃ ks : List Str, k = ks.map sk ∧ keyB ks = true ∧ ∀ x ∈ ks, x.length ≤ 16 := by
  rcases h with ⟨a, ha, rfl⟩ | ⟨a, ha, rfl⟩ | ⟨a, ha, b, hb, ne, rfl⟩
  · exact ⟨["put", a], rfl, key_put a ha⟩
  · exact ⟨["out", a], rfl, key_out a ha⟩
  · exact ⟨["change", a, b], rfl, key_chg a ha b hb ne⟩
theorem prc_exG {Z : Prc} (ok : PrcOk Z) : ∀ p ∈ Z.ex, ExG p := fun p hp => by
  obtain ⟨h1, i, _, _, e⟩ := ok.ex p hp
  obtain ⟨ks, e2, _, l⟩ := exOk_ks h1
  obtain ⟨k, v⟩ := p
  dsimp only at e e2
  subst e e2
  exact exG_of fun x hx => Nat.le_trans (l x hx) (by decide)
theorem prB_in {i : Int} (h : 1 ≤ i ∧ i ≤ 1000) : prB i = true := by
  unfold prB
  rw [decide_eq_true h.1, decide_eq_true h.2]
  rfl
theorem prc_isP {Z : Prc} (ok : PrcOk Z) : isP Z.put Z.out Z.chg Z.ex = true := by
  unfold isP
  rw [prB_in ok.put, prB_in ok.out, prB_in ok.chg]
  show Z.ex.all exB = true
  rw [List.all_eq_true]
  intro p hp
  obtain ⟨h1, i, i0, i1, e⟩ := ok.ex p hp
  obtain ⟨ks, e2, kb, _⟩ := exOk_ks h1
  obtain ⟨k, v⟩ := p
  dsimp only at e e2
  subst e e2
  show (keyB (unkey (ks.map sk)) && prB i) = true
  rw [unkey_sk, kb, prB_in ⟨i0, i1⟩]
  rfl
theorem prD_dict (Z : Prc) : (prD Z).hasDict = true := by
  simp [prD, PyData.hasDict, PyData.hasDictAll]
theorem prD_depth (Z : Prc) : (prD Z).depth ≤ 60 := by
  have h3 := ex_depth Z.ex
  simp only [prD, PyData.depth, PyData.depthAll]
  omega
theorem prD_shown {Z : Prc} (ok : PrcOk Z) : (prD Z).shown.length ≤ sizeLine := by
  have h3 := shown_wt (prD Z)
  have h4 := prD_wt ok
  rw [sizeLine_eq]
  omega
theorem tb_same {T1 T2 : Addr} {B C : Hp} (t : Tb T1 T2 B) (u : Same B C) : Tb T1 T2 C := ⟨by obtain ⟨p, e, k⟩ := t.1; exact ⟨p, u _ _ e, k⟩, by obtain ⟨p, e, k⟩ := t.2; exact ⟨p, u _ _ e, k⟩⟩
def kinds4 : List Str := ["A", "BB", "C", "D"]
def kinds5 : List Str := ["A", "BB", "C", "D", "OTHER"]
section
variable {P : Program} {w : World} {K : PySem.W.Frag} {mg : Str → Option Value} {base : Heap}
theorem scL : FnScope ["script", "draws", "prices", "kept", "one", "told", "two", "bad"] ["script"] (defScope sLaw) := ⟨rfl, rfl, rfl, by decide +kernel, rfl, by decide +kernel, by decide +kernel⟩
def spLaw (K : PySem.W.Frag) (T1 T2 : Addr) : Sp := fun vs H Q _ => ∃ (a : Addr) (ns : List Int), vs = [.ref a] ∧ SqL K H a (ns.map V.int) ∧ ns.length ≤ 63 ∧ Tb T1 T2 H ∧ ∀ H', Q (.bl true) H'
theorem ok_law {f fD fP fI fS f1 f2 f3 f4 f5 f6 fB T1 T2 : Addr} {fd fdD fdP fdI fdS fd1 fd2 fd3 fd4 fd5 fd6 fdB : FuncData} (F : Fun K "law" "law" sLaw f fd)
    (GD : FnOk P w K mg base CX0 1 fD fdD ["script"] (spDraws K)) (kD : PySem.W.keepIn K (.ref fD) = true) (bD : Binds K fdD ["script"] []) (gD : mg "_law_draws" = some (.ref fD))
    (GP : FnOk P w K mg base CX0 2 fP fdP ["draws", "first"] (spPrices K)) (kP : PySem.W.keepIn K (.ref fP) = true) (bP : Binds K fdP ["draws", "first"] []) (gP : mg "_law_prices" = some (.ref fP))
    (GI : FnOk P w K mg base CX0 1 fI fdI ["actual"] spLInt) (kI : PySem.W.keepIn K (.ref fI) = true) (bI : Binds K fdI ["actual"] []) (gI : mg "_law_is_integer" = some (.ref fI))
    (GS : FnOk P w K mg base CX0 6 fS fdS ["prices"] (spIsP T1 T2)) (kS : PySem.W.keepIn K (.ref fS) = true) (bS : Binds K fdS ["prices"] []) (gS : mg "is_prices" = some (.ref fS))
    (G1 : FnOk P w K mg base CX0 1 f1 fd1 ["prices", "kind"] (spPrice putP)) (k1 : PySem.W.keepIn K (.ref f1) = true) (b1 : Binds K fd1 ["prices", "kind"] []) (g1 : mg "put_price" = some (.ref f1))
    (G2 : FnOk P w K mg base CX0 1 f2 fd2 ["prices", "kind"] (spPrice outP)) (k2 : PySem.W.keepIn K (.ref f2) = true) (b2 : Binds K fd2 ["prices", "kind"] []) (g2 : mg "out_price" = some (.ref f2))
    (G3 : FnOk P w K mg base CX0 1 f3 fd3 ["prices", "kind", "other_kind"] spChange) (k3 : PySem.W.keepIn K (.ref f3) = true) (b3 : Binds K fd3 ["prices", "kind", "other_kind"] []) (g3 : mg "change_price" = some (.ref f3))
    (G4 : FnOk P w K mg base CX0 1 f4 fd4 ["prices", "kind"] (spPrice putP)) (k4 : PySem.W.keepIn K (.ref f4) = true) (b4 : Binds K fd4 ["prices", "kind"] []) (g4 : mg "_law_put" = some (.ref f4))
    (G5 : FnOk P w K mg base CX0 1 f5 fd5 ["prices", "kind"] (spPrice outP)) (k5 : PySem.W.keepIn K (.ref f5) = true) (b5 : Binds K fd5 ["prices", "kind"] []) (g5 : mg "_law_out" = some (.ref f5))
    (G6 : FnOk P w K mg base CX0 1 f6 fd6 ["prices", "kind", "other"] spChange) (k6 : PySem.W.keepIn K (.ref f6) = true) (b6 : Binds K fd6 ["prices", "kind", "other"] []) (g6 : mg "_law_change" = some (.ref f6))
    (GB : FnOk P w K mg base CX0 2 fB fdB ["draws", "prices"] (spBad K T1 T2)) (kB : PySem.W.keepIn K (.ref fB) = true) (bB : Binds K fdB ["draws", "prices"] []) (gB : mg "_law_bad" = some (.ref fB))
    (mre : mg "repr" = none) : Top P w K mg base CX0 f fd ["script"] (spLaw K T1 T2) := by
  refine top_ok F scL (k := 6) ⟨rfl, by decide, by decide⟩ (fun vs H Q E h => ?_) (fun cdv s H vs Q E hr h => ?_)
  · obtain ⟨a, ns, rfl, _⟩ := h
    rfl
  · obtain ⟨a, ns, rfl, hS, hlen, tb, q⟩ := h
    have hr1 : Room 1 (callerA.deeper (envOfC "law" (defScope sLaw) s.heap.objs.size f cdv)) := hr.mono (by decide)
    have hr2 : Room 2 (callerA.deeper (envOfC "law" (defScope sLaw) s.heap.objs.size f cdv)) := hr.mono (by decide)
    refine ⟨_, pss_cons (ps_set (i := 1) scL.nd rfl (.inl rfl) (pe_call GD hr1 (by rfl) gD kD bD .nil pass0 (pa_cons (pv 0) pa_nil)))
      (pss_cons (ps_set (i := 2) scL.nd rfl (.inl rfl) (pe_call GP hr2 (by rfl) gP kP bP .nil pass0 (pa_cons (pv 1) (pa_cons pe_int pa_nil))))
      (pss_cons (ps_set (i := 3) scL.nd rfl (.inl rfl) (pe_callB (call_reprQ rfl (units66 hr)) (by rfl) mre (by decide +kernel) (pa_cons (pv 2) pa_nil)))
      (pss_cons (ps_if (pt_cmpR op_isnot_bl (pe_call GS hr (by rfl) gS kS bS .nil pass0 (pa_cons (pv 2) pa_nil)) pe_bl (nomark _)) (pss_one (ps_ret pe_bl)) pss_nil)
      (pss_cons (ps_for PassesOwn.never rfl (pi_list (pe_lst (pa_cons pe_str (pa_cons pe_str (pa_cons pe_str (pa_cons pe_str pa_nil)))))) (pg_name (i := 4) scL.nd rfl (.inl rfl))
        (pss_cons (ps_set (i := 5) scL.nd rfl (.inl rfl) (pe_call G1 hr1 (by rfl) g1 k1 b1 .nil pass0 (pa_cons (pv 2) (pa_cons (pv 4) pa_nil))))
        (pss_one (ps_if (PW.pt (pw_or (pt_not (pt_val (pe_call GI hr1 (by rfl) gI kI bI .nil pass0 (pa_cons (pv 5) pa_nil))))
            (pw_or1 (pt_cmpR op_ne (pv 5) (pe_call G4 hr1 (by rfl) g4 k4 b4 .nil pass0 (pa_cons (pv 2) (pa_cons (pv 4) pa_nil))) (nomark _))))) (pss_one (ps_ret pe_bl)) pss_nil))))
      (pss_cons (ps_for PassesOwn.never rfl (pi_list (pe_lst (pa_cons pe_str (pa_cons pe_str (pa_cons pe_str (pa_cons pe_str (pa_cons pe_str pa_nil))))))) (pg_name (i := 4) scL.nd rfl (.inl rfl))
        (pss_cons (ps_if (pt_cmpR op_ne (pe_call G2 hr1 (by rfl) g2 k2 b2 .nil pass0 (pa_cons (pv 2) (pa_cons (pv 4) pa_nil))) (pe_call G5 hr1 (by rfl) g5 k5 b5 .nil pass0 (pa_cons (pv 2) (pa_cons (pv 4) pa_nil))) (nomark _)) (pss_one (ps_ret pe_bl)) pss_nil)
        (pss_one (ps_for PassesOwn.never rfl (pi_list (pe_lst (pa_cons pe_str (pa_cons pe_str (pa_cons pe_str (pa_cons pe_str pa_nil)))))) (pg_name (i := 6) scL.nd rfl (.inl rfl))
          (pss_cons (ps_set (i := 5) scL.nd rfl (.inl rfl) (pe_call G3 hr1 (by rfl) g3 k3 b3 .nil pass0 (pa_cons (pv 2) (pa_cons (pv 4) (pa_cons (pv 6) pa_nil)))))
          (pss_one (ps_if (PW.pt (pw_or (pt_not (pt_val (pe_call GI hr1 (by rfl) gI kI bI .nil pass0 (pa_cons (pv 5) pa_nil))))
              (pw_or1 (pt_cmpR op_ne (pv 5) (pe_call G6 hr1 (by rfl) g6 k6 b6 .nil pass0 (pa_cons (pv 2) (pa_cons (pv 4) (pa_cons (pv 6) pa_nil)))) (nomark _))))) (pss_one (ps_ret pe_bl)) pss_nil)))))))
      (pss_cons (ps_if (pt_cmpR op_ne (pe_callB (call_reprQ rfl (units66 hr)) (by rfl) mre (by decide +kernel) (pa_cons (pv 2) pa_nil)) (pv 3) (nomark _)) (pss_one (ps_ret pe_bl)) pss_nil)
      (pss_cons (ps_set (i := 7) scL.nd rfl (.inl rfl) (pe_call GB hr2 (by rfl) gB kB bB .nil pass0 (pa_cons (pv 1) (pa_cons (pe_call GP hr2 (by rfl) gP kP bP .nil pass0 (pa_cons (pv 1) (pa_cons pe_int pa_nil))) pa_nil))))
      (pss_one (ps_ret (pe_cmpR op_is_bl (pe_call GS hr (by rfl) gS kS bS .nil pass0 (pa_cons (pv 7) pa_nil)) pe_bl (nomark _))))))))))), ?_⟩
    refine ⟨_, rfl, a, ns, rfl, hS, hlen, fun o no => ?_⟩
    have ho1 : upd H o (.lst ((drawsOf ns).map V.int)) o = some (.lst ((drawsOf ns).map V.int)) := upd_same
    have t1 := tb.new (o := .lst ((drawsOf ns).map V.int)) no
    generalize upd H o (.lst ((drawsOf ns).map V.int)) = H1 at ho1 t1
    refine ⟨_, rfl, o, drawsOf ns, 0, rfl, ho1, by decide, fun t H2 Z s2 nt ok hZ => ?_⟩
    have hZ2 : PrA H2 t Z := hZ.up (Up.of_same news_same)
    have t2 := tb_same t1 s2
    have ho2 := s2 _ _ ho1
    refine ⟨_, rfl, t, prD Z, rfl, hZ2.dq ok, prD_dict Z, prD_show ok, prD_depth Z, prD_shown ok, ?_⟩
    obtain ⟨d, ht2, hd2⟩ := id hZ2
    refine ⟨_, rfl, t, d, _, _, _, _, rfl, ht2, hd2, ok.nd, prc_exG ok, t2, fun H3 u3 t3 => ⟨_, _, rfl, rfl, _, rfl, ?_⟩⟩
    rw [prc_isP ok]
    refine iteF ?_
    have hZ3 := hZ2.up u3
    have ho3 := u3.lst ho2
    refine ⟨(by show 4 ≤ sizeLine; decide), fun kl nkl => ?_⟩
    have hkl : upd H3 kl (.lst (kinds4.map V.str)) kl = some (.lst (kinds4.map V.str)) := upd_same
    show _
    refine ⟨kl, rfl, ⟨kinds4.map V.str, SqL.of hkl⟩, for_list (a := kl) (xs := kinds4.map V.str) (fun n σ H' => ∃ v4 v5 v6 v7, σ = [some (.ref a), some (.ref o), some (.ref t), some (.str (prD Z).shown), v4, v5, v6, v7] ∧ Up H3 H' ∧ Tb T1 T2 H' ∧ H' kl = some (.lst (kinds4.map V.str)))
      ⟨none, none, none, none, rfl, Up.put H3 nkl, t3.new nkl, hkl⟩ (fun n σ H' _ ⟨_, _, _, _, _, _, _, h⟩ => SqL.of h) ?_ ?_⟩
    · rintro n x σ H' hx ⟨v4, v5, v6, v7, rfl, u', t', hk'⟩
      obtain ⟨y, hy, rfl⟩ := str_at hx
      refine ⟨_, rfl, _, rfl, t, Z, y, rfl, hZ3.up u', ok, fun H5 s5 => ?_⟩
      have u5 := u'.trans (Up.of_same s5)
      refine ⟨_, rfl, _, rfl, true, rfl, iteF ?_⟩
      refine ⟨_, rfl, _, rfl, _, rfl, t, Z, y, rfl, hZ3.up u5, ok, fun H7 s7 => ⟨rfl, _, rfl, ?_⟩⟩
      rw [decide_eq_true (rfl : V.int (putP Z y) = _)]
      exact iteF ⟨_, _, _, _, rfl, u5.trans (Up.of_same s7), tb_same (tb_same t' s5) s7, s7 _ _ (s5 _ _ hk')⟩
    · rintro σ H4 ⟨v4, v5, v6, v7, rfl, u4, t4, _⟩
      clear hkl
      refine ⟨(by show 5 ≤ sizeLine; decide), fun k5_ nk5 => ?_⟩
      have hk5 : upd H4 k5_ (.lst (kinds5.map V.str)) k5_ = some (.lst (kinds5.map V.str)) := upd_same
      show _
      refine ⟨k5_, rfl, ⟨kinds5.map V.str, SqL.of hk5⟩, for_list (a := k5_) (xs := kinds5.map V.str) (fun n σ H' => ∃ v4 v5 v6 v7, σ = [some (.ref a), some (.ref o), some (.ref t), some (.str (prD Z).shown), v4, v5, v6, v7] ∧ Up H3 H' ∧ Tb T1 T2 H' ∧ H' k5_ = some (.lst (kinds5.map V.str)))
        ⟨v4, v5, v6, v7, rfl, u4.trans (Up.put H4 nk5), t4.new nk5, hk5⟩ (fun n σ H' _ ⟨_, _, _, _, _, _, _, h⟩ => SqL.of h) ?_ ?_⟩
      · rintro n x σ H' hx ⟨v4, v5, v6, v7, rfl, u', t', hk'⟩
        obtain ⟨y, hy, rfl⟩ := str_at hx
        refine ⟨_, rfl, _, rfl, t, Z, y, rfl, hZ3.up u', ok, fun H5 s5 => ?_⟩
        have u5 := u'.trans (Up.of_same s5)
        refine ⟨_, rfl, _, rfl, t, Z, y, rfl, hZ3.up u5, ok, fun H6 s6 => ⟨rfl, _, rfl, ?_⟩⟩
        have u6 := u5.trans (Up.of_same s6)
        have t6 := tb_same (tb_same t' s5) s6
        have hk6 := s6 _ _ (s5 _ _ hk')
        rw [decide_eq_true (rfl : V.int (outP Z y) = _)]
        refine iteF ⟨(by show 4 ≤ sizeLine; decide), fun k6_ nk6 => ?_⟩
        have hk6' : upd H6 k6_ (.lst (kinds4.map V.str)) k6_ = some (.lst (kinds4.map V.str)) := upd_same
        show _
        refine ⟨k6_, rfl, ⟨kinds4.map V.str, SqL.of hk6'⟩, for_list (a := k6_) (xs := kinds4.map V.str) (fun n σ H' => ∃ v5 v6 v7, σ = [some (.ref a), some (.ref o), some (.ref t), some (.str (prD Z).shown), some (.str y), v5, v6, v7] ∧ Up H3 H' ∧ Tb T1 T2 H' ∧ H' k5_ = some (.lst (kinds5.map V.str)) ∧ H' k6_ = some (.lst (kinds4.map V.str)))
          ⟨v5, v6, v7, rfl, u6.trans (Up.put H6 nk6), t6.new nk6, (same_upd nk6) _ _ hk6, hk6'⟩ (fun n σ H' _ ⟨_, _, _, _, _, _, _, h⟩ => SqL.of h) ?_ ?_⟩
        · rintro m x2 σ H' hx2 ⟨v5, v6, v7, rfl, u', t', hk5', hk'⟩
          obtain ⟨z, hz, rfl⟩ := str_at hx2
          refine ⟨_, rfl, _, rfl, _, rfl, t, Z, y, z, rfl, hZ3.up u', ok, fun H7 s7 => ?_⟩
          have u7 := u'.trans (Up.of_same s7)
          refine ⟨_, rfl, _, rfl, true, rfl, iteF ?_⟩
          refine ⟨_, rfl, _, rfl, _, rfl, _, rfl, t, Z, y, z, rfl, hZ3.up u7, ok, fun H8 s8 => ⟨rfl, _, rfl, ?_⟩⟩
          rw [decide_eq_true (rfl : V.int (chgP Z y z) = _)]
          exact iteF ⟨_, _, _, rfl, u7.trans (Up.of_same s8), tb_same (tb_same t' s7) s8, s8 _ _ (s7 _ _ hk5'), s8 _ _ (s7 _ _ hk')⟩
        · rintro σ H' ⟨v5, v6, v7, rfl, u', t', hk5', _⟩
          exact ⟨_, _, _, _, rfl, u', t', hk5'⟩
      · rintro σ H5 ⟨v4, v5, v6, v7, rfl, u5, t5, _⟩
        refine ⟨_, rfl, t, prD Z, rfl, (hZ3.up u5).dq ok, prD_dict Z, prD_show ok, prD_depth Z, prD_shown ok, ?_⟩
        refine ⟨_, rfl, rfl, _, rfl, ?_⟩
        rw [decide_eq_true (rfl : V.str (prD Z).shown = _)]
        refine iteF ?_
        refine ⟨_, rfl, _, rfl, o, drawsOf ns, 0, rfl, u5.lst ho3, by decide, fun tt H6 Z2 s6 ntt ok2 hZ2' => ?_⟩
        obtain ⟨d2, ht6, hd6⟩ : PrA H6 tt Z2 := hZ2'.up (Up.of_same news_same)
        refine ⟨o, tt, d2, drawsOf ns, _, _, _, _, rfl, s6 _ _ (u5.lst ho3), ht6, hd6, ok2.nd, prc_exG ok2, Nat.le_trans ok2.few (by decide), tb_same t5 s6, fun t9 H9 tb9 bad9 => ?_⟩
        obtain ⟨d9, x, y, z, kvs, h1, h2, h3, h4, h5⟩ := bad9
        refine ⟨_, rfl, t9, d9, x, y, z, kvs, rfl, h1, h2, h3, h4, tb9, fun H10 u10 t10 => ⟨_, _, rfl, rfl, ?_⟩⟩
        rw [h5]
        exact q _
end
end Ld

set_option Elab.async false
set_option linter.all false
set_option maxRecDepth 100000
set_option maxHeartbeats 4000000

namespace Ld
open PySem PySem.Spec PyProof.Rows L2 Lg 
theorem tab_mk {K : PySem.W.Frag} {x : Str} {f c T : Addr} {oc ec : Value} {od dd : Option Addr} {fd : FuncData} {sl sl2 : Array (Option Value)} {vs : Array Value} (a : PySem.W.nsIn K mainGlobals x = some (some (.ref f))) (l : K.lookup f = some ⟨oc, od, .func fd, sl⟩) (hc : fd.code = .ref c)
    (lc : K.lookup c = some ⟨ec, dd, .fields vs, sl2⟩) (hv : vs[11]? = some (.ref T)) : PySem.W.tabIn K x = some (c, T) := by
  unfold PySem.W.tabIn
  rw [a]
  simp only
  rw [l]
  simp only
  rw [hc]
  simp only
  rw [lc]
  simp only
  rw [hv]

theorem all_mk {l : PySem.W.OpenLaw} {w : World} {K : PySem.W.Frag} {h : Heap} {mg : Str → Option Value} {fa c1 T1 c2 T2  fki fwo fip fic fik fmb fpu fou fch fdr fat fli fpr flp flo flc fba flw : Addr} (X : K.In h) (G : h.Ns mainGlobals mg) (hfa : mg "law" = some (.ref fa))
    (htab0 : ∀ (c T : Addr), PySem.W.tabIn K "_is_word" = some (c, T) → PySem.W.CodeHd h c T ∧ h.get? T = some { cls := .none, data := .fields #[] })
    (htab1 : ∀ (c T : Addr), PySem.W.tabIn K "is_prices" = some (c, T) → PySem.W.CodeHd h c T ∧ h.get? T = some { cls := .none, data := .fields #[] })
    {odki anki odwo anwo odip anip odic anic odik anik odmb anmb odpu anpu odou anou odch anch oddr andr odat anat odli anli odpr anpr odlp anlp odlo anlo odlc anlc odba anba odlw anlw : Option Addr}
    {slki slwo slip slic slik slmb slpu slou slch sldr slat slli slpr sllp sllo sllc slba sllw : Array (Option Value)}
    {ocki kVki dcki pmki ctki cdki ocwo kVwo dcwo pmwo ctwo ocip kVip dcip pmip ctip ocic kVic dcic pmic ctic cdic ocik kVik dcik pmik ctik cdik ocmb kVmb dcmb pmmb ctmb cdmb ocpu kVpu dcpu pmpu ctpu cdpu ocou kVou dcou pmou ctou cdou occh kVch dcch pmch ctch cdch ocdr kVdr dcdr pmdr ctdr cddr ocat kVat dcat pmat ctat cdat ocli kVli dcli pmli ctli cdli ocpr kVpr dcpr pmpr ctpr cdpr oclp kVlp dclp pmlp ctlp cdlp oclo kVlo dclo pmlo ctlo cdlo oclc kVlc dclc pmlc ctlc cdlc ocba kVba dcba pmba ctba cdba oclw kVlw dclw pmlw ctlw cdlw : Value}
    (aki : PySem.W.nsIn K mainGlobals "is_kind" = some (some (.ref fki)))
    (lki : K.lookup fki = some ⟨ocki, odki, .func (PySem.W.fnOf "is_kind" "is_kind" (defArgs sKind) (defBody sKind) (defScope sKind) .none kVki dcki pmki anki cdki ctki), slki⟩)
    (cki : PySem.W.codeIn K cdki "is_kind" = true)
    (kki : PySem.W.keepIn K (.ref fki) = true)
    (awo : PySem.W.nsIn K mainGlobals "_is_word" = some (some (.ref fwo)))
    (lwo : K.lookup fwo = some ⟨ocwo, odwo, .func (PySem.W.fnOf "_is_word" "_is_word" (defArgs sWord) (defBody sWord) (defScope sWord) .none kVwo dcwo pmwo anwo (.ref c1) ctwo), slwo⟩)
    (cwo : PySem.W.codeIn K (.ref c1) "_is_word" = true)
    (kwo : PySem.W.keepIn K (.ref fwo) = true)
    {ecwo : Value} {dc_wo : Option Addr} {vcwo : Array Value} {scwo : Array (Option Value)}
    (lcwo : K.lookup c1 = some ⟨ecwo, dc_wo, .fields vcwo, scwo⟩)
    (hvwo : vcwo[11]? = some (.ref T1))
    (nTwo : K.lookup T1 = none)
    (aip : PySem.W.nsIn K mainGlobals "is_prices" = some (some (.ref fip)))
    (lip : K.lookup fip = some ⟨ocip, odip, .func (PySem.W.fnOf "is_prices" "is_prices" (defArgs s_is_prices) (defBody s_is_prices) (defScope s_is_prices) .none kVip dcip pmip anip (.ref c2) ctip), slip⟩)
    (cip : PySem.W.codeIn K (.ref c2) "is_prices" = true)
    (kip : PySem.W.keepIn K (.ref fip) = true)
    {ecip : Value} {dc_ip : Option Addr} {vcip : Array Value} {scip : Array (Option Value)}
    (lcip : K.lookup c2 = some ⟨ecip, dc_ip, .fields vcip, scip⟩)
    (hvip : vcip[11]? = some (.ref T2))
    (nTip : K.lookup T2 = none)
    (aic : PySem.W.nsIn K mainGlobals "_is_price" = some (some (.ref fic)))
    (lic : K.lookup fic = some ⟨ocic, odic, .func (PySem.W.fnOf "_is_price" "_is_price" (defArgs s__is_price) (defBody s__is_price) (defScope s__is_price) .none kVic dcic pmic anic cdic ctic), slic⟩)
    (cic : PySem.W.codeIn K cdic "_is_price" = true)
    (kic : PySem.W.keepIn K (.ref fic) = true)
    (aik : PySem.W.nsIn K mainGlobals "_is_key" = some (some (.ref fik)))
    (lik : K.lookup fik = some ⟨ocik, odik, .func (PySem.W.fnOf "_is_key" "_is_key" (defArgs s__is_key) (defBody s__is_key) (defScope s__is_key) .none kVik dcik pmik anik cdik ctik), slik⟩)
    (cik : PySem.W.codeIn K cdik "_is_key" = true)
    (kik : PySem.W.keepIn K (.ref fik) = true)
    (amb : PySem.W.nsIn K mainGlobals "_may_be_read" = some (some (.ref fmb)))
    (lmb : K.lookup fmb = some ⟨ocmb, odmb, .func (PySem.W.fnOf "_may_be_read" "_may_be_read" (defArgs s__may_be_read) (defBody s__may_be_read) (defScope s__may_be_read) .none kVmb dcmb pmmb anmb cdmb ctmb), slmb⟩)
    (cmb : PySem.W.codeIn K cdmb "_may_be_read" = true)
    (kmb : PySem.W.keepIn K (.ref fmb) = true)
    (apu : PySem.W.nsIn K mainGlobals "put_price" = some (some (.ref fpu)))
    (lpu : K.lookup fpu = some ⟨ocpu, odpu, .func (PySem.W.fnOf "put_price" "put_price" (defArgs s_put_price) (defBody s_put_price) (defScope s_put_price) .none kVpu dcpu pmpu anpu cdpu ctpu), slpu⟩)
    (cpu : PySem.W.codeIn K cdpu "put_price" = true)
    (kpu : PySem.W.keepIn K (.ref fpu) = true)
    (aou : PySem.W.nsIn K mainGlobals "out_price" = some (some (.ref fou)))
    (lou : K.lookup fou = some ⟨ocou, odou, .func (PySem.W.fnOf "out_price" "out_price" (defArgs s_out_price) (defBody s_out_price) (defScope s_out_price) .none kVou dcou pmou anou cdou ctou), slou⟩)
    (cou : PySem.W.codeIn K cdou "out_price" = true)
    (kou : PySem.W.keepIn K (.ref fou) = true)
    (ach : PySem.W.nsIn K mainGlobals "change_price" = some (some (.ref fch)))
    (lch : K.lookup fch = some ⟨occh, odch, .func (PySem.W.fnOf "change_price" "change_price" (defArgs s_change_price) (defBody s_change_price) (defScope s_change_price) .none kVch dcch pmch anch cdch ctch), slch⟩)
    (cch : PySem.W.codeIn K cdch "change_price" = true)
    (kch : PySem.W.keepIn K (.ref fch) = true)
    (adr : PySem.W.nsIn K mainGlobals "_law_draws" = some (some (.ref fdr)))
    (ldr : K.lookup fdr = some ⟨ocdr, oddr, .func (PySem.W.fnOf "_law_draws" "_law_draws" (defArgs sDraws) (defBody sDraws) (defScope sDraws) .none kVdr dcdr pmdr andr cddr ctdr), sldr⟩)
    (cdr : PySem.W.codeIn K cddr "_law_draws" = true)
    (kdr : PySem.W.keepIn K (.ref fdr) = true)
    (aat : PySem.W.nsIn K mainGlobals "_law_at" = some (some (.ref fat)))
    (lat : K.lookup fat = some ⟨ocat, odat, .func (PySem.W.fnOf "_law_at" "_law_at" (defArgs sAt) (defBody sAt) (defScope sAt) .none kVat dcat pmat anat cdat ctat), slat⟩)
    (cat : PySem.W.codeIn K cdat "_law_at" = true)
    (kat : PySem.W.keepIn K (.ref fat) = true)
    (ali : PySem.W.nsIn K mainGlobals "_law_is_integer" = some (some (.ref fli)))
    (lli : K.lookup fli = some ⟨ocli, odli, .func (PySem.W.fnOf "_law_is_integer" "_law_is_integer" (defArgs sLInt) (defBody sLInt) (defScope sLInt) .none kVli dcli pmli anli cdli ctli), slli⟩)
    (cli : PySem.W.codeIn K cdli "_law_is_integer" = true)
    (kli : PySem.W.keepIn K (.ref fli) = true)
    (apr : PySem.W.nsIn K mainGlobals "_law_prices" = some (some (.ref fpr)))
    (lpr : K.lookup fpr = some ⟨ocpr, odpr, .func (PySem.W.fnOf "_law_prices" "_law_prices" (defArgs sPrices) (defBody sPrices) (defScope sPrices) .none kVpr dcpr pmpr anpr cdpr ctpr), slpr⟩)
    (cpr : PySem.W.codeIn K cdpr "_law_prices" = true)
    (kpr : PySem.W.keepIn K (.ref fpr) = true)
    (alp : PySem.W.nsIn K mainGlobals "_law_put" = some (some (.ref flp)))
    (llp : K.lookup flp = some ⟨oclp, odlp, .func (PySem.W.fnOf "_law_put" "_law_put" (defArgs sLPut) (defBody sLPut) (defScope sLPut) .none kVlp dclp pmlp anlp cdlp ctlp), sllp⟩)
    (clp : PySem.W.codeIn K cdlp "_law_put" = true)
    (klp : PySem.W.keepIn K (.ref flp) = true)
    (alo : PySem.W.nsIn K mainGlobals "_law_out" = some (some (.ref flo)))
    (llo : K.lookup flo = some ⟨oclo, odlo, .func (PySem.W.fnOf "_law_out" "_law_out" (defArgs sLOut) (defBody sLOut) (defScope sLOut) .none kVlo dclo pmlo anlo cdlo ctlo), sllo⟩)
    (clo : PySem.W.codeIn K cdlo "_law_out" = true)
    (klo : PySem.W.keepIn K (.ref flo) = true)
    (alc : PySem.W.nsIn K mainGlobals "_law_change" = some (some (.ref flc)))
    (llc : K.lookup flc = some ⟨oclc, odlc, .func (PySem.W.fnOf "_law_change" "_law_change" (defArgs sLChg) (defBody sLChg) (defScope sLChg) .none kVlc dclc pmlc anlc cdlc ctlc), sllc⟩)
    (clc : PySem.W.codeIn K cdlc "_law_change" = true)
    (klc : PySem.W.keepIn K (.ref flc) = true)
    (aba : PySem.W.nsIn K mainGlobals "_law_bad" = some (some (.ref fba)))
    (lba : K.lookup fba = some ⟨ocba, odba, .func (PySem.W.fnOf "_law_bad" "_law_bad" (defArgs sBad) (defBody sBad) (defScope sBad) .none kVba dcba pmba anba cdba ctba), slba⟩)
    (cba : PySem.W.codeIn K cdba "_law_bad" = true)
    (kba : PySem.W.keepIn K (.ref fba) = true)
    (alw : PySem.W.nsIn K mainGlobals "law" = some (some (.ref flw)))
    (llw : K.lookup flw = some ⟨oclw, odlw, .func (PySem.W.fnOf "law" "law" (defArgs sLaw) (defBody sLaw) (defScope sLaw) .none kVlw dclw pmlw anlw cdlw ctlw), sllw⟩)
    (clw : PySem.W.codeIn K cdlw "law" = true)
    (klw : PySem.W.keepIn K (.ref flw) = true)
    {tkv1 tkv2 tkv3 : Tok}
    (v1 : PySem.W.nsIn K mainGlobals "MOST_LETTERS" = some (some (.int 12 tkv1)))
    (v2 : PySem.W.nsIn K mainGlobals "LEAST_PRICE" = some (some (.int 1 tkv2)))
    (v3 : PySem.W.nsIn K mainGlobals "GREATEST_PRICE" = some (some (.int 1000 tkv3)))
    (z_len : PySem.W.nsIn K mainGlobals "len" = some none)
    (z_all : PySem.W.nsIn K mainGlobals "all" = some none)
    (z_range : PySem.W.nsIn K mainGlobals "range" = some none)
    (z_min : PySem.W.nsIn K mainGlobals "min" = some none)
    (z_abs : PySem.W.nsIn K mainGlobals "abs" = some none)
    (z_int : PySem.W.nsIn K mainGlobals "int" = some none)
    (z_isinstance : PySem.W.nsIn K mainGlobals "isinstance" = some none)
    (z_bool : PySem.W.nsIn K mainGlobals "bool" = some none)
    (z_repr : PySem.W.nsIn K mainGlobals "repr" = some none)
    : LawTop l w K 63 "script" mg fa h := by
  obtain ⟨hC0, hT0⟩ := htab0 c1 T1 (tab_mk awo lwo rfl lcwo hvwo)
  obtain ⟨hC1, hT1⟩ := htab1 c2 T2 (tab_mk aip lip rfl lcip hvip)
  have e := hfa.symm.trans (PySem.W.mg_of X G alw)
  cases e
  have m := fun {x : Str} (z : PySem.W.nsIn K mainGlobals x = some none) => PySem.W.mg_none_of X G z
  have Fki := fun_mk (st := sKind) lki cki kki
  have Fwo := fun_mk (st := sWord) lwo cwo kwo
  have Fip := fun_mk (st := s_is_prices) lip cip kip
  have Fic := fun_mk (st := s__is_price) lic cic kic
  have Fik := fun_mk (st := s__is_key) lik cik kik
  have Fmb := fun_mk (st := s__may_be_read) lmb cmb kmb
  have Fpu := fun_mk (st := s_put_price) lpu cpu kpu
  have Fou := fun_mk (st := s_out_price) lou cou kou
  have Fch := fun_mk (st := s_change_price) lch cch kch
  have Fdr := fun_mk (st := sDraws) ldr cdr kdr
  have Fat := fun_mk (st := sAt) lat cat kat
  have Fli := fun_mk (st := sLInt) lli cli kli
  have Fpr := fun_mk (st := sPrices) lpr cpr kpr
  have Flp := fun_mk (st := sLPut) llp clp klp
  have Flo := fun_mk (st := sLOut) llo clo klo
  have Flc := fun_mk (st := sLChg) llc clc klc
  have Fba := fun_mk (st := sBad) lba cba kba
  have Flw := fun_mk (st := sLaw) llw clw klw
  have bki := Fki.binds (ps := ["text"]) fun _ _ _ _ _ _ us hl => match us, hl with | [_], _ => rfl
  have bwo := Fwo.binds (ps := ["text", "first", "last"]) fun _ _ _ _ _ _ us hl => match us, hl with | [_, _, _], _ => rfl
  have bip := Fip.binds (ps := ["prices"]) fun _ _ _ _ _ _ us hl => match us, hl with | [_], _ => rfl
  have bic := Fic.binds (ps := ["price"]) fun _ _ _ _ _ _ us hl => match us, hl with | [_], _ => rfl
  have bik := Fik.binds (ps := ["key"]) fun _ _ _ _ _ _ us hl => match us, hl with | [_], _ => rfl
  have bmb := Fmb.binds (ps := ["kind"]) fun _ _ _ _ _ _ us hl => match us, hl with | [_], _ => rfl
  have bpu := Fpu.binds (ps := ["prices", "kind"]) fun _ _ _ _ _ _ us hl => match us, hl with | [_, _], _ => rfl
  have bou := Fou.binds (ps := ["prices", "kind"]) fun _ _ _ _ _ _ us hl => match us, hl with | [_, _], _ => rfl
  have bch := Fch.binds (ps := ["prices", "kind", "other_kind"]) fun _ _ _ _ _ _ us hl => match us, hl with | [_, _, _], _ => rfl
  have bdr := Fdr.binds (ps := ["script"]) fun _ _ _ _ _ _ us hl => match us, hl with | [_], _ => rfl
  have bat := Fat.binds (ps := ["draws", "k", "many"]) fun _ _ _ _ _ _ us hl => match us, hl with | [_, _, _], _ => rfl
  have bli := Fli.binds (ps := ["actual"]) fun _ _ _ _ _ _ us hl => match us, hl with | [_], _ => rfl
  have bpr := Fpr.binds (ps := ["draws", "first"]) fun _ _ _ _ _ _ us hl => match us, hl with | [_, _], _ => rfl
  have blp := Flp.binds (ps := ["prices", "kind"]) fun _ _ _ _ _ _ us hl => match us, hl with | [_, _], _ => rfl
  have blo := Flo.binds (ps := ["prices", "kind"]) fun _ _ _ _ _ _ us hl => match us, hl with | [_, _], _ => rfl
  have blc := Flc.binds (ps := ["prices", "kind", "other"]) fun _ _ _ _ _ _ us hl => match us, hl with | [_, _, _], _ => rfl
  have bba := Fba.binds (ps := ["draws", "prices"]) fun _ _ _ _ _ _ us hl => match us, hl with | [_, _], _ => rfl
  have blw := Flw.binds (ps := ["script"]) fun _ _ _ _ _ _ us hl => match us, hl with | [_], _ => rfl
  refine ⟨PySem.W.fnOf "law" "law" (defArgs sLaw) (defBody sLaw) (defScope sLaw) .none kVlw dclw pmlw anlw cdlw ctlw, [(c1, T1), (c2, T2)], spLaw K T1 T2, fun p hp => ?_, fun s v => .of_eq rfl, fun H a ns hl hH hS => ⟨a, ns, rfl, hS, hl, ⟨⟨#[], hH (c1, T1) (by simp), True.intro⟩, ⟨#[], hH (c2, T2) (by simp), True.intro⟩⟩, fun _ => rfl⟩, fun base hK hN hTB => ?_⟩
  · rcases List.mem_cons.mp hp with rfl | hp
    · exact ⟨hC0, hT0, nTwo⟩
    obtain rfl := List.mem_singleton.mp hp
    exact ⟨hC1, hT1, nTip⟩
  · have g := fun {x : Str} {v : Value} (z : PySem.W.nsIn K mainGlobals x = some (some v)) => PySem.W.mg_of X G z
    have tb0 := hTB (c1, T1) (by simp)
    have TB0 : GxR.TabB base mg c1 T1 := ⟨tb0.code, tb0.bm, tb0.gP⟩
    have tb1 := hTB (c2, T2) (by simp)
    have TB1 : GxR.TabB base mg c2 T2 := ⟨tb1.code, tb1.bm, tb1.gP⟩
    have Gwo : FnOk l.prog w K mg base CX0 1 fwo _ ["text", "first", "last"] (spWord T1) := ok_word (k := 0) Fwo rfl TB0 (m z_len) (m z_all) (g v1)
    have Gki : FnOk l.prog w K mg base CX0 2 fki _ ["text"] (spOne T1 kindB) := ok_kind (k := 0) Fki Fwo Gwo bwo (g awo)
    have Gmb := ok_may Fmb Gki kki bki (g aki)
    have Gic : FnOk l.prog w K mg base CX0 1 fic _ ["price"] spPri := ok_pri Fic (g v2) (g v3)
    have Gik := ok_key Fik Gki kki bki (g aki) Gmb kmb bmb (g amb) (m z_len)
    have Gip := ok_isP Fip rfl TB1 Gic kic bic (g aic) Gik kik bik (g aik) (m z_all)
    have Gpu : FnOk l.prog w K mg base CX0 1 fpu _ ["prices", "kind"] (spPrice putP) := ok_put Fpu
    have Gou : FnOk l.prog w K mg base CX0 1 fou _ ["prices", "kind"] (spPrice outP) := ok_out Fou
    have Gch : FnOk l.prog w K mg base CX0 1 fch _ ["prices", "kind", "other_kind"] spChange := ok_chg Fch
    have Glp : FnOk l.prog w K mg base CX0 1 flp _ ["prices", "kind"] (spPrice putP) := ok_lput Flp
    have Glo : FnOk l.prog w K mg base CX0 1 flo _ ["prices", "kind"] (spPrice outP) := ok_lout Flo
    have Glc : FnOk l.prog w K mg base CX0 1 flc _ ["prices", "kind", "other"] spChange := ok_lchg Flc
    have Gat : FnOk l.prog w K mg base CX0 1 fat _ ["draws", "k", "many"] (spAt K) := ok_at (k := 0) Fat (m z_len) (m z_int)
    have Gpr := ok_prices Fpr Gat kat bat (g aat) (m z_range) (m z_int)
    have Gli : FnOk l.prog w K mg base CX0 1 fli _ ["actual"] spLInt := ok_lint Fli (m z_isinstance) (m z_int) (m z_bool)
    have Gba := ok_bad (T1 := T1) (T2 := T2) Fba Gat kat bat (g aat) (m z_int)
    exact ok_law Flw (ok_draws (k := 0) Fdr (m z_range) (m z_min) (m z_len) (m z_abs) (m z_int)) kdr bdr (g adr) Gpr kpr bpr (g apr) Gli kli bli (g ali) Gip kip bip (g aip) Gpu kpu bpu (g apu) Gou kou bou (g aou) Gch kch bch (g ach) Glp klp blp (g alp) Glo klo blo (g alo) Glc klc blc (g alc) Gba kba bba (g aba) (m z_repr)
end Ld

open PySem PySem.W PyProof.Rows
set_option maxRecDepth 100000 in
set_option maxHeartbeats 0 in
theorem PySem.Challenge.cw_leastmend_k12_prices_of_mends_holds : PySem.Challenge.rw_leastmend_k12_prices_of_mends.Holds := by
  w_on; o_law; k_head; (case hw => w_witness2)
  k_fill
  refine Lg.walk_top (l := PySem.Challenge.rw_leastmend_k12_prices_of_mends) (n := 63) (x := "script") rfl (by decide) rfl (fun w h Y => PySem.W.kIn_of Y) ?F
  case F =>
    intro w mg fa h Y KX G hmg htab
    refine' Ld.all_mk KX G hmg (fun c T => htab "_is_word" _ c T (by rfl)) (fun c T => htab "is_prices" _ c T (by rfl)) ?aki ?lki ?cki ?kki ?awo ?lwo ?cwo ?kwo ?lcwo ?hvwo ?nTwo ?aip ?lip ?cip ?kip ?lcip ?hvip ?nTip ?aic ?lic ?cic ?kic ?aik ?lik ?cik ?kik ?amb ?lmb ?cmb ?kmb ?apu ?lpu ?cpu ?kpu ?aou ?lou ?cou ?kou ?ach ?lch ?cch ?kch ?adr ?ldr ?cdr ?kdr ?aat ?lat ?cat ?kat ?ali ?lli ?cli ?kli ?apr ?lpr ?cpr ?kpr ?alp ?llp ?clp ?klp ?alo ?llo ?clo ?klo ?alc ?llc ?clc ?klc ?aba ?lba ?cba ?kba ?alw ?llw ?clw ?klw ?v1 ?v2 ?v3 ?z_len ?z_all ?z_range ?z_min ?z_abs ?z_int ?z_isinstance ?z_bool ?z_repr
    (case aki => k_is)
    (case lki => k_is)
    (case cki => k_is)
    (case kki => k_is)
    (case awo => k_is)
    (case lwo => k_is)
    (case cwo => k_is)
    (case kwo => k_is)
    (case lcwo => k_is)
    (case hvwo => rfl)
    (case nTwo => first | kernel_rfl | rfl)
    (case aip => k_is)
    (case lip => k_is)
    (case cip => k_is)
    (case kip => k_is)
    (case lcip => k_is)
    (case hvip => rfl)
    (case nTip => first | kernel_rfl | rfl)
    (case aic => k_is)
    (case lic => k_is)
    (case cic => k_is)
    (case kic => k_is)
    (case aik => k_is)
    (case lik => k_is)
    (case cik => k_is)
    (case kik => k_is)
    (case amb => k_is)
    (case lmb => k_is)
    (case cmb => k_is)
    (case kmb => k_is)
    (case apu => k_is)
    (case lpu => k_is)
    (case cpu => k_is)
    (case kpu => k_is)
    (case aou => k_is)
    (case lou => k_is)
    (case cou => k_is)
    (case kou => k_is)
    (case ach => k_is)
    (case lch => k_is)
    (case cch => k_is)
    (case kch => k_is)
    (case adr => k_is)
    (case ldr => k_is)
    (case cdr => k_is)
    (case kdr => k_is)
    (case aat => k_is)
    (case lat => k_is)
    (case cat => k_is)
    (case kat => k_is)
    (case ali => k_is)
    (case lli => k_is)
    (case cli => k_is)
    (case kli => k_is)
    (case apr => k_is)
    (case lpr => k_is)
    (case cpr => k_is)
    (case kpr => k_is)
    (case alp => k_is)
    (case llp => k_is)
    (case clp => k_is)
    (case klp => k_is)
    (case alo => k_is)
    (case llo => k_is)
    (case clo => k_is)
    (case klo => k_is)
    (case alc => k_is)
    (case llc => k_is)
    (case clc => k_is)
    (case klc => k_is)
    (case aba => k_is)
    (case lba => k_is)
    (case cba => k_is)
    (case kba => k_is)
    (case alw => k_is)
    (case llw => k_is)
    (case clw => k_is)
    (case klw => k_is)
    (case v1 => k_is)
    (case v2 => k_is)
    (case v3 => k_is)
    (case z_len => k_is)
    (case z_all => k_is)
    (case z_range => k_is)
    (case z_min => k_is)
    (case z_abs => k_is)
    (case z_int => k_is)
    (case z_isinstance => k_is)
    (case z_bool => k_is)
    (case z_repr => k_is)
