import PyProof.Rows.All
import Wide.All
import OpenK.AllK
import Wide.FinOn
import HandS.ForMost
import HandS.AnyAll
import HandS.Walk
import HandS.IsInst
import HandS.EndTab
import HandS.Deep
import PyProof.ReprRoads
import HandS.DeepEq
import HandS.DictComp
import HandS.DictEq
import PyProof.P3Eq
import PyProof.DictFindH
import KE.LtData
import HandS.SortKw
import KE.DataMinMax
import HandS.Style
import HandS.Zip
import HandS.SetBool
import HandS.SetKeys
import HandS.List
import KE.KDictZip
import KE.KItemsList
import HandS.Dict
import PyProof.DictUpdate
import HandS.Conv
import HandS.NoneIn
import HandS.SetTxt0
import HandS.Strs
import PyProof.Rows.StrReprFit
import HandS.Sort
import PySem.Challenge.RW_leastmend_k14_tables_of_rows
set_option Elab.async false
set_option linter.all false
set_option maxRecDepth 100000
set_option maxHeartbeats 4000000
/-! all(test for x in e): any thing that is walked, any test that leaves the heap's objects as they stand; the test may read what the def holds. -/
namespace Gc
open PySem PySem.Spec PyProof.Rows L2 GxR
/-- the code object of the inner block, found in the table or made and entered there: one end for both -/
theorem code_either {M : Model} {A : Around} {E : Value → Shared → Prop} {s : Shared} {env : Env} {c P : Addr} {ps : Array Value} {gp : Pos} {qn : Str} {scope : Scope} {Q : Value → Shared → Prop}
    (hc : env.code = .ref c) (C : PySem.W.CodeHd s.heap c P) (tab : s.heap.get? P = some { cls := .none, data := .fields ps }) (ok : TriplesOk ps.toList)
    (go : ∀ (code : Value) (h3 : Heap) (tk : Nat) (more : Array Value), Heap.ExtBut P s.heap h3 → s.heap.objs.size ≤ h3.objs.size → h3.get? P = some { cls := .none, data := .fields (ps ++ more) } → TriplesOk (ps ++ more).toList → Q code { s with heap := h3, toks := tk }) :
    wpAny M A (genexprCode env gp qn scope) Q E s := by
  cases found : codeAmong gp ps.toList with
  | some cv =>
    have q := go cv s.heap s.toks #[] (Heap.ExtBut.refl _ _) (Nat.le_refl _) (by rw [Array.append_empty]; exact tab) (by rw [Array.append_empty]; exact ok)
    exact wpAny_genexprCode_hit hc (C.code tab ok) found q
  | none =>
    refine wpAny_genexprCodeX hc (C.code tab ok) (C.tab tab) found fun c' h3 tk ext big small made _ entered _ => ?_
    obtain ⟨_, _, _, _, _, _, _, _, _, _, _, _, _, _, _, _, _, _, _, ok3, _⟩ := made
    exact go (.ref c') h3 tk _ ext (Nat.le_of_lt (Nat.lt_of_le_of_lt big small)) entered.2 ok3
/-- what is walked: xv in the heap h1 gives n items, the i-th under Pf i; its iterator is the next new object; it reads nothing of the table at P -/
def SrcOk (prog : Program) (w : World) (h1 : Heap) (P : Addr) (xv : Value) (n : Nat) (Pf : Nat → Value → Prop) : Prop :=
  ∃ fp : List Addr, (∀ b ∈ fp, b ≤ h1.objs.size) ∧ P ∉ fp ∧
    ∀ (A : Around) (E : Value → Shared → Prop) (s : Shared) (Q : Value → Shared → Prop), s.heap = h1 →
      (∀ (o : Obj) (St : Nat → Heap → Prop), (∀ A' : Around, A'.handled = none → Walks prog w A' h1.objs.size fp [h1.objs.size] n Pf St) → St 0 (h1.push o) → Q (.ref h1.objs.size) { s with heap := h1.push o }) → wpAny (model prog w) A (pyIter xv) Q E s
/-- the environment in which the inner block runs -/
abbrev blkEnv (X : Cx) (scope : Scope) (C : Addr) (code : Value) : Env := genEnv scope (cloFrom X.env.cells scope.names []) C code builtinsNs X.env
/-- the test: of an item under Pf i it gives pb i, wherever all that stood in h1 (but the table at P) stands -/
def EltG (X : Cx) (scope : Scope) (x : Str) (elt : Expr) (P : Addr) (h1 : Heap) (Pf : Nat → Value → Prop) (pb : Nat → Bool) : Prop :=
  ∀ (C : Addr) (code : Value) (A' : Around) (E' : Value → Shared → Prop) (i : Nat) (v : Value) (s₂ : Shared) (m₂ : Str → Option Value), A'.handled = none → A'.depth ≤ X.A.depth + 1 → A'.units ≤ X.A.units + 8 → Pf i v →
    (∀ b o, b ≠ P → h1.get? b = some o → s₂.heap.get? b = some o) → s₂.heap.Ns C m₂ → m₂ x = some v →
    wpAny (model X.prog X.w) A' (eval elt (blkEnv X scope C code)) (fun y s₃ => y = .bool (pb i) ∧ Keeps s₂ s₃) E' s₂
/-- the block's own scope, over the def's scope sc -/
structure GenSc (sc scope : Scope) (x : Str) : Prop where
  kind : scope.kind = .function
  co : scope.isCoroutine = false
  cell : ∀ y ∈ scope.names, y.2 ≠ .cell
  dot : scope.names.lookup (".0" : Str) = some NameKind.local
  loc : scope.names.lookup x = some .local
  free : ∀ y ∈ scope.names, y.2 = .free → sc.names.lookup y.1 = some .cell
section
variable {X : Cx}
/-- all(test for x in e) -/
def tAllG (X : Cx) (scope : Scope) (x : Str) (elt : Expr) (P : Addr) (te : TE) : TE := fun σ H Q => te σ H fun v H1 => ∃ (n : Nat) (Pf : Nat → Value → Prop) (pb : Nat → Bool),
  (∀ (pins : List (Addr × Obj)) (s1 : Shared) (xv : Value), Inv X pins σ H1 s1 → RelV v xv → SrcOk X.prog X.w s1.heap P xv n Pf ∧ EltG X scope x elt P s1.heap Pf pb) ∧ TabG H1 P ∧ ∀ H2, Tabbed P H1 H2 → Q (.bl ((List.range n).all pb)) H2
theorem pe_allG {c P : Addr} {elt iter : Expr} {x : Str} {px p pos gpos : Pos} {scope : Scope} {te : TE} {k : Nat}
    (hr : Room k X.A) (hg : Gl X "all") (hm : X.mg "all" = none) (hb : bootBuiltins "all" = some (.builtin "all")) (TB : TabB X.base X.mg c P) (hcode : X.env.code = .ref c) (S : GenSc X.env.scope scope x) (hi : PE X iter te)
    (hs : ∀ v, genFold iter X.env v = pure v)
    (he : starEach [.GeneratorExp elt [⟨.Name x px, iter, [], 0⟩] scope gpos] X.env = (false, eval (.GeneratorExp elt [⟨.Name x px, iter, [], 0⟩] scope gpos) X.env) :: starEach [] X.env := by rfl) :
    PE X (.Call (.Name "all" p) [.GeneratorExp elt [⟨.Name x px, iter, [], 0⟩] scope gpos] [] pos) (tAllG X scope x elt P te) := by
  refine ⟨fun pins s σ H Q I h => ?_⟩
  have has : ∀ y ∈ scope.names, y.2 = .free → ∃ a, X.env.cells.lookup y.1 = some a := fun y hy e => I.ok.has _ (.inl (S.free y hy e))
  refine wpAny_Call_Name_kw (ld_blt I hg hm hb ?_)
  refine PyProof.Rows.callWith_builtin1 ?_ he (by rfl)
  rw [he]
  show wpAny _ _ (spliced (_ :: backTo pos (starEach [] X.env))) _ _ _
  refine Calls.spliced_cons ?_
  refine wpAny_GeneratorExp_walksQD hr.hd S.co (closure_ok has) S.cell S.dot S.loc S.kind (by have := hr.dp; omega) ?_ hs
  refine thn (hi.run pins s σ H _ I h) fun xv s1 hv => ?_
  obtain ⟨v, H1, J, rv, n, Pf, pb, sem, ⟨ps, hP, trip⟩, fin⟩ := hv
  obtain ⟨⟨fp, below, apart, begins⟩, test⟩ := sem pins s1 xv J rv
  refine begins _ _ s1 _ rfl fun o St W at0 => ⟨J.nolimit.push o, ?_⟩
  have tab1 : s1.heap.get? P = some { cls := .none, data := .fields ps } := J.hok P _ hP
  have tabLt : P < s1.heap.objs.size := Heap.lt_size tab1
  have tab2 := Heap.get?_push_of_some o tab1
  have big2 : (s1.heap.push o).objs.size = s1.heap.objs.size + 1 := Heap.size_push ..
  refine code_either hcode (TB.code.keeps fun b u e => Heap.get?_push_of_some _ (J.bk b u e)) tab2 trip fun code h3 tk more ext big tab3 trip3 => ?_
  -- what stood in s1 stands in h3, the table grown
  have stands : ∀ b u, b ≠ P → s1.heap.get? b = some u → h3.get? b = some u := fun b u ne e => ext b u ne (Heap.get?_push_of_some _ e)
  obtain ⟨statLt, statNe⟩ : cStatics < s1.heap.objs.size ∧ cStatics ≠ P := by
    obtain ⟨mc, ns, _⟩ := J.nolimit
    refine ⟨ns.lt, fun z => ?_⟩
    obtain ⟨o1, es, ep, ho, hd, _⟩ := ns
    rw [z, tab1] at ho
    cases ho
    cases hd
  obtain ⟨bm, ob, b1, b2, b3, b4, b5, b6, b7, b8⟩ := TB.bm
  have globs : h3.Ns X.env.globals X.mg := by
    rw [J.ok.glob]
    exact ((J.mod.glob.keeps J.bk).push o).extBut ext TB.gP
  refine wpAny_builtinsFor globs b1 b2 (stands _ _ b4 (J.bk _ _ b5)) b6 b7 b8 ?_
  have newLt : s1.heap.objs.size < h3.objs.size := by
    have big' : (s1.heap.push o).objs.size ≤ h3.objs.size := big
    omega
  refine ⟨s1.heap.objs.size, fp, [s1.heap.objs.size], n, Pf, St, (fun _ => true), (fun i y => y = .bool (pb i)), rfl, W, ?_, fun b hb => ?_, (J.nolimit.push o).extBut ext statNe, fun z => ?_, fun href up => ?_, ?_⟩
  · exact (W X.A hr.hd).frame _ _ _ at0 fun b hb u e => ext b u (fun z => apart (by rw [← z]; exact hb)) e
  · exact Nat.lt_of_le_of_lt (below b hb) newLt
  · exact Nat.ne_of_lt statLt (List.mem_singleton.mp z)
  · refine ⟨fun A' E' i v s₂ m₂ _ _ _ _ _ _ _ => ?_, fun A' E' i v s₂ m₂ h1 h2 h3' hv _ hn hx old => ?_⟩
    · rw [List.forIn_nil]
      exact wpAny_pure ⟨rfl, keeps_refl _⟩
    · refine test _ _ A' E' i v s₂ m₂ h1 h2 h3' hv (fun b u ne e => ?_) hn hx
      have lt := Heap.lt_size e
      refine old b (List.mem_range.mpr (Nat.lt_trans lt newLt)) (fun z => ?_) u (up _ _ (stands b u ne e))
      exact Nat.ne_of_lt lt (List.mem_singleton.mp z)
  · intro g h5 tk5 gs bare gBig gLast up5 WG atG
    rw [GxR.passing_true, List.length_range] at WG
    refine Calls.spliced_nil (call_all_walkS (WG.in4_1.self 0 _ _ _ atG ⟨g, _, _, _, n, _, _, pb, rfl, WG.in4_1, atG, fun j y sj Qj Ej item q => ?_, fun s' mv => ?_⟩))
    · obtain ⟨i, at_, rfl⟩ := item
      obtain ⟨_, ij⟩ := List.getElem?_eq_some_iff.mp at_
      rw [List.getElem_range] at ij
      rw [← ij]
      exact wpAny_truthy_bool q
    · -- behind the walk: the table has grown, all else stands
      have off : ∀ b u, s1.heap.get? b = some u → b ∉ h3.objs.size :: [s1.heap.objs.size] := fun b u e hb => by
        have lt := Heap.lt_size e
        rcases List.mem_cons.mp hb with z | z
        · exact Nat.lt_irrefl _ (Nat.lt_trans (by rw [← z]; exact lt) newLt)
        · exact Nat.ne_of_lt lt (List.mem_singleton.mp z)
      have K := inv_tab (more := more) (h' := s'.heap) (g' := s'.gens) (d' := s'.drawn) (t' := s'.toks) J hP (fun b u ne e => mv.heap b u (off b u e) (up5 b u (stands b u ne e)))
        (mv.heap P _ (off P _ tab1) (up5 P _ tab3)) (AllBare.movedS (J.bare.push bare) mv)
      rw [sh_eta s1 s' mv.os] at K
      exact ⟨.bl _, _, K, rfl, fin _ ⟨⟨ps ++ more, upd_same, trip3⟩, fun b ne => upd_ne ne⟩⟩
end
/-! ### captured names -/
theorem mem_of_lookup {α : Type} {n : Str} {c : α} : ∀ {l : List (Str × α)}, l.lookup n = some c → (n, c) ∈ l
  | (k, v) :: r, h => by
    rw [List.lookup_cons] at h
    by_cases e : n = k
    · have e' : (n == k) = true := by rw [e]; simp
      rw [e'] at h
      cases h
      rw [e]
      exact List.mem_cons_self
    · rw [beq_eq_false_iff_ne.mpr e] at h
      exact List.mem_cons_of_mem _ (mem_of_lookup h)
theorem cap_lookup {cells : List (Str × Addr)} {names : List (Str × NameKind)} {n : Str} {c : Addr} (hm : (n, NameKind.free) ∈ names) (hc : cells.lookup n = some c) : (cloFrom cells names []).lookup n = some c := by
  obtain ⟨d, hd⟩ := mem_lookup (cloFrom_has (acc := []) (cells := cells) hm)
  rcases cloFrom_mem (mem_of_lookup hd) with z | ⟨_, z⟩
  · cases z
  · rw [hd, z, hc]
    rfl
section
variable {X : Cx} {pins : List (Addr × Obj)} {σ : L2.St} {H : Hp} {s : Shared}
/-- the def's name y, captured, in slot i: what the block reads of it, wherever all that stood stands -/
theorem captured {scope : Scope} {y : Str} {i : Nat} {v : V} {P : Addr} {ps : Array Value} (I : Inv X pins σ H s) (hP : H P = some (.tbl ps)) (hc : X.env.scope.names.lookup y = some .cell) (hf : (y, NameKind.free) ∈ scope.names) (hN : X.N[i]? = some y) (hv : σ[i]? = some (some v)) :
    ∃ a u, (cloFrom X.env.cells scope.names []).lookup y = some a ∧ RelV v u ∧ ∀ h : Heap, (∀ b o, b ≠ P → s.heap.get? b = some o → h.get? b = some o) → h.IsCell a (some u) := by
  obtain ⟨m, _, hl⟩ := I.loc
  obtain ⟨u, ru, l⟩ := hl i y v hN hv (.inr (.inl hc))
  rcases l with ⟨k, _⟩ | ⟨_, a, ha, o, ho, hd⟩
  · have k' : X.env.scope.names.lookup y = some NameKind.local := k
    rw [hc] at k'
    cases k'
  · refine ⟨a, u, cap_lookup hf ha, ru, fun h up => ⟨o, up a o (fun z => ?_) ho, hd⟩⟩
    have t : s.heap.get? P = some { cls := .none, data := .fields ps } := I.hok P _ hP
    rw [z, t] at ho
    cases ho
    cases hd
/-- a text, sign by sign -/
theorem src_str {P : Addr} {ps : Array Value} {z : Str} {t : Tok} (I : Inv X pins σ H s) (hP : H P = some (.tbl ps)) : SrcOk X.prog X.w s.heap P (.str z t) z.cps.size (SignAt z) := by
  have tab : s.heap.get? P = some { cls := .none, data := .fields ps } := I.hok P _ hP
  refine ⟨[s.heap.objs.size], fun b hb => Nat.le_of_eq (List.mem_singleton.mp hb), fun hb => ?_, fun A E s2 Q e q => ?_⟩
  · exact Nat.ne_of_lt (Heap.lt_size tab) (List.mem_singleton.mp hb)
  · obtain ⟨h2, g2, d2, t2, o2⟩ := s2
    obtain rfl : h2 = s.heap := e
    exact wpAny_pyIter_str fun o St W at0 => q o St W at0
theorem walks_weaker {prog : Program} {w : World} {A : Around} {I : Addr} {fp wr : List Addr} {n : Nat} {Pf Pg : Nat → Value → Prop} {St : Nat → Heap → Prop} (W : Walks prog w A I fp wr n Pf St) (f : ∀ i v, Pf i v → Pg i v) : Walks prog w A I fp wr n Pg St :=
  ⟨W.sub, W.frame, fun i s Q E hi st q => W.item i s Q E hi st fun v h' tk y => q v h' tk (f i v y), W.done, W.self⟩
/-- a list -/
theorem src_lst {P l : Addr} {ps : Array Value} {xs : List V} (I : Inv X pins σ H s) (hP : H P = some (.tbl ps)) (hl : SqL X.K H l xs) : SrcOk X.prog X.w s.heap P (.ref l) xs.length (fun i v => ∃ x, xs[i]? = some x ∧ RelV x v) := by
  have tab : s.heap.get? P = some { cls := .none, data := .fields ps } := I.hok P _ hP
  obtain ⟨its, rv, pl, _⟩ := I.list hl
  have lst := pl.isList
  have len : its.toArray.size = xs.length := by rw [List.size_toArray, rv.length]
  have lt : l < s.heap.objs.size := by
    obtain ⟨_, e, _⟩ := _root_.id lst
    exact Heap.lt_size e
  refine ⟨[s.heap.objs.size, l], fun b hb => ?_, fun hb => ?_, fun A E s2 Q e q => ?_⟩
  rotate_left 2
  · obtain ⟨h2, g2, d2, t2, o2⟩ := s2
    obtain rfl : h2 = s.heap := e
    refine wpAny_pyIter_list lst (q _ (fun i h => h.IsListIter s.heap.objs.size l i ∧ h.IsList l its.toArray) (fun A' hA => ?_) ⟨⟨_, Heap.get?_push_size _ rfl, rfl, rfl⟩, lst.push _⟩)
    have W := Walks.list (prog := X.prog) (w := X.w) hA s.heap.objs.size l (Nat.ne_of_lt lt) its.toArray
    rw [len] at W
    refine walks_weaker W fun i v e => ?_
    have e' : its[i]? = some v := by simpa using e
    have hi : i < its.length := (List.getElem?_eq_some_iff.mp e').1
    have hi2 : i < xs.length := by rw [rv.length]; exact hi
    obtain ⟨u, hu, ru⟩ := rv.get (List.getElem?_eq_getElem hi2)
    rw [e'] at hu
    cases hu
    exact ⟨xs[i], List.getElem?_eq_getElem hi2, ru⟩
  · rcases List.mem_cons.mp hb with z | z
    · exact Nat.le_of_eq z
    · rw [List.mem_singleton.mp z]
      exact Nat.le_of_lt lt
  · rcases List.mem_cons.mp hb with z | z
    · exact Nat.ne_of_lt (Heap.lt_size tab) z
    · have z' := List.mem_singleton.mp z
      obtain ⟨o1, e1, _, _, d1⟩ := _root_.id lst
      rw [← z', tab] at e1
      cases e1
      cases d1
end
/-! ### «lo <= x <= hi», lo and hi captured texts -/
def between (lo hi : Str) (c : Nat) : Bool := !(decide ([c] < lo.cps.toList)) && !(decide (hi.cps.toList < [c]))
theorem elt_between {X : Cx} {pins : List (Addr × Obj)} {σ : L2.St} {H : Hp} {s : Shared} {scope : Scope} {x lo hi : Str} {z zl zh : Str} {P : Addr} {ps : Array Value} {i j : Nat} {p1 p2 p3 p4 : Pos} (I : Inv X pins σ H s) (hP : H P = some (.tbl ps))
    (hk : scope.kind = .function) (hl : scope.names.lookup x = some .local) (h1 : scope.names.lookup lo = some .free) (h2 : scope.names.lookup hi = some .free)
    (c1 : X.env.scope.names.lookup lo = some .cell) (c2 : X.env.scope.names.lookup hi = some .cell) (n1 : X.N[i]? = some lo) (n2 : X.N[j]? = some hi) (v1 : σ[i]? = some (some (.str zl))) (v2 : σ[j]? = some (some (.str zh)))
    (d0 : (x == ("__debug__" : Str)) = false := by decide) (d1 : (lo == ("__debug__" : Str)) = false := by decide) (d2 : (hi == ("__debug__" : Str)) = false := by decide) (e1 : (lo == ("__classdict__" : Str)) = false := by decide) (e2 : (hi == ("__classdict__" : Str)) = false := by decide) :
    EltG X scope x (.Compare (.Name lo p1) [.LtE, .LtE] [.Name x p2, .Name hi p3] p4) P s.heap (SignAt z) (fun k => between zl zh (z.cps.getD k 0)) := by
  obtain ⟨a, u, la, ru, ca⟩ := captured (scope := scope) I hP c1 (mem_of_lookup h1) n1 v1
  obtain ⟨b, v, lb, rv, cb⟩ := captured (scope := scope) I hP c2 (mem_of_lookup h2) n2 v2
  obtain ⟨ta, rfl⟩ := ru
  obtain ⟨tb, rfl⟩ := rv
  intro C code A' E' k item s₂ m₂ _ _ _ sign old ns hx
  obtain ⟨cc, tc, hcc, rfl⟩ := sign
  have gd : z.cps.getD k 0 = cc := by
    rw [Array.getD_eq_getD_getElem?, hcc]
    rfl
  refine Compare_chain ?_ (by with_unfolding_all rfl)
  refine wpAny_Name (wpAny_loadName_free hk (show scope.names.lookup lo = some .free from h1) la (ca _ old) ?_ e1) d1
  refine chain_link (wpAny_Name (wpAny_loadName_local hk (show scope.names.lookup x = some .local from hl) ns hx ?_) d0)
  refine PySem.P.le_str (wpAny_truthy_bool ?_)
  show (if (!decide (([cc] : List Nat) < zl.cps.toList)) = true then _ else _)
  by_cases q : ([cc] : List Nat) < zl.cps.toList
  · rw [decide_eq_true q]
    refine ite_ff ⟨?_, keeps_refl _⟩
    show _ = Value.bool (between zl zh (z.cps.getD k 0))
    rw [gd]
    unfold between
    rw [decide_eq_true q]
    rfl
  · rw [decide_eq_false q]
    refine ite_tt (chain_last ?_)
    refine wpAny_Name (wpAny_loadName_free hk (show scope.names.lookup hi = some .free from h2) lb (cb _ old) ?_ e2) d2
    refine PySem.P.le_str ⟨?_, keeps_refl _⟩
    show _ = Value.bool (between zl zh (z.cps.getD k 0))
    rw [gd]
    unfold between
    rw [decide_eq_false q]
    rfl
theorem range_all (z : Array Nat) (p : Nat → Bool) : (List.range z.size).all (fun k => p (z.getD k 0)) = z.toList.all p := by
  rw [Bool.eq_iff_iff, List.all_eq_true, List.all_eq_true]
  constructor
  · intro h b hb
    obtain ⟨j, hj, e⟩ := List.getElem_of_mem hb
    have hj' : j < z.size := by simpa using hj
    have q := h j (List.mem_range.mpr hj')
    rw [Array.getD_eq_getD_getElem?, Array.getElem?_eq_getElem hj'] at q
    rw [← e]
    simpa using q
  · intro h j hj
    have hj' := List.mem_range.mp hj
    rw [Array.getD_eq_getD_getElem?, Array.getElem?_eq_getElem hj']
    exact h _ (by simp)
end Gc

set_option Elab.async false
set_option linter.all false
set_option maxRecDepth 100000
set_option maxHeartbeats 4000000
namespace Ld
open PySem PySem.Spec PyProof.Rows L2
/-! ### the draws: mathematics -/
def dstep (p : Int × List Int) : Int × List Int := if p.1 > 0 then (p.1 / 65536, p.2 ++ [p.1 % 65536]) else p
def diter : Nat → Int × List Int → Int × List Int
  | 0, p => p
  | n + 1, p => dstep (diter n p)
def dabs (x : Int) : Int := if x < 0 then -x else x
def dmix1 (k r : Int) : Int := (r * 48271 + (k + 1) * 69621) % 2147483647
def dmix2 (k r : Int) : Int := (dmix1 k r * 16807 + 11 * k + 5) % 2147483629
def dcell (k x : Int) (ds : List Int) : List Int :=
  if (10 : Int) ^ (18 : Int).toNat ≤ dabs x then (diter 60 (dabs x, ds)).2
  else ds ++ [dmix2 k (dabs x) % 65536] ++ [dmix2 k (dabs x) / 65536 % 32768]
def drawsN (ns : List Int) : Nat → List Int
  | 0 => []
  | i + 1 => dcell (i : Nat) (ns.getD i 0) (drawsN ns i)
def drawsOf (ns : List Int) : List Int := drawsN ns ns.length
def DOk (ds : List Int) : Prop := ∀ x ∈ ds, 0 ≤ x ∧ x < 65536
theorem DOk.app {ds : List Int} {x : Int} (h : DOk ds) (h0 : 0 ≤ x) (h1 : x < 65536) : DOk (ds ++ [x]) := fun y hy => by
  rcases List.mem_append.mp hy with z | z
  · exact h y z
  · rw [List.mem_singleton.mp z]
    exact ⟨h0, h1⟩
theorem dstep_ok {p : Int × List Int} (h : DOk p.2) : DOk (dstep p).2 := by
  unfold dstep
  split
  · exact h.app (Int.emod_nonneg _ (by decide)) (Int.emod_lt_of_pos _ (by decide))
  · exact h
theorem dstep_len (p : Int × List Int) : (dstep p).2.length ≤ p.2.length + 1 := by
  unfold dstep
  split
  · show (p.2 ++ [p.1 % 65536]).length ≤ _
    rw [List.length_append, List.length_singleton]
    exact Nat.le_refl _
  · omega
theorem diter_ok {p : Int × List Int} (h : DOk p.2) : ∀ n, DOk (diter n p).2
  | 0 => h
  | n + 1 => dstep_ok (diter_ok h n)
theorem diter_len (p : Int × List Int) : ∀ n, (diter n p).2.length ≤ p.2.length + n
  | 0 => Nat.le_refl _
  | n + 1 => by
    have := dstep_len (diter n p)
    have := diter_len p n
    show (dstep (diter n p)).2.length ≤ _
    omega
theorem dcell_ok {k x : Int} {ds : List Int} (h : DOk ds) : DOk (dcell k x ds) := by
  unfold dcell
  split
  · exact diter_ok (p := (dabs x, ds)) h 60
  · have h1 : DOk (ds ++ [dmix2 k (dabs x) % 65536]) := h.app (Int.emod_nonneg _ (by decide)) (Int.emod_lt_of_pos _ (by decide))
    refine h1.app (Int.emod_nonneg _ (by decide)) ?_
    have : dmix2 k (dabs x) / 65536 % 32768 < 32768 := Int.emod_lt_of_pos _ (by decide)
    omega
theorem dcell_len (k x : Int) (ds : List Int) : (dcell k x ds).length ≤ ds.length + 60 := by
  unfold dcell
  split
  · exact diter_len (dabs x, ds) 60
  · simp only [List.length_append, List.length_singleton]
    omega
theorem drawsN_ok (ns : List Int) : ∀ n, DOk (drawsN ns n)
  | 0 => fun _ h => nomatch h
  | n + 1 => dcell_ok (drawsN_ok ns n)
theorem drawsN_len (ns : List Int) : ∀ n, (drawsN ns n).length ≤ 60 * n
  | 0 => Nat.le_refl _
  | n + 1 => by
    have := dcell_len (n : Nat) (ns.getD n 0) (drawsN ns n)
    have := drawsN_len ns n
    show (dcell _ _ _).length ≤ _
    omega
theorem drawsOf_len {ns : List Int} (h : ns.length ≤ 63) : (drawsOf ns).length ≤ 3780 := by
  have := drawsN_len ns ns.length
  unfold drawsOf
  omega
/-- a draw below many -/
def atD (ds : List Int) (k many : Int) : Int := if k < (ds.length : Int) then ds.getD k.toNat 0 % many else 0
theorem atD_lo (ds : List Int) (k : Int) {many : Int} (h : 0 < many) : 0 ≤ atD ds k many := by
  unfold atD
  split
  · exact Int.emod_nonneg _ (by omega)
  · exact Int.le_refl _
theorem atD_hi (ds : List Int) (k : Int) {many : Int} (h : 0 < many) : atD ds k many < many := by
  unfold atD
  split
  · exact Int.emod_lt_of_pos _ h
  · exact h
theorem getI {ns : List Int} {i : Nat} (h : i < ns.length) : (ns.map V.int)[i]? = some (V.int (ns.getD i 0)) := by
  rw [List.getElem?_map, List.getElem?_eq_getElem h, List.getD_eq_getElem?_getD, List.getElem?_eq_getElem h]
  rfl
theorem same_upd {H : Hp} {p : Addr} {o : HO} (h : H p = none) : Same H (upd H p o) := fun b x e => by
  rw [upd_ne (ne_of_none e h)]
  exact e
theorem small4000 {n : Nat} (h : n ≤ 4000) : n < sizeLine := Nat.lt_of_le_of_lt h (by decide)
end Ld

set_option Elab.async false
set_option linter.all false
set_option maxRecDepth 100000
set_option maxHeartbeats 4000000
/-! Reading a line, two ways: over codes alone. -/
namespace Ld
open PySem PySem.Spec PyProof.Rows L2 TL
/-! ### words (as in the law of words) -/
def wordB (z lo hi : Str) : Bool := decide (1 ≤ (z.length : Int)) && (decide ((z.length : Int) ≤ 12) && z.cps.toList.all (Gc.between lo hi))
def kindB (z : Str) : Bool := wordB z "A" "Z" && !decide (z = "OTHER")
def nameB (z : Str) : Bool := wordB z "a" "z"
def symB (z : Str) : Bool := kindB z || nameB z
theorem lt_one (a b : Nat) : (([a] : List Nat) < [b]) ↔ a < b := by
  simp [List.cons_lt_cons_iff]
theorem name_codes {z : Str} (h : nameB z = true) : ∀ c ∈ tl z, 97 ≤ c ∧ c ≤ 122 := by
  intro c hc
  unfold nameB wordB at h
  rw [Bool.and_eq_true, Bool.and_eq_true] at h
  have q := List.all_eq_true.mp h.2.2 c hc
  unfold Gc.between at q
  rw [show ("a" : Str).cps.toList = [97] from by decide +kernel, show ("z" : Str).cps.toList = [122] from by decide +kernel] at q
  simp only [Bool.and_eq_true, Bool.not_eq_true', decide_eq_false_iff_not, lt_one] at q
  omega
theorem name_no {z : Str} (h : nameB z = true) {c : Nat} (hc : c < 97) : c ∉ tl z := fun m => by
  have := name_codes h c m
  omega
abbrev Rule := Str × List Str
/-- the text's parts at a space, at a newline -/
theorem colon_tl : tl (":" : Str) = [58] := by decide +kernel
theorem space_tl : tl (" " : Str) = [32] := by decide +kernel
theorem nl_tl : tl ("\n" : Str) = [10] := by decide +kernel
theorem kind_space (x : Str) : ¬ Builtin.Str.strKind x < Builtin.Str.strKind (" " : Str) := kind_ok (by decide +kernel)
theorem kind_nl (x : Str) : ¬ Builtin.Str.strKind x < Builtin.Str.strKind ("\n" : Str) := kind_ok (by decide +kernel)
def spS (x : Str) : List Str := Txt.split x " "
theorem spS_tl (x : Str) : (spS x).map tl = spl [32] 0 [] (tl x) := by
  have h := split_spl x " " (by rw [space_tl]; simp) (kind_space x)
  rw [space_tl] at h
  exact h
theorem cut_first (s : Nat) : ∀ L : List Nat, s ∉ L ∨ ∃ p r, L = p ++ s :: r ∧ s ∉ p
  | [] => .inl (by simp)
  | c :: L => by
    by_cases e : c = s
    · exact .inr ⟨[], L, by rw [e]; rfl, by simp⟩
    · rcases cut_first s L with h | ⟨p, r, h1, h2⟩
      · exact .inl fun m => (List.mem_cons.mp m).elim (fun z => e z.symm) h
      · exact .inr ⟨c :: p, r, by rw [h1]; rfl, fun m => (List.mem_cons.mp m).elim (fun z => e z.symm) h2⟩
theorem spl_no {s : Nat} {p : List Nat} (h : s ∉ p) : spl [s] 0 [] p = [p] := by
  have := spl_last1 (S := []) (acc := []) h
  rw [this]
  rfl
theorem spl_at1 {s : Nat} {p r : List Nat} (h : s ∉ p) : spl [s] 0 [] (p ++ s :: r) = p :: spl [s] 0 [] r := by
  have := spl_part1 (S := []) (acc := []) (rest := r) h
  exact this
/-- split never gives the empty list; its head -/
theorem spl_ne (s : Nat) (L : List Nat) : ∃ p r, spl [s] 0 [] L = p :: r ∧ s ∉ p ∧ ∀ c ∈ p, c ∈ L := by
  rcases cut_first s L with h | ⟨p, r, rfl, h⟩
  · exact ⟨L, [], spl_no h, h, fun _ z => z⟩
  · exact ⟨p, _, spl_at1 h, h, fun c z => List.mem_append_left _ z⟩
/-! ### the program's way -/
def ruleOf (l : Str) : Option Rule :=
  if nameB (Txt.partition l ":").1 = true ∧ (Txt.partition l ":").2.1 ≠ Str.empty ∧ (spS (Txt.partition l ":").2.2).head? = some Str.empty ∧ (spS (Txt.partition l ":").2.2).tail.length ≤ 6 ∧ (spS (Txt.partition l ":").2.2).tail.all symB = true
  then some ((Txt.partition l ":").1, (spS (Txt.partition l ":").2.2).tail) else none
/-- the law's way; b0: the first word without its last sign -/
def endsColon (w : Str) : Prop := ∃ b : List Nat, tl w = b ++ [58]
def lawLine (l : Str) (w0 : Str) (ws : List Str) : Option Rule → Prop := fun o =>
  (o = none ∧ ¬ ∃ n : Str, tl w0 = tl n ++ [58] ∧ nameB n = true ∧ ws.length ≤ 6 ∧ ws.all symB = true) ∨
  ∃ n : Str, o = some (n, ws) ∧ tl w0 = tl n ++ [58] ∧ nameB n = true ∧ ws.length ≤ 6 ∧ ws.all symB = true
theorem str_of (l : List Nat) : ∃ z : Str, tl z = l := ⟨⟨l.toArray⟩, rfl⟩
theorem tl_inj {x y : Str} (h : tl x = tl y) : x = y := ext_tl h
theorem line_eq (l : Str) : ∃ w0 ws, spS l = w0 :: ws ∧ lawLine l w0 ws (ruleOf l) := by
  have hs := spS_tl l
  rcases cut_first 58 (tl l) with h | ⟨A, R, hL, hA⟩
  · -- no colon
    obtain ⟨p, r, e, _, sub⟩ := spl_ne 32 (tl l)
    rw [e] at hs
    cases hsl : spS l with
    | nil => rw [hsl] at hs; cases hs
    | cons w0 ws =>
      rw [hsl, List.map_cons] at hs
      injection hs with h1 h2
      refine ⟨w0, ws, rfl, .inl ⟨?_, ?_⟩⟩
      · unfold ruleOf
        rw [partition_none colon_tl h]
        rw [if_neg (fun z => z.2.1 rfl)]
      · rintro ⟨n, hn, _⟩
        refine h (sub 58 ?_)
        rw [← h1, hn]
        exact List.mem_append_right _ (List.mem_singleton.mpr rfl)
  · obtain ⟨a, ha⟩ := str_of A
    obtain ⟨r, hr⟩ := str_of R
    have el : l = a ++ (":" : Str) ++ r := tl_inj (by rw [tl_append, tl_append, ha, hr, colon_tl, hL]; simp)
    have ep : Txt.partition l ":" = (a, (":" : Str), r) := by
      rw [el]
      exact partition_app colon_tl (by rw [ha]; exact hA)
    have rr := spS_tl r
    rw [hr] at rr
    by_cases h32 : 32 ∈ A
    · -- a space ahead of the colon: no name
      obtain ⟨p, q, hp, np⟩ : ∃ p q, A = p ++ 32 :: q ∧ 32 ∉ p := by
        rcases cut_first 32 A with z | z
        · exact absurd h32 z
        · exact z
      rw [hL, hp, List.append_assoc, List.cons_append, spl_at1 np] at hs
      cases hsl : spS l with
      | nil => rw [hsl] at hs; cases hs
      | cons w0 ws =>
        rw [hsl, List.map_cons] at hs
        injection hs with h1 h2
        refine ⟨w0, ws, rfl, .inl ⟨?_, ?_⟩⟩
        · unfold ruleOf
          rw [ep, if_neg]
          intro z
          exact name_no z.1 (by decide : 32 < 97) (by rw [ha]; exact h32)
        · rintro ⟨n, hn, _⟩
          refine hA ?_
          rw [hp]
          refine List.mem_append_left _ ?_
          rw [← h1, hn]
          exact List.mem_append_right _ (List.mem_singleton.mpr rfl)
    · have h32' : 32 ∉ A ++ [58] := fun z => (List.mem_append.mp z).elim h32 fun z => by simp at z
      cases R with
      | nil =>
        rw [hL, spl_no h32'] at hs
        rw [spl_no (by simp)] at rr
        cases hsl : spS l with
        | nil => rw [hsl] at hs; cases hs
        | cons w0 ws =>
          rw [hsl, List.map_cons] at hs
          injection hs with h1 h2
          have ews : ws = [] := List.map_eq_nil_iff.mp h2
          subst ews
          cases hsr : spS r with
          | nil => rw [hsr] at rr; cases rr
          | cons v0 vs =>
            rw [hsr, List.map_cons] at rr
            injection rr with g1 g2
            have evs : vs = [] := List.map_eq_nil_iff.mp g2
            subst evs
            have ev0 : v0 = Str.empty := tl_inj g1
            refine ⟨w0, [], rfl, ?_⟩
            by_cases hn : nameB a = true
            · refine .inr ⟨a, ?_, by rw [h1, ha], hn, by decide, rfl⟩
              unfold ruleOf
              rw [ep]
              simp only [hsr]
              rw [if_pos ⟨hn, by decide +kernel, by rw [ev0]; rfl, Nat.zero_le _, rfl⟩]
              rfl
            · refine .inl ⟨?_, ?_⟩
              · unfold ruleOf
                rw [ep, if_neg fun z => hn z.1]
              · rintro ⟨n, hn2, hn3, _⟩
                have : n = a := tl_inj (by
                  rw [h1] at hn2
                  rw [ha]
                  exact (List.append_cancel_right hn2).symm)
                rw [this] at hn3
                exact hn hn3
      | cons c R' =>
        by_cases hc : c = 32
        · subst hc
          have e2 : tl l = (A ++ [58]) ++ 32 :: R' := by rw [hL]; simp
          rw [e2, spl_at1 h32'] at hs
          have e3 : spl [32] 0 [] (32 :: R') = [] :: spl [32] 0 [] R' := spl_at1 (p := []) (by simp)
          rw [e3] at rr
          cases hsl : spS l with
          | nil => rw [hsl] at hs; cases hs
          | cons w0 ws =>
            rw [hsl, List.map_cons] at hs
            injection hs with h1 h2
            cases hsr : spS r with
            | nil => rw [hsr] at rr; cases rr
            | cons v0 vs =>
              rw [hsr, List.map_cons] at rr
              injection rr with g1 g2
              have evs : vs = ws := map_tl_inj (g2.trans h2.symm)
              subst evs
              have ev0 : v0 = Str.empty := tl_inj g1
              refine ⟨w0, vs, rfl, ?_⟩
              by_cases hn : nameB a = true ∧ vs.length ≤ 6 ∧ vs.all symB = true
              · refine .inr ⟨a, ?_, by rw [h1, ha], hn⟩
                unfold ruleOf
                rw [ep]
                simp only [hsr]
                rw [if_pos ⟨hn.1, by decide +kernel, by rw [ev0]; rfl, hn.2.1, hn.2.2⟩]
                rfl
              · refine .inl ⟨?_, ?_⟩
                · unfold ruleOf
                  rw [ep]
                  simp only [hsr]
                  rw [if_neg fun z => hn ⟨z.1, z.2.2.2.1, z.2.2.2.2⟩]
                · rintro ⟨n, hn2, hn3, hn4⟩
                  have : n = a := tl_inj (by
                    rw [h1] at hn2
                    rw [ha]
                    exact (List.append_cancel_right hn2).symm)
                  rw [this] at hn3
                  exact hn ⟨hn3, hn4⟩
        · -- a sign right behind the colon
          have e2 : tl l = (A ++ [58]) ++ c :: R' := by rw [hL]; simp
          have first : ∀ (pp : List Nat), 32 ∉ pp → ∃ q t, spl [32] 0 [] (pp ++ c :: R') = (pp ++ c :: q) :: t := by
            intro pp hpp
            rcases cut_first 32 (c :: R') with z | ⟨p, q, hp, np⟩
            · refine ⟨R', [], spl_no fun m => ?_⟩
              rcases List.mem_append.mp m with m | m
              · exact hpp m
              · exact z m
            · cases p with
              | nil =>
                injection hp with x1 x2
                exact absurd x1 hc
              | cons d p' =>
                injection hp with x1 x2
                subst x1
                refine ⟨p', spl [32] 0 [] q, ?_⟩
                rw [x2]
                have n2 : 32 ∉ pp ++ c :: p' := fun m => (List.mem_append.mp m).elim hpp np
                have := spl_at1 (r := q) n2
                rw [List.append_assoc] at this
                exact this
          obtain ⟨q1, t1, f1⟩ := first (A ++ [58]) h32'
          obtain ⟨q2, t2, f2⟩ := first [] (by simp)
          rw [e2, f1] at hs
          rw [List.nil_append] at f2
          rw [f2, List.nil_append] at rr
          cases hsl : spS l with
          | nil => rw [hsl] at hs; cases hs
          | cons w0 ws =>
            rw [hsl, List.map_cons] at hs
            injection hs with h1 h2
            cases hsr : spS r with
            | nil => rw [hsr] at rr; cases rr
            | cons v0 vs =>
              rw [hsr, List.map_cons] at rr
              injection rr with g1 g2
              refine ⟨w0, ws, rfl, .inl ⟨?_, ?_⟩⟩
              · unfold ruleOf
                rw [ep]
                simp only [hsr]
                rw [if_neg]
                intro z
                have z3 := z.2.2.1
                rw [List.head?_cons] at z3
                have z4 : v0 = Str.empty := Option.some.inj z3
                rw [z4] at g1
                cases g1
              · rintro ⟨n, hn2, hn3, _⟩
                rw [h1] at hn2
                -- the name would hold the colon
                refine name_no hn3 (by decide : 58 < 97) ?_
                have e4 : tl n = (A ++ [58] ++ c :: q1).dropLast := by
                  rw [hn2, List.dropLast_concat]
                rw [e4, List.dropLast_append_of_ne_nil (by simp)]
                exact List.mem_append_left _ (List.mem_append_right _ (List.mem_singleton.mpr rfl))
end Ld

set_option Elab.async false
set_option linter.all false
set_option maxRecDepth 100000
set_option maxHeartbeats 4000000
/-! Grammars as texts, read and written: over codes alone; and as data that is compared. -/
namespace Ld
open PySem PySem.Spec PyProof.Rows L2 TL
/-! ### a word's signs, two ways -/
def bigL : Str := "ABCDEFGHIJKLMNOPQRSTUVWXYZ"
def lowL : Str := "abcdefghijklmnopqrstuvwxyz"
theorem bigL_codes : bigL.cps.toList = [65, 66, 67, 68, 69, 70, 71, 72, 73, 74, 75, 76, 77, 78, 79, 80, 81, 82, 83, 84, 85, 86, 87, 88, 89, 90] := by decide +kernel
theorem lowL_codes : lowL.cps.toList = [97, 98, 99, 100, 101, 102, 103, 104, 105, 106, 107, 108, 109, 110, 111, 112, 113, 114, 115, 116, 117, 118, 119, 120, 121, 122] := by decide +kernel
theorem between_big (c : Nat) : Gc.between "A" "Z" c = decide (c ∈ bigL.cps.toList) := by
  unfold Gc.between
  rw [show ("A" : Str).cps.toList = [65] from by decide +kernel, show ("Z" : Str).cps.toList = [90] from by decide +kernel, bigL_codes]
  rw [Bool.eq_iff_iff]
  simp only [Bool.and_eq_true, Bool.not_eq_true', decide_eq_false_iff_not, decide_eq_true_eq, lt_one, List.mem_cons, List.not_mem_nil, or_false]
  omega
theorem between_low (c : Nat) : Gc.between "a" "z" c = decide (c ∈ lowL.cps.toList) := by
  unfold Gc.between
  rw [show ("a" : Str).cps.toList = [97] from by decide +kernel, show ("z" : Str).cps.toList = [122] from by decide +kernel, lowL_codes]
  rw [Bool.eq_iff_iff]
  simp only [Bool.and_eq_true, Bool.not_eq_true', decide_eq_false_iff_not, decide_eq_true_eq, lt_one, List.mem_cons, List.not_mem_nil, or_false]
  omega
def outs (z l : List Nat) : List Nat := z.filter fun c => !decide (c ∈ l)
theorem outs_more {z l : List Nat} {i c : Nat} (h : z[i]? = some c) : outs (z.take (i + 1)) l = outs (z.take i) l ++ (if c ∈ l then [] else [c]) := by
  unfold outs
  rw [List.take_add_one, h, List.filter_append]
  congr 1
  by_cases e : c ∈ l
  · simp [e]
  · simp [e]
theorem outs_len (z l : List Nat) : (outs z l).length ≤ z.length := List.length_filter_le _ _
theorem all_outs (l m : List Nat) (p : Nat → Bool) (hp : ∀ c, p c = decide (c ∈ m)) : l.all p = decide (outs l m = []) := by
  rw [Bool.eq_iff_iff, List.all_eq_true, decide_eq_true_eq]
  unfold outs
  rw [List.filter_eq_nil_iff]
  constructor
  · intro h c hc
    have h2 := h c hc
    rw [hp] at h2
    rw [h2]
    simp
  · intro h c hc
    have h2 := h c hc
    rw [hp]
    simpa using h2
def sizeB (z : Str) : Bool := decide (1 ≤ (z.length : Int)) && decide ((z.length : Int) ≤ 12)
theorem word_big (z : Str) : wordB z "A" "Z" = (sizeB z && decide (outs (tl z) (tl bigL) = [])) := by
  unfold wordB sizeB
  rw [all_outs _ bigL.cps.toList _ between_big, Bool.and_assoc]
theorem word_low (z : Str) : wordB z "a" "z" = (sizeB z && decide (outs (tl z) (tl lowL) = [])) := by
  unfold wordB sizeB
  rw [all_outs _ lowL.cps.toList _ between_low, Bool.and_assoc]
/-! ### lines and texts -/
def lineT (r : Rule) : List Nat := tl r.1 ++ 58 :: r.2.flatMap (fun s => 32 :: tl s)
def writeT (G : List Rule) : List Nat := G.flatMap (fun r => lineT r ++ [10])
def lineS (r : Rule) : Str := r.1 ++ (":" : Str) ++ Txt.join "" (r.2.map (fun s => (" " : Str) ++ s)) ++ ("\n" : Str)
def writeS (G : List Rule) : Str := Txt.join "" (G.map lineS)
theorem nil_tl : tl ("" : Str) = [] := by decide +kernel
theorem joinL_nil : ∀ l : List (List Nat), joinL [] l = l.flatten
  | [] => rfl
  | [p] => by simp [joinL]
  | p :: q :: r => by
    show p ++ ([] ++ joinL [] (q :: r)) = _
    rw [joinL_nil (q :: r)]
    simp
theorem join0_tl (parts : List Str) : tl (Txt.join "" parts) = parts.flatMap tl := by
  rw [join_eq, tl_join, nil_tl, joinL_nil, List.flatMap_def]
theorem lineS_tl (r : Rule) : tl (lineS r) = lineT r ++ [10] := by
  unfold lineS lineT
  rw [tl_append, tl_append, tl_append, join0_tl, colon_tl, nl_tl, List.flatMap_map]
  have : (fun s : Str => tl ((" " : Str) ++ s)) = fun s => 32 :: tl s := by
    funext s
    rw [tl_append, space_tl]
    rfl
  rw [this]
  simp
theorem writeS_tl (G : List Rule) : tl (writeS G) = writeT G := by
  unfold writeS writeT
  rw [join0_tl, List.flatMap_map]
  congr 1
  funext r
  exact lineS_tl r
theorem joinL_space : ∀ (l : List (List Nat)) (p : List Nat), joinL [32] (p :: l) = p ++ l.flatMap (fun s => 32 :: s)
  | [], p => by simp [joinL]
  | q :: r, p => by
    show p ++ ([32] ++ joinL [32] (q :: r)) = _
    rw [joinL_space r q]
    simp
theorem law_line (r : Rule) : Txt.join " " ((r.1 ++ (":" : Str)) :: r.2) ++ ("\n" : Str) = lineS r := by
  refine tl_inj ?_
  rw [tl_append, join_eq, tl_join, List.map_cons, space_tl, joinL_space, lineS_tl, tl_append, colon_tl, nl_tl, List.flatMap_map]
  unfold lineT
  simp
theorem writeS_nil : writeS [] = ("" : Str) := by decide +kernel
theorem writeS_snoc (G : List Rule) (r : Rule) : writeS (G ++ [r]) = writeS G ++ Txt.join " " ((r.1 ++ (":" : Str)) :: r.2) ++ ("\n" : Str) := by
  refine tl_inj ?_
  have e := law_line r
  have e2 := congrArg tl e
  rw [tl_append, lineS_tl] at e2
  rw [writeS_tl, tl_append, tl_append, writeS_tl, List.append_assoc, e2]
  unfold writeT
  simp
/-! ### the reading -/
def GoodR (r : Rule) : Prop := nameB r.1 = true ∧ r.2.length ≤ 6 ∧ r.2.all symB = true
theorem kind_codes {z : Str} (h : kindB z = true) : ∀ c ∈ tl z, 65 ≤ c ∧ c ≤ 90 := by
  intro c hc
  unfold kindB wordB at h
  rw [Bool.and_eq_true, Bool.and_eq_true, Bool.and_eq_true] at h
  have q := List.all_eq_true.mp h.1.2.2 c hc
  unfold Gc.between at q
  rw [show ("A" : Str).cps.toList = [65] from by decide +kernel, show ("Z" : Str).cps.toList = [90] from by decide +kernel] at q
  simp only [Bool.and_eq_true, Bool.not_eq_true', decide_eq_false_iff_not, lt_one] at q
  omega
theorem sym_codes {z : Str} (h : symB z = true) : ∀ c ∈ tl z, 65 ≤ c ∧ c ≤ 122 := by
  intro c hc
  unfold symB at h
  rw [Bool.or_eq_true] at h
  rcases h with h | h
  · have := kind_codes h c hc
    omega
  · have := name_codes h c hc
    omega
theorem spl_syms : ∀ (ss : List (List Nat)), (∀ p ∈ ss, 32 ∉ p) → spl [32] 0 [] (ss.flatMap fun s => 32 :: s) = [] :: ss
  | [], _ => spl_no (p := []) (fun m => nomatch m)
  | q :: r, h => by
    have e : ((q :: r).flatMap fun s => 32 :: s) = [] ++ 32 :: joinL [32] (q :: r) := by
      rw [joinL_space]
      simp
    rw [e, spl_at1 (by simp), spl_join (by simp) h]
theorem rule_back {l : Str} {r : Rule} (h : tl l = lineT r) (g : GoodR r) : ruleOf l = some r := by
  obtain ⟨rest, hr⟩ := str_of (r.2.flatMap fun s => 32 :: tl s)
  have el : l = r.1 ++ (":" : Str) ++ rest := tl_inj (by rw [h, tl_append, tl_append, hr, colon_tl]; unfold lineT; simp)
  have ep : Txt.partition l ":" = (r.1, (":" : Str), rest) := by
    rw [el]
    exact partition_app colon_tl (name_no g.1 (by decide))
  have es : spS rest = Str.empty :: r.2 := by
    refine map_tl_inj ?_
    rw [spS_tl, hr, List.map_cons]
    have := spl_syms (r.2.map tl) fun p hp => by
      obtain ⟨s, hs, rfl⟩ := List.mem_map.mp hp
      intro z
      have := sym_codes (List.all_eq_true.mp g.2.2 s hs) 32 z
      omega
    rw [List.flatMap_map] at this
    rw [this]
    rfl
  unfold ruleOf
  rw [ep]
  simp only [es]
  rw [if_pos ⟨g.1, by decide +kernel, rfl, g.2.1, g.2.2⟩]
  rfl
theorem rule_good {l : Str} {r : Rule} (h : ruleOf l = some r) : GoodR r := by
  unfold ruleOf at h
  split at h
  · rename_i c
    obtain rfl := Option.some.inj h
    exact ⟨c.1, c.2.2.2.1, c.2.2.2.2⟩
  · cases h
inductive Rd
  | line (k : Nat)
  | taken (k : Nat)
  | large (k : Nat)
  | good (G : List Rule)
def rdGo : Nat → List Rule → List Str → Rd
  | _, G, [] => .good G
  | k, G, l :: ls => match ruleOf l with
    | none => .line k
    | some r => if r ∈ G then .taken k else if 24 ≤ k then .large k else rdGo (k + 1) (G ++ [r]) ls
def rdEnd (n : Nat) (u : Str) : Rd → Rd
  | .good G => if u ≠ "" ∨ n = 0 then .line n else .good G
  | x => x
/-- what reading a text gives: of its parts at newlines, the last one apart -/
def rd (ls : List Str) : Rd := rdEnd ls.dropLast.length (ls.getLast?.getD "") (rdGo 0 [] ls.dropLast)
def linesOf (x : Str) : List Str := Txt.split x "\n"
theorem linesOf_tl (x : Str) : (linesOf x).map tl = spl [10] 0 [] (tl x) := by
  have h := split_spl x "\n" (by rw [nl_tl]; simp) (kind_nl x)
  rw [nl_tl] at h
  exact h
theorem linesOf_ne (x : Str) : linesOf x ≠ [] := fun e => by
  have h := linesOf_tl x
  obtain ⟨p, r, q, _⟩ := spl_ne 10 (tl x)
  rw [e, q] at h
  cases h
theorem spl_lines : ∀ G : List Rule, (∀ r ∈ G, 10 ∉ lineT r) → spl [10] 0 [] (writeT G) = G.map lineT ++ [[]]
  | [], _ => spl_no (p := []) (fun m => nomatch m)
  | r :: G, h => by
    have e : writeT (r :: G) = lineT r ++ 10 :: writeT G := by
      unfold writeT
      simp
    rw [e, spl_at1 (h r List.mem_cons_self), spl_lines G fun q hq => h q (List.mem_cons_of_mem _ hq)]
    rfl
theorem line_no10 {r : Rule} (g : GoodR r) : 10 ∉ lineT r := by
  intro m
  unfold lineT at m
  rcases List.mem_append.mp m with m | m
  · exact name_no g.1 (by decide) m
  · rcases List.mem_cons.mp m with m | m
    · cases m
    · obtain ⟨s, hs, q⟩ := List.mem_flatMap.mp m
      rcases List.mem_cons.mp q with q | q
      · cases q
      · have := sym_codes (List.all_eq_true.mp g.2.2 s hs) 10 q
        omega
def lineO (r : Rule) : Str := ⟨(lineT r).toArray⟩
theorem lines_back {x : Str} {G : List Rule} (h : tl x = writeT G) (g : ∀ r ∈ G, GoodR r) : linesOf x = G.map lineO ++ [("" : Str)] := by
  refine map_tl_inj ?_
  rw [linesOf_tl, h, spl_lines G fun r hr => line_no10 (g r hr), List.map_append, List.map_map]
  rfl
theorem rdGo_back : ∀ (G A : List Rule), (∀ r ∈ G, GoodR r) → (A ++ G).Nodup → A.length + G.length ≤ 24 → rdGo A.length A (G.map lineO) = .good (A ++ G)
  | [], A, _, _, _ => by
    rw [List.append_nil]
    rfl
  | r :: G, A, g, nd, h => by
    rw [List.map_cons]
    unfold rdGo
    rw [rule_back (l := lineO r) (r := r) rfl (g r List.mem_cons_self)]
    have h2 : r ∉ A := fun m => by
      rw [List.nodup_append] at nd
      exact nd.2.2 r m r List.mem_cons_self rfl
    have h3 : A.length + G.length + 1 ≤ 24 := by
      rw [List.length_cons] at h
      omega
    simp only
    rw [if_neg h2, if_neg (by omega)]
    have e : A ++ r :: G = (A ++ [r]) ++ G := by simp
    have l : A.length + 1 = (A ++ [r]).length := by simp
    rw [e, l]
    refine rdGo_back G (A ++ [r]) (fun q hq => g q (List.mem_cons_of_mem _ hq)) (by rw [← e]; exact nd) ?_
    rw [← l]
    omega
/-- THE READ-BACK -/
theorem rd_back {G : List Rule} (g : ∀ r ∈ G, GoodR r) (nd : G.Nodup) (n0 : G ≠ []) (h : G.length ≤ 24) : rd (linesOf (writeS G)) = .good G := by
  rw [lines_back (writeS_tl G) g]
  unfold rd
  rw [List.dropLast_concat, List.getLast?_concat]
  have := rdGo_back G [] g nd (by simpa using h)
  rw [List.length_nil, List.nil_append] at this
  rw [this]
  unfold rdEnd
  simp only
  rw [if_neg]
  rintro (z | z)
  · exact z rfl
  · rw [List.length_map] at z
    exact n0 (List.eq_nil_of_length_eq_zero z)
theorem rd_empty : rd (linesOf "") = .line 0 := by
  have e : linesOf "" = [("" : Str)] := by
    refine map_tl_inj ?_
    rw [linesOf_tl, nil_tl, spl_no (by simp)]
    rfl
  rw [e]
  unfold rd rdEnd rdGo
  simp
/-! ### lengths of parts -/
theorem spl_bound (s : Nat) : ∀ (n : Nat) (L : List Nat), L.length ≤ n → ∀ p ∈ spl [s] 0 [] L, p.length ≤ L.length
  | n, L, h => by
    rcases cut_first s L with c | ⟨p, r, rfl, c⟩
    · rw [spl_no c]
      intro q hq
      rw [List.mem_singleton.mp hq]
      exact Nat.le_refl _
    · rw [spl_at1 c]
      intro q hq
      rw [List.length_append, List.length_cons] at h ⊢
      rcases List.mem_cons.mp hq with z | z
      · rw [z]
        omega
      · cases n with
        | zero => omega
        | succ m =>
          have := spl_bound s m r (by omega) q z
          omega
theorem spl_count (s : Nat) : ∀ (n : Nat) (L : List Nat), L.length ≤ n → (spl [s] 0 [] L).length ≤ L.length + 1
  | n, L, h => by
    rcases cut_first s L with c | ⟨p, r, rfl, c⟩
    · rw [spl_no c]
      show 1 ≤ _
      omega
    · rw [spl_at1 c]
      rw [List.length_append, List.length_cons] at h ⊢
      cases n with
      | zero => omega
      | succ m =>
        have := spl_count s m r (by omega)
        rw [List.length_cons]
        omega
theorem map_len {l : List Str} {p : Str} (h : p ∈ l) {n : Nat} (b : ∀ q ∈ l.map tl, q.length ≤ n) : p.length ≤ n := by
  rw [len_tl]
  exact b _ (List.mem_map.mpr ⟨p, h, rfl⟩)
theorem spS_len {x p : Str} (h : p ∈ spS x) : p.length ≤ x.length := map_len h (by rw [spS_tl, len_tl]; exact spl_bound 32 _ _ (Nat.le_refl _))
theorem lines_len {x p : Str} (h : p ∈ linesOf x) : p.length ≤ x.length := map_len h (by rw [linesOf_tl, len_tl]; exact spl_bound 10 _ _ (Nat.le_refl _))
theorem spS_count (x : Str) : (spS x).length ≤ x.length + 1 := by
  have := spl_count 32 _ (tl x) (Nat.le_refl _)
  rw [← spS_tl, List.length_map, ← len_tl] at this
  exact this
theorem lines_count (x : Str) : (linesOf x).length ≤ x.length + 1 := by
  have := spl_count 10 _ (tl x) (Nat.le_refl _)
  rw [← linesOf_tl, List.length_map, ← len_tl] at this
  exact this
theorem spS_cons (x : Str) : ∃ w ws, spS x = w :: ws := by
  cases h : spS x with
  | cons w ws => exact ⟨w, ws, rfl⟩
  | nil =>
    obtain ⟨p, r, e, _⟩ := spl_ne 32 (tl x)
    have := spS_tl x
    rw [h, e] at this
    cases this
theorem part_len (z : Str) : (Txt.partition z ":").1.length ≤ z.length ∧ (Txt.partition z ":").2.2.length ≤ z.length := by
  rcases cut_first 58 (tl z) with h | ⟨A, R, hL, hA⟩
  · rw [partition_none colon_tl h]
    exact ⟨Nat.le_refl _, Nat.zero_le _⟩
  · obtain ⟨a, ha⟩ := str_of A
    obtain ⟨r, hr⟩ := str_of R
    have el : z = a ++ (":" : Str) ++ r := tl_inj (by rw [tl_append, tl_append, ha, hr, colon_tl, hL]; simp)
    have ep : Txt.partition z ":" = (a, (":" : Str), r) := by
      rw [el]
      exact partition_app colon_tl (by rw [ha]; exact hA)
    rw [ep, len_tl z, hL, List.length_append, List.length_cons, len_tl a, len_tl r, ha, hr]
    omega
theorem cutV_tail (x : V) (xs : List V) : cutV (x :: xs) (some 1) none = xs := by
  unfold cutV HT.sIx
  simp only [List.length_cons]
  have e : min (1 : Int).toNat (xs.length + 1) = 1 := by
    have : (1 : Int).toNat = 1 := rfl
    omega
  rw [if_neg (by decide)]
  rw [e]
  simp
/-! ### as data -/
def ruleD (r : Rule) : PyData := .tuple [.str r.1, .list (r.2.map PyData.str)]
def gD (G : List Rule) : PyData := .list (G.map ruleD)
theorem strs_eqv : ∀ xs ys : List Str, PyData.eqvAll (xs.map PyData.str) (ys.map PyData.str) = decide (xs = ys)
  | [], [] => by simp [PyData.eqvAll]
  | [], _ :: _ => by simp [PyData.eqvAll]
  | _ :: _, [] => by simp [PyData.eqvAll]
  | x :: xs, y :: ys => by
    rw [List.map_cons, List.map_cons, PyData.eqvAll, strs_eqv xs ys, PyData.eqv, Bool.eq_iff_iff]
    simp
theorem ruleD_eqv (r q : Rule) : PyData.eqv (ruleD r) (ruleD q) = decide (r = q) := by
  obtain ⟨a, s⟩ := r
  obtain ⟨b, t⟩ := q
  unfold ruleD
  rw [PyData.eqv, PyData.eqvAll, PyData.eqvAll, PyData.eqvAll, PyData.eqv, PyData.eqv, strs_eqv, Bool.eq_iff_iff]
  simp
theorem ruleD_in (G : List Rule) (r : Rule) : ((G.map ruleD).any fun z => PyData.eqv z (ruleD r)) = decide (r ∈ G) := by
  rw [Bool.eq_iff_iff, List.any_eq_true, decide_eq_true_eq]
  constructor
  · rintro ⟨z, hz, e⟩
    obtain ⟨q, hq, rfl⟩ := List.mem_map.mp hz
    rw [ruleD_eqv, decide_eq_true_eq] at e
    rw [← e]
    exact hq
  · intro h
    exact ⟨ruleD r, List.mem_map.mpr ⟨r, h, rfl⟩, by rw [ruleD_eqv]; simp⟩
theorem strOk_sym {z : Str} (h : symB z = true) : PyData.strOk z = true := by
  unfold PyData.strOk
  rw [Array.all_eq_true']
  intro c hc
  have := sym_codes h c (by simpa using hc)
  exact decide_eq_true (by omega)
theorem strs_lay : ∀ {ss : List Str}, (∀ s ∈ ss, PyData.strOk s = true) → PyData.canLayAll0 (ss.map PyData.str) = true
  | [], _ => by simp [PyData.canLayAll0]
  | s :: ss, h => by
    rw [List.map_cons, PyData.canLayAll0, PyData.canLay0, h s List.mem_cons_self, strs_lay fun z hz => h z (List.mem_cons_of_mem _ hz)]
    rfl
theorem strs_depth : ∀ ss : List Str, PyData.depthAll (ss.map PyData.str) ≤ 0
  | [] => by simp [PyData.depthAll]
  | s :: ss => by
    have := strs_depth ss
    simp only [List.map_cons, PyData.depthAll, PyData.depth]
    omega
theorem rule_lay {r : Rule} (g : GoodR r) : (ruleD r).canLay0 = true := by
  have h1 : PyData.strOk r.1 = true := strOk_sym (by unfold symB; rw [g.1, Bool.or_true])
  have h2 := strs_lay (ss := r.2) fun s hs => strOk_sym (List.all_eq_true.mp g.2.2 s hs)
  simp [ruleD, PyData.canLay0, PyData.canLayAll0, h1, h2]
theorem rule_depth (r : Rule) : (ruleD r).depth ≤ 2 := by
  have h := strs_depth r.2
  simp only [ruleD, PyData.depth, PyData.depthAll]
  omega
theorem rules_lay : ∀ {G : List Rule}, (∀ r ∈ G, GoodR r) → PyData.canLayAll0 (G.map ruleD) = true
  | [], _ => by simp [PyData.canLayAll0]
  | r :: G, g => by
    rw [List.map_cons, PyData.canLayAll0, rule_lay (g r List.mem_cons_self), rules_lay fun q hq => g q (List.mem_cons_of_mem _ hq)]
    rfl
theorem rules_depth : ∀ G : List Rule, PyData.depthAll (G.map ruleD) ≤ 2
  | [] => by simp [PyData.depthAll]
  | r :: G => by
    have h1 := rules_depth G
    have h2 := rule_depth r
    simp only [List.map_cons, PyData.depthAll]
    omega
theorem shaped_mk {d : PyData} (h1 : d.canLay0 = true) (h2 : d.depth ≤ 64) : SeqAt.shaped d = true := by
  unfold SeqAt.shaped
  rw [h1, decide_eq_true h2]
  rfl
theorem rule_shaped {r : Rule} (g : GoodR r) : SeqAt.shaped (ruleD r) = true := shaped_mk (rule_lay g) (by have := rule_depth r; omega)
theorem gD_shaped {G : List Rule} (g : ∀ r ∈ G, GoodR r) : SeqAt.shaped (gD G) = true := shaped_mk (by unfold gD; rw [PyData.canLay0]; exact rules_lay g) (by
  have := rules_depth G
  unfold gD
  simp only [PyData.depth]
  omega)
theorem eqv_self {d : PyData} (h : SeqAt.shaped d = true) : PyData.eqv d d = true := SeqAt.eqv_refl d (SeqAt.canLay_of_shaped h)
/-! ### what a reading gives, as data -/
def rdD : Rd → PyData
  | .line k => .tuple [.str "line", .int k]
  | .taken k => .tuple [.str "taken", .int k]
  | .large k => .tuple [.str "large", .int k]
  | .good G => .tuple [.str "grammar", gD G]
def RdOk : Rd → Prop
  | .good G => ∀ r ∈ G, GoodR r
  | _ => True
theorem rd_shaped {x : Rd} (h : RdOk x) : SeqAt.shaped (rdD x) = true := by
  cases x with
  | line k => exact shaped_mk (by simp [rdD, PyData.canLay0, PyData.canLayAll0]; decide +kernel) (by simp [rdD, PyData.depth, PyData.depthAll])
  | taken k => exact shaped_mk (by simp [rdD, PyData.canLay0, PyData.canLayAll0]; decide +kernel) (by simp [rdD, PyData.depth, PyData.depthAll])
  | large k => exact shaped_mk (by simp [rdD, PyData.canLay0, PyData.canLayAll0]; decide +kernel) (by simp [rdD, PyData.depth, PyData.depthAll])
  | good G =>
    have h1 : (gD G).canLay0 = true := SeqAt.canLay_of_shaped (gD_shaped h)
    have h2 : (gD G).depth ≤ 64 - 1 := by
      have := rules_depth G
      unfold gD
      simp only [PyData.depth]
      omega
    refine shaped_mk ?_ ?_
    · simp only [rdD, PyData.canLay0, PyData.canLayAll0, h1, Bool.and_true]
      decide +kernel
    · simp only [rdD, PyData.depth, PyData.depthAll]
      omega
end Ld

set_option Elab.async false
set_option linter.all false
set_option maxRecDepth 100000
set_option maxHeartbeats 4000000
/-! What stands stands, tables may grow; grammars in the heap. -/
namespace Ld
open PySem PySem.Spec PyProof.Rows L2 TL
/-- what stood stands, but that tables stay tables -/
def Up (H H2 : Hp) : Prop := ∀ b o, H b = some o → H2 b = some o ∨ ∃ ps qs, o = .tbl ps ∧ H2 b = some (.tbl qs)
theorem Up.refl (H : Hp) : Up H H := fun _ _ h => .inl h
theorem Up.trans {A B C : Hp} (u : Up A B) (v : Up B C) : Up A C := fun b o h => by
  rcases u b o h with e | ⟨ps, qs, rfl, e⟩
  · exact v b o e
  · rcases v b _ e with e2 | ⟨_, q2, _, e2⟩
    · exact .inr ⟨ps, qs, rfl, e2⟩
    · exact .inr ⟨ps, q2, rfl, e2⟩
theorem Up.dom {A B : Hp} (u : Up A B) {b : Addr} (h : B b = none) : A b = none := by
  cases e : A b with
  | none => rfl
  | some o =>
    rcases u b o e with e2 | ⟨_, _, _, e2⟩
    · rw [h] at e2; cases e2
    · rw [h] at e2; cases e2
theorem Up.lst {A B : Hp} (u : Up A B) {a : Addr} {xs : List V} (h : A a = some (.lst xs)) : B a = some (.lst xs) := by
  rcases u a _ h with e | ⟨_, _, z, _⟩
  · exact e
  · cases z
theorem Up.tup {A B : Hp} (u : Up A B) {a : Addr} {xs : List V} (h : A a = some (.tup xs)) : B a = some (.tup xs) := by
  rcases u a _ h with e | ⟨_, _, z, _⟩
  · exact e
  · cases z
theorem Up.xd {A B : Hp} (u : Up A B) {a : Addr} {fs : List (Str × V)} (h : A a = some (.xd fs)) : B a = some (.xd fs) := by
  rcases u a _ h with e | ⟨_, _, z, _⟩
  · exact e
  · cases z
theorem Up.seq {K : PySem.W.Frag} {A B : Hp} (u : Up A B) {a : Addr} {xs : List V} (h : SqL K A a xs) : SqL K B a xs := by
  rcases h with h | h
  · left
    rcases h with h | ⟨o, h⟩
    · exact .inl (u.lst h)
    · right
      refine ⟨o, ?_⟩
      rcases u a _ h with e | ⟨_, _, z, _⟩
      · exact e
      · cases z
  · exact .inr h
theorem Up.seqT {K : PySem.W.Frag} {A B : Hp} (u : Up A B) {a : Addr} {xs : List V} (h : SqT K A a xs) : SqT K B a xs := by
  rcases h with h | h
  · left
    rcases h with h | ⟨o, h⟩
    · exact .inl (u.tup h)
    · right
      refine ⟨o, ?_⟩
      rcases u a _ h with e | ⟨_, _, z, _⟩
      · exact e
      · cases z
  · exact .inr h
theorem Up.of_same {A B : Hp} (h : Same A B) : Up A B := fun b o e => .inl (h b o e)
theorem Up.upd {A B : Hp} (u : Up A B) {p : Addr} {o : HO} (n : A p = none) : Up A (upd B p o) := fun b x e => by
  have ne : b ≠ p := fun z => by rw [z, n] at e; cases e
  rw [upd_ne ne]
  exact u b x e
theorem Up.put (A : Hp) {p : Addr} {o : HO} (n : A p = none) : Up A (L2.upd A p o) := (Up.refl A).upd n
theorem Up.tabbed {A B : Hp} {T : Addr} (t : GxR.TabG A T) (h : GxR.Tabbed T A B) : Up A B := fun b o e => by
  by_cases z : b = T
  · subst z
    obtain ⟨ps, e1, _⟩ := t
    obtain ⟨qs, e2, _⟩ := h.1
    rw [e1] at e
    cases e
    exact .inr ⟨ps, qs, rfl, e2⟩
  · rw [← h.2 b z] at e
    exact .inl e
/-- the two tables -/
def Tb (T1 T2 : Addr) (H : Hp) : Prop := GxR.TabG H T1 ∧ GxR.TabG H T2
theorem tabG_upd {H : Hp} {T p : Addr} {o : HO} (h : GxR.TabG H T) (n : p ≠ T) : GxR.TabG (upd H p o) T := by
  obtain ⟨ps, e, t⟩ := h
  exact ⟨ps, by rw [upd_ne (Ne.symm n)]; exact e, t⟩
theorem tabG_new {H : Hp} {T p : Addr} {o : HO} (h : GxR.TabG H T) (n : H p = none) : GxR.TabG (upd H p o) T := tabG_upd h fun z => by
  obtain ⟨ps, e, _⟩ := h
  rw [z, e] at n
  cases n
theorem tabG_in {H : Hp} {T p : Addr} {o u : HO} (h : GxR.TabG H T) (n : H p = some u) (k : ∀ ps, u ≠ .tbl ps) : GxR.TabG (upd H p o) T := tabG_upd h fun z => by
  obtain ⟨ps, e, _⟩ := h
  rw [z, e] at n
  cases n
  exact k _ rfl
theorem Tb.new {T1 T2 : Addr} {H : Hp} (t : Tb T1 T2 H) {p : Addr} {o : HO} (n : H p = none) : Tb T1 T2 (upd H p o) := ⟨tabG_new t.1 n, tabG_new t.2 n⟩
theorem Tb.lst {T1 T2 : Addr} {H : Hp} (t : Tb T1 T2 H) {p : Addr} {o : HO} {xs : List V} (n : H p = some (.lst xs)) : Tb T1 T2 (upd H p o) := ⟨tabG_in t.1 n (fun _ z => by cases z), tabG_in t.2 n fun _ z => by cases z⟩
theorem tabbed_other {H H2 : Hp} {T T2 : Addr} (t : GxR.TabG H T2) (h : GxR.Tabbed T H H2) : GxR.TabG H2 T2 := by
  by_cases z : T2 = T
  · rw [z]
    exact h.1
  · obtain ⟨ps, e, k⟩ := t
    exact ⟨ps, by rw [h.2 T2 z]; exact e, k⟩
theorem Tb.on1 {T1 T2 : Addr} {H H2 : Hp} (t : Tb T1 T2 H) (h : GxR.Tabbed T1 H H2) : Tb T1 T2 H2 := ⟨h.1, tabbed_other t.2 h⟩
theorem Tb.on2 {T1 T2 : Addr} {H H2 : Hp} (t : Tb T1 T2 H) (h : GxR.Tabbed T2 H H2) : Tb T1 T2 H2 := ⟨tabbed_other t.1 h, h.1⟩
/-! ### what is new -/
def News (A B : Hp) : Hp := fun a => match A a with
  | none => B a
  | some _ => none
theorem news_of {A B : Hp} {a : Addr} (h : A a = none) : News A B a = B a := by
  unfold News
  rw [h]
theorem news_at {A B : Hp} {a : Addr} {o : HO} (h : News A B a = some o) : A a = none ∧ B a = some o := by
  unfold News at h
  cases e : A a with
  | none =>
    rw [e] at h
    exact ⟨rfl, h⟩
  | some _ =>
    rw [e] at h
    cases h
theorem news_same {A B : Hp} : Same (News A B) B := fun _ _ h => (news_at h).2
theorem News.up {A B C : Hp} (u : Up B C) : Up (News A B) (News A C) := fun b o h => by
  obtain ⟨n, e⟩ := news_at h
  rw [news_of n]
  exact u b o e
theorem News.less {A A2 B : Hp} (d : ∀ b, A2 b = none → A b = none) : Same (News A2 B) (News A B) := fun b o h => by
  obtain ⟨n, e⟩ := news_at h
  rw [news_of (d b n)]
  exact e
theorem News.put {A B : Hp} {p : Addr} {o u : HO} (h : A p = some u) : News A (upd B p o) = News A B := by
  funext b
  unfold News
  cases e : A b with
  | some _ => rfl
  | none =>
    have : b ≠ p := fun z => by rw [z, h] at e; cases e
    simp only
    rw [upd_ne this]
/-! ### rules and grammars in the heap -/
def RuleA (H : Hp) (v : V) (r : Rule) : Prop := ∃ t l, v = .ref t ∧ H t = some (.tup [.str r.1, .ref l]) ∧ H l = some (.lst (r.2.map V.str))
theorem RuleA.up {A B : Hp} (u : Up A B) {v : V} {r : Rule} (h : RuleA A v r) : RuleA B v r := by
  obtain ⟨t, l, e, h1, h2⟩ := h
  exact ⟨t, l, e, u.tup h1, u.lst h2⟩
def GrA (H : Hp) : List V → List Rule → Prop
  | [], [] => True
  | v :: vs, r :: G => RuleA H v r ∧ GrA H vs G
  | _, _ => False
theorem GrA.up {A B : Hp} (u : Up A B) : ∀ {vs : List V} {G : List Rule}, GrA A vs G → GrA B vs G
  | [], [], _ => True.intro
  | _ :: _, _ :: _, h => ⟨h.1.up u, h.2.up u⟩
  | [], _ :: _, h => h.elim
  | _ :: _, [], h => h.elim
theorem GrA.len {A : Hp} : ∀ {vs : List V} {G : List Rule}, GrA A vs G → vs.length = G.length
  | [], [], _ => rfl
  | _ :: _, _ :: _, h => by rw [List.length_cons, List.length_cons, h.2.len]
  | [], _ :: _, h => h.elim
  | _ :: _, [], h => h.elim
theorem GrA.get {A : Hp} : ∀ {vs : List V} {G : List Rule} {i : Nat} {v : V}, GrA A vs G → vs[i]? = some v → ∃ r, G[i]? = some r ∧ RuleA A v r
  | _ :: _, r :: _, 0, _, h, e => by
    cases e
    exact ⟨r, rfl, h.1⟩
  | _ :: _, _ :: _, i + 1, _, h, e => h.2.get (i := i) e
  | [], _, _, _, _, e => by cases e
  | _ :: _, [], _, _, h, _ => h.elim
theorem GrA.snoc {A : Hp} : ∀ {vs : List V} {G : List Rule} {v : V} {r : Rule}, GrA A vs G → RuleA A v r → GrA A (vs ++ [v]) (G ++ [r])
  | [], [], _, _, _, q => ⟨q, True.intro⟩
  | _ :: _, _ :: _, _, _, h, q => ⟨h.1, h.2.snoc q⟩
  | [], _ :: _, _, _, h, _ => h.elim
  | _ :: _, [], _, _, h, _ => h.elim
def GraA (H : Hp) (g : Addr) (G : List Rule) : Prop := ∃ vs, H g = some (.lst vs) ∧ GrA H vs G
theorem GraA.up {A B : Hp} (u : Up A B) {g : Addr} {G : List Rule} (h : GraA A g G) : GraA B g G := by
  obtain ⟨vs, e, q⟩ := h
  exact ⟨vs, u.lst e, q.up u⟩
theorem dp_strs {K : PySem.W.Frag} {H : Hp} : ∀ xs : List Str, DpAll K H (xs.map V.str) (xs.map PyData.str)
  | [] => .nil
  | x :: xs => .cons (.str x) (dp_strs xs)
theorem RuleA.dp {K : PySem.W.Frag} {H : Hp} {v : V} {r : Rule} (h : RuleA H v r) : Dp K H v (ruleD r) := by
  obtain ⟨t, l, rfl, h1, h2⟩ := h
  exact .tup (SqT.of h1) (.cons (.str _) (.cons (.lst (SqL.of h2) (dp_strs _)) .nil))
theorem GrA.dp {K : PySem.W.Frag} {H : Hp} : ∀ {vs : List V} {G : List Rule}, GrA H vs G → DpAll K H vs (G.map ruleD)
  | [], [], _ => .nil
  | _ :: _, _ :: _, h => .cons h.1.dp h.2.dp
  | [], _ :: _, h => h.elim
  | _ :: _, [], h => h.elim
theorem GraA.dp {K : PySem.W.Frag} {H : Hp} {g : Addr} {G : List Rule} (h : GraA H g G) : Dp K H (.ref g) (gD G) := by
  obtain ⟨vs, e, q⟩ := h
  exact .lst (SqL.of e) q.dp
/-- grammars that a law hands in -/
def GoodG (most : Nat) (G : List Rule) : Prop := (∀ r ∈ G, GoodR r) ∧ G.Nodup ∧ G ≠ [] ∧ G.length ≤ most
end Ld

set_option Elab.async false
set_option linter.all false
set_option maxRecDepth 100000
set_option maxHeartbeats 4000000
/-! Small facts that many laws use. -/
namespace Ld
open PySem PySem.Spec PyProof.Rows L2
theorem same_put {A B : Hp} (u : Same A B) {p : Addr} {o : HO} (n : A p = none) : Same A (upd B p o) := fun b x e => by
  rw [upd_ne (ne_of_none e n)]
  exact u b x e
theorem million0 {n : Nat} (h : n ≤ 1000000) : n ≤ sizeLine := Nat.le_trans h (by decide)
theorem million1 {n : Nat} (h : n ≤ 1000000) : n < sizeLine := Nat.lt_of_le_of_lt h (by decide)
theorem str_at {ss : List Str} {j : Nat} {x : V} (h : (ss.map V.str)[j]? = some x) : ∃ s, ss[j]? = some s ∧ x = V.str s := by
  rw [List.getElem?_map] at h
  cases e : ss[j]? with
  | none =>
    rw [e] at h
    cases h
  | some s =>
    rw [e] at h
    exact ⟨s, rfl, (Option.some.inj h).symm⟩
theorem cut_map {ss : List Str} {i k : Nat} (h : k ≤ ss.length) (h2 : i ≤ k) : cutV (ss.map V.str) (some (i : Int)) (some (k : Int)) = ((ss.drop i).take (k - i)).map V.str := by
  unfold cutV
  rw [HT.sIx_nat, HT.sIx_nat, List.length_map, Nat.min_eq_left h, Nat.min_eq_left (Nat.le_trans h2 h), List.map_take, List.map_drop]
end Ld

set_option Elab.async false
set_option linter.all false
set_option maxRecDepth 100000
set_option maxHeartbeats 4000000
/-! repr of data, where nothing is being shown already; a law that is called where nothing is being shown. -/
namespace Lg
open PySem PySem.Spec PyProof.Rows L2 LamX GxR
/-- repr of data at any depth -/
def rRepr (K : PySem.W.Frag) : List V → Hp → VK → Prop := fun xs H Q => ∃ (a : Addr) (d : PyData), xs = [.ref a] ∧ Dp K H (.ref a) d ∧ d.showable = true ∧ SeqAt.shaped d = true ∧ d.shown.length ≤ sizeLine ∧ Q (.str d.shown) H
theorem call_repr {X : Cx} (hg : X.A.guards = some []) (hu : X.A.units + 66 < cLine) : CallR X (.builtin "repr") (rRepr X.K) := by
  intro pins s σ H xs us Q I r h
  obtain ⟨a, d, rfl, hd, show_, shp, sz, q⟩ := h
  obtain ⟨u, rfl, rx⟩ := vals1 r
  obtain rfl : u = Value.ref a := rx
  obtain ⟨as, r1⟩ := Dp.reads I d _ _ hd rfl
  have dep := SeqAt.depth_of_shaped shp
  refine repr_of_reads' r1 show_ (PyData.noDict_hsm (PyData.hasDict_of_canLay d (SeqAt.canLay_of_shaped shp))) hg (by omega) (fun _ _ e => e) (fun h2 v tk up => ?_) sz
  exact ⟨.str _, H, I.kept up, ⟨v, rfl⟩, q⟩
/-- the def at fa keeps sp where it is called by no def at all -/
structure Top (P : Program) (w : World) (K : PySem.W.Frag) (mg : Str → Option Value) (base : Heap) (CX : CXT) (fa : Addr) (fd : FuncData) (ps : List Str) (sp : Sp) : Prop where
  len : ∀ vs H Q E, sp vs H Q E → vs.length = ps.length
  run : ∀ (s : Shared) (H : Hp) (args : Args) (us : List Value) (vs : List V) (Q : VK) (E : XK), Env0 P w K mg base callerA [] s H → BindsTo s fd args (ps.zip us) → Vals vs us → sp vs H Q E →
    codeAny (model P w) callerA (.call (.ref fa) args) (CR CX [] P w H s Q E) s
section
variable {P : Program} {w : World} {K : PySem.W.Frag} {mg : Str → Option Value} {base : Heap}
theorem top_ok {x qual : Str} {st : Stmt} {f : Addr} {fd : FuncData} {N ps : List Str} {k : Nat} {sp : Sp} (F : Fun K x qual st f fd) (S : FnScope N ps (defScope st)) (room : Room (k + 1) callerA) (len : ∀ vs H Q E, sp vs H Q E → vs.length = ps.length)
    (hbody : ∀ (cdv : Value) (s : Shared) (H : Hp) (vs : List V) (Q : VK) (E : XK), Room k (callerA.deeper (envOfC qual (defScope st) s.heap.objs.size f cdv)) → sp vs H Q E →
      ∃ t, PSs (cxOf CX0 P w K mg base N qual (defScope st) f cdv callerA [] s H E).nox (defBody st) t ∧ t { nx := fun _ H' => Q .non H', rt := Q } (start N vs) H) : Top P w K mg base CX0 f fd ps sp := by
  obtain ⟨oc, od, kV, doc, pm, an, cdv, ct, osl, rfl, lk, code⟩ := F.ex
  refine ⟨len, fun s H args us vs Q E e0 bind rel want => ?_⟩
  have count := len _ _ _ _ want
  have inK : K.In s.heap := e0.mod.kin.keeps fun b o e => (e0.bs b o e).1
  have lim : s.heap.NoLimit := e0.mod.nolimit.keeps fun b o e => (e0.bs b o e).1
  have kinds : ∀ y ∈ ps.zip us, (defScope st).names.lookup y.1 = some .local ∨ ((defScope st).names.lookup y.1 = some .cell ∧ ((cellsFrom (s.heap.objs.size + 1) (defScope st).names []).lookup y.1).isSome = true) := by
    rintro ⟨n, v⟩ hy
    exact (S.par n (List.of_mem_zip hy).1).imp_right fun q => ⟨q, PySem.W.cellsFrom_some _ _ _ (.inl q)⟩
  refine codeAny_call_function room.depth (inK _ _ lk) rfl S.co S.gen rfl (PySem.W.codeRec_of inK code) (bind _ _ _ _ ?_)
  refine wpAny_newFunctionEnv_cells S.kind kinds fun env made s1 x => ?_
  subst made
  refine ⟨lim.keeps x.toInCall.keep, codeAny_func ?_⟩
  obtain ⟨t, body, reads⟩ := hbody cdv s H vs Q E (room.deeper _) want
  have I : Inv (cxOf CX0 P w K mg base N qual (defScope st) f cdv callerA [] s H E) [] (start N vs) H s1 := inv_start S room.hd e0 count rel x
  refine wpAny_mono (body.nox.run [] s1 (start N vs) H _ I reads) (fun fl s2 ends => ?_) fun e s2 z => z
  cases fl with
  | brk =>
    obtain ⟨_, _, _, z⟩ := ends
    exact False.elim z
  | cont =>
    obtain ⟨_, _, _, z⟩ := ends
    exact False.elim z
  | next =>
    obtain ⟨σ2, H2, J, q⟩ := ends
    exact ⟨V.non, H2, J.os, J.bare, J.base, J.hok, rfl, q⟩
  | ret u =>
    obtain ⟨v, σ2, H2, J, rv, q⟩ := ends
    exact ⟨v, H2, J.os, J.bare, J.base, J.hok, rv, q⟩
/-- an object that is no table's and no list's is as it is where tables and the script are hidden -/
theorem top_call {cs : List (Addr × Addr)} {fd : FuncData} {x : Str} {sp : Sp} {t1 : Shared} {mb : Str → Option Value} {vals : List Value} {nums : List Int} {fa a : Addr} (inK : K.In t1.heap) (top : t1.heap.Ns mainGlobals mg) (blt : t1.heap.Ns builtinsNs mb) (sameB : ∀ x : Str, x ≠ "__name__" → mb x = bootBuiltins x)
    (lim : t1.heap.NoLimit) (noGens : t1.gens = #[]) (tabs : ∀ p ∈ cs, t1.heap.get? p.2 = some { cls := .none, data := .fields #[] }) (tabsK : ∀ p ∈ cs, K.lookup p.2 = none) (codes : ∀ p ∈ cs, PySem.W.CodeHd t1.heap p.1 p.2)
    (modB : ∃ (bm : Addr) (ob : Obj), mg "__builtins__" = some (.ref bm) ∧ bm ≠ builtinsNs ∧ t1.heap.get? bm = some ob ∧ ob.cls = .type "module" ∧ ob.dict = some builtinsNs ∧ ob.data = .plain)
    (script : t1.heap.get? a = some { cls := .type "list", data := .seq vals.toArray }) (areInts : IntsAre vals nums) (fits : nums.length ≤ sizeLine)
    (F : ∀ base : Heap, K.In base → base.Ns mainGlobals mg → (∀ p ∈ cs, LamX.TabB base mg p.1 p.2) → Top P w K mg base CX0 fa fd [x] sp) (bind : ∀ (s : Shared) (u : Value), BindsTo s fd ⟨[u], []⟩ [(x, u)])
    (want : ∀ H : Hp, (∀ p ∈ cs, H p.2 = some (.tbl #[])) → SqL K H a (nums.map V.int) → sp [.ref a] H (fun v _ => v = .bl true) fun _ _ _ => False) :
    codeAny (model P w) callerA (.call (.ref fa) ⟨[.ref a], []⟩) (fun r s' => r = .ok (.ret (.bool true)) ∧ OldK t1.heap s'.heap ∧ s'.os = t1.os ∧ AllBare s'.gens) t1 := by
  have rel := vals_ints areInts
  have lenV := areInts.length
  let Tm := cs.map (·.2)
  let lst : Obj := { cls := .type "list", data := .seq vals.toArray }
  have memT : ∀ p ∈ cs, p.2 ∈ Tm := fun p hp => List.mem_map.mpr ⟨p, hp, rfl⟩
  have isT : ∀ b ∈ Tm, ∃ p ∈ cs, p.2 = b ∧ t1.heap.get? b = some { cls := .none, data := .fields #[] } := fun b mem => by
    obtain ⟨p, hp, rfl⟩ := List.mem_map.mp mem
    exact ⟨p, hp, rfl, tabs p hp⟩
  have aT : a ∉ Tm := fun mem => by
    obtain ⟨_, _, _, e⟩ := isT a mem
    have := (congrArg Obj.data (Option.some.inj (script.symm.trans e)))
    cases this
  -- the tables, and the script unless it is written: nothing else is tracked
  obtain ⟨H, hT, hS, cases_⟩ : ∃ H : Hp, (∀ p ∈ cs, H p.2 = some (.tbl #[])) ∧ SqL K H a (nums.map V.int) ∧ ∀ b u, H b = some u → (b ∈ Tm ∧ u = .tbl #[]) ∨ (b = a ∧ K.lookup a = none ∧ u = .frz lst (.lst (nums.map V.int))) := by
    cases at_ : K.lookup a with
    | some o =>
      have e := inK a o at_
      rw [script] at e
      cases e
      refine ⟨fun b => if b ∈ Tm then some (.tbl #[]) else none, fun p hp => if_pos (memT p hp), .inr ⟨_, vals.toArray, _, at_, rfl, rfl, rfl, by rw [List.size_toArray, lenV]; exact fits, by simpa using rel⟩, fun b u z => ?_⟩
      by_cases mem : b ∈ Tm
      · exact .inl ⟨mem, (Option.some.inj ((if_pos mem).symm.trans z)).symm⟩
      · cases (if_neg mem).symm.trans z
    | none =>
      refine ⟨fun b => if b ∈ Tm then some (.tbl #[]) else if b = a then some (.frz lst (.lst (nums.map V.int))) else none, fun p hp => if_pos (memT p hp), .inl (.inr ⟨lst, (if_neg aT).trans (if_pos rfl)⟩), fun b u z => ?_⟩
      by_cases mem : b ∈ Tm
      · exact .inl ⟨mem, (Option.some.inj ((if_pos mem).symm.trans z)).symm⟩
      · have z2 := (if_neg mem).symm.trans z
        by_cases e : b = a
        · exact .inr ⟨e, rfl, (Option.some.inj ((if_pos e).symm.trans z2)).symm⟩
        · cases (if_neg e).symm.trans z2
  have off : ∀ {b : Addr} {o : Obj}, t1.heap.get? b = some o → o.data ≠ .fields #[] → (b = a → K.lookup a = none → False) → H b = none := fun {b o} e d n => by
    cases q : H b with
    | none => rfl
    | some u =>
      rcases cases_ b u q with ⟨mem, _⟩ | ⟨e2, k, _⟩
      · obtain ⟨_, _, _, e3⟩ := isT b mem
        rw [e3] at e
        cases e
        exact (d rfl).elim
      · exact (n e2 k).elim
  have offD : ∀ {b : Addr} {o : Obj}, t1.heap.get? b = some o → o.data ≠ .fields #[] → o.data ≠ .seq vals.toArray → H b = none := fun {b o} e d1 d2 => off e d1 fun e2 _ => by
    rw [e2, script] at e
    cases e
    exact d2 rfl
  have ok : HOk P w H t1.heap := fun b u z => by
    rcases cases_ b u z with ⟨mem, rfl⟩ | ⟨rfl, _, rfl⟩
    · obtain ⟨_, _, _, e⟩ := isT b mem
      exact e
    · exact ⟨script, by rw [List.length_map]; exact fits, vals, _, rel, script⟩
  have nsB : ∀ {b : Addr} {m : Str → Option Value}, t1.heap.Ns b m → (hidT t1.heap H).Ns b m := fun {b m} ⟨o, es, ep, e, d, r⟩ => by
    refine ⟨o, es, ep, hidT_get e (offD e ?_ ?_), d, r⟩
    · rw [d]
      intro z
      cases z
    · rw [d]
      intro z
      cases z
  have inB : K.In (hidT t1.heap H) := fun b o e => by
    refine hidT_get (inK b o e) ?_
    cases q : H b with
    | none => rfl
    | some u =>
      rcases cases_ b u q with ⟨mem, _⟩ | ⟨e2, k, _⟩
      · obtain ⟨p, hp, e3, _⟩ := isT b mem
        rw [← e3, tabsK p hp] at e
        cases e
      · rw [e2, k] at e
        cases e
  have tabB : ∀ p ∈ cs, LamX.TabB (hidT t1.heap H) mg p.1 p.2 := fun p hp => by
    obtain ⟨og, eg, epg, atG, dG, _⟩ := id top
    have tp := tabs p hp
    refine ⟨?_, ?_, fun z => ?_⟩
    · obtain ⟨o, us, file, tf, flags, tg, inF, text, tt, e1, r1, r2, r3, r4, r5, r6, r7, r8, ne⟩ := codes p hp
      refine ⟨o, us, file, tf, flags, tg, inF, text, tt, hidT_get e1 (offD e1 ?_ ?_), r1, r2, r3, r4, r5, r6, r7, r8, ne⟩
      · rw [r2]
        intro z
        cases z
        simp at r3
      · rw [r2]
        intro z
        cases z
    · obtain ⟨bm, ob, b1, b2, b3, b4, b5, b6⟩ := modB
      refine ⟨bm, ob, b1, b2, fun q => ?_, fun q => ?_, hidT_get b3 (offD b3 (by rw [b6]; intro z; cases z) (by rw [b6]; intro z; cases z)), b4, b5, b6⟩
      · rw [q, atG] at b3
        cases b3
        rw [dG] at b6
        cases b6
      · rw [q, tp] at b3
        cases b3
        cases b6
    · rw [z, tp] at atG
      cases atG
      cases dG
  have env0 : Env0 P w K mg (hidT t1.heap H) callerA [] t1 H := ⟨rfl, ⟨inB, nsB top, ⟨mb, nsB blt, sameB⟩, let ⟨mc, h1, h2⟩ := lim; ⟨mc, nsB h1, h2⟩⟩, fun b o e => of_hidT e, Nat.le_of_eq (hidT_size _ _), trivial, fun b hb => (List.not_mem_nil hb).elim, ok, .of_eq noGens⟩
  refine codeAny_mono ((F _ inB (nsB top) tabB).run t1 H ⟨[.ref a], []⟩ [.ref a] [.ref a] _ _ env0 (bind t1 (.ref a)) (.cons rfl .nil) (want H hT hS)) fun r s2 left => ?_
  cases r with
  | error e => exact (show False from left).elim
  | ok fl =>
    cases fl with
    | next => exact (show False from left).elim
    | brk => exact (show False from left).elim
    | cont => exact (show False from left).elim
    | ret u =>
      obtain ⟨v, H2, os2, bare2, un, ok2, ru, isTrue_⟩ := left
      obtain rfl : v = .bl true := isTrue_
      obtain rfl : u = Value.bool true := ru
      have grown : ∀ p ∈ cs, ∃ more : Array Value, s2.heap.get? p.2 = some { cls := .none, data := .fields more } := fun p hp => by
        obtain ⟨more, z⟩ := un.tbls p.2 #[] (hT p hp)
        exact ⟨_, ok2 p.2 _ z⟩
      have kept : ∀ b o, b ∉ Tm → t1.heap.get? b = some o → s2.heap.get? b = some o := fun b o out e => by
        cases q : H b with
        | none => exact un.keep b o e q (fun z => (List.not_mem_nil z).elim) (fun z => (List.not_mem_nil z).elim)
        | some u =>
          rcases cases_ b u q with ⟨mem, _⟩ | ⟨_, _, rfl⟩
          · exact (out mem).elim
          · obtain ⟨e1, _⟩ := ok b _ q
            obtain ⟨e2, _⟩ := ok2 b _ (un.frzs b _ _ q)
            rw [e] at e1
            cases e1
            exact e2
      refine ⟨rfl, ⟨fun b o e => ?_, fun b o e => ?_⟩, os2, bare2⟩
      · by_cases mem : b ∈ Tm
        · obtain ⟨p, hp, rfl, at_⟩ := isT b mem
          obtain ⟨more, hm⟩ := grown p hp
          rw [at_] at e
          cases e
          exact .inr (.inl ⟨((codes p hp).tab at_).isCodeTable, rfl, #[], more, rfl, by rw [Array.empty_append]; exact hm⟩)
        · exact .inl (kept b o mem e)
      · by_cases mem : b ∈ Tm
        · obtain ⟨p, hp, rfl, _⟩ := isT b mem
          obtain ⟨more, hm⟩ := grown p hp
          exact ⟨_, hm⟩
        · exact ⟨o, kept b o mem e⟩
end
/-- what is known of the law's promise at the head's heap -/
def LawTop (l : PySem.W.OpenLaw) (w : World) (K : PySem.W.Frag) (n : Nat) (x : Str) (mg : Str → Option Value) (fa : Addr) (h : Heap) : Prop :=
  ∃ (fd : FuncData) (cs : List (Addr × Addr)) (sp : Sp), (∀ p ∈ cs, PySem.W.CodeHd h p.1 p.2 ∧ h.get? p.2 = some { cls := .none, data := .fields #[] } ∧ K.lookup p.2 = none) ∧ (∀ (s : Shared) (u : Value), BindsTo s fd ⟨[u], []⟩ [(x, u)]) ∧
    (∀ (H : Hp) (a : Addr) (ns : List Int), ns.length ≤ n → (∀ p ∈ cs, H p.2 = some (.tbl #[])) → SqL K H a (ns.map V.int) → sp [.ref a] H (fun v _ => v = .bl true) fun _ _ _ => False) ∧
    ∀ base : Heap, K.In base → base.Ns mainGlobals mg → (∀ p ∈ cs, LamX.TabB base mg p.1 p.2) → Top l.prog w K mg base CX0 fa fd [x] sp
theorem walk_top {l : PySem.W.OpenLaw} {n : Nat} {q : Program} {loose : List Str} {XP : (Str → Option Value) → Heap → Prop} {YP : World → Heap → Prop} {d : PySem.DefRec} {K : Params → PySem.W.Frag} {x : Str}
    (most : l.most = some n) (fits : n ≤ sizeLine) (plain : d.params.defaults = []) (hY : ∀ (w : World) (h : Heap), YP w h → (K w.params).In h)
    (F : ∀ (w : World) (mg : Str → Option Value) (fa : Addr) (h : Heap), YP w h → (K w.params).In h → h.Ns mainGlobals mg → mg d.name = some (.ref fa) →
      (∀ (y : Str) (d' : PySem.DefRec) (c T : Addr), (recsOf q).find? (fun e => e.name == y) = some d' → PySem.W.tabIn (K w.params) y = some (c, T) → PySem.W.CodeHd h c T ∧ h.get? T = some { cls := .none, data := .fields #[] }) → LawTop l w (K w.params) n x mg fa h) :
    PySem.W.WalkO q loose XP YP l.row.toRowW d [] (fun f vs => PySem.call f vs) := by
  refine Att.attach_callB most plain fun w s₀ s1 mg mb fa o pm cd doc a vs ns G Y ho hd hcd hmg hobj hints hlen hbits hg => ?_
  have inK := hY w _ Y
  obtain ⟨fd, cs, sp, tabs, bind, want, prom⟩ := F w mg fa _ Y inK G.T.g hmg fun y d' c T found at_ => PySem.W.tab_of G.T inK found at_
  exact top_call inK G.T.g G.T.b G.T.builtins G.T.nolimit hg (fun p hp => (tabs p hp).2.1) (fun p hp => (tabs p hp).2.2) (fun p hp => (tabs p hp).1) G.T.bmain hobj hints (Nat.le_trans hlen fits) prom bind fun H hH hS => want H a ns hlen hH hS
end Lg

set_option Elab.async false
set_option linter.all false
set_option maxRecDepth 100000
set_option maxHeartbeats 4000000
/-! a != b of two dicts that are equal, their values lists. -/
namespace PySem.W
open PySem PySem.Spec PyProof.Rows
section
variable {K : Type} [DecidableEq K] {prog : Program} {w : World} {A : Around} {E : Value → Shared → Prop} {s : Shared} {knd : KeyKind prog w K}
theorem rcP_dictsNe {a b : Addr} {ka kb : List (K × Value)} {r : Bool} {Q : Value → Shared → Prop} (ha : (a == sysModules) = false) (hb : (b == sysModules) = false)
    (da : s.heap.DictOf knd a ka) (db : s.heap.DictOf knd b kb) (hu : A.units < cLine) (hits : ka.length = kb.length → KeqHitsP prog w A.in1 s kb ka r) (h : Q (.bool (!(ka.length == kb.length && r))) s) : wpAny (model prog w) A (compareOp .NotEq (.ref a) (.ref b)) Q E s := by
  refine wpAny_richCompare_same_room (op := .NotEq) da.typeIs db.typeIs PySem.F.slot_dict_ne (wpAny_call_entry PySem.F.slot_dict_ne da.typeIs PySem.F.entry_dict_ne ?_ (PySem.F.args_dict_ne_2 _ _)) hu
  show wpAny _ _ (Builtin.Dict.dictSlotArgs "__ne__" ⟨[.ref a, .ref b], []⟩ >>= _) _ _ s
  refine wpAny_bind ?_
  unfold Builtin.Dict.dictSlotArgs
  refine wpAny_bind (wpAny_notOrdered_dict da.typeIs ?_)
  show wpAny _ _ (pure (Value.ref a, Value.ref b)) _ _ s
  refine wpAny_pure ?_
  refine wpAny_bind (wpAny_isInstance (T := "dict") db.typeIs PySem.F.sub_dict_dict ?_)
  simp only [Bool.not_true, Bool.false_eq_true, if_false]
  refine wpAny_bind (wpAny_pure (wpAny_bind (wpAny_pure ?_)))
  refine wpAny_bind (samePairsP ha hb da db hits ?_)
  refine wpAny_pure ⟨_, rfl, ?_, ?_⟩
  · exact fun x => nomatch x
  · simpa using h
end
end PySem.W
namespace Ld
open PySem PySem.Spec PyProof.Rows L2
def rNeVD (K : PySem.W.Frag) : R2 := fun x y H Q => ∃ a b ks ls n, n ≤ 60 ∧ x = .ref a ∧ y = .ref b ∧ H a = some (.dK ks) ∧ H b = some (.dK ls) ∧ ks.length = ls.length ∧ (∀ p ∈ ks, ∃ u, valV ls p.1 = some u ∧ EqV K H n p.2 u) ∧ Q (.bl false) H
theorem op_neVD {X : Cx} (hu : X.A.units + 64 < cLine) : OpR X (compareOp .NotEq) (rNeVD X.K) := by
  intro pins s σ H x y v u Q I rx ry h
  obtain ⟨a, b, ks, ls, n, hn, rfl, rfl, ea, eb, hlen, hp, q⟩ := h
  obtain rfl : v = Value.ref a := rx
  obtain rfl : u = Value.ref b := ry
  obtain ⟨_, ya, va, ra, da⟩ := (show ObjOk X.prog X.w H s.heap a (.dK ks) from I.hok a _ ea)
  obtain ⟨_, yb, vb, rb, db⟩ := (show ObjOk X.prog X.w H s.heap b (.dK ls) from I.hok b _ eb)
  have hl : va.length = vb.length := by rw [← ra.length, ← rb.length]; exact hlen
  refine PySem.W.rcP_dictsNe (knd := mixKind X.prog X.w) (r := true) ya yb da db (by omega) (fun _ => hits_run (eqV_run I n X.A.in1 (by show X.A.units + 1 + n < cLine; omega)) rb ra hp) ?_
  rw [show (!(va.length == vb.length && true)) = false from by rw [hl]; simp]
  exact ⟨.bl false, H, I, rfl, q⟩
end Ld

set_option Elab.async false
set_option linter.all false
set_option maxRecDepth 100000
set_option maxHeartbeats 4000000
/-! a == b and a != b of equal values that hold dicts with tuples for keys. -/
namespace PySem.W
open PySem PySem.Spec PyProof.Rows
section
variable {K : Type} [DecidableEq K] {prog : Program} {w : World} {A : Around} {E : Value → Shared → Prop} {s : Shared} {knd : HeapKind prog w K}
/-- each key of the one has an equal value in the other -/
inductive HitsT (prog : Program) (w : World) (A : Around) (s : Shared) (ys : List (K × Addr × Value)) : List (K × Addr × Value) → Prop
  | nil : HitsT prog w A s ys []
  | cons {x : K × Addr × Value} {p : Addr × Value} {r : List (K × Addr × Value)} : atKey ys x.1 = some p → SeqAt.EqP prog w A s x.2.2 p.2 true → HitsT prog w A s ys r → HitsT prog w A s ys (x :: r)
theorem samePairsT {nm : String} {a b : Addr} {xs ys : List (K × Addr × Value)} {Q : Bool → Shared → Prop} (hu : knd.room A) (ha : (a == sysModules) = false) (hb : (b == sysModules) = false)
    (da : s.heap.DictOfH knd a xs) (db : s.heap.DictOfH knd b ys) (len : xs.length = ys.length) (hits : HitsT prog w A s ys xs) (h : Q true s) :
    wpAny (model prog w) A (Builtin.Dict.samePairs nm a b) Q E s := by
  obtain ⟨oa, es, ep, hoa, _, hda, hea, hka, hna⟩ := da
  obtain ⟨ob, es', ep', hob, _, hdb, heb, hkb, hnb⟩ := db
  have hla := size_of_entries hea
  have hlb := size_of_entries heb
  have hsz : es.size = es'.size := by rw [hla, hlb, len]
  unfold Builtin.Dict.samePairs Builtin.Dict.showsAll
  rw [if_neg (show ¬ (a == sysModules) = true by rw [ha]; exact Bool.false_ne_true), if_neg (show ¬ (b == sysModules) = true by rw [hb]; exact Bool.false_ne_true)]
  refine wpAny_bind (wpAny_pure (wpAny_bind (wpAny_pure ?_)))
  refine wpAny_bind (wpAny_dictEntries hoa hda ?_)
  dsimp only
  refine wpAny_bind (wpAny_dictEntries hob hdb ?_)
  rw [if_neg (by rw [hsz]; simp)]
  refine wpAny_bind (wpAny_dictEpoch hoa hda ?_)
  refine wpAny_bind ?_
  rw [Std.Legacy.Range.forIn_eq_forIn_range']
  simp only [Std.Legacy.Range.size, Nat.sub_zero, Nat.add_sub_cancel, Nat.div_one]
  refine wpAny_forIn_list _
    (fun rest q s' => s' = s ∧ q = (none, ()) ∧ ∃ i, rest = List.range' i (es.size - i) ∧ i ≤ es.size ∧ HitsT prog w A s ys (xs.drop i))
    _ ?_ ?_ _ _ ⟨rfl, rfl, 0, by simp, Nat.zero_le _, hits⟩
  · rintro x rest q s' ⟨rfl, rfl, i, hr, hi, hpre⟩
    have hlt : i < es.size := by
      rcases Nat.lt_or_ge i es.size with h | h
      · exact h
      · rw [Nat.sub_eq_zero_of_le h] at hr; simp at hr
    obtain ⟨rfl, hrest⟩ : x = i ∧ rest = List.range' (i + 1) (es.size - (i + 1)) := by
      have e : es.size - i = (es.size - (i + 1)) + 1 := by omega
      rw [e, List.range'_succ] at hr
      injection hr with h1 h2
      exact ⟨h1, h2⟩
    refine wpAny_bind (wpAny_dictEntries hoa hda ?_)
    have hlt' : x < xs.length := by rw [← hla]; exact hlt
    rw [entry_at hea x, List.getElem?_eq_getElem hlt']
    obtain ⟨⟨k, c, v⟩, hkv⟩ : ∃ y, xs[x] = y := ⟨_, rfl⟩
    have hdrop : xs.drop x = (k, c, v) :: xs.drop (x + 1) := by rw [← hkv]; exact List.drop_eq_getElem_cons hlt'
    rw [hkv]
    have hin : (k, c, v) ∈ xs := by rw [← hkv]; exact List.getElem_mem hlt'
    rw [hdrop] at hpre
    cases hpre with
    | cons hat heq hrr =>
      rename_i p
      show wpAny _ _ (holding [Value.ref c, v] _ >>= _) _ _ _
      refine wpAny_bind (wpAny_holding (wpAny_bind (wpAny_dictFind_heap hu (hka _ hin) hob hdb heb hkb hnb (fun no => ?_) fun j p2 hj => ?_)))
      · rw [atKey_none_of_get no] at hat
        cases hat
      · have ep : p = p2 := Option.some.inj (hat.symm.trans (atKey_of_get hnb hj))
        subst ep
        refine wpAny_bind (wpAny_dictEntries hob hdb ?_)
        rw [entry_at heb j, hj]
        refine wpAny_holding (heq _ _ ?_)
        show wpAny _ _ (if (!true) = true then _ else _) _ _ _
        rw [if_neg (by decide)]
        refine wpAny_bind (wpAny_dictEpoch hoa hda ?_)
        rw [if_neg (by simp)]
        exact wpAny_pure ⟨rfl, rfl, x + 1, hrest, hlt, hrr⟩
  · rintro q s' ⟨rfl, rfl, i, hr, hi, hpre⟩
    exact wpAny_pure h
theorem rcP_dictsT {a b : Addr} {xs ys : List (K × Addr × Value)} {op : CmpOp} (hop : op = .Eq ∨ op = .NotEq) (hr : knd.room A.in1) (ha : (a == sysModules) = false) (hb : (b == sysModules) = false)
    (da : s.heap.DictOfH knd a xs) (db : s.heap.DictOfH knd b ys) (hu : A.units < cLine) (len : xs.length = ys.length) (hits : HitsT prog w A.in1 s ys xs) (E Q : Value → Shared → Prop) (h : Q (.bool (op == .Eq)) s) : wpAny (model prog w) A (richCompare op (.ref a) (.ref b)) Q E s := by
  rcases hop with rfl | rfl
  · refine wpAny_richCompare_same_room (op := .Eq) da.typeIs db.typeIs PySem.F.slot_dict_eq (wpAny_call_entry PySem.F.slot_dict_eq da.typeIs PySem.F.entry_dict_eq ?_ (PySem.F.args_dict_eq_2 _ _)) hu
    show wpAny _ _ (Builtin.Dict.dictSlotArgs "__eq__" ⟨[.ref a, .ref b], []⟩ >>= _) _ _ s
    refine wpAny_bind ?_
    unfold Builtin.Dict.dictSlotArgs
    refine wpAny_bind (wpAny_notOrdered_dict da.typeIs ?_)
    show wpAny _ _ (pure (Value.ref a, Value.ref b)) _ _ s
    refine wpAny_pure ?_
    refine wpAny_bind (wpAny_isInstance (T := "dict") db.typeIs PySem.F.sub_dict_dict ?_)
    simp only [Bool.not_true, Bool.false_eq_true, if_false]
    refine wpAny_bind (wpAny_pure (wpAny_bind (wpAny_pure ?_)))
    refine wpAny_bind (samePairsT hr ha hb da db len hits ?_)
    refine wpAny_pure ⟨_, rfl, ?_, ?_⟩
    · exact fun x => nomatch x
    · simpa using h
  · refine wpAny_richCompare_same_room (op := .NotEq) da.typeIs db.typeIs PySem.F.slot_dict_ne (wpAny_call_entry PySem.F.slot_dict_ne da.typeIs PySem.F.entry_dict_ne ?_ (PySem.F.args_dict_ne_2 _ _)) hu
    show wpAny _ _ (Builtin.Dict.dictSlotArgs "__ne__" ⟨[.ref a, .ref b], []⟩ >>= _) _ _ s
    refine wpAny_bind ?_
    unfold Builtin.Dict.dictSlotArgs
    refine wpAny_bind (wpAny_notOrdered_dict da.typeIs ?_)
    show wpAny _ _ (pure (Value.ref a, Value.ref b)) _ _ s
    refine wpAny_pure ?_
    refine wpAny_bind (wpAny_isInstance (T := "dict") db.typeIs PySem.F.sub_dict_dict ?_)
    simp only [Bool.not_true, Bool.false_eq_true, if_false]
    refine wpAny_bind (wpAny_pure (wpAny_bind (wpAny_pure ?_)))
    refine wpAny_bind (samePairsT hr ha hb da db len hits ?_)
    refine wpAny_pure ⟨_, rfl, ?_, ?_⟩
    · exact fun x => nomatch x
    · have e : (CmpOp.NotEq == CmpOp.Eq) = false := by decide
      rw [e] at h
      simpa using h
end
end PySem.W
namespace Ld
open PySem PySem.Spec PyProof.Rows L2
/-- equal values, of nesting below n; tuples and lists as data -/
def EqT (K : PySem.W.Frag) (H : Hp) : Nat → V → V → Prop
  | 0 => fun _ _ => False
  | n + 1 => fun x y => (x = y ∧ flatB x = true) ∨ (∃ a, x = .ref a ∧ y = .ref a) ∨ (∃ d, Dp K H x d ∧ Dp K H y d ∧ SeqAt.shaped d = true) ∨
      (∃ a b ks ls, x = .ref a ∧ y = .ref b ∧ H a = some (.dT ks) ∧ H b = some (.dT ls) ∧ ks.length = ls.length ∧ ∀ p ∈ ks, ∃ u, valV ls p.1 = some u ∧ EqT K H n p.2 u) ∨
      (∃ a b ks ls, x = .ref a ∧ y = .ref b ∧ H a = some (.dK ks) ∧ H b = some (.dK ls) ∧ ks.length = ls.length ∧ ∀ p ∈ ks, ∃ u, valV ls p.1 = some u ∧ EqT K H n p.2 u)
theorem hitsT_run {P : Program} {w : World} {A : Around} {s : Shared} {H : Hp} {F : V → V → Prop} (ih : ∀ x y v u, F x y → RelV x v → RelV y u → SeqAt.EqP P w A s v u true) {ls : List (List Key × V)} {yb : List (List Key × Addr × Value)} (rb : KT H ls yb) {ks : List (List Key × V)} {ya : List (List Key × Addr × Value)}
    (ra : KT H ks ya) : (∀ p ∈ ks, ∃ u, valV ls p.1 = some u ∧ F p.2 u) → PySem.W.HitsT P w A s yb ya := by
  unfold KT at ra
  induction ra with
  | nil => intro _; exact .nil
  | @cons p q ps qs h t k =>
    intro hp
    obtain ⟨h1, _, h2⟩ := h
    obtain ⟨u, e, f⟩ := hp p List.mem_cons_self
    have rr : RelO (some u) ((atKey yb p.1).map (·.2)) := by rw [← e]; exact rb.val p.1
    obtain ⟨y, hy, ry⟩ := rr.some_of
    obtain ⟨p2, hp2, rfl⟩ := Option.map_eq_some_iff.mp hy
    exact .cons (by rw [← h1]; exact hp2) (ih _ _ _ _ f h2 ry) (k fun p' hm => hp p' (List.mem_cons_of_mem _ hm))
section
variable {X : Cx} {pins : List (Addr × Obj)} {σ : L2.St} {H : Hp} {s : Shared}
theorem eqT_dT (I : Inv X pins σ H s) {A : Around} {F : V → V → Prop} {op : CmpOp} (hop : op = .Eq ∨ op = .NotEq) (hu : A.units + 1 < cLine) (ih : ∀ x y v u, F x y → RelV x v → RelV y u → SeqAt.EqP X.prog X.w A.in1 s v u true) {a b : Addr} {ks ls : List (List Key × V)}
    (ha : H a = some (.dT ks)) (hb : H b = some (.dT ls)) (hl : ks.length = ls.length) (hp : ∀ p ∈ ks, ∃ u, valV ls p.1 = some u ∧ F p.2 u)
    (E Q : Value → Shared → Prop) (q : Q (.bool (op == .Eq)) s) : wpAny (model X.prog X.w) A (richCompare op (.ref a) (.ref b)) Q E s := by
  obtain ⟨_, za, xa, ra, da⟩ := dt_of I.hok ha
  obtain ⟨_, zb, xb, rb, db⟩ := dt_of I.hok hb
  exact PySem.W.rcP_dictsT hop (show A.units + 1 < cLine from hu) za zb da db (by omega) (by rw [← Paired.length ra, ← Paired.length rb]; exact hl) (hitsT_run ih rb ra hp) E Q q
theorem eqT_dK (I : Inv X pins σ H s) {A : Around} {F : V → V → Prop} {op : CmpOp} (hop : op = .Eq ∨ op = .NotEq) (hu : A.units + 1 < cLine) (ih : ∀ x y v u, F x y → RelV x v → RelV y u → SeqAt.EqP X.prog X.w A.in1 s v u true) {a b : Addr} {ks ls : List (Key × V)}
    (ha : H a = some (.dK ks)) (hb : H b = some (.dK ls)) (hl : ks.length = ls.length) (hp : ∀ p ∈ ks, ∃ u, valV ls p.1 = some u ∧ F p.2 u)
    (E Q : Value → Shared → Prop) (q : Q (.bool (op == .Eq)) s) : wpAny (model X.prog X.w) A (richCompare op (.ref a) (.ref b)) Q E s := by
  obtain ⟨_, ya, va, ra, da⟩ := (show ObjOk X.prog X.w H s.heap a (.dK ks) from I.hok a _ ha)
  obtain ⟨_, yb, vb, rb, db⟩ := (show ObjOk X.prog X.w H s.heap b (.dK ls) from I.hok b _ hb)
  have hl2 : va.length = vb.length := by rw [← ra.length, ← rb.length]; exact hl
  rcases hop with rfl | rfl
  · refine PySem.W.rcP_dicts (knd := mixKind X.prog X.w) (r := true) ya yb da db (by omega) (fun _ => hits_run ih rb ra hp) E Q ?_
    rw [show (va.length == vb.length && true) = true from by rw [hl2]; simp]
    exact q
  · refine PySem.W.rcP_dictsNe (knd := mixKind X.prog X.w) (r := true) ya yb da db (by omega) (fun _ => hits_run ih rb ra hp) ?_
    rw [show (!(va.length == vb.length && true)) = false from by rw [hl2]; simp]
    exact q
theorem eqT_run (I : Inv X pins σ H s) : ∀ (n : Nat) (A : Around), A.units + n + 65 < cLine → ∀ (x y : V) (v u : Value), EqT X.K H n x y → RelV x v → RelV y u → SeqAt.EqP X.prog X.w A s v u true
  | 0, _, _, _, _, _, _, h, _, _ => (show False from h).elim
  | n + 1, A, hu, x, y, v, u, h, rx, ry => by
    have nx := eqT_run I n A.in1 (by show A.units + 1 + n + 65 < cLine; omega)
    rcases h with ⟨rfl, f⟩ | ⟨a, rfl, rfl⟩ | ⟨d, hx, hy, sh⟩ | ⟨a, b, ks, ls, rfl, rfl, ha, hb, hl, hp⟩ | ⟨a, b, ks, ls, rfl, rfl, ha, hb, hl, hp⟩
    · exact (eqAt_same rx ry f).eqP
    · cases (show v = Value.ref a from rx)
      cases (show u = Value.ref a from ry)
      exact (SeqAt.EqAt.same _).eqP
    · obtain ⟨as, r1⟩ := Dp.reads I d x v hx rx
      obtain ⟨bs, r2⟩ := Dp.reads I d y u hy ry
      have e := SeqAt.eqAt_reads d d A s v u as bs r1 r2 (SeqAt.canLay_of_shaped sh) (SeqAt.canLay_of_shaped sh) (SeqAt.room_of_shaped sh (by omega))
      rw [SeqAt.eqv_refl d (SeqAt.canLay_of_shaped sh)] at e
      exact e.eqP
    · cases (show v = Value.ref a from rx)
      cases (show u = Value.ref b from ry)
      by_cases e : a = b
      · subst e
        exact (SeqAt.EqAt.same _).eqP
      · exact SeqAt.eqP_refs e fun E Q q => eqT_dT I (.inl rfl) (by omega) nx ha hb hl hp E Q q
    · cases (show v = Value.ref a from rx)
      cases (show u = Value.ref b from ry)
      by_cases e : a = b
      · subst e
        exact (SeqAt.EqAt.same _).eqP
      · exact SeqAt.eqP_refs e fun E Q q => eqT_dK I (.inl rfl) (by omega) nx ha hb hl hp E Q q
end
/-- a == b and a != b of two dicts that are equal -/
def rEqT (K : PySem.W.Frag) (ne : Bool) : R2 := fun x y H Q => ∃ n, n ≤ 40 ∧ ((∃ a b ks ls, x = .ref a ∧ y = .ref b ∧ H a = some (.dT ks) ∧ H b = some (.dT ls) ∧ ks.length = ls.length ∧ ∀ p ∈ ks, ∃ u, valV ls p.1 = some u ∧ EqT K H n p.2 u) ∨
  (∃ a b ks ls, x = .ref a ∧ y = .ref b ∧ H a = some (.dK ks) ∧ H b = some (.dK ls) ∧ ks.length = ls.length ∧ ∀ p ∈ ks, ∃ u, valV ls p.1 = some u ∧ EqT K H n p.2 u)) ∧ Q (.bl (!ne)) H
theorem op_eqT {X : Cx} (hu : X.A.units + 120 < cLine) : OpR X (compareOp .Eq) (rEqT X.K false) := by
  intro pins s σ H x y v u Q I rx ry h
  obtain ⟨n, hn, h, q⟩ := h
  have nx := eqT_run I n X.A.in1 (by show X.A.units + 1 + n + 65 < cLine; omega)
  rcases h with ⟨a, b, ks, ls, rfl, rfl, ha, hb, hl, hp⟩ | ⟨a, b, ks, ls, rfl, rfl, ha, hb, hl, hp⟩
  · cases (show v = Value.ref a from rx)
    cases (show u = Value.ref b from ry)
    exact eqT_dT I (.inl rfl) (by omega) nx ha hb hl hp _ _ ⟨.bl true, H, I, rfl, q⟩
  · cases (show v = Value.ref a from rx)
    cases (show u = Value.ref b from ry)
    exact eqT_dK I (.inl rfl) (by omega) nx ha hb hl hp _ _ ⟨.bl true, H, I, rfl, q⟩
theorem op_neT {X : Cx} (hu : X.A.units + 120 < cLine) : OpR X (compareOp .NotEq) (rEqT X.K true) := by
  intro pins s σ H x y v u Q I rx ry h
  obtain ⟨n, hn, h, q⟩ := h
  have nx := eqT_run I n X.A.in1 (by show X.A.units + 1 + n + 65 < cLine; omega)
  rcases h with ⟨a, b, ks, ls, rfl, rfl, ha, hb, hl, hp⟩ | ⟨a, b, ks, ls, rfl, rfl, ha, hb, hl, hp⟩
  · cases (show v = Value.ref a from rx)
    cases (show u = Value.ref b from ry)
    exact eqT_dT I (.inr rfl) (by omega) nx ha hb hl hp _ _ ⟨.bl false, H, I, rfl, q⟩
  · cases (show v = Value.ref a from rx)
    cases (show u = Value.ref b from ry)
    exact eqT_dK I (.inr rfl) (by omega) nx ha hb hl hp _ _ ⟨.bl false, H, I, rfl, q⟩
end Ld

set_option Elab.async false
set_option linter.all false
set_option maxRecDepth 100000
set_option maxHeartbeats 4000000
/-! repr of data with dicts in it; a dict's keys may be tuples. -/
namespace Lr
open PySem PyProof.Rows
mutual
/-- v is the data d in h; no dict in it is the one of the modules -/
inductive RdS (h : Heap) : Value → PyData → Prop
  | plain {v : Value} {d : PyData} {as : List Addr} : Reads h v d as → d.hasDict = false → RdS h v d
  | list {a : Addr} {o : Obj} {vs : Array Value} {n : Nat} {xs : List PyData} : h.get? a = some o → o.cls = .type "list" → o.data = .seq vs n → RdSAll h vs.toList xs → RdS h (.ref a) (.list xs)
  | tuple {a : Addr} {o : Obj} {vs : Array Value} {n : Nat} {xs : List PyData} : h.get? a = some o → o.cls = .type "tuple" → o.data = .seq vs n → RdSAll h vs.toList xs → RdS h (.ref a) (.tuple xs)
  | dict {a : Addr} {o : Obj} {es : Array DictEntry} {n : Nat} {kvs : List (PyData × PyData)} : h.get? a = some o → o.cls = .type "dict" → o.data = .dict es n → (a == sysModules) = false →
      RdSAll h (es.toList.map (·.key)) (kvs.map (·.1)) → RdSAll h (es.toList.map (·.val)) (kvs.map (·.2)) → RdS h (.ref a) (.dict kvs)
inductive RdSAll (h : Heap) : List Value → List PyData → Prop
  | nil : RdSAll h [] []
  | cons {v : Value} {vs : List Value} {d : PyData} {ds : List PyData} : RdS h v d → RdSAll h vs ds → RdSAll h (v :: vs) (d :: ds)
end
mutual
theorem RdS.reads {h : Heap} : ∀ {v : Value} {d : PyData}, RdS h v d → ∃ as, Reads h v d as
  | _, _, .plain r _ => ⟨_, r⟩
  | _, _, .list h1 h2 h3 k => let ⟨_, r⟩ := RdSAll.reads k; ⟨_, .list h1 h2 h3 r⟩
  | _, _, .tuple h1 h2 h3 k => let ⟨_, r⟩ := RdSAll.reads k; ⟨_, .tuple h1 h2 h3 r⟩
  | _, _, .dict h1 h2 h3 _ k1 k2 => let ⟨_, r1⟩ := RdSAll.reads k1; let ⟨_, r2⟩ := RdSAll.reads k2; ⟨_, .dict h1 h2 h3 r1 r2⟩
theorem RdSAll.reads {h : Heap} : ∀ {vs : List Value} {ds : List PyData}, RdSAll h vs ds → ∃ as, ReadsAll h vs ds as
  | _, _, .nil => ⟨_, .nil⟩
  | _, _, .cons k r => let ⟨_, r1⟩ := RdS.reads k; let ⟨_, r2⟩ := RdSAll.reads r; ⟨_, .cons r1 r2⟩
end
section
variable {prog : Program} {w : World} {h₀ : Heap}
mutual
theorem RdS.shows : ∀ {v : Value} {d : PyData}, RdS h₀ v d → d.showable = true → d.shown.length ≤ sizeLine → ∃ bs, ReadAtMost h₀ d.depth bs ∧ ReprK prog w bs h₀ d.depth v d.shown
  | _, _, .plain r nd, sh, sz => ReprK.of_reads r sh (PyData.noDict_hsm nd) sz
  | _, _, .list (a := a) (vs := vs) (xs := xs) h1 h2 h3 k, sh, sz => by
    have sz2 : (listText (PyData.shownAll xs)).length ≤ sizeLine := by simpa only [PyData.shown] using sz
    obtain ⟨bs, b1, b2⟩ := RdSAll.shows k (by simpa [PyData.showable] using sh) fun t m => Nat.le_trans (listText_mem_le m) sz2
    obtain ⟨as, r0⟩ := RdSAll.reads k
    have r : Reads h₀ (.ref a) (.list xs) _ := .list h1 h2 h3 r0
    have deep : PyData.depthAll xs < (PyData.list xs).depth := by simp only [PyData.depth]; omega
    have out := not_mem_of_deeper r deep b1
    refine ⟨a :: bs, ReadAtMost.cons r (Nat.le_of_lt deep) b1, ?_⟩
    simp only [PyData.depth, PyData.shown]
    obtain ⟨l⟩ := vs
    cases l with
    | nil =>
      cases (show RdSAll h₀ [] xs from k)
      simp only [PyData.shownAll, listText_nil]
      exact ReprK.listEmpty h1 h2 h3
    | cons x l => exact ReprK.list h1 h2 h3 out (by simpa using b2.length_eq) fun i y e => b2.item i y (by simpa using e)
  | _, _, .tuple (a := a) (xs := xs) h1 h2 h3 k, sh, sz => by
    have sz2 : (tupleText (PyData.shownAll xs)).length ≤ sizeLine := by simpa only [PyData.shown] using sz
    obtain ⟨bs, b1, b2⟩ := RdSAll.shows k (by simpa [PyData.showable] using sh) fun t m => Nat.le_trans (tupleText_mem_le m) sz2
    obtain ⟨as, r0⟩ := RdSAll.reads k
    have r : Reads h₀ (.ref a) (.tuple xs) _ := .tuple h1 h2 h3 r0
    have deep : PyData.depthAll xs < (PyData.tuple xs).depth := by simp only [PyData.depth]; omega
    refine ⟨a :: bs, ReadAtMost.cons r (Nat.le_of_lt deep) b1, ?_⟩
    simp only [PyData.depth, PyData.shown]
    exact ReprK.tuple h1 h2 h3 (not_mem_of_deeper r deep b1) b2
  | _, _, .dict (a := a) (es := es) (kvs := kvs) h1 h2 h3 nsys k1 k2, sh, sz => by
    have sz2 : (dictText (PyData.shownKv kvs)).length ≤ sizeLine := by simpa only [PyData.shown] using sz
    obtain ⟨s1, s2⟩ := PyData.showableKv_split kvs (by simpa [PyData.showable] using sh)
    obtain ⟨bs, b1, b2⟩ := RdSAll.shows k1 s1 fun t m => let ⟨p, hp, hl⟩ := PyData.shownKv_key_le kvs t m; Nat.le_trans hl (Nat.le_trans (dictText_mem_le hp) sz2)
    obtain ⟨cs, c1, c2⟩ := RdSAll.shows k2 s2 fun t m => let ⟨p, hp, hl⟩ := PyData.shownKv_val_le kvs t m; Nat.le_trans hl (Nat.le_trans (dictText_mem_le hp) sz2)
    obtain ⟨as, r0⟩ := RdSAll.reads k1
    obtain ⟨as2, r1⟩ := RdSAll.reads k2
    have r : Reads h₀ (.ref a) (.dict kvs) _ := .dict h1 h2 h3 r0 r1
    have all : ReadAtMost h₀ (PyData.depthKv kvs) (bs ++ cs) := (b1.mono (PyData.depthAll_keys_le kvs)).append (c1.mono (PyData.depthAll_vals_le kvs))
    have deep : PyData.depthKv kvs < (PyData.dict kvs).depth := by simp only [PyData.depth]; omega
    refine ⟨a :: (bs ++ cs), ReadAtMost.cons r (Nat.le_of_lt deep) all, ?_⟩
    simp only [PyData.depth, PyData.shown, PyData.shownKv_eq]
    exact ReprK.dict h1 h2 h3 nsys (not_mem_of_deeper r deep all) (ReprEntriesK.of_two es.toList _ _
      (b2.more_le (fun b m => List.mem_append_left _ m) (PyData.depthAll_keys_le kvs)) (c2.more_le (fun b m => List.mem_append_right _ m) (PyData.depthAll_vals_le kvs)))
theorem RdSAll.shows : ∀ {vs : List Value} {ds : List PyData}, RdSAll h₀ vs ds → PyData.showableAll ds = true → (∀ t ∈ PyData.shownAll ds, t.length ≤ sizeLine) → ∃ bs, ReadAtMost h₀ (PyData.depthAll ds) bs ∧ ReprAllK prog w bs h₀ (PyData.depthAll ds) vs (PyData.shownAll ds)
  | _, _, .nil, _, _ => ⟨[], (fun _ m => nomatch m), by simp only [PyData.shownAll]; exact .nil⟩
  | _, _, .cons (d := d) (ds := ds) k r, sh, sz => by
    have sh2 : d.showable = true ∧ PyData.showableAll ds = true := by simpa [PyData.showableAll] using sh
    obtain ⟨bs, b1, b2⟩ := RdS.shows k sh2.1 (sz _ (by simp only [PyData.shownAll]; exact List.mem_cons_self ..))
    obtain ⟨cs, c1, c2⟩ := RdSAll.shows r sh2.2 fun t m => sz t (by simp only [PyData.shownAll]; exact List.mem_cons_of_mem _ m)
    have u1 : d.depth ≤ PyData.depthAll (d :: ds) := by simp only [PyData.depthAll]; omega
    have u2 : PyData.depthAll ds ≤ PyData.depthAll (d :: ds) := by simp only [PyData.depthAll]; omega
    refine ⟨bs ++ cs, (b1.mono u1).append (c1.mono u2), ?_⟩
    simp only [PyData.shownAll]
    exact .cons ((b2.more fun b m => List.mem_append_left _ m).level_le u1) (c2.more_le (fun b m => List.mem_append_right _ m) u2)
end
/-- repr of a tuple or a dict, where nothing is being shown -/
theorem repr_rdS {a : Addr} {d : PyData} {A : Around} {E : Value → Shared → Prop} {s : Shared} {Q : Value → Shared → Prop} (r : RdS s.heap (.ref a) d) (hd : d.hasDict = true) (sh : d.showable = true) (sz : d.shown.length ≤ sizeLine) (hg : A.guards = some []) (hu : A.units + (d.depth + 1) < cLine)
    (hQ : ∀ h' u tk, (∀ b o, s.heap.get? b = some o → h'.get? b = some o) → Q (.str d.shown u) { s with heap := h', toks := tk }) : wpAny (model prog w) A (call (.builtin "repr") [.ref a]) Q E s := by
  cases r with
  | plain r nd =>
    rw [nd] at hd
    cases hd
  | list h1 h2 h3 k =>
    rename_i o vs n xs
    have sz2 : (listText (PyData.shownAll xs)).length ≤ sizeLine := by simpa only [PyData.shown] using sz
    obtain ⟨bs, b1, b2⟩ := RdSAll.shows (prog := prog) (w := w) k (by simpa [PyData.showable] using sh) fun t m => Nat.le_trans (listText_mem_le m) sz2
    obtain ⟨as, r0⟩ := RdSAll.reads k
    have deep : PyData.depthAll xs < (PyData.list xs).depth := by simp only [PyData.depth]; omega
    have out := not_mem_of_deeper (.list h1 h2 h3 r0) deep b1
    simp only [PyData.depth] at hu
    simp only [PyData.shown] at hQ
    obtain ⟨l⟩ := vs
    cases l with
    | nil =>
      cases (show RdSAll s.heap [] xs from k)
      exact absurd hd (by decide)
    | cons x l =>
      exact call_repr_slot (by omega) ⟨o, h1, h2⟩ F.slot_list_repr.toG (call_list_reprK h1 h2 h3 out (by simpa using b2.length_eq) (fun i y e => b2.item i y (by simpa using e)) (A := A.in1) hg (fun b _ => Clear.nil b) (by show A.units + 1 + _ < cLine; omega) (fun _ _ e => e) (fun h' u tk up => ⟨_, _, rfl, hQ h' u tk up⟩) sz2)
  | tuple h1 h2 h3 k =>
    rename_i o vs n xs
    have sz2 : (tupleText (PyData.shownAll xs)).length ≤ sizeLine := by simpa only [PyData.shown] using sz
    obtain ⟨bs, b1, b2⟩ := RdSAll.shows (prog := prog) (w := w) k (by simpa [PyData.showable] using sh) fun t m => Nat.le_trans (tupleText_mem_le m) sz2
    obtain ⟨as, r0⟩ := RdSAll.reads k
    have deep : PyData.depthAll xs < (PyData.tuple xs).depth := by simp only [PyData.depth]; omega
    simp only [PyData.depth] at hu
    simp only [PyData.shown] at hQ
    exact call_repr_slot (by omega) ⟨o, h1, h2⟩ F.slot_tuple_repr (call_tuple_reprK h1 h2 h3 (not_mem_of_deeper (.tuple h1 h2 h3 r0) deep b1) b2 (A := A.in1) hg (fun b _ => Clear.nil b) (by show A.units + 1 + _ < cLine; omega) (fun _ _ e => e) (fun h' u tk up => ⟨_, _, rfl, hQ h' u tk up⟩) sz2)
  | dict h1 h2 h3 nsys k1 k2 =>
    rename_i o es n kvs
    have sz2 : (dictText (PyData.shownKv kvs)).length ≤ sizeLine := by simpa only [PyData.shown] using sz
    obtain ⟨s1, s2⟩ := PyData.showableKv_split kvs (by simpa [PyData.showable] using sh)
    obtain ⟨bs, b1, b2⟩ := RdSAll.shows (prog := prog) (w := w) k1 s1 fun t m => let ⟨p, hp, hl⟩ := PyData.shownKv_key_le kvs t m; Nat.le_trans hl (Nat.le_trans (dictText_mem_le hp) sz2)
    obtain ⟨cs, c1, c2⟩ := RdSAll.shows (prog := prog) (w := w) k2 s2 fun t m => let ⟨p, hp, hl⟩ := PyData.shownKv_val_le kvs t m; Nat.le_trans hl (Nat.le_trans (dictText_mem_le hp) sz2)
    obtain ⟨as, r0⟩ := RdSAll.reads k1
    obtain ⟨as2, r1⟩ := RdSAll.reads k2
    have all : ReadAtMost s.heap (PyData.depthKv kvs) (bs ++ cs) := (b1.mono (PyData.depthAll_keys_le kvs)).append (c1.mono (PyData.depthAll_vals_le kvs))
    have deep : PyData.depthKv kvs < (PyData.dict kvs).depth := by simp only [PyData.depth]; omega
    simp only [PyData.depth] at hu
    simp only [PyData.shown, PyData.shownKv_eq] at hQ
    exact call_repr_slot (by omega) ⟨o, h1, h2⟩ F.slot_dict_repr (call_dict_reprK h1 h2 h3 nsys (not_mem_of_deeper (.dict h1 h2 h3 r0 r1) deep all) (ReprEntriesK.of_two es.toList _ _
      (b2.more_le (fun b m => List.mem_append_left _ m) (PyData.depthAll_keys_le kvs)) (c2.more_le (fun b m => List.mem_append_right _ m) (PyData.depthAll_vals_le kvs))) (A := A.in1) hg (fun b _ => Clear.nil b) (by show A.units + 1 + _ < cLine; omega) (fun _ _ e => e) (fun h' u tk up => ⟨_, _, rfl, hQ h' u tk up⟩) (by rw [← PyData.shownKv_eq]; exact sz2))
end
end Lr
namespace Lr
open PySem PySem.Spec PyProof.Rows L2
/-- the data of a dict's key -/
def keyD : Key → PyData
  | .inl n => .int n
  | .inr s => .str s
mutual
/-- v is the data d, dicts among it -/
inductive Dq (K : PySem.W.Frag) (H : Hp) : V → PyData → Prop
  | dp {v : V} {d : PyData} : Dp K H v d → Dq K H v d
  | lst {a : Addr} {xs : List V} {ds : List PyData} : SqL K H a xs → DqAll K H xs ds → Dq K H (.ref a) (.list ds)
  | tup {a : Addr} {xs : List V} {ds : List PyData} : SqT K H a xs → DqAll K H xs ds → Dq K H (.ref a) (.tuple ds)
  | dT {a : Addr} {kvs : List (List Key × V)} {ds : List (PyData × PyData)} : H a = some (.dT kvs) → DqT K H kvs ds → Dq K H (.ref a) (.dict ds)
inductive DqAll (K : PySem.W.Frag) (H : Hp) : List V → List PyData → Prop
  | nil : DqAll K H [] []
  | cons {v : V} {vs : List V} {d : PyData} {ds : List PyData} : Dq K H v d → DqAll K H vs ds → DqAll K H (v :: vs) (d :: ds)
inductive DqT (K : PySem.W.Frag) (H : Hp) : List (List Key × V) → List (PyData × PyData) → Prop
  | nil : DqT K H [] []
  | cons {k : List Key} {v : V} {kvs : List (List Key × V)} {d : PyData} {ds : List (PyData × PyData)} : Dq K H v d → DqT K H kvs ds → DqT K H ((k, v) :: kvs) ((.tuple (k.map keyD), d) :: ds)
end
mutual
theorem dp_noDict {K : PySem.W.Frag} {H : Hp} : ∀ (d : PyData) (v : V), Dp K H v d → d.hasDict = false
  | .none, _, _ => rfl
  | .bool _, _, _ => rfl
  | .int _, _, _ => rfl
  | .str _, _, _ => rfl
  | .list ds, _, h => by
    cases h with
    | lst _ h2 => simpa [PyData.hasDict] using dps_noDict ds _ h2
  | .tuple ds, _, h => by
    cases h with
    | tup _ h2 => simpa [PyData.hasDict] using dps_noDict ds _ h2
  | .dict _, _, h => by cases h
theorem dps_noDict {K : PySem.W.Frag} {H : Hp} : ∀ (ds : List PyData) (vs : List V), DpAll K H vs ds → PyData.hasDictAll ds = false
  | [], _, _ => rfl
  | d :: ds, _, h => by
    cases h with
    | cons h1 h2 => simp [PyData.hasDictAll, dp_noDict d _ h1, dps_noDict ds _ h2]
end
theorem dp_keys {K : PySem.W.Frag} {H : Hp} : ∀ k : List Key, DpAll K H (k.map kV) (k.map keyD)
  | [] => .nil
  | .inl n :: k => .cons (.int n) (dp_keys k)
  | .inr s :: k => .cons (.str s) (dp_keys k)
section
variable {X : Cx} {pins : List (Addr × Obj)} {σ : L2.St} {H : Hp} {s : Shared}
theorem dp_rdS (I : Inv X pins σ H s) {v : V} {d : PyData} {u : Value} (h : Dp X.K H v d) (r : RelV v u) : RdS s.heap u d :=
  let ⟨_, z⟩ := Dp.reads I d v u h r
  .plain z (dp_noDict d v h)
mutual
theorem Dq.rdS (I : Inv X pins σ H s) : ∀ {v : V} {d : PyData} {u : Value}, Dq X.K H v d → RelV v u → RdS s.heap u d
  | _, _, _, .dp h, r => dp_rdS I h r
  | _, _, _, .lst hs ha, r => by
    cases r
    obtain ⟨its, rv, ⟨o, n, ho, hc, _, hd⟩, _⟩ := I.list hs
    exact .list ho hc hd (DqAll.rdS I ha rv)
  | _, _, _, .tup hs ha, r => by
    cases r
    obtain ⟨its, rv, ⟨o, ho, hc, n, hd⟩, _⟩ := I.tuple hs
    exact .tuple ho hc hd (DqAll.rdS I ha rv)
  | _, _, _, .dT hs ha, r => by
    cases r
    obtain ⟨_, y, xs, kt, o, es, ep, h1, h2, h3, h4, _⟩ := dt_of I.hok hs
    obtain ⟨k1, k2⟩ := DqT.rdS I ha kt
    refine .dict h1 h2.1 h3 y ?_ ?_
    · rw [h4, List.map_map]
      exact k1
    · rw [h4, List.map_map]
      exact k2
theorem DqAll.rdS (I : Inv X pins σ H s) : ∀ {vs : List V} {ds : List PyData} {us : List Value}, DqAll X.K H vs ds → Vals vs us → RdSAll s.heap us ds
  | _, _, _, .nil, r => by
    cases r
    exact .nil
  | _, _, _, .cons h t, r => by
    cases r with
    | cons r1 r2 => exact .cons (Dq.rdS I h r1) (DqAll.rdS I t r2)
theorem DqT.rdS (I : Inv X pins σ H s) : ∀ {kvs : List (List Key × V)} {ds : List (PyData × PyData)} {xs : List (List Key × Addr × Value)}, DqT X.K H kvs ds → KT H kvs xs →
    RdSAll s.heap (xs.map fun x => Value.ref x.2.1) (ds.map (·.1)) ∧ RdSAll s.heap (xs.map fun x => x.2.2) (ds.map (·.2))
  | _, _, _, .nil, r => by
    cases r
    exact ⟨.nil, .nil⟩
  | _, _, _, .cons (k := k) h t, r => by
    cases r with
    | cons r1 r2 =>
      obtain ⟨_, e, rv⟩ := r1
      obtain ⟨z1, z2⟩ := DqT.rdS I t r2
      exact ⟨.cons (dp_rdS I (.tup (SqT.of e) (dp_keys k)) rfl) z1, .cons (Dq.rdS I h rv) z2⟩
end
end
/-- repr of a tuple or a list or a dict, with dicts in it -/
def rReprQ (K : PySem.W.Frag) : List V → Hp → VK → Prop := fun xs H Q => ∃ (a : Addr) (d : PyData), xs = [.ref a] ∧ Dq K H (.ref a) d ∧ d.hasDict = true ∧ d.showable = true ∧ d.depth ≤ 60 ∧ d.shown.length ≤ sizeLine ∧ Q (.str d.shown) H
theorem call_reprQ {X : Cx} (hg : X.A.guards = some []) (hu : X.A.units + 66 < cLine) : CallR X (.builtin "repr") (rReprQ X.K) := by
  intro pins s σ H xs us Q I r h
  obtain ⟨a, d, rfl, hd, has, show_, dep, sz, q⟩ := h
  obtain ⟨u, rfl, rx⟩ := vals1 r
  obtain rfl : u = Value.ref a := rx
  exact repr_rdS (Dq.rdS I hd rfl) has show_ sz hg (by omega) fun h2 v tk up => ⟨.str _, H, I.kept up, ⟨v, rfl⟩, q⟩
/-! ### how long shown data is -/
mutual
/-- a bound of the length of what is shown -/
def wt : PyData → Nat
  | .none => 4
  | .bool _ => 5
  | .int i => (toString i : Str).length
  | .str s => (PySem.reprText s).length
  | .list xs => wtAll xs + 4
  | .tuple xs => wtAll xs + 4
  | .dict kvs => wtKv kvs + 4
def wtAll : List PyData → Nat
  | [] => 0
  | x :: xs => wt x + 2 + wtAll xs
def wtKv : List (PyData × PyData) → Nat
  | [] => 0
  | (k, v) :: r => wt k + wt v + 4 + wtKv r
end
theorem listText_piled (ts : List Str) : (listText ts).length ≤ piled ts + 4 := by
  have : ∀ (ts : List Str) (k : Nat) (acc : Str), (textFrom k acc ts).length ≤ acc.length + piled ts := by
    intro ts
    induction ts with
    | nil =>
      intro k acc
      rw [textFrom, piled_nil]
      exact Nat.le_refl _
    | cons t ts ih =>
      intro k acc
      have h1 := ih (k + 1) (acc ++ (if k > 0 then ", " else "" : String) ++ t)
      have h2 : (acc ++ (if k > 0 then ", " else "" : String) ++ t).length ≤ acc.length + 2 + t.length := by
        rw [strLen_append, strLen_append]
        have : ((if k > 0 then ", " else "" : String) : Str).length ≤ 2 := by
          split
          · exact Nat.le_refl 2
          · exact Nat.zero_le 2
        omega
      rw [textFrom, piled_cons]
      omega
  have h := this ts 0 "["
  have e1 : (("[" : String) : Str).length = 1 := rfl
  have e2 : (("]" : String) : Str).length = 1 := rfl
  unfold listText
  rw [strLen_append]
  omega
theorem joined_piled (ts : List Str) : (Str.join ", " ts).length ≤ piled ts := by
  by_cases h : ts = []
  · subst h
    exact Nat.zero_le _
  · have := join_length_add ts h
    omega
theorem tupleText_piled (ts : List Str) : (tupleText ts).length ≤ piled ts + 4 := by
  have h := joined_piled ts
  have e1 : (("(" : String) : Str).length = 1 := rfl
  have e2 : ((if ts.length == 1 then ",)" else ")" : String) : Str).length ≤ 2 := by
    split
    · exact Nat.le_refl 2
    · exact Nat.le_succ 1
  unfold tupleText
  rw [strLen_append, strLen_append]
  omega
theorem dictText_piled (ts : List Str) : (dictText ts).length ≤ piled ts + 4 := by
  have h := joined_piled ts
  have e1 : (("{" : String) : Str).length = 1 := rfl
  have e2 : (("}" : String) : Str).length = 1 := rfl
  unfold dictText
  rw [strLen_append, strLen_append]
  omega
mutual
theorem shown_wt : ∀ d : PyData, d.shown.length ≤ wt d
  | .none => by
    rw [PyData.shown, wt]
    exact Nat.le_refl _
  | .bool b => by
    rw [PyData.shown, wt]
    cases b
    · exact Nat.le_refl _
    · exact Nat.le_succ _
  | .int i => by
    rw [PyData.shown, wt]
    exact Nat.le_refl _
  | .str s => by
    rw [PyData.shown, wt]
    exact Nat.le_refl _
  | .list xs => by
    rw [PyData.shown, wt]
    have := listText_piled (PyData.shownAll xs)
    have := shownAll_wt xs
    omega
  | .tuple xs => by
    rw [PyData.shown, wt]
    have := tupleText_piled (PyData.shownAll xs)
    have := shownAll_wt xs
    omega
  | .dict kvs => by
    rw [PyData.shown, wt]
    have := dictText_piled (PyData.shownKv kvs)
    have := shownKv_wt kvs
    omega
theorem shownAll_wt : ∀ ds : List PyData, piled (PyData.shownAll ds) ≤ wtAll ds
  | [] => by
    rw [PyData.shownAll, wtAll, piled_nil]
    exact Nat.le_refl _
  | d :: ds => by
    rw [PyData.shownAll, wtAll, piled_cons]
    have := shown_wt d
    have := shownAll_wt ds
    omega
theorem shownKv_wt : ∀ ds : List (PyData × PyData), piled (PyData.shownKv ds) ≤ wtKv ds
  | [] => by
    rw [PyData.shownKv, wtKv, piled_nil]
    exact Nat.le_refl _
  | (k, v) :: ds => by
    rw [PyData.shownKv, wtKv, piled_cons]
    have := shown_wt k
    have := shown_wt v
    have := shownKv_wt ds
    have e : ((": " : String) : Str).length = 2 := rfl
    rw [strLen_append, strLen_append]
    omega
end
theorem wtAll_up {B : Nat} : ∀ {ds : List PyData}, (∀ d ∈ ds, wt d ≤ B) → wtAll ds ≤ (B + 2) * ds.length
  | [], _ => by
    rw [wtAll]
    exact Nat.zero_le _
  | d :: ds, h => by
    rw [wtAll, List.length_cons, Nat.mul_succ]
    have := h d List.mem_cons_self
    have := wtAll_up (ds := ds) fun x m => h x (List.mem_cons_of_mem _ m)
    omega
theorem wtKv_up {B : Nat} : ∀ {ds : List (PyData × PyData)}, (∀ d ∈ ds, wt d.1 + wt d.2 ≤ B) → wtKv ds ≤ (B + 4) * ds.length
  | [], _ => by
    rw [wtKv]
    exact Nat.zero_le _
  | (k, v) :: ds, h => by
    rw [wtKv, List.length_cons, Nat.mul_succ]
    have h1 : wt k + wt v ≤ B := h (k, v) List.mem_cons_self
    have := wtKv_up (ds := ds) fun x m => h x (List.mem_cons_of_mem _ m)
    omega
end Lr

set_option Elab.async false
set_option linter.all false
set_option maxRecDepth 100000
set_option maxHeartbeats 4000000
namespace Ld
open PySem PySem.Spec PyProof.Rows L2 Lg Lr
def topS (i : Nat) : Stmt := PySem.Challenge.pw_leastmend_k14_tables_of_rows.main.body.getD i (.Pass ⟨0, 0, 0, 0⟩)
abbrev s_names_of : Stmt := topS 1
abbrev s_added : Stmt := topS 3
abbrev s_least : Stmt := topS 4
abbrev s_put_price : Stmt := topS 6
abbrev s_out_price : Stmt := topS 7
abbrev s_change_price : Stmt := topS 8
abbrev s_leaf_price : Stmt := topS 9
abbrev s_shorter_first : Stmt := topS 11
abbrev s_leaf_costs : Stmt := topS 12
abbrev s_table : Stmt := topS 14
abbrev s_filled : Stmt := topS 15
abbrev s__pieces : Stmt := topS 16
abbrev s__piece : Stmt := topS 17
abbrev s__least_split : Stmt := topS 18
abbrev s__made_entries : Stmt := topS 19
abbrev s__users_of : Stmt := topS 20
abbrev s__entries_from : Stmt := topS 21
abbrev s__rests_of : Stmt := topS 22
abbrev s__rests_over_nothing : Stmt := topS 23
abbrev s__law_draws : Stmt := topS 25
abbrev sDraws : Stmt := topS 25
abbrev s__law_at : Stmt := topS 26
abbrev sAt : Stmt := topS 26
abbrev s__law_is_integer : Stmt := topS 27
abbrev sLInt : Stmt := topS 27
abbrev s__law_grammar : Stmt := topS 28
abbrev sGram : Stmt := topS 28
abbrev s__law_prices : Stmt := topS 29
abbrev sPrices : Stmt := topS 29
abbrev s__law_row : Stmt := topS 30
abbrev sRow : Stmt := topS 30
abbrev s__law_put : Stmt := topS 31
abbrev sLPut : Stmt := topS 31
abbrev s__law_out : Stmt := topS 32
abbrev sLOut : Stmt := topS 32
abbrev s__law_change : Stmt := topS 33
abbrev sLChg : Stmt := topS 33
abbrev s__law_leaf : Stmt := topS 34
abbrev sLLeaf : Stmt := topS 34
abbrev s__law_is_name : Stmt := topS 35
abbrev sLIsName : Stmt := topS 35
abbrev s__law_least : Stmt := topS 36
abbrev sLeast : Stmt := topS 36
abbrev s__law_start : Stmt := topS 37
abbrev sStart : Stmt := topS 37
abbrev s__law_round : Stmt := topS 38
abbrev sRound : Stmt := topS 38
abbrev s__law_table : Stmt := topS 39
abbrev sTable : Stmt := topS 39
abbrev s_law : Stmt := topS 40
abbrev sLaw : Stmt := topS 40
section
variable {P : Program} {w : World} {K : PySem.W.Frag} {mg : Str → Option Value} {base : Heap}
/-! ### the law's own draws -/
theorem scDr : FnScope ["script", "draws", "k", "rest", "turn", "mixed"] ["script"] (defScope sDraws) := ⟨rfl, rfl, rfl, by decide +kernel, rfl, by decide +kernel, by decide +kernel⟩
/-- a new list of the draws; what stood stands -/
def spDraws (K : PySem.W.Frag) : Sp := fun vs H Q _ => ∃ (a : Addr) (ns : List Int), vs = [.ref a] ∧ SqL K H a (ns.map V.int) ∧ ns.length ≤ 63 ∧
  ∀ p, H p = none → Q (.ref p) (upd H p (.lst ((drawsOf ns).map V.int)))
theorem ok_draws {f : Addr} {fd : FuncData} {k : Nat} (F : Fun K "_law_draws" "_law_draws" sDraws f fd) (mr : mg "range" = none) (mm : mg "min" = none) (ml : mg "len" = none) (ma : mg "abs" = none) (mi : mg "int" = none) :
    FnOk P w K mg base CX0 (k + 1) f fd ["script"] (spDraws K) := by
  refine F.ok scDr (fun vs H Q E h => ?_) (fun cdv A outer s H vs Q E hr h => ?_)
  · obtain ⟨a, ns, rfl, _⟩ := h
    rfl
  · obtain ⟨a, ns, rfl, hS, hlen, q⟩ := h
    refine ⟨_, pss_cons (ps_set (i := 1) scDr.nd rfl (.inl rfl) (pe_lst pa_nil))
      (pss_cons (ps_for PassesOwn.never rfl (pi_range1 rfl mr (pa_cons (pe_callB (call_min2 rfl) (by rfl) mm (by decide +kernel) (pa_cons pe_int (pa_cons (pe_callB call_len_seq (by rfl) ml PySem.boot_len (pa_cons (pv 0) pa_nil)) pa_nil))) pa_nil))
          (pg_name (i := 2) scDr.nd rfl (.inl rfl))
        (pss_cons (ps_set (i := 3) scDr.nd rfl (.inl rfl) (pe_callB call_abs (by rfl) ma (by decide +kernel) (pa_cons (pe_ix ix_list (pv 0) (pv 2) (fun _ _ => rfl)) pa_nil)))
        (pss_one (ps_if (pt_cmpR op_ge (pv 3) (pe_op op_pow pe_int pe_int) (nomark _))
          (pss_one (ps_for PassesOwn.never rfl (pi_range1 rfl mr (pa_cons pe_int pa_nil)) (pg_name (i := 4) scDr.nd rfl (.inl rfl))
            (pss_one (ps_if (pt_cmpR op_gt (pv 3) pe_int (nomark _))
              (pss_cons (ps_expr (pe_bm PySem.F.plainAttrs_list PySem.F.slot_list_append PySem.F.type_list_append mt_append (pv 1) (pa_cons (pe_op op_mod (pe_callTy call_int1 (by rfl) mi (by decide +kernel) (pa_cons (pv 3) pa_nil)) pe_int) pa_nil)))
              (pss_one (ps_set (i := 3) scDr.nd rfl (.inl rfl) (pe_op op_fdiv (pv 3) pe_int)))) pss_nil))))
          (pss_cons (ps_set (i := 5) scDr.nd rfl (.inl rfl) (pe_op op_mod (pe_callTy call_int1 (by rfl) mi (by decide +kernel) (pa_cons (pe_op op_add (pe_op op_mul (pv 3) pe_int) (pe_op op_mul (pe_op op_add (pv 2) pe_int) pe_int)) pa_nil)) pe_int))
          (pss_cons (ps_set (i := 5) scDr.nd rfl (.inl rfl) (pe_op op_mod (pe_callTy call_int1 (by rfl) mi (by decide +kernel) (pa_cons (pe_op op_add (pe_op op_add (pe_op op_mul (pv 5) pe_int) (pe_op op_mul pe_int (pv 2))) pe_int) pa_nil)) pe_int))
          (pss_cons (ps_expr (pe_bm PySem.F.plainAttrs_list PySem.F.slot_list_append PySem.F.type_list_append mt_append (pv 1) (pa_cons (pe_op op_mod (pe_callTy call_int1 (by rfl) mi (by decide +kernel) (pa_cons (pv 5) pa_nil)) pe_int) pa_nil)))
          (pss_one (ps_expr (pe_bm PySem.F.plainAttrs_list PySem.F.slot_list_append PySem.F.type_list_append mt_append (pv 1) (pa_cons (pe_op op_mod (pe_callTy call_int1 (by rfl) mi (by decide +kernel) (pa_cons (pe_op op_fdiv (pv 5) pe_int) pa_nil)) pe_int) pa_nil)))))))))))
      (pss_one (ps_ret (pv 1)))), ?_⟩
    -- draws = []
    refine ⟨Nat.zero_le _, fun o no => ?_⟩
    have s1 : Same H (upd H o (.lst [])) := same_upd no
    have nao : ∀ G : HO, SqL K (upd H o G) a (ns.map V.int) := fun G => (same_upd no).seq hS
    have hi62 : (ns.length : Int) < 2 ^ 62 := by omega
    -- range(min(63, len(script)))
    have ej : (if ((ns.map V.int).length : Int) < 63 then ((ns.map V.int).length : Int) else 63) = (ns.length : Int) := by
      rw [List.length_map]
      split <;> omega
    refine ⟨.ref a, rfl, a, ns.map V.int, rfl, .inl (s1.seq hS), 63, _, rfl, _, rfl, by rw [ej]; omega, by rw [ej]; omega, ?_⟩
    rw [ej]
    refine for_range (lo := 0) (n := ns.length) (fun i σ H' => ∃ v2 v3 v4 v5, σ = [some (.ref a), some (.ref o), v2, v3, v4, v5] ∧ H' = upd H o (.lst ((drawsN ns i).map V.int))) ⟨none, none, none, none, rfl, rfl⟩ ?_ ?_
    · rintro i σ H' hi ⟨v2, v3, v4, v5, rfl, rfl⟩
      have gi := getI hi
      have hSi := nao (.lst ((drawsN ns i).map V.int))
      have hl := drawsN_len ns i
      -- rest = abs(script[k])
      refine ⟨.ref a, rfl, _, rfl, a, _, _, _, rfl, rfl, hSi, at_of (j := i) (by omega) gi, ns.getD i 0, rfl, ?_⟩
      rw [Int.zero_add]
      refine ⟨_, rfl, _, _, rfl, rfl, ⟨by decide, by decide, by decide⟩, _, _, rfl, rfl, _, rfl, ite2 (fun c => ?_) (fun c => ?_)⟩
      · -- the digits
        have c1 : (10 : Int) ^ (18 : Int).toNat ≤ dabs (ns.getD i 0) := of_decide_eq_true c
        have e1 : drawsN ns (i + 1) = (diter 60 (dabs (ns.getD i 0), drawsN ns i)).2 := if_pos c1
        refine ⟨60, rfl, by decide, by decide, for_range (lo := 0) (n := 60) (fun j σ H' => ∃ v4, σ = [some (.ref a), some (.ref o), some (.int i), some (.int (diter j (dabs (ns.getD i 0), drawsN ns i)).1), v4, v5] ∧ H' = upd H o (.lst ((diter j (dabs (ns.getD i 0), drawsN ns i)).2.map V.int)))
          ⟨v4, rfl, rfl⟩ ?_ ?_⟩
        · rintro j σ H' hj ⟨w4, rfl, rfl⟩
          have hl2 := diter_len (dabs (ns.getD i 0), drawsN ns i) j
          generalize hp : diter j (dabs (ns.getD i 0), drawsN ns i) = p at hl2
          have e2 : diter (j + 1) (dabs (ns.getD i 0), drawsN ns i) = dstep p := by rw [← hp]; rfl
          refine ⟨_, rfl, _, _, rfl, rfl, _, rfl, ite2 (fun c2 => ?_) (fun c2 => ?_)⟩
          · have e3 : dstep p = (p.1 / 65536, p.2 ++ [p.1 % 65536]) := if_pos (of_decide_eq_true c2)
            refine ⟨.ref o, rfl, .inl ⟨rfl, _, SqL.of upd_same⟩, _, rfl, .inl ⟨_, rfl, _, _, rfl, rfl, (by show (0 : Int) < 65536; decide), o, _, _, rfl, rfl, upd_same, ?_, _, rfl, _, _, rfl, rfl, ⟨by decide, by decide⟩, some (.int (0 + j)), ?_, ?_⟩⟩
            · rw [List.length_map]
              refine small4000 ?_
              have hl3 : (drawsN ns i).length ≤ 60 * i := hl
              have hl4 : p.2.length ≤ (drawsN ns i).length + j := hl2
              omega
            · rw [e2, e3]
              rfl
            · rw [e2, e3, upd_upd, List.map_append]
              rfl
          · have e3 : dstep p = p := if_neg fun z => c2 (decide_eq_true z)
            refine ⟨some (.int (0 + j)), ?_, ?_⟩
            · rw [e2, e3]
              rfl
            · rw [e2, e3]
        · rintro σ H' ⟨w4, rfl, rfl⟩
          exact ⟨_, _, _, _, rfl, by rw [e1]⟩
      · -- two mixed numbers
        have e1 : drawsN ns (i + 1) = drawsN ns i ++ [dmix2 i (dabs (ns.getD i 0)) % 65536] ++ [dmix2 i (dabs (ns.getD i 0)) / 65536 % 32768] := if_neg fun z => c (decide_eq_true z)
        refine ⟨_, rfl, _, _, rfl, rfl, .inr ⟨by decide, by decide⟩, _, rfl, _, _, rfl, rfl, _, _, rfl, rfl, .inr ⟨by decide, by decide⟩, _, _, rfl, rfl, .inl ⟨_, rfl, _, _, rfl, rfl, (by show (0 : Int) < 2147483647; decide), ?_⟩⟩
        refine ⟨_, rfl, _, _, rfl, rfl, .inr ⟨by decide, by decide⟩, _, rfl, _, _, rfl, rfl, .inl ⟨by decide, by decide⟩, _, _, rfl, rfl, _, _, rfl, rfl, .inl ⟨_, rfl, _, _, rfl, rfl, (by show (0 : Int) < 2147483629; decide), ?_⟩⟩
        refine ⟨.ref o, rfl, .inl ⟨rfl, _, SqL.of upd_same⟩, _, rfl, .inl ⟨_, rfl, _, _, rfl, rfl, (by show (0 : Int) < 65536; decide), o, _, _, rfl, rfl, upd_same, ?_, ?_⟩⟩
        · rw [List.length_map]
          exact small4000 (by omega)
        refine ⟨.ref o, rfl, .inl ⟨rfl, _, SqL.of upd_same⟩, _, rfl, _, _, rfl, rfl, ⟨by decide, by decide⟩, .inl ⟨_, rfl, _, _, rfl, rfl, (by show (0 : Int) < 32768; decide), o, _, _, rfl, rfl, upd_same, ?_, ?_⟩⟩
        · rw [List.length_append, List.length_map]
          exact small4000 (by show (drawsN ns i).length + 1 ≤ 4000; omega)
        refine ⟨_, _, _, _, rfl, ?_⟩
        rw [e1, upd_upd, upd_upd, List.map_append, List.map_append]
        rfl
    · rintro σ H' ⟨v2, v3, v4, v5, rfl, rfl⟩
      exact ⟨.ref o, rfl, q o no⟩
/-! ### a draw below many -/
theorem scAt : FnScope ["draws", "k", "many"] ["draws", "k", "many"] (defScope sAt) := ⟨rfl, rfl, rfl, by decide +kernel, rfl, by decide +kernel, by decide +kernel⟩
def spAt (K : PySem.W.Frag) : Sp := fun vs H Q _ => ∃ (a : Addr) (ds : List Int) (k many : Int), vs = [.ref a, .int k, .int many] ∧ SqL K H a (ds.map V.int) ∧ 0 ≤ k ∧ 0 < many ∧ Q (.int (atD ds k many)) H
theorem ok_at {f : Addr} {fd : FuncData} {k : Nat} (F : Fun K "_law_at" "_law_at" sAt f fd) (ml : mg "len" = none) (mi : mg "int" = none) :
    FnOk P w K mg base CX0 (k + 1) f fd ["draws", "k", "many"] (spAt K) := by
  refine F.ok scAt (fun vs H Q E h => ?_) (fun cdv A outer s H vs Q E hr h => ?_)
  · obtain ⟨a, ds, k, many, rfl, _⟩ := h
    rfl
  · obtain ⟨a, ds, k, many, rfl, hS, h0, hm, q⟩ := h
    refine ⟨_, pss_cons (ps_if (pt_cmpR op_lt (pv 1) (pe_callB call_len_seq (by rfl) ml PySem.boot_len (pa_cons (pv 0) pa_nil)) (nomark _))
        (pss_one (ps_ret (pe_op op_mod (pe_callTy call_int1 (by rfl) mi (by decide +kernel) (pa_cons (pe_ix ix_list (pv 0) (pv 1) (fun _ _ => rfl)) pa_nil)) (pv 2)))) pss_nil)
      (pss_one (ps_ret pe_int)), ?_⟩
    refine ⟨_, rfl, _, rfl, a, _, rfl, .inl hS, _, _, rfl, rfl, _, rfl, ite2 (fun c => ?_) (fun c => ?_)⟩
    · have c1 : k < ((ds.map V.int).length : Int) := of_decide_eq_true c
      rw [List.length_map] at c1
      have gi := getI (ns := ds) (i := k.toNat) (by omega)
      refine ⟨_, rfl, _, rfl, a, _, _, _, rfl, rfl, hS, at_of (j := k.toNat) (by omega) gi, .inl ⟨_, rfl, _, rfl, _, _, rfl, rfl, hm, ?_⟩⟩
      have e : atD ds k many = ds.getD k.toNat 0 % many := if_pos c1
      show Q (.int (ds.getD k.toNat 0 % many)) H
      rw [← e]
      exact q
    · have c1 : ¬ k < ((ds.map V.int).length : Int) := fun z => c (decide_eq_true z)
      rw [List.length_map] at c1
      have e : atD ds k many = 0 := if_neg c1
      show Q (.int 0) H
      rw [← e]
      exact q
theorem units1 {k : Nat} {A : Around} (h : Room k A) : A.units + 1 < cLine := by
  have := h.un
  omega
theorem units64 {k : Nat} {A : Around} (h : Room k A) : A.units + 64 < cLine := by
  have := h.un
  omega
theorem units66 {k : Nat} {A : Around} (h : Room k A) : A.units + 66 < cLine := by
  have := h.un
  omega
theorem units120 {k : Nat} {A : Around} (h : Room k A) : A.units + 120 < cLine := by
  have := h.un
  omega
end
end Ld

set_option Elab.async false
set_option linter.all false
set_option maxRecDepth 100000
set_option maxHeartbeats 4000000
/-! Least costs of trees over stretches: mathematics. Stretches may be known. -/
namespace Lb
open PySem Ld
abbrev Cost := Int × Int
def cle (a b : Cost) : Prop := a.1 < b.1 ∨ (a.1 = b.1 ∧ a.2 ≤ b.2)
def clt (a b : Cost) : Prop := a.1 < b.1 ∨ (a.1 = b.1 ∧ a.2 < b.2)
theorem cle_refl (a : Cost) : cle a a := .inr ⟨rfl, Int.le_refl _⟩
theorem cle_trans {a b c : Cost} (h : cle a b) (k : cle b c) : cle a c := by
  unfold cle at *
  omega
theorem cle_anti {a b : Cost} (h : cle a b) (k : cle b a) : a = b := by
  unfold cle at *
  exact Prod.ext (by omega) (by omega)
theorem cle_of_clt {a b : Cost} (h : clt a b) : cle a b := by
  unfold cle clt at *
  omega
theorem cle_or (a b : Cost) : cle a b ∨ clt b a := by
  unfold cle clt
  omega
theorem clt_not {a b : Cost} (h : clt a b) (k : cle b a) : False := by
  unfold cle clt at *
  omega
theorem clt_of {a b c : Cost} (h : cle a b) (k : clt b c) : clt a c := by
  unfold cle clt at *
  omega
theorem cle_add {a b c d : Cost} (h : cle a b) (k : cle c d) : cle (a.1 + c.1, a.2 + c.2) (b.1 + d.1, b.2 + d.2) := by
  unfold cle at *
  dsimp only
  omega
/-- the least of the costs of S; none where there is none -/
def LeastO (S : Cost → Prop) : Option Cost → Prop
  | none => ∀ c, ¬ S c
  | some c => S c ∧ ∀ d, S d → cle c d
theorem least_one {S : Cost → Prop} {a b : Option Cost} (h : LeastO S a) (k : LeastO S b) : a = b := by
  match a, b with
  | none, none => rfl
  | none, some c => exact (h c k.1).elim
  | some c, none => exact (k c h.1).elim
  | some c, some d => rw [cle_anti (h.2 d k.1) (k.2 c h.1)]
theorem LeastO.up {S : Cost → Prop} {o : Option Cost} (h : LeastO S o) {c : Cost} (m : S c) : ∃ d, o = some d ∧ cle d c := by
  match o with
  | none => exact (h c m).elim
  | some d => exact ⟨d, rfl, h.2 c m⟩
theorem LeastO.mem {S : Cost → Prop} {c : Cost} (h : LeastO S (some c)) : S c := h.1
theorem LeastO.of {S : Cost → Prop} {o : Option Cost} (h1 : ∀ c, o = some c → S c) (h2 : ∀ c, S c → ∃ d, o = some d ∧ cle d c) : LeastO S o := by
  match o with
  | none =>
    intro c m
    obtain ⟨d, e, _⟩ := h2 c m
    cases e
  | some c =>
    refine ⟨h1 c rfl, fun d m => ?_⟩
    obtain ⟨e, q, z⟩ := h2 d m
    rw [Option.some.inj q]
    exact z
theorem least1 {S : Cost → Prop} (pos : ∀ c, S c → 0 ≤ c.1 ∧ 0 ≤ c.2) : ∀ (n : Nat) (c : Cost), S c → c.1.toNat = n → ∃ d, S d ∧ ∀ x, S x → d.1 ≤ x.1 := by
  intro n
  induction n using Nat.strongRecOn with
  | _ n ih =>
    intro c hc e
    by_cases h : ∃ d, S d ∧ d.1 < c.1
    · obtain ⟨d, hd, lt⟩ := h
      have := pos d hd
      exact ih d.1.toNat (by omega) d hd rfl
    · exact ⟨c, hc, fun x hx => Int.not_lt.mp fun z => h ⟨x, hx, z⟩⟩
theorem least2 {S : Cost → Prop} (pos : ∀ c, S c → 0 ≤ c.1 ∧ 0 ≤ c.2) : ∀ (n : Nat) (c : Cost), S c → c.2.toNat = n → ∃ d, S d ∧ ∀ x, S x → d.2 ≤ x.2 := by
  intro n
  induction n using Nat.strongRecOn with
  | _ n ih =>
    intro c hc e
    by_cases h : ∃ d, S d ∧ d.2 < c.2
    · obtain ⟨d, hd, lt⟩ := h
      have := pos d hd
      exact ih d.2.toNat (by omega) d hd rfl
    · exact ⟨c, hc, fun x hx => Int.not_lt.mp fun z => h ⟨x, hx, z⟩⟩
theorem least_ex {S : Cost → Prop} (pos : ∀ c, S c → 0 ≤ c.1 ∧ 0 ≤ c.2) : ∃ o, LeastO S o := by
  by_cases h : ∃ c, S c
  · obtain ⟨c, hc⟩ := h
    obtain ⟨d, hd, le⟩ := least1 pos _ c hc rfl
    obtain ⟨e, ⟨he, e1⟩, le2⟩ := least2 (S := fun x => S x ∧ x.1 = d.1) (fun x hx => pos x hx.1) _ d ⟨hd, rfl⟩ rfl
    refine ⟨some e, he, fun x hx => ?_⟩
    have a := le x hx
    by_cases q : x.1 = d.1
    · have := le2 x ⟨hx, q⟩
      unfold cle
      omega
    · unfold cle
      omega
  · exact ⟨none, fun c hc => h ⟨c, hc⟩⟩
/-- the entries of a stretch -/
structure Ent where
  nm : Str → Option Cost
  rs : Nat → Nat → Option Cost
/-- rules, leaves' prices, which symbols are names, what is known -/
structure Pb where
  G : List Rule
  leaf : Str → Nat → Nat → Int
  isN : Str → Bool
  kn : Nat → Nat → Option Ent
mutual
/-- costs of the trees of a name over a stretch -/
inductive TreeC (B : Pb) : Str → Nat → Nat → Cost → Prop
  | known {N : Str} {i j : Nat} {e : Ent} {c : Cost} : B.kn i j = some e → e.nm N = some c → TreeC B N i j c
  | mk {N : Str} {i j r : Nat} {ss : List Str} {c : Cost} : B.kn i j = none → B.G[r]? = some (N, ss) → RestC B r 0 i j c → TreeC B N i j (c.1, c.2 + 1)
/-- costs of the parts for the symbols of a rule from a dot on -/
inductive RestC (B : Pb) : Nat → Nat → Nat → Nat → Cost → Prop
  | known {r d i j : Nat} {e : Ent} {c : Cost} : B.kn i j = some e → e.rs r d = some c → RestC B r d i j c
  | nil {r d i : Nat} {N : Str} {ss : List Str} : B.kn i i = none → B.G[r]? = some (N, ss) → d = ss.length → RestC B r d i i (0, 0)
  | leaf {r d i j e : Nat} {N k : Str} {ss : List Str} {c : Cost} : B.kn i j = none → B.G[r]? = some (N, ss) → ss[d]? = some k → B.isN k = false → i ≤ e → e ≤ j → RestC B r (d + 1) e j c → RestC B r d i j (B.leaf k i e + c.1, 1 + c.2)
  | tree {r d i j e : Nat} {N k : Str} {ss : List Str} {a c : Cost} : B.kn i j = none → B.G[r]? = some (N, ss) → ss[d]? = some k → B.isN k = true → i ≤ e → e ≤ j → TreeC B k i e a → RestC B r (d + 1) e j c → RestC B r d i j (a.1 + c.1, a.2 + c.2)
end
/-- nothing costs less than nothing -/
structure PbOk (B : Pb) : Prop where
  leaf : ∀ k i e, 0 ≤ B.leaf k i e
  kn : ∀ i j e, B.kn i j = some e → (∀ N c, e.nm N = some c → 0 ≤ c.1 ∧ 0 ≤ c.2) ∧ ∀ r d c, e.rs r d = some c → 0 ≤ c.1 ∧ 0 ≤ c.2
mutual
theorem TreeC.pos {B : Pb} (ok : PbOk B) : ∀ {N : Str} {i j : Nat} {c : Cost}, TreeC B N i j c → 0 ≤ c.1 ∧ 0 ≤ c.2
  | _, _, _, _, .known h k => (ok.kn _ _ _ h).1 _ _ k
  | _, _, _, _, .mk _ _ k => by
    have := RestC.pos ok k
    dsimp only
    omega
theorem RestC.pos {B : Pb} (ok : PbOk B) : ∀ {r d i j : Nat} {c : Cost}, RestC B r d i j c → 0 ≤ c.1 ∧ 0 ≤ c.2
  | _, _, _, _, _, .known h k => (ok.kn _ _ _ h).2 _ _ _ k
  | _, _, _, _, _, .nil _ _ _ => ⟨Int.le_refl _, Int.le_refl _⟩
  | _, _, _, _, _, .leaf (k := k) (i := i) (e := e) _ _ _ _ _ _ z => by
    have := RestC.pos ok z
    have := ok.leaf k i e
    dsimp only
    omega
  | _, _, _, _, _, .tree _ _ _ _ _ _ y z => by
    have := TreeC.pos ok y
    have := RestC.pos ok z
    dsimp only
    omega
end
/-- what the parts of a rule from a dot on cost by the entries of T -/
def CombC (B : Pb) (T : Nat → Nat → Ent) (r d i j : Nat) (c : Cost) : Prop := ∃ N ss, B.G[r]? = some (N, ss) ∧ ((d = ss.length ∧ i = j ∧ c = (0, 0)) ∨
  ∃ (k : Str) (e : Nat) (a b : Cost), ss[d]? = some k ∧ i ≤ e ∧ e ≤ j ∧ (T e j).rs r (d + 1) = some b ∧ ((B.isN k = false ∧ a = (B.leaf k i e, 1)) ∨ (B.isN k = true ∧ (T i e).nm k = some a)) ∧ c = (a.1 + b.1, a.2 + b.2))
structure SoundAt (B : Pb) (e : Ent) (i j : Nat) : Prop where
  nm : ∀ N c, e.nm N = some c → TreeC B N i j c
  rs : ∀ r d c, e.rs r d = some c → RestC B r d i j c
structure LeastAt (B : Pb) (e : Ent) (i j : Nat) : Prop where
  nm : ∀ N, LeastO (TreeC B N i j) (e.nm N)
  rs : ∀ r d, LeastO (RestC B r d i j) (e.rs r d)
theorem LeastAt.sound {B : Pb} {e : Ent} {i j : Nat} (h : LeastAt B e i j) : SoundAt B e i j := by
  refine ⟨fun N c q => ?_, fun r d c q => ?_⟩
  · have := h.nm N
    rw [q] at this
    exact this.1
  · have := h.rs r d
    rw [q] at this
    exact this.1
theorem known_least {B : Pb} {e : Ent} {i j : Nat} (h : B.kn i j = some e) : LeastAt B e i j := by
  constructor
  · intro N
    refine LeastO.of (fun c q => .known h q) fun c m => ?_
    cases m with
    | known h2 q =>
      rw [h] at h2
      rw [Option.some.inj h2]
      exact ⟨c, q, cle_refl c⟩
    | mk h2 _ _ =>
      rw [h] at h2
      cases h2
  · intro r d
    refine LeastO.of (fun c q => .known h q) fun c m => ?_
    cases m with
    | known h2 q =>
      rw [h] at h2
      rw [Option.some.inj h2]
      exact ⟨c, q, cle_refl c⟩
    | nil h2 _ _ =>
      rw [h] at h2
      cases h2
    | leaf h2 _ _ _ _ _ _ =>
      rw [h] at h2
      cases h2
    | tree h2 _ _ _ _ _ _ _ =>
      rw [h] at h2
      cases h2
/-- the table T with e at one stretch -/
def wi (T : Nat → Nat → Ent) (i j : Nat) (e : Ent) : Nat → Nat → Ent := fun a b => if a = i ∧ b = j then e else T a b
theorem wi_same {T : Nat → Nat → Ent} {i j : Nat} {e : Ent} : wi T i j e i j = e := if_pos ⟨rfl, rfl⟩
theorem wi_other {T : Nat → Nat → Ent} {i j a b : Nat} {e : Ent} (h : ¬ (a = i ∧ b = j)) : wi T i j e a b = T a b := if_neg h
section
variable {B : Pb} {T : Nat → Nat → Ent} {i j : Nat}
/-- all stretches within, but this one, are done -/
def Short (B : Pb) (T : Nat → Nat → Ent) (i j : Nat) : Prop := ∀ a b, i ≤ a → a ≤ b → b ≤ j → ¬ (a = i ∧ b = j) → LeastAt B (T a b) a b
theorem Short.sound (h : Short B T i j) {e : Ent} (s : SoundAt B e i j) {a b : Nat} (h1 : i ≤ a) (h2 : a ≤ b) (h3 : b ≤ j) : SoundAt B (wi T i j e a b) a b := by
  by_cases q : a = i ∧ b = j
  · rw [q.1, q.2, wi_same]
    exact s
  · rw [wi_other q]
    exact (h a b h1 h2 h3 q).sound
theorem comb_sound (short : Short B T i j) (hk : B.kn i j = none) {e : Ent} (s : SoundAt B e i j) {r d : Nat} {c : Cost} (h : CombC B (wi T i j e) r d i j c) : RestC B r d i j c := by
  obtain ⟨N, ss, hr, ⟨e1, e2, e3⟩ | ⟨k, f, a, b, hs, h1, h2, hb, ha, rfl⟩⟩ := h
  · subst e2
    rw [e3]
    exact .nil hk hr e1
  · have rb := (short.sound s h1 h2 (Nat.le_refl j)).rs _ _ _ hb
    rcases ha with ⟨n, rfl⟩ | ⟨n, q⟩
    · exact .leaf hk hr hs n h1 h2 rb
    · exact .tree hk hr hs n h1 h2 ((short.sound s (Nat.le_refl i) h1 h2).nm _ _ q) rb
/-- names of cost within A have their entries -/
def NB (B : Pb) (i j : Nat) (A : Cost → Prop) (e : Ent) : Prop := ∀ N c, TreeC B N i j c → A c → ∃ d, e.nm N = some d ∧ cle d c
def RB (B : Pb) (i j : Nat) (A : Cost → Prop) (e : Ent) (r d : Nat) : Prop := ∀ c, RestC B r d i j c → A (c.1, c.2 + 1) → ∃ x, e.rs r d = some x ∧ cle x c
/-- A holds what is less than something in A' -/
structure Under (A A' : Cost → Prop) : Prop where
  lt : ∀ a b, A' a → clt b a → A b
  le : ∀ a b, A' a → cle b a → A' b
theorem rest_bound (ok : PbOk B) (short : Short B T i j) (hk : B.kn i j = none) {e : Ent} {A A' : Cost → Prop} (U : Under A A') (nb : NB B i j A e) {r d : Nat} (next : RB B i j A' e r (d + 1)) {o : Option Cost} (ho : LeastO (CombC B (wi T i j e) r d i j) o) :
    ∀ c, RestC B r d i j c → A' (c.1, c.2 + 1) → ∃ x, o = some x ∧ cle x c := by
  have down : ∀ {f : Nat} {c : Cost}, i ≤ f → f ≤ j → RestC B r (d + 1) f j c → (f = i → A' (c.1, c.2 + 1)) → ∃ x, (wi T i j e f j).rs r (d + 1) = some x ∧ cle x c := fun {f c} h1 h2 z q => by
    by_cases w : f = i ∧ j = j
    · rw [w.1, wi_same]
      rw [w.1] at z
      exact next c z (q w.1)
    · rw [wi_other w]
      exact ((short f j h1 h2 (Nat.le_refl j) w).rs r (d + 1)).up z
  intro c hc ha
  cases hc with
  | known h _ =>
    rw [hk] at h
    cases h
  | nil _ hr hd => exact ho.up ⟨_, _, hr, .inl ⟨hd, rfl, rfl⟩⟩
  | leaf h0 hr hs hn h1 h2 z =>
    rename_i f N k ss c
    have p0 := ok.leaf k i f
    obtain ⟨x, ex, lx⟩ := down h1 h2 z fun _ => U.le _ _ ha (by unfold cle; dsimp only; omega)
    obtain ⟨y, ey, ly⟩ := ho.up ⟨N, ss, hr, .inr ⟨k, f, (B.leaf k i f, 1), x, hs, h1, h2, ex, .inl ⟨hn, rfl⟩, rfl⟩⟩
    exact ⟨y, ey, cle_trans ly (cle_add (cle_refl (B.leaf k i f, 1)) lx)⟩
  | tree h0 hr hs hn h1 h2 t z =>
    rename_i f N k ss a c
    have pa := TreeC.pos ok t
    have pc := RestC.pos ok z
    obtain ⟨x, ex, lx⟩ := down h1 h2 z fun _ => U.le _ _ ha (by unfold cle; dsimp only; omega)
    obtain ⟨y, ey, ly⟩ : ∃ y, (wi T i j e i f).nm k = some y ∧ cle y a := by
      by_cases w : i = i ∧ f = j
      · rw [w.2, wi_same]
        rw [w.2] at t
        exact nb k a t (U.lt _ _ ha (by unfold clt; dsimp only; omega))
      · rw [wi_other w]
        exact ((short i f (Nat.le_refl i) h1 h2 w).nm k).up t
    obtain ⟨v, ev, lv⟩ := ho.up ⟨N, ss, hr, .inr ⟨k, f, y, x, hs, h1, h2, ex, .inr ⟨hn, ey⟩, rfl⟩⟩
    exact ⟨v, ev, cle_trans lv (cle_add ly lx)⟩
end
end Lb

set_option Elab.async false
set_option linter.all false
set_option maxRecDepth 100000
set_option maxHeartbeats 4000000
/-! Entries that are bettered in rounds: when they are the least ones. -/
namespace Lb
open PySem Ld
section
variable {B : Pb} {T : Nat → Nat → Ent} {i j : Nat} {e : Ent}
mutual
theorem closedT (short : Short B T i j) (hk : B.kn i j = none) (crs : ∀ r d, LeastO (CombC B (wi T i j e) r d i j) (e.rs r d)) (cnm : ∀ r N ss c, B.G[r]? = some (N, ss) → e.rs r 0 = some c → ∃ x, e.nm N = some x ∧ cle x (c.1, c.2 + 1)) :
    ∀ {N : Str} {a b : Nat} {c : Cost}, TreeC B N a b c → i ≤ a → a ≤ b → b ≤ j → ∃ x, (wi T i j e a b).nm N = some x ∧ cle x c
  | N, a, b, c, .known h q, h1, h2, h3 => by
    by_cases w : a = i ∧ b = j
    · rw [w.1, w.2, hk] at h
      cases h
    · rw [wi_other w]
      exact ((short a b h1 h2 h3 w).nm N).up (.known h q)
  | N, a, b, _, .mk (c := c) h0 hr z, h1, h2, h3 => by
    by_cases w : a = i ∧ b = j
    · obtain ⟨x, ex, lx⟩ := closedR short hk crs cnm z h1 h2 h3
      rw [w.1, w.2, wi_same] at ex ⊢
      obtain ⟨y, ey, ly⟩ := cnm _ _ _ _ hr ex
      refine ⟨y, ey, cle_trans ly ?_⟩
      unfold cle at *
      dsimp only
      omega
    · rw [wi_other w]
      exact ((short a b h1 h2 h3 w).nm N).up (.mk h0 hr z)
theorem closedR (short : Short B T i j) (hk : B.kn i j = none) (crs : ∀ r d, LeastO (CombC B (wi T i j e) r d i j) (e.rs r d)) (cnm : ∀ r N ss c, B.G[r]? = some (N, ss) → e.rs r 0 = some c → ∃ x, e.nm N = some x ∧ cle x (c.1, c.2 + 1)) :
    ∀ {r d a b : Nat} {c : Cost}, RestC B r d a b c → i ≤ a → a ≤ b → b ≤ j → ∃ x, (wi T i j e a b).rs r d = some x ∧ cle x c
  | r, d, a, b, c, .known h q, h1, h2, h3 => by
    by_cases w : a = i ∧ b = j
    · rw [w.1, w.2, hk] at h
      cases h
    · rw [wi_other w]
      exact ((short a b h1 h2 h3 w).rs r d).up (.known h q)
  | r, d, a, _, _, .nil h0 hr hd, h1, h2, h3 => by
    by_cases w : a = i ∧ a = j
    · obtain ⟨w1, w2⟩ := w
      subst w1
      subst w2
      rw [wi_same]
      exact (crs r d).up ⟨_, _, hr, .inl ⟨hd, rfl, rfl⟩⟩
    · rw [wi_other w]
      exact ((short a a h1 h2 h3 w).rs r d).up (.nil h0 hr hd)
  | r, d, a, b, _, .leaf (e := f) (k := k) (c := c) h0 hr hs hn k1 k2 z, h1, h2, h3 => by
    by_cases w : a = i ∧ b = j
    · obtain ⟨x, ex, lx⟩ := closedR short hk crs cnm z (Nat.le_trans h1 k1) k2 h3
      obtain ⟨w1, w2⟩ := w
      subst w1
      subst w2
      rw [wi_same]
      obtain ⟨y, ey, ly⟩ := (crs r d).up ⟨_, _, hr, .inr ⟨k, f, (B.leaf k a f, 1), x, hs, k1, k2, ex, .inl ⟨hn, rfl⟩, rfl⟩⟩
      exact ⟨y, ey, cle_trans ly (cle_add (cle_refl (B.leaf k a f, 1)) lx)⟩
    · rw [wi_other w]
      exact ((short a b h1 h2 h3 w).rs r d).up (.leaf h0 hr hs hn k1 k2 z)
  | r, d, a, b, _, .tree (e := f) (k := k) (a := ca) (c := c) h0 hr hs hn k1 k2 t z, h1, h2, h3 => by
    by_cases w : a = i ∧ b = j
    · obtain ⟨x, ex, lx⟩ := closedR short hk crs cnm z (Nat.le_trans h1 k1) k2 h3
      obtain ⟨y, ey, ly⟩ := closedT short hk crs cnm t h1 k1 (Nat.le_trans k2 h3)
      obtain ⟨w1, w2⟩ := w
      subst w1
      subst w2
      rw [wi_same]
      obtain ⟨v, ev, lv⟩ := (crs r d).up ⟨_, _, hr, .inr ⟨k, f, y, x, hs, k1, k2, ex, .inr ⟨hn, ey⟩, rfl⟩⟩
      exact ⟨v, ev, cle_trans lv (cle_add ly lx)⟩
    · rw [wi_other w]
      exact ((short a b h1 h2 h3 w).rs r d).up (.tree h0 hr hs hn k1 k2 t z)
end
/-- entries that no round betters are the least ones -/
theorem closed_least (ij : i ≤ j) (short : Short B T i j) (hk : B.kn i j = none) (snd : SoundAt B e i j) (crs : ∀ r d, LeastO (CombC B (wi T i j e) r d i j) (e.rs r d))
    (cnm : ∀ r N ss c, B.G[r]? = some (N, ss) → e.rs r 0 = some c → ∃ x, e.nm N = some x ∧ cle x (c.1, c.2 + 1)) : LeastAt B e i j := by
  refine ⟨fun N => LeastO.of (snd.nm N) fun c m => ?_, fun r d => LeastO.of (snd.rs r d) fun c m => ?_⟩
  · obtain ⟨x, ex, lx⟩ := closedT short hk crs cnm m (Nat.le_refl i) ij (Nat.le_refl j)
    rw [wi_same] at ex
    exact ⟨x, ex, lx⟩
  · obtain ⟨x, ex, lx⟩ := closedR short hk crs cnm m (Nat.le_refl i) ij (Nat.le_refl j)
    rw [wi_same] at ex
    exact ⟨x, ex, lx⟩
theorem rest_in (hk : B.kn i j = none) {r d : Nat} {c : Cost} (h : RestC B r d i j c) : ∃ N ss, B.G[r]? = some (N, ss) ∧ d ≤ ss.length := by
  cases h with
  | known h _ =>
    rw [hk] at h
    cases h
  | nil _ hr hd => exact ⟨_, _, hr, Nat.le_of_eq hd⟩
  | leaf _ hr hs _ _ _ _ => exact ⟨_, _, hr, Nat.le_of_lt (List.getElem?_eq_some_iff.mp hs).1⟩
  | tree _ hr hs _ _ _ _ _ => exact ⟨_, _, hr, Nat.le_of_lt (List.getElem?_eq_some_iff.mp hs).1⟩
def setR (e : Ent) (r d : Nat) (o : Option Cost) : Ent := ⟨e.nm, fun a b => if a = r ∧ b = d then o else e.rs a b⟩
def setN (e : Ent) (N : Str) (o : Option Cost) : Ent := ⟨fun M => if M = N then o else e.nm M, e.rs⟩
/-- within a round: the rules before r, and r from the dot d on, are made -/
structure RInv (B : Pb) (i j : Nat) (e0 e : Ent) (r d : Nat) : Prop where
  snd : SoundAt B e i j
  mono : ∀ N c, e0.nm N = some c → ∃ x, e.nm N = some x ∧ cle x c
  up : ∀ A A', Under A A' → NB B i j A e0 → NB B i j A e ∧ (∀ a b, a < r → RB B i j A' e a b) ∧ (∀ b, d ≤ b → RB B i j A' e r b) ∧
    ∀ a N ss c, a < r → B.G[a]? = some (N, ss) → RestC B a 0 i j c → A' (c.1, c.2 + 1) → ∃ x, e.nm N = some x ∧ cle x (c.1, c.2 + 1)
theorem RInv.start (snd : SoundAt B e i j) {d : Nat} (out : ∀ b c, d ≤ b → ¬ RestC B 0 b i j c) : RInv B i j e e 0 d :=
  ⟨snd, fun N c h => ⟨c, h, cle_refl c⟩, fun A A' U nb => ⟨nb, fun a b h => absurd h (Nat.not_lt_zero a), fun b h c m => (out b c h m).elim, fun a N ss c h => absurd h (Nat.not_lt_zero a)⟩⟩
theorem RInv.rest (ok : PbOk B) (short : Short B T i j) (hk : B.kn i j = none) {e0 : Ent} {r d : Nat} (h : RInv B i j e0 e r (d + 1)) {o : Option Cost} (ho : LeastO (CombC B (wi T i j e) r d i j) o) : RInv B i j e0 (setR e r d o) r d := by
  refine ⟨⟨h.snd.nm, fun a b c q => ?_⟩, h.mono, fun A A' U nb => ?_⟩
  · change (if a = r ∧ b = d then o else e.rs a b) = some c at q
    split at q
    · rename_i w
      rw [w.1, w.2]
      rw [q] at ho
      exact comb_sound short hk h.snd ho.1
    · exact h.snd.rs a b c q
  · obtain ⟨u1, u2, u3, u4⟩ := h.up A A' U nb
    refine ⟨u1, fun a b lt c m ha => ?_, fun b le c m ha => ?_, u4⟩
    · obtain ⟨x, ex, lx⟩ := u2 a b lt c m ha
      refine ⟨x, ?_, lx⟩
      show (if a = r ∧ b = d then o else e.rs a b) = some x
      rw [if_neg (by omega)]
      exact ex
    · by_cases w : b = d
      · rw [w] at m ⊢
        obtain ⟨x, ex, lx⟩ := rest_bound ok short hk U u1 (u3 (d + 1) (Nat.le_refl _)) ho c m ha
        refine ⟨x, ?_, lx⟩
        show (if r = r ∧ d = d then o else e.rs r d) = some x
        rw [if_pos ⟨rfl, rfl⟩]
        exact ex
      · obtain ⟨x, ex, lx⟩ := u3 b (by omega) c m ha
        refine ⟨x, ?_, lx⟩
        show (if r = r ∧ b = d then o else e.rs r b) = some x
        rw [if_neg (by omega)]
        exact ex
/-- the name of a rule, looked at behind its rests: o is what stands at the name then -/
theorem RInv.name (hk : B.kn i j = none) {e0 : Ent} {r d : Nat} {N : Str} {ss : List Str} (h : RInv B i j e0 e r 0) (hr : B.G[r]? = some (N, ss)) {o : Option Cost} (own : ∀ c, o = some c → e.nm N = some c ∨ ∃ x, e.rs r 0 = some x ∧ c = (x.1, x.2 + 1))
    (old : ∀ c, e.nm N = some c → ∃ x, o = some x ∧ cle x c) (new : ∀ c, e.rs r 0 = some c → ∃ x, o = some x ∧ cle x (c.1, c.2 + 1)) (out : ∀ b c, d ≤ b → ¬ RestC B (r + 1) b i j c) : RInv B i j e0 (setN e N o) (r + 1) d := by
  have less : ∀ M c, e.nm M = some c → ∃ x, (setN e N o).nm M = some x ∧ cle x c := fun M c q => by
    show ∃ x, (if M = N then o else e.nm M) = some x ∧ cle x c
    by_cases w : M = N
    · rw [if_pos w]
      rw [w] at q
      exact old c q
    · rw [if_neg w]
      exact ⟨c, q, cle_refl c⟩
  have more : ∀ {M : Str} {c : Cost}, (∃ x, e.nm M = some x ∧ cle x c) → ∃ x, (setN e N o).nm M = some x ∧ cle x c := fun {M c} ⟨x, ex, lx⟩ => by
    obtain ⟨y, ey, ly⟩ := less M x ex
    exact ⟨y, ey, cle_trans ly lx⟩
  refine ⟨⟨fun M c q => ?_, h.snd.rs⟩, fun M c q => ?_, fun A A' U nb => ?_⟩
  · change (if M = N then o else e.nm M) = some c at q
    split at q
    · rename_i w
      rw [w]
      rcases own c q with z | ⟨x, ex, rfl⟩
      · exact h.snd.nm N c z
      · exact .mk hk hr (h.snd.rs r 0 x ex)
    · exact h.snd.nm M c q
  · exact more (h.mono M c q)
  · obtain ⟨u1, u2, u3, u4⟩ := h.up A A' U nb
    refine ⟨fun M c m ha => more (u1 M c m ha), fun a b lt => ?_, fun b le c m => (out b c le m).elim, fun a M ts c lt ha m hb => ?_⟩
    · rcases Nat.lt_succ_iff_lt_or_eq.mp lt with q | q
      · exact u2 a b q
      · rw [q]
        exact u3 b (Nat.zero_le b)
    · rcases Nat.lt_succ_iff_lt_or_eq.mp lt with q | q
      · exact more (u4 a M ts c q ha m hb)
      · rw [q] at ha m
        rw [hr] at ha
        obtain ⟨e1, e2⟩ := Prod.mk.inj (Option.some.inj ha)
        obtain ⟨x, ex, lx⟩ := u3 0 (Nat.le_refl 0) c m hb
        obtain ⟨y, ey, ly⟩ := new x ex
        refine ⟨y, ?_, cle_trans ly ?_⟩
        · show (if M = N then o else e.nm M) = some y
          rw [if_pos e1.symm]
          exact ey
        · unfold cle at *
          dsimp only
          omega
/-- what a whole round gives -/
structure RoundOk (B : Pb) (i j : Nat) (e0 e : Ent) : Prop where
  snd : SoundAt B e i j
  mono : ∀ N c, e0.nm N = some c → ∃ x, e.nm N = some x ∧ cle x c
  up : ∀ A A', Under A A' → NB B i j A e0 → NB B i j A' e ∧ ∀ r d, RB B i j A' e r d
theorem RInv.all (hk : B.kn i j = none) {e0 : Ent} {d : Nat} (h : RInv B i j e0 e B.G.length d) : RoundOk B i j e0 e := by
  refine ⟨h.snd, h.mono, fun A A' U nb => ?_⟩
  obtain ⟨u1, u2, u3, u4⟩ := h.up A A' U nb
  refine ⟨fun N c m ha => ?_, fun r d c m ha => ?_⟩
  · cases m with
    | known q _ =>
      rw [hk] at q
      cases q
    | mk _ hr z => exact u4 _ _ _ _ (List.getElem?_eq_some_iff.mp hr).1 hr z ha
  · obtain ⟨N, ss, hr, _⟩ := rest_in hk m
    exact u2 r d (List.getElem?_eq_some_iff.mp hr).1 c m ha
theorem countP_less {α : Type} {p q : α → Bool} : ∀ {l : List α}, (∀ x ∈ l, p x = true → q x = true) → ∀ {a : α}, a ∈ l → q a = true → p a = false → l.countP p + 1 ≤ l.countP q
  | x :: l, h, a, ha, hq, hp => by
    have le : l.countP p ≤ l.countP q := List.countP_mono_left fun y hy => h y (List.mem_cons_of_mem _ hy)
    rw [List.countP_cons, List.countP_cons]
    rcases List.mem_cons.mp ha with e | m
    · rw [← e, hp, hq]
      simp
      omega
    · have := countP_less (fun y hy => h y (List.mem_cons_of_mem _ hy)) m hq hp
      by_cases z : p x = true
      · rw [z, h x List.mem_cons_self z]
        simp
        omega
      · rw [if_neg z]
        split <;> omega
open Classical in
/-- names whose entry is not the least one yet -/
noncomputable def nfin (B : Pb) (i j : Nat) (Ns : List Str) (e : Ent) : Nat := Ns.countP fun N => !decide (LeastO (TreeC B N i j) (e.nm N))
theorem tree_in (hk : B.kn i j = none) {Ns : List Str} (cover : ∀ (r : Nat) N ss, B.G[r]? = some (N, ss) → N ∈ Ns) {N : Str} {c : Cost} (h : TreeC B N i j c) : N ∈ Ns := by
  cases h with
  | known q _ =>
    rw [hk] at q
    cases q
  | mk _ hr _ => exact cover _ _ _ hr
theorem RoundOk.final {e0 : Ent} (h : RoundOk B i j e0 e) (s0 : SoundAt B e0 i j) {N : Str} (f : LeastO (TreeC B N i j) (e0.nm N)) : LeastO (TreeC B N i j) (e.nm N) := by
  refine LeastO.of (h.snd.nm N) fun c m => ?_
  obtain ⟨x, ex, lx⟩ := f.up m
  obtain ⟨y, ey, ly⟩ := h.mono N x ex
  exact ⟨y, ey, cle_trans ly lx⟩
open Classical in
theorem RoundOk.fewer (ok : PbOk B) (hk : B.kn i j = none) {Ns : List Str} (cover : ∀ (r : Nat) N ss, B.G[r]? = some (N, ss) → N ∈ Ns) {e0 : Ent} (s0 : SoundAt B e0 i j) (h : RoundOk B i j e0 e) : nfin B i j Ns e ≤ nfin B i j Ns e0 - 1 := by
  have stay : ∀ N ∈ Ns, (!decide (LeastO (TreeC B N i j) (e.nm N))) = true → (!decide (LeastO (TreeC B N i j) (e0.nm N))) = true := fun N _ q => by
    by_cases f : LeastO (TreeC B N i j) (e0.nm N)
    · rw [decide_eq_true (h.final s0 f)] at q
      cases q
    · rw [decide_eq_false f]
      rfl
  by_cases z : ∃ N ∈ Ns, ¬ LeastO (TreeC B N i j) (e0.nm N)
  · have some_of : ∀ {N : Str}, ¬ LeastO (TreeC B N i j) (e0.nm N) → ∃ c, LeastO (TreeC B N i j) (some c) := fun {N} nf => by
      obtain ⟨o, ho⟩ := least_ex (S := TreeC B N i j) fun c m => TreeC.pos ok m
      cases o with
      | some c => exact ⟨c, ho⟩
      | none =>
        refine (nf ?_).elim
        cases q : e0.nm N with
        | none => exact ho
        | some c => exact (ho c (s0.nm N c q)).elim
    obtain ⟨o, ho⟩ := least_ex (S := fun c => ∃ N ∈ Ns, ¬ LeastO (TreeC B N i j) (e0.nm N) ∧ LeastO (TreeC B N i j) (some c)) fun c ⟨N, _, _, m⟩ => TreeC.pos ok m.1
    cases o with
    | none =>
      obtain ⟨N, hN, nf⟩ := z
      obtain ⟨c, hc⟩ := some_of nf
      exact (ho c ⟨N, hN, nf, hc⟩).elim
    | some c =>
      obtain ⟨⟨N, hN, nf, hc⟩, low⟩ := ho
      have nb : NB B i j (fun x => clt x c) e0 := fun M x m lt => by
        by_cases f : LeastO (TreeC B M i j) (e0.nm M)
        · exact f.up m
        · obtain ⟨y, hy⟩ := some_of f
          have l1 := low y ⟨M, tree_in hk cover m, f, hy⟩
          exact (clt_not lt (cle_trans l1 (hy.2 x m))).elim
      have U : Under (fun x => clt x c) (fun x => cle x c) := ⟨fun a b h1 h2 => by unfold clt cle at *; omega, fun a b h1 h2 => cle_trans h2 h1⟩
      obtain ⟨u1, _⟩ := h.up _ _ U nb
      have fin : LeastO (TreeC B N i j) (e.nm N) := LeastO.of (h.snd.nm N) fun x m => by
        obtain ⟨y, ey, ly⟩ := u1 N c hc.1 (cle_refl c)
        exact ⟨y, ey, cle_trans ly (hc.2 x m)⟩
      have := countP_less stay hN (by rw [decide_eq_false nf]; rfl) (by rw [decide_eq_true fin]; rfl)
      unfold nfin
      omega
  · have all : nfin B i j Ns e = 0 := by
      unfold nfin
      refine List.countP_eq_zero.mpr fun N hN q => ?_
      by_cases f : LeastO (TreeC B N i j) (e0.nm N)
      · rw [decide_eq_true (h.final s0 f)] at q
        cases q
      · exact z ⟨N, hN, f⟩
    omega
open Classical in
theorem RoundOk.done (hk : B.kn i j = none) {Ns : List Str} (cover : ∀ (r : Nat) N ss, B.G[r]? = some (N, ss) → N ∈ Ns) {e0 : Ent} (h : RoundOk B i j e0 e) (z : nfin B i j Ns e0 = 0) : LeastAt B e i j := by
  have fin : ∀ N ∈ Ns, LeastO (TreeC B N i j) (e0.nm N) := fun N hN => by
    unfold nfin at z
    have q := List.countP_eq_zero.mp z N hN
    by_cases f : LeastO (TreeC B N i j) (e0.nm N)
    · exact f
    · rw [decide_eq_false f] at q
      exact (q rfl).elim
  obtain ⟨u1, u2⟩ := h.up (fun _ => True) (fun _ => True) ⟨fun _ _ _ _ => trivial, fun _ _ _ _ => trivial⟩ fun N c m _ => (fin N (tree_in hk cover m)).up m
  exact ⟨fun N => LeastO.of (h.snd.nm N) fun c m => u1 N c m trivial, fun r d => LeastO.of (h.snd.rs r d) fun c m => u2 r d c m trivial⟩
/-- behind t rounds, where there are m names -/
structure Prog (B : Pb) (i j : Nat) (Ns : List Str) (t : Nat) (e : Ent) : Prop where
  snd : SoundAt B e i j
  few : nfin B i j Ns e ≤ Ns.length - t
  done : Ns.length + 1 ≤ t → LeastAt B e i j
theorem Prog.start (Ns : List Str) (snd : SoundAt B e i j) : Prog B i j Ns 0 e := by
  refine ⟨snd, ?_, fun h => absurd h (Nat.not_succ_le_zero _)⟩
  unfold nfin
  exact List.countP_le_length
theorem Prog.step (ok : PbOk B) (hk : B.kn i j = none) {Ns : List Str} (cover : ∀ (r : Nat) N ss, B.G[r]? = some (N, ss) → N ∈ Ns) {t : Nat} {e0 : Ent} (h : Prog B i j Ns t e0) (k : RoundOk B i j e0 e) : Prog B i j Ns (t + 1) e := by
  refine ⟨k.snd, ?_, fun q => k.done hk cover (Ns := Ns) ?_⟩
  · have := k.fewer ok hk cover h.snd
    have := h.few
    omega
  · have := h.few
    omega
end
end Lb

set_option Elab.async false
set_option linter.all false
set_option maxRecDepth 100000
set_option maxHeartbeats 4000000
/-! Prices: mathematics, and how they lie in the heap. -/
namespace Ld
open PySem PySem.Spec PyProof.Rows L2 Lr
abbrev sk (s : Str) : Key := Sum.inr s
def P3 : List Str := ["A", "BB", "C"]
def P4 : List Str := ["A", "BB", "C", "OTHER"]
structure Prc where
  put : Int
  out : Int
  chg : Int
  ex : List (List Key × V)
def exOk (k : List Key) : Prop := (∃ a ∈ P3, k = [sk "put", sk a]) ∨ (∃ a ∈ P4, k = [sk "out", sk a]) ∨ ∃ a ∈ P4, ∃ b ∈ P3, a ≠ b ∧ k = [sk "change", sk a, sk b]
structure PrcOk (Z : Prc) : Prop where
  put : 1 ≤ Z.put ∧ Z.put ≤ 1000
  out : 1 ≤ Z.out ∧ Z.out ≤ 1000
  chg : 1 ≤ Z.chg ∧ Z.chg ≤ 1000
  ex : ∀ p ∈ Z.ex, exOk p.1 ∧ ∃ i : Int, 1 ≤ i ∧ i ≤ 1000 ∧ p.2 = .int i
  nd : (Z.ex.map (·.1)).Nodup
  few : Z.ex.length ≤ 5
/-- the number at a key, or another -/
def exI (Z : Prc) (k : List Key) (d : Int) : Int := match valV Z.ex k with
  | some (.int i) => i
  | _ => d
def putP (Z : Prc) (k : Str) : Int := exI Z [sk "put", sk k] Z.put
def outP (Z : Prc) (k : Str) : Int := exI Z [sk "out", sk k] Z.out
def chgP (Z : Prc) (a b : Str) : Int := if a = b then 0 else exI Z [sk "change", sk a, sk b] Z.chg
/-- the sum of the prices of leaving out -/
def outsP (Z : Prc) (ks : List Str) : Int := (ks.map (outP Z)).sum
/-- the price of the leaf of k over the stretch from i to j -/
def leafP (Z : Prc) (row : List Str) (k : Str) (i j : Nat) : Int :=
  if i = j then putP Z k else outsP Z ((row.drop i).take (j - 1 - i)) + chgP Z (row.getD (j - 1) "") k
theorem valV_from {κ : Type} [DecidableEq κ] {kvs : List (κ × V)} {k : κ} {v : V} (h : valV kvs k = some v) : (k, v) ∈ kvs := by
  unfold valV at h
  obtain ⟨p, hp, e⟩ := Option.map_eq_some_iff.mp h
  have e1 := List.find?_some hp
  have e2 : p.1 = k := of_decide_eq_true e1
  have m := List.mem_of_find?_eq_some hp
  rw [← e, ← e2]
  exact m
theorem exI_is {Z : Prc} (ok : PrcOk Z) (k : List Key) (d : Int) : (valV Z.ex k).getD (.int d) = .int (exI Z k d) := by
  unfold exI
  cases e : valV Z.ex k with
  | none => rfl
  | some v =>
    obtain ⟨_, i, _, _, rfl⟩ := ok.ex _ (valV_from e)
    rfl
theorem exI_in {Z : Prc} (ok : PrcOk Z) (k : List Key) {d : Int} (h : 1 ≤ d ∧ d ≤ 1000) : 1 ≤ exI Z k d ∧ exI Z k d ≤ 1000 := by
  unfold exI
  cases e : valV Z.ex k with
  | none => exact h
  | some v =>
    obtain ⟨_, i, h1, h2, e2⟩ := ok.ex _ (valV_from e)
    dsimp only at e2
    rw [e2]
    exact ⟨h1, h2⟩
theorem putP_in {Z : Prc} (ok : PrcOk Z) (k : Str) : 1 ≤ putP Z k ∧ putP Z k ≤ 1000 := exI_in ok _ ok.put
theorem outP_in {Z : Prc} (ok : PrcOk Z) (k : Str) : 1 ≤ outP Z k ∧ outP Z k ≤ 1000 := exI_in ok _ ok.out
theorem chgP_in {Z : Prc} (ok : PrcOk Z) (a b : Str) : 0 ≤ chgP Z a b ∧ chgP Z a b ≤ 1000 := by
  unfold chgP
  split
  · exact ⟨by decide, by decide⟩
  · have := exI_in ok [sk "change", sk a, sk b] ok.chg
    exact ⟨by omega, this.2⟩
theorem outsP_in {Z : Prc} (ok : PrcOk Z) : ∀ ks : List Str, 0 ≤ outsP Z ks ∧ outsP Z ks ≤ 1000 * ks.length
  | [] => ⟨Int.le_refl 0, Int.le_refl 0⟩
  | k :: ks => by
    have h1 := outP_in ok k
    have h2 := outsP_in ok ks
    unfold outsP at h2 ⊢
    rw [List.map_cons, List.sum_cons, List.length_cons]
    omega
theorem leafP_in {Z : Prc} (ok : PrcOk Z) (row : List Str) (k : Str) (i j : Nat) : 0 ≤ leafP Z row k i j ∧ leafP Z row k i j ≤ 1000 * (row.length + 1) := by
  unfold leafP
  split
  · have := putP_in ok k
    omega
  · have h1 := outsP_in ok ((row.drop i).take (j - 1 - i))
    have h2 := chgP_in ok (row.getD (j - 1) "") k
    have h3 : ((row.drop i).take (j - 1 - i)).length ≤ row.length := by
      rw [List.length_take, List.length_drop]
      omega
    omega
/-- the prices Z stand at t -/
def PrA (H : Hp) (t : Addr) (Z : Prc) : Prop := ∃ d, H t = some (.tup [.int Z.put, .int Z.out, .int Z.chg, .ref d]) ∧ H d = some (.dT Z.ex)
theorem Up.dT {A B : Hp} (u : Up A B) {a : Addr} {kvs : List (List Key × V)} (h : A a = some (.dT kvs)) : B a = some (.dT kvs) := by
  rcases u a _ h with e | ⟨_, _, z, _⟩
  · exact e
  · cases z
theorem PrA.up {A B : Hp} (u : Up A B) {t : Addr} {Z : Prc} (h : PrA A t Z) : PrA B t Z := by
  obtain ⟨d, h1, h2⟩ := h
  exact ⟨d, u.tup h1, u.dT h2⟩
/-! ### prices as data -/
def vD : V → PyData
  | .int i => .int i
  | .str s => .str s
  | _ => .none
def exD (kvs : List (List Key × V)) : List (PyData × PyData) := kvs.map fun p => (.tuple (p.1.map keyD), vD p.2)
def prD (Z : Prc) : PyData := .tuple [.int Z.put, .int Z.out, .int Z.chg, .dict (exD Z.ex)]
theorem dqT_ints {K : PySem.W.Frag} {H : Hp} : ∀ {kvs : List (List Key × V)}, (∀ p ∈ kvs, ∃ i : Int, p.2 = .int i) → DqT K H kvs (exD kvs)
  | [], _ => .nil
  | (k, v) :: kvs, h => by
    obtain ⟨i, e⟩ := h (k, v) List.mem_cons_self
    dsimp only at e
    subst e
    exact .cons (.dp (.int i)) (dqT_ints fun p m => h p (List.mem_cons_of_mem _ m))
theorem PrA.dq {K : PySem.W.Frag} {H : Hp} {t : Addr} {Z : Prc} (ok : PrcOk Z) (h : PrA H t Z) : Dq K H (.ref t) (prD Z) := by
  obtain ⟨d, h1, h2⟩ := h
  exact .tup (SqT.of h1) (.cons (.dp (.int _)) (.cons (.dp (.int _)) (.cons (.dp (.int _)) (.cons (.dT h2 (dqT_ints fun p m => let ⟨_, i, _, _, e⟩ := ok.ex p m; ⟨i, e⟩)) .nil))))
theorem int_small {i : Int} (h0 : 0 ≤ i) (h1 : i ≤ 1000) : (PyData.int i).showable = true := by
  rw [PyData.showable]
  have a : i.natAbs ≤ 1000 := by omega
  refine decide_eq_true ?_
  have : i.natAbs.log2 ≤ (1000 : Nat).log2 := by
    rcases Nat.eq_zero_or_pos i.natAbs with z | z
    · rw [z]
      exact Nat.zero_le _
    · exact (Nat.le_log2 (by decide)).mpr (Nat.le_trans (Nat.log2_self_le (Nat.ne_of_gt z)) a)
  have e : (1000 : Nat).log2 ≤ 10 := by decide
  omega
theorem int_wt {i : Int} (h0 : 0 ≤ i) (h1 : i < 10 ^ 9) : wt (.int i) ≤ 9 := by
  rw [wt]
  exact toString_length_le h0 (by decide) h1
theorem keys_show : ∀ ks : List Key, (∀ k ∈ ks, ∃ s, k = sk s) → PyData.showableAll (ks.map keyD) = true
  | [], _ => rfl
  | k :: ks, h => by
    obtain ⟨s, rfl⟩ := h k List.mem_cons_self
    rw [List.map_cons, PyData.showableAll, keys_show ks fun x m => h x (List.mem_cons_of_mem _ m)]
    rfl
theorem exOk_keys {k : List Key} (h : exOk k) : ∀ x ∈ k, ∃ s, x = sk s := by
  rcases h with ⟨a, _, rfl⟩ | ⟨a, _, rfl⟩ | ⟨a, _, b, _, _, rfl⟩
  all_goals
    intro x hx
    simp only [List.mem_cons, List.not_mem_nil, or_false] at hx
    rcases hx with rfl | rfl | rfl <;> exact ⟨_, rfl⟩
theorem ex_show : ∀ {kvs : List (List Key × V)}, (∀ p ∈ kvs, exOk p.1 ∧ ∃ i : Int, 1 ≤ i ∧ i ≤ 1000 ∧ p.2 = .int i) → PyData.showableKv (exD kvs) = true
  | [], _ => rfl
  | (k, v) :: kvs, h => by
    obtain ⟨h1, i, h2, h3, e⟩ := h (k, v) List.mem_cons_self
    dsimp only at e
    subst e
    have r := ex_show (kvs := kvs) fun p m => h p (List.mem_cons_of_mem _ m)
    show PyData.showableKv ((.tuple (k.map keyD), .int i) :: exD kvs) = true
    rw [PyData.showableKv, r, int_small (by omega) h3, PyData.showable, keys_show k (exOk_keys h1)]
    rfl
theorem prD_show {Z : Prc} (ok : PrcOk Z) : (prD Z).showable = true := by
  unfold prD
  rw [PyData.showable, PyData.showableAll, PyData.showableAll, PyData.showableAll, PyData.showableAll, PyData.showableAll, int_small (by have := ok.put; omega) ok.put.2, int_small (by have := ok.out; omega) ok.out.2,
    int_small (by have := ok.chg; omega) ok.chg.2, PyData.showable, ex_show ok.ex]
  rfl
theorem keys_wt {k : List Key} (h : exOk k) : wt (.tuple (k.map keyD)) ≤ 60 := by
  have c : ∀ a ∈ P4, wt (.tuple ([sk "out", sk a].map keyD)) ≤ 60 := by decide +kernel
  have b : ∀ a ∈ P3, wt (.tuple ([sk "put", sk a].map keyD)) ≤ 60 := by decide +kernel
  have d : ∀ a ∈ P4, ∀ b ∈ P3, wt (.tuple ([sk "change", sk a, sk b].map keyD)) ≤ 60 := by decide +kernel
  rcases h with ⟨a, ha, rfl⟩ | ⟨a, ha, rfl⟩ | ⟨a, ha, e, he, _, rfl⟩
  · exact b a ha
  · exact c a ha
  · exact d a ha e he
theorem prD_wt {Z : Prc} (ok : PrcOk Z) : wt (prD Z) ≤ 500 := by
  have e0 : wt (prD Z) = wt (.int Z.put) + 2 + (wt (.int Z.out) + 2 + (wt (.int Z.chg) + 2 + (wtKv (exD Z.ex) + 4 + 2 + 0))) + 4 := by
    unfold prD
    simp only [wt, wtAll]
  have h1 := int_wt (i := Z.put) (by have := ok.put; omega) (by have := ok.put; omega)
  have h2 := int_wt (i := Z.out) (by have := ok.out; omega) (by have := ok.out; omega)
  have h3 := int_wt (i := Z.chg) (by have := ok.chg; omega) (by have := ok.chg; omega)
  have h4 := wtKv_up (B := 69) (ds := exD Z.ex) fun p m => by
    obtain ⟨q, hq, rfl⟩ := List.mem_map.mp m
    obtain ⟨k1, i, k2, k3, e⟩ := ok.ex q hq
    have a := keys_wt k1
    have b : wt (vD q.2) ≤ 9 := by
      rw [e]
      exact int_wt (by omega) (by omega)
    dsimp only
    omega
  have h5 : (exD Z.ex).length ≤ 5 := by
    unfold exD
    rw [List.length_map]
    exact ok.few
  have : (69 + 4) * (exD Z.ex).length ≤ (69 + 4) * 5 := Nat.mul_le_mul_left _ h5
  omega
end Ld

set_option Elab.async false
set_option linter.all false
set_option maxRecDepth 100000
set_option maxHeartbeats 4000000
/-! x < y of data; costs, entries and tables in the heap. -/
namespace Ld
open PySem PySem.Spec PyProof.Rows L2 Lr Lb
def rLtD (K : PySem.W.Frag) : R2 := fun x y H Q => ∃ d e, Dp K H x d ∧ Dp K H y e ∧ PySem.W.alike d e = true ∧ d ≠ .none ∧ d.depth ≤ 64 ∧ Q (.bl (PySem.W.dataLt d e)) H
theorem op_ltD {X : Cx} (hu : X.A.units + 65 < cLine) : OpR X (compareOp .Lt) (rLtD X.K) := by
  intro pins s σ H x y v u Q I rx ry h
  obtain ⟨d, e, hd, he, al, nn, dep, q⟩ := h
  obtain ⟨as, r1⟩ := Dp.reads I d x v hd rx
  obtain ⟨bs, r2⟩ := Dp.reads I e y u he ry
  have : min d.depth e.depth ≤ d.depth := Nat.min_le_left _ _
  exact PySem.W.rcLt_alike d e X.A s v u as bs r1 r2 al nn (by omega) X.prog X.w X.xe _ ⟨.bl _, H, I, rfl, q⟩
/-- a cost as data -/
def cD (c : Cost) : PyData := .tuple [.int c.1, .int c.2]
open PySem.W in
theorem cost_lt (a b : Cost) : dataLt (cD a) (cD b) = decide (a.1 < b.1 ∨ (a.1 = b.1 ∧ a.2 < b.2)) := by
  unfold cD
  rw [dataLt_tuple]
  have al : ∀ x y : Int, alike (.int x) (.int y) = true := fun x y => by simp [alike]
  by_cases e : a.1 = b.1
  · have ev : PyData.eqv (.int a.1) (.int b.1) = true := by simp [PyData.eqv, e]
    rw [dataLt_all_yes (al _ _) ev]
    by_cases e2 : a.2 = b.2
    · have ev2 : PyData.eqv (.int a.2) (.int b.2) = true := by simp [PyData.eqv, e2]
      rw [dataLt_all_yes (al _ _) ev2]
      rw [show lexLt itemOrd (keyToksAll []) (keyToksAll []) = false from by decide +kernel]
      refine (decide_eq_false ?_).symm
      omega
    · have ev2 : PyData.eqv (.int a.2) (.int b.2) = false := by simp [PyData.eqv, e2]
      rw [dataLt_all_no (al _ _) ev2, dataLt_int, Bool.eq_iff_iff, decide_eq_true_eq, decide_eq_true_eq]
      omega
  · have ev : PyData.eqv (.int a.1) (.int b.1) = false := by simp [PyData.eqv, e]
    rw [dataLt_all_no (al _ _) ev, dataLt_int, Bool.eq_iff_iff, decide_eq_true_eq, decide_eq_true_eq]
    omega
theorem cD_alike (a b : Cost) : PySem.W.alike (cD a) (cD b) = true := by simp [cD, PySem.W.alike, PySem.W.alikeAll]
theorem cD_shaped (a : Cost) : SeqAt.shaped (cD a) = true := by
  refine shaped_mk ?_ (by simp [cD, PyData.depth, PyData.depthAll])
  simp [cD, PyData.canLay0, PyData.canLayAll0]
/-- the value of a cost, or None -/
def CostV (H : Hp) (v : V) : Option Cost → Prop
  | none => v = .non
  | some c => ∃ t, v = .ref t ∧ H t = some (.tup [.int c.1, .int c.2])
theorem CostV.up {A B : Hp} (u : Up A B) {v : V} : ∀ {o : Option Cost}, CostV A v o → CostV B v o
  | none, h => h
  | some _, ⟨t, e, h⟩ => ⟨t, e, u.tup h⟩
theorem CostV.dp {K : PySem.W.Frag} {H : Hp} {v : V} {c : Cost} (h : CostV H v (some c)) : Dp K H v (cD c) := by
  obtain ⟨t, rfl, h⟩ := h
  exact .tup (SqT.of h) (.cons (.int _) (.cons (.int _) .nil))
def kN (N : Str) : List Key := [sk "name", sk N]
def kR (r d : Nat) : List Key := [sk "rest", Sum.inl (r : Int), Sum.inl (d : Int)]
def kS (i j : Nat) : List Key := [Sum.inl (i : Int), Sum.inl (j : Int)]
theorem kN_ne (N : Str) (r d : Nat) : kN N ≠ kR r d := fun h => by
  have := congrArg List.length h
  cases this
theorem kN_inj {N M : Str} (h : kN N = kN M) : N = M := by
  unfold kN at h
  simp at h
  exact h
theorem kR_inj {r d r2 d2 : Nat} (h : kR r d = kR r2 d2) : r = r2 ∧ d = d2 := by
  unfold kR at h
  simp at h
  exact ⟨Int.ofNat_inj.mp h.1, Int.ofNat_inj.mp h.2⟩
theorem kS_inj {i j a b : Nat} (h : kS i j = kS a b) : i = a ∧ j = b := by
  unfold kS at h
  simp at h
  exact ⟨Int.ofNat_inj.mp h.1, Int.ofNat_inj.mp h.2⟩
/-- the dict of a stretch's entries -/
structure EntK (H : Hp) (G : List Rule) (kvs : List (List Key × V)) (e : Ent) : Prop where
  nm : ∀ N, (∃ r ∈ G, r.1 = N) → ∃ v, valV kvs (kN N) = some v ∧ CostV H v (e.nm N)
  rs : ∀ (r d : Nat) N ss, G[r]? = some (N, ss) → d ≤ ss.length → ∃ v, valV kvs (kR r d) = some v ∧ CostV H v (e.rs r d)
  ks : ∀ p ∈ kvs, (∃ N, (∃ r ∈ G, r.1 = N) ∧ p.1 = kN N) ∨ ∃ (r d : Nat) (N : Str) (ss : List Str), G[r]? = some (N, ss) ∧ d ≤ ss.length ∧ p.1 = kR r d
  nd : (kvs.map (·.1)).Nodup
theorem EntK.up {A B : Hp} (u : Up A B) {G : List Rule} {kvs : List (List Key × V)} {e : Ent} (h : EntK A G kvs e) : EntK B G kvs e := by
  refine ⟨fun N q => ?_, fun r d N ss h1 h2 => ?_, h.ks, h.nd⟩
  · obtain ⟨v, e1, c⟩ := h.nm N q
    exact ⟨v, e1, c.up u⟩
  · obtain ⟨v, e1, c⟩ := h.rs r d N ss h1 h2
    exact ⟨v, e1, c.up u⟩
/-- the table of a row of n signs: the dict of stretches -/
structure TabK (H : Hp) (G : List Rule) (n : Nat) (F : List (List Key × V)) (T : Nat → Nat → Ent) : Prop where
  at_ : ∀ i j, i ≤ j → j ≤ n → ∃ d kvs, valV F (kS i j) = some (.ref d) ∧ H d = some (.dT kvs) ∧ EntK H G kvs (T i j)
  ks : ∀ p ∈ F, ∃ i j, i ≤ j ∧ j ≤ n ∧ p.1 = kS i j
  nd : (F.map (·.1)).Nodup
  apart : ∀ p ∈ F, ∀ q ∈ F, p.2 = q.2 → p.1 = q.1
theorem TabK.up {A B : Hp} (u : Up A B) {G : List Rule} {n : Nat} {F : List (List Key × V)} {T : Nat → Nat → Ent} (h : TabK A G n F T) : TabK B G n F T := by
  refine ⟨fun i j h1 h2 => ?_, h.ks, h.nd, h.apart⟩
  obtain ⟨d, kvs, e1, e2, e3⟩ := h.at_ i j h1 h2
  exact ⟨d, kvs, e1, u.dT e2, e3.up u⟩
theorem valV_at2 : ∀ {kvs : List (List Key × V)} {p : List Key × V}, (kvs.map (·.1)).Nodup → p ∈ kvs → valV kvs p.1 = some p.2
  | q :: r, p, nd, h => by
    rw [List.map_cons, List.nodup_cons] at nd
    rcases List.mem_cons.mp h with e | m
    · rw [e]
      exact valV_pos rfl
    · have ne : ¬ q.1 = p.1 := fun z => nd.1 (by rw [z]; exact List.mem_map.mpr ⟨p, m, rfl⟩)
      rw [valV_neg ne]
      exact valV_at2 nd.2 m
theorem nodup_le2 {α : Type} [DecidableEq α] : ∀ {l m : List α}, l.Nodup → (∀ x ∈ l, x ∈ m) → l.length ≤ m.length
  | [], _, _, _ => Nat.zero_le _
  | x :: l, m, nd, h => by
    have hx := h x List.mem_cons_self
    have h2 := nodup_le2 (l := l) (m := m.erase x) (List.nodup_cons.mp nd).2 fun y hy => by
      have ne : y ≠ x := fun e => (List.nodup_cons.mp nd).1 (e ▸ hy)
      exact (List.mem_erase_of_ne ne).mpr (h y (List.mem_cons_of_mem _ hy))
    have h3 := List.length_erase_of_mem hx
    have h4 := List.length_pos_of_mem hx
    rw [List.length_cons]
    omega
theorem key_in {kvs : List (List Key × V)} {k : List Key} {v : V} (h : valV kvs k = some v) : k ∈ kvs.map (·.1) := List.mem_map.mpr ⟨(k, v), valV_from h, rfl⟩
theorem CostV.eqT {K : PySem.W.Frag} {H : Hp} {v u : V} {o : Option Cost} (h : CostV H v o) (k : CostV H u o) : EqT K H 1 v u := by
  cases o with
  | none =>
    rw [show v = .non from h, show u = .non from k]
    exact .inl ⟨rfl, rfl⟩
  | some c => exact .inr (.inr (.inl ⟨cD c, h.dp, k.dp, cD_shaped c⟩))
/-- two dicts of the same entries are equal -/
theorem EntK.eqT {K : PySem.W.Frag} {H : Hp} {G : List Rule} {ks ls : List (List Key × V)} {e : Ent} (h : EntK H G ks e) (k : EntK H G ls e) : ks.length = ls.length ∧ ∀ p ∈ ks, ∃ u, valV ls p.1 = some u ∧ EqT K H 1 p.2 u := by
  have look : ∀ {ks ls : List (List Key × V)}, EntK H G ks e → EntK H G ls e → ∀ p ∈ ks, ∃ u, valV ls p.1 = some u ∧ EqT K H 1 p.2 u := fun {ks ls} h k p hp => by
    have v1 := valV_at2 h.nd hp
    rcases h.ks p hp with ⟨N, hN, e1⟩ | ⟨r, d, N, ss, h1, h2, e1⟩
    · obtain ⟨v, ev, cv⟩ := h.nm N hN
      obtain ⟨u, eu, cu⟩ := k.nm N hN
      rw [e1, ev] at v1
      rw [e1]
      exact ⟨u, eu, by rw [← Option.some.inj v1]; exact cv.eqT cu⟩
    · obtain ⟨v, ev, cv⟩ := h.rs r d N ss h1 h2
      obtain ⟨u, eu, cu⟩ := k.rs r d N ss h1 h2
      rw [e1, ev] at v1
      rw [e1]
      exact ⟨u, eu, by rw [← Option.some.inj v1]; exact cv.eqT cu⟩
  have sub : ∀ {ks ls : List (List Key × V)}, EntK H G ks e → EntK H G ls e → ks.length ≤ ls.length := fun {ks ls} h k => by
    have := nodup_le2 h.nd fun x hx => by
      obtain ⟨p, hp, rfl⟩ := List.mem_map.mp hx
      obtain ⟨u, eu, _⟩ := look h k p hp
      exact key_in eu
    rwa [List.length_map, List.length_map] at this
  exact ⟨Nat.le_antisymm (sub h k) (sub k h), look h k⟩
/-- two tables of the same entries are equal -/
theorem TabK.eqT {K : PySem.W.Frag} {H : Hp} {G : List Rule} {n : Nat} {F F2 : List (List Key × V)} {T : Nat → Nat → Ent} (h : TabK H G n F T) (k : TabK H G n F2 T) : F.length = F2.length ∧ ∀ p ∈ F, ∃ u, valV F2 p.1 = some u ∧ EqT K H 2 p.2 u := by
  have look : ∀ {F F2 : List (List Key × V)}, TabK H G n F T → TabK H G n F2 T → ∀ p ∈ F, ∃ u, valV F2 p.1 = some u ∧ EqT K H 2 p.2 u := fun {F F2} h k p hp => by
    have v1 := valV_at2 h.nd hp
    obtain ⟨i, j, h1, h2, e1⟩ := h.ks p hp
    obtain ⟨d, kvs, e2, e3, e4⟩ := h.at_ i j h1 h2
    obtain ⟨d2, kvs2, f2, f3, f4⟩ := k.at_ i j h1 h2
    rw [e1, e2] at v1
    rw [e1]
    obtain ⟨l, z⟩ := e4.eqT (K := K) f4
    exact ⟨_, f2, .inr (.inr (.inr (.inl ⟨d, d2, kvs, kvs2, (Option.some.inj v1).symm, rfl, e3, f3, l, z⟩)))⟩
  have sub : ∀ {F F2 : List (List Key × V)}, TabK H G n F T → TabK H G n F2 T → F.length ≤ F2.length := fun {F F2} h k => by
    have := nodup_le2 h.nd fun x hx => by
      obtain ⟨p, hp, rfl⟩ := List.mem_map.mp hx
      obtain ⟨u, eu, _⟩ := look h k p hp
      exact key_in eu
    rwa [List.length_map, List.length_map] at this
  exact ⟨Nat.le_antisymm (sub h k) (sub k h), look h k⟩
/-- where both hold the least costs, the entries agree -/
theorem ent_agree {B : Pb} {i j : Nat} {a b : Ent} (h : LeastAt B a i j) (k : LeastAt B b i j) : a = b := by
  obtain ⟨n1, r1⟩ := a
  obtain ⟨n2, r2⟩ := b
  have e1 : n1 = n2 := funext fun N => least_one (h.nm N) (k.nm N)
  have e2 : r1 = r2 := funext fun r => funext fun d => least_one (h.rs r d) (k.rs r d)
  rw [e1, e2]
end Ld

set_option Elab.async false
set_option linter.all false
set_option maxRecDepth 100000
set_option maxHeartbeats 4000000
/-! The least over the ends of a symbol. -/
namespace Ld
open PySem PySem.Spec PyProof.Rows L2 Lr Lb
/-- does a symbol begin with a small letter -/
def isLow (z : Str) : Bool := match z.cps.toList with
  | c :: _ => decide (c ∈ ("abcdefghijklmnopqrstuvwxyz" : Str).cps.toList)
  | [] => false
def pbOf (G : List Rule) (Z : Prc) (row : List Str) (kn : Nat → Nat → Option Ent) : Pb := ⟨G, leafP Z row, isLow, kn⟩
theorem pbOf_ok {G : List Rule} {Z : Prc} (ok : PrcOk Z) {row : List Str} {kn : Nat → Nat → Option Ent} (hk : ∀ i j e, kn i j = some e → (∀ N c, e.nm N = some c → 0 ≤ c.1 ∧ 0 ≤ c.2) ∧ ∀ r d c, e.rs r d = some c → 0 ≤ c.1 ∧ 0 ≤ c.2) : PbOk (pbOf G Z row kn) :=
  ⟨fun k i e => (leafP_in ok row k i e).1, hk⟩
/-- the cost of the symbol at the dot over i to e, by the entries -/
def headC (B : Pb) (T : Nat → Nat → Ent) (k : Str) (i e : Nat) : Option Cost := if B.isN k = true then (T i e).nm k else some (B.leaf k i e, 1)
/-- what the end e gives -/
def endC (B : Pb) (T : Nat → Nat → Ent) (k : Str) (r d i j e : Nat) : Option Cost := match headC B T k i e, (T e j).rs r (d + 1) with
  | some a, some b => some (a.1 + b.1, a.2 + b.2)
  | _, _ => none
/-- what the ends below lim give -/
def UpC (B : Pb) (T : Nat → Nat → Ent) (k : Str) (r d i j lim : Nat) (c : Cost) : Prop := ∃ e, i ≤ e ∧ e < lim ∧ endC B T k r d i j e = some c
theorem upC_start {B : Pb} {T : Nat → Nat → Ent} {k : Str} {r d i j : Nat} : LeastO (UpC B T k r d i j i) none := fun c ⟨e, h1, h2, _⟩ => by omega
theorem endC_is {B : Pb} {T : Nat → Nat → Ent} {k : Str} {r d i j e : Nat} {c : Cost} : endC B T k r d i j e = some c ↔ ∃ a b, (T e j).rs r (d + 1) = some b ∧ ((B.isN k = false ∧ a = (B.leaf k i e, 1)) ∨ (B.isN k = true ∧ (T i e).nm k = some a)) ∧ c = (a.1 + b.1, a.2 + b.2) := by
  unfold endC headC
  by_cases n : B.isN k = true
  · rw [if_pos n]
    cases h1 : (T i e).nm k with
    | none =>
      constructor
      · intro h
        cases h
      · rintro ⟨a, b, _, ⟨q, _⟩ | ⟨_, q⟩, _⟩
        · rw [n] at q
          cases q
        · cases q
    | some a =>
      cases h2 : (T e j).rs r (d + 1) with
      | none =>
        constructor
        · intro h
          cases h
        · rintro ⟨_, b, q, _⟩
          cases q
      | some b =>
        constructor
        · intro h
          exact ⟨a, b, rfl, .inr ⟨n, rfl⟩, (Option.some.inj h).symm⟩
        · rintro ⟨a2, b2, q1, ⟨q, _⟩ | ⟨_, q⟩, rfl⟩
          · rw [n] at q
            cases q
          · cases q
            cases q1
            rfl
  · have n2 : B.isN k = false := by
      cases q : B.isN k with
      | true => exact (n q).elim
      | false => rfl
    rw [if_neg n]
    cases h2 : (T e j).rs r (d + 1) with
    | none =>
      constructor
      · intro h
        cases h
      · rintro ⟨_, b, q, _⟩
        cases q
    | some b =>
      constructor
      · intro h
        exact ⟨_, b, rfl, .inl ⟨n2, rfl⟩, (Option.some.inj h).symm⟩
      · rintro ⟨a2, b2, q1, ⟨_, rfl⟩ | ⟨q, _⟩, rfl⟩
        · cases q1
          rfl
        · exact (n q).elim
theorem upC_end {B : Pb} {T : Nat → Nat → Ent} {k N : Str} {ss : List Str} {r d i j : Nat} (hr : B.G[r]? = some (N, ss)) (hs : ss[d]? = some k) {o : Option Cost} (h : LeastO (UpC B T k r d i j (j + 1)) o) : LeastO (CombC B T r d i j) o := by
  have iff : ∀ c, CombC B T r d i j c ↔ UpC B T k r d i j (j + 1) c := fun c => by
    constructor
    · rintro ⟨N2, s2, hr2, ⟨e1, _, _⟩ | ⟨k2, e, a, b, hs2, h1, h2, hb, ha, hc⟩⟩
      · rw [hr] at hr2
        cases hr2
        have := (List.getElem?_eq_some_iff.mp hs).1
        omega
      · rw [hr] at hr2
        cases hr2
        rw [hs] at hs2
        cases hs2
        exact ⟨e, h1, by omega, endC_is.mpr ⟨a, b, hb, ha, hc⟩⟩
    · rintro ⟨e, h1, h2, he⟩
      obtain ⟨a, b, hb, ha, hc⟩ := endC_is.mp he
      exact ⟨N, ss, hr, .inr ⟨k, e, a, b, hs, h1, by omega, hb, ha, hc⟩⟩
  have eq : CombC B T r d i j = UpC B T k r d i j (j + 1) := funext fun c => propext (iff c)
  rw [eq]
  exact h
theorem comb_full {B : Pb} {T : Nat → Nat → Ent} {N : Str} {ss : List Str} {r i j : Nat} (hr : B.G[r]? = some (N, ss)) : LeastO (CombC B T r ss.length i j) (if i = j then some (0, 0) else none) := by
  refine LeastO.of (fun c h => ?_) fun c h => ?_
  · split at h
    · rename_i e
      exact ⟨N, ss, hr, .inl ⟨rfl, e, (Option.some.inj h).symm⟩⟩
    · cases h
  · obtain ⟨N2, s2, hr2, ⟨_, e, rfl⟩ | ⟨k2, e, a, b, hs2, _⟩⟩ := h
    · rw [if_pos e]
      exact ⟨_, rfl, cle_refl _⟩
    · rw [hr] at hr2
      cases hr2
      have := (List.getElem?_eq_some_iff.mp hs2).1
      omega
/-- the better one of the two -/
def better (b x : Option Cost) : Option Cost := match b, x with
  | b, none => b
  | none, some x => some x
  | some b, some x => if x.1 < b.1 ∨ (x.1 = b.1 ∧ x.2 < b.2) then some x else some b
theorem better_least {S S2 : Cost → Prop} {b x : Option Cost} (h : LeastO S b) (iff : ∀ c, S2 c ↔ S c ∨ x = some c) : LeastO S2 (better b x) := by
  refine LeastO.of (fun c q => (iff c).mpr ?_) fun c q => ?_
  · cases x with
    | none =>
      have e : b = some c := by
        cases b <;> exact q
      left
      rw [e] at h
      exact h.1
    | some x =>
      cases b with
      | none => exact .inr q
      | some b =>
        unfold better at q
        dsimp only at q
        split at q
        · exact .inr q
        · left
          rw [← Option.some.inj q]
          exact h.1
  · rcases (iff c).mp q with s | s
    · obtain ⟨d, e, l⟩ := h.up s
      rw [e]
      cases x with
      | none => exact ⟨d, rfl, l⟩
      | some x =>
        unfold better
        dsimp only
        split
        · refine ⟨x, rfl, cle_trans ?_ l⟩
          unfold cle
          omega
        · exact ⟨d, rfl, l⟩
    · rw [s]
      cases b with
      | none => exact ⟨c, rfl, cle_refl c⟩
      | some b =>
        unfold better
        dsimp only
        split
        · exact ⟨c, rfl, cle_refl c⟩
        · refine ⟨b, rfl, ?_⟩
          unfold cle
          omega
theorem upC_step {B : Pb} {T : Nat → Nat → Ent} {k : Str} {r d i j lim : Nat} (h : i ≤ lim) {b : Option Cost} (l : LeastO (UpC B T k r d i j lim) b) : LeastO (UpC B T k r d i j (lim + 1)) (better b (endC B T k r d i j lim)) := by
  refine better_least l fun c => ?_
  constructor
  · rintro ⟨e, h1, h2, he⟩
    rcases Nat.lt_succ_iff_lt_or_eq.mp h2 with q | q
    · exact .inl ⟨e, h1, q, he⟩
    · rw [q] at he
      exact .inr he
  · rintro (⟨e, h1, h2, he⟩ | he)
    · exact ⟨e, h1, by omega, he⟩
    · exact ⟨lim, h, by omega, he⟩
end Ld

set_option Elab.async false
set_option linter.all false
set_option maxRecDepth 100000
set_option maxHeartbeats 4000000
/-! A table whose entries of one stretch are changed. -/
namespace Ld
open PySem PySem.Spec PyProof.Rows L2 Lr Lb
/-- all but d stays -/
def But (d : Addr) (A B : Hp) : Prop := ∀ b o, b ≠ d → A b = some o → B b = some o
theorem But.of_same {d : Addr} {A B : Hp} (h : Same A B) : But d A B := fun b o _ e => h b o e
theorem But.trans {d : Addr} {A B C : Hp} (h : But d A B) (k : But d B C) : But d A C := fun b o n e => k b o n (h b o n e)
theorem But.upd {d : Addr} {A B : Hp} {o : HO} (h : But d A B) : But d A (L2.upd B d o) := fun b x n e => by
  rw [upd_ne n]
  exact h b x n e
theorem But.same {d : Addr} {A B : Hp} (h : But d A B) (n : A d = none) : Same A B := fun b o e => h b o (fun z => by rw [z, n] at e; cases e) e
section
variable {A B : Hp} {d : Addr} {kd : List (List Key × V)}
theorem But.tup (h : But d A B) (hd : A d = some (.dT kd)) {a : Addr} {xs : List V} (e : A a = some (.tup xs)) : B a = some (.tup xs) := h a _ (fun z => by rw [z, hd] at e; cases e) e
theorem But.lst (h : But d A B) (hd : A d = some (.dT kd)) {a : Addr} {xs : List V} (e : A a = some (.lst xs)) : B a = some (.lst xs) := h a _ (fun z => by rw [z, hd] at e; cases e) e
theorem CostV.but (h : But d A B) (hd : A d = some (.dT kd)) {v : V} : ∀ {o : Option Cost}, CostV A v o → CostV B v o
  | none, q => q
  | some _, ⟨t, e, q⟩ => ⟨t, e, h.tup hd q⟩
theorem EntK.but (h : But d A B) (hd : A d = some (.dT kd)) {G : List Rule} {kvs : List (List Key × V)} {e : Ent} (q : EntK A G kvs e) : EntK B G kvs e := by
  refine ⟨fun N z => ?_, fun r d N ss h1 h2 => ?_, q.ks, q.nd⟩
  · obtain ⟨v, e1, c⟩ := q.nm N z
    exact ⟨v, e1, c.but h hd⟩
  · obtain ⟨v, e1, c⟩ := q.rs r d N ss h1 h2
    exact ⟨v, e1, c.but h hd⟩
theorem RuleA.but (h : But d A B) (hd : A d = some (.dT kd)) {v : V} {r : Rule} (q : RuleA A v r) : RuleA B v r := by
  obtain ⟨t, l, e, h1, h2⟩ := q
  exact ⟨t, l, e, h.tup hd h1, h.lst hd h2⟩
theorem GrA.but (h : But d A B) (hd : A d = some (.dT kd)) : ∀ {vs : List V} {G : List Rule}, GrA A vs G → GrA B vs G
  | [], [], _ => True.intro
  | v :: vs, r :: G, q => ⟨RuleA.but h hd q.1, GrA.but h hd q.2⟩
  | [], _ :: _, q => q.elim
  | _ :: _, [], q => q.elim
theorem GraA.but (h : But d A B) (hd : A d = some (.dT kd)) {g : Addr} {G : List Rule} (q : GraA A g G) : GraA B g G := by
  obtain ⟨vs, e, z⟩ := q
  exact ⟨vs, h.lst hd e, GrA.but h hd z⟩
/-- the table behind a change of the entries of one stretch -/
theorem TabK.but {G : List Rule} {n : Nat} {F : List (List Key × V)} {T : Nat → Nat → Ent} (q : TabK A G n F T) {i j : Nat} (ij : i ≤ j) (jn : j ≤ n) (hF : valV F (kS i j) = some (.ref d)) (hd : A d = some (.dT kd)) (h : But d A B)
    {kvs : List (List Key × V)} {e : Ent} (hd2 : B d = some (.dT kvs)) (he : EntK B G kvs e) : TabK B G n F (wi T i j e) := by
  refine ⟨fun a b h1 h2 => ?_, q.ks, q.nd, q.apart⟩
  by_cases w : a = i ∧ b = j
  · rw [w.1, w.2, wi_same]
    exact ⟨d, kvs, hF, hd2, he⟩
  · obtain ⟨d2, kv2, e1, e2, e3⟩ := q.at_ a b h1 h2
    rw [wi_other w]
    refine ⟨d2, kv2, e1, h d2 _ (fun z => w ?_) e2, e3.but h hd⟩
    have k1 := valV_from e1
    have k2 := valV_from hF
    have := q.apart _ k1 _ k2 (by show V.ref d2 = V.ref d; rw [z])
    exact kS_inj this
end
theorem put_mem2 {kvs : List (List Key × V)} {k : List Key} {v : V} : ∀ p ∈ putK kvs k v, p ∈ kvs ∨ p = (k, v) := fun p hp => by
  unfold putK at hp
  split at hp
  · obtain ⟨q, hq, e⟩ := List.mem_map.mp hp
    split at e
    · rename_i z
      right
      rw [← e, z]
    · left
      rw [← e]
      exact hq
  · rcases List.mem_append.mp hp with m | m
    · exact .inl m
    · exact .inr (List.mem_singleton.mp m)
theorem put_nodup2 {kvs : List (List Key × V)} {k : List Key} {v : V} (h : (kvs.map (·.1)).Nodup) : ((putK kvs k v).map (·.1)).Nodup := by
  unfold putK
  split
  · have e : (kvs.map fun kv => if kv.1 = k then (kv.1, v) else kv).map (·.1) = kvs.map (·.1) := by
      rw [List.map_map]
      refine List.map_congr_left fun q hq => ?_
      show (if q.1 = k then (q.1, v) else q).1 = q.1
      split <;> rfl
    rw [e]
    exact h
  · rename_i out
    rw [List.map_append, List.nodup_append]
    refine ⟨h, by simp, fun a ha b hb e => out ?_⟩
    rw [List.map_singleton, List.mem_singleton] at hb
    obtain ⟨q, hq, e2⟩ := List.mem_map.mp ha
    refine List.any_eq_true.mpr ⟨q, hq, decide_eq_true ?_⟩
    rw [e2, e, hb]
/-- entries with one put anew -/
theorem EntK.putR {H : Hp} {G : List Rule} {kvs : List (List Key × V)} {e : Ent} (h : EntK H G kvs e) {r d : Nat} {N : Str} {ss : List Str} (hr : G[r]? = some (N, ss)) (hd : d ≤ ss.length) {v : V} {o : Option Cost} (hv : CostV H v o) : EntK H G (putK kvs (kR r d) v) (setR e r d o) := by
  refine ⟨fun M hM => ?_, fun a b M ts h1 h2 => ?_, fun p hp => ?_, ?_⟩
  · obtain ⟨u, e1, c⟩ := h.nm M hM
    refine ⟨u, ?_, c⟩
    rw [valV_put, if_neg (kN_ne M r d)]
    exact e1
  · rw [valV_put]
    by_cases w : a = r ∧ b = d
    · rw [w.1, w.2, if_pos rfl]
      refine ⟨v, rfl, ?_⟩
      show CostV H v (if r = r ∧ d = d then o else e.rs r d)
      rw [if_pos ⟨rfl, rfl⟩]
      exact hv
    · rw [if_neg fun z => w (kR_inj z)]
      obtain ⟨u, e1, c⟩ := h.rs a b M ts h1 h2
      refine ⟨u, e1, ?_⟩
      show CostV H u (if a = r ∧ b = d then o else e.rs a b)
      rw [if_neg w]
      exact c
  · rcases put_mem2 p hp with m | rfl
    · exact h.ks p m
    · exact .inr ⟨r, d, N, ss, hr, hd, rfl⟩
  · exact put_nodup2 h.nd
theorem EntK.putN {H : Hp} {G : List Rule} {kvs : List (List Key × V)} {e : Ent} (h : EntK H G kvs e) {N : Str} (hN : ∃ r ∈ G, r.1 = N) {v : V} {o : Option Cost} (hv : CostV H v o) : EntK H G (putK kvs (kN N) v) (setN e N o) := by
  refine ⟨fun M hM => ?_, fun a b M ts h1 h2 => ?_, fun p hp => ?_, ?_⟩
  · rw [valV_put]
    by_cases w : M = N
    · rw [w, if_pos rfl]
      refine ⟨v, rfl, ?_⟩
      show CostV H v (if N = N then o else e.nm N)
      rw [if_pos rfl]
      exact hv
    · rw [if_neg fun z => w (kN_inj z)]
      obtain ⟨u, e1, c⟩ := h.nm M hM
      refine ⟨u, e1, ?_⟩
      show CostV H u (if M = N then o else e.nm M)
      rw [if_neg w]
      exact c
  · obtain ⟨u, e1, c⟩ := h.rs a b M ts h1 h2
    refine ⟨u, ?_, c⟩
    rw [valV_put, if_neg (Ne.symm (kN_ne N a b))]
    exact e1
  · rcases put_mem2 p hp with m | rfl
    · exact h.ks p m
    · exact .inl ⟨N, hN, rfl⟩
  · exact put_nodup2 h.nd
/-- None or a cost, as data -/
def oD : Option Cost → PyData
  | none => .none
  | some c => cD c
theorem CostV.oD {K : PySem.W.Frag} {H : Hp} {v : V} : ∀ {o : Option Cost}, CostV H v o → Dp K H v (oD o)
  | none, h => by
    rw [show v = .non from h]
    exact .non
  | some _, h => h.dp
theorem oD_shaped : ∀ o : Option Cost, SeqAt.shaped (oD o) = true
  | none => shaped_mk rfl (by simp [oD, PyData.depth])
  | some c => cD_shaped c
theorem oD_eqv (a b : Option Cost) : PyData.eqv (oD a) (oD b) = decide (a = b) := by
  cases a with
  | none =>
    cases b with
    | none => simp [oD, PyData.eqv]
    | some c => simp [oD, cD, PyData.eqv]
  | some a =>
    cases b with
    | none => simp [oD, cD, PyData.eqv]
    | some b =>
      rw [Bool.eq_iff_iff, decide_eq_true_eq]
      simp only [oD, cD, PyData.eqv, PyData.eqvAll, Bool.and_true, Bool.and_eq_true, Option.some.injEq]
      constructor
      · intro h
        exact Prod.ext (by simpa using h.1) (by simpa using h.2)
      · rintro rfl
        simp
/-- a round in which nothing moved so far: rules before r, and r from the dot d on -/
structure Still (B : Pb) (T : Nat → Nat → Ent) (i j : Nat) (r d : Nat) : Prop where
  rs : ∀ a b N ss, B.G[a]? = some (N, ss) → b ≤ ss.length → (a < r ∨ (a = r ∧ d ≤ b)) → LeastO (CombC B T a b i j) ((T i j).rs a b)
  nm : ∀ (a : Nat) N ss c, B.G[a]? = some (N, ss) → a < r → (T i j).rs a 0 = some c → ∃ x, (T i j).nm N = some x ∧ cle x (c.1, c.2 + 1)
/-- all of a grammar, nothing moved: the least entries -/
theorem Still.least {B : Pb} {T : Nat → Nat → Ent} {i j d : Nat} (h : Still B T i j B.G.length d) (ij : i ≤ j) (short : Short B T i j) (hk : B.kn i j = none) (snd : SoundAt B (T i j) i j) : LeastAt B (T i j) i j := by
  have e : wi T i j (T i j) = T := funext fun a => funext fun b => by
    by_cases w : a = i ∧ b = j
    · rw [w.1, w.2, wi_same]
    · rw [wi_other w]
  refine closed_least ij short hk snd (fun r d => ?_) fun r N ss c hr hc => h.nm r N ss c hr (List.getElem?_eq_some_iff.mp hr).1 hc
  rw [e]
  refine LeastO.of (fun c q => ?_) fun c q => ?_
  · obtain ⟨N, ss, hr, hd⟩ := rest_in hk (snd.rs r d c q)
    have := h.rs r d N ss hr hd (.inl (List.getElem?_eq_some_iff.mp hr).1)
    rw [q] at this
    exact this.1
  · obtain ⟨N, ss, hr, z⟩ := id q
    have hd : d ≤ ss.length := by
      rcases z with ⟨e1, _⟩ | ⟨k, f, a, b, hs, _⟩
      · omega
      · exact Nat.le_of_lt (List.getElem?_eq_some_iff.mp hs).1
    exact (h.rs r d N ss hr hd (.inl (List.getElem?_eq_some_iff.mp hr).1)).up q
end Ld

set_option Elab.async false
set_option linter.all false
set_option maxRecDepth 100000
set_option maxHeartbeats 4000000
/-! Lists of values that bear lists of things; cuts of lists. -/
namespace Ld
open PySem PySem.Spec PyProof.Rows L2
def Rel2 {α : Type} (R : V → α → Prop) : List V → List α → Prop
  | [], [] => True
  | v :: vs, x :: xs => R v x ∧ Rel2 R vs xs
  | _, _ => False
section
variable {α : Type} {R S : V → α → Prop}
theorem Rel2.mono (h : ∀ v x, R v x → S v x) : ∀ {vs : List V} {xs : List α}, Rel2 R vs xs → Rel2 S vs xs
  | [], [], _ => True.intro
  | _ :: _, _ :: _, q => ⟨h _ _ q.1, Rel2.mono h q.2⟩
  | [], _ :: _, q => q.elim
  | _ :: _, [], q => q.elim
theorem Rel2.len : ∀ {vs : List V} {xs : List α}, Rel2 R vs xs → vs.length = xs.length
  | [], [], _ => rfl
  | _ :: _, _ :: _, q => by rw [List.length_cons, List.length_cons, Rel2.len q.2]
  | [], _ :: _, q => q.elim
  | _ :: _, [], q => q.elim
theorem Rel2.get : ∀ {vs : List V} {xs : List α} {i : Nat} {v : V}, Rel2 R vs xs → vs[i]? = some v → ∃ x, xs[i]? = some x ∧ R v x
  | _ :: _, x :: _, 0, _, q, e => by
    cases e
    exact ⟨x, rfl, q.1⟩
  | _ :: _, _ :: _, i + 1, _, q, e => Rel2.get (i := i) q.2 e
  | [], _, _, _, _, e => by cases e
  | _ :: _, [], _, _, q, _ => q.elim
theorem Rel2.at {vs : List V} {xs : List α} {i : Nat} {x : α} (q : Rel2 R vs xs) (e : xs[i]? = some x) : ∃ v, vs[i]? = some v ∧ R v x := by
  have hi : i < vs.length := by rw [q.len]; exact (List.getElem?_eq_some_iff.mp e).1
  obtain ⟨y, e2, r⟩ := q.get (List.getElem?_eq_getElem hi)
  rw [e] at e2
  cases e2
  exact ⟨_, List.getElem?_eq_getElem hi, r⟩
theorem Rel2.app : ∀ {vs ws : List V} {xs ys : List α}, Rel2 R vs xs → Rel2 R ws ys → Rel2 R (vs ++ ws) (xs ++ ys)
  | [], _, [], _, _, r => r
  | _ :: _, _, _ :: _, _, q, r => ⟨q.1, Rel2.app q.2 r⟩
  | [], _, _ :: _, _, q, _ => q.elim
  | _ :: _, _, [], _, q, _ => q.elim
theorem Rel2.snoc {vs : List V} {xs : List α} {v : V} {x : α} (q : Rel2 R vs xs) (r : R v x) : Rel2 R (vs ++ [v]) (xs ++ [x]) := q.app ⟨r, True.intro⟩
theorem Rel2.take : ∀ {vs : List V} {xs : List α} (n : Nat), Rel2 R vs xs → Rel2 R (vs.take n) (xs.take n)
  | _, _, 0, _ => True.intro
  | [], [], _ + 1, _ => True.intro
  | _ :: _, _ :: _, n + 1, q => ⟨q.1, Rel2.take n q.2⟩
  | [], _ :: _, _ + 1, q => q.elim
  | _ :: _, [], _ + 1, q => q.elim
theorem Rel2.drop : ∀ {vs : List V} {xs : List α} (n : Nat), Rel2 R vs xs → Rel2 R (vs.drop n) (xs.drop n)
  | _, _, 0, q => q
  | [], [], _ + 1, _ => True.intro
  | _ :: _, _ :: _, n + 1, q => Rel2.drop n q.2
  | [], _ :: _, _ + 1, q => q.elim
  | _ :: _, [], _ + 1, q => q.elim
theorem Rel2.reverse : ∀ {vs : List V} {xs : List α}, Rel2 R vs xs → Rel2 R vs.reverse xs.reverse
  | [], [], _ => True.intro
  | v :: vs, x :: xs, q => by
    rw [List.reverse_cons, List.reverse_cons]
    exact (Rel2.reverse q.2).snoc q.1
  | [], _ :: _, q => q.elim
  | _ :: _, [], q => q.elim
theorem Rel2.map {β : Type} {T : V → β → Prop} {g : α → β} (h : ∀ v x, R v x → T v (g x)) : ∀ {vs : List V} {xs : List α}, Rel2 R vs xs → Rel2 T vs (xs.map g)
  | [], [], _ => True.intro
  | _ :: _, _ :: _, q => ⟨h _ _ q.1, Rel2.map h q.2⟩
  | [], _ :: _, q => q.elim
  | _ :: _, [], q => q.elim
theorem Rel2.dp {K : PySem.W.Frag} {H : Hp} {D : α → PyData} (h : ∀ v x, R v x → Dp K H v (D x)) : ∀ {vs : List V} {xs : List α}, Rel2 R vs xs → DpAll K H vs (xs.map D)
  | [], [], _ => .nil
  | _ :: _, _ :: _, q => .cons (h _ _ q.1) (Rel2.dp h q.2)
  | [], _ :: _, q => q.elim
  | _ :: _, [], q => q.elim
end
theorem cut_from {vs : List V} {n : Nat} : cutV vs (some (n : Int)) none = vs.drop n := by
  unfold cutV
  rw [HT.sIx_nat, HT.sIx_none]
  by_cases h : n ≤ vs.length
  · rw [Nat.min_eq_left h, List.take_of_length_le (by rw [List.length_drop]; exact Nat.le_refl _)]
  · have h := Nat.le_of_lt (Nat.lt_of_not_le h)
    rw [Nat.min_eq_right h, List.drop_of_length_le h, List.drop_of_length_le (Nat.le_refl _), List.take_nil]
theorem cut_to {vs : List V} {n : Nat} : cutV vs none (some (n : Int)) = vs.take n := by
  unfold cutV
  rw [HT.sIx_nat, HT.sIx_none, Nat.sub_zero, List.drop_zero]
  by_cases h : n ≤ vs.length
  · rw [Nat.min_eq_left h]
  · have h := Nat.le_of_lt (Nat.lt_of_not_le h)
    rw [Nat.min_eq_right h, List.take_of_length_le h, List.take_of_length_le (Nat.le_refl _)]
theorem cut_mid {vs : List V} {i k : Nat} (h : k ≤ vs.length) (h2 : i ≤ k) : cutV vs (some (i : Int)) (some (k : Int)) = (vs.drop i).take (k - i) := by
  unfold cutV
  rw [HT.sIx_nat, HT.sIx_nat, Nat.min_eq_left h, Nat.min_eq_left (Nat.le_trans h2 h)]
end Ld

set_option Elab.async false
set_option linter.all false
set_option maxRecDepth 100000
set_option maxHeartbeats 4000000
/-! The least of a list of costs, with a default and without one. -/
namespace Ld
open PySem PySem.Spec PyProof.Rows L2 Lr Lb
instance (a b : Cost) : Decidable (clt a b) := inferInstanceAs (Decidable (a.1 < b.1 ∨ (a.1 = b.1 ∧ a.2 < b.2)))
/-- the first of the least ones -/
def minL (x : Cost) (xs : List Cost) : Cost := xs.foldl (fun a y => if clt y a then y else a) x
theorem minL_data : ∀ (xs : List Cost) (x : Cost), PySem.W.minD (cD x) (xs.map cD) = cD (minL x xs)
  | [], x => rfl
  | y :: ys, x => by
    have e : (if PySem.W.dataLt (cD y) (cD x) = true then cD y else cD x) = cD (if clt y x then y else x) := by
      rw [cost_lt]
      by_cases h : clt y x
      · have h' : y.1 < x.1 ∨ (y.1 = x.1 ∧ y.2 < x.2) := h
        rw [if_pos h, if_pos (decide_eq_true h')]
      · have h' : ¬ (y.1 < x.1 ∨ (y.1 = x.1 ∧ y.2 < x.2)) := h
        rw [if_neg h, decide_eq_false h', if_neg Bool.false_ne_true]
    show (ys.map cD).foldl _ (if PySem.W.dataLt (cD y) (cD x) = true then cD y else cD x) = _
    rw [e]
    exact minL_data ys _
theorem cD_inj {a b : Cost} (h : cD a = cD b) : a = b := by
  obtain ⟨a1, a2⟩ := a
  obtain ⟨b1, b2⟩ := b
  unfold cD at h
  simp only [PyData.tuple.injEq, List.cons.injEq, PyData.int.injEq, and_true] at h
  rw [h.1, h.2]
theorem minL_mem : ∀ (xs : List Cost) (x : Cost), minL x xs = x ∨ minL x xs ∈ xs
  | [], x => .inl rfl
  | y :: ys, x => by
    have e : minL x (y :: ys) = minL (if clt y x then y else x) ys := rfl
    rw [e]
    rcases minL_mem ys (if clt y x then y else x) with h | h
    · rw [h]
      split
      · exact .inr List.mem_cons_self
      · exact .inl rfl
    · exact .inr (List.mem_cons_of_mem _ h)
theorem minL_le : ∀ (xs : List Cost) (x : Cost), cle (minL x xs) x ∧ ∀ y ∈ xs, cle (minL x xs) y
  | [], x => ⟨cle_refl x, fun _ m => nomatch m⟩
  | y :: ys, x => by
    have e : minL x (y :: ys) = minL (if clt y x then y else x) ys := rfl
    rw [e]
    obtain ⟨h1, h2⟩ := minL_le ys (if clt y x then y else x)
    by_cases c : clt y x
    · rw [if_pos c] at h1 h2 ⊢
      refine ⟨cle_trans h1 (cle_of_clt c), fun z hz => ?_⟩
      rcases List.mem_cons.mp hz with q | q
      · rw [q]; exact h1
      · exact h2 z q
    · rw [if_neg c] at h1 h2 ⊢
      refine ⟨h1, fun z hz => ?_⟩
      rcases List.mem_cons.mp hz with q | q
      · rw [q]
        rcases cle_or x y with k | k
        · exact cle_trans h1 k
        · exact absurd k c
      · exact h2 z q
theorem costs_alike (cs : List Cost) : PySem.W.AlikeAll (cs.map cD) := by
  refine ⟨fun x hx y hy => ?_, fun x hx => ?_⟩
  · obtain ⟨a, _, rfl⟩ := List.mem_map.mp hx
    obtain ⟨b, _, rfl⟩ := List.mem_map.mp hy
    exact cD_alike a b
  · obtain ⟨a, _, rfl⟩ := List.mem_map.mp hx
    intro z
    cases z
theorem costs_depth : ∀ cs : List Cost, PyData.depthAll (cs.map cD) ≤ 2
  | [] => by simp [PyData.depthAll]
  | x :: xs => by
    have := costs_depth xs
    simp only [List.map_cons, PyData.depthAll, cD, PyData.depth]
    omega
theorem cD_lay (a : Cost) : (cD a).canLay0 = true := by simp [cD, PyData.canLay0, PyData.canLayAll0]
/-- a list of costs, none of them None -/
def CostsA (H : Hp) (vs : List V) (cs : List Cost) : Prop := Rel2 (fun v c => CostV H v (some c)) vs cs
section
variable {X : Cx}
/-- min(x, default=None) -/
def rMinDf (K : PySem.W.Frag) : List V → List V → Hp → VK → Prop := fun xs zs H Q => ∃ (a : Addr) (vs : List V) (cs : List Cost), xs = [.ref a] ∧ zs = [.non] ∧ SqL K H a vs ∧ CostsA H vs cs ∧
  (cs = [] → Q .non H) ∧ (∀ c r v, cs = c :: r → CostV H v (some (minL c r)) → Q v H)
theorem cr_minDf (calm : X.calm = true) (hu : X.A.units + 64 < cLine) : CallRK X (.builtin "min") [Str.ofString "default"] (rMinDf X.K) := by
  intro pins s σ H xs zs us ws Q I r rz h
  obtain ⟨a, vs, cs, rfl, rfl, hs, rel, q0, q1⟩ := h
  obtain rfl := Vals.ref1 r
  obtain ⟨w1, rfl, e1⟩ := vals1 rz
  obtain rfl : w1 = Value.none := e1
  obtain ⟨its, rv, hl, hz⟩ := I.list hs
  obtain ⟨as, rd⟩ := Dp.readsAll I _ _ _ (Rel2.dp (K := X.K) (fun v x h => CostV.dp h) rel) rv
  have dep := costs_depth cs
  refine PySem.W.min_list_default (A := X.A) (I.ok.hd calm) hl.isList (by simpa using rd) (costs_alike cs) (by omega) (fun e h' tk k => ?_) fun y ys i v h' tk bs e hv rb k => ?_
  · have : cs = [] := List.map_eq_nil_iff.mp e
    exact ⟨.non, H, I.kept k, rfl, q0 this⟩
  · cases cs with
    | nil => cases e
    | cons c cr =>
      have e : cD c :: cr.map cD = y :: ys := e
      obtain ⟨e2, e3⟩ := List.cons.inj e
      subst e2 e3
      rw [minL_data] at rb
      have hv : its[i]? = some v := by simpa using hv
      have il : i < vs.length := by
        rw [rv.length]
        exact (List.getElem?_eq_some_iff.mp hv).1
      obtain ⟨v', hv', rw'⟩ := rv.get (i := i) (x := vs[i]) (List.getElem?_eq_getElem il)
      rw [hv] at hv'
      cases hv'
      obtain ⟨d, hd, cv⟩ := rel.get (List.getElem?_eq_getElem il)
      have I2 : Inv X pins σ H { s with heap := h', toks := tk } := I.kept k
      obtain ⟨as2, r2⟩ := Dp.reads I2 (cD d) vs[i] v (CostV.dp cv) rw'
      have same := (Reads.unique r2 _ _ rb).1
      have ed := cD_inj same
      exact ⟨vs[i], H, I2, rw', q1 c cr vs[i] rfl (by rw [← ed]; exact cv)⟩
end
end Ld

set_option Elab.async false
set_option linter.all false
set_option maxRecDepth 100000
set_option maxHeartbeats 4000000
/-! A table of empty entries, while it is made. -/
namespace Ld
open PySem PySem.Spec PyProof.Rows L2 Lr Lb
/-- a dict of Nones at the keys of D -/
structure NonK (D : List Key → Prop) (kvs : List (List Key × V)) : Prop where
  all : ∀ k, D k → valV kvs k = some .non
  ks : ∀ p ∈ kvs, D p.1
  nd : (kvs.map (·.1)).Nodup
theorem NonK.start {D : List Key → Prop} (h : ∀ k, ¬ D k) : NonK D [] := ⟨fun k q => (h k q).elim, (fun _ m => nomatch m), List.nodup_nil⟩
theorem NonK.put {D D2 : List Key → Prop} {kvs : List (List Key × V)} (h : NonK D kvs) {k : List Key} (iff : ∀ x, D2 x ↔ D x ∨ x = k) : NonK D2 (putK kvs k .non) := by
  refine ⟨fun x q => ?_, fun p hp => (iff _).mpr ?_, put_nodup2 h.nd⟩
  · rw [valV_put]
    split
    · rfl
    · rename_i ne
      rcases (iff x).mp q with z | z
      · exact h.all x z
      · exact (ne z).elim
  · rcases put_mem2 p hp with m | rfl
    · exact .inl (h.ks p m)
    · exact .inr rfl
theorem NonK.iff {D D2 : List Key → Prop} {kvs : List (List Key × V)} (h : NonK D kvs) (iff : ∀ x, D2 x ↔ D x) : NonK D2 kvs := ⟨fun k q => h.all k ((iff k).mp q), fun p m => (iff _).mpr (h.ks p m), h.nd⟩
/-- the keys that are there when the names of the first a rules, and the rests before (r, d), are -/
def KeyD (G : List Rule) (a r d : Nat) (k : List Key) : Prop := (∃ (b : Nat) (N : Str) (ss : List Str), b < a ∧ G[b]? = some (N, ss) ∧ k = kN N) ∨
  ∃ (b c : Nat) (N : Str) (ss : List Str), G[b]? = some (N, ss) ∧ c ≤ ss.length ∧ (b < r ∨ (b = r ∧ c < d)) ∧ k = kR b c
theorem keyD_start (G : List Rule) : ∀ k, ¬ KeyD G 0 0 0 k := by
  rintro k (⟨b, N, ss, h, _⟩ | ⟨b, c, N, ss, _, _, h, _⟩)
  · omega
  · omega
theorem keyD_name {G : List Rule} {a d : Nat} {N : Str} {ss : List Str} (h : G[a]? = some (N, ss)) (x : List Key) : KeyD G (a + 1) a d x ↔ KeyD G a a d x ∨ x = kN N := by
  constructor
  · rintro (⟨b, M, ts, h1, h2, rfl⟩ | z)
    · rcases Nat.lt_succ_iff_lt_or_eq.mp h1 with q | q
      · exact .inl (.inl ⟨b, M, ts, q, h2, rfl⟩)
      · rw [q, h] at h2
        cases h2
        exact .inr rfl
    · exact .inl (.inr z)
  · rintro ((⟨b, M, ts, h1, h2, rfl⟩ | z) | rfl)
    · exact .inl ⟨b, M, ts, by omega, h2, rfl⟩
    · exact .inr z
    · exact .inl ⟨a, N, ss, by omega, h, rfl⟩
theorem keyD_rest {G : List Rule} {a r d : Nat} {N : Str} {ss : List Str} (h : G[r]? = some (N, ss)) (hd : d ≤ ss.length) (x : List Key) : KeyD G a r (d + 1) x ↔ KeyD G a r d x ∨ x = kR r d := by
  constructor
  · rintro (z | ⟨b, c, M, ts, h1, h2, h3, rfl⟩)
    · exact .inl (.inl z)
    · by_cases w : b = r ∧ c = d
      · rw [w.1, w.2]
        exact .inr rfl
      · exact .inl (.inr ⟨b, c, M, ts, h1, h2, by omega, rfl⟩)
  · rintro ((z | ⟨b, c, M, ts, h1, h2, h3, rfl⟩) | rfl)
    · exact .inl z
    · exact .inr ⟨b, c, M, ts, h1, h2, by omega, rfl⟩
    · exact .inr ⟨r, d, N, ss, h, hd, by omega, rfl⟩
theorem keyD_next {G : List Rule} {a r : Nat} {N : Str} {ss : List Str} (h : G[r]? = some (N, ss)) (x : List Key) : KeyD G a (r + 1) 0 x ↔ KeyD G a r (ss.length + 1) x := by
  constructor
  · rintro (z | ⟨b, c, M, ts, h1, h2, h3, rfl⟩)
    · exact .inl z
    · refine .inr ⟨b, c, M, ts, h1, h2, ?_, rfl⟩
      by_cases w : b = r
      · rw [w, h] at h1
        cases h1
        exact .inr ⟨w, by omega⟩
      · exact .inl (by omega)
  · rintro (z | ⟨b, c, M, ts, h1, h2, h3, rfl⟩)
    · exact .inl z
    · exact .inr ⟨b, c, M, ts, h1, h2, .inl (by omega), rfl⟩
def ent0 : Ent := ⟨fun _ => none, fun _ _ => none⟩
theorem NonK.ent {H : Hp} {G : List Rule} {kvs : List (List Key × V)} (h : NonK (KeyD G G.length G.length 0) kvs) : EntK H G kvs ent0 := by
  refine ⟨fun N hN => ?_, fun r d N ss h1 h2 => ?_, fun p hp => ?_, h.nd⟩
  · obtain ⟨q, hq, rfl⟩ := hN
    obtain ⟨b, hb⟩ := List.mem_iff_getElem?.mp hq
    exact ⟨.non, h.all _ (.inl ⟨b, q.1, q.2, (List.getElem?_eq_some_iff.mp hb).1, hb, rfl⟩), rfl⟩
  · exact ⟨.non, h.all _ (.inr ⟨r, d, N, ss, h1, h2, .inl (List.getElem?_eq_some_iff.mp h1).1, rfl⟩), rfl⟩
  · rcases h.ks p hp with ⟨b, N, ss, _, h2, e⟩ | ⟨b, c, N, ss, h1, h2, _, e⟩
    · exact .inl ⟨N, ⟨_, List.mem_of_getElem? h2, rfl⟩, e⟩
    · exact .inr ⟨b, c, N, ss, h1, h2, e⟩
/-- a table, as far as it is made -/
structure TabD (H : Hp) (G : List Rule) (D : Nat → Nat → Prop) (F : List (List Key × V)) : Prop where
  at_ : ∀ i j, D i j → ∃ d kvs, valV F (kS i j) = some (.ref d) ∧ H d = some (.dT kvs) ∧ EntK H G kvs ent0
  ks : ∀ p ∈ F, ∃ i j, D i j ∧ p.1 = kS i j
  nd : (F.map (·.1)).Nodup
  apart : ∀ p ∈ F, ∀ q ∈ F, p.2 = q.2 → p.1 = q.1
theorem TabD.start {H : Hp} {G : List Rule} {D : Nat → Nat → Prop} (h : ∀ i j, ¬ D i j) : TabD H G D [] := ⟨fun i j q => (h i j q).elim, (fun _ m => nomatch m), List.nodup_nil, fun _ m => nomatch m⟩
theorem TabD.iff {H : Hp} {G : List Rule} {D D2 : Nat → Nat → Prop} {F : List (List Key × V)} (h : TabD H G D F) (iff : ∀ i j, D2 i j ↔ D i j) : TabD H G D2 F :=
  ⟨fun i j q => h.at_ i j ((iff i j).mp q), fun p m => let ⟨i, j, q, e⟩ := h.ks p m; ⟨i, j, (iff i j).mpr q, e⟩, h.nd, h.apart⟩
theorem TabD.live {H : Hp} {G : List Rule} {D : Nat → Nat → Prop} {F : List (List Key × V)} (h : TabD H G D F) : ∀ p ∈ F, ∃ d kvs, p.2 = .ref d ∧ H d = some (.dT kvs) := fun p hp => by
  obtain ⟨i, j, q, e⟩ := h.ks p hp
  obtain ⟨d, kvs, e1, e2, _⟩ := h.at_ i j q
  have v := valV_at2 h.nd hp
  rw [e, e1] at v
  exact ⟨d, kvs, (Option.some.inj v).symm, e2⟩
theorem TabD.but {A B : Hp} {d : Addr} {kd : List (List Key × V)} {G : List Rule} {D : Nat → Nat → Prop} {F : List (List Key × V)} (h : TabD A G D F) (hd : A d = some (.dT kd)) (out : ∀ p ∈ F, p.2 ≠ .ref d) (b : But d A B) : TabD B G D F := by
  refine ⟨fun i j q => ?_, h.ks, h.nd, h.apart⟩
  obtain ⟨a, kvs, e1, e2, e3⟩ := h.at_ i j q
  refine ⟨a, kvs, e1, b a _ (fun z => out _ (valV_from e1) (by rw [z])) e2, e3.but b hd⟩
theorem TabD.up {A B : Hp} (u : Up A B) {G : List Rule} {D : Nat → Nat → Prop} {F : List (List Key × V)} (h : TabD A G D F) : TabD B G D F := by
  refine ⟨fun i j q => ?_, h.ks, h.nd, h.apart⟩
  obtain ⟨a, kvs, e1, e2, e3⟩ := h.at_ i j q
  exact ⟨a, kvs, e1, u.dT e2, e3.up u⟩
theorem TabD.put {H : Hp} {d : Addr} {kvs : List (List Key × V)} {G : List Rule} {D D2 : Nat → Nat → Prop} {F : List (List Key × V)} (h : TabD H G D F) (out : ∀ p ∈ F, p.2 ≠ .ref d) (hd : H d = some (.dT kvs)) (he : EntK H G kvs ent0) {i j : Nat} (iff : ∀ a b, D2 a b ↔ D a b ∨ (a = i ∧ b = j))
    (nD : ¬ D i j) : TabD H G D2 (putK F (kS i j) (.ref d)) := by
  have nk : valV F (kS i j) = none := by
    cases q : valV F (kS i j) with
    | none => rfl
    | some v =>
      obtain ⟨a, b, hab, e⟩ := h.ks _ (valV_from q)
      obtain ⟨e1, e2⟩ := kS_inj e
      rw [e1, e2] at nD
      exact (nD hab).elim
  refine ⟨fun a b q => ?_, fun p hp => ?_, put_nodup2 h.nd, fun p hp q hq e => ?_⟩
  · rw [valV_put]
    by_cases w : a = i ∧ b = j
    · rw [w.1, w.2, if_pos rfl]
      exact ⟨d, kvs, rfl, hd, he⟩
    · rw [if_neg fun z => w (kS_inj z)]
      rcases (iff a b).mp q with z | z
      · exact h.at_ a b z
      · exact (w z).elim
  · rcases put_mem2 p hp with m | rfl
    · obtain ⟨a, b, hab, e⟩ := h.ks p m
      exact ⟨a, b, (iff a b).mpr (.inl hab), e⟩
    · exact ⟨i, j, (iff i j).mpr (.inr ⟨rfl, rfl⟩), rfl⟩
  · rcases put_mem2 p hp with m | rfl
    · rcases put_mem2 q hq with k | rfl
      · exact h.apart p m q k e
      · exact (out p m e).elim
    · rcases put_mem2 q hq with k | rfl
      · exact (out q k e.symm).elim
      · rfl
theorem TabD.tab {H : Hp} {G : List Rule} {n : Nat} {F : List (List Key × V)} (h : TabD H G (fun i j => i ≤ j ∧ j ≤ n) F) : TabK H G n F (fun _ _ => ent0) :=
  ⟨fun i j h1 h2 => h.at_ i j ⟨h1, h2⟩, fun p m => let ⟨i, j, q, e⟩ := h.ks p m; ⟨i, j, q.1, q.2, e⟩, h.nd, h.apart⟩
end Ld

set_option Elab.async false
set_option linter.all false
set_option maxRecDepth 100000
set_option maxHeartbeats 4000000
/-! A round over the entries of one stretch: what each step gives. -/
namespace Ld
open PySem PySem.Spec PyProof.Rows L2 Lr Lb
/-- a grammar that the table's parts walk over -/
structure GraT (G : List Rule) : Prop where
  name : ∀ r ∈ G, ∀ s ∈ r.2, isLow s = true → ∃ q ∈ G, q.1 = s
  some_ : ∀ r ∈ G, ∀ s ∈ r.2, 0 < s.length ∧ s.length ≤ 100
  few : ∀ r ∈ G, r.2.length ≤ 20
  rules : G.length ≤ 60
theorem setR_self (e : Ent) (r d : Nat) {o : Option Cost} (h : o = e.rs r d) : setR e r d o = e := by
  obtain ⟨n, s⟩ := e
  unfold setR
  have : (fun a b => if a = r ∧ b = d then o else s a b) = s := funext fun a => funext fun b => by
    split
    · rename_i w
      rw [w.1, w.2, h]
    · rfl
  simp only [this]
theorem setN_self (e : Ent) (N : Str) {o : Option Cost} (h : o = e.nm N) : setN e N o = e := by
  obtain ⟨n, s⟩ := e
  unfold setN
  have : (fun M => if M = N then o else n M) = n := funext fun M => by
    split
    · rename_i w
      rw [w, h]
    · rfl
  simp only [this]
section
variable {B : Pb} {T : Nat → Nat → Ent} {i j : Nat} {e0 e : Ent}
theorem RInv.out {r d d2 : Nat} (h : RInv B i j e0 e r d) (out : ∀ b c, d2 ≤ b → ¬ RestC B r b i j c) : RInv B i j e0 e r d2 :=
  ⟨h.snd, h.mono, fun A A' U nb => let ⟨u1, u2, _, u4⟩ := h.up A A' U nb; ⟨u1, u2, fun b le c m => (out b c le m).elim, u4⟩⟩
theorem rest_none (hk : B.kn i j = none) {r : Nat} {N : Str} {ss : List Str} (hr : B.G[r]? = some (N, ss)) {d : Nat} (h : ss.length < d) : ∀ b c, d ≤ b → ¬ RestC B r b i j c := fun b c le m => by
  obtain ⟨M, ts, h1, h2⟩ := rest_in hk m
  rw [hr] at h1
  cases h1
  omega
theorem rest_none2 (hk : B.kn i j = none) (few : ∀ r ∈ B.G, r.2.length ≤ 20) (r : Nat) : ∀ b c, 21 ≤ b → ¬ RestC B r b i j c := fun b c le m => by
  obtain ⟨M, ts, h1, h2⟩ := rest_in hk m
  have := few _ (List.mem_of_getElem? h1)
  dsimp only at this
  omega
theorem Still.rest {r d : Nat} (h : Still B T i j r (d + 1)) (ho : LeastO (CombC B T r d i j) ((T i j).rs r d)) : Still B T i j r d := by
  refine ⟨fun a b N ss h1 h2 h3 => ?_, h.nm⟩
  by_cases w : a = r ∧ b = d
  · rw [w.1, w.2]
    exact ho
  · exact h.rs a b N ss h1 h2 (by omega)
theorem Still.out {r d : Nat} (h : Still B T i j r d) {N : Str} {ss : List Str} (hr : B.G[r]? = some (N, ss)) : Still B T i j r (ss.length + 1) := by
  refine ⟨fun a b M ts h1 h2 h3 => ?_, h.nm⟩
  by_cases w : a = r
  · rw [w, hr] at h1
    cases h1
    omega
  · exact h.rs a b M ts h1 h2 (by omega)
theorem Still.name {r d : Nat} (h : Still B T i j r 0) (few : ∀ r ∈ B.G, r.2.length ≤ 20) {N : Str} {ss : List Str} (hr : B.G[r]? = some (N, ss)) (hn : ∀ c, (T i j).rs r 0 = some c → ∃ x, (T i j).nm N = some x ∧ cle x (c.1, c.2 + 1)) (hd : 21 ≤ d) : Still B T i j (r + 1) d := by
  refine ⟨fun a b M ts h1 h2 h3 => ?_, fun a M ts c h1 h2 h3 => ?_⟩
  · have := few _ (List.mem_of_getElem? h1)
    dsimp only at this
    exact h.rs a b M ts h1 h2 (by omega)
  · by_cases w : a = r
    · rw [w] at h1 h3
      rw [hr] at h1
      cases h1
      exact hn c h3
    · exact h.nm a M ts c h1 (by omega) h3
theorem Still.start (few : ∀ r ∈ B.G, r.2.length ≤ 20) : Still B T i j 0 21 := by
  refine ⟨fun a b M ts h1 h2 h3 => ?_, fun a M ts c h1 h2 => absurd h2 (Nat.not_lt_zero a)⟩
  have := few _ (List.mem_of_getElem? h1)
  dsimp only at this
  omega
end
def keysAll (G : List Rule) : List (List Key) := G.map (fun r => kN r.1) ++ (List.range 60).flatMap fun r => (List.range 21).map fun d => kR r d
theorem keysAll_len {G : List Rule} (h : G.length ≤ 60) : (keysAll G).length ≤ 1320 := by
  unfold keysAll
  rw [List.length_append, List.length_map]
  have : ((List.range 60).flatMap fun r => (List.range 21).map fun d => kR r d).length = 1260 := by
    rw [List.length_flatMap]
    simp only [List.length_map, List.length_range]
    decide
  omega
theorem EntK.few {H : Hp} {G : List Rule} {kvs : List (List Key × V)} {e : Ent} (gt : GraT G) (h : EntK H G kvs e) : kvs.length ≤ 1320 := by
  have := nodup_le2 (l := kvs.map (·.1)) (m := keysAll G) h.nd fun x hx => by
    obtain ⟨p, hp, rfl⟩ := List.mem_map.mp hx
    unfold keysAll
    rcases h.ks p hp with ⟨N, ⟨r, hr, rfl⟩, e1⟩ | ⟨r, d, N, ss, h1, h2, e1⟩
    · rw [e1]
      exact List.mem_append_left _ (List.mem_map.mpr ⟨r, hr, rfl⟩)
    · rw [e1]
      have l1 := (List.getElem?_eq_some_iff.mp h1).1
      have l2 := gt.rules
      have l3 := gt.few _ (List.mem_of_getElem? h1)
      dsimp only at l3
      exact List.mem_append_right _ (List.mem_flatMap.mpr ⟨r, List.mem_range.mpr (by omega), List.mem_map.mpr ⟨d, List.mem_range.mpr (by omega), rfl⟩⟩)
  rw [List.length_map] at this
  exact Nat.le_trans this (keysAll_len gt.rules)
end Ld

set_option Elab.async false
set_option linter.all false
set_option maxRecDepth 100000
set_option maxHeartbeats 4000000
/-! The grammars that the laws of tables and trees make: mathematics. -/
namespace Ld
open PySem PySem.Spec PyProof.Rows L2 Lr Lb
def N4t : List Str := ["s", "expr", "b", "items"]
structure GramT (G : List Rule) : Prop where
  good : ∀ r ∈ G, r.1 ∈ N4t ∧ r.2.length ≤ 3 ∧ ∀ s ∈ r.2, s ∈ N4t ∨ s ∈ P3
  names : ∀ r ∈ G, ∀ s ∈ r.2, s ∈ N4t → ∃ q ∈ G, q.1 = s
  own : ∀ r ∈ G, ∃ q ∈ G, q.1 = r.1 ∧ ∀ x ∈ q.2, x ∈ P3
  ne : G ≠ []
  few : G.length ≤ 12
  nd : G.Nodup
theorem n4t_low : ∀ s ∈ N4t, isLow s = true := by decide +kernel
theorem p3_low : ∀ s ∈ P3, isLow s = false := by decide +kernel
theorem p3_not : ∀ s ∈ P3, s ∉ N4t := by decide +kernel
theorem n4t_name : ∀ s ∈ N4t, nameB s = true := by decide +kernel
theorem p3_kind : ∀ s ∈ P3, kindB s = true := by decide +kernel
theorem n4t_len : ∀ s ∈ N4t, 0 < s.length ∧ s.length ≤ 100 := by decide +kernel
theorem p3_len : ∀ s ∈ P3, 0 < s.length ∧ s.length ≤ 100 := by decide +kernel
theorem sym_good {s : Str} (h : s ∈ N4t ∨ s ∈ P3) : symB s = true := by
  unfold symB
  rcases h with h | h
  · rw [n4t_name s h, Bool.or_true]
  · rw [p3_kind s h, Bool.true_or]
theorem ruleT_good {r : Rule} (h : r.1 ∈ N4t ∧ r.2.length ≤ 3 ∧ ∀ s ∈ r.2, s ∈ N4t ∨ s ∈ P3) : GoodR r :=
  ⟨n4t_name _ h.1, by have := h.2.1; omega, List.all_eq_true.mpr fun s hs => sym_good (h.2.2 s hs)⟩
theorem GramT.goodR {G : List Rule} (h : GramT G) : ∀ r ∈ G, GoodR r := fun r hr => ruleT_good (h.good r hr)
theorem GramT.walk {G : List Rule} (h : GramT G) : GraT G := by
  refine ⟨fun r hr s hs low => ?_, fun r hr s hs => ?_, fun r hr => by have := (h.good r hr).2.1; omega, by have := h.few; omega⟩
  · rcases (h.good r hr).2.2 s hs with z | z
    · exact h.names r hr s hs z
    · rw [p3_low s z] at low
      cases low
  · rcases (h.good r hr).2.2 s hs with z | z
    · exact n4t_len s z
    · exact p3_len s z
theorem GramT.cover {G : List Rule} (h : GramT G) : ∀ q ∈ G, q.1 ∈ N4t := fun q hq => (h.good q hq).1
/-- while the rules are made -/
structure GramP (ns : List Str) (k n : Nat) (G : List Rule) : Prop where
  good : ∀ r ∈ G, r.1 ∈ ns ∧ r.2.length ≤ 3 ∧ ∀ s ∈ r.2, s ∈ ns ∨ s ∈ P3
  own : ∀ (a : Nat) N, a < k → ns[a]? = some N → ∃ q ∈ G, q.1 = N ∧ ∀ x ∈ q.2, x ∈ P3
  few : G.length ≤ n
  ne : 0 < k → G ≠ []
theorem GramP.start (ns : List Str) : GramP ns 0 0 [] := ⟨(fun _ h => nomatch h), (fun a N h => absurd h (Nat.not_lt_zero a)), Nat.le_refl _, fun h => absurd h (Nat.lt_irrefl 0)⟩
theorem GramP.own_ {ns : List Str} {k n : Nat} {G : List Rule} (h : GramP ns k n G) {N : Str} (hN : ns[k]? = some N) {ss : List Str} (l : ss.length ≤ 3) (hs : ∀ s ∈ ss, s ∈ P3) : GramP ns (k + 1) (n + 1) (G ++ [(N, ss)]) := by
  refine ⟨fun r hr => ?_, fun a M lt e => ?_, ?_, fun _ z => by simp at z⟩
  · rcases List.mem_append.mp hr with m | m
    · exact h.good r m
    · rw [List.mem_singleton.mp m]
      exact ⟨List.mem_of_getElem? hN, l, fun s z => .inr (hs s z)⟩
  · rcases Nat.lt_succ_iff_lt_or_eq.mp lt with q | q
    · obtain ⟨r, hr, z⟩ := h.own a M q e
      exact ⟨r, List.mem_append_left _ hr, z⟩
    · rw [q, hN] at e
      cases e
      exact ⟨(N, ss), List.mem_append_right _ (List.mem_singleton.mpr rfl), rfl, hs⟩
  · rw [List.length_append, List.length_singleton]
    have := h.few
    omega
theorem GramP.more {ns : List Str} {k n : Nat} {G : List Rule} (h : GramP ns k n G) {r : Rule} (hr : r.1 ∈ ns ∧ r.2.length ≤ 3 ∧ ∀ s ∈ r.2, s ∈ ns ∨ s ∈ P3) (A B : List Rule) (e : G = A ++ B) : GramP ns k (n + 1) (A ++ [r] ++ B) := by
  refine ⟨fun q hq => ?_, fun a M lt e2 => ?_, ?_, fun _ z => by simp at z⟩
  · rcases List.mem_append.mp hq with m | m
    · rcases List.mem_append.mp m with m | m
      · exact h.good q (by rw [e]; exact List.mem_append_left _ m)
      · rw [List.mem_singleton.mp m]
        exact hr
    · exact h.good q (by rw [e]; exact List.mem_append_right _ m)
  · obtain ⟨q, hq, z⟩ := h.own a M lt e2
    rw [e] at hq
    refine ⟨q, ?_, z⟩
    rcases List.mem_append.mp hq with m | m
    · exact List.mem_append_left _ (List.mem_append_left _ m)
    · exact List.mem_append_right _ m
  · have := h.few
    rw [e] at this
    simp only [List.length_append, List.length_singleton] at this ⊢
    omega
theorem GramP.skip {ns : List Str} {k n m : Nat} {G : List Rule} (h : GramP ns k n G) (l : n ≤ m) : GramP ns k m G := ⟨h.good, h.own, Nat.le_trans h.few l, h.ne⟩
/-- each rule once -/
def nubStep (D : List Rule) (r : Rule) : List Rule := if r ∈ D then D else D ++ [r]
theorem nub_take {G : List Rule} {i : Nat} {r : Rule} (h : G[i]? = some r) : (G.take (i + 1)).foldl nubStep [] = nubStep ((G.take i).foldl nubStep []) r := by
  rw [List.take_add_one, h, List.foldl_append]
  rfl
theorem nub_in (ys : List Rule) : ∀ (D : List Rule) (x : Rule), x ∈ ys.foldl nubStep D ↔ x ∈ D ∨ x ∈ ys := by
  induction ys with
  | nil => simp
  | cons y ys ih =>
    intro D x
    rw [List.foldl_cons, ih, List.mem_cons]
    unfold nubStep
    split
    · rename_i m
      constructor
      · rintro (z | z)
        · exact .inl z
        · exact .inr (.inr z)
      · rintro (z | z | z)
        · exact .inl z
        · exact .inl (z ▸ m)
        · exact .inr z
    · rw [List.mem_append, List.mem_singleton]
      constructor
      · rintro ((z | z) | z)
        · exact .inl z
        · exact .inr (.inl z)
        · exact .inr (.inr z)
      · rintro (z | z | z)
        · exact .inl (.inl z)
        · exact .inl (.inr z)
        · exact .inr z
theorem nub_len (ys : List Rule) : ∀ D : List Rule, (ys.foldl nubStep D).length ≤ D.length + ys.length := by
  induction ys with
  | nil => exact fun D => Nat.le_refl _
  | cons y ys ih =>
    intro D
    have := ih (nubStep D y)
    have : (nubStep D y).length ≤ D.length + 1 := by
      unfold nubStep
      split
      · omega
      · rw [List.length_append]
        exact Nat.le_refl _
    rw [List.foldl_cons, List.length_cons]
    omega
theorem nub_nd (ys : List Rule) : ∀ D : List Rule, D.Nodup → (ys.foldl nubStep D).Nodup := by
  induction ys with
  | nil => exact fun D h => h
  | cons y ys ih =>
    intro D h
    rw [List.foldl_cons]
    refine ih _ ?_
    unfold nubStep
    split
    · exact h
    · rename_i out
      rw [List.nodup_append]
      refine ⟨h, by simp, fun p hp p2 hp2 e => ?_⟩
      rw [List.mem_singleton.mp hp2] at e
      rw [e] at hp
      exact out hp
theorem GramP.gram {ns : List Str} {k n : Nat} {G : List Rule} (h : GramP ns k n G) (sub : ∀ s ∈ ns, s ∈ N4t) (full : k = ns.length) (k0 : 0 < k) (n12 : n ≤ 12) : GramT (G.foldl nubStep []) := by
  have mem : ∀ x, x ∈ G.foldl nubStep [] ↔ x ∈ G := fun x => by rw [nub_in]; simp
  have own : ∀ N ∈ ns, ∃ q ∈ G.foldl nubStep [], q.1 = N ∧ ∀ x ∈ q.2, x ∈ P3 := fun N hN => by
    obtain ⟨a, ha⟩ := List.mem_iff_getElem?.mp hN
    obtain ⟨q, hq, z⟩ := h.own a N (by rw [full]; exact (List.getElem?_eq_some_iff.mp ha).1) ha
    exact ⟨q, (mem q).mpr hq, z⟩
  have g : ∀ r ∈ G.foldl nubStep [], r.1 ∈ ns ∧ r.2.length ≤ 3 ∧ ∀ s ∈ r.2, s ∈ ns ∨ s ∈ P3 := fun r hr => h.good r ((mem r).mp hr)
  refine ⟨fun r hr => ?_, fun r hr s hs n4 => ?_, fun r hr => own _ (g r hr).1, fun z => ?_, ?_, nub_nd G [] List.nodup_nil⟩
  · obtain ⟨g1, g2, g3⟩ := g r hr
    exact ⟨sub _ g1, g2, fun s hs => (g3 s hs).imp_left (sub s)⟩
  · rcases (g r hr).2.2 s hs with z | z
    · obtain ⟨q, hq, e, _⟩ := own s z
      exact ⟨q, hq, e⟩
    · exact (p3_not s z n4).elim
  · cases eG : G with
    | nil => exact h.ne k0 eG
    | cons x G2 =>
      have := (mem x).mpr (by rw [eG]; exact List.mem_cons_self)
      rw [z] at this
      cases this
  · have := nub_len G []
    have := h.few
    rw [List.length_nil] at *
    omega
/-! ### rules in the heap, some of them -/
theorem GrA.app {H : Hp} : ∀ {vs ws : List V} {G G2 : List Rule}, GrA H vs G → GrA H ws G2 → GrA H (vs ++ ws) (G ++ G2)
  | [], _, [], _, _, k => k
  | _ :: _, _, _ :: _, _, h, k => ⟨h.1, GrA.app h.2 k⟩
  | [], _, _ :: _, _, h, _ => h.elim
  | _ :: _, _, [], _, h, _ => h.elim
theorem GrA.take {H : Hp} : ∀ (n : Nat) {vs : List V} {G : List Rule}, GrA H vs G → GrA H (vs.take n) (G.take n)
  | 0, _, _, _ => by
    rw [List.take_zero, List.take_zero]
    exact True.intro
  | _ + 1, [], [], _ => True.intro
  | n + 1, _ :: _, _ :: _, h => ⟨h.1, GrA.take n h.2⟩
  | _ + 1, [], _ :: _, h => h.elim
  | _ + 1, _ :: _, [], h => h.elim
theorem GrA.drop {H : Hp} : ∀ (n : Nat) {vs : List V} {G : List Rule}, GrA H vs G → GrA H (vs.drop n) (G.drop n)
  | 0, _, _, h => h
  | _ + 1, [], [], _ => True.intro
  | n + 1, _ :: _, _ :: _, h => GrA.drop n h.2
  | _ + 1, [], _ :: _, h => h.elim
  | _ + 1, _ :: _, [], h => h.elim
theorem cut_pre {vs : List V} {n : Nat} (h : n ≤ vs.length) : cutV vs none (some (n : Int)) = vs.take n := by
  unfold cutV
  rw [HT.sIx_nat, HT.sIx_none, Nat.min_eq_left h, List.drop_zero, Nat.sub_zero]
theorem cut_post {vs : List V} {n : Nat} (h : n ≤ vs.length) : cutV vs (some (n : Int)) none = vs.drop n := by
  unfold cutV
  rw [HT.sIx_nat, HT.sIx_none, Nat.min_eq_left h]
  exact List.take_of_length_le (by rw [List.length_drop]; exact Nat.le_refl _)
end Ld

set_option Elab.async false
set_option linter.all false
set_option maxRecDepth 100000
set_option maxHeartbeats 4000000
/-! Signs: a kind, a text, a start; pairs of a kind and a text; how far two lists are alike. -/
namespace Ld
open PySem PySem.Spec PyProof.Rows L2 Lr
structure Sg where
  k : Str
  t : Str
  n : Nat
abbrev Pa : Type := Str × Str
def Sg.pa (s : Sg) : Pa := (s.k, s.t)
def SgA (H : Hp) (v : V) (s : Sg) : Prop := ∃ a, v = .ref a ∧ H a = some (.tup [.str s.k, .str s.t, .int s.n])
def PaA (H : Hp) (v : V) (p : Pa) : Prop := ∃ a, v = .ref a ∧ H a = some (.tup [.str p.1, .str p.2])
theorem SgA.same {A B : Hp} (u : Same A B) (v : V) (s : Sg) (h : SgA A v s) : SgA B v s := let ⟨a, e, q⟩ := h; ⟨a, e, u _ _ q⟩
theorem PaA.same {A B : Hp} (u : Same A B) (v : V) (s : Pa) (h : PaA A v s) : PaA B v s := let ⟨a, e, q⟩ := h; ⟨a, e, u _ _ q⟩
/-- tuples stand -/
def TupS (A B : Hp) : Prop := ∀ b xs, A b = some (.tup xs) → B b = some (.tup xs)
theorem TupS.of_same {A B : Hp} (u : Same A B) : TupS A B := fun b xs e => u b _ e
theorem TupS.trans {A B C : Hp} (u : TupS A B) (v : TupS B C) : TupS A C := fun b xs e => v b xs (u b xs e)
theorem TupS.at_lst {A : Hp} {d : Addr} {ws : List V} {o : HO} (h : A d = some (.lst ws)) : TupS A (upd A d o) := fun b xs e => by
  have ne : b ≠ d := fun z => by rw [z, h] at e; cases e
  rw [upd_ne ne]
  exact e
theorem SgA.tupS {A B : Hp} (u : TupS A B) (v : V) (s : Sg) (h : SgA A v s) : SgA B v s := let ⟨a, e, q⟩ := h; ⟨a, e, u _ _ q⟩
theorem PaA.tupS {A B : Hp} (u : TupS A B) (v : V) (s : Pa) (h : PaA A v s) : PaA B v s := let ⟨a, e, q⟩ := h; ⟨a, e, u _ _ q⟩
/-- a list of signs, of pairs, at an address -/
def SgsA (H : Hp) (a : Addr) (xs : List Sg) : Prop := ∃ vs, H a = some (.lst vs) ∧ Rel2 (SgA H) vs xs
def PasA (H : Hp) (a : Addr) (xs : List Pa) : Prop := ∃ vs, H a = some (.lst vs) ∧ Rel2 (PaA H) vs xs
theorem SgsA.same {A B : Hp} (u : Same A B) {a : Addr} {xs : List Sg} (h : SgsA A a xs) : SgsA B a xs := let ⟨vs, e, q⟩ := h; ⟨vs, u _ _ e, q.mono (SgA.same u)⟩
theorem PasA.same {A B : Hp} (u : Same A B) {a : Addr} {xs : List Pa} (h : PasA A a xs) : PasA B a xs := let ⟨vs, e, q⟩ := h; ⟨vs, u _ _ e, q.mono (PaA.same u)⟩
def sgD (s : Sg) : PyData := .tuple [.str s.k, .str s.t, .int s.n]
def paD (p : Pa) : PyData := .tuple [.str p.1, .str p.2]
def sgsD (xs : List Sg) : PyData := .list (xs.map sgD)
def pasD (xs : List Pa) : PyData := .list (xs.map paD)
theorem SgsA.dp {K : PySem.W.Frag} {H : Hp} {a : Addr} {xs : List Sg} (h : SgsA H a xs) : Dp K H (.ref a) (sgsD xs) := by
  obtain ⟨vs, e, q⟩ := h
  refine .lst (SqL.of e) (q.dp fun v s hs => ?_)
  obtain ⟨b, rfl, hb⟩ := hs
  exact .tup (SqT.of hb) (.cons (.str _) (.cons (.str _) (.cons (.int _) .nil)))
theorem PasA.dp {K : PySem.W.Frag} {H : Hp} {a : Addr} {xs : List Pa} (h : PasA H a xs) : Dp K H (.ref a) (pasD xs) := by
  obtain ⟨vs, e, q⟩ := h
  refine .lst (SqL.of e) (q.dp fun v s hs => ?_)
  obtain ⟨b, rfl, hb⟩ := hs
  exact .tup (SqT.of hb) (.cons (.str _) (.cons (.str _) .nil))
theorem pas_eqv : ∀ xs ys : List Pa, PyData.eqvAll (xs.map paD) (ys.map paD) = decide (xs = ys)
  | [], [] => by simp [PyData.eqvAll]
  | [], _ :: _ => by simp [PyData.eqvAll]
  | _ :: _, [] => by simp [PyData.eqvAll]
  | x :: xs, y :: ys => by
    rw [List.map_cons, List.map_cons, PyData.eqvAll, pas_eqv xs ys, paD, paD, PyData.eqv, PyData.eqvAll, PyData.eqvAll, PyData.eqvAll, PyData.eqv, PyData.eqv, Bool.eq_iff_iff]
    obtain ⟨x1, x2⟩ := x
    obtain ⟨y1, y2⟩ := y
    simp
theorem paD_eqv (x y : Pa) : PyData.eqv (paD x) (paD y) = decide (x = y) := by
  obtain ⟨x1, x2⟩ := x
  obtain ⟨y1, y2⟩ := y
  rw [paD, paD, PyData.eqv, PyData.eqvAll, PyData.eqvAll, PyData.eqvAll, PyData.eqv, PyData.eqv, Bool.eq_iff_iff]
  simp
theorem pasD_eqv (xs ys : List Pa) : PyData.eqv (pasD xs) (pasD ys) = decide (xs = ys) := by
  unfold pasD
  rw [PyData.eqv]
  exact pas_eqv xs ys
/-- the texts of a pair can be laid -/
def PaOk (p : Pa) : Prop := PyData.strOk p.1 = true ∧ PyData.strOk p.2 = true
theorem paD_shaped {p : Pa} (h : PaOk p) : SeqAt.shaped (paD p) = true := shaped_mk (by simp [paD, PyData.canLay0, PyData.canLayAll0, h.1, h.2]) (by simp [paD, PyData.depth, PyData.depthAll])
theorem pas_lay : ∀ {xs : List Pa}, (∀ p ∈ xs, PaOk p) → PyData.canLayAll0 (xs.map paD) = true
  | [], _ => rfl
  | x :: xs, h => by
    rw [List.map_cons, PyData.canLayAll0, pas_lay fun p m => h p (List.mem_cons_of_mem _ m), SeqAt.canLay_of_shaped (paD_shaped (h x List.mem_cons_self))]
    rfl
theorem pas_depth : ∀ xs : List Pa, PyData.depthAll (xs.map paD) ≤ 2
  | [] => by simp [PyData.depthAll]
  | x :: xs => by
    have := pas_depth xs
    simp only [List.map_cons, PyData.depthAll, paD, PyData.depth]
    omega
theorem pasD_shaped {xs : List Pa} (h : ∀ p ∈ xs, PaOk p) : SeqAt.shaped (pasD xs) = true := shaped_mk (by unfold pasD; rw [PyData.canLay0]; exact pas_lay h) (by
  have := pas_depth xs
  simp only [pasD, PyData.depth]
  omega)
/-! ### how far two lists are alike -/
structure Lcp {α : Type} (xs ys : List α) (n : Nat) : Prop where
  l1 : n ≤ xs.length
  l2 : n ≤ ys.length
  eq : xs.take n = ys.take n
  most : ∀ m, m ≤ xs.length → m ≤ ys.length → xs.take m = ys.take m → m ≤ n
theorem Lcp.unique {α : Type} {xs ys : List α} {n m : Nat} (h : Lcp xs ys n) (k : Lcp xs ys m) : n = m := Nat.le_antisymm (k.most n h.l1 h.l2 h.eq) (h.most m k.l1 k.l2 k.eq)
theorem take_le {α : Type} {xs ys : List α} {n m : Nat} (h : xs.take n = ys.take n) (l : m ≤ n) : xs.take m = ys.take m := by
  have := congrArg (List.take m) h
  rwa [List.take_take, List.take_take, Nat.min_eq_left l] at this
theorem Lcp.mk' {α : Type} {xs ys : List α} {n : Nat} (l1 : n ≤ xs.length) (l2 : n ≤ ys.length) (eq : xs.take n = ys.take n) (no : n < xs.length → n < ys.length → xs[n]? ≠ ys[n]?) : Lcp xs ys n :=
  ⟨l1, l2, eq, fun m m1 m2 e => Nat.le_of_not_lt fun lt => no (by omega) (by omega) (by
    have h1 : (xs.take m)[n]? = xs[n]? := List.getElem?_take_of_lt lt
    have h2 : (ys.take m)[n]? = ys[n]? := List.getElem?_take_of_lt lt
    rw [← h1, ← h2, e])⟩
theorem take_more {α : Type} {xs ys : List α} {n : Nat} {x : α} (e : xs.take n = ys.take n) (h1 : xs[n]? = some x) (h2 : ys[n]? = some x) : xs.take (n + 1) = ys.take (n + 1) := by
  rw [List.take_add_one, List.take_add_one, e, h1, h2]
/-- the ends behind the first a -/
theorem rev_take {α : Type} {xs : List α} {a n : Nat} (h : n ≤ xs.length - a) : ((xs.drop a).reverse).take n = (xs.drop (xs.length - n)).reverse := by
  rw [List.take_reverse, List.length_drop, List.drop_drop]
  by_cases ha : a ≤ xs.length
  · rw [show a + (xs.length - a - n) = xs.length - n by omega]
  · rw [show n = 0 by omega, List.drop_of_length_le (by omega), List.drop_of_length_le (by omega)]
end Ld

set_option Elab.async false
set_option linter.all false
set_option maxRecDepth 100000
set_option maxHeartbeats 4000000
/-! The program's sums and least ones of costs. -/
namespace Ld
open PySem PySem.Spec PyProof.Rows L2 Lg Lr Lb
def addO : Option Cost → Option Cost → Option Cost
  | some a, some b => some (a.1 + b.1, a.2 + b.2)
  | _, _ => none
def leastO (os : List (Option Cost)) : Option Cost := match os.filterMap id with
  | [] => none
  | c :: cs => some (minL c cs)
theorem leastO_mem {os : List (Option Cost)} {c : Cost} (h : leastO os = some c) : some c ∈ os := by
  unfold leastO at h
  have mem : ∀ x ∈ os.filterMap id, some x ∈ os := fun x hx => by
    obtain ⟨y, hy, e⟩ := List.mem_filterMap.mp hx
    have e : y = some x := e
    rw [← e]; exact hy
  cases e : os.filterMap id with
  | nil => rw [e] at h; cases h
  | cons d ds =>
    rw [e] at h mem
    have h := Option.some.inj h
    rcases minL_mem ds d with q | q
    · rw [← h, q]; exact mem d List.mem_cons_self
    · rw [← h]; exact mem _ (List.mem_cons_of_mem _ q)
theorem leastO_le {os : List (Option Cost)} {c : Cost} (h : some c ∈ os) : ∃ d, leastO os = some d ∧ cle d c := by
  have m : c ∈ os.filterMap id := List.mem_filterMap.mpr ⟨some c, h, rfl⟩
  unfold leastO
  cases e : os.filterMap id with
  | nil => rw [e] at m; cases m
  | cons d ds =>
    rw [e] at m
    obtain ⟨h1, h2⟩ := minL_le ds d
    refine ⟨_, rfl, ?_⟩
    rcases List.mem_cons.mp m with q | q
    · rw [q]; exact h1
    · exact h2 c q
theorem CostV.non {H : Hp} {v : V} {o : Option Cost} (h : CostV H v o) : decide (v = V.non) = o.isNone := by
  cases o with
  | none =>
    have h : v = V.non := h
    rw [h]; rfl
  | some c =>
    obtain ⟨t, e, _⟩ := h
    rw [e]
    exact decide_eq_false fun z => by cases z
theorem CostV.tupS {A B : Hp} (u : TupS A B) {v : V} : ∀ {o : Option Cost}, CostV A v o → CostV B v o
  | none, h => h
  | some _, ⟨t, e, h⟩ => ⟨t, e, u _ _ h⟩
theorem CostV.same {A B : Hp} (u : Same A B) {v : V} {o : Option Cost} (h : CostV A v o) : CostV B v o := h.up (Up.of_same u)
section
variable {P : Program} {w : World} {K : PySem.W.Frag} {mg : Str → Option Value} {base : Heap}
theorem scAd : FnScope ["one", "two"] ["one", "two"] (defScope s_added) := ⟨rfl, rfl, rfl, by decide +kernel, rfl, by decide +kernel, by decide +kernel⟩
theorem scLs : FnScope ["costs", "cost"] ["costs"] (defScope s_least) := ⟨rfl, rfl, rfl, by decide +kernel, rfl, by decide +kernel, by decide +kernel⟩
def spAd : Sp := fun vs H Q _ => ∃ (x y : V) (a b : Option Cost), vs = [x, y] ∧ CostV H x a ∧ CostV H y b ∧ ∀ v H2, Same H H2 → CostV H2 v (addO a b) → Q v H2
theorem ok_ad {f : Addr} {fd : FuncData} (F : Fun K "added" "added" s_added f fd) : FnOk P w K mg base CX0 1 f fd ["one", "two"] spAd := by
  refine F.ok scAd (fun vs H Q E h => ?_) (fun cdv A outer s H vs Q E hr h => ?_)
  · obtain ⟨x, y, a, b, rfl, _⟩ := h
    rfl
  · obtain ⟨x, y, a, b, rfl, hx, hy, q⟩ := h
    refine ⟨_, pss_cons (ps_if (PW.pt (pw_or (pt_cmpR op_isN (pv 0) pe_non (nomark _)) (pw_or1 (pt_cmpR op_isN (pv 1) pe_non (nomark _))))) (pss_one (ps_ret pe_non)) pss_nil)
      (pss_one (ps_ret (pe_tup (pa_cons (pe_op op_add (pe_ix ix_tup (pv 0) pe_int (fun _ _ => rfl)) (pe_ix ix_tup (pv 1) pe_int (fun _ _ => rfl))) (pa_cons (pe_op op_add (pe_ix ix_tup (pv 0) pe_int (fun _ _ => rfl)) (pe_ix ix_tup (pv 1) pe_int (fun _ _ => rfl))) pa_nil))))), ?_⟩
    refine ⟨_, rfl, rfl, _, rfl, ?_⟩
    rw [hx.non]
    cases a with
    | none => exact iteT (q _ H (Same.refl H) rfl)
    | some a =>
      refine iteF ⟨_, rfl, rfl, _, rfl, ?_⟩
      rw [hy.non]
      cases b with
      | none => exact iteT (q _ H (Same.refl H) rfl)
      | some b =>
        obtain ⟨t, rfl, ht⟩ := hx
        obtain ⟨u, rfl, hu⟩ := hy
        refine iteF ⟨_, rfl, t, _, _, _, rfl, rfl, SqT.of ht, at_of (j := 0) rfl rfl, _, rfl, u, _, _, _, rfl, rfl, SqT.of hu, at_of (j := 0) rfl rfl, _, _, rfl, rfl, ?_⟩
        refine ⟨_, rfl, t, _, _, _, rfl, rfl, SqT.of ht, at_of (j := 1) rfl rfl, _, rfl, u, _, _, _, rfl, rfl, SqT.of hu, at_of (j := 1) rfl rfl, _, _, rfl, rfl, (by show 2 ≤ sizeLine; decide), fun p np => ?_⟩
        exact q _ _ (same_upd np) ⟨p, rfl, upd_same⟩
def spLs : Sp := fun vs H Q _ => ∃ (a : Addr) (ws : List V) (os : List (Option Cost)), vs = [.ref a] ∧ H a = some (.lst ws) ∧ Rel2 (CostV H) ws os ∧ os.length ≤ 1000 ∧ ∀ v H2, Same H H2 → CostV H2 v (leastO os) → Q v H2
theorem ok_ls {f : Addr} {fd : FuncData} (F : Fun K "least" "least" s_least f fd) (mm : mg "min" = none) : FnOk P w K mg base CX0 1 f fd ["costs"] spLs := by
  refine F.ok scLs (fun vs H Q E h => ?_) (fun cdv A outer s H vs Q E hr h => ?_)
  · obtain ⟨a, ws, os, rfl, _⟩ := h
    rfl
  · obtain ⟨a, ws, os, rfl, ha, rel, few, q⟩ := h
    refine ⟨_, pss_one (ps_ret (pe_callBK (cr_minDf rfl (units64 hr)) (by rfl) mm (by decide +kernel) (pa_cons
      (pe_lc (own := [("cost", 1)]) (g := gName 1) rfl scLs.nd (pi_list (pv 0)) (blkOk_by (N := ["costs", "cost"]) (sc := defScope s_least) (by decide +kernel)) (fun _ _ _ _ _ => pg_name (i := 1) scLs.nd rfl (Or.inl rfl))
        (fun _ _ _ _ _ => pts_one (pt_cmpR op_notN (pv 1) pe_non (nomark _))) (fun _ _ _ _ _ => pv 1)) pa_nil) (pk_cons pe_non pk_nil))), ?_⟩
    refine ⟨_, rfl, a, rfl, ⟨_, SqL.of ha⟩, fun D hD => lc_list (a := a) (xs := ws) (fun n H' => ∃ us, Same H H' ∧ H' D = some (.lst us) ∧ Rel2 (fun v c => CostV H' v (some c)) us ((os.take n).filterMap id)) ⟨[], same_upd hD, upd_same, True.intro⟩ (fun n H' _ ⟨_, s', _⟩ => SqL.of (s' _ _ ha)) ?_ ?_⟩
    · rintro n x H' hx ⟨us, s', hd, rr⟩
      obtain ⟨o, ho, hv⟩ := rel.get hx
      have hv := hv.same s'
      have step : (os.take (n + 1)).filterMap id = (os.take n).filterMap id ++ (o.toList) := by
        rw [List.take_add_one, ho, List.filterMap_append]
        cases o <;> rfl
      have len := rr.len
      refine ⟨rfl, _, rfl, rfl, _, rfl, ?_⟩
      rw [hv.non]
      have fl : ((os.take n).filterMap id).length ≤ 1000 := Nat.le_trans (List.length_filterMap_le _ _) (Nat.le_trans (List.length_take_le' _ _) few)
      cases o with
      | none =>
        rw [show (none : Option Cost).toList = [] from rfl, List.append_nil] at step
        exact iteF ⟨us, s', hd, by rw [step]; exact rr⟩
      | some c =>
        refine iteT ⟨_, rfl, us, hd, ?_, us ++ [x], same_put s' hD, upd_same, ?_⟩
        · rw [len]
          exact million1 (Nat.le_trans fl (by decide))
        · rw [step]
          exact (rr.mono fun v c h => CostV.tupS (.at_lst hd) h).snoc (CostV.tupS (.at_lst hd) hv)
    · rintro H2 ⟨us, s2, hd, rr⟩
      rw [rel.len, List.take_length] at rr
      refine ⟨D, us, _, rfl, rfl, SqL.of hd, rr, fun e => q _ H2 s2 ?_, fun c r v e cv => q v H2 s2 ?_⟩
      · unfold leastO
        rw [e]
        rfl
      · unfold leastO
        rw [e]
        exact cv
end
end Ld

set_option Elab.async false
set_option linter.all false
set_option maxRecDepth 100000
set_option maxHeartbeats 4000000
namespace Ld
open PySem PySem.Spec PyProof.Rows L2 Lg Lr Lb
/-- the costs of the symbols of ss in a dict -/
def OverA (H : Hp) (d : Addr) (ss : List Str) (o : Str → Option Cost) : Prop := ∃ kvs, H d = some (.dK kvs) ∧ ∀ s ∈ ss, ∃ v, valV kvs (Sum.inr s) = some v ∧ CostV H v (o s)
theorem OverA.same {A B : Hp} (u : Same A B) {d : Addr} {ss : List Str} {o : Str → Option Cost} (h : OverA A d ss o) : OverA B d ss o := by
  obtain ⟨kvs, e, q⟩ := h
  refine ⟨kvs, u _ _ e, fun s hs => ?_⟩
  obtain ⟨v, ev, cv⟩ := q s hs
  exact ⟨v, ev, cv.same u⟩
theorem OverA.sub {H : Hp} {d : Addr} {ss ts : List Str} {o : Str → Option Cost} (h : OverA H d ss o) (m : ∀ s ∈ ts, s ∈ ss) : OverA H d ts o := by
  obtain ⟨kvs, e, q⟩ := h
  exact ⟨kvs, e, fun s hs => q s (m s hs)⟩
/-- the rests of a rule over nothing, the last one first -/
def backN (o : Str → Option Cost) : List Str → List (Option Cost) → List (Option Cost)
  | [], acc => acc
  | s :: r, acc => backN o r (acc ++ [addO (o s) (acc.getLastD none)])
def restsN (o : Str → Option Cost) : List Str → List (Option Cost)
  | [] => [some (0, 0)]
  | s :: r => addO (o s) ((restsN o r).headD none) :: restsN o r
theorem backN_app (o : Str → Option Cost) : ∀ (a b : List Str) (acc : List (Option Cost)), backN o (a ++ b) acc = backN o b (backN o a acc)
  | [], _, _ => rfl
  | s :: a, b, acc => backN_app o a b _
theorem restsN_ne (o : Str → Option Cost) : ∀ ss : List Str, restsN o ss ≠ []
  | [] => by simp [restsN]
  | _ :: _ => by simp [restsN]
theorem head_last {α : Type} (l : List α) (d : α) : l.reverse.getLastD d = l.headD d := by
  cases l with
  | nil => rfl
  | cons x r =>
    rw [List.reverse_cons, List.getLastD_concat]
    rfl
theorem back_rests (o : Str → Option Cost) : ∀ ss : List Str, backN o ss.reverse [some (0, 0)] = (restsN o ss).reverse
  | [] => rfl
  | s :: r => by
    rw [List.reverse_cons, backN_app, back_rests o r]
    show (restsN o r).reverse ++ [addO (o s) ((restsN o r).reverse.getLastD none)] = _
    rw [head_last]
    show _ = (addO (o s) ((restsN o r).headD none) :: restsN o r).reverse
    rw [List.reverse_cons]
theorem backN_len (o : Str → Option Cost) : ∀ (ss : List Str) (acc : List (Option Cost)), (backN o ss acc).length = acc.length + ss.length
  | [], _ => rfl
  | s :: r, acc => by
    show (backN o r _).length = _
    rw [backN_len o r, List.length_append, List.length_cons, List.length_cons, List.length_nil]
    omega
theorem backN_next (o : Str → Option Cost) {L : List Str} {n : Nat} {s : Str} (h : L[n]? = some s) (acc : List (Option Cost)) : backN o (L.take (n + 1)) acc = backN o (L.take n) acc ++ [addO (o s) ((backN o (L.take n) acc).getLastD none)] := by
  rw [List.take_add_one, h, backN_app]
  rfl
theorem at_neg {xs : List V} {k : Nat} {v : V} (h : xs.length = k + 1) (e : xs[k]? = some v) : atI xs (-1) = some v := by
  unfold atI ixN
  rw [h, if_neg (by decide)]
  have e1 : (-1 + ((k + 1 : Nat) : Int)).toNat = k := by omega
  split
  · simp only [Option.bind_some]
    first
      | rw [e1]; exact e
      | (have e2 : (((k + 1 : Nat) : Int) + -1).toNat = k := by omega
         rw [e2]; exact e)
  · rename_i c
    exact absurd (by omega) c
theorem last_get {α : Type} {L : List α} {d x : α} {k : Nat} (h : L.length = k + 1) (e : L[k]? = some x) : L.getLastD d = x := by
  rw [List.getLastD_eq_getLast?, List.getLast?_eq_getElem?, h]
  show (L[k]?).getD d = x
  rw [e]
  rfl
section
variable {P : Program} {w : World} {K : PySem.W.Frag} {mg : Str → Option Value} {base : Heap}
theorem scRn : FnScope ["symbols", "over", "rests", "symbol"] ["symbols", "over"] (defScope s__rests_over_nothing) := ⟨rfl, rfl, rfl, by decide +kernel, rfl, by decide +kernel, by decide +kernel⟩
def spRn : Sp := fun vs H Q _ => ∃ (l d : Addr) (ss : List Str) (o : Str → Option Cost), vs = [.ref l, .ref d] ∧ H l = some (.lst (ss.map V.str)) ∧ ss.length ≤ 100 ∧ OverA H d ss o ∧
  ∀ p ws H2, Same H H2 → H p = none → H2 p = some (.lst ws) → Rel2 (CostV H2) ws (restsN o ss) → Q (.ref p) H2
theorem ok_rn {f fA : Addr} {fd fdA : FuncData} (F : Fun K "_rests_over_nothing" "_rests_over_nothing" s__rests_over_nothing f fd)
    (GA : FnOk P w K mg base CX0 1 fA fdA ["one", "two"] spAd) (kA : PySem.W.keepIn K (.ref fA) = true) (bA : Binds K fdA ["one", "two"] []) (gA : mg "added" = some (.ref fA)) : FnOk P w K mg base CX0 2 f fd ["symbols", "over"] spRn := by
  refine F.ok scRn (fun vs H Q E h => ?_) (fun cdv A outer s H vs Q E hr h => ?_)
  · obtain ⟨l, d, ss, o, rfl, _⟩ := h
    rfl
  · obtain ⟨l, d, ss, o, rfl, hl, few, ov, q⟩ := h
    refine ⟨_, pss_cons (ps_set (i := 2) scRn.nd rfl (.inl rfl) (pe_lst (pa_cons (pe_tup (pa_cons pe_int (pa_cons pe_int pa_nil))) pa_nil)))
      (pss_cons (ps_for PassesOwn.never rfl (pi_list (pe_revL (pv 0))) (pg_name (i := 3) scRn.nd rfl (.inl rfl))
        (pss_one (ps_expr (pe_bm PySem.F.plainAttrs_list PySem.F.slot_list_append PySem.F.type_list_append mt_append (pv 2) (pa_cons
          (pe_call GA hr (by rfl) gA kA bA .nil pass0 (pa_cons (pe_dget (units1 hr) (pv 1) (pv 3) (fun _ _ => rfl)) (pa_cons (pe_ix ix_list (pv 2) (pe_un un_neg pe_int) (fun _ _ => rfl)) pa_nil))) pa_nil)))))
      (pss_one (ps_ret (pe_revL (pv 2))))), ?_⟩
    refine ⟨(by show 2 ≤ sizeLine; decide), fun z nz => ?_⟩
    have s0 : Same H (upd H z (.tup [.int 0, .int 0])) := same_upd nz
    have hz : upd H z (.tup [.int 0, .int 0]) z = some (.tup [.int 0, .int 0]) := upd_same
    show _
    generalize hA0 : upd H z (.tup [.int 0, .int 0]) = A0 at s0 hz
    try simp only [hA0]
    refine ⟨(by show 1 ≤ sizeLine; decide), fun p np => ?_⟩
    have s1 : Same A0 (upd A0 p (.lst [.ref z])) := same_upd np
    have hp : upd A0 p (.lst [.ref z]) p = some (.lst [.ref z]) := upd_same
    generalize upd A0 p (.lst [.ref z]) = A1 at s1 hp
    have s01 := s0.trans s1
    refine ⟨_, rfl, l, _, rfl, SqL.of (s01 _ _ hl), fun r nr => ?_⟩
    have s2 : Same A1 (upd A1 r (.lst (ss.map V.str).reverse)) := same_upd nr
    have hr' : upd A1 r (.lst (ss.map V.str).reverse) r = some (.lst (ss.map V.str).reverse) := upd_same
    generalize upd A1 r (.lst (ss.map V.str).reverse) = A2 at s2 hr'
    have pr : p ≠ r := ne_of_none hp nr
    refine ⟨r, rfl, ⟨_, SqL.of hr'⟩, for_list (a := r) (xs := (ss.map V.str).reverse) (fun n σ H' => ∃ (v3 : Option V) (ws : List V), σ = [some (.ref l), some (.ref d), some (.ref p), v3] ∧ Same A0 H' ∧ H' r = some (.lst (ss.map V.str).reverse) ∧ H' p = some (.lst ws) ∧ Rel2 (CostV H') ws (backN o (ss.reverse.take n) [some (0, 0)]))
      ⟨none, [.ref z], rfl, s1.trans s2, hr', s2 _ _ hp, ⟨⟨z, rfl, s2 _ _ (s1 _ _ hz)⟩, True.intro⟩⟩ (fun n σ H' _ ⟨_, _, _, _, h, _⟩ => SqL.of h) ?_ ?_⟩
    · rintro n x σ H' hx ⟨v3, ws, rfl, s', hrr, hpp, rel⟩
      have hx : (ss.reverse.map V.str)[n]? = some x := by rw [List.map_reverse]; exact hx
      obtain ⟨y, hy, rfl⟩ := str_at hx
      have ym : y ∈ ss := List.mem_reverse.mp (List.mem_of_getElem? hy)
      obtain ⟨kvs, hd, cost⟩ := (ov.same s0).same s'
      obtain ⟨v, hv, cv⟩ := cost y ym
      have len := rel.len
      have blen := backN_len o (ss.reverse.take n) [some (0, 0)]
      have tl : (ss.reverse.take n).length ≤ 100 := Nat.le_trans (List.length_take_le' _ _) (by rw [List.length_reverse]; exact few)
      have blen : (backN o (ss.reverse.take n) [some (0, 0)]).length = (ss.reverse.take n).length + 1 := by rw [blen, List.length_singleton]; omega
      have nx := backN_next o hy [some (0, 0)]
      generalize backN o (ss.reverse.take n) [some (0, 0)] = L at rel len blen nx
      rw [nx]
      generalize (ss.reverse.take n).length = k at tl blen
      obtain ⟨c, hc⟩ : ∃ c, L[k]? = some c := ⟨L[k]'(by omega), List.getElem?_eq_getElem (by omega)⟩
      obtain ⟨x, hx2, cx⟩ := rel.at hc
      rw [last_get blen hc]
      have gd := DGet.k (k := Sum.inr y) hd
      rw [hv] at gd
      refine ⟨_, rfl, .inl ⟨rfl, _, SqL.of hpp⟩, ?_⟩
      refine ⟨_, rfl, _, rfl, d, v, rfl, gd, _, rfl, 1, rfl, p, ws, -1, x, rfl, rfl, SqL.of hpp, at_neg (len.trans blen) hx2, ?_⟩
      refine ⟨v, x, o y, c, rfl, cv, cx, fun u H2 s3 cu => ?_⟩
      have hp3 := s3 _ _ hpp
      refine ⟨p, ws, u, rfl, rfl, hp3, million1 (by rw [len, blen]; omega), some (.str y), ws ++ [u], rfl, fun b ob e => ?_, ?_, upd_same, ?_⟩
      · have nb : b ≠ p := ne_of_none e np
        rw [upd_ne nb]
        exact s3 _ _ (s' _ _ e)
      · rw [upd_ne (Ne.symm pr)]
        exact s3 _ _ hrr
      · exact (rel.mono fun v c h => CostV.tupS (.at_lst hp3) (h.same s3)).snoc (CostV.tupS (.at_lst hp3) cu)
    · rintro σ H' ⟨v3, ws, rfl, s', hrr, hpp, rel⟩
      have tk : ss.reverse.take ((ss.map V.str).reverse.length) = ss.reverse := List.take_of_length_le (by simp)
      rw [tk, back_rests] at rel
      have sH := s0.trans s'
      refine ⟨_, rfl, p, ws, rfl, SqL.of hpp, fun p2 np2 => ?_⟩
      refine q p2 ws.reverse _ (sH.trans (same_upd np2)) (sH.free np2) upd_same ?_
      have z : Same H' (upd H' p2 (.lst ws.reverse)) := same_upd np2
      have := (rel.mono fun v c h => CostV.same z h).reverse
      rw [List.reverse_reverse] at this
      exact this
end
end Ld

set_option Elab.async false
set_option linter.all false
set_option maxRecDepth 100000
set_option maxHeartbeats 4000000
/-! A walk by what holds ahead of each turn, whatever the turn does. -/
namespace Lc2
open PySem PySem.Spec PyProof.Rows L2
theorem turns_by {J : It} {n : Nat} {G : Hp → Prop} {Y : Nat → Hp → V → Hp → Prop} {body : V → Hp → (Hp → Prop) → Prop} {Dn : Hp → Prop} (w : L2.Walk J n G Y) (Pv : Nat → Hp → Prop) {H0 : Hp} (h0 : Pv 0 H0) (hG : ∀ i H, i ≤ n → Pv i H → G H)
    (hs : ∀ i x H H', i < n → Pv i H → Y i H x H' → body x H' (Pv (i + 1))) (hd : ∀ H, Pv n H → Dn H) :
    ∃ W : Nat → Nat → Hp → Prop, (∃ m, W 0 m H0) ∧ ∀ i m H, W i m H → (J.stop i H ∧ Dn H) ∨ (J.go i H ∧ ∃ Nx : Hp → Prop, (∀ H', Nx H' → ∃ m', m' < m ∧ W (i + 1) m' H') ∧ ∀ x H', J.yld i H x H' → body x H' Nx) := by
  refine ⟨fun i m H => m = n - i ∧ i ≤ n ∧ Pv i H, ⟨n, rfl, Nat.zero_le _, h0⟩, ?_⟩
  rintro i m H ⟨rfl, hi, p⟩
  have st := hG i H hi p
  rcases Nat.lt_or_eq_of_le hi with lt | rfl
  · exact .inr ⟨w.goes i H lt st, Pv (i + 1), fun H' p' => ⟨n - (i + 1), by omega, rfl, lt, p'⟩, fun x H' y => hs i x H H' lt p (w.yields i H x H' lt st y)⟩
  · exact .inl ⟨w.stops H st, hd H p⟩
end Lc2

set_option Elab.async false
set_option linter.all false
set_option maxRecDepth 100000
set_option maxHeartbeats 4000000
namespace Ld
open PySem PySem.Spec PyProof.Rows L2 Lg Lr Lb
/-! ### shorter stretches first -/
def ofLen (n k : Nat) : List (Nat × Nat) := (List.range (n - k + 1)).map fun i => (i, i + k)
def shorter (n : Nat) : List (Nat × Nat) := (List.range (n + 1)).flatMap (ofLen n)
def StA (H : Hp) (v : V) (p : Nat × Nat) : Prop := ∃ a, v = .ref a ∧ H a = some (.tup [.int p.1, .int p.2])
theorem StA.tupS {A B : Hp} (u : TupS A B) (v : V) (p : Nat × Nat) (h : StA A v p) : StA B v p := let ⟨a, e, q⟩ := h; ⟨a, e, u _ _ q⟩
theorem ofLen_len (n k : Nat) : (ofLen n k).length = n - k + 1 := by unfold ofLen; rw [List.length_map, List.length_range]
theorem shorter_next (n i : Nat) : (List.range (i + 1)).flatMap (ofLen n) = (List.range i).flatMap (ofLen n) ++ ofLen n i := by
  rw [List.range_succ, List.flatMap_append]
  simp
theorem shorter_len (n : Nat) : ∀ i, ((List.range i).flatMap (ofLen n)).length ≤ i * (n + 1)
  | 0 => by simp
  | i + 1 => by
    have := shorter_len n i
    rw [shorter_next, List.length_append, ofLen_len, Nat.succ_mul]
    omega
section
variable {P : Program} {w : World} {K : PySem.W.Frag} {mg : Str → Option Value} {base : Heap}
theorem scSh : FnScope ["many", "length", "i"] ["many"] (defScope s_shorter_first) := ⟨rfl, rfl, rfl, by decide +kernel, rfl, by decide +kernel, by decide +kernel⟩
def spSh : Sp := fun vs H Q _ => ∃ n : Nat, vs = [.int n] ∧ n ≤ 60 ∧ ∀ p ws H2, Same H H2 → H p = none → H2 p = some (.lst ws) → Rel2 (StA H2) ws (shorter n) → Q (.ref p) H2
theorem ok_sh {f : Addr} {fd : FuncData} (F : Fun K "shorter_first" "shorter_first" s_shorter_first f fd) (mr : mg "range" = none) : FnOk P w K mg base CX0 1 f fd ["many"] spSh := by
  refine F.ok scSh (fun vs H Q E h => ?_) (fun cdv A outer s H vs Q E hr h => ?_)
  · obtain ⟨n, rfl, _⟩ := h
    rfl
  · obtain ⟨n, rfl, few, q⟩ := h
    refine ⟨_, pss_one (ps_ret (pe_lc2 (own := [("length", 1), ("i", 2)]) (vs1 := [2]) (g := gName 1) (g1 := gName 2) rfl scSh.nd (pi_range1 rfl mr (pa_cons (pe_op op_add (pv 0) pe_int) pa_nil))
      (blkOk_by (N := ["many", "length", "i"]) (sc := defScope s_shorter_first) (by decide +kernel)) (by decide)
      (fun _ _ _ _ _ => pg_name (i := 1) scSh.nd rfl (Or.inl rfl)) (fun _ _ _ _ _ => pts_nil)
      (fun _ _ _ _ _ => pi_range1 rfl mr (pa_cons (pe_op op_add (pe_op op_sub (pv 0) (pv 1)) pe_int) pa_nil)) (fun _ _ _ _ _ => pg_name (i := 2) scSh.nd rfl (Or.inl rfl)) (fun _ _ _ _ _ => pts_nil)
      (fun _ _ _ _ _ => pe_tup (pa_cons (pv 2) (pa_cons (pe_op op_add (pv 2) (pv 1)) pa_nil))))), ?_⟩
    refine ⟨_, rfl, _, _, rfl, rfl, (n : Int) + 1, rfl, by omega, by omega, fun D hD => ?_⟩
    refine Lc2.turns_by (walk_range (lo := 0) (n := ((n : Int) + 1).toNat)) (fun i H' => ∃ ws, Same H H' ∧ H' D = some (.lst ws) ∧ Rel2 (StA H') ws ((List.range i).flatMap (ofLen n))) ⟨[], same_upd hD, upd_same, True.intro⟩ (fun _ _ _ _ => True.intro) ?_ ?_
    · rintro i x H' H'' hi ⟨ws, s', hd, rel⟩ ⟨rfl, rfl⟩
      have hi : i < n + 1 := by omega
      refine ⟨rfl, ?_⟩
      unfold tYes
      simp only [if_true]
      refine ⟨_, rfl, _, rfl, _, _, rfl, rfl, _, _, rfl, rfl, (n : Int) - (0 + (i : Int)) + 1, rfl, by omega, by omega, ?_⟩
      have ec : ((n : Int) - (0 + (i : Int)) + 1).toNat = n - i + 1 := by omega
      rw [ec]
      refine Lc2.turns_by (walk_range (lo := 0) (n := n - i + 1)) (fun k H2 => ∃ us, Same H H2 ∧ H2 D = some (.lst us) ∧ Rel2 (StA H2) us ((List.range i).flatMap (ofLen n) ++ (List.range k).map fun a => (a, a + i))) ⟨ws, s', hd, by simpa using rel⟩ (fun _ _ _ _ => True.intro) ?_ ?_
      · rintro k x Ha Hb hk ⟨us, s2, hd2, rr⟩ ⟨rfl, rfl⟩
        refine ⟨rfl, ?_⟩
        simp only [if_true]
        refine ⟨_, rfl, _, rfl, _, rfl, _, _, rfl, rfl, (by show 2 ≤ sizeLine; decide), fun t nt => ?_⟩
        have e : (.tup [.int (0 + (k : Int)), .int (0 + (k : Int) + (0 + (i : Int)))] : HO) = .tup [.int (k : Nat), .int ((k + i : Nat) : Int)] := by
          rw [Int.zero_add, Int.zero_add, Int.natCast_add]
        have st : Same Hb (upd Hb t (.tup [.int (0 + (k : Int)), .int (0 + (k : Int) + (0 + (i : Int)))])) := same_upd nt
        have ht : upd Hb t (.tup [.int (0 + (k : Int)), .int (0 + (k : Int) + (0 + (i : Int)))]) t = some (.tup [.int (k : Nat), .int ((k + i : Nat) : Int)]) := upd_same.trans (congrArg some e)
        have len := rr.len
        have l1 := shorter_len n i
        have l2 : i * (n + 1) ≤ 60 * 61 := Nat.mul_le_mul (by omega) (by omega)
        refine ⟨us, st _ _ hd2, ?_, us ++ [.ref t], same_put (s2.trans st) hD, upd_same, ?_⟩
        · rw [len, List.length_append, List.length_map, List.length_range]
          exact million1 (by omega)
        · have ex : (List.range (k + 1)).map (fun a => (a, a + i)) = (List.range k).map (fun a => (a, a + i)) ++ [(k, k + i)] := by rw [List.range_succ, List.map_append]; rfl
          rw [ex, ← List.append_assoc]
          exact (rr.mono (StA.tupS ((TupS.of_same st).trans (.at_lst (st _ _ hd2))))).snoc ⟨t, rfl, (TupS.at_lst (st _ _ hd2)) _ _ ht⟩
      · rintro H2 ⟨us, s2, hd2, rr⟩
        exact ⟨us, s2, hd2, by rw [shorter_next]; exact rr⟩
    · rintro H' ⟨ws, s', hd, rel⟩
      have e : ((n : Int) + 1).toNat = n + 1 := by omega
      rw [e] at rel
      exact q D ws H' s' hD hd rel
end
end Ld

set_option Elab.async false
set_option linter.all false
set_option maxRecDepth 100000
set_option maxHeartbeats 4000000
namespace Ld
open PySem PySem.Spec PyProof.Rows L2 Lg Lr Lb
section
variable {P : Program} {w : World} {K : PySem.W.Frag} {mg : Str → Option Value} {base : Heap}
/-! ### names_of -/
theorem scNm : FnScope ["grammar", "names", "name", "symbols"] ["grammar"] (defScope s_names_of) := ⟨rfl, rfl, rfl, by decide +kernel, rfl, by decide +kernel, by decide +kernel⟩
def nmStep (ns : List Str) (r : Rule) : List Str := if r.1 ∈ ns then ns else ns ++ [r.1]
def namesOf (G : List Rule) : List Str := G.foldl nmStep []
theorem inV_strs (n : Str) (ns : List Str) : inV (V.str n) (ns.map V.str) = decide (n ∈ ns) := by
  unfold inV
  rw [Bool.eq_iff_iff, List.any_eq_true, decide_eq_true_eq]
  constructor
  · rintro ⟨y, hy, e⟩
    obtain ⟨m, hm, rfl⟩ := List.mem_map.mp hy
    have : m = n := by simpa [eqV] using e
    rw [← this]
    exact hm
  · intro h
    exact ⟨V.str n, List.mem_map.mpr ⟨n, h, rfl⟩, by simp [eqV]⟩
theorem flat_strs (ns : List Str) : (ns.map V.str).all flatV = true := by
  rw [List.all_eq_true]
  intro x hx
  obtain ⟨m, _, rfl⟩ := List.mem_map.mp hx
  rfl
theorem fold_len : ∀ (G : List Rule) (ns : List Str), (G.foldl nmStep ns).length ≤ ns.length + G.length
  | [], ns => by simp
  | r :: G, ns => by
    have := fold_len G (nmStep ns r)
    have h2 : (nmStep ns r).length ≤ ns.length + 1 := by
      unfold nmStep
      split
      · omega
      · simp
    rw [List.foldl_cons, List.length_cons]
    omega
theorem fold_take {G : List Rule} {i : Nat} {r : Rule} (h : G[i]? = some r) : (G.take (i + 1)).foldl nmStep [] = nmStep ((G.take i).foldl nmStep []) r := by
  rw [List.take_add_one, h, List.foldl_append]
  rfl
def spNames : Sp := fun vs H Q _ => ∃ (g : Addr) (G : List Rule), vs = [.ref g] ∧ GraA H g G ∧ G.length ≤ 40 ∧ ∀ p H2, Same H H2 → H p = none → H2 p = some (.lst ((namesOf G).map V.str)) → Q (.ref p) H2
theorem ok_names {f : Addr} {fd : FuncData} (F : Fun K "names_of" "names_of" s_names_of f fd) : FnOk P w K mg base CX0 1 f fd ["grammar"] spNames := by
  refine F.ok scNm (fun vs H Q E h => ?_) (fun cdv A outer s H vs Q E hr h => ?_)
  · obtain ⟨g, G, rfl, _⟩ := h
    rfl
  · obtain ⟨g, G, rfl, hG, hlen, q⟩ := h
    refine ⟨_, pss_cons (ps_set (i := 1) scNm.nd rfl (.inl rfl) (pe_lst pa_nil))
      (pss_cons (ps_for PassesOwn.never rfl (pi_list (pv 0)) (pg_tup rfl (pgs_cons (pg_name (i := 2) scNm.nd rfl (Or.inl rfl)) (pgs_cons (pg_name (i := 3) scNm.nd rfl (Or.inl rfl)) pgs_nil)))
        (pss_one (ps_if (pt_cmpR op_notIn_seq (pv 2) (pv 1) rfl) (pss_one (ps_expr (pe_bm PySem.F.plainAttrs_list PySem.F.slot_list_append PySem.F.type_list_append mt_append (pv 1) (pa_cons (pv 2) pa_nil)))) pss_nil)))
      (pss_one (ps_ret (pv 1)))), ?_⟩
    obtain ⟨vs, hg, gr⟩ := hG
    refine ⟨Nat.zero_le _, fun p np => ?_⟩
    have hg1 : ∀ G2 : HO, upd H p G2 g = some (.lst vs) := fun G2 => by rw [upd_ne (ne_of_none hg np)]; exact hg
    refine ⟨_, rfl, g, rfl, ⟨_, SqL.of (hg1 _)⟩, for_list (a := g) (xs := vs) (fun i σ H' => ∃ v2 v3, σ = [some (.ref g), some (.ref p), v2, v3] ∧ H' = upd H p (.lst (((G.take i).foldl nmStep []).map V.str))) ⟨none, none, rfl, rfl⟩ ?_ ?_ ?_⟩
    · rintro i σ H' _ ⟨v2, v3, rfl, rfl⟩
      exact SqL.of (hg1 _)
    · rintro i x σ H' hx ⟨v2, v3, rfl, rfl⟩
      obtain ⟨r, hr2, ra⟩ := gr.get hx
      obtain ⟨tt, l, rfl, h1, h2⟩ := ra
      have h1' : upd H p (.lst (((G.take i).foldl nmStep []).map V.str)) tt = some (.tup [.str r.1, .ref l]) := by
        rw [upd_ne (ne_of_none h1 np)]
        exact h1
      have e := fold_take hr2
      have hl := fold_len (G.take i) []
      have ht : (G.take i).length ≤ 40 := Nat.le_trans (List.length_take_le' _ _) hlen
      generalize (G.take i).foldl nmStep [] = ns at e hl h1'
      refine ⟨tt, _, rfl, SqT.of h1', rfl, _, _, rfl, _, _, rfl, rfl, ?_⟩
      refine ⟨_, rfl, _, rfl, p, _, rfl, .inl (SqL.of upd_same), rfl, flat_strs ns, _, rfl, ?_⟩
      show (if (!inV (V.str r.1) (ns.map V.str)) = true then _ else _)
      rw [inV_strs]
      by_cases m : r.1 ∈ ns
      · rw [decide_eq_true m]
        refine iteF ⟨_, _, rfl, ?_⟩
        rw [e]
        unfold nmStep
        rw [if_pos m]
      · rw [decide_eq_false m]
        refine iteT ⟨_, rfl, .inl ⟨rfl, _, SqL.of upd_same⟩, _, rfl, p, _, _, rfl, rfl, upd_same, ?_, _, _, rfl, ?_⟩
        · rw [List.length_map]
          exact Nat.lt_of_le_of_lt (Nat.le_trans hl (by rw [List.length_nil]; omega : _ ≤ 40)) (by decide)
        · rw [e, upd_upd]
          unfold nmStep
          rw [if_neg m, List.map_append]
          rfl
    · rintro σ H' ⟨v2, v3, rfl, rfl⟩
      refine ⟨_, rfl, q p _ (same_upd np) np ?_⟩
      rw [gr.len, List.take_length]
      exact upd_same

/-! ### _users_of -/
def usersOf (G : List Rule) (N : Str) : List Nat := (List.range G.length).filter fun r => decide (N ∈ (G.getD r ("", [])).2)
theorem scUs : FnScope ["grammar", "name", "rule", "owner", "symbols"] ["grammar", "name"] (defScope s__users_of) := ⟨rfl, rfl, rfl, by decide +kernel, rfl, by decide +kernel, by decide +kernel⟩
def spUs : Sp := fun vs H Q _ => ∃ (g : Addr) (G : List Rule) (N : Str), vs = [.ref g, .str N] ∧ GraA H g G ∧ G.length ≤ 40 ∧ ∀ p H2, Same H H2 → H p = none → H2 p = some (.lst ((usersOf G N).map fun r => V.int (r : Nat))) → Q (.ref p) H2
theorem users_next {G : List Rule} {N : Str} {i : Nat} {r : Rule} (h : G[i]? = some r) : (List.range (i + 1)).filter (fun r => decide (N ∈ (G.getD r ("", [])).2)) = (List.range i).filter (fun r => decide (N ∈ (G.getD r ("", [])).2)) ++ (if N ∈ r.2 then [i] else []) := by
  rw [List.range_succ, List.filter_append]
  have e : G.getD i ("", []) = r := by rw [List.getD_eq_getElem?_getD, h]; rfl
  by_cases m : N ∈ r.2
  · rw [if_pos m, List.filter_cons_of_pos (by rw [e]; exact decide_eq_true m), List.filter_nil]
  · rw [if_neg m, List.filter_cons_of_neg (by rw [e]; simpa using m), List.filter_nil]
theorem ok_us {f : Addr} {fd : FuncData} (F : Fun K "_users_of" "_users_of" s__users_of f fd) (me : mg "enumerate" = none) : FnOk P w K mg base CX0 1 f fd ["grammar", "name"] spUs := by
  refine F.ok scUs (fun vs H Q E h => ?_) (fun cdv A outer s H vs Q E hr h => ?_)
  · obtain ⟨g, G, N, rfl, _⟩ := h
    rfl
  · obtain ⟨g, G, N, rfl, ⟨vs, hg, gr⟩, few, q⟩ := h
    refine ⟨_, pss_one (ps_ret (pe_lc (own := [("rule", 2), ("owner", 3), ("symbols", 4)]) (g := gTup K 2 (gCons (gName 2) (gCons (gTup K 2 (gCons (gName 3) (gCons (gName 4) gNil))) gNil))) (tt := tTest (tOp (rIn K false) (tVar 1) (tVar 4))) rfl scUs.nd (pi_enum (by rfl) me (pa_cons (pv 0) pa_nil))
      (blkOk_by (N := ["grammar", "name", "rule", "owner", "symbols"]) (sc := defScope s__users_of) (by decide +kernel))
      (fun _ _ _ _ _ => pg_tup rfl (pgs_cons (pg_name (i := 2) scUs.nd rfl (Or.inl rfl)) (pgs_cons (pg_tup rfl (pgs_cons (pg_name (i := 3) scUs.nd rfl (Or.inl rfl)) (pgs_cons (pg_name (i := 4) scUs.nd rfl (Or.inl rfl)) pgs_nil))) pgs_nil)))
      (fun _ _ _ _ _ => pts_one (pt_cmpR op_in_seq (pv 1) (pv 4) rfl)) (fun _ _ _ _ _ => pv 2))), ?_⟩
    have len := gr.len
    refine ⟨_, rfl, g, _, rfl, SqL.of hg, fun D hD => lc_it walk_enum (fun i H' => Same H H' ∧ H' D = some (.lst (((List.range i).filter fun r => decide (N ∈ (G.getD r ("", [])).2)).map fun r => V.int (r : Nat)))) ⟨same_upd hD, upd_same⟩ (fun i H' _ ⟨s', _⟩ => SqL.of (s' _ _ hg)) ?_ ?_⟩
    · rintro i x H' H'' hi ⟨s', hd⟩ ⟨T, x1, y, rfl, nT, rfl, hx, hy⟩
      cases hx
      have hy : vs[i]? = some y := hy
      obtain ⟨r, hr2, tt, l, rfl, h1, h2⟩ := gr.get hy
      have sT : Same H' (upd H' T (.tup [.int (i : Nat), .ref tt])) := same_upd nT
      have hT : upd H' T (.tup [.int (i : Nat), .ref tt]) T = some (.tup [.int (i : Nat), .ref tt]) := upd_same
      generalize upd H' T (.tup [.int (i : Nat), .ref tt]) = H3 at sT hT
      have s3 := s'.trans sT
      have il : i < G.length := (List.getElem?_eq_some_iff.mp hr2).1
      have nx := users_next (N := N) hr2
      refine ⟨T, _, rfl, SqT.of hT, rfl, _, _, rfl, _, _, rfl, ⟨tt, _, rfl, SqT.of (s3 _ _ h1), rfl, _, _, rfl, _, _, rfl, rfl, rfl, ?_⟩⟩
      refine ⟨rfl, _, rfl, _, rfl, l, _, rfl, .inl (SqL.of (s3 _ _ h2)), rfl, flat_strs r.2, _, rfl, ?_⟩
      show (if inV (V.str N) (r.2.map V.str) = true then _ else _)
      rw [inV_strs, nx]
      have hd3 := sT _ _ hd
      by_cases m : N ∈ r.2
      · rw [decide_eq_true m, if_pos m]
        refine iteT ⟨_, rfl, _, hd3, ?_, same_put s3 hD, ?_⟩
        · rw [List.length_map]
          exact million1 (Nat.le_trans (List.length_filter_le _ _) (by rw [List.length_range]; omega))
        · rw [upd_same, List.map_append]
          rfl
      · rw [decide_eq_false m, if_neg m, List.append_nil]
        exact iteF ⟨s3, hd3⟩
    · rintro H' ⟨s', hd⟩
      rw [len] at hd
      exact q D H' s' hD hd
end
end Ld

set_option Elab.async false
set_option linter.all false
set_option maxRecDepth 100000
set_option maxHeartbeats 4000000
/-! The least split of a rest. -/
namespace Ld
open PySem PySem.Spec PyProof.Rows L2 Lg Lr Lb
def splitS (b : Option Cost) (p : Option Cost × Option Cost) : Option Cost := match addO p.1 p.2, b with
  | none, b => b
  | some c, none => some c
  | some c, some d => if clt c d then some c else some d
def splitO (os : List (Option Cost × Option Cost)) : Option Cost := os.foldl splitS none
theorem splitO_mem : ∀ (os : List (Option Cost × Option Cost)) (b : Option Cost) (c : Cost), os.foldl splitS b = some c → b = some c ∨ ∃ p ∈ os, addO p.1 p.2 = some c
  | [], b, c, h => .inl h
  | p :: r, b, c, h => by
    have h : r.foldl splitS (splitS b p) = some c := h
    rcases splitO_mem r _ c h with q | ⟨x, hx, e⟩
    · unfold splitS at q
      cases ea : addO p.1 p.2 with
      | none => rw [ea] at q; exact .inl q
      | some a =>
        rw [ea] at q
        cases b with
        | none => exact .inr ⟨p, List.mem_cons_self, by rw [ea]; exact q⟩
        | some d =>
          simp only at q
          split at q
          · exact .inr ⟨p, List.mem_cons_self, by rw [ea]; exact q⟩
          · exact .inl q
    · exact .inr ⟨x, List.mem_cons_of_mem _ hx, e⟩
theorem splitO_le : ∀ (os : List (Option Cost × Option Cost)) (b : Option Cost), (∀ d, b = some d → ∃ x, os.foldl splitS b = some x ∧ cle x d) ∧ ∀ p ∈ os, ∀ c, addO p.1 p.2 = some c → ∃ x, os.foldl splitS b = some x ∧ cle x c
  | [], b => ⟨fun d e => ⟨d, e, cle_refl d⟩, fun _ m => nomatch m⟩
  | p :: r, b => by
    obtain ⟨h1, h2⟩ := splitO_le r (splitS b p)
    refine ⟨fun d e => ?_, fun x hx c e => ?_⟩
    · obtain ⟨y, ey, ly⟩ : ∃ y, splitS b p = some y ∧ cle y d := by
        subst e
        unfold splitS
        cases addO p.1 p.2 with
        | none => exact ⟨d, rfl, cle_refl d⟩
        | some a =>
          simp only
          split
          · rename_i z; exact ⟨a, rfl, cle_of_clt z⟩
          · exact ⟨d, rfl, cle_refl d⟩
      obtain ⟨x, ex, lx⟩ := h1 y ey
      exact ⟨x, ex, cle_trans lx ly⟩
    · rcases List.mem_cons.mp hx with q | q
      · subst q
        obtain ⟨y, ey, ly⟩ : ∃ y, splitS b x = some y ∧ cle y c := by
          unfold splitS
          rw [e]
          cases b with
          | none => exact ⟨c, rfl, cle_refl c⟩
          | some d =>
            simp only
            split
            · exact ⟨c, rfl, cle_refl c⟩
            · rename_i z
              exact ⟨d, rfl, (cle_or d c).elim id fun k => absurd k z⟩
        obtain ⟨x', ex, lx⟩ := h1 y ey
        exact ⟨x', ex, cle_trans lx ly⟩
      · exact h2 x q c e
section
variable {P : Program} {w : World} {K : PySem.W.Frag} {mg : Str → Option Value} {base : Heap}
/-- the costs of a symbol in the dicts of a list -/
def HeadsA (H : Hp) (sy : Str) : List V → List (Option Cost) → Prop := Rel2 fun v o => ∃ d kvs x, v = .ref d ∧ H d = some (.dK kvs) ∧ valV kvs (Sum.inr sy) = some x ∧ CostV H x o
/-- the costs of a rest, where it is known -/
def TailsA (H : Hp) (k : List Key) : List V → List (Option Cost) → Prop := Rel2 fun v o => ∃ d kvs, v = .ref d ∧ H d = some (.dT kvs) ∧ CostV H ((valV kvs k).getD .non) o
theorem scSl : FnScope ["heads", "tails", "symbol", "rest", "best", "head", "tail", "one", "two", "cost"] ["heads", "tails", "symbol", "rest"] (defScope s__least_split) := ⟨rfl, rfl, rfl, by decide +kernel, rfl, by decide +kernel, by decide +kernel⟩
def spSl : Sp := fun vs H Q _ => ∃ (hl tl rt : Addr) (hs ts : List V) (sy : Str) (k : List Key) (xs ys : List (Option Cost)), vs = [.ref hl, .ref tl, .str sy, .ref rt] ∧ H hl = some (.lst hs) ∧ H tl = some (.lst ts) ∧ H rt = some (.tup (k.map kV)) ∧
  xs.length = ys.length ∧ HeadsA H sy hs xs ∧ TailsA H k ts ys ∧ ∀ v H2, Same H H2 → CostV H2 v (splitO (xs.zip ys)) → Q v H2
theorem ok_sl {f : Addr} {fd : FuncData} (F : Fun K "_least_split" "_least_split" s__least_split f fd) (mz : mg "zip" = none) : FnOk P w K mg base CX0 1 f fd ["heads", "tails", "symbol", "rest"] spSl := by
  refine F.ok scSl (fun vs H Q E h => ?_) (fun cdv A outer s H vs Q E hr h => ?_)
  · obtain ⟨hl, tl, rt, hs, ts, sy, k, xs, ys, rfl, _⟩ := h
    rfl
  · obtain ⟨hl, tl, rt, hs, ts, sy, k, xs, ys, rfl, h1, h2, h3, len, ra, rb, q⟩ := h
    have hu := units1 hr
    have hu65 : (A.deeper (envOfC "_least_split" (defScope s__least_split) s.heap.objs.size f cdv)).units + 65 < cLine := by
      have := hr.un
      omega
    refine ⟨_, pss_cons (ps_set (i := 4) scSl.nd rfl (.inl rfl) pe_non)
      (pss_cons (ps_for PassesOwn.never rfl (pi_zip (by rfl) mz (pa_cons (pv 0) (pa_cons (pv 1) pa_nil))) (pg_tup rfl (pgs_cons (pg_name (i := 5) scSl.nd rfl (.inl rfl)) (pgs_cons (pg_name (i := 6) scSl.nd rfl (.inl rfl)) pgs_nil)))
        (pss_cons (ps_set (i := 7) scSl.nd rfl (.inl rfl) (pe_dget hu (pv 5) (pv 2) (fun _ _ => rfl)))
        (pss_cons (ps_set (i := 8) scSl.nd rfl (.inl rfl) (pe_dget1 hu (pv 6) (pv 3) ⟨rfl, rfl, rfl, rfl⟩))
        (pss_one (ps_if (PW.pt (pw_and (pt_cmpR op_notN (pv 7) pe_non (nomark _)) (pw_and1 (pt_cmpR op_notN (pv 8) pe_non (nomark _)))))
          (pss_cons (ps_set (i := 9) scSl.nd rfl (.inl rfl) (pe_tup (pa_cons (pe_op op_add (pe_ix ix_tup (pv 7) pe_int (fun _ _ => rfl)) (pe_ix ix_tup (pv 8) pe_int (fun _ _ => rfl))) (pa_cons (pe_op op_add (pe_ix ix_tup (pv 7) pe_int (fun _ _ => rfl)) (pe_ix ix_tup (pv 8) pe_int (fun _ _ => rfl))) pa_nil))))
          (pss_one (ps_if (PW.pt (pw_or (pt_cmpR op_isN (pv 4) pe_non (nomark _)) (pw_or1 (pt_cmpR (op_ltD hu65) (pv 9) (pv 4) (nomark _))))) (pss_one (ps_set (i := 4) scSl.nd rfl (.inl rfl) (pv 9))) pss_nil))) pss_nil)))))
      (pss_one (ps_ret (pv 4)))), ?_⟩
    have la := ra.len
    have lb := rb.len
    have lh : hs.length = ts.length := by omega
    have zl : (xs.zip ys).length = hs.length := by rw [List.length_zip]; omega
    refine ⟨_, rfl, _, rfl, hl, tl, hs, ts, rfl, SqL.of h1, SqL.of h2, RZ.for_zipL (xs := hs) (ys := ts) lh (fun n σ H' => ∃ v4 v5 v6 v7 v8 v9, σ = [some (.ref hl), some (.ref tl), some (.str sy), some (.ref rt), some v4, v5, v6, v7, v8, v9] ∧ Same H H' ∧ CostV H' v4 (((xs.zip ys).take n).foldl splitS none))
      ⟨.non, none, none, none, none, none, rfl, Same.refl H, rfl⟩ (fun n σ H' ⟨_, _, _, _, _, _, _, s', _⟩ => ⟨SqL.of (s' _ _ h1), SqL.of (s' _ _ h2)⟩) ?_ ?_⟩
    · rintro n x y T σ H' hx hy ⟨v4, v5, v6, v7, v8, v9, rfl, s', cv⟩ nT
      obtain ⟨o1, ho1, d1, kv1, x1, rfl, hd1, hv1, c1⟩ := ra.get hx
      obtain ⟨o2, ho2, d2, kv2, rfl, hd2, c2⟩ := rb.get hy
      have nz : (xs.zip ys)[n]? = some (o1, o2) := by
        rw [List.getElem?_zip_eq_some]
        exact ⟨ho1, ho2⟩
      have step : ((xs.zip ys).take (n + 1)).foldl splitS none = splitS (((xs.zip ys).take n).foldl splitS none) (o1, o2) := by
        rw [List.take_add_one, nz, List.foldl_append]
        rfl
      rw [step]
      generalize ((xs.zip ys).take n).foldl splitS none = b at cv
      have sT : Same H' (upd H' T (.tup [.ref d1, .ref d2])) := same_upd nT
      have hT : upd H' T (.tup [.ref d1, .ref d2]) T = some (.tup [.ref d1, .ref d2]) := upd_same
      generalize upd H' T (.tup [.ref d1, .ref d2]) = H3 at sT hT
      have s3 := s'.trans sT
      have cv3 := cv.same sT
      have c13 := c1.same s3
      have c23 := c2.same s3
      have g1 := DGet.k (k := Sum.inr sy) (s3 _ _ hd1)
      rw [hv1] at g1
      have g2 := DGet.t (k := k) (s3 _ _ hd2) (s3 _ _ h3)
      refine ⟨T, _, rfl, SqT.of hT, rfl, _, _, rfl, _, _, rfl, rfl, ?_⟩
      refine ⟨_, rfl, _, rfl, d1, x1, rfl, g1, ?_⟩
      refine ⟨_, rfl, d2, rfl, .inr ⟨_, .inl (s3 _ _ hd2)⟩, _, rfl, _, g2, ?_⟩
      generalize (valV kv2 k).getD V.non = w2 at c23
      refine ⟨_, rfl, rfl, _, rfl, ?_⟩
      rw [c13.non]
      cases o1 with
      | none => exact iteF (iteF ⟨v4, _, _, _, _, _, rfl, s3, cv3⟩)
      | some a =>
        refine iteT ⟨_, rfl, rfl, _, rfl, ?_⟩
        rw [c23.non]
        cases o2 with
        | none => exact iteF ⟨v4, _, _, _, _, _, rfl, s3, cv3⟩
        | some c =>
          obtain ⟨t, rfl, ht⟩ := c13
          obtain ⟨u, rfl, hu⟩ := c23
          refine iteT ⟨_, rfl, t, _, _, _, rfl, rfl, SqT.of ht, at_of (j := 0) rfl rfl, _, rfl, u, _, _, _, rfl, rfl, SqT.of hu, at_of (j := 0) rfl rfl, _, _, rfl, rfl, ?_⟩
          refine ⟨_, rfl, t, _, _, _, rfl, rfl, SqT.of ht, at_of (j := 1) rfl rfl, _, rfl, u, _, _, _, rfl, rfl, SqT.of hu, at_of (j := 1) rfl rfl, _, _, rfl, rfl, (by show 2 ≤ sizeLine; decide), fun p np => ?_⟩
          have s4 : Same H3 (upd H3 p (.tup [.int (a.1 + c.1), .int (a.2 + c.2)])) := same_upd np
          have cp : CostV (upd H3 p (.tup [.int (a.1 + c.1), .int (a.2 + c.2)])) (.ref p) (some (a.1 + c.1, a.2 + c.2)) := ⟨p, rfl, upd_same⟩
          have cv4 := cv3.same s4
          have s34 := s3.trans s4
          show _
          generalize upd H3 p (.tup [.int (a.1 + c.1), .int (a.2 + c.2)]) = H4 at s4 cp cv4 s34
          refine ⟨_, rfl, rfl, _, rfl, ?_⟩
          rw [cv4.non]
          have es : splitS b (some a, some c) = match b with
            | none => some (a.1 + c.1, a.2 + c.2)
            | some d => if clt (a.1 + c.1, a.2 + c.2) d then some (a.1 + c.1, a.2 + c.2) else some d := by
            cases b <;> rfl
          rw [es]
          cases b with
          | none => exact iteT (iteT ⟨_, rfl, .ref p, _, _, _, _, _, rfl, s34, cp⟩)
          | some d =>
            refine iteF ⟨_, rfl, _, rfl, _, _, cp.dp, cv4.dp, cD_alike _ _, (fun z => by cases z), (by simp [cD, PyData.depth, PyData.depthAll]), _, rfl, ?_⟩
            rw [cost_lt]
            simp only
            by_cases z : clt (a.1 + c.1, a.2 + c.2) d
            · have z' : (a.1 + c.1 < d.1 ∨ (a.1 + c.1 = d.1 ∧ a.2 + c.2 < d.2)) := z
              rw [if_pos z, decide_eq_true z']
              exact iteT ⟨_, rfl, .ref p, _, _, _, _, _, rfl, s34, cp⟩
            · have z' : ¬ (a.1 + c.1 < d.1 ∨ (a.1 + c.1 = d.1 ∧ a.2 + c.2 < d.2)) := z
              rw [if_neg z, decide_eq_false z']
              exact iteF ⟨v4, _, _, _, _, _, rfl, s34, cv4⟩
    · rintro σ H' ⟨v4, v5, v6, v7, v8, v9, rfl, s', cv⟩
      have e : (xs.zip ys).take hs.length = xs.zip ys := List.take_of_length_le (by omega)
      rw [e] at cv
      exact ⟨_, rfl, q v4 H' s' cv⟩
end
end Ld

set_option Elab.async false
set_option linter.all false
set_option maxRecDepth 100000
set_option maxHeartbeats 4000000
/-! The pieces of a rest. -/
namespace Ld
open PySem PySem.Spec PyProof.Rows L2 Lg Lr Lb
/-- inner, ahead, behind -/
structure Piece where
  inn : Option Cost
  ahd : Option Cost
  beh : Option Cost
def PcA (H : Hp) (v : V) (p : Piece) : Prop := ∃ a v1 v2 v3, v = .ref a ∧ H a = some (.tup [v1, v2, v3]) ∧ CostV H v1 p.inn ∧ CostV H v2 p.ahd ∧ CostV H v3 p.beh
theorem PcA.tupS {A B : Hp} (u : TupS A B) (v : V) (p : Piece) (h : PcA A v p) : PcA B v p := by
  obtain ⟨a, v1, v2, v3, e, ha, c1, c2, c3⟩ := h
  exact ⟨a, v1, v2, v3, e, u _ _ ha, c1.tupS u, c2.tupS u, c3.tupS u⟩
def pieceOf (xs ys : List (Option Cost)) : Piece := ⟨splitO ((xs.drop 1).zip (ys.take (ys.length - 1))), xs.headD none, ys.getLastD none⟩
theorem cut_but1 {vs : List V} {n : Nat} (h : vs.length = n + 1) : cutV vs none (some (-1)) = vs.take n := by
  have e : HT.sIx vs.length vs.length (some (-1)) = n := by
    rw [h]
    unfold HT.sIx
    simp
    try omega
  unfold cutV
  rw [HT.sIx_none, e, Nat.sub_zero, List.drop_zero]
theorem HeadsA.same {A B : Hp} (u : Same A B) {sy : Str} {vs : List V} {xs : List (Option Cost)} (h : HeadsA A sy vs xs) : HeadsA B sy vs xs := Rel2.mono (fun v o ⟨d, kvs, x, e, hd, hv, c⟩ => ⟨d, kvs, x, e, u _ _ hd, hv, c.same u⟩) h
theorem TailsA.same {A B : Hp} (u : Same A B) {k : List Key} {vs : List V} {xs : List (Option Cost)} (h : TailsA A k vs xs) : TailsA B k vs xs := Rel2.mono (fun v o ⟨d, kvs, e, hd, c⟩ => ⟨d, kvs, e, u _ _ hd, c.same u⟩) h
section
variable {P : Program} {w : World} {K : PySem.W.Frag} {mg : Str → Option Value} {base : Heap}
theorem scPc : FnScope ["heads", "tails", "symbol", "rest"] ["heads", "tails", "symbol", "rest"] (defScope s__piece) := ⟨rfl, rfl, rfl, by decide +kernel, rfl, by decide +kernel, by decide +kernel⟩
def spPc : Sp := fun vs H Q _ => ∃ (hl tl rt : Addr) (hs ts : List V) (sy : Str) (k : List Key) (xs ys : List (Option Cost)), vs = [.ref hl, .ref tl, .str sy, .ref rt] ∧ H hl = some (.lst hs) ∧ H tl = some (.lst ts) ∧ H rt = some (.tup (k.map kV)) ∧
  xs.length = ys.length ∧ xs ≠ [] ∧ HeadsA H sy hs xs ∧ TailsA H k ts ys ∧ ∀ v H2, Same H H2 → PcA H2 v (pieceOf xs ys) → Q v H2
theorem ok_pc {f fS : Addr} {fd fdS : FuncData} (F : Fun K "_piece" "_piece" s__piece f fd)
    (GS : FnOk P w K mg base CX0 1 fS fdS ["heads", "tails", "symbol", "rest"] spSl) (kS : PySem.W.keepIn K (.ref fS) = true) (bS : Binds K fdS ["heads", "tails", "symbol", "rest"] []) (gS : mg "_least_split" = some (.ref fS)) :
    FnOk P w K mg base CX0 2 f fd ["heads", "tails", "symbol", "rest"] spPc := by
  refine F.ok scPc (fun vs H Q E h => ?_) (fun cdv A outer s H vs Q E hr h => ?_)
  · obtain ⟨hl, tl, rt, hs, ts, sy, k, xs, ys, rfl, _⟩ := h
    rfl
  · obtain ⟨hl, tl, rt, hs, ts, sy, k, xs, ys, rfl, h1, h2, h3, len, ne, ra, rb, q⟩ := h
    have hu := units1 hr
    refine ⟨_, pss_one (ps_ret (pe_tup (pa_cons
      (pe_call GS hr (by rfl) gS kS bS .nil pass0 (pa_cons (pe_slice sl_list (pv 0) (po_some pe_int) po_none) (pa_cons (pe_slice sl_list (pv 1) po_none (po_some (pe_un un_neg pe_int))) (pa_cons (pv 2) (pa_cons (pv 3) pa_nil)))))
      (pa_cons (pe_dget hu (pe_ix ix_list (pv 0) pe_int (fun _ _ => rfl)) (pv 2) (fun _ _ => rfl)) (pa_cons (pe_dget1 hu (pe_ix ix_list (pv 1) (pe_un un_neg pe_int) (fun _ _ => rfl)) (pv 3) ⟨rfl, rfl, rfl, rfl⟩) pa_nil))))), ?_⟩
    have la := ra.len
    have lb := rb.len
    obtain ⟨n, hn⟩ : ∃ n, ys.length = n + 1 := ⟨ys.length - 1, by
      have : xs.length ≠ 0 := fun z => ne (List.eq_nil_of_length_eq_zero z)
      omega⟩
    have ec1 : cutV hs (some 1) none = hs.drop 1 := cut_from (n := 1)
    have ec2 : cutV ts none (some (-1)) = ts.take n := cut_but1 (lb.trans hn)
    refine ⟨_, rfl, _, rfl, hl, hs, rfl, SqL.of h1, fun p1 np1 => ?_⟩
    rw [ec1]
    have s1 : Same H (upd H p1 (.lst (hs.drop 1))) := same_upd np1
    have e1 : upd H p1 (.lst (hs.drop 1)) p1 = some (.lst (hs.drop 1)) := upd_same
    generalize upd H p1 (.lst (hs.drop 1)) = A1 at s1 e1
    refine ⟨_, rfl, 1, rfl, _, rfl, tl, ts, rfl, SqL.of (s1 _ _ h2), fun p2 np2 => ?_⟩
    rw [ec2]
    have s2 : Same A1 (upd A1 p2 (.lst (ts.take n))) := same_upd np2
    have e2 : upd A1 p2 (.lst (ts.take n)) p2 = some (.lst (ts.take n)) := upd_same
    generalize upd A1 p2 (.lst (ts.take n)) = A2 at s2 e2
    have s12 := s1.trans s2
    refine ⟨_, rfl, _, rfl, p1, p2, rt, hs.drop 1, ts.take n, sy, k, xs.drop 1, ys.take n, rfl, s2 _ _ e1, e2, s12 _ _ h3, by rw [List.length_drop, List.length_take]; omega, Rel2.drop 1 (ra.same s12), Rel2.take n (rb.same s12), fun v1 H3 s3 c1 => ?_⟩
    have s13 := s12.trans s3
    obtain ⟨x, xr, rfl⟩ : ∃ x xr, xs = x :: xr := by
      cases xs with
      | nil => exact absurd rfl ne
      | cons x xr => exact ⟨x, xr, rfl⟩
    obtain ⟨w1, hw1, d1, kv1, x1, rfl, hd1, hv1, cx⟩ := ra.at (i := 0) rfl
    obtain ⟨y, hy⟩ : ∃ y, ys[n]? = some y := ⟨ys[n]'(by omega), List.getElem?_eq_getElem (by omega)⟩
    obtain ⟨w2, hw2, d2, kv2, rfl, hd2, cy⟩ := rb.at hy
    have g1 := DGet.k (k := Sum.inr sy) (s13 _ _ hd1)
    rw [hv1] at g1
    have g2 := DGet.t (k := k) (s13 _ _ hd2) (s13 _ _ h3)
    refine ⟨_, rfl, hl, _, _, _, rfl, rfl, SqL.of (s13 _ _ h1), at_of (j := 0) rfl hw1, _, rfl, d1, x1, rfl, g1, ?_⟩
    refine ⟨_, rfl, 1, rfl, tl, _, _, _, rfl, rfl, SqL.of (s13 _ _ h2), at_neg (lb.trans hn) hw2, d2, rfl, .inr ⟨_, .inl (s13 _ _ hd2)⟩, _, rfl, _, g2, (by show 3 ≤ sizeLine; decide), fun t nt => ?_⟩
    have s4 : Same H3 (upd H3 t (.tup [v1, x1, (valV kv2 k).getD V.non])) := same_upd nt
    refine q (.ref t) _ (s13.trans s4) ⟨t, v1, x1, _, rfl, upd_same, ?_, (cx.same s13).same s4, ?_⟩
    · show CostV _ v1 (splitO (((x :: xr).drop 1).zip (ys.take (ys.length - 1))))
      rw [hn, Nat.add_sub_cancel]
      exact c1.same s4
    · show CostV _ _ (ys.getLastD none)
      rw [last_get hn hy]
      exact (cy.same s13).same s4
end
end Ld

set_option Elab.async false
set_option linter.all false
set_option maxRecDepth 100000
set_option maxHeartbeats 4000000
/-! The entries of a stretch, put together. -/
namespace Ld
open PySem PySem.Spec PyProof.Rows L2 Lg Lr Lb
theorem name_in {G : List Rule} : ∀ {ns : List Str} {n : Str}, n ∈ G.foldl nmStep ns ↔ n ∈ ns ∨ n ∈ G.map (·.1) := by
  induction G with
  | nil => simp
  | cons r G ih =>
    intro ns n
    rw [List.foldl_cons, ih, List.map_cons, List.mem_cons]
    unfold nmStep
    by_cases m : r.1 ∈ ns
    · rw [if_pos m]
      constructor
      · rintro (h | h)
        · exact .inl h
        · exact .inr (.inr h)
      · rintro (h | h | h)
        · exact .inl h
        · exact .inl (h ▸ m)
        · exact .inr h
    · rw [if_neg m, List.mem_append, List.mem_singleton]
      constructor
      · rintro ((h | h) | h)
        · exact .inl h
        · exact .inr (.inl h)
        · exact .inr (.inr h)
      · rintro (h | h | h)
        · exact .inl (.inl h)
        · exact .inl (.inr h)
        · exact .inr h
theorem TupS.at_dT {A : Hp} {d : Addr} {kd : List (List Key × V)} {o : HO} (h : A d = some (.dT kd)) : TupS A (upd A d o) := fun b xs e => by
  rw [upd_ne (fun z => by rw [z, h] at e; cases e)]
  exact e
/-- what a key stands for -/
def keyF (o : Str → Option Cost) (R : List (List (Option Cost))) : List Key → Option Cost
  | [_, Sum.inr N] => o N
  | [_, Sum.inl r, Sum.inl d] => (R.getD r.toNat []).getD d.toNat none
  | _ => none
theorem keyF_N (o : Str → Option Cost) (R : List (List (Option Cost))) (N : Str) : keyF o R (kN N) = o N := rfl
theorem keyF_R (o : Str → Option Cost) (R : List (List (Option Cost))) (r d : Nat) : keyF o R (kR r d) = (R.getD r []).getD d none := rfl
/-- a dict that holds these keys and no others -/
structure PartK (H : Hp) (kvs : List (List Key × V)) (ks : List (List Key)) (f : List Key → Option Cost) : Prop where
  at_ : ∀ k ∈ ks, ∃ v, valV kvs k = some v ∧ CostV H v (f k)
  in_ : ∀ p ∈ kvs, p.1 ∈ ks
  nd : (kvs.map (·.1)).Nodup
  ln : kvs.length ≤ ks.length
theorem PartK.put {H : Hp} {kvs : List (List Key × V)} {ks : List (List Key)} {f : List Key → Option Cost} (h : PartK H kvs ks f) {k : List Key} {v : V} (c : CostV H v (f k)) : PartK H (putK kvs k v) (ks ++ [k]) f := by
  refine ⟨fun j hj => ?_, fun p hp => ?_, put_nodup2 h.nd, ?_⟩
  · rw [valV_put]
    by_cases e : j = k
    · rw [e, if_pos rfl]; exact ⟨v, rfl, c⟩
    · rw [if_neg e]
      rcases List.mem_append.mp hj with m | m
      · exact h.at_ j m
      · exact absurd (List.mem_singleton.mp m) e
  · rcases put_mem2 p hp with m | rfl
    · exact List.mem_append_left _ (h.in_ p m)
    · exact List.mem_append_right _ (List.mem_singleton.mpr rfl)
  · have := length_putK kvs k v
    have := h.ln
    rw [List.length_append, List.length_singleton]
    omega
theorem PartK.tupS {A B : Hp} (u : TupS A B) {kvs : List (List Key × V)} {ks : List (List Key)} {f : List Key → Option Cost} (h : PartK A kvs ks f) : PartK B kvs ks f :=
  ⟨fun k hk => let ⟨v, e, c⟩ := h.at_ k hk; ⟨v, e, c.tupS u⟩, h.in_, h.nd, h.ln⟩
def rowK (R : List (List (Option Cost))) (r : Nat) : List (List Key) := (List.range (R.getD r []).length).map (kR r)
def allK (G : List Rule) (R : List (List (Option Cost))) (n : Nat) : List (List Key) := (namesOf G).map kN ++ (List.range n).flatMap (rowK R)
theorem allK_next (G : List Rule) (R : List (List (Option Cost))) (n : Nat) : allK G R (n + 1) = allK G R n ++ rowK R n := by
  unfold allK
  rw [List.range_succ, List.flatMap_append, List.append_assoc]
  simp
theorem PartK.ent {H : Hp} {G : List Rule} {kvs : List (List Key × V)} {o : Str → Option Cost} {R : List (List (Option Cost))} (h : PartK H kvs (allK G R G.length) (keyF o R))
    (sz : ∀ r N ss, G[r]? = some (N, ss) → (R.getD r []).length = ss.length + 1) : EntK H G kvs ⟨o, fun r d => (R.getD r []).getD d none⟩ := by
  have mN : ∀ N, N ∈ namesOf G ↔ ∃ r ∈ G, r.1 = N := fun N => by
    unfold namesOf
    rw [name_in, List.mem_map]
    constructor
    · rintro (h | ⟨r, h, e⟩)
      · cases h
      · exact ⟨r, h, e⟩
    · rintro ⟨r, h, e⟩
      exact .inr ⟨r, h, e⟩
  refine ⟨fun N hN => ?_, fun r d N ss hr hd => ?_, fun p hp => ?_, h.nd⟩
  · exact h.at_ (kN N) (List.mem_append_left _ (List.mem_map.mpr ⟨N, (mN N).mpr hN, rfl⟩))
  · have rl : r < G.length := (List.getElem?_eq_some_iff.mp hr).1
    have := sz r N ss hr
    exact h.at_ (kR r d) (List.mem_append_right _ (List.mem_flatMap.mpr ⟨r, List.mem_range.mpr rl, List.mem_map.mpr ⟨d, List.mem_range.mpr (by omega), rfl⟩⟩))
  · rcases List.mem_append.mp (h.in_ p hp) with m | m
    · obtain ⟨N, hN, e⟩ := List.mem_map.mp m
      exact .inl ⟨N, (mN N).mp hN, e.symm⟩
    · obtain ⟨r, hr, m⟩ := List.mem_flatMap.mp m
      obtain ⟨d, hd, e⟩ := List.mem_map.mp m
      have rl := List.mem_range.mp hr
      have dl := List.mem_range.mp hd
      have eg : G[r]? = some (G[r].1, G[r].2) := List.getElem?_eq_getElem rl
      have := sz r _ _ eg
      exact .inr ⟨r, d, _, _, eg, by omega, e.symm⟩
end Ld

set_option Elab.async false
set_option linter.all false
set_option maxRecDepth 100000
set_option maxHeartbeats 4000000
/-! Comprehensions of any kind: what is kept is handed to a step of its own (an item put into a set, a pair into a dict, an inner loop). -/
namespace Lc
open PySem PySem.Spec PyProof.Rows L2
/-- one turn of clause d of e; emit: what is done with a kept item -/
def turnOf (e : Expr) (d : Nat) (tg : Expr) (ip : Pos) (ifs : List Expr) (emit : Sem PySem.Fin → Sem PySem.Fin) (it acc : Value) (env : Env) : Sem PySem.Fin := do
  standAt ip
  match ← pyNext it with
  | none => pure (.done .next)
  | some v =>
    letOwnedTupleGo tg it v
    assign tg env v
    let mut ok := true
    for c in ifs do
      if ok then ok ← isTrue c env (eval c env)
    if ok then emit (again (.compLoop e d it acc env)) else again (.compLoop e d it acc env)
/-- a set's or a dict's comprehension -/
def OfSet (e : Expr) : Prop := (∃ elt gens sc p, e = .SetComp elt gens sc p) ∨ ∃ k v gens sc p, e = .DictComp k v gens sc p
section
variable {prog : Program} {w : World} {A : Around} {R : Result → Shared → Prop} {s : Shared} {e tg : Expr} {d : Nat} {ip : Pos} {ifs : List Expr} {emit : Sem PySem.Fin → Sem PySem.Fin} {it acc : Value} {env : Env}
/-- where nothing is raised -/
abbrev quietly {α : Type} (prog : Program) (w : World) (A : Around) (m : Sem α) (Q : α → Shared → Prop) (s : Shared) : Prop := wpAny (model prog w) A m Q (fun _ _ => False) s
theorem quiet_any {α : Type} {m : Sem α} {Q : α → Shared → Prop} {E : Value → Shared → Prop} (h : quietly prog w A m Q s) : wpAny (model prog w) A m Q E s := wpAny_mono h (fun _ _ q => q) fun _ _ z => z.elim
/-- the tests, one behind the other -/
abbrev allTests (env : Env) (ifs : List Expr) : Sem Bool := forIn ifs true fun c r => if r = true then do let ok ← isTrue c env (eval c env); pure (ForInStep.yield ok) else pure (ForInStep.yield r)
theorem loop_by (kind : OfSet e) (same : compTurn e d it acc env = turnOf e d tg ip ifs emit it acc env) (I : Nat → Shared → Prop)
    (turn : ∀ n s, I n s → quietly prog w A (pyNext it) (fun r s1 => (r = none ∧ R (.ok .next) s1) ∨ ∃ v, r = some v ∧
      quietly prog w A (letOwnedTupleGo tg it v) (fun _ s2 => quietly prog w A (assign tg env v) (fun _ s3 => quietly prog w A (allTests env ifs) (fun b s4 =>
        (b = false ∧ ∃ m, m < n ∧ I m s4) ∨ (b = true ∧ ∀ (k : Sem PySem.Fin) (R' : PySem.Fin → Shared → Prop), (∀ s5, (∃ m, m < n ∧ I m s5) → quietly prog w A k R' s5) → quietly prog w A (emit k) R' s4)) s3) s2) s1) s)
    (n : Nat) (h : I n s) : codeAny (model prog w) A (.compLoop e d it acc env) R s := by
  refine codeAny_loop (by rcases kind with ⟨_, _, _, _, rfl⟩ | ⟨_, _, _, _, _, rfl⟩ <;> rfl) I (fun k s0 hk => ?_) n h
  have den : (model prog w).den (.compLoop e d it acc env) = (compTurn e d it acc env).onRaise (fun x => do noteFrame x env; theTreesLotGoes x) := by
    rcases kind with ⟨_, _, _, _, rfl⟩ | ⟨_, _, _, _, _, rfl⟩ <;> rfl
  have un : A.under (.compLoop e d it acc env) = A := by
    rcases kind with ⟨_, _, _, _, rfl⟩ | ⟨_, _, _, _, _, rfl⟩ <;> rfl
  rw [den, un, same]
  refine wpAny_noted ?_
  unfold turnOf
  refine wpAny_bind (wpAny_standAt (wpAny_bind (thnF (turn k s0 hk) fun r s1 h1 => ?_)))
  rcases h1 with ⟨rfl, h1⟩ | ⟨v, rfl, h1⟩
  · exact wpAny_pure h1
  · refine wpAny_bind (thnF h1 fun _ s2 h2 => wpAny_bind (thnF h2 fun _ s3 h3 => wpAny_bind (thnF h3 fun b s4 h4 => ?_)))
    rcases h4 with ⟨rfl, h4⟩ | ⟨rfl, h4⟩
    · exact wpAny_pure ⟨rfl, h4⟩
    · exact thnF (h4 _ _ fun s5 h5 => wpAny_pure ⟨rfl, h5⟩) fun _ _ z => z
/-- the start of clause d -/
theorem start_by (kind : OfSet e) (sync : ((clausesOf e)[d]?).elim false (fun g => g.is_async != 0) = false) (hl : codeAny (model prog w) A (.compLoop e d it acc env) R s) (hi : quietly prog w A (pyIter it) (fun it' s' => codeAny (model prog w) A (.compLoop e d it' acc env) R s') s) :
    codeAny (model prog w) A (.compStart e d it acc env) R s := by
  have den : (model prog w).den (.compStart e d it acc env) = (compStart e d it acc env).onRaise (fun x => do noteFrame x env; standAt theWindowsPlace) := by
    rcases kind with ⟨_, _, _, _, rfl⟩ | ⟨_, _, _, _, _, rfl⟩ <;> rfl
  have un : A.under (.compStart e d it acc env) = A := by
    rcases kind with ⟨_, _, _, _, rfl⟩ | ⟨_, _, _, _, _, rfl⟩ <;> rfl
  have calm : ∀ x, (Code.compLoop e d x acc env).quiet = true := fun x => by
    rcases kind with ⟨_, _, _, _, rfl⟩ | ⟨_, _, _, _, _, rfl⟩ <;> rfl
  refine codeAny_of_tree ?_
  rw [den, un]
  refine wpAny_notedAt ?_
  unfold compStart
  rw [sync]
  simp only [Bool.false_eq_true, if_false]
  refine wpAny_bind (wpAny_askSetting (wpAny_ite ?_))
  split
  · first
      | exact wpAny_bind (wpAny_pure (wpAny_pure ⟨calm _, hl⟩))
      | exact wpAny_pure ⟨calm _, hl⟩
  · refine wpAny_bind (wpAny_rule ?_)
    cases (clausesOf e)[d]? with
    | none => exact wpAny_bind (thnF hi fun it' s' h' => wpAny_pure ⟨calm _, h'⟩)
    | some g => exact wpAny_bind (wpAny_standAt (wpAny_bind (thnF hi fun it' s' h' => wpAny_pure ⟨calm _, h'⟩)))
end
section
variable {Y : Cx}
/-- emit, from slots σ: it leaves what is known but for the slots vs; t tells what it asks of the heap -/
def EM (Y : Cx) (emit : Sem PySem.Fin → Sem PySem.Fin) (vs : List Nat) (t : L2.St → Hp → (Hp → Prop) → Prop) : Prop := ∀ (pins : List (Addr × Obj)) (s : Shared) (σ : L2.St) (H : Hp) (Q : Hp → Prop) (k : Sem PySem.Fin) (R : PySem.Fin → Shared → Prop), Inv Y pins σ H s → t σ H Q →
  (∀ s' H', Inv Y pins (wipe σ vs) H' s' → Q H' → quietly Y.prog Y.w Y.A k R s') → quietly Y.prog Y.w Y.A (emit k) R s
/-- a walk of J, by W over turn, measure and heap; behind it done -/
def Wk (g : TG) (tt : TT) (t : L2.St → Hp → (Hp → Prop) → Prop) (vs : List Nat) (J : It) (σ : L2.St) (done : Hp → Prop) (W : Nat → Nat → Hp → Prop) : Prop := ∀ i m H, W i m H →
  (J.stop i H ∧ done H) ∨ (J.go i H ∧ ∃ Nx : Hp → Prop, (∀ H', Nx H' → ∃ m', m' < m ∧ W (i + 1) m' H') ∧
    ∀ x H', J.yld i H x H' → g x (wipe σ vs) H' fun σ2 H2 => wipe σ2 vs = wipe σ vs ∧ tt σ2 H2 fun b H3 => if b = true then t σ2 H3 Nx else Nx H3)
theorem walk_run {e tg : Expr} {d : Nat} {ip : Pos} {ifs : List Expr} {emit : Sem PySem.Fin → Sem PySem.Fin} {acc : Value} {it : Addr} {fp : List Addr} {J : It} {tn : Nat → Heap → Prop} {g : TG} {tt : TT} {t : L2.St → Hp → (Hp → Prop) → Prop} {vs vs1 : List Nat} {pins : List (Addr × Obj)} {σ : L2.St} {H : Hp} {s : Shared} {done : Hp → Prop} {W : Nat → Nat → Hp → Prop} {m0 : Nat}
    (kind : OfSet e) (same : compTurn e d (.ref it) acc Y.env = turnOf e d tg ip ifs emit (.ref it) acc Y.env) (calm : Y.calm = true) (quiet : Y.xe = fun _ _ => False) (T : Turn Y.prog Y.w Y.K tg J fp it tn)
    (pg : PG Y tg g) (pt : PTs Y ifs tt) (em : EM Y emit vs1 t) (sub : ∀ i ∈ vs1, i ∈ vs) (I : Inv Y pins (wipe σ vs) H s) (st : tn 0 s.heap) (free : ∀ b ∈ fp, FpOk Y pins H b) (w0 : W 0 m0 H) (wk : Wk g tt t vs J σ done W) :
    codeAny (model Y.prog Y.w) Y.A (.compLoop e d (.ref it) acc Y.env) (fun r s' => r = .ok .next ∧ ∃ H', Inv Y pins (wipe σ vs) H' s' ∧ done H') s := by
  have later : ∀ {H' : Hp}, (∀ b ∈ fp, H' b = none) → ∀ b ∈ fp, FpOk Y pins H' b := fun no b hb => ⟨no b hb, (free b hb).2⟩
  refine loop_by kind same (fun n s' => ∃ i H', Inv Y pins (wipe σ vs) H' s' ∧ tn i s'.heap ∧ (∀ b ∈ fp, H' b = none) ∧ W i n H') ?_ m0 ⟨0, H, I, st, fun b hb => (free b hb).1, w0⟩
  rintro n s1 ⟨i, H1, I1, st1, no1, w1⟩
  rcases wk i n H1 w1 with ⟨stop, last⟩ | ⟨go, Nx, hNx, item⟩
  · exact thnF (T.done Y rfl rfl rfl calm i pins s1 _ H1 (fun _ _ => False) I1 (later no1) st1 stop) fun r s2 ⟨hr, I2⟩ => .inl ⟨hr, rfl, H1, I2, last⟩
  · refine thnF (T.item Y rfl rfl rfl calm i pins s1 _ H1 (fun _ _ => False) I1 (later no1) st1 go) fun r s2 ⟨u, hr, h2⟩ => .inr ⟨u, hr, ?_⟩
    refine thnF h2 fun _ s3 ⟨x, H3, I3, rx, yx, st3, no3⟩ => ?_
    have K3 := I3.pinned (later no3) (T.obj _ _ st3)
    have go1 := pg.run _ s3 _ H3 x u _ K3 rx (item x H3 yx)
    rw [quiet] at go1
    refine thnF go1 fun _ s4 ⟨σ4, H4, I4, e4, q4⟩ => ?_
    have go2 := pt.run _ s4 σ4 H4 _ I4 q4
    rw [quiet] at go2
    refine thnF go2 fun b s5 ⟨H5, I5, q5⟩ => ?_
    -- back at the loop's head
    have back : ∀ {τ : L2.St} {s' : Shared} {H' : Hp}, Inv Y (pins ++ pinsAt fp s3.heap) τ H' s' → τ.length = σ4.length → (∀ (j : Nat) v, (wipe σ vs)[j]? = some (some v) → τ[j]? = some (some v)) → Nx H' →
        ∃ m, m < n ∧ ∃ i H', Inv Y pins (wipe σ vs) H' s' ∧ tn i s'.heap ∧ (∀ b ∈ fp, H' b = none) ∧ W i m H' := fun {τ s' H'} K hl hk nx => by
      obtain ⟨m', lt, w'⟩ := hNx H' nx
      have held : ∀ b ∈ fp, ∀ o, s3.heap.get? b = some o → s'.heap.get? b = some o ∧ H' b = none := fun b hb o eo => by
        have z := K.pin (b, o) (List.mem_append_right _ (List.mem_append_right _ (mem_pinsAt hb eo)))
        exact ⟨z.1, z.2.1⟩
      refine ⟨m', lt, i + 1, H', K.unpinned.weak ?_ hk, T.keep _ _ _ st3 fun b hb o eo => (held b hb o eo).1, fun b hb => ?_, w'⟩
      · rw [hl, ← wipe_length σ4 vs, e4]
      · obtain ⟨o, eo, _⟩ := T.obj _ _ st3 b hb
        exact (held b hb o eo).2
    have know : ∀ (j : Nat) v, (wipe σ vs)[j]? = some (some v) → σ4[j]? = some (some v) ∧ j ∉ vs := fun j v ej => by
      rw [← e4] at ej
      exact wipe_some ej
    cases b with
    | false =>
      rw [if_neg Bool.false_ne_true] at q5
      exact .inl ⟨rfl, back I5 rfl (fun j v ej => (know j v ej).1) q5⟩
    | true =>
      rw [if_pos rfl] at q5
      refine .inr ⟨rfl, fun k R' hk => em _ s5 σ4 H5 _ k R' I5 q5 fun s6 H6 I6 nx => hk s6 (back I6 (wipe_length _ _) (fun j v ej => ?_) nx)⟩
      obtain ⟨e1, e2⟩ := know j v ej
      rw [wipe_out fun z => e2 (sub j z)]
      exact e1
end
section
variable {Y : Cx}
/-- the second clause, as the step of the first -/
def inner (e i1 : Expr) (acc : Value) (env : Env) (k : Sem PySem.Fin) : Sem PySem.Fin := do
  let x ← eval i1 env
  standAt i1.pos
  let x ← foldedSetIterable i1 env x
  let _ ← runOwn (.compStart e 1 (← holding [x] (pyIter x)) acc env) env
  k
theorem em_inner {e tg1 i1 : Expr} {ip : Pos} {ifs1 : List Expr} {emit1 : Sem PySem.Fin → Sem PySem.Fin} {acc : Value} {wi1 : TI} {g1 : TG} {tt1 : TT} {t1 : L2.St → Hp → (Hp → Prop) → Prop} {vs1 : List Nat}
    (kind : OfSet e) (sync : ((clausesOf e)[1]?).elim false (fun g => g.is_async != 0) = false) (same : ∀ it, compTurn e 1 it acc Y.env = turnOf e 1 tg1 ip ifs1 emit1 it acc Y.env) (calm : Y.calm = true) (quiet : Y.xe = fun _ _ => False)
    (pi1 : PI Y tg1 i1 wi1) (fold : ∀ x, foldedSetIterable i1 Y.env x = pure x) (pg1 : PG Y tg1 g1) (pt1 : PTs Y ifs1 tt1) (em1 : EM Y emit1 [] t1) :
    EM Y (inner e i1 acc Y.env) vs1 (fun σ H Nx => wi1 σ H fun J H1 => ∃ W : Nat → Nat → Hp → Prop, (∃ m, W 0 m H1) ∧ Wk g1 tt1 t1 vs1 J σ Nx W) := by
  intro pins s σ H Q k R I h hk
  have src := pi1.run pins s σ H _ I h
  rw [quiet] at src
  unfold inner
  refine wpAny_bind (thnF src fun x s1 h1 => ?_)
  refine wpAny_bind (wpAny_standAt (wpAny_bind (wpAny_of_eq (fold x) (wpAny_bind (wpAny_holding (thnF h1 fun itv s2 h2 => ?_))))))
  obtain ⟨it, fp, tn, J, H2, rfl, I2, T, st2, free2, W, ⟨m0, w0⟩, wk⟩ := h2
  have loop := walk_run (vs1 := []) kind (same (.ref it)) calm quiet T pg1 pt1 em1 (fun _ m => nomatch m) (I2.weak (wipe_length σ vs1) fun j v ej => (wipe_some ej).1) st2 free2 w0 wk
  have all := start_by kind sync loop (T.self Y.A 0 s2 _ (fun _ _ => False) st2 loop)
  refine wpAny_bind (wpAny_runOwn ?_)
  rw [Around.mark_none]
  refine codeAny_mono all fun r s3 h3 => ?_
  obtain ⟨rfl, H3, I3, q3⟩ := h3
  exact hk s3 H3 I3 q3
end
section
variable {X : Cx}
/-- how the new thing is made: O tells what stands at its address -/
def Mk (X : Cx) (mk : Sem Value) (O : Addr → HO) : Prop := ∀ (pins : List (Addr × Obj)) (s : Shared) (σ : L2.St) (H : Hp) (Q : Value → Shared → Prop) (E : Value → Shared → Prop), Inv X pins σ H s →
  (∀ (o : Obj), Inv X pins σ (upd H s.heap.objs.size (O s.heap.objs.size)) { s with heap := s.heap.push o } → Q (.ref s.heap.objs.size) { s with heap := s.heap.push o }) → wpAny (model X.prog X.w) X.A mk Q E s
/-- the whole: D the new thing -/
def tCmp (O : Addr → HO) (wi : TI) (g : TG) (tt : TT) (t : Addr → L2.St → Hp → (Hp → Prop) → Prop) (vs : List Nat) : TE := fun σ H Q => wi σ H fun J H1 => ∀ D, H1 D = none → ∃ W : Nat → Nat → Hp → Prop, (∃ m, W 0 m (upd H1 D (O D))) ∧ Wk g tt (t D) vs J σ (fun H' => Q (.ref D) H') W
/-- for the block of a comprehension, wherever it begins -/
abbrev InBlk (X : Cx) (scope : Scope) (p : Cx → Prop) : Prop := ∀ (s : Shared) (H : Hp) (C : Addr) (cl : List (Str × Addr)) (fp : List Addr), p (X.blk s H scope (compEnvC scope cl C X.env) fp)
theorem comp_run {e tg iter : Expr} {ip : Pos} {ifs : List Expr} {rest : List Comprehension} {scope : Scope} {own : List (Str × Nat)} {pos : Pos} {mk : Sem Value} {O : Addr → HO} {emit : Value → Env → Sem PySem.Fin → Sem PySem.Fin} {wi : TI} {g : TG} {tt : TT} {t : Addr → L2.St → Hp → (Hp → Prop) → Prop} {vs1 : List Nat}
    (kind : OfSet e) (cl : clausesOf e = ⟨tg, iter, ifs, 0⟩ :: rest) (same : ∀ it acc env, compTurn e 0 it acc env = turnOf e 0 tg ip ifs (emit acc env) it acc env) (made : Mk X mk O)
    (calm : X.calm = true) (nd : X.N.Nodup) (src : PI X tg iter wi) (ok : BlkOk X.N X.env.scope scope own) (sub : ∀ i ∈ vs1, i ∈ own.map (·.2))
    (pg : InBlk X scope fun Y => PG Y tg g) (pt : InBlk X scope fun Y => PTs Y ifs tt) (em : InBlk X scope fun Y => ∀ D, EM Y (emit (.ref D) Y.env) vs1 (t D)) (fold : ∀ x, foldedSetIterable iter X.env x = pure x)
    {pins : List (Addr × Obj)} {s : Shared} {σ : L2.St} {H : Hp} {Q : VK} (I : Inv X pins σ H s) (h : tCmp O wi g tt t (own.map (·.2)) σ H Q) :
    wpAny (model X.prog X.w) X.A (comprehension e scope X.env pos mk false (eval iter X.env)) (fun v s' => ∃ x H', Inv X pins σ H' s' ∧ RelV x v ∧ Q x H') X.xe s := by
  have caught : ∀ y ∈ scope.names, y.2 = .free → ∃ c, X.env.cells.lookup y.1 = some c := fun y hy ey => I.ok.has _ (ok.free y hy ey)
  refine wpAny_comprehension_free (use := none) cl fold (closure_ok caught) ok.kind (fun y hy ey => by rw [ok.uniq y hy, ey]) (thn (src.run pins s σ H _ I h) fun xv s1 h1 => thn h1 fun itv s2 h2 => ?_)
  obtain ⟨it, fp, tn, J, H2, rfl, I2, T, st2, free2, q⟩ := h2
  refine made pins s2 σ H2 _ _ I2 fun o I3 => newEnv_comp ?_
  generalize hD : s2.heap.objs.size = D at I3
  have noD : H2 D = none := I2.hok.fresh (Nat.le_of_eq hD)
  obtain ⟨W, ⟨m0, w0⟩, wk⟩ := q D noD
  generalize hs3 : ({ s2 with heap := s2.heap.push o } : Shared) = s3 at I3
  have heap3 : s3.heap = s2.heap.push o := by rw [← hs3]
  have stood : ∀ b u, s2.heap.get? b = some u → s3.heap.get? b = some u := fun b u eb => by rw [heap3]; exact Heap.get?_push_of_some _ eb
  generalize hH3 : upd H2 D (O D) = H3 at I3 w0
  have free3 : ∀ b ∈ fp, FpOk X pins H3 b ∧ b < s3.heap.objs.size := fun b hb => by
    obtain ⟨u, eb, _⟩ := T.obj _ _ st2 b hb
    have lt := Heap.lt_size eb
    have ne : b ≠ D := by rw [← hD]; exact Nat.ne_of_lt lt
    refine ⟨⟨?_, (free2 b hb).2⟩, by rw [heap3, Heap.size_push]; exact Nat.lt_succ_of_lt lt⟩
    rw [← hH3, upd_ne ne]
    exact (free2 b hb).1
  have I4 := block_start I3 ok nd free3
  show codeAny _ _ (.compStart e 0 (.ref it) (.ref D) (compEnvC scope (cellsFrom (s3.heap.objs.size + 1) scope.names (cloFrom X.env.cells scope.names [])) s3.heap.objs.size X.env)) (compPost (model X.prog X.w) X.A X.xe none _ (.ref D) s3.heap.objs.size) _
  have g0 := pg s3 H3 s3.heap.objs.size (cellsFrom (s3.heap.objs.size + 1) scope.names (cloFrom X.env.cells scope.names [])) fp
  have p0 := pt s3 H3 s3.heap.objs.size (cellsFrom (s3.heap.objs.size + 1) scope.names (cloFrom X.env.cells scope.names [])) fp
  have e0 := em s3 H3 s3.heap.objs.size (cellsFrom (s3.heap.objs.size + 1) scope.names (cloFrom X.env.cells scope.names [])) fp D
  generalize hce : compEnvC scope (cellsFrom (s3.heap.objs.size + 1) scope.names (cloFrom X.env.cells scope.names [])) s3.heap.objs.size X.env = ce at I4 g0 p0 e0 ⊢
  have at_ : ce.locals = s3.heap.objs.size := by subst hce; rfl
  generalize hs4 : ({ s3 with heap := pushCells (s3.heap.push { cls := .type "dict", data := .dict #[] }) scope.names } : Shared) = s4 at I4 ⊢
  have st4 : tn 0 s4.heap := T.keep _ _ _ st2 fun b _ u eb => by rw [← hs4]; exact pushCells_keeps _ _ _ _ (Heap.get?_push_of_some _ (stood b u eb))
  have free4 : ∀ b ∈ fp, FpOk (X.blk s3 H3 scope ce fp) [] H3 b := fun b hb => ⟨(free3 b hb).1.1, (I4.ok.exf b hb).1, I4.ok.exfs b hb, .inl hb, fun x c ec => (I4.ok.exf b hb).2 x c ec, fun p hp => absurd (show p ∈ ([] : List (Addr × Obj)) ++ [] from hp) (by simp)⟩
  have T4 : Turn (X.blk s3 H3 scope ce fp).prog (X.blk s3 H3 scope ce fp).w (X.blk s3 H3 scope ce fp).K tg J fp it tn := T
  have loop := walk_run (Y := X.blk s3 H3 scope ce fp) kind (same (.ref it) (.ref D) ce) calm rfl T4 g0 p0 e0 sub I4 st4 free4 w0 wk
  have all := start_by (A := X.A) kind (by rw [cl]; rfl) loop (T.self X.A 0 s4 _ (fun _ _ => False) st4 loop)
  refine codeAny_mono all fun r s5 h5 => ?_
  obtain ⟨rfl, H5, I5, last⟩ := h5
  -- back in the def
  have I6 : Inv X pins σ H5 s5 := I3.call' (ch := fp) I5.os I5.base I5.hok I5.bare fun b hb => ⟨(free3 b hb).1.2.2.2.1, (free3 b hb).1.2.1, (free3 b hb).1.2.2.2.2.1, (free3 b hb).1.2.2.2.2.2⟩
  have noC : H5 s3.heap.objs.size = none := by
    have z : H5 ce.locals = none := I5.free
    rwa [at_] at z
  obtain ⟨m, hn, _⟩ := I5.loc
  have hn : s5.heap.Ns ce.locals m := hn
  rw [at_] at hn
  refine ⟨m, hn, fun h'' sb => ?_⟩
  obtain ⟨f0, f1, f2, f3, f4, f5⟩ := I3.fpOk (Nat.le_refl _) noC
  exact ⟨.ref D, H5, I6.turned (t' := s5.toks) (fun b u hb eb => (sb.2 b hb).trans eb) f0 f1 f3 f4 f5, rfl, last⟩
end
end Lc

set_option Elab.async false
set_option linter.all false
set_option maxRecDepth 100000
set_option maxHeartbeats 4000000
/-! Sets of texts by comprehensions of one and of two clauses; dicts with tuple keys by a comprehension. -/
namespace Lc
open PySem PySem.Spec PyProof.Rows L2
section
variable {X : Cx}
def SetO (X : Cx) (D : Addr) : HO := SetK X.prog X.w D (fun _ => false) 0
theorem mk_set : Mk X (newSet (.type "set")) (SetO X) := fun pins s σ H Q E I h => PpSet.newSet_ok (h _ (I.laid (t' := s.toks) (fun b u e => Heap.get?_push_of_some _ e) (Nat.le_refl _)
  (setK_new ⟨_, #[], 0, _, Heap.get?_push_size _ rfl, ⟨rfl, rfl, rfl⟩, rfl, (fun e he => by simp at he), (fun k => by simp), (by decide), (by rfl), rfl⟩)))
/-- an item is put in -/
def tPut (X : Cx) (te : TE) (D : Addr) : L2.St → Hp → (Hp → Prop) → Prop := fun σ H Nx => te σ H fun y H1 => ∃ (k : Key) (S : Key → Bool) (n : Nat), y = kV k ∧ H1 D = some (SetK X.prog X.w D S n) ∧ n + 1 < scanBound ∧ Nx (upd H1 D (SetK X.prog X.w D (fun j => S j || decide (j = k)) (if S k = true then n else n + 1)))
def putIn (elt : Expr) (acc : Value) (env : Env) (k : Sem PySem.Fin) : Sem PySem.Fin := do
  (do let v ← eval elt env; standAt elt.pos; let _ ← call (.builtin "set.add") [acc, v])
  k
theorem em_put {Y : Cx} {elt : Expr} {te : TE} {D : Addr} (quiet : Y.xe = fun _ _ => False) (he : PE Y elt te) : EM Y (putIn elt (.ref D) Y.env) [] (tPut Y te D) := by
  intro pins s σ H Q k R I h hk
  have z := he.run pins s σ H _ I h
  rw [quiet] at z
  unfold putIn
  refine wpAny_bind (wpAny_bind (thnF z fun v s1 h1 => wpAny_bind (wpAny_standAt (wpAny_bind ?_))))
  obtain ⟨y, H1, I1, ry, ky, S, n, rfl, hD, room, q⟩ := h1
  refine call_set_add (kV_is ry) (key_scan ry) (setK_get I1 hD) room fun h' sb new => wpAny_pure (hk _ _ (I1.write (e := D) (t' := s1.toks + 1) (by rw [hD]; trivial) (.inl rfl) (fun b u hb hu => (sb.2 b hb).trans hu) ?_ (setK_new new)) q)
  obtain ⟨o, _, _, _, ho, _⟩ := id new
  exact ⟨o, ho⟩
theorem pe_set1 {elt tg iter : Expr} {ifs : List Expr} {scope : Scope} {own : List (Str × Nat)} {pos : Pos} {wi : TI} {g : TG} {tt : TT} {te : TE} (calm : X.calm = true) (nd : X.N.Nodup) (src : PI X tg iter wi) (ok : BlkOk X.N X.env.scope scope own)
    (pg : InBlk X scope fun Y => PG Y tg g) (pt : InBlk X scope fun Y => PTs Y ifs tt) (pe : InBlk X scope fun Y => PE Y elt te) (fold : ∀ x, foldedSetIterable iter X.env x = pure x := by intro _; rfl) :
    PE X (.SetComp elt [⟨tg, iter, ifs, 0⟩] scope pos) (tCmp (SetO X) wi g tt (tPut X te) (own.map (·.2))) := by
  refine ⟨fun pins s σ H Q I h => ?_⟩
  show wpAny _ _ (comprehension (.SetComp elt [⟨tg, iter, ifs, 0⟩] scope pos) scope X.env (firstIterPos [⟨tg, iter, ifs, 0⟩] pos) (newSet (.type "set")) false (eval iter X.env)) _ _ s
  exact comp_run (emit := putIn elt) (vs1 := []) (.inl ⟨_, _, _, _, rfl⟩) rfl (fun it acc env => rfl) mk_set calm nd src ok (fun _ m => nomatch m) pg pt (fun s H C cl fp D => em_put rfl (pe s H C cl fp)) fold I h
/-- two clauses; vs1: the names of the second target -/
def tPut2 (X : Cx) (wi1 : TI) (g1 : TG) (tt1 : TT) (te : TE) (vs1 : List Nat) (D : Addr) : L2.St → Hp → (Hp → Prop) → Prop := fun σ H Nx => wi1 σ H fun J H1 => ∃ W : Nat → Nat → Hp → Prop, (∃ m, W 0 m H1) ∧ Wk g1 tt1 (tPut X te D) vs1 J σ Nx W
theorem pe_set2 {elt tg iter tg1 iter1 : Expr} {ifs ifs1 : List Expr} {scope : Scope} {own : List (Str × Nat)} {vs1 : List Nat} {pos : Pos} {wi wi1 : TI} {g g1 : TG} {tt tt1 : TT} {te : TE} (calm : X.calm = true) (nd : X.N.Nodup) (src : PI X tg iter wi) (ok : BlkOk X.N X.env.scope scope own) (sub : ∀ i ∈ vs1, i ∈ own.map (·.2))
    (pg : InBlk X scope fun Y => PG Y tg g) (pt : InBlk X scope fun Y => PTs Y ifs tt) (src1 : InBlk X scope fun Y => PI Y tg1 iter1 wi1) (pg1 : InBlk X scope fun Y => PG Y tg1 g1) (pt1 : InBlk X scope fun Y => PTs Y ifs1 tt1) (pe : InBlk X scope fun Y => PE Y elt te)
    (fold : ∀ x, foldedSetIterable iter X.env x = pure x := by intro _; rfl) (fold1 : ∀ env x, foldedSetIterable iter1 env x = pure x := by intro _ _; rfl) :
    PE X (.SetComp elt [⟨tg, iter, ifs, 0⟩, ⟨tg1, iter1, ifs1, 0⟩] scope pos) (tCmp (SetO X) wi g tt (tPut2 X wi1 g1 tt1 te vs1) (own.map (·.2))) := by
  refine ⟨fun pins s σ H Q I h => ?_⟩
  show wpAny _ _ (comprehension (.SetComp elt [⟨tg, iter, ifs, 0⟩, ⟨tg1, iter1, ifs1, 0⟩] scope pos) scope X.env (firstIterPos [⟨tg, iter, ifs, 0⟩, ⟨tg1, iter1, ifs1, 0⟩] pos) (newSet (.type "set")) false (eval iter X.env)) _ _ s
  exact comp_run (emit := fun acc env => inner (.SetComp elt [⟨tg, iter, ifs, 0⟩, ⟨tg1, iter1, ifs1, 0⟩] scope pos) iter1 acc env) (.inl ⟨_, _, _, _, rfl⟩) rfl (fun it acc env => rfl) mk_set calm nd src ok sub pg pt
    (fun s H C cl fp D => em_inner (emit1 := putIn elt (.ref D) (compEnvC scope cl C X.env)) (.inl ⟨_, _, _, _, rfl⟩) rfl (fun it => rfl) calm rfl (src1 s H C cl fp) (fold1 _) (pg1 s H C cl fp) (pt1 s H C cl fp) (em_put rfl (pe s H C cl fp))) fold I h
/-! ### dicts -/
def DicO (X : Cx) (D : Addr) : HO := .dT []
theorem mk_dict : Mk X newDict (DicO X) := fun pins s σ H Q E I h => wpAny_newObj_type (h _ (I.laid (t' := s.toks) (fun b u e => Heap.get?_push_of_some _ e) (Nat.le_refl _) (dt_empty s.heap I.big)))
/-- a pair is put in, its key a new tuple -/
def tPair (tk tv : TE) (D : Addr) : L2.St → Hp → (Hp → Prop) → Prop := fun σ H Nx => tk σ H fun y H1 => tv σ H1 fun z H2 => ∃ (kvs : List (List Key × V)) (k : List Key) (b : Addr), y = .ref b ∧ H2 b = some (.tup (k.map kV)) ∧ H2 D = some (.dT kvs) ∧ kvs.length < sizeLine ∧ Nx (upd H2 D (.dT (putK kvs k z)))
def pairIn (kx vx : Expr) (acc : Value) (env : Env) (k : Sem PySem.Fin) : Sem PySem.Fin := do
  (do
    let kv ← eval kx env
    let vv ← holding [kv] (eval vx env)
    match acc with
    | .ref d => do
      standAt { kx.pos with endLine := vx.pos.endLine, endCol := vx.pos.endCol }
      holding [kv, vv] (dictSet d kv vv)
    | _ => unsupported "internal:dictcomp")
  k
theorem em_pair {Y : Cx} {kx vx : Expr} {tk tv : TE} {D : Addr} (hu : Y.A.units + 1 < cLine) (quiet : Y.xe = fun _ _ => False) (hk : PE Y kx tk) (hv : PE Y vx tv) : EM Y (pairIn kx vx (.ref D) Y.env) [] (tPair tk tv D) := by
  intro pins s σ H Q kk R I h hkk
  have z := hk.run pins s σ H _ I h
  rw [quiet] at z
  unfold pairIn
  refine wpAny_bind (wpAny_bind (thnF z fun kv s1 h1 => ?_))
  obtain ⟨y, H1, I1, ry, h2⟩ := h1
  have z2 := hv.run pins s1 σ H1 _ I1 h2
  rw [quiet] at z2
  refine wpAny_bind (wpAny_holding (thnF z2 fun vv s2 h3 => ?_))
  obtain ⟨v, H2, I2, rv, kvs, k, b, rfl, hb, hD, few, q⟩ := h3
  obtain rfl : kv = Value.ref b := ry
  refine wpAny_bind (wpAny_standAt (wpAny_holding ?_))
  obtain ⟨z, nsys, xs, rel, dd⟩ := dt_of I2.hok hD
  have hz : xs.length ≤ sizeLine := by rw [← Paired.length rel]; exact z
  have hl : (putK kvs k v).length ≤ sizeLine := by have := length_putK kvs k v; omega
  refine wpAny_dictSet_heap (hsz := hz) (by show Y.A.units < cLine; omega) (key_of I2.hok hb) dd fun h' dd' hs => ?_
  obtain ⟨o, es, ep, hq, h2, h3, h4, _, h5⟩ := dd'
  refine hkk _ _ (d_write (ob := .dT (putK kvs k v)) I2 (by rw [hD]; exact True.intro) hs ⟨o, hq⟩ ⟨hl, nsys, _, (rel.put k hb rv).keeps fun c ys ec => ?_, o, es, ep, hq, h2, h3, h4, h5⟩) q
  rw [upd_ne (ne_of ec hD (fun z => nomatch z))]
  exact ec
theorem pe_dicT {kx vx tg iter : Expr} {ifs : List Expr} {scope : Scope} {own : List (Str × Nat)} {pos : Pos} {wi : TI} {g : TG} {tt : TT} {tk tv : TE} (hu : X.A.units + 1 < cLine) (calm : X.calm = true) (nd : X.N.Nodup) (src : PI X tg iter wi) (ok : BlkOk X.N X.env.scope scope own)
    (pg : InBlk X scope fun Y => PG Y tg g) (pt : InBlk X scope fun Y => PTs Y ifs tt) (pk : InBlk X scope fun Y => PE Y kx tk) (pv : InBlk X scope fun Y => PE Y vx tv) (fold : ∀ x, foldedSetIterable iter X.env x = pure x := by intro _; rfl) :
    PE X (.DictComp kx vx [⟨tg, iter, ifs, 0⟩] scope pos) (tCmp (DicO X) wi g tt (tPair tk tv) (own.map (·.2))) := by
  refine ⟨fun pins s σ H Q I h => ?_⟩
  show wpAny _ _ (comprehension (.DictComp kx vx [⟨tg, iter, ifs, 0⟩] scope pos) scope X.env (firstIterPos [⟨tg, iter, ifs, 0⟩] pos) newDict false (eval iter X.env)) _ _ s
  exact comp_run (emit := pairIn kx vx) (vs1 := []) (.inr ⟨_, _, _, _, _, rfl⟩) rfl (fun it acc env => rfl) mk_dict calm nd src ok (fun _ m => nomatch m) pg pt (fun s H C cl fp D => em_pair hu rfl (pk s H C cl fp) (pv s H C cl fp)) fold I h
end
/-! ### walks -/
section
variable {K : PySem.W.Frag} {g : TG} {tt : TT} {t : L2.St → Hp → (Hp → Prop) → Prop} {vs : List Nat} {σ : L2.St} {done : Hp → Prop}
theorem wk_by {J : It} {n : Nat} {G : Hp → Prop} {Y : Nat → Hp → V → Hp → Prop} (w : L2.Walk J n G Y) (Pv : Nat → Hp → Prop) {H0 : Hp} (h0 : Pv 0 H0) (hG : ∀ i H, i ≤ n → Pv i H → G H)
    (hs : ∀ i x H H', i < n → Pv i H → Y i H x H' → g x (wipe σ vs) H' fun σ2 H2 => wipe σ2 vs = wipe σ vs ∧ tt σ2 H2 fun b H3 => if b = true then t σ2 H3 (Pv (i + 1)) else Pv (i + 1) H3) (hd : ∀ H, Pv n H → done H) :
    ∃ W : Nat → Nat → Hp → Prop, (∃ m, W 0 m H0) ∧ Wk g tt t vs J σ done W := by
  refine ⟨fun i m H => m = n - i ∧ i ≤ n ∧ Pv i H, ⟨n, rfl, Nat.zero_le _, h0⟩, ?_⟩
  rintro i m H ⟨rfl, hi, p⟩
  have st := hG i H hi p
  rcases Nat.lt_or_eq_of_le hi with lt | rfl
  · refine .inr ⟨w.goes i H lt st, Pv (i + 1), fun H' p' => ⟨n - (i + 1), by omega, rfl, lt, p'⟩, fun x H' y => hs i x H H' lt p (w.yields i H x H' lt st y)⟩
  · exact .inl ⟨w.stops H st, hd H p⟩
end
end Lc

set_option Elab.async false
set_option linter.all false
set_option maxRecDepth 100000
set_option maxHeartbeats 4000000
/-! Comprehensions of any kind, assigned to a local. -/
namespace Lc
open PySem PySem.Spec PyProof.Rows L2
section
variable {X : Cx}
theorem comp_core {e tg iter : Expr} {ip : Pos} {ifs : List Expr} {rest : List Comprehension} {scope : Scope} {own : List (Str × Nat)} {pos : Pos} {mk : Sem Value} {O : Addr → HO} {emit : Value → Env → Sem PySem.Fin → Sem PySem.Fin} {wi : TI} {g : TG} {tt : TT} {t : Addr → L2.St → Hp → (Hp → Prop) → Prop} {vs1 : List Nat}
    (kind : OfSet e) (cl : clausesOf e = ⟨tg, iter, ifs, 0⟩ :: rest) (same : ∀ it acc env, compTurn e 0 it acc env = turnOf e 0 tg ip ifs (emit acc env) it acc env) (made : Mk X mk O)
    (calm : X.calm = true) (nd : X.N.Nodup) (src : PI X tg iter wi) (ok : BlkOk X.N X.env.scope scope own) (sub : ∀ i ∈ vs1, i ∈ own.map (·.2))
    (pg : InBlk X scope fun Y => PG Y tg g) (pt : InBlk X scope fun Y => PTs Y ifs tt) (em : InBlk X scope fun Y => ∀ D, EM Y (emit (.ref D) Y.env) vs1 (t D)) (fold : ∀ x, foldedSetIterable iter X.env x = pure x)
    {pins : List (Addr × Obj)} {s : Shared} {σ : L2.St} {H : Hp} {Q : VK} {use : Option (Value → Sem Unit)} {Qf : Value → Shared → Prop} (I : Inv X pins σ H s) (h : tCmp O wi g tt t (own.map (·.2)) σ H Q)
    (post : ∀ D C s' m H', Inv X pins σ H' s' → Q (.ref D) H' → s'.heap.Ns C m → FpOk X pins H' C → compPost (model X.prog X.w) X.A X.xe use Qf (.ref D) C (.ok .next) s') :
    wpAny (model X.prog X.w) X.A (comprehension e scope X.env pos mk false (eval iter X.env) use) Qf X.xe s := by
  have caught : ∀ y ∈ scope.names, y.2 = .free → ∃ c, X.env.cells.lookup y.1 = some c := fun y hy ey => I.ok.has _ (ok.free y hy ey)
  refine wpAny_comprehension_free (use := use) cl fold (closure_ok caught) ok.kind (fun y hy ey => by rw [ok.uniq y hy, ey]) (thn (src.run pins s σ H _ I h) fun xv s1 h1 => thn h1 fun itv s2 h2 => ?_)
  obtain ⟨it, fp, tn, J, H2, rfl, I2, T, st2, free2, q⟩ := h2
  refine made pins s2 σ H2 _ _ I2 fun o I3 => newEnv_comp ?_
  generalize hD : s2.heap.objs.size = D at I3
  have noD : H2 D = none := I2.hok.fresh (Nat.le_of_eq hD)
  obtain ⟨W, ⟨m0, w0⟩, wk⟩ := q D noD
  generalize hs3 : ({ s2 with heap := s2.heap.push o } : Shared) = s3 at I3
  have heap3 : s3.heap = s2.heap.push o := by rw [← hs3]
  have stood : ∀ b u, s2.heap.get? b = some u → s3.heap.get? b = some u := fun b u eb => by rw [heap3]; exact Heap.get?_push_of_some _ eb
  generalize hH3 : upd H2 D (O D) = H3 at I3 w0
  have free3 : ∀ b ∈ fp, FpOk X pins H3 b ∧ b < s3.heap.objs.size := fun b hb => by
    obtain ⟨u, eb, _⟩ := T.obj _ _ st2 b hb
    have lt := Heap.lt_size eb
    have ne : b ≠ D := by rw [← hD]; exact Nat.ne_of_lt lt
    refine ⟨⟨?_, (free2 b hb).2⟩, by rw [heap3, Heap.size_push]; exact Nat.lt_succ_of_lt lt⟩
    rw [← hH3, upd_ne ne]
    exact (free2 b hb).1
  have I4 := block_start I3 ok nd free3
  show codeAny _ _ (.compStart e 0 (.ref it) (.ref D) (compEnvC scope (cellsFrom (s3.heap.objs.size + 1) scope.names (cloFrom X.env.cells scope.names [])) s3.heap.objs.size X.env)) (compPost (model X.prog X.w) X.A X.xe use Qf (.ref D) s3.heap.objs.size) _
  have g0 := pg s3 H3 s3.heap.objs.size (cellsFrom (s3.heap.objs.size + 1) scope.names (cloFrom X.env.cells scope.names [])) fp
  have p0 := pt s3 H3 s3.heap.objs.size (cellsFrom (s3.heap.objs.size + 1) scope.names (cloFrom X.env.cells scope.names [])) fp
  have e0 := em s3 H3 s3.heap.objs.size (cellsFrom (s3.heap.objs.size + 1) scope.names (cloFrom X.env.cells scope.names [])) fp D
  generalize hce : compEnvC scope (cellsFrom (s3.heap.objs.size + 1) scope.names (cloFrom X.env.cells scope.names [])) s3.heap.objs.size X.env = ce at I4 g0 p0 e0 ⊢
  have at_ : ce.locals = s3.heap.objs.size := by subst hce; rfl
  generalize hs4 : ({ s3 with heap := pushCells (s3.heap.push { cls := .type "dict", data := .dict #[] }) scope.names } : Shared) = s4 at I4 ⊢
  have st4 : tn 0 s4.heap := T.keep _ _ _ st2 fun b _ u eb => by rw [← hs4]; exact pushCells_keeps _ _ _ _ (Heap.get?_push_of_some _ (stood b u eb))
  have free4 : ∀ b ∈ fp, FpOk (X.blk s3 H3 scope ce fp) [] H3 b := fun b hb => ⟨(free3 b hb).1.1, (I4.ok.exf b hb).1, I4.ok.exfs b hb, .inl hb, fun x c ec => (I4.ok.exf b hb).2 x c ec, fun p hp => absurd (show p ∈ ([] : List (Addr × Obj)) ++ [] from hp) (by simp)⟩
  have T4 : Turn (X.blk s3 H3 scope ce fp).prog (X.blk s3 H3 scope ce fp).w (X.blk s3 H3 scope ce fp).K tg J fp it tn := T
  have loop := walk_run (Y := X.blk s3 H3 scope ce fp) kind (same (.ref it) (.ref D) ce) calm rfl T4 g0 p0 e0 sub I4 st4 free4 w0 wk
  have all := start_by (A := X.A) kind (by rw [cl]; rfl) loop (T.self X.A 0 s4 _ (fun _ _ => False) st4 loop)
  refine codeAny_mono all fun r s5 h5 => ?_
  obtain ⟨rfl, H5, I5, last⟩ := h5
  -- back in the def
  have I6 : Inv X pins σ H5 s5 := I3.call' (ch := fp) I5.os I5.base I5.hok I5.bare fun b hb => ⟨(free3 b hb).1.2.2.2.1, (free3 b hb).1.2.1, (free3 b hb).1.2.2.2.2.1, (free3 b hb).1.2.2.2.2.2⟩
  have noC : H5 s3.heap.objs.size = none := by
    have z : H5 ce.locals = none := I5.free
    rwa [at_] at z
  obtain ⟨m, hn, _⟩ := I5.loc
  have hn : s5.heap.Ns ce.locals m := hn
  rw [at_] at hn
  exact post D _ s5 m H5 I6 last hn (I3.fpOk (Nat.le_refl _) noC)
theorem ps_setDicT {i : Nat} {y : Str} {py : Pos} {kx vx tg iter : Expr} {ifs : List Expr} {scope : Scope} {own : List (Str × Nat)} {pos spos : Pos} {wi : TI} {g : TG} {tt : TT} {tk tv : TE} (hu : X.A.units + 1 < cLine) (calm : X.calm = true) (nd : X.N.Nodup) (hy : X.N[i]? = some y) (loc : X.env.scope.names.lookup y = some .local)
    (swap : swapsWith (.DictComp kx vx [⟨tg, iter, ifs, 0⟩] scope pos) (some (.Name y py)) spos.line X.env = pure true) (src : PI X tg iter wi) (ok : BlkOk X.N X.env.scope scope own)
    (pg : InBlk X scope fun Y => PG Y tg g) (pt : InBlk X scope fun Y => PTs Y ifs tt) (pk : InBlk X scope fun Y => PE Y kx tk) (pv : InBlk X scope fun Y => PE Y vx tv) (fold : ∀ x, foldedSetIterable iter X.env x = pure x := by intro _; rfl) :
    PS X (.Assign [.Name y py] (.DictComp kx vx [⟨tg, iter, ifs, 0⟩] scope pos) spos) (tAsg (tCmp (DicO X) wi g tt (tPair tk tv) (own.map (·.2))) (gName i)) := by
  refine ⟨fun pins s σ H D I h => ?_⟩
  rw [exec_Assign_Name_used _ _ _ _ swap]
  refine wpAny_bind (wpAny_standAt (wpAny_bind ?_))
  show wpAny _ X.A (do let _ ← comprehension (.DictComp kx vx [⟨tg, iter, ifs, 0⟩] scope pos) scope X.env (firstIterPos [⟨tg, iter, ifs, 0⟩] pos) newDict false (eval iter X.env) (some (assign (.Name y py) X.env))) _ _ s
  have h : tCmp (DicO X) wi g tt (tPair tk tv) (own.map (·.2)) σ H (fun x H1 => gName i x σ H1 D.nx) := h
  refine wpAny_bind (thn (comp_core (emit := pairIn kx vx) (vs1 := []) (Qf := fun _ s' => SP X pins D .next s') (.inr ⟨_, _, _, _, _, rfl⟩) rfl (fun it acc env => rfl) mk_dict calm nd src ok (fun _ m => nomatch m) pg pt (fun s H C cl fp D => em_pair hu rfl (pk s H C cl fp) (pv s H C cl fp)) fold I h
    fun L C s' m H' I' q hn f => ?_) fun _ s' hq => wpAny_pure (wpAny_pure hq))
  show wpAny _ _ (assign (.Name y py) X.env (.ref L)) _ _ _
  refine wpAny_assign_Name (store_ok2 (v := V.ref L) I' nd hy (.inl loc) rfl (fun s2 I2 ⟨a, sb, ha⟩ => ?_) (.inr loc))
  obtain ⟨f0, f1, f2, f3, f4, f5⟩ := f
  have apart : C ≠ a := fun e => ha.elim (fun z => f1 (e.trans z)) fun z => f4 y a z e.symm
  refine ⟨m, hn.sameBut sb apart, fun h3 sb3 => ⟨_, H', I2.turned (t' := s2.toks) (fun b u hb e => (sb3.2 b hb).trans e) f0 f1 f3 f4 f5, q⟩⟩
end
end Lc

set_option Elab.async false
set_option linter.all false
set_option maxRecDepth 100000
set_option maxHeartbeats 4000000
namespace Ld
open PySem PySem.Spec PyProof.Rows L2 Lg Lr Lb
/-- a list of costs -/
def RowA (H : Hp) (v : V) (os : List (Option Cost)) : Prop := ∃ a ws, v = .ref a ∧ H a = some (.lst ws) ∧ Rel2 (CostV H) ws os
theorem RowA.same {A B : Hp} (u : Same A B) (v : V) (os : List (Option Cost)) (h : RowA A v os) : RowA B v os := let ⟨a, ws, e, ha, r⟩ := h; ⟨a, ws, e, u _ _ ha, r.mono fun v c h => CostV.same u h⟩
theorem names_len (G : List Rule) : (namesOf G).length ≤ G.length := by
  have := fold_len G []
  unfold namesOf
  rw [List.length_nil] at this
  omega
theorem row_len {R : List (List (Option Cost))} (small : ∀ os ∈ R, os.length ≤ 40) (r : Nat) : (R.getD r []).length ≤ 40 := by
  rw [List.getD_eq_getElem?_getD]
  cases e : R[r]? with
  | none => exact Nat.zero_le _
  | some os => exact small os (List.mem_of_getElem? e)
theorem flat_len {R : List (List (Option Cost))} (small : ∀ os ∈ R, os.length ≤ 40) : ∀ n, ((List.range n).flatMap (rowK R)).length ≤ n * 40
  | 0 => by simp
  | n + 1 => by
    have ih := flat_len small n
    have := row_len small n
    have e : ((List.range (n + 1)).flatMap (rowK R)) = (List.range n).flatMap (rowK R) ++ rowK R n := by
      rw [List.range_succ, List.flatMap_append]
      simp
    have l : (rowK R n).length = (R.getD n []).length := by unfold rowK; rw [List.length_map, List.length_range]
    rw [e, List.length_append, l, Nat.succ_mul]
    omega
theorem allK_len {G : List Rule} {R : List (List (Option Cost))} (few : G.length ≤ 40) (small : ∀ os ∈ R, os.length ≤ 40) (n : Nat) : (allK G R n).length ≤ 40 + n * 40 := by
  have a := names_len G
  have b := flat_len small n
  unfold allK
  rw [List.length_append, List.length_map]
  omega
section
variable {P : Program} {w : World} {K : PySem.W.Frag} {mg : Str → Option Value} {base : Heap}
theorem scEf : FnScope ["grammar", "over", "rests", "entries", "rule", "found", "dot", "cost", "name"] ["grammar", "over", "rests"] (defScope s__entries_from) := ⟨rfl, rfl, rfl, by decide +kernel, rfl, by decide +kernel, by decide +kernel⟩
def spEf : Sp := fun vs H Q _ => ∃ (g d l : Addr) (G : List Rule) (o : Str → Option Cost) (rv : List V) (R : List (List (Option Cost))), vs = [.ref g, .ref d, .ref l] ∧ GraA H g G ∧ G.length ≤ 40 ∧ OverA H d (namesOf G) o ∧ H l = some (.lst rv) ∧ Rel2 (RowA H) rv R ∧ R.length = G.length ∧
  (∀ r N ss, G[r]? = some (N, ss) → (R.getD r []).length = ss.length + 1) ∧ (∀ os ∈ R, os.length ≤ 40) ∧
  ∀ p kvs H2, Same H H2 → H p = none → H2 p = some (.dT kvs) → EntK H2 G kvs ⟨o, fun r d => (R.getD r []).getD d none⟩ → Q (.ref p) H2
theorem ok_ef {f fN : Addr} {fd fdN : FuncData} (F : Fun K "_entries_from" "_entries_from" s__entries_from f fd)
    (GN : FnOk P w K mg base CX0 1 fN fdN ["grammar"] spNames) (kN' : PySem.W.keepIn K (.ref fN) = true) (bN : Binds K fdN ["grammar"] []) (gN : mg "names_of" = some (.ref fN)) (me : mg "enumerate" = none) : FnOk P w K mg base CX0 2 f fd ["grammar", "over", "rests"] spEf := by
  refine F.ok scEf (fun vs H Q E h => ?_) (fun cdv A outer s H vs Q E hr h => ?_)
  · obtain ⟨g, d, l, G, o, rv, R, rfl, _⟩ := h
    rfl
  · obtain ⟨g, d, l, G, o, rv, R, rfl, hG, few, ov, hl, rel, lenR, sz, small, q⟩ := h
    have hu := units1 hr
    refine ⟨_, pss_cons (Lc.ps_setDicT (i := 3) (own := [("name", 8)]) (g := gName 8) (tk := tTup (tCons (tC (.str "name")) (tCons (tVar 8) tNil))) (tv := tDGet (tVar 1) (tVar 8)) hu rfl scEf.nd rfl rfl rfl (pi_list (pe_call GN hr (by rfl) gN kN' bN .nil pass0 (pa_cons (pv 0) pa_nil)))
        (blkOk_by (own := [("name", 8)]) (N := ["grammar", "over", "rests", "entries", "rule", "found", "dot", "cost", "name"]) (sc := defScope s__entries_from) (by decide +kernel))
        (fun _ _ _ _ _ => pg_name (i := 8) scEf.nd rfl (Or.inl rfl) (.inr rfl)) (fun _ _ _ _ _ => pts_nil) (fun _ _ _ _ _ => pe_tup (pa_cons pe_str (pa_cons (pv 8) pa_nil))) (fun _ _ _ _ _ => pe_dget hu (pv 1) (pv 8) (fun _ _ => rfl)))
      (pss_cons (ps_for PassesOwn.never rfl (pi_enum (by rfl) me (pa_cons (pv 2) pa_nil)) (pg_tup rfl (pgs_cons (pg_name (i := 4) scEf.nd rfl (.inl rfl)) (pgs_cons (pg_name (i := 5) scEf.nd rfl (.inl rfl)) pgs_nil)))
        (pss_one (ps_for PassesOwn.never rfl (pi_enum (by rfl) me (pa_cons (pv 5) pa_nil)) (pg_tup rfl (pgs_cons (pg_name (i := 6) scEf.nd rfl (.inl rfl)) (pgs_cons (pg_name (i := 7) scEf.nd rfl (.inl rfl)) pgs_nil)))
          (pss_one (ps_dput hu (pv 3) (pe_tup (pa_cons pe_str (pa_cons (pv 4) (pa_cons (pv 6) pa_nil)))) (pv 7) (by rfl))))))
      (pss_one (ps_ret (pv 3)))), ?_⟩
    refine ⟨_, rfl, g, G, rfl, hG, few, fun nl H1 s1 nnl hnl => ⟨nl, rfl, ⟨_, SqL.of hnl⟩, fun D nD => ?_⟩⟩
    have nlen := names_len G
    refine Lc.wk_by (walk_list (K := K) (a := nl) (xs := (namesOf G).map V.str)) (fun i H' => ∃ kvs, Same H1 H' ∧ H' D = some (.dT kvs) ∧ PartK H' kvs (((namesOf G).take i).map kN) (keyF o R))
      ⟨[], same_upd nD, upd_same, ⟨(fun k m => nomatch m), (fun p m => nomatch m), List.nodup_nil, Nat.le_refl _⟩⟩ (fun i H' _ ⟨_, s', _⟩ => SqL.of (s' _ _ hnl)) ?_ ?_
    · rintro i x H' H'' hi ⟨kvs, s', hD, pk⟩ ⟨rfl, hx⟩
      obtain ⟨y, hy, rfl⟩ := str_at hx
      obtain ⟨kd, hd, cost⟩ := ov.same (s1.trans s')
      obtain ⟨v, hv, cv⟩ := cost y (List.mem_of_getElem? hy)
      refine ⟨rfl, ?_⟩
      unfold tYes
      simp only [if_true]
      refine ⟨_, rfl, (by show 2 ≤ sizeLine; decide), fun t nt => ?_⟩
      have st : Same H'' (upd H'' t (.tup [.str "name", .str y])) := same_upd nt
      have ht : upd H'' t (.tup [.str "name", .str y]) t = some (.tup [.str "name", .str y]) := upd_same
      show _
      generalize hA : upd H'' t (.tup [.str "name", .str y]) = A at st ht
      try simp only [hA]
      have gd := DGet.k (k := Sum.inr y) (st _ _ hd)
      rw [hv] at gd
      have ln := pk.ln
      have hDA := st _ _ hD
      refine ⟨_, rfl, _, rfl, d, v, rfl, gd, kvs, kN y, t, rfl, ht, hDA, ?_, putK kvs (kN y) v, same_put (s'.trans st) nD, upd_same, ?_⟩
      · rw [List.length_map, List.length_take] at ln
        exact million1 (by omega)
      · have e : ((namesOf G).take (i + 1)).map kN = ((namesOf G).take i).map kN ++ [kN y] := by
          rw [List.take_add_one, hy, List.map_append]
          rfl
        rw [e]
        exact ((pk.tupS (TupS.of_same st)).put (k := kN y) (cv.same st)).tupS (TupS.at_dT hDA)
    · rintro H3 ⟨kvs, s3, hD, pk⟩
      rw [List.length_map, List.take_length] at pk
      have l13 := s1.trans s3
      have lr := rel.len
      refine ⟨_, rfl, l, _, rfl, SqL.of (l13 _ _ hl), for_it walk_enum (fun r σ H' => ∃ v4 v5 v6 v7 kvs, σ = [some (.ref g), some (.ref d), some (.ref l), some (.ref D), v4, v5, v6, v7, none] ∧ Same H1 H' ∧ H' D = some (.dT kvs) ∧ PartK H' kvs (allK G R r) (keyF o R))
        ⟨none, none, none, none, kvs, rfl, s3, hD, by unfold allK; simpa using pk⟩ (fun i σ H' _ ⟨_, _, _, _, _, _, s', _⟩ => SqL.of (s' _ _ (s1 _ _ hl))) ?_ ?_⟩
      · rintro r x σ H' H'' hr' ⟨v4, v5, v6, v7, kvs, rfl, s', hD, pk⟩ ⟨T, x1, y, rfl, nT, rfl, hx, hy⟩
        cases hx
        have hy : rv[r]? = some y := hy
        obtain ⟨os, ho, a, ws, rfl, ha, ra⟩ := rel.get hy
        have rl : r < R.length := (List.getElem?_eq_some_iff.mp ho).1
        have eR : R.getD r [] = os := by rw [List.getD_eq_getElem?_getD, ho]; rfl
        have sT : Same H' (upd H' T (.tup [.int (r : Nat), .ref a])) := same_upd nT
        have hT : upd H' T (.tup [.int (r : Nat), .ref a]) T = some (.tup [.int (r : Nat), .ref a]) := upd_same
        generalize upd H' T (.tup [.int (r : Nat), .ref a]) = B at sT hT
        have sB := s'.trans sT
        have ol := small os (List.mem_of_getElem? ho)
        have al := allK_len few small r
        have r40 : r * 40 ≤ 40 * 40 := Nat.mul_le_mul_right 40 (by omega)
        refine ⟨T, _, rfl, SqT.of hT, rfl, _, _, rfl, _, _, rfl, rfl, ?_⟩
        refine ⟨_, rfl, a, ws, rfl, SqL.of (sB _ _ (s1 _ _ ha)), for_it walk_enum (fun k σ H' => ∃ v6 v7 kvs, σ = [some (.ref g), some (.ref d), some (.ref l), some (.ref D), some (.int (r : Nat)), some (.ref a), v6, v7, none] ∧ Same H1 H' ∧ H' D = some (.dT kvs) ∧ PartK H' kvs (allK G R r ++ (List.range k).map (kR r)) (keyF o R))
          ⟨v6, v7, kvs, rfl, sB, sT _ _ hD, by simpa using pk.tupS (TupS.of_same sT)⟩ (fun i σ H' _ ⟨_, _, _, _, s', _⟩ => SqL.of (s' _ _ (s1 _ _ ha))) ?_ ?_⟩
        · rintro k x σ Ha Hb hk ⟨v6, v7, kvs, rfl, sa, hDa, pa⟩ ⟨T2, x2, y2, rfl, nT2, rfl, hx2, hy2⟩
          cases hx2
          have hy2 : ws[k]? = some y2 := hy2
          obtain ⟨c, hc, cc⟩ := ra.get hy2
          have s2 : Same Ha (upd Ha T2 (.tup [.int (k : Nat), y2])) := same_upd nT2
          have hT2 : upd Ha T2 (.tup [.int (k : Nat), y2]) T2 = some (.tup [.int (k : Nat), y2]) := upd_same
          generalize upd Ha T2 (.tup [.int (k : Nat), y2]) = C at s2 hT2
          refine ⟨T2, _, rfl, SqT.of hT2, rfl, _, _, rfl, _, _, rfl, rfl, ?_⟩
          refine ⟨_, rfl, _, rfl, _, rfl, _, rfl, (by show 3 ≤ sizeLine; decide), fun t nt => ?_⟩
          have st : Same C (upd C t (.tup [.str "rest", .int (r : Nat), .int (k : Nat)])) := same_upd nt
          have ht : upd C t (.tup [.str "rest", .int (r : Nat), .int (k : Nat)]) t = some (.tup [.str "rest", .int (r : Nat), .int (k : Nat)]) := upd_same
          show _
          generalize hA : upd C t (.tup [.str "rest", .int (r : Nat), .int (k : Nat)]) = A at st ht
          try simp only [hA]
          have sCA := s2.trans st
          have hDA := sCA _ _ hDa
          have ln := pa.ln
          have kl : k < os.length := (List.getElem?_eq_some_iff.mp hc).1
          refine ⟨D, _, rfl, .inr ⟨kvs, kR r k, t, hDA, rfl, ht, ?_, rfl⟩, _, _, putK kvs (kR r k) y2, rfl, same_put (sa.trans sCA) nD, upd_same, ?_⟩
          · rw [List.length_append, List.length_map, List.length_range] at ln
            exact million1 (by omega)
          · have e : allK G R r ++ (List.range (k + 1)).map (kR r) = (allK G R r ++ (List.range k).map (kR r)) ++ [kR r k] := by
              rw [List.range_succ, List.map_append, List.append_assoc]
              rfl
            have ek : keyF o R (kR r k) = c := by
              rw [keyF_R, eR, List.getD_eq_getElem?_getD, hc]
              rfl
            rw [e]
            exact ((pa.tupS (TupS.of_same sCA)).put (k := kR r k) (by rw [ek]; exact cc.same (s1.trans (sa.trans sCA)))).tupS (TupS.at_dT hDA)
        · rintro σ Hc ⟨v6, v7, kvs, rfl, sc, hDc, pc⟩
          refine ⟨_, _, _, _, kvs, rfl, sc, hDc, ?_⟩
          rw [allK_next]
          unfold rowK
          rw [eR, ← ra.len]
          exact pc
      · rintro σ Hz ⟨v4, v5, v6, v7, kvs, rfl, sz', hDz, pz⟩
        rw [lr, lenR] at pz
        exact ⟨_, rfl, q D kvs Hz (s1.trans sz') (s1.free nD) hDz (pz.ent sz)⟩
end
end Ld

set_option Elab.async false
set_option linter.all false
set_option maxRecDepth 100000
set_option maxHeartbeats 4000000
/-! The pieces of all rules. -/
namespace Ld
open PySem PySem.Spec PyProof.Rows L2 Lg Lr Lb
def sN (xs : List (Str × NameKind)) : Scope := { kind := ScopeKind.function, names := xs, isGenerator := false, isCoroutine := false, more := [] }
section
variable {P : Program} {w : World} {K : PySem.W.Frag} {mg : Str → Option Value} {base : Heap}
theorem scPs : FnScope ["grammar", "costs", "entries", "i", "j", "heads", "tails", "rule", "k", "dot", "symbol", "name", "symbols"] ["grammar", "costs", "entries", "i", "j"] (defScope s__pieces) := ⟨rfl, rfl, rfl, by decide +kernel, rfl, by decide +kernel, by decide +kernel⟩
def piecesOf (G : List Rule) (oc : Nat → Nat → Str → Option Cost) (T : Nat → Nat → Ent) (i j : Nat) (r : Nat) (ss : List Str) : List Piece :=
  (List.range ss.length).map fun d => pieceOf ((List.range (j - i)).map fun k => oc i (i + k) (ss.getD d "")) ((List.range (j - i)).map fun k => (T (i + 1 + k) j).rs r (d + 1))
theorem yes_do {σ : L2.St} {H : Hp} {A B : Hp → Prop} (h : A H) : tYes σ H (fun b H3 => if b = true then A H3 else B H3) := by
  unfold tYes
  show (if true = true then A H else B H)
  rw [if_pos rfl]
  exact h
/-- a list of pieces -/
def PcsA (H : Hp) (v : V) (ps : List Piece) : Prop := ∃ a ws, v = .ref a ∧ H a = some (.lst ws) ∧ Rel2 (PcA H) ws ps
def spPs : Sp := fun vs H Q _ => ∃ (g c e : Addr) (G : List Rule) (C E : List (List Key × V)) (i j : Nat) (oc : Nat → Nat → Str → Option Cost) (T : Nat → Nat → Ent), vs = [.ref g, .ref c, .ref e, .int i, .int j] ∧ GraA H g G ∧ G.length ≤ 40 ∧ (∀ r ∈ G, r.2.length ≤ 40) ∧
  H c = some (.dT C) ∧ H e = some (.dT E) ∧ i ≤ j ∧ j ≤ 60 ∧
  (∀ k, k < j - i → ∃ d kvs, valV C (kS i (i + k)) = some (.ref d) ∧ H d = some (.dK kvs) ∧ ∀ r ∈ G, ∀ s ∈ r.2, ∃ v, valV kvs (Sum.inr s) = some v ∧ CostV H v (oc i (i + k) s)) ∧
  (∀ k, k < j - i → ∃ d kvs, valV E (kS (i + 1 + k) j) = some (.ref d) ∧ H d = some (.dT kvs) ∧ EntK H G kvs (T (i + 1 + k) j)) ∧
  (i = j → ∀ p H2, Same H H2 → H p = none → H2 p = some (.lst (List.replicate G.length V.non)) → Q (.ref p) H2) ∧
  (i < j → ∀ p ws H2, Same H H2 → H p = none → H2 p = some (.lst ws) → ws.length = G.length → (∀ r N ss, G[r]? = some (N, ss) → ∃ v, ws[r]? = some v ∧ PcsA H2 v (piecesOf G oc T i j r ss)) → Q (.ref p) H2)
theorem ok_ps {f fP : Addr} {fd fdP : FuncData} (F : Fun K "_pieces" "_pieces" s__pieces f fd)
    (GP : FnOk P w K mg base CX0 2 fP fdP ["heads", "tails", "symbol", "rest"] spPc) (kP : PySem.W.keepIn K (.ref fP) = true) (bP : Binds K fdP ["heads", "tails", "symbol", "rest"] []) (gP : mg "_piece" = some (.ref fP)) (me : mg "enumerate" = none) (mr : mg "range" = none) :
    FnOk P w K mg base CX0 3 f fd ["grammar", "costs", "entries", "i", "j"] spPs := by
  refine F.ok scPs (fun vs H Q E h => ?_) (fun cdv A outer s H vs Q E hr h => ?_)
  · obtain ⟨g, c, e, G, C, E, i, j, oc, T, rfl, _⟩ := h
    rfl
  · obtain ⟨g, c, e, G, C, E', i, j, oc, T, rfl, hG, few, small, hc, he, ij, j60, hds, tls, q0, q1⟩ := h
    have hu := units1 hr
    refine ⟨_, pss_cons (ps_if (pt_cmpR op_eq (pv 3) (pv 4) (nomark _)) (pss_one (ps_ret (pe_lc (own := [("rule", 7)]) (g := gName 7) rfl scPs.nd (pi_list (pv 0)) (blkOk_by (N := ["grammar", "costs", "entries", "i", "j", "heads", "tails", "rule", "k", "dot", "symbol", "name", "symbols"]) (sc := defScope s__pieces) (by decide +kernel))
        (fun _ _ _ _ _ => pg_name (i := 7) scPs.nd rfl (Or.inl rfl)) (fun _ _ _ _ _ => pts_nil) (fun _ _ _ _ _ => pe_non)))) pss_nil)
      (pss_cons (ps_set (i := 5) scPs.nd rfl (.inr rfl) (pe_lc (own := [("k", 8)]) (g := gName 8) rfl scPs.nd (pi_range2 (by rfl) mr (pa_cons (pv 3) (pa_cons (pv 4) pa_nil))) (blkOk_by (N := ["grammar", "costs", "entries", "i", "j", "heads", "tails", "rule", "k", "dot", "symbol", "name", "symbols"]) (sc := defScope s__pieces) (by decide +kernel))
        (fun _ _ _ _ _ => pg_name (i := 8) scPs.nd rfl (Or.inl rfl)) (fun _ _ _ _ _ => pts_nil) (fun _ _ _ _ _ => pe_dget hu (pv 1) (pe_tup (pa_cons (pv 3) (pa_cons (pv 8) pa_nil))) (fun _ _ => rfl))))
      (pss_cons (ps_set (i := 6) scPs.nd rfl (.inr rfl) (pe_lc (own := [("k", 8)]) (g := gName 8) rfl scPs.nd (pi_range2 (by rfl) mr (pa_cons (pe_op op_add (pv 3) pe_int) (pa_cons (pe_op op_add (pv 4) pe_int) pa_nil))) (blkOk_by (N := ["grammar", "costs", "entries", "i", "j", "heads", "tails", "rule", "k", "dot", "symbol", "name", "symbols"]) (sc := defScope s__pieces) (by decide +kernel))
        (fun _ _ _ _ _ => pg_name (i := 8) scPs.nd rfl (Or.inl rfl)) (fun _ _ _ _ _ => pts_nil) (fun _ _ _ _ _ => pe_dget hu (pv 2) (pe_tup (pa_cons (pv 8) (pa_cons (pv 4) pa_nil))) (fun _ _ => rfl))))
      (pss_one (ps_ret (pe_lc (own := [("rule", 7), ("name", 11), ("symbols", 12)]) (te := tLc (iEnum K (tCons (tVar 12) tNil)) (gTup K 2 (gCons (gName 9) (gCons (gName 10) gNil))) tYes (tCall spPc [] E0 (tCons (tVar 5) (tCons (tVar 6) (tCons (tVar 10) (tCons (tTup (tCons (tC (.str "rest")) (tCons (tVar 7) (tCons (tOp (rI0 fun i j => V.int (i + j)) (tVar 9) (tC (.int 1))) tNil)))) tNil))))) [9, 10]) (g := gTup K 2 (gCons (gName 7) (gCons (gTup K 2 (gCons (gName 11) (gCons (gName 12) gNil))) gNil))) rfl scPs.nd (pi_enum (by rfl) me (pa_cons (pv 0) pa_nil)) (blkOk_by (N := ["grammar", "costs", "entries", "i", "j", "heads", "tails", "rule", "k", "dot", "symbol", "name", "symbols"]) (sc := defScope s__pieces) (by decide +kernel))
        (fun _ _ _ _ _ => pg_tup rfl (pgs_cons (pg_name (i := 7) scPs.nd rfl (Or.inr rfl)) (pgs_cons (pg_tup rfl (pgs_cons (pg_name (i := 11) scPs.nd rfl (Or.inl rfl)) (pgs_cons (pg_name (i := 12) scPs.nd rfl (Or.inl rfl)) pgs_nil))) pgs_nil))) (fun _ _ _ _ _ => pts_nil)
        (fun _ _ _ _ _ => pe_lc (own := [("dot", 9), ("symbol", 10)]) (wi := iEnum K (tCons (tVar 12) tNil)) (tt := tYes) (g := gTup K 2 (gCons (gName 9) (gCons (gName 10) gNil)))
            (te := tCall spPc [] E0 (tCons (tVar 5) (tCons (tVar 6) (tCons (tVar 10) (tCons (tTup (tCons (tC (.str "rest")) (tCons (tVar 7) (tCons (tOp (rI0 fun i j => V.int (i + j)) (tVar 9) (tC (.int 1))) tNil)))) tNil)))))
            rfl scPs.nd (pi_enum (by rfl) me (pa_cons (pv 12) pa_nil)) (blkOk_by (N := ["grammar", "costs", "entries", "i", "j", "heads", "tails", "rule", "k", "dot", "symbol", "name", "symbols"]) (sc := ({ kind := ScopeKind.function, names := [(".0", NameKind.local), ("rule", NameKind.cell), ("name", NameKind.local), ("symbols", NameKind.local), ("enumerate", NameKind.globalImplicit), ("heads", NameKind.cell), ("tails", NameKind.cell)], isGenerator := false, isCoroutine := false, more := [] } : Scope)) (by decide +kernel))
          (fun _ _ _ _ _ => pg_tup rfl (pgs_cons (pg_name (i := 9) scPs.nd rfl (Or.inl rfl)) (pgs_cons (pg_name (i := 10) scPs.nd rfl (Or.inl rfl)) pgs_nil))) (fun _ _ _ _ _ => pts_nil)
          (fun _ _ _ _ _ => pe_call GP hr (by rfl) gP kP bP .nil pass0 (pa_cons (pv 5) (pa_cons (pv 6) (pa_cons (pv 10) (pa_cons (pe_tup (pa_cons pe_str (pa_cons (pv 7) (pa_cons (pe_op op_add (pv 9) pe_int) pa_nil)))) pa_nil))))))))))), ?_⟩
    obtain ⟨vs, hg, gr⟩ := hG
    have lenG := gr.len
    refine ⟨_, rfl, _, rfl, rfl, _, rfl, ?_⟩
    by_cases eij : i = j
    · rw [decide_eq_true (by rw [eij])]
      refine iteT ⟨_, rfl, g, rfl, ⟨_, SqL.of hg⟩, fun D hD => lc_list (a := g) (xs := vs) (fun n H' => Same H H' ∧ H' D = some (.lst (List.replicate n V.non))) ⟨same_upd hD, upd_same⟩ (fun n H' _ ⟨s', _⟩ => SqL.of (s' _ _ hg)) ?_ ?_⟩
      · rintro n x H' hx ⟨s', hd⟩
        have hn : n < vs.length := (List.getElem?_eq_some_iff.mp hx).1
        refine ⟨rfl, ?_⟩
        unfold tYes
        simp only [if_true]
        refine ⟨_, hd, ?_, same_put s' hD, ?_⟩
        · rw [List.length_replicate]
          exact million1 (by omega)
        · rw [upd_same, List.replicate_succ']
      · rintro H' ⟨s', hd⟩
        rw [lenG] at hd
        exact q0 eij D H' s' hD hd
    rw [decide_eq_false (fun z => eij (Int.ofNat_inj.mp (V.int.inj z)))]
    have lt : i < j := by omega
    have en : ((j : Int) - (i : Int)).toNat = j - i := by omega
    refine iteF ⟨_, rfl, _, rfl, i, j, rfl, ⟨by omega, by omega, by omega, by omega⟩, ?_⟩
    rw [en]
    refine fun D hD => lc_range (lo := i) (n := j - i) (fun k H' => ∃ hs, Same H H' ∧ H' D = some (.lst hs) ∧ Rel2 (fun v a => a < j - i ∧ ∃ d, v = V.ref d ∧ valV C (kS i (i + a)) = some (.ref d)) hs (List.range k)) ⟨[], same_upd hD, upd_same, True.intro⟩ ?_ ?_
    · rintro k H' hk ⟨hs, s', hd, rr⟩
      obtain ⟨d, kvs, hv, _⟩ := hds k hk
      refine ⟨rfl, ?_⟩
      unfold tYes
      simp only [if_true]
      refine ⟨_, rfl, _, rfl, _, rfl, (by show 2 ≤ sizeLine; decide), fun t nt => ?_⟩
      have st : Same H' (upd H' t (.tup [.int (i : Nat), .int ((i : Int) + (k : Int))])) := same_upd nt
      have ht : upd H' t (.tup [.int (i : Nat), .int ((i : Int) + (k : Int))]) t = some (.tup ((kS i (i + k)).map kV)) := by
        rw [upd_same]
        rfl
      have gd := DGet.t (k := kS i (i + k)) (st _ _ (s' _ _ hc)) ht
      rw [hv] at gd
      refine ⟨c, .ref d, rfl, gd, hs, st _ _ hd, ?_, hs ++ [.ref d], same_put (s'.trans st) hD, upd_same, ?_⟩
      · rw [rr.len, List.length_range]
        exact million1 (by omega)
      · rw [List.range_succ]
        exact rr.snoc ⟨hk, d, rfl, hv⟩
    rintro HA ⟨hs, sA, hdA, rA⟩
    have en2 : ((j : Int) + 1 - ((i : Int) + 1)).toNat = j - i := by omega
    refine ⟨_, rfl, _, _, rfl, rfl, _, rfl, _, _, rfl, rfl, (i : Int) + 1, (j : Int) + 1, rfl, ⟨by omega, by omega, by omega, by omega⟩, ?_⟩
    rw [en2]
    refine fun D2 hD2 => lc_range (lo := (i : Int) + 1) (n := j - i) (fun k H' => ∃ ts, Same HA H' ∧ H' D2 = some (.lst ts) ∧ Rel2 (fun v a => a < j - i ∧ ∃ d, v = V.ref d ∧ valV E' (kS (i + 1 + a) j) = some (.ref d)) ts (List.range k)) ⟨[], same_upd hD2, upd_same, True.intro⟩ ?_ ?_
    · rintro k H' hk ⟨ts, s', hd, rr⟩
      obtain ⟨d, kvs, hv, _⟩ := tls k hk
      refine ⟨rfl, ?_⟩
      unfold tYes
      simp only [if_true]
      refine ⟨_, rfl, _, rfl, _, rfl, (by show 2 ≤ sizeLine; decide), fun t nt => ?_⟩
      have st : Same H' (upd H' t (.tup [.int ((i : Int) + 1 + (k : Int)), .int (j : Nat)])) := same_upd nt
      have ht : upd H' t (.tup [.int ((i : Int) + 1 + (k : Int)), .int (j : Nat)]) t = some (.tup ((kS (i + 1 + k) j).map kV)) := by
        rw [upd_same]
        rfl
      have gd := DGet.t (k := kS (i + 1 + k) j) (st _ _ (s' _ _ (sA _ _ he))) ht
      rw [hv] at gd
      refine ⟨e, .ref d, rfl, gd, ts, st _ _ hd, ?_, ts ++ [.ref d], same_put (s'.trans st) hD2, upd_same, ?_⟩
      · rw [rr.len, List.length_range]
        exact million1 (by omega)
      · rw [List.range_succ]
        exact rr.snoc ⟨hk, d, rfl, hv⟩
    rintro HB ⟨ts, sB, hdB, rB⟩
    have sAB := sA.trans sB
    have hsB := sB _ _ hdA
    have heads : ∀ {A' : Hp} (r : Rule) (sy : Str), Same H A' → r ∈ G → sy ∈ r.2 → HeadsA A' sy hs ((List.range (j - i)).map fun k => oc i (i + k) sy) := fun {A'} r sy u hr hs' => Rel2.map (fun v a ⟨la, d, e1, e2⟩ => by
      obtain ⟨d', kvs, e3, e4, e5⟩ := hds a la
      rw [e2] at e3
      cases e3
      obtain ⟨x, hx, cx⟩ := e5 r hr sy hs'
      exact ⟨d, kvs, x, e1, u _ _ e4, hx, cx.same u⟩) rA
    have tails : ∀ {A' : Hp} (r d : Nat) (N : Str) (ss : List Str), Same H A' → G[r]? = some (N, ss) → d ≤ ss.length → TailsA A' (kR r d) ts ((List.range (j - i)).map fun k => (T (i + 1 + k) j).rs r d) := fun {A'} r d N ss u hr hd => Rel2.map (fun v a ⟨la, dd, e1, e2⟩ => by
      obtain ⟨d', kvs, e3, e4, e5⟩ := tls a la
      rw [e2] at e3
      cases e3
      obtain ⟨x, hx, cx⟩ := e5.rs r d N ss hr hd
      refine ⟨dd, kvs, e1, u _ _ e4, ?_⟩
      rw [hx]
      exact cx.same u) rB
    refine ⟨_, rfl, g, _, rfl, SqL.of (sAB _ _ hg), fun D3 hD3 => lc_it walk_enum (fun r H' => ∃ ws, Same HB H' ∧ H' D3 = some (.lst ws) ∧ Rel2 (fun v ps => ∃ a us, v = V.ref a ∧ a ≠ D3 ∧ H' a = some (.lst us) ∧ Rel2 (PcA H') us ps) ws ((List.range r).map fun q => piecesOf G oc T i j q (G.getD q ("", [])).2)) ⟨[], same_upd hD3, upd_same, True.intro⟩ (fun r H' _ ⟨_, s', _⟩ => SqL.of (s' _ _ (sAB _ _ hg))) ?_ ?_⟩
    · rintro r x H' H'' hr' ⟨ws, s', hd, rel⟩ ⟨T1, x1, y, rfl, nT, rfl, hx, hy⟩
      cases hx
      have hy : vs[r]? = some y := hy
      obtain ⟨rl, hr2, tt, l, rfl, h1, h2⟩ := gr.get hy
      have rin := List.mem_of_getElem? hr2
      have eG : G.getD r ("", []) = rl := by rw [List.getD_eq_getElem?_getD, hr2]; rfl
      have rlt : r < G.length := (List.getElem?_eq_some_iff.mp hr2).1
      have sT : Same H' (upd H' T1 (.tup [.int (r : Nat), .ref tt])) := same_upd nT
      have hT : upd H' T1 (.tup [.int (r : Nat), .ref tt]) T1 = some (.tup [.int (r : Nat), .ref tt]) := upd_same
      generalize upd H' T1 (.tup [.int (r : Nat), .ref tt]) = B at sT hT
      have s3 := s'.trans sT
      have sHB := sAB.trans s3
      have hdB3 := sT _ _ hd
      refine ⟨T1, _, rfl, SqT.of hT, rfl, _, _, rfl, _, _, rfl, ⟨tt, _, rfl, SqT.of (sHB _ _ h1), rfl, _, _, rfl, _, _, rfl, rfl, rfl, ?_⟩⟩
      refine ⟨rfl, yes_do ?_⟩
      simp only [L2.wipe, L2.start, List.map_cons, List.map_nil, List.length_cons, List.length_nil, List.set_cons_zero, List.set_cons_succ, List.cons_append, List.nil_append, List.replicate, Nat.reduceSub, Nat.reduceAdd]
      refine ⟨_, rfl, l, _, rfl, SqL.of (sHB _ _ h2), ?_⟩
      intro D4 hD4
      refine lc_it walk_enum (fun k H' => ∃ us, Same B H' ∧ H' D4 = some (.lst us) ∧ Rel2 (PcA H') us ((List.range k).map fun d => pieceOf ((List.range (j - i)).map fun k => oc i (i + k) (rl.2.getD d "")) ((List.range (j - i)).map fun k => (T (i + 1 + k) j).rs r (d + 1)))) ⟨[], same_upd hD4, upd_same, True.intro⟩ (fun k H' _ ⟨_, s', _⟩ => SqL.of (s' _ _ (sHB _ _ h2))) ?_ ?_
      · rintro k x Ha Hb hk ⟨us, sa, hda, ra⟩ ⟨T2, x2, y2, rfl, nT2, rfl, hx2, hy2⟩
        cases hx2
        obtain ⟨sy, hsy, rfl⟩ := str_at (show (rl.2.map V.str)[k]? = some y2 from hy2)
        have sin := List.mem_of_getElem? hsy
        have klt : k < rl.2.length := (List.getElem?_eq_some_iff.mp hsy).1
        have eS : rl.2.getD k "" = sy := by rw [List.getD_eq_getElem?_getD, hsy]; rfl
        have s2 : Same Ha (upd Ha T2 (.tup [.int (k : Nat), .str sy])) := same_upd nT2
        have hT2 : upd Ha T2 (.tup [.int (k : Nat), .str sy]) T2 = some (.tup [.int (k : Nat), .str sy]) := upd_same
        generalize upd Ha T2 (.tup [.int (k : Nat), .str sy]) = A2 at s2 hT2
        refine ⟨T2, _, rfl, SqT.of hT2, rfl, _, _, rfl, _, _, rfl, rfl, rfl, yes_do ?_⟩
        refine ⟨_, rfl, _, rfl, _, rfl, _, rfl, _, rfl, _, _, rfl, rfl, (by show 3 ≤ sizeLine; decide), fun t nt => ?_⟩
        have st : Same A2 (upd A2 t (.tup [.str "rest", .int (r : Nat), .int ((k : Int) + 1)])) := same_upd nt
        have ht : upd A2 t (.tup [.str "rest", .int (r : Nat), .int ((k : Int) + 1)]) t = some (.tup ((kR r (k + 1)).map kV)) := by
          rw [upd_same]
          rfl
        show _
        generalize hA : upd A2 t (.tup [.str "rest", .int (r : Nat), .int ((k : Int) + 1)]) = A3 at st ht
        try simp only [hA]
        have sBA := sa.trans (s2.trans st)
        have sHA := sHB.trans sBA
        have sBB := s3.trans sBA
        refine ⟨D, D2, t, hs, ts, sy, kR r (k + 1), _, _, rfl, sBB _ _ hsB, sBB _ _ hdB, ht, by rw [List.length_map, List.length_map], ?_, heads rl sy sHA rin sin, tails r (k + 1) rl.1 rl.2 sHA hr2 (by omega), fun v H5 s5 pc => ?_⟩
        · intro z
          have := congrArg List.length z
          rw [List.length_map, List.length_range, List.length_nil] at this
          omega
        · have s25 := (s2.trans st).trans s5
          have hd5 := s25 _ _ hda
          refine ⟨us, hd5, ?_, us ++ [v], same_put (sa.trans s25) hD4, upd_same, ?_⟩
          · rw [ra.len, List.length_map, List.length_range]
            have := small rl rin
            exact million1 (by omega)
          · rw [List.range_succ, List.map_append]
            refine (ra.mono fun v p h => PcA.tupS ((TupS.of_same s25).trans (.at_lst hd5)) v p h).snoc ?_
            dsimp only
            rw [eS]
            exact PcA.tupS (.at_lst hd5) v _ pc
      · rintro Hc ⟨us, sc, hdc, rc⟩
        have d34 : D4 ≠ D3 := fun z => by rw [z, hdB3] at hD4; cases hD4
        have hd3 := sc _ _ hdB3
        refine ⟨ws, hd3, ?_, ws ++ [.ref D4], same_put (s3.trans sc) hD3, upd_same, ?_⟩
        · rw [rel.len, List.length_map, List.length_range]
          exact million1 (by omega)
        · rw [List.range_succ, List.map_append]
          have old : Rel2 (fun v ps => ∃ a us, v = V.ref a ∧ a ≠ D3 ∧ upd Hc D3 (.lst (ws ++ [.ref D4])) a = some (.lst us) ∧ Rel2 (PcA (upd Hc D3 (.lst (ws ++ [.ref D4])))) us ps) ws ((List.range r).map fun q => piecesOf G oc T i j q (G.getD q ("", [])).2) :=
            rel.mono fun v ps ⟨a, us, e1, ne, ha, rr⟩ => ⟨a, us, e1, ne, (upd_ne ne).trans (sc _ _ (sT _ _ ha)), rr.mono fun v p h => PcA.tupS ((TupS.of_same (sT.trans sc)).trans (.at_lst hd3)) v p h⟩
          have one : Rel2 (PcA (upd Hc D3 (.lst (ws ++ [.ref D4])))) us (piecesOf G oc T i j r (G.getD r ("", [])).2) := by
            rw [eG]
            unfold piecesOf
            rw [List.length_map] at rc
            exact rc.mono fun v p h => PcA.tupS (.at_lst hd3) v p h
          exact old.snoc ⟨D4, us, rfl, d34, (upd_ne d34).trans hdc, one⟩
    · rintro H' ⟨ws, s', hd, rel⟩
      rw [lenG] at rel
      refine q1 lt D3 ws H' (sAB.trans s') (sAB.free hD3) hd (by rw [rel.len, List.length_map, List.length_range]) fun r N ss hr2 => ?_
      have rl : r < G.length := (List.getElem?_eq_some_iff.mp hr2).1
      have eG : G.getD r ("", []) = (N, ss) := by rw [List.getD_eq_getElem?_getD, hr2]; rfl
      have at_ : ((List.range G.length).map fun q => piecesOf G oc T i j q (G.getD q ("", [])).2)[r]? = some (piecesOf G oc T i j r ss) := by
        rw [List.getElem?_map, List.getElem?_range rl]
        show some (piecesOf G oc T i j r (G.getD r ("", [])).2) = _
        rw [eG]
      obtain ⟨v, hv, a, us, e1, _, ha, rr⟩ := rel.at at_
      exact ⟨v, hv, a, us, e1, ha, rr⟩
end
end Ld

set_option Elab.async false
set_option linter.all false
set_option maxRecDepth 100000
set_option maxHeartbeats 4000000
/-! list(zip(xs, ys)) over two lists: the tuple that was handed out last is alive when the next one is made. -/
namespace Zl
open PySem PySem.Spec PyProof.Rows L2
/-- the zip at its k-th step, the list at S apart from it -/
structure ZSt (h : Heap) (z TI TO i1 i2 l1 l2 S : Addr) (xs ys : Array Value) (k : Nat) : Prop where
  ti : IsPair h TI (.ref i1) (.ref i2)
  h1 : h.IsListIter i1 l1 k
  h2 : h.IsListIter i2 l2 k
  a1 : h.IsList l1 xs
  a2 : h.IsList l2 ys
  hz : (IsZip h z TI TO .none ∧ ∃ a b, IsPair h TO a b) ∨ ∃ T f oT, IsZipHeld h z TI TO T f ∧ h.get? T = some oT ∧ T ≠ z ∧ T ≠ i1 ∧ T ≠ i2 ∧ T ≠ S
theorem ZSt.keep {h h' : Heap} {z TI TO i1 i2 l1 l2 S : Addr} {xs ys : Array Value} {k : Nat} (st : ZSt h z TI TO i1 i2 l1 l2 S xs ys k) (off : ∀ b ∈ [z, TI, TO, i1, i2, l1, l2], b ≠ S) (hk : ∀ b o, b ≠ S → h.get? b = some o → h'.get? b = some o) : ZSt h' z TI TO i1 i2 l1 l2 S xs ys k := by
  obtain ⟨ti, h1, h2, a1, a2, hz⟩ := st
  refine ⟨hk _ _ (off TI (by simp)) ti, h1.at fun o e => hk _ o (off i1 (by simp)) e, h2.at fun o e => hk _ o (off i2 (by simp)) e, a1.at fun o e => hk _ o (off l1 (by simp)) e, a2.at fun o e => hk _ o (off l2 (by simp)) e, ?_⟩
  rcases hz with ⟨hz, a, b, hTO⟩ | ⟨T, f, oT, hz, hT, r1, r2, r3, r4⟩
  · exact .inl ⟨hk _ _ (off z (by simp)) hz, a, b, hk _ _ (off TO (by simp)) hTO⟩
  · exact .inr ⟨T, f, oT, hk _ _ (off z (by simp)) hz, hk _ _ r4 hT, r1, r2, r3, r4⟩
section
variable {prog : Program} {w : World} {A : Around} {E : Value → Shared → Prop} {s : Shared} {z TI TO i1 i2 l1 l2 S : Addr} {xs ys : Array Value}
theorem z_item {i : Nat} {x y : Value} {Q : Option Value → Shared → Prop} (D : ZipApart z TI TO i1 i2 l1 l2) (st : ZSt s.heap z TI TO i1 i2 l1 l2 S xs ys i) (hS : S < s.heap.objs.size) (ex : xs[i]? = some x) (ey : ys[i]? = some y)
    (hQ : ∀ h', ZSt h' z TI TO i1 i2 l1 l2 S xs ys (i + 1) → h'.get? s.heap.objs.size = some { cls := .type "tuple", data := .seq #[x, y] } → h'.objs.size = s.heap.objs.size + 1 →
      (∀ b o, b ∉ [z, TO, i1, i2] → s.heap.get? b = some o → h'.get? b = some o) → Q (some (.ref s.heap.objs.size)) { s with heap := h' }) : wpAny (model prog w) A (pyNext (.ref z)) Q E s := by
  obtain ⟨hTI, h1, h2, hl1, hl2, hz⟩ := st
  have lt : ∀ {c o}, s.heap.get? c = some o → s.heap.objs.size ≠ c := fun e => Nat.ne_of_gt (Heap.lt_size e)
  have n1 : s.heap.objs.size ≠ i1 := let ⟨_, e, _⟩ := h1; lt e
  have n2 : s.heap.objs.size ≠ i2 := let ⟨_, e, _⟩ := h2; lt e
  rcases hz with ⟨hz, a, b, hTO⟩ | ⟨T, f, oT, hz, hT, r1, r2, r3, r4⟩
  · refine wpAny_pyNext_zip_item D hz hTI hTO h1 h2 hl1 hl2 ex ey fun h' a1 a2 a3 a4 a5 a6 hk => ?_
    exact hQ h' ⟨hk _ _ D.TIz D.TITO D.TIi1 D.TIi2 hTI, a3, a4, hl1.at fun o e => hk _ o D.l1z D.l1TO D.l1i1 D.l1i2 e, hl2.at fun o e => hk _ o D.l2z D.l2TO D.l2i1 D.l2i2 e,
        .inr ⟨s.heap.objs.size, false, _, a1, a5, lt hz, n1, n2, Nat.ne_of_gt hS⟩⟩ a5 a6
      fun c o hc e => hk c o (fun x => hc (by simp [x])) (fun x => hc (by simp [x])) (fun x => hc (by simp [x])) (fun x => hc (by simp [x])) e
  · refine wpAny_pyNext_zip_item_held D hz hT hTI h1 h2 hl1 hl2 ex ey fun h' a1 a3 a4 a5 a6 hk => ?_
    exact hQ h' ⟨hk _ _ D.TIz D.TIi1 D.TIi2 hTI, a3, a4, hl1.at fun o e => hk _ o D.l1z D.l1i1 D.l1i2 e, hl2.at fun o e => hk _ o D.l2z D.l2i1 D.l2i2 e,
        .inr ⟨T, true, oT, a1, hk _ _ r1 r2 r3 hT, r1, r2, r3, r4⟩⟩ a5 a6
      fun c o hc e => hk c o (fun x => hc (by simp [x])) (fun x => hc (by simp [x])) (fun x => hc (by simp [x])) e
theorem z_done {i : Nat} {Q : Option Value → Shared → Prop} (hh : A.handled = none) (D : ZipApart z TI TO i1 i2 l1 l2) (st : ZSt s.heap z TI TO i1 i2 l1 l2 S xs ys i) (hend : xs[i]? = none ∨ ys[i]? = none)
    (hQ : ∀ h', (∀ b o, b ∉ [z, TO, i1, i2] → s.heap.get? b = some o → h'.get? b = some o) → Q none { s with heap := h' }) : wpAny (model prog w) A (pyNext (.ref z)) Q E s := by
  obtain ⟨hTI, h1, h2, hl1, hl2, hz⟩ := st
  rcases hz with ⟨hz, a, b, hTO⟩ | ⟨T, f, oT, hz, hT, r1, r2, r3, r4⟩
  · exact wpAny_pyNext_zip_end hh D hz hTI hTO h1 h2 hl1 hl2 hend fun h' hk => hQ h' fun c o hc e => hk c o (fun x => hc (by simp [x])) (fun x => hc (by simp [x])) (fun x => hc (by simp [x])) (fun x => hc (by simp [x])) e
  · exact wpAny_pyNext_zip_end_held hh D hz hT hTI h1 h2 hl1 hl2 hend fun h' hk => hQ h' fun c o hc e => hk c o (fun x => hc (by simp [x])) (fun x => hc (by simp [x])) (fun x => hc (by simp [x])) e
end
/-- the tuples so far -/
structure ZG (xs ys : Array Value) (lo : Addr) (h : Heap) (as : List Addr) : Prop where
  rise : as.Pairwise (· < ·)
  above : ∀ a ∈ as, lo ≤ a
  pairs : ∀ (j : Nat) (a : Addr), as[j]? = some a → ∃ x y, xs[j]? = some x ∧ ys[j]? = some y ∧ h.get? a = some { cls := .type "tuple", data := .seq #[x, y] }
theorem ZG.there {xs ys : Array Value} {lo : Addr} {h : Heap} {as : List Addr} (g : ZG xs ys lo h as) {a : Addr} (ha : a ∈ as) : a < h.objs.size := by
  obtain ⟨j, hj⟩ := List.mem_iff_getElem?.mp ha
  obtain ⟨_, _, _, _, e⟩ := g.pairs j a hj
  exact Heap.lt_size e
theorem ZG.low {xs ys : Array Value} {lo lo' : Addr} {h : Heap} {as : List Addr} (g : ZG xs ys lo h as) (hl : lo' ≤ lo) : ZG xs ys lo' h as := ⟨g.rise, fun a ha => Nat.le_trans hl (g.above a ha), g.pairs⟩
section
variable {prog : Program} {w : World} {A : Around} {s : Shared} {R : Result → Shared → Prop} {z TI TO i1 i2 l1 l2 S lo : Addr} {xs ys : Array Value}
theorem z_loop (hh : A.handled = none) (D : ZipApart z TI TO i1 i2 l1 l2) (off : ∀ b ∈ [z, TI, TO, i1, i2, l1, l2], b ≠ S) (low : ∀ b ∈ [z, TO, i1, i2], b < lo) (hSlo : S < lo) {n : Nat} (en : n = min xs.size ys.size) (hn : n ≤ sizeLine) (res : Value) {h₁ : Heap}
    (hR : ∀ h' acc c as, (∀ b o, b ≠ S → b ∉ [z, TO, i1, i2] → h₁.get? b = some o → h'.get? b = some o) → h'.get? S = some { cls := .type "list", dict := none, data := .seq acc c, slots := #[] } → as.length = n → ZG xs ys lo h' as →
      acc.toList = as.map Value.ref → R (.ok (.ret res)) { s with heap := h' }) :
    ∀ (k i : Nat) (h : Heap) (c : Nat) (acc : Array Value) (as : List Addr), n - i = k → i ≤ n → ZSt h z TI TO i1 i2 l1 l2 S xs ys i → (∀ b o, b ≠ S → b ∉ [z, TO, i1, i2] → h₁.get? b = some o → h.get? b = some o) →
      h.get? S = some { cls := .type "list", dict := none, data := .seq acc c, slots := #[] } → acc.toList = as.map Value.ref → as.length = i → ZG xs ys lo h as → lo ≤ h.objs.size →
      codeAny (model prog w) A (.builtin "list.extend.loop" ⟨[.ref S, .ref z, res], []⟩) R { s with heap := h } := by
  have hSw : S ∉ [z, TO, i1, i2] := fun hm => off S (by
    simp only [List.mem_cons, List.not_mem_nil, or_false] at hm ⊢
    rcases hm with e | e | e | e <;> simp [e]) rfl
  intro k
  induction k with
  | zero =>
    intro i h c acc as hk hi hst hkeep hS hacc hal hG hIs
    have hin : i = n := by omega
    have hend : xs[i]? = none ∨ ys[i]? = none := by
      rcases Nat.le_total xs.size ys.size with q | q
      · exact .inl (Array.getElem?_eq_none (by rw [hin, en, Nat.min_eq_left q]; exact Nat.le_refl _))
      · exact .inr (Array.getElem?_eq_none (by rw [hin, en, Nat.min_eq_right q]; exact Nat.le_refl _))
    refine codeAny_builtin PySem.F.entry_extend_loop ?_
    rw [Around.under_plainId PySem.F.plain_extend_loop _]
    show wpAny _ A.in1 (pyNext (.ref z) >>= _) _ _ _
    refine wpAny_bind (z_done (s := { s with heap := h }) (A := A.in1) hh D hst hend fun h' he => ?_)
    refine wpAny_pure (hR h' acc c as (fun b o q1 q2 e => he b o q2 (hkeep b o q1 q2 e)) (he S _ hSw hS) (by omega) ⟨hG.rise, hG.above, fun j a hj => ?_⟩ hacc)
    obtain ⟨x, y, e1, e2, e3⟩ := hG.pairs j a hj
    exact ⟨x, y, e1, e2, he a _ (fun hm => absurd (low a hm) (Nat.not_lt.mpr (hG.above a (List.mem_of_getElem? hj)))) e3⟩
  | succ k ih =>
    intro i h c acc as hk hi hst hkeep hS hacc hal hG hIs
    have hlt : i < n := by omega
    have hix : i < xs.size := by omega
    have hiy : i < ys.size := by omega
    have ex := Array.getElem?_eq_getElem hix
    have ey := Array.getElem?_eq_getElem hiy
    have hsz : acc.size = i := by rw [← Array.length_toList, hacc, List.length_map, hal]
    refine codeAny_builtin PySem.F.entry_extend_loop ?_
    rw [Around.under_plainId PySem.F.plain_extend_loop _]
    show wpAny _ A.in1 (pyNext (.ref z) >>= _) _ _ _
    refine wpAny_bind (z_item (s := { s with heap := h }) (S := S) D hst (Heap.lt_size hS) ex ey fun h' hst' ht hz hkp => ?_)
    dsimp only at ht hz hkp ⊢
    have hS' := hkp S _ hSw hS
    have up : ∀ b o, b ≠ S → h'.get? b = some o → (h'.update S (Obj.mapSeq (·.push (Value.ref h.objs.size)))).get? b = some o := fun b o hb e => (Heap.get?_update_other _ _ (Ne.symm hb)).trans e
    have hSl : S < h.objs.size := Heap.lt_size hS
    show wpAny _ A.in1 (updateSeq S (·.push (Value.ref h.objs.size)) >>= _) _ _ _
    refine wpAny_bind ?_
    refine wpAny_updateSeq hS' rfl (wpAny_pure ⟨plainId_quiet PySem.F.plain_extend_loop _, ih (i + 1) _ _ (acc.push (Value.ref h.objs.size)) (as ++ [h.objs.size]) (by omega) hlt (hst'.keep off up)
      (fun b o q1 q2 e => up b o q1 (hkp b o q2 (hkeep b o q1 q2 e))) (Heap.get?_update_self _ hS' rfl) (by rw [Array.toList_push, hacc, List.map_append]; rfl) (by rw [List.length_append, hal]; rfl) ⟨?_, ?_, ?_⟩ ?_⟩) (by rw [hsz]; omega) (by show (acc.push (Value.ref h.objs.size)).size ≤ sizeLine + 1; rw [Array.size_push, hsz]; omega)
    · refine List.pairwise_append.mpr ⟨hG.rise, List.pairwise_singleton _ _, fun a ha b hb => ?_⟩
      rw [List.mem_singleton.mp hb]
      exact hG.there ha
    · intro a ha
      rcases List.mem_append.mp ha with ha | ha
      · exact hG.above a ha
      · rw [List.mem_singleton.mp ha]; exact hIs
    · intro j b hj
      rcases Nat.lt_trichotomy j as.length with q | q | q
      · rw [List.getElem?_append_left q] at hj
        obtain ⟨x', y', e1, e2, e3⟩ := hG.pairs j b hj
        have hb := hG.above b (List.mem_of_getElem? hj)
        exact ⟨x', y', e1, e2, up b _ (Nat.ne_of_gt (Nat.lt_of_lt_of_le hSlo hb)) (hkp b _ (fun hm => absurd (low b hm) (Nat.not_lt.mpr hb)) e3)⟩
      · subst q
        have hb : h.objs.size = b := by simpa using hj
        subst hb
        exact ⟨_, _, by rw [hal]; exact ex, by rw [hal]; exact ey, up _ _ (Nat.ne_of_gt hSl) ht⟩
      · have hnone : (as ++ [h.objs.size])[j]? = none := List.getElem?_eq_none (by rw [List.length_append, List.length_singleton]; omega)
        rw [hnone] at hj; cases hj
    · have e : (h'.update S (Obj.mapSeq (·.push (Value.ref h.objs.size)))).get? h.objs.size = _ := up _ _ (Nat.ne_of_gt hSl) ht
      exact Nat.le_trans hIs (Nat.le_of_lt (Heap.lt_size e))
end
theorem zip_no_len : typeLookup (.type "zip") "__len__" = pure none := am_miss_of_fast (by decide +kernel)
theorem zip_no_hint : typeLookup (.type "zip") "__length_hint__" = pure none := am_miss_of_fast (by decide +kernel)
section
variable {prog : Program} {w : World} {A : Around} {E : Value → Shared → Prop} {s : Shared} {z TI TO i1 i2 l1 l2 : Addr} {xs ys : Array Value}
theorem z_hint {Q : Bool → Shared → Prop} (hT : s.TypeIs (.ref z) "zip") (h : Q true s) : wpAny (model prog w) A (Builtin.List.listLengthHint (.ref z)) Q E s := by
  unfold Builtin.List.listLengthHint
  refine wpAny_bind (wpAny_specialOf hT zip_no_len ?_)
  show wpAny _ _ (specialOf (Value.ref z) (Str.ofString "__length_hint__") >>= _) _ _ _
  refine wpAny_bind (wpAny_specialOf hT zip_no_hint ?_)
  exact wpAny_pure h
/-- the zip as a state at its beginning -/
def Z0 (h : Heap) (z TI TO i1 i2 l1 l2 : Addr) (xs ys : Array Value) : Prop := IsZip h z TI TO .none ∧ IsPair h TI (.ref i1) (.ref i2) ∧ (∃ a b, IsPair h TO a b) ∧ h.IsListIter i1 l1 0 ∧ h.IsListIter i2 l2 0 ∧ h.IsList l1 xs ∧ h.IsList l2 ys
theorem Z0.keep {h h' : Heap} (q : Z0 h z TI TO i1 i2 l1 l2 xs ys) (hk : ∀ b o, h.get? b = some o → h'.get? b = some o) : Z0 h' z TI TO i1 i2 l1 l2 xs ys := by
  obtain ⟨hz, hTI, ⟨a, b, hTO⟩, h1, h2, hl1, hl2⟩ := q
  exact ⟨hk _ _ hz, hk _ _ hTI, ⟨a, b, hk _ _ hTO⟩, h1.at fun o e => hk _ o e, h2.at fun o e => hk _ o e, hl1.at fun o e => hk _ o e, hl2.at fun o e => hk _ o e⟩
theorem Z0.lt {h : Heap} (q : Z0 h z TI TO i1 i2 l1 l2 xs ys) : ∀ b ∈ [z, TI, TO, i1, i2, l1, l2], b < h.objs.size := fun b hb => by
  obtain ⟨hz, hTI, ⟨a, c, hTO⟩, ⟨o1, h1, _⟩, ⟨o2, h2, _⟩, ⟨o3, hl1, _⟩, ⟨o4, hl2, _⟩⟩ := q
  simp only [List.mem_cons, List.not_mem_nil, or_false] at hb
  rcases hb with rfl | rfl | rfl | rfl | rfl | rfl | rfl
  all_goals first | exact Heap.lt_size hz | exact Heap.lt_size hTI | exact Heap.lt_size hTO | exact Heap.lt_size h1 | exact Heap.lt_size h2 | exact Heap.lt_size hl1 | exact Heap.lt_size hl2
theorem Z0.st {h : Heap} {S : Addr} (q : Z0 h z TI TO i1 i2 l1 l2 xs ys) : ZSt h z TI TO i1 i2 l1 l2 S xs ys 0 := by
  obtain ⟨hz, hTI, hTO, h1, h2, hl1, hl2⟩ := q
  exact ⟨hTI, h1, h2, hl1, hl2, .inl ⟨hz, hTO⟩⟩
theorem call_list_zip {Q : Value → Shared → Prop} (hh : A.handled = none) (D : ZipApart z TI TO i1 i2 l1 l2) (q : Z0 s.heap z TI TO i1 i2 l1 l2 xs ys) (hn : min xs.size ys.size ≤ sizeLine)
    (hQ : ∀ h' acc c as, (∀ b o, b ∉ [z, TO, i1, i2] → s.heap.get? b = some o → h'.get? b = some o) → h'.get? s.heap.objs.size = some { cls := .type "list", dict := none, data := .seq acc c, slots := #[] } → as.length = min xs.size ys.size →
      ZG xs ys (s.heap.objs.size + 1) h' as → acc.toList = as.map Value.ref → Q (.ref s.heap.objs.size) { s with heap := h' }) :
    wpAny (model prog w) A (call (.type "list") [.ref z]) Q E s := by
  refine callType_codes (Q₁ := fun obj s₁ => obj = .ref s.heap.objs.size ∧ s₁ = { s with heap := s.heap.push { cls := .type "list", data := .seq #[] } }) PySem.F.called_list (PySem.F.typeCall_list_1 _) PySem.F.entry_list_init
    (code_list_new _ ⟨rfl, rfl⟩) fun obj s₁ h₁ => ?_
  obtain ⟨rfl, rfl⟩ := h₁
  have hS : (s.heap.push { cls := .type "list", data := .seq #[] }).get? s.heap.objs.size = some { cls := .type "list", data := .seq #[] } := Heap.get?_push_size _ rfl
  have hlt := q.lt
  have off : ∀ b ∈ [z, TI, TO, i1, i2, l1, l2], b ≠ s.heap.objs.size := fun b hb => Nat.ne_of_lt (hlt b hb)
  refine ⟨⟨_, hS, rfl⟩, PySem.F.args_list_init_2 _ _, ?_⟩
  show wpAny _ A.in1.in1 (do let old ← Builtin.List.listItems (.ref s.heap.objs.size); Builtin.List.listUpdate (.ref s.heap.objs.size) (fun _ => #[]); letGo old.toList.reverse; Builtin.List.listExtendWith (.ref s.heap.objs.size) (.ref z) .none) _ _ _
  refine wpAny_bind ?_
  unfold Builtin.List.listItems
  refine wpAny_bind (wpAny_seqItems hS rfl (wpAny_pure ?_))
  show wpAny _ _ (updateSeq s.heap.objs.size (fun _ => #[]) >>= fun _ => letGo (#[] : Array Value).toList.reverse >>= fun _ => Builtin.List.listExtendWith (.ref s.heap.objs.size) (.ref z) .none) _ _ _
  refine wpAny_bind (wpAny_updateSeq hS rfl ?_)
  have hS2 := Heap.get?_update_self (Obj.mapSeq (fun _ => (#[] : Array Value))) hS rfl
  refine wpAny_bind (wpAny_letGo ?_)
  unfold Builtin.List.listExtendWith
  have up : ∀ (h : Heap) (f : Obj → Obj), (∀ b o, s.heap.get? b = some o → h.get? b = some o) → ∀ b o, s.heap.get? b = some o → (h.update s.heap.objs.size f).get? b = some o := fun h f q b o e =>
    (Heap.get?_update_other _ _ (Ne.symm (Nat.ne_of_lt (Heap.lt_size e)))).trans (q b o e)
  have k1 : ∀ b o, s.heap.get? b = some o → (s.heap.push { cls := .type "list", data := .seq #[] }).get? b = some o := fun b o e => Heap.get?_push_of_some _ e
  have k2 := up _ (Obj.mapSeq (fun _ => (#[] : Array Value))) k1
  have zty : ∀ {h : Heap}, (∀ b o, s.heap.get? b = some o → h.get? b = some o) → ({ s with heap := h } : Shared).TypeIs (.ref z) "zip" := fun {h} k => ⟨_, k _ _ q.1, rfl⟩
  refine wpAny_bind (wpAny_typeOf (zty k2) ?_)
  have h1 : Builtin.List.listSameRef (.ref s.heap.objs.size) (.ref z) = false := by
    simp only [Builtin.List.listSameRef, beq_eq_false_iff_ne]
    exact Ne.symm (off z (by simp))
  have h2 : (Value.type "zip" == Value.type "list") = false := by decide
  have h3 : (Value.type "zip" == Value.type "tuple") = false := by decide
  simp only [h1, h2, h3, Bool.or_false, Bool.false_eq_true, if_false]
  refine wpAny_bind (wpAny_pyIter_zip (k2 _ _ q.1) ?_)
  refine wpAny_bind (wpAny_holding (z_hint (zty k2) ?_))
  show wpAny _ _ (rule "list.extend.makes-room" >>= fun _ => Builtin.List.listTouch (.ref s.heap.objs.size) >>= fun _ =>
    again (.builtin "list.extend.loop" ⟨[.ref s.heap.objs.size, .ref z, .none], []⟩)) _ _ _
  refine wpAny_bind (wpAny_rule ?_)
  refine wpAny_bind ?_
  show wpAny _ _ (updateSeq s.heap.objs.size (·.push .none) >>= fun _ => updateSeq s.heap.objs.size (·.pop)) _ _ _
  refine wpAny_bind (wpAny_updateSeq hS2 rfl ?_)
  have hS3 := Heap.get?_update_self (Obj.mapSeq (·.push Value.none)) hS2 rfl
  refine wpAny_updateSeq (hz := by seq_fits) hS3 rfl ?_
  have hS4 := Heap.get?_update_self (Obj.mapSeq (·.pop)) hS3 rfl
  have k4 := up _ (Obj.mapSeq (·.pop)) (up _ (Obj.mapSeq (·.push Value.none)) k2)
  have sz : (((((s.heap.push { cls := .type "list", data := .seq #[] }).update s.heap.objs.size (Obj.mapSeq (fun _ => (#[] : Array Value)))).update s.heap.objs.size (Obj.mapSeq (·.push Value.none))).update s.heap.objs.size (Obj.mapSeq (·.pop)))).objs.size = s.heap.objs.size + 1 := by
    rw [Heap.size_update, Heap.size_update, Heap.size_update, Heap.size_push]
  refine wpAny_pure ⟨plainId_quiet PySem.F.plain_extend_loop _, z_loop (A := A.in1) (s := s) (lo := s.heap.objs.size + 1) hh D off (fun b hb => Nat.lt_succ_of_lt (hlt b (by
      simp only [List.mem_cons, List.not_mem_nil, or_false] at hb ⊢
      rcases hb with e | e | e | e <;> simp [e]))) (Nat.lt_succ_self _) rfl hn .none (h₁ := s.heap) (fun h' acc c as hk hS' hl hG hacc => ⟨rfl, hQ h' acc c as (fun b o hb e => hk b o (Nat.ne_of_lt (Heap.lt_size e)) hb e) hS' hl hG hacc⟩)
    _ 0 _ _ #[] [] rfl (Nat.zero_le _) (q.keep k4).st (fun b o _ _ e => k4 b o e) hS4 rfl rfl ⟨List.Pairwise.nil, (fun _ ha => nomatch ha), (fun j a hj => by simp at hj)⟩ (Nat.le_of_eq sz.symm)⟩
end
end Zl
namespace Zl
open PySem PySem.Spec PyProof.Rows L2
/-- a new list of new pairs -/
def Pairs (H H' : Hp) (p : Addr) (xs ys : List V) : Prop := (∀ b o, H b = some o → H' b = some o) ∧ H p = none ∧ ∃ ts : List Addr, H' p = some (.lst (ts.map V.ref)) ∧ ts.length = min xs.length ys.length ∧ (∀ t ∈ ts, H t = none) ∧
  ∀ (j : Nat) (t : Addr), ts[j]? = some t → ∃ x y, xs[j]? = some x ∧ ys[j]? = some y ∧ H' t = some (.tup [x, y])
def lay (H : Hp) : List Addr → List V → List V → Hp
  | a :: as, x :: xs, y :: ys => upd (lay H as xs ys) a (.tup [x, y])
  | _, _, _ => H
theorem lay_out {H : Hp} : ∀ {as : List Addr} {xs ys : List V} {b : Addr}, b ∉ as → lay H as xs ys b = H b
  | [], _, _, _, _ => rfl
  | _ :: _, [], _, _, _ => rfl
  | _ :: _, _ :: _, [], _, _ => rfl
  | a :: as, x :: xs, y :: ys, b, h => by
    obtain ⟨h1, h2⟩ := not_or.mp fun z => h (List.mem_cons.mpr z)
    show upd (lay H as xs ys) a (.tup [x, y]) b = _
    rw [upd_ne h1]
    exact lay_out h2
theorem lay_at {H : Hp} : ∀ {as : List Addr} {xs ys : List V} {j : Nat} {t : Addr} {x y : V}, as.Pairwise (· < ·) → as[j]? = some t → xs[j]? = some x → ys[j]? = some y → lay H as xs ys t = some (.tup [x, y])
  | [], _, _, _, _, _, _, _, h, _, _ => by simp at h
  | _ :: _, [], _, _, _, _, _, _, _, h, _ => by simp at h
  | _ :: _, _ :: _, [], _, _, _, _, _, _, _, h => by simp at h
  | a :: as, x' :: xs, y' :: ys, 0, t, x, y, _, h1, h2, h3 => by
    cases h1
    cases h2
    cases h3
    exact upd_same
  | a :: as, x' :: xs, y' :: ys, j + 1, t, x, y, hp, h1, h2, h3 => by
    obtain ⟨p1, p2⟩ := List.pairwise_cons.mp hp
    have h1 : as[j]? = some t := h1
    have ne : t ≠ a := Nat.ne_of_gt (p1 t (List.mem_of_getElem? h1))
    show upd (lay H as xs ys) a (.tup [x', y']) t = _
    rw [upd_ne ne]
    exact lay_at p2 h1 h2 h3
theorem lay_inv {H : Hp} : ∀ {as : List Addr} {xs ys : List V} {b : Addr} {o : HO}, lay H as xs ys b = some o → H b = some o ∨ ∃ (j : Nat) (x y : V), as[j]? = some b ∧ xs[j]? = some x ∧ ys[j]? = some y ∧ o = .tup [x, y]
  | [], _, _, _, _, h => .inl h
  | _ :: _, [], _, _, _, h => .inl h
  | _ :: _, _ :: _, [], _, _, h => .inl h
  | a :: as, x :: xs, y :: ys, b, o, h => by
    have h : upd (lay H as xs ys) a (.tup [x, y]) b = some o := h
    by_cases e : b = a
    · subst e
      rw [upd_same] at h
      exact .inr ⟨0, x, y, rfl, rfl, rfl, (Option.some.inj h).symm⟩
    · rw [upd_ne e] at h
      rcases lay_inv h with q | ⟨j, x', y', q1, q2, q3, q4⟩
      · exact .inl q
      · exact .inr ⟨j + 1, x', y', q1, q2, q3, q4⟩
theorem vals_refs : ∀ as : List Addr, Vals (as.map V.ref) (as.map Value.ref)
  | [] => .nil
  | _ :: as => .cons rfl (vals_refs as)
section
variable {X : Cx} {pins : List (Addr × Obj)} {σ : L2.St} {H : Hp} {s : Shared}
theorem pairs_laid (I : Inv X pins σ H s) {xs ys : List V} {us vs : List Value} (rx : Vals xs us) (ry : Vals ys vs) {h' : Heap} {S : Addr} {acc : Array Value} {c : Nat} {as : List Addr} (hk : ∀ b o, s.heap.get? b = some o → h'.get? b = some o) (hS0 : s.heap.objs.size ≤ S)
    (hn : as.length ≤ sizeLine) (eS : h'.get? S = some { cls := .type "list", dict := none, data := .seq acc c, slots := #[] }) (hl : as.length = min us.length vs.length) (hG : ZG us.toArray vs.toArray (S + 1) h' as) (ea : acc.toList = as.map Value.ref) :
    ∃ H', Inv X pins σ H' { s with heap := h' } ∧ Pairs H H' S xs ys := by
  have up : ∀ b o, H b = some o → b ≠ S ∧ b ∉ as := fun b o e => by
    have lt := I.hok.lt e
    refine ⟨fun z => by rw [z] at lt; exact absurd lt (Nat.not_lt.mpr hS0), fun z => ?_⟩
    exact absurd (Nat.lt_of_lt_of_le (Nat.lt_succ_of_le hS0) (hG.above b z)) (Nat.not_lt.mpr (Nat.le_of_lt lt))
  have same : ∀ b o, H b = some o → upd (lay H as xs ys) S (.lst (as.map V.ref)) b = some o := fun b o e => by
    obtain ⟨h1, h2⟩ := up b o e
    rw [upd_ne h1, lay_out h2]
    exact e
  have lx := rx.length
  have ly := ry.length
  have fresh : ∀ b, s.heap.objs.size ≤ b → H b = none := fun b e => I.hok.fresh e
  have at_ : ∀ (j : Nat) (t : Addr), as[j]? = some t → ∃ x y u v, xs[j]? = some x ∧ ys[j]? = some y ∧ RelV x u ∧ RelV y v ∧ h'.get? t = some { cls := .type "tuple", data := .seq #[u, v] } := fun j t e => by
    obtain ⟨u, v, e1, e2, e3⟩ := hG.pairs j t e
    have jl : j < as.length := (List.getElem?_eq_some_iff.mp e).1
    have jx : j < xs.length := by omega
    have jy : j < ys.length := by omega
    obtain ⟨u', eu, ru⟩ := rx.get (List.getElem?_eq_getElem jx)
    obtain ⟨v', ev, rv⟩ := ry.get (List.getElem?_eq_getElem jy)
    have e1 : us[j]? = some u := by simpa using e1
    have e2 : vs[j]? = some v := by simpa using e2
    rw [eu] at e1
    rw [ev] at e2
    cases e1
    cases e2
    exact ⟨_, _, _, _, List.getElem?_eq_getElem jx, List.getElem?_eq_getElem jy, ru, rv, e3⟩
  refine ⟨upd (lay H as xs ys) S (.lst (as.map V.ref)), I.un (t' := s.toks) ⟨fun b o e _ _ _ => hk b o e, fun b o e _ _ _ => ⟨o.slots, hk b o e⟩, fun b o e n _ => ?_, fun b o e _ => ⟨o, hk b o e⟩, fun b zs e => same b _ e, fun b o u e => same b _ e, fun b ps e => ⟨#[], by rw [Array.append_empty]; exact same b _ e⟩⟩ (fun b o e => ?_),
    same, fresh S hS0, as, upd_same, by rw [lx, ly]; exact hl, fun t ht => fresh t (Nat.le_trans (Nat.le_succ_of_le hS0) (hG.above t ht)), fun j t e => ?_⟩
  · have lt : b < s.heap.objs.size := Heap.lt_size e
    have h1 : b ≠ S := Nat.ne_of_lt (Nat.lt_of_lt_of_le lt hS0)
    have h2 : b ∉ as := fun z => absurd (Nat.lt_of_lt_of_le (Nat.lt_succ_of_le hS0) (hG.above b z)) (Nat.not_lt.mpr (Nat.le_of_lt lt))
    rw [upd_ne h1, lay_out h2]
    exact n
  · by_cases hb : b = S
    · subst hb
      rw [upd_same] at e
      cases e
      exact ⟨by rw [List.length_map]; exact hn, acc.toList, c, by rw [ea]; exact vals_refs as, by rw [eS]⟩
    · rw [upd_ne hb] at e
      rcases lay_inv e with q | ⟨j, x, y, q1, q2, q3, rfl⟩
      · exact (I.hok b o q).stay (fun c v _ z => hk c v z) (fun d z => same d _ z) fun d zs z => same d _ z
      · obtain ⟨x', y', u, v, e1, e2, r1, r2, e3⟩ := at_ j b q1
        rw [q2] at e1
        rw [q3] at e2
        cases e1
        cases e2
        exact ⟨by show 2 ≤ sizeLine; decide, [u, v], .cons r1 (.cons r2 .nil), ⟨_, e3, rfl, _, rfl⟩⟩
  · obtain ⟨x, y, _, _, e1, e2, _⟩ := at_ j t e
    refine ⟨x, y, e1, e2, ?_⟩
    have hne : t ≠ S := fun z => absurd (hG.above t (List.mem_of_getElem? e)) (by rw [z]; exact Nat.not_succ_le_self S)
    rw [upd_ne hne]
    exact lay_at hG.rise e e1 e2
end
/-- list(zip(e, e2)) -/
def tListZip (K : PySem.W.Frag) (ta : TA) : TE := fun σ H Q => ta σ H fun vs H1 => ∃ a b xs ys, vs = [.ref a, .ref b] ∧ SqL K H1 a xs ∧ SqL K H1 b ys ∧ min xs.length ys.length ≤ sizeLine ∧ ∀ p H2, Pairs H1 H2 p xs ys → Q (.ref p) H2
theorem pe_listZip {X : Cx} {e e2 : Expr} {ta : TA} {p p2 pos pos2 : Pos} (hh : X.calm = true) (hgl : Gl X "list") (hml : X.mg "list" = none) (hg : Gl X "zip") (hm : X.mg "zip" = none) (ha : PA X [e, e2] ta) (hbl : bootBuiltins ("list" : Str) = some (.type "list"))
    (hs : starEach [e, e2] X.env = (false, eval e X.env) :: starEach [e2] X.env := by rfl) (hpl : (backTo pos2 (starEach [e2] X.env)).any (·.1) = false := by rfl)
    (hs1 : starEach [Expr.Call (.Name "zip" p2) [e, e2] [] pos2] X.env = (false, eval (Expr.Call (.Name "zip" p2) [e, e2] [] pos2) X.env) :: starEach [] X.env := by rfl) :
    PE X (.Call (.Name "list" p) [.Call (.Name "zip" p2) [e, e2] [] pos2] [] pos) (tListZip X.K ta) := by
  refine ⟨fun pins s σ H Q I h => ?_⟩
  refine wpAny_Call_Name_kw (ld_blt I hgl hml hbl ?_)
  refine PyProof.Rows.callWith_type1 ?_ hs1 (by rfl)
  rw [hs1]
  show wpAny _ _ (spliced ((false, eval (Expr.Call (.Name "zip" p2) [e, e2] [] pos2) X.env) :: backTo pos (starEach [] X.env))) _ _ s
  refine Calls.spliced_cons ?_
  refine Call_ (ld_blt I hg hm PyProof.Rows.boot_zip (PyProof.Rows.callWith_type1 (thn (ha.run _ pins s σ H _ I h) fun us s1 ⟨vs, H1, I1, r1, q1⟩ => ?_) hs hpl))
  obtain ⟨a, b, xs, ys, ex, hqx, hqy, hn, q⟩ := q1
  subst ex
  cases r1 with
  | cons r rr =>
    cases rr with
    | cons r' rr =>
      cases rr
      cases r
      cases r'
      obtain ⟨its, rv, p1, _⟩ := I1.list hqx
      obtain ⟨its2, rv2, p2', _⟩ := I1.list hqy
      have la : a < s1.heap.objs.size := p1.lt
      have lb : b < s1.heap.objs.size := p2'.lt
      refine call_zip_2 p1.isList p2'.isList fun h' hz hTI hTO h1 h2 hsz hk => ?_
      have D := PySem.W.ktu_apart s1.heap.objs.size a b la lb
      have e1 := rv.length
      have e2 := rv2.length
      have sz1 : its.toArray.size = its.length := by simp
      have sz2 : its2.toArray.size = its2.length := by simp
      refine Calls.spliced_nil ?_
      refine call_list_zip (s := { s1 with heap := h' }) (I1.ok.hd hh) D ⟨hz, hTI, ⟨_, _, hTO⟩, h1, h2, p1.isList.at fun o z => hk _ o z, p2'.isList.at fun o z => hk _ o z⟩ (by rw [sz1, sz2]; omega) fun h2 acc c as kk eS hl hG ea => ?_
      have keep : ∀ b o, s1.heap.get? b = some o → h2.get? b = some o := fun b o z => kk b o (fun hm => by
        have lt : b < s1.heap.objs.size := Heap.lt_size z
        have : b = s1.heap.objs.size + 4 ∨ b = s1.heap.objs.size + 3 ∨ b = s1.heap.objs.size ∨ b = s1.heap.objs.size + 1 := by simpa using hm
        have no : ∀ k : Nat, b ≠ s1.heap.objs.size + k := fun k q => absurd lt (by rw [q]; exact Nat.not_lt.mpr (Nat.le_add_right _ _))
        rcases this with q | q | q | q
        · exact no 4 q
        · exact no 3 q
        · exact no 0 q
        · exact no 1 q) (hk b o z)
      have hsz : h'.objs.size = s1.heap.objs.size + 5 := hsz
      obtain ⟨H2, J, P2⟩ := pairs_laid (s := s1) I1 rv rv2 (S := h'.objs.size) keep (by omega) (by rw [hl, sz1, sz2]; omega) eS (by rw [hl, sz1, sz2]) hG ea
      exact ⟨.ref h'.objs.size, H2, J, rfl, q _ _ P2⟩
end Zl

set_option Elab.async false
set_option linter.all false
set_option maxRecDepth 100000
set_option maxHeartbeats 4000000
/-! The rests of a rule. -/
namespace Ld
open PySem PySem.Spec PyProof.Rows L2 Lg Lr Lb
section
variable {α : Type} (f : α → Option Cost → Option Cost) (init : Option Cost)
def backF : List α → List (Option Cost) → List (Option Cost)
  | [], acc => acc
  | x :: r, acc => backF r (acc ++ [f x (acc.getLastD none)])
def restsF : List α → List (Option Cost)
  | [] => [init]
  | x :: r => f x ((restsF r).headD none) :: restsF r
theorem backF_app : ∀ (a b : List α) (acc : List (Option Cost)), backF f (a ++ b) acc = backF f b (backF f a acc)
  | [], _, _ => rfl
  | s :: a, b, acc => backF_app a b _
theorem back_restsF : ∀ l : List α, backF f l.reverse [init] = (restsF f init l).reverse
  | [] => rfl
  | s :: r => by
    rw [List.reverse_cons, backF_app, back_restsF r]
    show (restsF f init r).reverse ++ [f s ((restsF f init r).reverse.getLastD none)] = _
    rw [head_last]
    show _ = (f s ((restsF f init r).headD none) :: restsF f init r).reverse
    rw [List.reverse_cons]
theorem backF_len : ∀ (l : List α) (acc : List (Option Cost)), (backF f l acc).length = acc.length + l.length
  | [], _ => rfl
  | s :: r, acc => by
    show (backF f r _).length = _
    rw [backF_len r, List.length_append, List.length_cons, List.length_cons, List.length_nil]
    omega
theorem backF_next {L : List α} {n : Nat} {s : α} (h : L[n]? = some s) (acc : List (Option Cost)) : backF f (L.take (n + 1)) acc = backF f (L.take n) acc ++ [f s ((backF f (L.take n) acc).getLastD none)] := by
  rw [List.take_add_one, h, backF_app]
  rfl
theorem restsF_len : ∀ l : List α, (restsF f init l).length = l.length + 1
  | [] => rfl
  | _ :: r => by
    show (restsF f init r).length + 1 = _
    rw [restsF_len r, List.length_cons]
end
def pcF (o : Str → Option Cost) (x : Str × Piece) (c : Option Cost) : Option Cost := leastO [x.2.inn, addO x.2.ahd c, addO (o x.1) x.2.beh]
theorem rel_of {α : Type} {R : V → α → Prop} : ∀ {vs : List V} {xs : List α}, vs.length = xs.length → (∀ (j : Nat) v x, vs[j]? = some v → xs[j]? = some x → R v x) → Rel2 R vs xs
  | [], [], _, _ => True.intro
  | v :: vs, x :: xs, l, h => ⟨h 0 v x rfl rfl, rel_of (by simpa using l) fun j => h (j + 1)⟩
  | [], _ :: _, l, _ => by simp at l
  | _ :: _, [], l, _ => by simp at l
/-- a pair of a text and a piece -/
def ZpA (H : Hp) (v : V) (x : Str × Piece) : Prop := ∃ t y, v = .ref t ∧ H t = some (.tup [.str x.1, y]) ∧ PcA H y x.2
theorem ZpA.tupS {A B : Hp} (u : TupS A B) (v : V) (x : Str × Piece) (h : ZpA A v x) : ZpA B v x := let ⟨t, y, e, ht, p⟩ := h; ⟨t, y, e, u _ _ ht, PcA.tupS u _ _ p⟩
section
variable {P : Program} {w : World} {K : PySem.W.Frag} {mg : Str → Option Value} {base : Heap}
theorem scRs : FnScope ["symbols", "over", "pieces", "rests", "symbol", "inner", "ahead", "behind"] ["symbols", "over", "pieces"] (defScope s__rests_of) := ⟨rfl, rfl, rfl, by decide +kernel, rfl, by decide +kernel, by decide +kernel⟩
def spRs : Sp := fun vs H Q _ => ∃ (l d : Addr) (v : V) (ss : List Str) (o : Str → Option Cost), vs = [.ref l, .ref d, v] ∧ H l = some (.lst (ss.map V.str)) ∧ ss.length ≤ 100 ∧ OverA H d ss o ∧
  ((v = .non ∧ ∀ p ws H2, Same H H2 → H p = none → H2 p = some (.lst ws) → Rel2 (CostV H2) ws (restsN o ss) → Q (.ref p) H2) ∨
  ∃ ps, PcsA H v ps ∧ ps.length = ss.length ∧ ∀ p ws H2, Same H H2 → H p = none → H2 p = some (.lst ws) → Rel2 (CostV H2) ws (restsF (pcF o) none (ss.zip ps)) → Q (.ref p) H2)
theorem ok_rs {f fN fA fL : Addr} {fd fdN fdA fdL : FuncData} (F : Fun K "_rests_of" "_rests_of" s__rests_of f fd)
    (GN : FnOk P w K mg base CX0 2 fN fdN ["symbols", "over"] spRn) (kN' : PySem.W.keepIn K (.ref fN) = true) (bN : Binds K fdN ["symbols", "over"] []) (gN : mg "_rests_over_nothing" = some (.ref fN))
    (GA : FnOk P w K mg base CX0 1 fA fdA ["one", "two"] spAd) (kA : PySem.W.keepIn K (.ref fA) = true) (bA : Binds K fdA ["one", "two"] []) (gA : mg "added" = some (.ref fA))
    (GL : FnOk P w K mg base CX0 1 fL fdL ["costs"] spLs) (kL : PySem.W.keepIn K (.ref fL) = true) (bL : Binds K fdL ["costs"] []) (gL : mg "least" = some (.ref fL))
    (mz : mg "zip" = none) (mli : mg "list" = none) : FnOk P w K mg base CX0 3 f fd ["symbols", "over", "pieces"] spRs := by
  refine F.ok scRs (fun vs H Q E h => ?_) (fun cdv A outer s H vs Q E hr h => ?_)
  · obtain ⟨l, d, v, ss, o, rfl, _⟩ := h
    rfl
  · obtain ⟨l, d, v, ss, o, rfl, hl, few, ov, cs⟩ := h
    have hr1 := hr.mono (show 1 ≤ 2 by decide)
    refine ⟨_, pss_cons (ps_if (pt_cmpR op_isN (pv 2) pe_non (nomark _)) (pss_one (ps_ret (pe_call GN hr (by rfl) gN kN' bN .nil pass0 (pa_cons (pv 0) (pa_cons (pv 1) pa_nil))))) pss_nil)
      (pss_cons (ps_set (i := 3) scRs.nd rfl (.inl rfl) (pe_lst (pa_cons pe_non pa_nil)))
      (pss_cons (ps_for PassesOwn.never rfl (pi_list (pe_revL (Zl.pe_listZip rfl (by rfl) mli (by rfl) mz (pa_cons (pv 0) (pa_cons (pv 2) pa_nil)) (by decide +kernel)))) (pg_tup rfl (pgs_cons (pg_name (i := 4) scRs.nd rfl (.inl rfl)) (pgs_cons (pg_tup rfl (pgs_cons (pg_name (i := 5) scRs.nd rfl (.inl rfl)) (pgs_cons (pg_name (i := 6) scRs.nd rfl (.inl rfl)) (pgs_cons (pg_name (i := 7) scRs.nd rfl (.inl rfl)) pgs_nil)))) pgs_nil)))
        (pss_one (ps_expr (pe_bm PySem.F.plainAttrs_list PySem.F.slot_list_append PySem.F.type_list_append mt_append (pv 3) (pa_cons
          (pe_call GL hr1 (by rfl) gL kL bL .nil pass0 (pa_cons (pe_lst (pa_cons (pv 5) (pa_cons (pe_call GA hr1 (by rfl) gA kA bA .nil pass0 (pa_cons (pv 6) (pa_cons (pe_ix ix_list (pv 3) (pe_un un_neg pe_int) (fun _ _ => rfl)) pa_nil)))
            (pa_cons (pe_call GA hr1 (by rfl) gA kA bA .nil pass0 (pa_cons (pe_dget (units1 hr) (pv 1) (pv 4) (fun _ _ => rfl)) (pa_cons (pv 7) pa_nil))) pa_nil)))) pa_nil)) pa_nil)))))
      (pss_one (ps_ret (pe_revL (pv 3)))))), ?_⟩
    refine ⟨_, rfl, rfl, _, rfl, ?_⟩
    rcases cs with ⟨rfl, q⟩ | ⟨ps, ⟨a, ws, rfl, ha, rel⟩, lp, q⟩
    · refine iteT ⟨_, rfl, _, rfl, l, d, ss, o, rfl, hl, few, ov, q⟩
    · refine iteF ?_
      have lw := rel.len
      refine ⟨(by show 1 ≤ sizeLine; decide), fun rp nrp => ?_⟩
      have s0 : Same H (upd H rp (.lst [.non])) := same_upd nrp
      have hp0 : upd H rp (.lst [.non]) rp = some (.lst [.non]) := upd_same
      generalize upd H rp (.lst [.non]) = A0 at s0 hp0
      refine ⟨_, rfl, _, rfl, l, a, _, _, rfl, SqL.of (s0 _ _ hl), SqL.of (s0 _ _ ha), million0 (by rw [List.length_map]; omega), fun zp A1 pr => ?_⟩
      obtain ⟨s1, nz, ts, hz, lt, _, each⟩ := pr
      have s1 : Same A0 A1 := s1
      have lts : ts.length = ss.length := by rw [lt, List.length_map]; omega
      have s01 := s0.trans s1
      have relZ : Rel2 (ZpA A1) (ts.map V.ref) (ss.zip ps) := rel_of (by rw [List.length_map, List.length_zip]; omega) fun j v x hv hx => by
        rw [List.getElem?_map] at hv
        cases e : ts[j]? with
        | none => rw [e] at hv; cases hv
        | some t =>
          rw [e] at hv
          have hv : V.ref t = v := Option.some.inj hv
          obtain ⟨x1, y1, e1, e2, e3⟩ := each j t e
          obtain ⟨sy, pc⟩ := x
          obtain ⟨z1, z2⟩ := List.getElem?_zip_eq_some.mp hx
          rw [List.getElem?_map, z1] at e1
          obtain ⟨v2, g2, p2⟩ := rel.at z2
          rw [g2] at e2
          cases e1
          cases e2
          exact ⟨t, y1, hv.symm, e3, PcA.tupS (TupS.of_same s01) _ _ p2⟩
      refine ⟨zp, _, rfl, SqL.of hz, fun r nr => ?_⟩
      have s2 : Same A1 (upd A1 r (.lst (ts.map V.ref).reverse)) := same_upd nr
      have hr' : upd A1 r (.lst (ts.map V.ref).reverse) r = some (.lst (ts.map V.ref).reverse) := upd_same
      have relR := (relZ.mono (ZpA.tupS (TupS.of_same s2))).reverse
      generalize upd A1 r (.lst (ts.map V.ref).reverse) = A2 at s2 hr' relR
      have s12 := s1.trans s2
      have pr : rp ≠ r := ne_of_none (s1 _ _ hp0) nr
      have lz : (ss.zip ps).length = ss.length := by rw [List.length_zip]; omega
      generalize hZ : (ts.map V.ref).reverse = zs at hr' relR
      have lzs : zs.length = ss.length := by rw [← hZ, List.length_reverse, List.length_map, lts]
      refine ⟨r, rfl, ⟨_, SqL.of hr'⟩, for_list (a := r) (xs := zs) (fun n σ H' => ∃ (v4 v5 v6 v7 : Option V) (us : List V), σ = [some (.ref l), some (.ref d), some (.ref a), some (.ref rp), v4, v5, v6, v7] ∧ Same H H' ∧ TupS A2 H' ∧ H' r = some (.lst zs) ∧ H' rp = some (.lst us) ∧ Rel2 (CostV H') us (backF (pcF o) ((ss.zip ps).reverse.take n) [none]))
        ⟨none, none, none, none, [.non], rfl, s0.trans s12, fun _ _ z => z, hr', s12 _ _ hp0, ⟨rfl, True.intro⟩⟩ (fun n σ H' _ ⟨_, _, _, _, _, _, _, _, h, _⟩ => SqL.of h) ?_ ?_⟩
      · rintro n x σ H' hx ⟨v4, v5, v6, v7, us, rfl, s', tS, hrr, hpp, relU⟩
        obtain ⟨⟨y, pc⟩, hy, t, pv_, rfl, ht, b, v1, v2, v3, rfl, hb, c1, c2, c3⟩ := relR.get hx
        have ym : y ∈ ss := by
          have m := List.mem_reverse.mp (List.mem_of_getElem? hy)
          exact (List.of_mem_zip m).1
        have ht := tS _ _ ht
        have hb := tS _ _ hb
        have c1 := c1.tupS tS
        have c2 := c2.tupS tS
        have c3 := c3.tupS tS
        obtain ⟨kvs, hd, cost⟩ := ov.same s'
        obtain ⟨v, hv, cv⟩ := cost y ym
        have len := relU.len
        have tl : ((ss.zip ps).reverse.take n).length ≤ 100 := Nat.le_trans (List.length_take_le' _ _) (by rw [List.length_reverse]; omega)
        have blen : (backF (pcF o) ((ss.zip ps).reverse.take n) [none]).length = ((ss.zip ps).reverse.take n).length + 1 := by rw [backF_len, List.length_singleton]; omega
        have nx := backF_next (pcF o) hy [none]
        generalize backF (pcF o) ((ss.zip ps).reverse.take n) [none] = L at relU len blen nx
        rw [nx]
        generalize ((ss.zip ps).reverse.take n).length = k at tl blen
        obtain ⟨c, hc⟩ : ∃ c, L[k]? = some c := ⟨L[k]'(by omega), List.getElem?_eq_getElem (by omega)⟩
        obtain ⟨x, hx2, cx⟩ := relU.at hc
        rw [last_get blen hc]
        have gd := DGet.k (k := Sum.inr y) hd
        rw [hv] at gd
        refine ⟨t, _, rfl, SqT.of ht, rfl, _, _, rfl, _, _, rfl, ⟨b, _, rfl, SqT.of hb, rfl, _, _, rfl, _, _, rfl, _, _, rfl, rfl, rfl, ?_⟩⟩
        refine ⟨_, rfl, .inl ⟨rfl, _, SqL.of hpp⟩, ?_⟩
        refine ⟨_, rfl, _, rfl, _, rfl, 1, rfl, rp, us, -1, x, rfl, rfl, SqL.of hpp, at_neg (len.trans blen) hx2, ?_⟩
        refine ⟨v2, x, pc.ahd, c, rfl, c2, cx, fun u H2 s3 cu => ?_⟩
        have gd := DGet.k (k := Sum.inr y) (s3 _ _ hd)
        rw [hv] at gd
        refine ⟨_, rfl, _, rfl, d, v, rfl, gd, _, rfl, ?_⟩
        refine ⟨v, v3, o y, pc.beh, rfl, cv.same s3, c3.same s3, fun u2 H3 s4 cu2 => ?_⟩
        have s34 := s3.trans s4
        refine ⟨(by show 3 ≤ sizeLine; decide), fun q3 nq3 => ?_⟩
        have s5 : Same H3 (upd H3 q3 (.lst [v1, u, u2])) := same_upd nq3
        have hq3 : upd H3 q3 (.lst [v1, u, u2]) q3 = some (.lst [v1, u, u2]) := upd_same
        generalize upd H3 q3 (.lst [v1, u, u2]) = H4 at s5 hq3
        refine ⟨q3, [v1, u, u2], [pc.inn, addO pc.ahd c, addO (o y) pc.beh], rfl, hq3, ⟨c1.same (s34.trans s5), cu.same (s4.trans s5), cu2.same s5, True.intro⟩, (by show 3 ≤ 1000; decide), fun u3 H5 s6 cu3 => ?_⟩
        have s36 := (s34.trans s5).trans s6
        have hp5 := s36 _ _ hpp
        refine ⟨rp, us, u3, rfl, rfl, hp5, million1 (by rw [len, blen]; omega), _, _, _, _, us ++ [u3], rfl, same_put (s'.trans s36) nrp, ?_, ?_, upd_same, ?_⟩
        · exact (tS.trans (TupS.of_same s36)).trans (.at_lst hp5)
        · rw [upd_ne (Ne.symm pr)]
          exact s36 _ _ hrr
        · exact (relU.mono fun v c h => CostV.tupS (.at_lst hp5) (h.same s36)).snoc (CostV.tupS (.at_lst hp5) cu3)
      · rintro σ H' ⟨v4, v5, v6, v7, us, rfl, s', tS, hrr, hpp, relU⟩
        have tk : (ss.zip ps).reverse.take zs.length = (ss.zip ps).reverse := List.take_of_length_le (by rw [List.length_reverse]; omega)
        rw [tk, back_restsF] at relU
        refine ⟨_, rfl, rp, us, rfl, SqL.of hpp, fun p2 np2 => ?_⟩
        refine q p2 us.reverse _ (s'.trans (same_upd np2)) (s'.free np2) upd_same ?_
        have z : Same H' (upd H' p2 (.lst us.reverse)) := same_upd np2
        have := (relU.mono fun v c h => CostV.same z h).reverse
        rw [List.reverse_reverse] at this
        exact this
end
end Ld

set_option Elab.async false
set_option linter.all false
set_option maxRecDepth 100000
set_option maxHeartbeats 4000000
/-! Rests made from pieces are the least ones: mathematics. -/
namespace Ld
open PySem PySem.Spec PyProof.Rows L2 Lg Lr Lb
theorem addO_some {a b : Option Cost} {c : Cost} : addO a b = some c ↔ ∃ x y, a = some x ∧ b = some y ∧ c = (x.1 + y.1, x.2 + y.2) := by
  cases a <;> cases b <;> simp [addO, eq_comm]
theorem comb_iff {B : Pb} {T : Nat → Nat → Ent} {r d i j : Nat} {N : Str} {ss : List Str} {k : Str} (hr : B.G[r]? = some (N, ss)) (hk : ss[d]? = some k) (c : Cost) :
    CombC B T r d i j c ↔ ∃ e, i ≤ e ∧ e ≤ j ∧ addO (headC B T k i e) ((T e j).rs r (d + 1)) = some c := by
  have dl : d < ss.length := (List.getElem?_eq_some_iff.mp hk).1
  constructor
  · rintro ⟨N', ss', hr', ⟨e1, _⟩ | ⟨k', e, a, b, hk', h1, h2, hb, ha, rfl⟩⟩
    · rw [hr] at hr'
      cases hr'
      omega
    · rw [hr] at hr'
      cases hr'
      rw [hk] at hk'
      cases hk'
      refine ⟨e, h1, h2, addO_some.mpr ⟨a, b, ?_, hb, rfl⟩⟩
      unfold headC
      rcases ha with ⟨n, rfl⟩ | ⟨n, q⟩
      · rw [if_neg (by rw [n]; exact Bool.false_ne_true)]
      · rw [if_pos n]
        exact q
  · rintro ⟨e, h1, h2, q⟩
    obtain ⟨a, b, ha, hb, rfl⟩ := addO_some.mp q
    refine ⟨N, ss, hr, .inr ⟨k, e, a, b, hk, h1, h2, hb, ?_, rfl⟩⟩
    unfold headC at ha
    cases n : B.isN k with
    | true =>
      rw [if_pos n] at ha
      exact .inr ⟨rfl, ha⟩
    | false =>
      rw [if_neg (by rw [n]; exact Bool.false_ne_true)] at ha
      exact .inl ⟨rfl, (Option.some.inj ha).symm⟩
theorem comb_end {B : Pb} {T : Nat → Nat → Ent} {r i j : Nat} {N : Str} {ss : List Str} (hr : B.G[r]? = some (N, ss)) (c : Cost) : CombC B T r ss.length i j c ↔ i = j ∧ c = (0, 0) := by
  constructor
  · rintro ⟨N', ss', hr', ⟨_, e2, e3⟩ | ⟨k', e, a, b, hk', _⟩⟩
    · exact ⟨e2, e3⟩
    · rw [hr] at hr'
      cases hr'
      rw [List.getElem?_eq_none (Nat.le_refl _)] at hk'
      cases hk'
  · rintro ⟨rfl, rfl⟩
    exact ⟨N, ss, hr, .inl ⟨rfl, rfl, rfl⟩⟩
theorem restsF_at {α : Type} (f : α → Option Cost → Option Cost) (init : Option Cost) : ∀ {l : List α} {d : Nat} {x : α}, l[d]? = some x → (restsF f init l).getD d none = f x ((restsF f init l).getD (d + 1) none)
  | x :: r, 0, _, h => by
    cases h
    show f x ((restsF f init r).headD none) = f x ((restsF f init r).getD 0 none)
    cases restsF f init r <;> rfl
  | x :: r, d + 1, y, h => restsF_at f init (l := r) (d := d) h
theorem restsF_end {α : Type} (f : α → Option Cost → Option Cost) (init : Option Cost) : ∀ l : List α, (restsF f init l).getD l.length none = init
  | [] => rfl
  | _ :: r => restsF_end f init r
theorem restsN_is (o : Str → Option Cost) : ∀ ss : List Str, restsN o ss = restsF (fun s c => addO (o s) c) (some (0, 0)) ss
  | [] => rfl
  | s :: r => by
    show addO (o s) ((restsN o r).headD none) :: restsN o r = _
    rw [restsN_is o r]
    rfl
/-- a piece of the rest behind the symbol k at the dot d -/
def pieceAt (B : Pb) (T : Nat → Nat → Ent) (r i j d : Nat) (k : Str) : Piece := pieceOf ((List.range (j - i)).map fun q => headC B T k i (i + q)) ((List.range (j - i)).map fun q => (T (i + 1 + q) j).rs r (d + 1))
theorem piece_least {B : Pb} {T : Nat → Nat → Ent} {r d i j : Nat} {N : Str} {ss : List Str} {k : Str} (hr : B.G[r]? = some (N, ss)) (hk : ss[d]? = some k) (lt : i < j) {p : Piece} (hp : p = pieceAt B T r i j d k) {o : Option Cost} (ho : o = headC B T k i j) :
    LeastO (CombC B T r d i j) (leastO [p.inn, addO p.ahd ((T i j).rs r (d + 1)), addO o p.beh]) := by
  obtain ⟨n, hn⟩ : ∃ n, j = i + 1 + n := ⟨j - i - 1, by omega⟩
  have xs0 : ((List.range (j - i)).map fun q => headC B T k i (i + q)).headD none = headC B T k i i := by
    rw [hn, show i + 1 + n - i = n + 1 by omega, List.range_succ_eq_map]
    rfl
  have ysl : ((List.range (j - i)).map fun q => (T (i + 1 + q) j).rs r (d + 1)).length = n + 1 := by rw [List.length_map, List.length_range]; omega
  have ysn : ((List.range (j - i)).map fun q => (T (i + 1 + q) j).rs r (d + 1)).getLastD none = (T j j).rs r (d + 1) := by
    refine last_get (k := n) ysl ?_
    rw [List.getElem?_map, List.getElem?_range (by omega)]
    show some ((T (i + 1 + n) j).rs r (d + 1)) = _
    rw [← hn]
  have zip_at : ∀ q u v, ((((List.range (j - i)).map fun q => headC B T k i (i + q)).drop 1).zip (((List.range (j - i)).map fun q => (T (i + 1 + q) j).rs r (d + 1)).take (((List.range (j - i)).map fun q => (T (i + 1 + q) j).rs r (d + 1)).length - 1)))[q]? = some (u, v) ↔
      q < n ∧ u = headC B T k i (i + 1 + q) ∧ v = (T (i + 1 + q) j).rs r (d + 1) := fun q u v => by
    rw [List.getElem?_zip_eq_some, ysl, Nat.add_sub_cancel, List.getElem?_drop, List.getElem?_take, List.getElem?_map, List.getElem?_map]
    constructor
    · rintro ⟨h1, h2⟩
      split at h2
      · rename_i c
        rw [List.getElem?_range (by omega)] at h1 h2
        refine ⟨c, ?_, (Option.some.inj h2).symm⟩
        have h1 : headC B T k i (i + (1 + q)) = u := Option.some.inj h1
        rw [← h1, show i + (1 + q) = i + 1 + q by omega]
      · cases h2
    · rintro ⟨c, h1, h2⟩
      rw [if_pos c, List.getElem?_range (by omega), List.getElem?_range (by omega), h1, h2]
      refine ⟨?_, rfl⟩
      show some (headC B T k i (i + (1 + q))) = _
      rw [show i + (1 + q) = i + 1 + q by omega]
  subst hp ho
  refine LeastO.of (fun c h => ?_) (fun c h => ?_)
  · rw [comb_iff hr hk]
    have m := leastO_mem h
    rcases List.mem_cons.mp m with z | m
    · rcases splitO_mem _ none c z.symm with z | ⟨⟨u, v⟩, hx, e⟩
      · cases z
      · obtain ⟨q, hq⟩ := List.mem_iff_getElem?.mp hx
        obtain ⟨ql, rfl, rfl⟩ := (zip_at q u v).mp hq
        exact ⟨i + 1 + q, by omega, by omega, e⟩
    rcases List.mem_cons.mp m with z | m
    · refine ⟨i, Nat.le_refl i, Nat.le_of_lt lt, ?_⟩
      have z : some c = addO (((List.range (j - i)).map fun q => headC B T k i (i + q)).headD none) ((T i j).rs r (d + 1)) := z
      rw [xs0] at z
      exact z.symm
    · have z := List.mem_singleton.mp m
      refine ⟨j, Nat.le_of_lt lt, Nat.le_refl j, ?_⟩
      have z : some c = addO (headC B T k i j) (((List.range (j - i)).map fun q => (T (i + 1 + q) j).rs r (d + 1)).getLastD none) := z
      rw [ysn] at z
      exact z.symm
  · obtain ⟨e, h1, h2, q⟩ := (comb_iff hr hk c).mp h
    by_cases ei : e = i
    · subst ei
      refine leastO_le (List.mem_cons_of_mem _ (List.mem_cons.mpr (.inl ?_)))
      show some c = addO (((List.range (j - e)).map fun q => headC B T k e (e + q)).headD none) ((T e j).rs r (d + 1))
      rw [xs0]
      exact q.symm
    by_cases ej : e = j
    · subst ej
      refine leastO_le (List.mem_cons_of_mem _ (List.mem_cons_of_mem _ (List.mem_singleton.mpr ?_)))
      show some c = addO (headC B T k i e) (((List.range (e - i)).map fun q => (T (i + 1 + q) e).rs r (d + 1)).getLastD none)
      rw [ysn]
      exact q.symm
    · have m := (zip_at (e - i - 1) (headC B T k i e) ((T e j).rs r (d + 1))).mpr ⟨by omega, by rw [show i + 1 + (e - i - 1) = e by omega], by rw [show i + 1 + (e - i - 1) = e by omega]⟩
      obtain ⟨x, ex, lx⟩ := (splitO_le _ none).2 _ (List.mem_of_getElem? m) c q
      obtain ⟨y, ey, ly⟩ := leastO_le (os := [(pieceAt B T r i j d k).inn, addO (pieceAt B T r i j d k).ahd ((T i j).rs r (d + 1)), addO (headC B T k i j) (pieceAt B T r i j d k).beh]) (c := x) (List.mem_cons.mpr (.inl ex.symm))
      exact ⟨y, ey, cle_trans ly lx⟩
/-! ### the rests of a rule, from the costs of the names -/
section
variable (B : Pb) (T : Nat → Nat → Ent) (i j : Nat)
def ovW (o : Str → Option Cost) (s : Str) : Option Cost := if B.isN s = true then o s else some (B.leaf s i j, 1)
def psW (r : Nat) (ss : List Str) : List Piece := (List.range ss.length).map fun d => pieceAt B T r i j d (ss.getD d "")
def rowW (o : Str → Option Cost) (r : Nat) : List (Option Cost) := match B.G[r]? with
  | none => []
  | some (_, ss) => if i = j then restsN (ovW B i j o) ss else restsF (pcF (ovW B i j o)) none (ss.zip (psW B T i j r ss))
end
section
variable {B : Pb} {T : Nat → Nat → Ent} {i j : Nat}
theorem zip_ps {r : Nat} {ss : List Str} {d : Nat} {k : Str} (hk : ss[d]? = some k) : (ss.zip (psW B T i j r ss))[d]? = some (k, pieceAt B T r i j d k) := by
  have dl : d < ss.length := (List.getElem?_eq_some_iff.mp hk).1
  rw [List.getElem?_zip_eq_some]
  refine ⟨hk, ?_⟩
  unfold psW
  rw [List.getElem?_map, List.getElem?_range dl]
  show some (pieceAt B T r i j d (ss.getD d "")) = _
  rw [List.getD_eq_getElem?_getD, hk]
  rfl
theorem zip_ps_len {r : Nat} {ss : List Str} : (ss.zip (psW B T i j r ss)).length = ss.length := by
  unfold psW
  rw [List.length_zip, List.length_map, List.length_range, Nat.min_self]
theorem row_len2 {o : Str → Option Cost} {r : Nat} {N : Str} {ss : List Str} (hr : B.G[r]? = some (N, ss)) : (rowW B T i j o r).length = ss.length + 1 := by
  unfold rowW
  rw [hr]
  dsimp only
  split
  · rw [restsN_is, restsF_len]
  · rw [restsF_len, zip_ps_len]
/-- the rests are the least ones by the entries -/
theorem row_least {o : Str → Option Cost} {r : Nat} {N : Str} {ss : List Str} (ij : i ≤ j) (hr : B.G[r]? = some (N, ss)) {e : Ent} (en : e.nm = o) (er : ∀ b, e.rs r b = (rowW B T i j o r).getD b none) {d : Nat} (hd : d ≤ ss.length) :
    LeastO (CombC B (wi T i j e) r d i j) ((rowW B T i j o r).getD d none) := by
  have head : ∀ k, headC B (wi T i j e) k i j = ovW B i j o k := fun k => by
    unfold headC ovW
    rw [wi_same, en]
  have er' : ∀ b, (wi T i j e i j).rs r b = (rowW B T i j o r).getD b none := fun b => by rw [wi_same]; exact er b
  by_cases q : d = ss.length
  · subst q
    have ev : (rowW B T i j o r).getD ss.length none = if i = j then some (0, 0) else none := by
      unfold rowW
      rw [hr]
      dsimp only
      split
      · rw [restsN_is, restsF_end]
      · rw [← zip_ps_len (B := B) (T := T) (i := i) (j := j) (r := r) (ss := ss), restsF_end]
    rw [ev]
    split
    · rename_i c
      exact LeastO.of (fun x h => (comb_end hr x).mpr ⟨c, (Option.some.inj h).symm⟩) fun x h => ⟨(0, 0), rfl, by rw [((comb_end hr x).mp h).2]; exact cle_refl _⟩
    · rename_i c
      exact fun x h => c ((comb_end hr x).mp h).1
  · obtain ⟨k, hk⟩ : ∃ k, ss[d]? = some k := ⟨ss[d]'(by omega), List.getElem?_eq_getElem (by omega)⟩
    by_cases c : i = j
    · subst c
      have ev : (rowW B T i i o r).getD d none = addO (ovW B i i o k) ((rowW B T i i o r).getD (d + 1) none) := by
        unfold rowW
        rw [hr]
        dsimp only
        rw [if_pos rfl, restsN_is]
        exact restsF_at _ _ hk
      rw [ev]
      have iff : ∀ x, CombC B (wi T i i e) r d i i x ↔ addO (ovW B i i o k) ((rowW B T i i o r).getD (d + 1) none) = some x := fun x => by
        rw [comb_iff hr hk]
        constructor
        · rintro ⟨f, h1, h2, h⟩
          obtain rfl : f = i := by omega
          rw [head, er'] at h
          exact h
        · intro h
          exact ⟨i, Nat.le_refl _, Nat.le_refl _, by rw [head, er']; exact h⟩
      exact LeastO.of (fun x h => (iff x).mpr h) fun x h => ⟨x, (iff x).mp h, cle_refl x⟩
    · have lt : i < j := by omega
      have ev : (rowW B T i j o r).getD d none = pcF (ovW B i j o) (k, pieceAt B T r i j d k) ((rowW B T i j o r).getD (d + 1) none) := by
        unfold rowW
        rw [hr]
        dsimp only
        rw [if_neg c]
        exact restsF_at _ _ (zip_ps hk)
      rw [ev]
      have pe : pieceAt B T r i j d k = pieceAt B (wi T i j e) r i j d k := by
        unfold pieceAt
        congr 1
        · refine List.map_congr_left fun q hq => ?_
          have := List.mem_range.mp hq
          unfold headC
          rw [wi_other (by omega)]
        · refine List.map_congr_left fun q hq => ?_
          have := List.mem_range.mp hq
          rw [wi_other (by omega)]
      have := piece_least (B := B) (T := wi T i j e) hr hk lt pe (head k).symm
      rw [er'] at this
      exact this
/-- they are costs of parts, if the names' costs are costs of trees -/
theorem row_sound {o : Str → Option Cost} {r : Nat} {N : Str} {ss : List Str} (ij : i ≤ j) (short : Short B T i j) (hk : B.kn i j = none) (snd : ∀ N c, o N = some c → TreeC B N i j c) (hr : B.G[r]? = some (N, ss)) :
    ∀ (n d : Nat), ss.length ≤ d + n → ∀ c, (rowW B T i j o r).getD d none = some c → RestC B r d i j c := by
  have out : ∀ d, ss.length < d → (rowW B T i j o r).getD d none = none := fun d h => by
    rw [List.getD_eq_getElem?_getD, List.getElem?_eq_none (by rw [row_len2 hr]; omega)]
    rfl
  intro n
  induction n with
  | zero =>
    intro d hd c h
    by_cases q : ss.length < d
    · rw [out d q] at h
      cases h
    · obtain rfl : d = ss.length := by omega
      have l := row_least (e := ⟨o, fun a b => if a = r then (rowW B T i j o r).getD b none else none⟩) ij hr rfl (fun b => by show (if r = r then _ else _) = _; rw [if_pos rfl]) (Nat.le_refl ss.length)
      rw [h] at l
      obtain ⟨e1, e2⟩ := (comb_end hr c).mp l.1
      subst e1 e2
      exact .nil hk hr rfl
  | succ n ih =>
    intro d hd c h
    by_cases q : ss.length ≤ d
    · exact ih d (by omega) c h
    · have l := row_least (e := ⟨o, fun a b => if a = r then (rowW B T i j o r).getD b none else none⟩) ij hr rfl (fun b => by show (if r = r then _ else _) = _; rw [if_pos rfl]) (show d ≤ ss.length by omega)
      rw [h] at l
      have m := l.1
      obtain ⟨k, hk2⟩ : ∃ k, ss[d]? = some k := ⟨ss[d]'(by omega), List.getElem?_eq_getElem (by omega)⟩
      -- the entries behind the dot alone
      refine comb_sound (T := T) short hk (e := ⟨o, fun a b => if a = r ∧ d < b then (rowW B T i j o r).getD b none else none⟩) ⟨snd, fun a b x hx => ?_⟩ ?_
      · have hx : (if a = r ∧ d < b then (rowW B T i j o r).getD b none else none) = some x := hx
        split at hx
        · rename_i z
          rw [z.1]
          exact ih b (by omega) x hx
        · cases hx
      · rw [comb_iff hr hk2] at m ⊢
        obtain ⟨f, h1, h2, e⟩ := m
        refine ⟨f, h1, h2, ?_⟩
        rw [← e]
        congr 1
        · unfold headC
          by_cases w : i = i ∧ f = j
          · rw [w.2, wi_same, wi_same]
          · rw [wi_other w, wi_other w]
        · by_cases w : f = i ∧ j = j
          · rw [w.1, wi_same, wi_same]
            show (if r = r ∧ d < d + 1 then _ else _) = (if r = r then _ else _)
            rw [if_pos ⟨rfl, Nat.lt_succ_self d⟩, if_pos rfl]
          · rw [wi_other w, wi_other w]
end
end Ld

set_option Elab.async false
set_option linter.all false
set_option maxRecDepth 100000
set_option maxHeartbeats 4000000
/-! The list of waiting rules: mathematics. -/
namespace Ld
open PySem PySem.Spec PyProof.Rows L2 Lg Lr Lb
structure WSt where
  o : Str → Option Cost
  R : List (List (Option Cost))
  wt : List Nat
def addW (w : List Nat) : List Nat → List Nat
  | [] => w
  | u :: us => addW (if u ∈ w then w else w ++ [u]) us
theorem addW_mem : ∀ {us w : List Nat} {x : Nat}, x ∈ addW w us ↔ x ∈ w ∨ x ∈ us
  | [], _, _ => by simp [addW]
  | u :: us, w, x => by
    show x ∈ addW _ us ↔ _
    rw [addW_mem, List.mem_cons]
    split
    · rename_i m
      constructor
      · rintro (h | h)
        · exact .inl h
        · exact .inr (.inr h)
      · rintro (h | h | h)
        · exact .inl h
        · exact .inl (h ▸ m)
        · exact .inr h
    · rw [List.mem_append, List.mem_singleton]
      constructor
      · rintro ((h | h) | h)
        · exact .inl h
        · exact .inr (.inl h)
        · exact .inr (.inr h)
      · rintro (h | h | h)
        · exact .inl (.inl h)
        · exact .inl (.inr h)
        · exact .inr h
theorem addW_nd : ∀ {us w : List Nat}, w.Nodup → (addW w us).Nodup
  | [], _, h => h
  | u :: us, w, h => by
    show (addW _ us).Nodup
    refine addW_nd ?_
    split
    · exact h
    · rename_i m
      exact List.nodup_append.mpr ⟨h, by simp, fun x hx y hy e => m (by rw [← List.mem_singleton.mp hy, ← e]; exact hx)⟩
theorem nd_len {l : List Nat} {n : Nat} (h : l.Nodup) (b : ∀ x ∈ l, x < n) : l.length ≤ n := by
  have := nodup_le2 (m := List.range n) h fun x hx => List.mem_range.mpr (b x hx)
  rwa [List.length_range] at this
theorem restsF_congr {α : Type} {f g : α → Option Cost → Option Cost} {init : Option Cost} : ∀ {l : List α}, (∀ x ∈ l, ∀ c, f x c = g x c) → restsF f init l = restsF g init l
  | [], _ => rfl
  | x :: r, h => by
    show f x ((restsF f init r).headD none) :: restsF f init r = g x ((restsF g init r).headD none) :: restsF g init r
    rw [restsF_congr fun y hy => h y (List.mem_cons_of_mem _ hy), h x List.mem_cons_self]
section
variable (B : Pb) (T : Nat → Nat → Ent) (i j : Nat)
def wstep (st : WSt) : WSt := match st.wt with
  | [] => st
  | r :: rest => if leastO [st.o (B.G.getD r ("", [])).1, addO ((rowW B T i j st.o r).headD none) (some (0, 1))] = st.o (B.G.getD r ("", [])).1 then ⟨st.o, st.R.set r (rowW B T i j st.o r), rest⟩
    else ⟨fun M => if M = (B.G.getD r ("", [])).1 then leastO [st.o (B.G.getD r ("", [])).1, addO ((rowW B T i j st.o r).headD none) (some (0, 1))] else st.o M, st.R.set r (rowW B T i j st.o r), addW rest (usersOf B.G (B.G.getD r ("", [])).1)⟩
def iterW : Nat → WSt → WSt
  | 0, st => st
  | n + 1, st => iterW n (wstep B T i j st)
structure WInv (st : WSt) : Prop where
  lr : st.R.length = B.G.length
  wr : ∀ r ∈ st.wt, r < B.G.length
  nd : st.wt.Nodup
  snd : ∀ N c, st.o N = some c → TreeC B N i j c
  nw : ∀ r N ss, B.G[r]? = some (N, ss) → r ∉ st.wt → st.R.getD r [] = rowW B T i j st.o r ∧ ∀ c, (rowW B T i j st.o r).getD 0 none = some c → ∃ x, st.o N = some x ∧ cle x (c.1, c.2 + 1)
end
section
variable {B : Pb} {T : Nat → Nat → Ent} {i j : Nat}
theorem row_same {o o2 : Str → Option Cost} {r : Nat} {N : Str} {ss : List Str} (hr : B.G[r]? = some (N, ss)) (h : ∀ s ∈ ss, o s = o2 s) : rowW B T i j o r = rowW B T i j o2 r := by
  have ov : ∀ s ∈ ss, ovW B i j o s = ovW B i j o2 s := fun s hs => by
    unfold ovW
    rw [h s hs]
  unfold rowW
  rw [hr]
  dsimp only
  split
  · rw [restsN_is, restsN_is]
    exact restsF_congr fun s hs c => by rw [ov s hs]
  · refine restsF_congr fun x hx c => ?_
    obtain ⟨s, p⟩ := x
    have := (List.of_mem_zip hx).1
    unfold pcF
    rw [ov s this]
theorem users_mem {G : List Rule} {M : Str} {r : Nat} : r ∈ usersOf G M ↔ ∃ N ss, G[r]? = some (N, ss) ∧ M ∈ ss := by
  unfold usersOf
  rw [List.mem_filter, List.mem_range, decide_eq_true_eq]
  constructor
  · rintro ⟨h1, h2⟩
    rw [List.getD_eq_getElem?_getD, List.getElem?_eq_getElem h1] at h2
    exact ⟨G[r].1, G[r].2, List.getElem?_eq_getElem h1, h2⟩
  · rintro ⟨N, ss, h1, h2⟩
    refine ⟨(List.getElem?_eq_some_iff.mp h1).1, ?_⟩
    rw [List.getD_eq_getElem?_getD, h1]
    exact h2
theorem headD_get (l : List (Option Cost)) : l.headD none = l.getD 0 none := by cases l <;> rfl
/-- what a rule's turn gives: the least cost is that of the name, or one lower -/
theorem turn_cost {oN x : Option Cost} : (∃ c, leastO [oN, x] = some c ∧ (oN = some c ∨ x = some c) ∧ (∀ d, oN = some d → cle c d) ∧ ∀ d, x = some d → cle c d) ∨ (leastO [oN, x] = none ∧ oN = none ∧ x = none) := by
  cases e : leastO [oN, x] with
  | some c =>
    left
    refine ⟨c, rfl, ?_, fun d h => ?_, fun d h => ?_⟩
    · rcases List.mem_cons.mp (leastO_mem e) with z | z
      · exact .inl z.symm
      · exact .inr (List.mem_singleton.mp z).symm
    · obtain ⟨y, ey, ly⟩ := leastO_le (os := [oN, x]) (c := d) (List.mem_cons.mpr (.inl h.symm))
      rw [e] at ey
      cases ey
      exact ly
    · obtain ⟨y, ey, ly⟩ := leastO_le (os := [oN, x]) (c := d) (List.mem_cons_of_mem _ (List.mem_singleton.mpr h.symm))
      rw [e] at ey
      cases ey
      exact ly
  | none =>
    right
    refine ⟨rfl, ?_, ?_⟩
    · cases h : oN with
      | none => rfl
      | some d =>
        obtain ⟨y, ey, _⟩ := leastO_le (os := [oN, x]) (c := d) (List.mem_cons.mpr (.inl h.symm))
        rw [e] at ey
        cases ey
    · cases h : x with
      | none => rfl
      | some d =>
        obtain ⟨y, ey, _⟩ := leastO_le (os := [oN, x]) (c := d) (List.mem_cons_of_mem _ (List.mem_singleton.mpr h.symm))
        rw [e] at ey
        cases ey
theorem add1 {c : Option Cost} {d : Cost} (h : addO c (some (0, 1)) = some d) : ∃ x, c = some x ∧ d = (x.1, x.2 + 1) := by
  obtain ⟨x, y, h1, h2, h3⟩ := addO_some.mp h
  cases h2
  exact ⟨x, h1, by rw [h3]; simp⟩
theorem wstep_inv (ij : i ≤ j) (short : Short B T i j) (hk : B.kn i j = none) {st : WSt} (h : WInv B T i j st) : WInv B T i j (wstep B T i j st) := by
  unfold wstep
  cases e : st.wt with
  | nil => exact h
  | cons r rest =>
    dsimp only
    have rl : r < B.G.length := h.wr r (by rw [e]; exact List.mem_cons_self)
    have hr : B.G[r]? = some (B.G[r].1, B.G[r].2) := List.getElem?_eq_getElem rl
    have eN : B.G.getD r ("", []) = B.G[r] := by rw [List.getD_eq_getElem?_getD, List.getElem?_eq_getElem rl]; rfl
    rw [eN]
    generalize B.G[r] = g at hr eN
    obtain ⟨N, ss⟩ := g
    dsimp only at hr ⊢
    have hnd := h.nd
    rw [e] at hnd
    obtain ⟨n1, n2⟩ := List.nodup_cons.mp hnd
    have wr' : ∀ x ∈ rest, x < B.G.length := fun x hx => h.wr x (by rw [e]; exact List.mem_cons_of_mem _ hx)
    have own : (st.R.set r (rowW B T i j st.o r)).getD r [] = rowW B T i j st.o r := by
      rw [List.getD_eq_getElem?_getD, List.getElem?_set_self (by rw [h.lr]; exact rl)]
      rfl
    have oth : ∀ a, a ≠ r → (st.R.set r (rowW B T i j st.o r)).getD a [] = st.R.getD a [] := fun a ne => by
      rw [List.getD_eq_getElem?_getD, List.getElem?_set_ne (Ne.symm ne), ← List.getD_eq_getElem?_getD]
    rw [headD_get]
    have tc := turn_cost (oN := st.o N) (x := addO ((rowW B T i j st.o r).getD 0 none) (some (0, 1)))
    generalize leastO [st.o N, addO ((rowW B T i j st.o r).getD 0 none) (some (0, 1))] = C at tc
    have clos : ∀ {y : Option Cost}, y = C → ∀ c, (rowW B T i j st.o r).getD 0 none = some c → ∃ x, y = some x ∧ cle x (c.1, c.2 + 1) := fun {y} hy c hc => by
      have ha : addO ((rowW B T i j st.o r).getD 0 none) (some (0, 1)) = some (c.1, c.2 + 1) := addO_some.mpr ⟨c, (0, 1), hc, rfl, by simp⟩
      rcases tc with ⟨d, e1, _, _, low⟩ | ⟨_, _, e3⟩
      · exact ⟨d, hy.trans e1, low _ ha⟩
      · rw [ha] at e3
        cases e3
    by_cases c : C = st.o N
    · rw [if_pos c]
      refine ⟨by rw [List.length_set]; exact h.lr, wr', n2, h.snd, fun a M ts ha na => ?_⟩
      by_cases q : a = r
      · subst q
        rw [hr] at ha
        cases ha
        exact ⟨own, clos c.symm⟩
      · have := h.nw a M ts ha (by rw [e]; exact fun m => (List.mem_cons.mp m).elim q na)
        exact ⟨(oth a q).trans this.1, this.2⟩
    · rw [if_neg c]
      have sC : ∀ d, C = some d → TreeC B N i j d := fun d hd => by
        rcases tc with ⟨d', e1, e2, _, _⟩ | ⟨e1, _, _⟩
        · rw [e1] at hd
          cases hd
          rcases e2 with z | z
          · exact h.snd N _ z
          · obtain ⟨x, hx, e4⟩ := add1 z
            rw [e4]
            exact .mk hk hr (row_sound ij short hk h.snd hr (ss.length) 0 (by omega) x hx)
        · rw [e1] at hd
          cases hd
      refine ⟨by rw [List.length_set]; exact h.lr, fun x hx => ?_, addW_nd n2, fun M d hd => ?_, fun a M ts ha na => ?_⟩
      · rcases addW_mem.mp hx with z | z
        · exact wr' x z
        · obtain ⟨_, _, g, _⟩ := users_mem.mp z
          exact (List.getElem?_eq_some_iff.mp g).1
      · have hd : (if M = N then C else st.o M) = some d := hd
        split at hd
        · rename_i z
          rw [z]
          exact sC d hd
        · exact h.snd M d hd
      · have na1 : a ∉ rest := fun z => na (addW_mem.mpr (.inl z))
        have na2 : N ∉ ts := fun z => na (addW_mem.mpr (.inr (users_mem.mpr ⟨M, ts, ha, z⟩)))
        have rs : rowW B T i j (fun X => if X = N then C else st.o X) a = rowW B T i j st.o a := row_same ha fun s hs => if_neg fun z => na2 (by rw [← z]; exact hs)
        dsimp only
        rw [rs]
        by_cases q : a = r
        · subst q
          rw [hr] at ha
          cases ha
          exact ⟨own, clos (if_pos rfl)⟩
        · have := h.nw a M ts ha (by rw [e]; exact fun m => (List.mem_cons.mp m).elim q na1)
          refine ⟨(oth a q).trans this.1, fun d hd => ?_⟩
          obtain ⟨x, hx, lx⟩ := this.2 d hd
          by_cases z : M = N
          · rw [if_pos z]
            rw [z] at hx
            rcases tc with ⟨d', e1, _, low, _⟩ | ⟨_, e2, _⟩
            · exact ⟨d', e1, cle_trans (low x hx) lx⟩
            · rw [hx] at e2
              cases e2
          · rw [if_neg z]
            exact ⟨x, hx, lx⟩
theorem w_done (ij : i ≤ j) (short : Short B T i j) (hk : B.kn i j = none) (few : ∀ r ∈ B.G, r.2.length ≤ 20) {st : WSt} (h : WInv B T i j st) (e : st.wt = []) : LeastAt B ⟨st.o, fun a b => (st.R.getD a []).getD b none⟩ i j := by
  have nw : ∀ r N ss, B.G[r]? = some (N, ss) → st.R.getD r [] = rowW B T i j st.o r ∧ ∀ c, (rowW B T i j st.o r).getD 0 none = some c → ∃ x, st.o N = some x ∧ cle x (c.1, c.2 + 1) := fun r N ss hr => h.nw r N ss hr (by rw [e]; simp)
  generalize hE : (⟨st.o, fun a b => (st.R.getD a []).getD b none⟩ : Ent) = E
  have en : E.nm = st.o := by rw [← hE]
  have er : ∀ a b, E.rs a b = (st.R.getD a []).getD b none := fun a b => by rw [← hE]
  have wE : wi T i j E i j = E := wi_same
  have sh : Short B (wi T i j E) i j := fun a b h1 h2 h3 h4 => by
    rw [wi_other h4]
    exact short a b h1 h2 h3 h4
  have := Still.least (B := B) (T := wi T i j E) (i := i) (j := j) (d := 0) ⟨fun a b N ss ha hb _ => ?_, fun a N ss c ha _ hc => ?_⟩ ij sh hk ?_
  · rw [wE] at this
    exact this
  · rw [wE, er, (nw a N ss ha).1]
    exact row_least ij ha en (fun b => by rw [er, (nw a N ss ha).1]) hb
  · rw [wE, er, (nw a N ss ha).1] at hc
    rw [wE, en]
    exact (nw a N ss ha).2 c hc
  · rw [wE]
    refine ⟨fun N c hc => h.snd N c (by rw [en] at hc; exact hc), fun a b c hc => ?_⟩
    rw [er] at hc
    by_cases al : a < B.G.length
    · have ha : B.G[a]? = some (B.G[a].1, B.G[a].2) := List.getElem?_eq_getElem al
      rw [(nw a _ _ ha).1] at hc
      exact row_sound ij short hk h.snd ha (B.G[a].2.length) b (by omega) c hc
    · rw [List.getD_eq_getElem?_getD (l := st.R), List.getElem?_eq_none (by rw [h.lr]; omega)] at hc
      cases hc
/-! ### it ends -/
abbrev W3 := Nat × Nat × Nat
def lt3 (a b : W3) : Prop := Prod.Lex (· < ·) (Prod.Lex (· < ·) (· < ·)) a b
theorem wf3 : WellFounded lt3 := (Prod.lex ⟨(· < ·), Nat.lt_wfRel.wf⟩ (Prod.lex ⟨(· < ·), Nat.lt_wfRel.wf⟩ ⟨(· < ·), Nat.lt_wfRel.wf⟩)).wf
def lexL : List W3 → List W3 → Prop
  | a :: t, b :: u => t.length = u.length ∧ (lt3 a b ∨ (a = b ∧ lexL t u))
  | _, _ => False
theorem accL : ∀ (n : Nat) (l : List W3), l.length = n → Acc lexL l
  | 0, l, h => ⟨_, fun y hy => by
    obtain rfl := List.eq_nil_of_length_eq_zero h
    cases y <;> exact hy.elim⟩
  | n + 1, l, h => by
    obtain ⟨b, u, rfl⟩ : ∃ b u, l = b :: u := by
      cases l with
      | nil => simp at h
      | cons b u => exact ⟨b, u, rfl⟩
    have hu : u.length = n := by simpa using h
    clear h
    revert u
    refine wf3.induction (C := fun b => ∀ u : List W3, u.length = n → Acc lexL (b :: u)) b ?_
    intro b ihb u hu
    have ax := accL n u hu
    induction ax with
    | intro u _ ihu =>
      refine ⟨_, fun y hy => ?_⟩
      cases y with
      | nil => exact hy.elim
      | cons a t =>
        obtain ⟨hl, q | ⟨rfl, q⟩⟩ := hy
        · exact ihb a q t (hl.trans hu)
        · exact ihu t q (hl.trans hu)
def kW : Option Cost → W3
  | none => (1, 0, 0)
  | some c => (0, c.1.toNat, c.2.toNat)
theorem lexL_of {o o2 : Str → Option Cost} : ∀ {Ns : List Str}, (∀ M ∈ Ns, o2 M = o M ∨ lt3 (kW (o2 M)) (kW (o M))) → (∃ M ∈ Ns, lt3 (kW (o2 M)) (kW (o M))) → lexL (Ns.map fun M => kW (o2 M)) (Ns.map fun M => kW (o M))
  | [], _, ⟨_, m, _⟩ => by cases m
  | M :: Ns, h, ⟨X, hX, lt⟩ => by
    refine ⟨by rw [List.length_map, List.length_map], ?_⟩
    rcases h M List.mem_cons_self with e | l
    · rcases List.mem_cons.mp hX with z | z
      · subst z
        exact .inl lt
      · exact .inr ⟨congrArg kW e, lexL_of (fun Y hY => h Y (List.mem_cons_of_mem _ hY)) ⟨X, z, lt⟩⟩
    · exact .inl l
theorem w_ends (ok : PbOk B) (ij : i ≤ j) (short : Short B T i j) (hk : B.kn i j = none) (st : WSt) (h : WInv B T i j st) : ∃ m, (iterW B T i j m st).wt = [] := by
  have main : ∀ l : List W3, Acc lexL l → ∀ n (st : WSt), WInv B T i j st → (B.G.map fun r => kW (st.o r.1)) = l → st.wt.length = n → ∃ m, (iterW B T i j m st).wt = [] := by
    intro l al
    induction al with
    | intro l _ ihl =>
      intro n
      induction n with
      | zero => exact fun st _ _ e => ⟨0, List.eq_nil_of_length_eq_zero e⟩
      | succ n ihn =>
        intro st h el en
        have h2 := wstep_inv ij short hk h
        have go : ∀ st2, wstep B T i j st = st2 → (∃ m, (iterW B T i j m st2).wt = []) → ∃ m, (iterW B T i j m st).wt = [] := fun st2 e ⟨m, hm⟩ => ⟨m + 1, by show (iterW B T i j m (wstep B T i j st)).wt = []; rw [e]; exact hm⟩
        cases e : st.wt with
        | nil => exact ⟨0, e⟩
        | cons r rest =>
          rw [e] at en
          have rl : r < B.G.length := h.wr r (by rw [e]; exact List.mem_cons_self)
          have eN : B.G.getD r ("", []) = B.G[r] := by rw [List.getD_eq_getElem?_getD, List.getElem?_eq_getElem rl]; rfl
          have mN : B.G[r] ∈ B.G := List.getElem_mem rl
          have hs : wstep B T i j st = if leastO [st.o B.G[r].1, addO ((rowW B T i j st.o r).headD none) (some (0, 1))] = st.o B.G[r].1 then ⟨st.o, st.R.set r (rowW B T i j st.o r), rest⟩
              else ⟨fun M => if M = B.G[r].1 then leastO [st.o B.G[r].1, addO ((rowW B T i j st.o r).headD none) (some (0, 1))] else st.o M, st.R.set r (rowW B T i j st.o r), addW rest (usersOf B.G B.G[r].1)⟩ := by
            unfold wstep
            rw [e]
            dsimp only
            rw [eN]
          have h3 := h2
          rw [hs] at h3
          have tc := turn_cost (oN := st.o B.G[r].1) (x := addO ((rowW B T i j st.o r).headD none) (some (0, 1)))
          generalize leastO [st.o B.G[r].1, addO ((rowW B T i j st.o r).headD none) (some (0, 1))] = C at tc hs h3
          by_cases c : C = st.o B.G[r].1
          · rw [if_pos c] at hs h3
            exact go _ hs (ihn _ h3 el (by simpa using en))
          · rw [if_neg c] at hs h3
            refine go _ hs (ihl _ ?_ _ _ h3 rfl rfl)
            rw [← el]
            have lt : lt3 (kW C) (kW (st.o B.G[r].1)) := by
              rcases tc with ⟨d, e1, e2, low, _⟩ | ⟨e1, e2, _⟩
              · subst e1
                cases eo : st.o B.G[r].1 with
                | none => exact Prod.Lex.left _ _ (Nat.zero_lt_one)
                | some x =>
                  have lx := low x eo
                  have px := TreeC.pos ok (h.snd _ _ eo)
                  have pd : 0 ≤ d.1 ∧ 0 ≤ d.2 := TreeC.pos ok (h3.snd B.G[r].1 d (if_pos rfl))
                  have ne : d ≠ x := fun z => c (by rw [eo, z])
                  have : d.1 < x.1 ∨ (d.1 = x.1 ∧ d.2 < x.2) := by
                    unfold cle at lx
                    rcases lx with z | ⟨z1, z2⟩
                    · exact .inl z
                    · refine .inr ⟨z1, ?_⟩
                      have : d.2 ≠ x.2 := fun q => ne (Prod.ext z1 q)
                      omega
                  refine Prod.Lex.right _ ?_
                  rcases this with z | ⟨z1, z2⟩
                  · exact Prod.Lex.left _ _ (by omega)
                  · rw [show d.1.toNat = x.1.toNat by omega]
                    exact Prod.Lex.right _ (by omega)
              · exact absurd (e1.trans e2.symm) c
            have key := lexL_of (o := st.o) (o2 := fun M => if M = B.G[r].1 then C else st.o M) (Ns := B.G.map (·.1)) (fun M _ => by
              by_cases z : M = B.G[r].1
              · right
                rw [if_pos z, z]
                exact lt
              · left
                exact if_neg z) ⟨B.G[r].1, List.mem_map.mpr ⟨_, mN, rfl⟩, by rw [if_pos rfl]; exact lt⟩
            rw [List.map_map, List.map_map] at key
            exact key
  exact main _ (accL _ _ rfl) _ st h rfl rfl
theorem iter_inv (ij : i ≤ j) (short : Short B T i j) (hk : B.kn i j = none) : ∀ (m : Nat) {st : WSt}, WInv B T i j st → WInv B T i j (iterW B T i j m st)
  | 0, _, h => h
  | m + 1, _, h => iter_inv ij short hk m (wstep_inv ij short hk h)
theorem w_start (n : Nat) (e : n = B.G.length) : WInv B T i j ⟨fun _ => none, List.replicate n [], (List.range n).reverse⟩ := by
  subst e
  refine ⟨List.length_replicate, fun r hr => List.mem_range.mp (List.mem_reverse.mp hr), List.pairwise_reverse.mpr (List.nodup_range.imp Ne.symm), (fun _ _ h => by cases h), fun r N ss hr nr => ?_⟩
  exact absurd (List.mem_reverse.mpr (List.mem_range.mpr (List.getElem?_eq_some_iff.mp hr).1)) nr
end
end Ld

set_option Elab.async false
set_option linter.all false
set_option maxRecDepth 100000
set_option maxHeartbeats 4000000
/-! Dicts with texts as keys by a comprehension, as a value and assigned to a local. -/
namespace Lc
open PySem PySem.Spec PyProof.Rows L2
section
variable {X : Cx}
def DicP (X : Cx) (D : Addr) : HO := .dK []
theorem mk_dictK : Mk X newDict (DicP X) := fun pins s σ H Q E I h => wpAny_newObj_type (h _ (I.laid (t' := s.toks) (fun b u e => Heap.get?_push_of_some _ e) (Nat.le_refl _) (dk_empty s.heap I.big)))
def tPairK (tk tv : TE) (D : Addr) : L2.St → Hp → (Hp → Prop) → Prop := fun σ H Nx => tk σ H fun y H1 => tv σ H1 fun z H2 => ∃ (kvs : List (Key × V)) (k : Key), y = kV k ∧ H2 D = some (.dK kvs) ∧ kvs.length < sizeLine ∧ Nx (upd H2 D (.dK (putK kvs k z)))
theorem em_pairK {Y : Cx} {kx vx : Expr} {tk tv : TE} {D : Addr} (quiet : Y.xe = fun _ _ => False) (hk : PE Y kx tk) (hv : PE Y vx tv) : EM Y (pairIn kx vx (.ref D) Y.env) [] (tPairK tk tv D) := by
  intro pins s σ H Q kk R I h hkk
  have z := hk.run pins s σ H _ I h
  rw [quiet] at z
  unfold pairIn
  refine wpAny_bind (wpAny_bind (thnF z fun kv s1 h1 => ?_))
  obtain ⟨y, H1, I1, ry, h2⟩ := h1
  have z2 := hv.run pins s1 σ H1 _ I1 h2
  rw [quiet] at z2
  refine wpAny_bind (wpAny_holding (thnF z2 fun vv s2 h3 => ?_))
  obtain ⟨v, H2, I2, rv, kvs, k, rfl, hD, few, q⟩ := h3
  refine wpAny_bind (wpAny_standAt (wpAny_holding ?_))
  obtain ⟨z, nsys, vs, rel, dd⟩ := dk_of I2.hok hD
  have hz : vs.length ≤ sizeLine := by rw [← Paired.length rel]; exact z
  have hl : (putK kvs k v).length ≤ sizeLine := by have := length_putK kvs k v; omega
  refine wpAny_dictSet_pairs (hsz := hz) (kV_is ry) dd fun h' dd' hs => ?_
  have he : ∃ q, h'.get? D = some q := let ⟨q, _, _, hq, _⟩ := dd'; ⟨q, hq⟩
  exact hkk _ _ (d_write (ob := .dK (putK kvs k v)) I2 (by rw [hD]; exact True.intro) hs he (dk_new hl nsys (rel.put k rv) dd')) q
theorem pe_dicK {kx vx tg iter : Expr} {ifs : List Expr} {scope : Scope} {own : List (Str × Nat)} {pos : Pos} {wi : TI} {g : TG} {tt : TT} {tk tv : TE} (calm : X.calm = true) (nd : X.N.Nodup) (src : PI X tg iter wi) (ok : BlkOk X.N X.env.scope scope own)
    (pg : InBlk X scope fun Y => PG Y tg g) (pt : InBlk X scope fun Y => PTs Y ifs tt) (pk : InBlk X scope fun Y => PE Y kx tk) (pv : InBlk X scope fun Y => PE Y vx tv) (fold : ∀ x, foldedSetIterable iter X.env x = pure x := by intro _; rfl) :
    PE X (.DictComp kx vx [⟨tg, iter, ifs, 0⟩] scope pos) (tCmp (DicP X) wi g tt (tPairK tk tv) (own.map (·.2))) := by
  refine ⟨fun pins s σ H Q I h => ?_⟩
  show wpAny _ _ (comprehension (.DictComp kx vx [⟨tg, iter, ifs, 0⟩] scope pos) scope X.env (firstIterPos [⟨tg, iter, ifs, 0⟩] pos) newDict false (eval iter X.env)) _ _ s
  exact comp_run (emit := pairIn kx vx) (vs1 := []) (.inr ⟨_, _, _, _, _, rfl⟩) rfl (fun it acc env => rfl) mk_dictK calm nd src ok (fun _ m => nomatch m) pg pt (fun s H C cl fp D => em_pairK rfl (pk s H C cl fp) (pv s H C cl fp)) fold I h
theorem ps_setDicK {i : Nat} {y : Str} {py : Pos} {kx vx tg iter : Expr} {ifs : List Expr} {scope : Scope} {own : List (Str × Nat)} {pos spos : Pos} {wi : TI} {g : TG} {tt : TT} {tk tv : TE} (calm : X.calm = true) (nd : X.N.Nodup) (hy : X.N[i]? = some y) (loc : X.env.scope.names.lookup y = some .local)
    (swap : swapsWith (.DictComp kx vx [⟨tg, iter, ifs, 0⟩] scope pos) (some (.Name y py)) spos.line X.env = pure true) (src : PI X tg iter wi) (ok : BlkOk X.N X.env.scope scope own)
    (pg : InBlk X scope fun Y => PG Y tg g) (pt : InBlk X scope fun Y => PTs Y ifs tt) (pk : InBlk X scope fun Y => PE Y kx tk) (pv : InBlk X scope fun Y => PE Y vx tv) (fold : ∀ x, foldedSetIterable iter X.env x = pure x := by intro _; rfl) :
    PS X (.Assign [.Name y py] (.DictComp kx vx [⟨tg, iter, ifs, 0⟩] scope pos) spos) (tAsg (tCmp (DicP X) wi g tt (tPairK tk tv) (own.map (·.2))) (gName i)) := by
  refine ⟨fun pins s σ H D I h => ?_⟩
  rw [exec_Assign_Name_used _ _ _ _ swap]
  refine wpAny_bind (wpAny_standAt (wpAny_bind ?_))
  show wpAny _ X.A (do let _ ← comprehension (.DictComp kx vx [⟨tg, iter, ifs, 0⟩] scope pos) scope X.env (firstIterPos [⟨tg, iter, ifs, 0⟩] pos) newDict false (eval iter X.env) (some (assign (.Name y py) X.env))) _ _ s
  have h : tCmp (DicP X) wi g tt (tPairK tk tv) (own.map (·.2)) σ H (fun x H1 => gName i x σ H1 D.nx) := h
  refine wpAny_bind (thn (comp_core (emit := pairIn kx vx) (vs1 := []) (Qf := fun _ s' => SP X pins D .next s') (.inr ⟨_, _, _, _, _, rfl⟩) rfl (fun it acc env => rfl) mk_dictK calm nd src ok (fun _ m => nomatch m) pg pt (fun s H C cl fp D => em_pairK rfl (pk s H C cl fp) (pv s H C cl fp)) fold I h
    fun L C s' m H' I' q hn f => ?_) fun _ s' hq => wpAny_pure (wpAny_pure hq))
  show wpAny _ _ (assign (.Name y py) X.env (.ref L)) _ _ _
  refine wpAny_assign_Name (store_ok2 (v := V.ref L) I' nd hy (.inl loc) rfl (fun s2 I2 ⟨a, sb, ha⟩ => ?_) (.inr loc))
  obtain ⟨f0, f1, f2, f3, f4, f5⟩ := f
  have apart : C ≠ a := fun e => ha.elim (fun z => f1 (e.trans z)) fun z => f4 y a z e.symm
  refine ⟨m, hn.sameBut sb apart, fun h3 sb3 => ⟨_, H', I2.turned (t' := s2.toks) (fun b u hb e => (sb3.2 b hb).trans e) f0 f1 f3 f4 f5, q⟩⟩
end
end Lc

set_option Elab.async false
set_option linter.all false
set_option maxRecDepth 100000
set_option maxHeartbeats 4000000
set_option pp.maxSteps 4000
/-! {**a, **b} of two dicts with texts as keys. -/
namespace Un
open PySem PySem.Spec PyProof.Rows L2
section
variable {prog : Program} {w : World} {A : Around} {E : Value → Shared → Prop} {s : Shared}
theorem dict_iter : typeLookup (.type "dict") "__iter__" = pure (some (.builtin "dict.__iter__")) := by rw [typeLookup_type, builtinLookup_eq_fast]; kernel_rfl
theorem put_pairs {K : Type} [DecidableEq K] {knd : KeyKind prog w K} {d : Addr} {kvs : List (K × Value)} {k : K} {key v : Value} {Q : Unit → Shared → Prop} (hkey : knd.is k key = true) (hm : s.heap.DictOf knd d kvs)
    (hQ : ∀ h', h'.DictOf knd d (stored kvs k v) → Heap.SameBut d s.heap h' → Q () { s with heap := h' }) (hsz : kvs.length ≤ sizeLine) :
    wpAny (model prog w) A (dictPut d (knd.hash k) key v) Q E s := by
  obtain ⟨o, es, ep, ho, hc, hd, hk, hp, hn⟩ := hm
  have hes : es.size ≤ sizeLine := by have e1 := hp.length; have e2 : es.toList.length = es.size := by simp
                                      omega
  unfold dictPut
  refine wpAny_bind (wpAny_dictFind_of hkey ho hd hk ?_)
  have hidx : (es.findIdx? fun e => knd.is k e.key) = kvs.findIdx? fun kv => decide (kv.1 = k) := by
    rw [← hp.findIdx k]; obtain ⟨l⟩ := es; simp
  cases hi : es.findIdx? fun e => knd.is k e.key with
  | some i =>
    refine (wpAny_updateDict ho hd (hQ _ ⟨_, _, ep, Heap.get?_update_self _ ho (Obj.isFreed_of_dict (Obj.data_mapDict hd _)),
      hc.mapDict _, Obj.data_mapDict hd _, hk.modify _ _, ?_, ?_⟩ (Heap.SameBut.update ..)))
    · rw [stored, if_pos (any_of_findIdx_some (hidx ▸ hi))]
      have hl : (es.toList.findIdx? fun e => knd.is k e.key) = some i := by rw [← hi]; obtain ⟨l⟩ := es; simp
      have := hp.modify hn hl v
      obtain ⟨l⟩ := es
      simpa using this
    · rw [stored, if_pos (any_of_findIdx_some (hidx ▸ hi)), keys_map_store]; exact hn
  | none =>
    have hnot : k ∉ kvs.map (·.1) := not_mem_of_findIdx_none (hidx ▸ hi)
    have hany : ¬ (kvs.any fun kv => decide (kv.1 = k)) = true := by
      rw [List.any_eq_true]; rintro ⟨kv, hkv, he⟩
      exact hnot (List.mem_map.mpr ⟨kv, hkv, of_decide_eq_true he⟩)
    refine (wpAny_updateDictKeys (hz := hes) ho hd (hQ _ ⟨_, _, ep + 1, Heap.get?_update_self _ ho (Obj.isFreed_of_dict (Obj.data_mapDictKeys hd _)),
      hc.mapDictKeys _, Obj.data_mapDictKeys hd _, hk.push hkey _, ?_, ?_⟩ (Heap.SameBut.update ..)))
    · rw [stored, if_neg hany]
      have := hp.append hkey (knd.hash k) v
      obtain ⟨l⟩ := es
      simpa using this
    · rw [stored, if_neg hany, List.map_append, List.nodup_append]
      refine ⟨hn, by simp, ?_⟩
      intro a ha b hb
      simp only [List.map_cons, List.map_nil, List.mem_singleton] at hb
      subst hb
      exact fun e => hnot (e ▸ ha)
theorem merge_into {d o : Addr} {kvs more : List (Key × Value)} {Q : Unit → Shared → Prop} (hdo : d ≠ o) (hoS : (o == sysModules) = false)
    (hd : s.heap.DictOf (mixKind prog w) d kvs) (ho : s.heap.DictOf (mixKind prog w) o more)
    (hQ : ∀ h', h'.DictOf (mixKind prog w) d (merged kvs more) → Heap.SameBut d s.heap h' → Q () { s with heap := h' })
    (hsz : kvs.length + more.length ≤ sizeLine) : wpAny (model prog w) A (mergeMapping d (.ref o) false) Q E s := by
  obtain ⟨od, esd, epd, hod, hcd, hdd, hkd, hpd, hnd⟩ := id hd
  obtain ⟨oo, eso, epo, hoo, hco, hdo', hko, hpo, hno⟩ := id ho
  have hT : s.TypeIs (.ref o) "dict" := ⟨oo, hoo, hco.1⟩
  have hlen : more.length = eso.size := by rw [← hpo.length]; simp
  unfold mergeMapping
  refine wpAny_bind (wpAny_isInstance (T := "dict") (b := true) hT (by rw [isSubtype_type]; kernel_rfl) ?_)
  rw [if_pos rfl]
  refine wpAny_bind (wpAny_specialOf hT dict_iter ?_)
  refine wpAny_bind (wpAny_pure ?_)
  have hb : (some (Value.builtin "dict.__iter__") == some (Value.builtin "dict.__iter__")) = true := by decide +kernel
  rw [hb]
  dsimp only
  rw [if_neg (by rw [hoS]; exact Bool.false_ne_true)]
  refine wpAny_bind (wpAny_dictEntries hod hdd ?_)
  have body : ∀ s1 : Shared, s1 = s → wpAny (model prog w) A (do
      let es ← dictEntries o
      let epoch ← dictEpoch o
      forIn (List.range es.size) PUnit.unit fun i (_ : PUnit) => (do
          let l ← dictEntries o
          match l[i]? with
            | some e => do
              holding [e.key, e.val] (dictPut d e.hash e.key e.val)
              let ep ← dictEpoch o
              if (ep != epoch) = true then do
                  (unsupported "dict.changed-during-merge" : Sem PUnit)
                  pure (ForInStep.yield PUnit.unit)
                else pure (ForInStep.yield PUnit.unit)
            | _ => do
              (unsupported "dict.changed-during-merge" : Sem PUnit)
              pure (ForInStep.yield PUnit.unit) : Sem (ForInStep PUnit))
      pure ()) Q E s1 := by
    rintro s1 rfl
    refine wpAny_bind (wpAny_dictEntries hoo hdo' ?_)
    refine wpAny_bind (wpAny_dictEpoch hoo hdo' ?_)
    refine wpAny_bind ?_
    rw [List.range_eq_range']
    refine wpAny_forIn_list _
      (fun rest _ s' => ∃ h' i, s' = { s1 with heap := h' } ∧ rest = List.range' i (eso.size - i) ∧ i ≤ eso.size ∧ h'.DictOf (mixKind prog w) d (merged kvs (more.take i)) ∧ h'.get? o = some oo ∧ Heap.SameBut d s1.heap h')
      _ ?_ ?_ _ _ ⟨s1.heap, 0, rfl, by simp, Nat.zero_le _, by simpa [merged] using hd, hoo, Heap.SameBut.refl _ _⟩
    · rintro x rest b s' ⟨h', i, rfl, hr, hi, hd', hoo', hs'⟩
      have hlt : i < eso.size := by
        rcases Nat.lt_or_ge i eso.size with h | h
        · exact h
        · rw [Nat.sub_eq_zero_of_le h] at hr; simp at hr
      obtain ⟨rfl, hrest⟩ : x = i ∧ rest = List.range' (i + 1) (eso.size - (i + 1)) := by
        have e : eso.size - i = (eso.size - (i + 1)) + 1 := by omega
        rw [e, List.range'_succ] at hr
        injection hr with h1 h2
        exact ⟨h1, h2⟩
      refine wpAny_bind (wpAny_dictEntries hoo' hdo' ?_)
      rw [Array.getElem?_eq_getElem hlt]
      obtain ⟨kv, hkv⟩ : ∃ kv, more[x]? = some kv := ⟨more[x]'(by rw [hlen]; exact hlt), List.getElem?_eq_getElem _⟩
      obtain ⟨k, v⟩ := kv
      obtain ⟨hkey, hval⟩ := hpo.get? (e := eso[x]) (by simp [hlt]) hkv
      obtain ⟨k', hkey', hhash⟩ := hko eso[x] (Array.getElem_mem hlt)
      obtain rfl : k' = k := (mixKind prog w).inj _ _ _ hkey' hkey
      show wpAny _ _ (holding [eso[x].key, eso[x].val] (dictPut d eso[x].hash eso[x].key eso[x].val) >>= _) _ _ _
      rw [hhash, hval]
      have hmx : (merged kvs (more.take x)).length ≤ sizeLine := by
        have h1 := merged_length_le kvs (more.take x)
        have h2 : (more.take x).length ≤ more.length := List.length_take_le' _ _
        omega
      refine wpAny_bind (wpAny_holding (put_pairs (s := { s1 with heap := h' }) hkey' hd' (fun h₂ hd₂ hs₂ => ?_) hmx))
      have hoo2 : h₂.get? o = some oo := (hs₂.2 o (Ne.symm hdo)).trans hoo'
      refine wpAny_bind (wpAny_dictEpoch (s := { s1 with heap := h₂ }) hoo2 hdo' ?_)
      rw [if_neg (by simp)]
      refine wpAny_pure ⟨h₂, x + 1, rfl, hrest, hlt, ?_, hoo2, hs'.trans hs₂⟩
      rw [merged_take_succ kvs more x _ hkv]
      exact hd₂
    · rintro b s' ⟨h', i, rfl, hr, hi, hd', hoo', hs'⟩
      have : i = eso.size := by
        have e := congrArg List.length hr
        simp at e
        omega
      rw [this, ← hlen, List.take_length] at hd'
      exact wpAny_pure (hQ h' hd' hs')
  by_cases he : esd.isEmpty = true
  · rw [if_pos he]
    refine wpAny_bind (wpAny_dictEntries hoo hdo' ?_)
    refine wpAny_bind ?_
    rw [← Array.forIn_toList]
    refine wpAny_forIn_list _ (fun rest _ s' => s' = s ∧ ∀ e ∈ rest, e ∈ eso.toList) _ ?_ ?_ _ _ ⟨rfl, fun e h => h⟩
    · rintro x rest b s' ⟨rfl, hm⟩
      obtain ⟨k', hkey', _⟩ := hko x (by simpa using hm x List.mem_cons_self)
      rcases keyIs_shape hkey' with ⟨i, t, e, e2⟩ | ⟨y, t, e, e2⟩ <;> rw [e2] <;> exact wpAny_pure ⟨rfl, fun e h => hm e (List.mem_cons_of_mem _ h)⟩
    · rintro b s' ⟨rfl, _⟩
      exact body s' rfl
  · rw [if_neg he]
    exact body s rfl
end
/-- entries put one after the other -/
def mrg (kvs more : List (Key × V)) : List (Key × V) := more.foldl (fun acc kv => putK acc kv.1 kv.2) kvs
theorem mrg_rel : ∀ {more : List (Key × V)} {ms : List (Key × Value)} {kvs : List (Key × V)} {vs : List (Key × Value)}, KV kvs vs → KV more ms → KV (mrg kvs more) (merged vs ms)
  | _, _, _, _, r, .nil => r
  | (k, y) :: more, (k2, u) :: ms, kvs, vs, r, .cons ⟨e, ry⟩ t => by
    have e : k = k2 := e
    subst e
    have ry : RelV y u := ry
    exact mrg_rel (more := more) (ms := ms) (kvs := putK kvs k y) (vs := stored vs k u) (r.put k ry) t
theorem mrg_len : ∀ (more kvs : List (Key × V)), (mrg kvs more).length ≤ kvs.length + more.length
  | [], kvs => Nat.le_refl _
  | p :: more, kvs => by
    have a := mrg_len more (putK kvs p.1 p.2)
    have b := length_putK kvs p.1 p.2
    show (mrg (putK kvs p.1 p.2) more).length ≤ _
    rw [List.length_cons]
    omega
theorem mrg_out {k : Key} : ∀ {more kvs : List (Key × V)}, (∀ p ∈ more, p.1 ≠ k) → valV (mrg kvs more) k = valV kvs k
  | [], _, _ => rfl
  | p :: more, kvs, h => by
    show valV (mrg (putK kvs p.1 p.2) more) k = _
    rw [mrg_out fun q m => h q (List.mem_cons_of_mem _ m), valV_put, if_neg fun z => h p List.mem_cons_self z.symm]
theorem mrg_in {k : Key} {v : V} : ∀ {more kvs : List (Key × V)}, (∀ p ∈ more, p.1 = k → p.2 = v) → (valV kvs k = some v ∨ ∃ p ∈ more, p.1 = k) → valV (mrg kvs more) k = some v
  | [], _, _, .inl e => e
  | [], _, _, .inr ⟨_, m, _⟩ => by cases m
  | p :: more, kvs, h, c => by
    refine mrg_in (kvs := putK kvs p.1 p.2) (fun q m => h q (List.mem_cons_of_mem _ m)) ?_
    by_cases e : p.1 = k
    · left
      rw [valV_put, if_pos e.symm, h p List.mem_cons_self e]
    · rcases c with c | ⟨q, m, eq⟩
      · left
        rw [valV_put, if_neg fun z => e z.symm]
        exact c
      · right
        rcases List.mem_cons.mp m with z | z
        · rw [z] at eq
          exact absurd eq e
        · exact ⟨q, z, eq⟩
/-- {**e, **e2} -/
def tUnpack (te te2 : TE) : TE := fun σ H Q => ∀ p, H p = none → te σ (upd H p (.dK [])) fun x H1 => ∃ a k1, x = .ref a ∧ a ≠ p ∧ H1 a = some (.dK k1) ∧ H1 p = some (.dK []) ∧
  te2 σ (upd H1 p (.dK (mrg [] k1))) fun y H2 => ∃ b k2, y = .ref b ∧ b ≠ p ∧ H2 b = some (.dK k2) ∧ H2 p = some (.dK (mrg [] k1)) ∧ k1.length + k2.length ≤ sizeLine ∧ Q (.ref p) (upd H2 p (.dK (mrg (mrg [] k1) k2)))
theorem merge_laid {X : Cx} {pins : List (Addr × Obj)} {σ : L2.St} {H : Hp} {s : Shared} {p a : Addr} {kvs more : List (Key × V)} {Q : Unit → Shared → Prop} {E : Value → Shared → Prop} (I : Inv X pins σ H s) (ne : a ≠ p) (hp : H p = some (.dK kvs)) (ha : H a = some (.dK more)) (hn : kvs.length + more.length ≤ sizeLine)
    (h : ∀ s', Inv X pins σ (upd H p (.dK (mrg kvs more))) s' → Q () s') : wpAny (model X.prog X.w) X.A (mergeMapping p (.ref a) false) Q E s := by
  obtain ⟨z1, d1, vs, r1, D1⟩ := dk_of I.hok hp
  obtain ⟨z2, d2, ms, r2, D2⟩ := dk_of I.hok ha
  have l1 := Paired.length r1
  have l2 := Paired.length r2
  refine merge_into (Ne.symm ne) d2 D1 D2 (fun h' D3 sb => h _ ?_) (by rw [← l1, ← l2]; exact hn)
  have he : ∃ q, h'.get? p = some q := let ⟨q, _, _, hq, _⟩ := D3; ⟨q, hq⟩
  exact d_write (t' := s.toks) I (by rw [hp]; exact True.intro) sb he (dk_new (Nat.le_trans (mrg_len more kvs) hn) d1 (mrg_rel r1 r2) D3)
theorem pe_unpack {X : Cx} {e e2 : Expr} {te te2 : TE} {pos : Pos} (h1 : PE X e te) (h2 : PE X e2 te2) : PE X (.Dict [none, none] [e, e2] pos) (tUnpack te te2) := by
  refine ⟨fun pins s σ H Q I h => ?_⟩
  rw [arm_eval_Dict]
  refine wpAny_bind (wpAny_standAt ?_)
  show wpAny _ _ (dictDisplay [(none, do let x ← eval e X.env; standAt pos; pure x), (none, do let x ← eval e2 X.env; standAt pos; pure x)]) _ _ _
  unfold dictDisplay
  have nP : H s.heap.objs.size = none := I.hok.fresh (Nat.le_refl _)
  have I0 : Inv X pins σ (upd H s.heap.objs.size (.dK [])) { s with heap := s.heap.push { cls := .type "dict", data := .dict #[] } } := I.laid (t' := s.toks) (fun b u z => Heap.get?_push_of_some _ z) (Nat.le_refl _) (dk_empty s.heap I.big)
  have q := h _ nP
  simp only [List.forIn_cons, List.forIn_nil]
  refine wpAny_bind (wpAny_bind (wpAny_bind ?_))
  rw [if_pos (show (List.isEmpty (α := Sem Value × Sem Value) []) = true from rfl)]
  refine wpAny_pure ?_
  dsimp only
  refine wpAny_bind (wpAny_alloc ?_)
  generalize s.heap.objs.size = p at q nP I0
  refine wpAny_bind (wpAny_holding (wpAny_bind (thn (h1.run pins _ σ _ _ I0 q) fun u s1 got => ?_)))
  obtain ⟨x, H1, I1, rx, a, k1, rfl, ne, ea, ep, q2⟩ := got
  obtain rfl : u = Value.ref a := rx
  refine wpAny_bind (wpAny_standAt (wpAny_pure ?_))
  have n1 : ([] : List (Key × V)).length + k1.length ≤ sizeLine := by
    have := (dk_of I1.hok ea).1
    rw [List.length_nil]
    omega
  refine wpAny_bind (wpAny_onRaise (wpAny_tryCatch (wpAny_onRaise (wpAny_holding (merge_laid I1 ne ep ea n1 fun s2 I2 => ?_)))))
  refine wpAny_pure ?_
  dsimp only
  refine wpAny_bind (wpAny_bind ?_)
  rw [if_pos (show (List.isEmpty (α := Sem Value × Sem Value) []) = true from rfl)]
  refine wpAny_pure ?_
  dsimp only
  refine wpAny_bind (wpAny_pure ?_)
  refine wpAny_bind (wpAny_holding (wpAny_bind (thn (h2.run pins _ σ _ _ I2 q2) fun u2 s3 got => ?_)))
  obtain ⟨y, H2, I3, ry, b, k2, rfl, ne2, eb, ep2, n2, q3⟩ := got
  obtain rfl : u2 = Value.ref b := ry
  refine wpAny_bind (wpAny_standAt (wpAny_pure ?_))
  have n3 : (mrg [] k1).length + k2.length ≤ sizeLine := by
    have := mrg_len k1 []
    rw [List.length_nil] at this
    omega
  refine wpAny_bind (wpAny_onRaise (wpAny_tryCatch (wpAny_onRaise (wpAny_holding (merge_laid I3 ne2 ep2 eb n3 fun s4 I4 => ?_)))))
  refine wpAny_pure ?_
  dsimp only
  refine wpAny_pure ?_
  refine wpAny_bind ?_
  rw [if_pos (show (List.isEmpty (α := Sem Value × Sem Value) []) = true from rfl)]
  refine wpAny_pure ?_
  dsimp only
  exact wpAny_pure ⟨.ref p, _, I4, rfl, q3⟩
end Un

set_option Elab.async false
set_option linter.all false
set_option maxRecDepth 100000
set_option maxHeartbeats 4000000
/-! The entries of a stretch. -/
namespace Ld
open PySem PySem.Spec PyProof.Rows L2 Lg Lr Lb
def symsOf (G : List Rule) : List Str := namesOf G ++ G.flatMap (·.2)
theorem names_mem {G : List Rule} {N : Str} : N ∈ namesOf G ↔ ∃ r ∈ G, r.1 = N := by
  unfold namesOf
  rw [name_in, List.mem_map]
  constructor
  · rintro (h | ⟨r, h, e⟩)
    · cases h
    · exact ⟨r, h, e⟩
  · rintro ⟨r, h, e⟩
    exact .inr ⟨r, h, e⟩
def But3 (x y z : Addr) (A B : Hp) : Prop := ∀ b o, b ≠ x → b ≠ y → b ≠ z → A b = some o → B b = some o
theorem But3.of_same {x y z : Addr} {A B : Hp} (u : Same A B) : But3 x y z A B := fun b o _ _ _ e => u b o e
theorem But3.trans {x y z : Addr} {A B C : Hp} (u : But3 x y z A B) (v : But3 x y z B C) : But3 x y z A C := fun b o h1 h2 h3 e => v b o h1 h2 h3 (u b o h1 h2 h3 e)
theorem But3.up1 {x y z : Addr} {A : Hp} {o : HO} : But3 x y z A (upd A x o) := fun b _ h1 _ _ e => by rw [upd_ne h1]; exact e
theorem But3.up2 {x y z : Addr} {A : Hp} {o : HO} : But3 x y z A (upd A y o) := fun b _ _ h1 _ e => by rw [upd_ne h1]; exact e
theorem But3.up3 {x y z : Addr} {A : Hp} {o : HO} : But3 x y z A (upd A z o) := fun b _ _ _ h1 e => by rw [upd_ne h1]; exact e
theorem But3.same {x y z : Addr} {H A B : Hp} (s : Same H A) (u : But3 x y z A B) (hx : H x = none) (hy : H y = none) (hz : H z = none) : Same H B := fun b o e => u b o (fun q => by rw [q, hx] at e; cases e) (fun q => by rw [q, hy] at e; cases e) (fun q => by rw [q, hz] at e; cases e) (s b o e)
/-- rests, ones that stand apart -/
def RowB (x y : Addr) (H : Hp) (v : V) (os : List (Option Cost)) : Prop := ∃ a ws, v = .ref a ∧ a ≠ x ∧ a ≠ y ∧ H a = some (.lst ws) ∧ Rel2 (CostV H) ws os
section
variable {x y z : Addr} {A B : Hp} {lx ly : List V} {kz : List (Key × V)}
theorem tups3 (u : But3 x y z A B) (hx : A x = some (.lst lx)) (hy : A y = some (.lst ly)) (hz : A z = some (.dK kz)) : TupS A B := fun b xs e => u b _ (fun q => by rw [q, hx] at e; cases e) (fun q => by rw [q, hy] at e; cases e) (fun q => by rw [q, hz] at e; cases e) e
theorem RowB.but (u : But3 x y z A B) (hx : A x = some (.lst lx)) (hy : A y = some (.lst ly)) (hz : A z = some (.dK kz)) (v : V) (os : List (Option Cost)) (h : RowB x y A v os) : RowB x y B v os := by
  obtain ⟨a, ws, e, n1, n2, ha, r⟩ := h
  exact ⟨a, ws, e, n1, n2, u _ _ n1 n2 (fun q => by rw [q, hz] at ha; cases ha) ha, r.mono fun v c h => CostV.tupS (tups3 u hx hy hz) h⟩
end
theorem putK_keys {κ : Type} [DecidableEq κ] {kvs : List (κ × V)} {k : κ} {v : V} : (∀ p ∈ putK kvs k v, p ∈ kvs ∨ p = (k, v)) ∧ ((kvs.map (·.1)).Nodup → ((putK kvs k v).map (·.1)).Nodup) := by
  constructor
  · intro p hp
    unfold putK at hp
    split at hp
    · obtain ⟨q, hq, e⟩ := List.mem_map.mp hp
      split at e
      · rename_i z
        right
        rw [← e, z]
      · left
        rw [← e]
        exact hq
    · rcases List.mem_append.mp hp with m | m
      · exact .inl m
      · exact .inr (List.mem_singleton.mp m)
  · intro nd
    unfold putK
    split
    · rw [List.map_map]
      have : (fun x : κ × V => x.1) ∘ (fun kv => if kv.1 = k then (kv.1, v) else kv) = fun x => x.1 := by
        funext x
        show (if x.1 = k then (x.1, v) else x).1 = x.1
        split <;> rfl
      rw [this]
      exact nd
    · rename_i h
      rw [List.map_append]
      refine List.nodup_append.mpr ⟨nd, by simp, fun x hx y hy e => h ?_⟩
      rw [List.any_eq_true]
      obtain ⟨q, hq, e2⟩ := List.mem_map.mp hx
      exact ⟨q, hq, decide_eq_true (by rw [e2, e]; simpa using hy)⟩
theorem putK_same {κ : Type} [DecidableEq κ] {kvs : List (κ × V)} {k : κ} {v y : V} (h : valV kvs k = some y) : (putK kvs k v).length = kvs.length := by
  unfold putK
  rw [valV_any, h, if_pos (show (some y).isSome = true from rfl), List.length_map]
theorem valV_nd {κ : Type} [DecidableEq κ] : ∀ {kvs : List (κ × V)}, (kvs.map (·.1)).Nodup → ∀ p ∈ kvs, valV kvs p.1 = some p.2
  | [], _, _, m => by cases m
  | q :: r, nd, p, m => by
    obtain ⟨n1, n2⟩ := List.nodup_cons.mp nd
    rcases List.mem_cons.mp m with e | m
    · rw [e]; exact valV_pos rfl
    · rw [valV_neg (fun z => n1 (List.mem_map.mpr ⟨p, m, z.symm⟩))]
      exact valV_nd n2 p m
theorem inV_ints (n : Nat) (ns : List Nat) : inV (V.int (n : Int)) (ns.map fun r : Nat => V.int (r : Int)) = decide (n ∈ ns) := by
  unfold inV
  rw [Bool.eq_iff_iff, List.any_eq_true, decide_eq_true_eq]
  constructor
  · rintro ⟨y, hy, e⟩
    obtain ⟨m, hm, rfl⟩ := List.mem_map.mp hy
    have : m = n := by
      have e : ((m : Int) = (n : Int)) := by simpa [eqV] using e
      omega
    rw [← this]
    exact hm
  · intro h
    exact ⟨V.int (n : Int), List.mem_map.mpr ⟨n, h, rfl⟩, by simp [eqV]⟩
theorem flat_ints (ns : List Nat) : (ns.map fun r : Nat => V.int (r : Int)).all flatV = true := by
  rw [List.all_eq_true]
  intro x hx
  obtain ⟨m, _, rfl⟩ := List.mem_map.mp hx
  rfl
theorem addW_take {us : List Nat} : ∀ {w : List Nat} {k : Nat} {u : Nat}, us[k]? = some u → addW w (us.take (k + 1)) = (if u ∈ addW w (us.take k) then addW w (us.take k) else addW w (us.take k) ++ [u]) := by
  induction us with
  | nil => intro w k u h; simp at h
  | cons x us ih =>
    intro w k u h
    cases k with
    | zero =>
      have h : x = u := Option.some.inj h
      subst h
      rfl
    | succ k => exact ih (w := if x ∈ w then w else w ++ [x]) h
theorem addW_len : ∀ {us w : List Nat}, (addW w us).length ≤ w.length + us.length
  | [], _ => Nat.le_refl _
  | u :: us, w => by
    have := addW_len (us := us) (w := if u ∈ w then w else w ++ [u])
    show (addW (if u ∈ w then w else w ++ [u]) us).length ≤ _
    rw [List.length_cons]
    by_cases m : u ∈ w
    · rw [if_pos m] at this ⊢
      omega
    · rw [if_neg m] at this ⊢
      rw [List.length_append, List.length_singleton] at this
      omega
theorem users_len (G : List Rule) (N : Str) : (usersOf G N).length ≤ G.length := by
  unfold usersOf
  exact Nat.le_trans (List.length_filter_le _ _) (by rw [List.length_range]; exact Nat.le_refl _)
theorem Rel2.set {α : Type} {R : V → α → Prop} : ∀ {vs : List V} {xs : List α} {i : Nat} {v : V} {x : α}, Rel2 R vs xs → R v x → Rel2 R (vs.set i v) (xs.set i x)
  | [], [], _, _, _, _, _ => True.intro
  | _ :: _, _ :: _, 0, _, _, q, r => ⟨r, q.2⟩
  | _ :: _, _ :: _, i + 1, _, _, q, r => ⟨q.1, Rel2.set (i := i) q.2 r⟩
  | [], _ :: _, _, _, _, q, _ => q.elim
  | _ :: _, [], _, _, _, q, _ => q.elim
/-- costs of symbols, in a dict of a size -/
def OverB (H : Hp) (d : Addr) (ss : List Str) (o : Str → Option Cost) : Prop := ∃ kvs, H d = some (.dK kvs) ∧ kvs.length ≤ 5000 ∧ ∀ s ∈ ss, ∃ v, valV kvs (Sum.inr s) = some v ∧ CostV H v (o s)
theorem OverB.a {H : Hp} {d : Addr} {ss : List Str} {o : Str → Option Cost} (h : OverB H d ss o) : OverA H d ss o := let ⟨kvs, e, _, q⟩ := h; ⟨kvs, e, q⟩
theorem OverB.stay {A B : Hp} (u : TupS A B) {d : Addr} {ss : List Str} {o : Str → Option Cost} (h : OverB A d ss o) (k : ∀ kvs, A d = some (.dK kvs) → B d = some (.dK kvs)) : OverB B d ss o := by
  obtain ⟨kvs, e, l, q⟩ := h
  refine ⟨kvs, k _ e, l, fun s hs => ?_⟩
  obtain ⟨v, ev, cv⟩ := q s hs
  exact ⟨v, ev, cv.tupS u⟩
theorem ixN_at {n j : Nat} (hj : j < n) : ixN n (j : Int) = some j := by
  unfold ixN
  rw [if_pos (by omega), if_pos (by omega)]
  simp
theorem PcsA.same {A B : Hp} (u : Same A B) {v : V} {ps : List Piece} (h : PcsA A v ps) : PcsA B v ps := by
  obtain ⟨a, ws, e, ha, r⟩ := h
  exact ⟨a, ws, e, u _ _ ha, r.mono (PcA.tupS (TupS.of_same u))⟩
section
variable {P : Program} {w : World} {K : PySem.W.Frag} {mg : Str → Option Value} {base : Heap}
theorem scMe : FnScope ["grammar", "leaves", "pieces", "name", "names", "over", "rule", "rests", "waiting", "symbols", "cost", "user"] ["grammar", "leaves", "pieces"] (defScope s__made_entries) := ⟨rfl, rfl, rfl, by decide +kernel, rfl, by decide +kernel, by decide +kernel⟩
/-- the leaves over a stretch, in a dict -/
def LeafA (H : Hp) (d : Addr) (B : Pb) (G : List Rule) (i j : Nat) : Prop := ∃ kvs, H d = some (.dK kvs) ∧ kvs.length ≤ 2000 ∧ (kvs.map (·.1)).Nodup ∧ ∀ r ∈ G, ∀ s ∈ r.2, B.isN s = false → ∃ v, valV kvs (Sum.inr s) = some v ∧ CostV H v (some (B.leaf s i j, 1))
theorem LeafA.same {A B : Hp} (u : Same A B) {d : Addr} {Pr : Pb} {G : List Rule} {i j : Nat} (h : LeafA A d Pr G i j) : LeafA B d Pr G i j := by
  obtain ⟨kvs, e, l, nd, q⟩ := h
  refine ⟨kvs, u _ _ e, l, nd, fun r hr s hs n => ?_⟩
  obtain ⟨v, ev, cv⟩ := q r hr s hs n
  exact ⟨v, ev, cv.same u⟩
/-- the state of the loop -/
def WRel (g lv pl nm ov rl wl : Addr) (B : Pb) (i j : Nat) (H : Hp) (st : WSt) (σ : L2.St) (H' : Hp) : Prop := ∃ v3 v6 v9 v10 v11, σ = [some (.ref g), some (.ref lv), some (.ref pl), v3, some (.ref nm), some (.ref ov), v6, some (.ref rl), some (.ref wl), v9, v10, v11] ∧ Same H H' ∧
  H' wl = some (.lst (st.wt.map fun r : Nat => V.int (r : Int))) ∧ OverB H' ov (symsOf B.G) (ovW B i j st.o) ∧ ∃ rv, H' rl = some (.lst rv) ∧ Rel2 (RowB rl wl H') rv st.R
structure GraW (B : Pb) : Prop where
  own : ∀ r ∈ B.G, B.isN r.1 = true
  name : ∀ r ∈ B.G, ∀ s ∈ r.2, B.isN s = true → ∃ q ∈ B.G, q.1 = s
  few : ∀ r ∈ B.G, r.2.length ≤ 20
  rules : B.G.length ≤ 40
def spMe : Sp := fun vs H Q _ => ∃ (g lv pl : Addr) (B : Pb) (T : Nat → Nat → Ent) (i j : Nat) (pv : List V), vs = [.ref g, .ref lv, .ref pl] ∧ GraA H g B.G ∧ GraW B ∧ PbOk B ∧ LeafA H lv B B.G i j ∧ H pl = some (.lst pv) ∧ pv.length = B.G.length ∧
  (∀ r N ss, B.G[r]? = some (N, ss) → ∃ v, pv[r]? = some v ∧ ((i = j ∧ v = .non) ∨ (i < j ∧ PcsA H v (psW B T i j r ss)))) ∧ i ≤ j ∧ Short B T i j ∧ B.kn i j = none ∧
  ∀ p kvs H2 e, Same H H2 → H p = none → H2 p = some (.dT kvs) → EntK H2 B.G kvs e → LeastAt B e i j → Q (.ref p) H2
theorem ok_me {f fN fR fA fL fU fE : Addr} {fd fdN fdR fdA fdL fdU fdE : FuncData} (F : Fun K "_made_entries" "_made_entries" s__made_entries f fd)
    (GN : FnOk P w K mg base CX0 1 fN fdN ["grammar"] spNames) (kN' : PySem.W.keepIn K (.ref fN) = true) (bN : Binds K fdN ["grammar"] []) (gN : mg "names_of" = some (.ref fN))
    (GR : FnOk P w K mg base CX0 3 fR fdR ["symbols", "over", "pieces"] spRs) (kR' : PySem.W.keepIn K (.ref fR) = true) (bR : Binds K fdR ["symbols", "over", "pieces"] []) (gR : mg "_rests_of" = some (.ref fR))
    (GA : FnOk P w K mg base CX0 1 fA fdA ["one", "two"] spAd) (kA : PySem.W.keepIn K (.ref fA) = true) (bA : Binds K fdA ["one", "two"] []) (gA : mg "added" = some (.ref fA))
    (GL : FnOk P w K mg base CX0 1 fL fdL ["costs"] spLs) (kL : PySem.W.keepIn K (.ref fL) = true) (bL : Binds K fdL ["costs"] []) (gL : mg "least" = some (.ref fL))
    (GU : FnOk P w K mg base CX0 1 fU fdU ["grammar", "name"] spUs) (kU : PySem.W.keepIn K (.ref fU) = true) (bU : Binds K fdU ["grammar", "name"] []) (gU : mg "_users_of" = some (.ref fU))
    (GE : FnOk P w K mg base CX0 2 fE fdE ["grammar", "over", "rests"] spEf) (kE : PySem.W.keepIn K (.ref fE) = true) (bE : Binds K fdE ["grammar", "over", "rests"] []) (gE : mg "_entries_from" = some (.ref fE))
    (mli : mg "list" = none) (mr : mg "range" = none) (ml : mg "len" = none) : FnOk P w K mg base CX0 4 f fd ["grammar", "leaves", "pieces"] spMe := by
  refine F.ok scMe (fun vs H Q E h => ?_) (fun cdv A outer s H vs Q E hr h => ?_)
  · obtain ⟨g, lv, pl, B, T, i, j, pv, rfl, _⟩ := h
    rfl
  · obtain ⟨g, lv, pl, B, T, i, j, pcv, rfl, hG, gw, ok, hL, hpl, lpv, hpc, ij, short, hk, q⟩ := h
    have hu := units1 hr
    have hr1 := hr.mono (show 1 ≤ 3 by decide)
    have hr2 := hr.mono (show 2 ≤ 3 by decide)
    refine ⟨_, pss_cons (Lc.ps_setDicK (i := 4) (own := [("name", 3)]) (g := gName 3) (tk := tVar 3) (tv := tC .non) rfl scMe.nd rfl rfl rfl (pi_list (pe_call GN hr1 (by rfl) gN kN' bN .nil pass0 (pa_cons (pv 0) pa_nil)))
        (blkOk_by (own := [("name", 3)]) (N := ["grammar", "leaves", "pieces", "name", "names", "over", "rule", "rests", "waiting", "symbols", "cost", "user"]) (sc := defScope s__made_entries) (by decide +kernel))
        (fun _ _ _ _ _ => pg_name (i := 3) scMe.nd rfl (Or.inl rfl) (.inr rfl)) (fun _ _ _ _ _ => pts_nil) (fun _ _ _ _ _ => pv 3) (fun _ _ _ _ _ => pe_non))
      (pss_cons (ps_set (i := 5) scMe.nd rfl (.inl rfl) (Un.pe_unpack (pv 1) (pv 4)))
      (pss_cons (ps_setLc (i := 7) (own := [("rule", 6)]) (g := gName 6) (by rfl) scMe.nd rfl rfl rfl (pi_list (pv 0)) (blkOk_by (N := ["grammar", "leaves", "pieces", "name", "names", "over", "rule", "rests", "waiting", "symbols", "cost", "user"]) (sc := defScope s__made_entries) (by decide +kernel))
        (fun _ _ _ _ _ => pg_name (i := 6) scMe.nd rfl (Or.inl rfl) (.inr rfl)) (fun _ _ _ _ _ => pts_nil) (fun _ _ _ _ _ => pe_lst pa_nil))
      (pss_cons (ps_set (i := 8) scMe.nd rfl (.inl rfl) (pe_revL (pe_listRg rfl (by rfl) mli (prg_1 (by rfl) mr (pe_callB call_len_seq (by rfl) ml PySem.boot_len (pa_cons (pv 0) pa_nil))))))
      (pss_cons (ps_while PassesOwn.never (pt_truth (pv 8) (by intro _; rfl))
        (pss_cons (ps_set (i := 6) scMe.nd rfl (.inl rfl) (pe_bm PySem.F.plainAttrs_list PySem.F.slot_list_pop PySem.F.type_list_pop mt_popAt (pv 8) (pa_cons pe_int pa_nil)))
        (pss_cons (ps_asg (pe_ix ix_list (pv 0) (pv 6) (fun _ _ => rfl)) (pg_tup rfl (pgs_cons (pg_name (i := 3) scMe.nd rfl (.inl rfl)) (pgs_cons (pg_name (i := 9) scMe.nd rfl (.inl rfl)) pgs_nil))))
        (pss_cons (ps_asg (pe_call GR hr (by rfl) gR kR' bR .nil pass0 (pa_cons (pv 9) (pa_cons (pv 5) (pa_cons (pe_ix ix_list (pv 2) (pv 6) (fun _ _ => rfl)) pa_nil)))) (pg_sub (pv 7) (pv 6) set_list))
        (pss_cons (ps_set (i := 10) scMe.nd rfl (.inl rfl) (pe_call GL hr1 (by rfl) gL kL bL .nil pass0 (pa_cons (pe_lst (pa_cons (pe_dget hu (pv 5) (pv 3) (fun _ _ => rfl))
            (pa_cons (pe_call GA hr1 (by rfl) gA kA bA .nil pass0 (pa_cons (pe_ix ix_list (pe_ix ix_list (pv 7) (pv 6) (fun _ _ => rfl)) pe_int (fun _ _ => rfl)) (pa_cons (pe_tup (pa_cons pe_int (pa_cons pe_int pa_nil))) pa_nil))) pa_nil))) pa_nil)))
        (pss_one (ps_if (pt_cmpR (op_neD (units64 hr)) (pv 10) (pe_dget hu (pv 5) (pv 3) (fun _ _ => rfl)) (nomark _))
          (pss_cons (ps_dput hu (pv 5) (pv 3) (pv 10) (by rfl))
          (pss_one (ps_for PassesOwn.never rfl (pi_list (pe_call GU hr1 (by rfl) gU kU bU .nil pass0 (pa_cons (pv 0) (pa_cons (pv 3) pa_nil)))) (pg_name (i := 11) scMe.nd rfl (.inl rfl))
            (pss_one (ps_if (pt_cmpR op_notIn_seq (pv 11) (pv 8) rfl) (pss_one (ps_expr (pe_bm PySem.F.plainAttrs_list PySem.F.slot_list_append PySem.F.type_list_append mt_append (pv 8) (pa_cons (pv 11) pa_nil)))) pss_nil))))) pss_nil)))))))
      (pss_one (ps_ret (pe_call GE hr2 (by rfl) gE kE bE .nil pass0 (pa_cons (pv 0) (pa_cons (pv 5) (pa_cons (pv 7) pa_nil)))))))))), ?_⟩
    obtain ⟨kl, hkl, kll, knd, klv⟩ := id hL
    have nlen := names_len B.G
    refine ⟨_, rfl, g, B.G, rfl, hG, gw.rules, fun nl H1 s1 nnl hnl => ⟨nl, rfl, ⟨_, SqL.of hnl⟩, fun D nD => ?_⟩⟩
    refine Lc.wk_by (walk_list (K := K) (a := nl) (xs := (namesOf B.G).map V.str)) (fun n H' => ∃ kvs, Same H1 H' ∧ H' D = some (.dK kvs) ∧ (∀ N ∈ (namesOf B.G).take n, valV kvs (Sum.inr N) = some .non) ∧ (∀ p ∈ kvs, ∃ N ∈ namesOf B.G, p = (Sum.inr N, V.non)) ∧ kvs.length ≤ n)
      ⟨[], same_upd nD, upd_same, (fun N m => by simp at m), (fun p m => nomatch m), Nat.le_refl _⟩ (fun n H' _ ⟨_, s', _⟩ => SqL.of (s' _ _ hnl)) ?_ ?_
    · rintro n x H' H'' hn ⟨kvs, s', hD, all, only, len⟩ ⟨rfl, hx⟩
      obtain ⟨y, hy, rfl⟩ := str_at hx
      refine ⟨rfl, ?_⟩
      unfold tYes
      simp only [if_true]
      have hn : n < (namesOf B.G).length := (List.getElem?_eq_some_iff.mp hy).1
      have := gw.rules
      refine ⟨_, rfl, kvs, Sum.inr y, rfl, hD, million1 (by omega), putK kvs (Sum.inr y) .non, same_put s' nD, upd_same, fun N m => ?_, fun p m => ?_, ?_⟩
      · rw [List.take_add_one, hy] at m
        rw [valV_put]
        split
        · rfl
        · rename_i ne
          rcases List.mem_append.mp m with m | m
          · exact all N m
          · exact absurd (by rw [List.mem_singleton.mp m]) ne
      · rcases putK_keys.1 p m with m | rfl
        · exact only p m
        · exact ⟨y, List.mem_of_getElem? hy, rfl⟩
      · have := length_putK kvs (Sum.inr y) V.non
        omega
    rintro H2 ⟨kn, s2, hD, all, only, len⟩
    rw [List.length_map, List.take_length] at all
    rw [List.length_map] at len
    have sH2 := s1.trans s2
    -- over
    intro ov nov
    have rul := gw.rules
    have ne1 : lv ≠ ov := ne_of_none (sH2 _ _ hkl) nov
    have ne2 : D ≠ ov := ne_of_none hD nov
    have ml1 := Un.mrg_len kl []
    refine ⟨_, rfl, lv, kl, rfl, ne1, ?_, upd_same, _, rfl, D, kn, rfl, ne2, ?_, upd_same, million0 (by omega), ?_⟩
    · rw [upd_ne ne1]; exact sH2 _ _ hkl
    · rw [upd_ne ne2, upd_ne ne2]; exact hD
    rw [upd_upd, upd_upd]
    have s3 : Same H2 (upd H2 ov (.dK (Un.mrg (Un.mrg [] kl) kn))) := same_upd nov
    have hov : OverB (upd H2 ov (.dK (Un.mrg (Un.mrg [] kl) kn))) ov (symsOf B.G) (ovW B i j fun _ => none) := by
      refine ⟨_, upd_same, ?_, fun s hs => ?_⟩
      · have := Un.mrg_len kn (Un.mrg [] kl)
        rw [List.length_nil] at ml1
        omega
      · cases n : B.isN s with
        | true =>
          have sm : s ∈ namesOf B.G := by
            rcases List.mem_append.mp hs with m | m
            · exact m
            · obtain ⟨r, hr, m⟩ := List.mem_flatMap.mp m
              exact names_mem.mpr (gw.name r hr s m n)
          refine ⟨.non, Un.mrg_in (fun p hp e => ?_) (.inr ⟨(Sum.inr s, V.non), valV_from (all s sm), rfl⟩), ?_⟩
          · obtain ⟨N, _, rfl⟩ := only p hp
            rfl
          · unfold ovW
            rw [if_pos n]
            rfl
        | false =>
          have sm : ∃ r ∈ B.G, s ∈ r.2 := by
            rcases List.mem_append.mp hs with m | m
            · obtain ⟨r, hr, e⟩ := names_mem.mp m
              have := gw.own r hr
              rw [e, n] at this
              cases this
            · obtain ⟨r, hr, m⟩ := List.mem_flatMap.mp m
              exact ⟨r, hr, m⟩
          obtain ⟨r, hr, m⟩ := sm
          obtain ⟨v, ev, cv⟩ := klv r hr s m n
          refine ⟨v, ?_, ?_⟩
          · rw [Un.mrg_out fun p hp e => by
              obtain ⟨N, hN, rfl⟩ := only p hp
              have e : N = s := Sum.inr.inj e
              obtain ⟨r2, hr2, e2⟩ := names_mem.mp hN
              have := gw.own r2 hr2
              rw [e2, e, n] at this
              cases this]
            refine Un.mrg_in (fun p hp e => ?_) (.inr ⟨(Sum.inr s, v), valV_from ev, rfl⟩)
            have := valV_nd knd p hp
            rw [e, ev] at this
            exact (Option.some.inj this).symm
          · unfold ovW
            rw [if_neg (by rw [n]; exact Bool.false_ne_true)]
            exact (cv.same sH2).same s3
    generalize upd H2 ov (.dK (Un.mrg (Un.mrg [] kl) kn)) = H3 at s3 hov
    have sH3 := sH2.trans s3
    have nov0 : H ov = none := sH2.free nov
    -- the rests, none yet
    have hG3 := hG.up (Up.of_same sH3)
    obtain ⟨gvs, hg3, gr3⟩ := id hG3
    have lgv := gr3.len
    refine ⟨_, rfl, g, rfl, ⟨_, SqL.of hg3⟩, fun rl nrl => lc_list (a := g) (xs := gvs) (fun n H' => ∃ rv, Same H3 H' ∧ H' rl = some (.lst rv) ∧ Rel2 (fun v os => ∃ a, v = V.ref a ∧ a ≠ rl ∧ os = ([] : List (Option Cost)) ∧ H' a = some (.lst [])) rv (List.replicate n [])) ⟨[], same_upd nrl, upd_same, True.intro⟩ (fun n H' _ ⟨_, s', _⟩ => SqL.of (s' _ _ hg3)) ?_ ?_⟩
    · rintro n x H' hx ⟨rv, s', hd, rel⟩
      have hn : n < gvs.length := (List.getElem?_eq_some_iff.mp hx).1
      refine ⟨rfl, Nat.zero_le _, fun t nt => ?_⟩
      have st : Same H' (upd H' t (.lst [])) := same_upd nt
      have hd2 := st _ _ hd
      have tne : t ≠ rl := Ne.symm (ne_of_none hd nt)
      refine ⟨rv, hd2, ?_, rv ++ [.ref t], same_put (s'.trans st) nrl, upd_same, ?_⟩
      · rw [rel.len, List.length_replicate]
        exact million1 (by omega)
      · rw [List.replicate_succ']
        exact (rel.mono fun v os ⟨a, e1, ne, e2, ha⟩ => ⟨a, e1, ne, e2, (upd_ne ne).trans (st _ _ ha)⟩).snoc ⟨t, rfl, tne, rfl, (upd_ne tne).trans upd_same⟩
    rintro H4 ⟨rv0, s4, hrl, rel0⟩
    rw [lgv] at rel0
    have sH4 := sH3.trans s4
    -- what waits
    refine ⟨_, rfl, g, _, rfl, .inl (SqL.of (s4 _ _ hg3)), _, rfl, RgOk.of_le (by omega) (by omega) (by omega) (by omega), fun w0 nw0 => ?_⟩
    have s5 : Same H4 (upd H4 w0 (.lst (rgV 0 (gvs.length : Int)))) := same_upd nw0
    have hw0 : upd H4 w0 (.lst (rgV 0 (gvs.length : Int))) w0 = some (.lst (rgV 0 (gvs.length : Int))) := upd_same
    generalize upd H4 w0 (.lst (rgV 0 (gvs.length : Int))) = H5 at s5 hw0
    refine ⟨w0, _, rfl, SqL.of hw0, fun wl nwl => ?_⟩
    have ewl : (rgV 0 (gvs.length : Int)).reverse = ((List.range B.G.length).reverse).map fun r : Nat => V.int (r : Int) := by
      unfold rgV
      rw [lgv, List.map_reverse]
      congr 1
      rw [show (((B.G.length : Nat) : Int) - 0).toNat = B.G.length by omega]
      refine List.map_congr_left fun x _ => ?_
      rw [show (0 : Int) + (x : Int) = (x : Int) by omega]
    rw [ewl]
    have s6 : Same H5 (upd H5 wl (.lst (((List.range B.G.length).reverse).map fun r : Nat => V.int (r : Int)))) := same_upd nwl
    have hwl : upd H5 wl (.lst (((List.range B.G.length).reverse).map fun r : Nat => V.int (r : Int))) wl = some (.lst (((List.range B.G.length).reverse).map fun r : Nat => V.int (r : Int))) := upd_same
    generalize upd H5 wl (.lst (((List.range B.G.length).reverse).map fun r : Nat => V.int (r : Int))) = H6 at s6 hwl
    have s56 := s5.trans s6
    have sH6 := sH4.trans s56
    have s36 := s4.trans s56
    have nrl0 : H rl = none := sH3.free nrl
    have nwl0 : H wl = none := (sH4.trans s5).free nwl
    have rw_ne : rl ≠ wl := ne_of_none (s5 _ _ hrl) nwl
    have start : WRel g lv pl D ov rl wl B i j H ⟨fun _ => none, List.replicate B.G.length [], (List.range B.G.length).reverse⟩ [some (.ref g), some (.ref lv), some (.ref pl), none, some (.ref D), some (.ref ov), none, some (.ref rl), some (.ref wl), none, none, none] H6 := by
      refine ⟨none, none, none, none, none, rfl, sH6, hwl, hov.stay (TupS.of_same s36) fun kvs e => s36 _ _ e, rv0, s56 _ _ hrl, ?_⟩
      exact rel0.mono fun v os ⟨a, e1, ne, e2, ha⟩ => ⟨a, [], e1, ne, (fun z => by
        have := s5 _ _ ha
        rw [z, nwl] at this
        cases this), s56 _ _ ha, by rw [e2]; exact True.intro⟩
    obtain ⟨m0, hm0⟩ := w_ends ok ij short hk _ (w_start (B := B) (T := T) (i := i) (j := j) B.G.length rfl)
    refine ⟨fun m σ H' => ∃ st, WInv B T i j st ∧ (iterW B T i j m st).wt = [] ∧ WRel g lv pl D ov rl wl B i j H st σ H', ⟨m0, _, w_start B.G.length rfl, hm0, start⟩, ?_⟩
    rintro m σ A0 ⟨st, inv, ends, v3, v6, v9, v10, v11, rfl, sA, hw, hov, rv, hr0, rel⟩
    have hGA := hG.up (Up.of_same sA)
    refine ⟨_, rfl, _, .inl ⟨_, SqL.of hw, rfl⟩, ?_⟩
    cases ew : st.wt with
    | nil =>
      refine iteF ?_
      have nw : ∀ r N ss, B.G[r]? = some (N, ss) → st.R.getD r [] = rowW B T i j st.o r := fun r N ss h => (inv.nw r N ss h (by rw [ew]; simp)).1
      have done := w_done ij short hk gw.few inv ew
      have ovN : OverA A0 ov (namesOf B.G) st.o := by
        obtain ⟨kvs, e, _, h⟩ := hov
        refine ⟨kvs, e, fun s hs => ?_⟩
        obtain ⟨v, ev, cv⟩ := h s (List.mem_append_left _ hs)
        obtain ⟨r, hr, e2⟩ := names_mem.mp hs
        have n := gw.own r hr
        rw [e2] at n
        unfold ovW at cv
        rw [if_pos n] at cv
        exact ⟨v, ev, cv⟩
      refine ⟨_, rfl, _, rfl, _, rfl, g, ov, rl, B.G, st.o, rv, st.R, rfl, hGA, rul, ovN, hr0, rel.mono (fun v os ⟨a, ws, e, _, _, ha, r⟩ => ⟨a, ws, e, ha, r⟩), inv.lr, fun r N ss h => ?_, fun os hos => ?_, fun p kvs H7 s7 np hp ek => q p kvs H7 _ (sA.trans s7) (sA.free np) hp ek done⟩
      · rw [nw r N ss h]
        exact row_len2 h
      · obtain ⟨r, hr⟩ := List.mem_iff_getElem?.mp hos
        have rl' : r < B.G.length := by
          have := (List.getElem?_eq_some_iff.mp hr).1
          rw [inv.lr] at this
          exact this
        have hg : B.G[r]? = some (B.G[r].1, B.G[r].2) := List.getElem?_eq_getElem rl'
        have e := nw r _ _ hg
        rw [List.getD_eq_getElem?_getD, hr] at e
        have e : os = rowW B T i j st.o r := e
        rw [e, row_len2 hg]
        have := gw.few _ (List.getElem_mem rl')
        omega
    | cons r rest =>
      cases m with
      | zero =>
        have ends : st.wt = [] := ends
        rw [ew] at ends
        cases ends
      | succ m =>
        refine iteT ⟨fun σ' H' => WRel g lv pl D ov rl wl B i j H (wstep B T i j st) σ' H', fun σ' H' h => ⟨m, Nat.lt_succ_self m, wstep B T i j st, wstep_inv ij short hk inv, ends, h⟩, ?_⟩
        rw [ew] at hw
        have rl' : r < B.G.length := inv.wr r (by rw [ew]; exact List.mem_cons_self)
        have wlen : (r :: rest).length ≤ 40 := by
          have := nd_len inv.nd inv.wr
          rw [ew] at this
          omega
        obtain ⟨kov, ekov, _⟩ := id hov
        -- the first one
        refine ⟨_, rfl, .inl ⟨rfl, _, SqL.of hw⟩, wl, _, 0, 0, .int r, rfl, rfl, hw, by decide, by decide, by simp [seqIndex?], rfl, ?_⟩
        have ee : (((r :: rest).map fun r : Nat => V.int (r : Int)).eraseIdx 0) = rest.map fun r : Nat => V.int (r : Int) := rfl
        rw [ee]
        have b1 : But3 rl wl ov A0 (upd A0 wl (.lst (rest.map fun r : Nat => V.int (r : Int)))) := But3.up2
        have hw1 : upd A0 wl (.lst (rest.map fun r : Nat => V.int (r : Int))) wl = some (.lst (rest.map fun r : Nat => V.int (r : Int))) := upd_same
        have hr1' : upd A0 wl (.lst (rest.map fun r : Nat => V.int (r : Int))) rl = some (.lst rv) := by rw [upd_ne rw_ne]; exact hr0
        have ov_wl : ov ≠ wl := fun z => by rw [z, hw] at ekov; cases ekov
        have ov_rl : ov ≠ rl := fun z => by rw [z, hr0] at ekov; cases ekov
        have hov1 : OverB (upd A0 wl (.lst (rest.map fun r : Nat => V.int (r : Int)))) ov (symsOf B.G) (ovW B i j st.o) := hov.stay (tups3 b1 hr0 hw ekov) fun kvs e => by rw [upd_ne ov_wl]; exact e
        have rel1 := rel.mono (RowB.but b1 hr0 hw ekov)
        have sA1 := But3.same sA b1 nrl0 nwl0 nov0
        generalize upd A0 wl (.lst (rest.map fun r : Nat => V.int (r : Int))) = A1 at b1 hw1 hr1' hov1 rel1 sA1
        clear hov rel hr0 hw
        -- its rule
        obtain ⟨gvs1, hg1, gr1⟩ := hG.up (Up.of_same sA1)
        have hgr : B.G[r]? = some (B.G[r].1, B.G[r].2) := List.getElem?_eq_getElem rl'
        have eN : B.G.getD r ("", []) = (B.G[r].1, B.G[r].2) := by rw [List.getD_eq_getElem?_getD, hgr]; rfl
        have fewS := gw.few _ (List.getElem_mem rl')
        have memG : B.G[r] ∈ B.G := List.getElem_mem rl'
        generalize B.G[r].1 = N at hgr eN
        generalize B.G[r].2 = ss at hgr eN fewS
        have memG : (N, ss) ∈ B.G := List.mem_of_getElem? hgr
        have isN : B.isN N = true := gw.own _ memG
        obtain ⟨gv, hgv, tt, sl, rfl, ht1, hsl1⟩ : ∃ gv, gvs1[r]? = some gv ∧ RuleA A1 gv (N, ss) := by
          have hl : r < gvs1.length := by rw [gr1.len]; exact rl'
          obtain ⟨r2, h2, ra⟩ := gr1.get (List.getElem?_eq_getElem hl)
          rw [hgr] at h2
          cases h2
          exact ⟨_, List.getElem?_eq_getElem hl, ra⟩
        refine ⟨_, rfl, _, rfl, g, _, _, _, rfl, rfl, SqL.of hg1, atI_nat hgv, tt, _, rfl, SqT.of ht1, rfl, _, _, rfl, _, _, rfl, rfl, ?_⟩
        -- its rests
        obtain ⟨pcv1, hpv1, cases1⟩ := hpc r N ss hgr
        have sub : ∀ s ∈ ss, s ∈ symsOf B.G := fun s hs => List.mem_append_right _ (List.mem_flatMap.mpr ⟨(N, ss), memG, hs⟩)
        refine ⟨_, rfl, _, rfl, _, rfl, _, rfl, pl, _, _, _, rfl, rfl, SqL.of (sA1 _ _ hpl), atI_nat hpv1, ?_⟩
        have hrow : rowW B T i j st.o r = if i = j then restsN (ovW B i j st.o) ss else restsF (pcF (ovW B i j st.o)) none (ss.zip (psW B T i j r ss)) := by
          unfold rowW
          rw [hgr]
        have lps : (psW B T i j r ss).length = ss.length := by unfold psW; rw [List.length_map, List.length_range]
        refine ⟨sl, ov, pcv1, ss, ovW B i j st.o, rfl, hsl1, by omega, hov1.a.sub sub, ?_⟩
        have cases2 : (i = j ∧ pcv1 = .non) ∨ (i < j ∧ PcsA A1 pcv1 (psW B T i j r ss)) := cases1.imp id fun z => ⟨z.1, z.2.same sA1⟩
        rcases cases2 with ⟨eij, enon⟩ | ⟨lt, pcA⟩
        case' inl =>
          refine .inl ⟨enon, fun p ws A2 s2 np hp rel2 => ?_⟩
          rw [if_pos eij] at hrow
          rw [← hrow] at rel2
        case' inr =>
          refine .inr ⟨_, pcA, lps, fun p ws A2 s2 np hp rel2 => ?_⟩
          rw [if_neg (by omega)] at hrow
          rw [← hrow] at rel2
        all_goals
          have sA2 := sA1.trans s2
          have hr2 := s2 _ _ hr1'
          have p_rl : p ≠ rl := Ne.symm (ne_of_none hr1' np)
          have p_wl : p ≠ wl := Ne.symm (ne_of_none hw1 np)
          obtain ⟨kov1, ekov1, _⟩ := id hov1
          have p_ov : p ≠ ov := Ne.symm (ne_of_none ekov1 np)
          have lrv : rv.length = B.G.length := by rw [rel1.len]; exact inv.lr
          have sameB : ∀ {C : Hp}, Same A1 C → But3 rl wl ov A1 C := fun u => But3.of_same u
          -- they are put in
          refine ⟨_, rfl, _, rfl, rl, rv, _, r, rfl, rfl, hr2, ixN_at (by rw [lrv]; exact rl'), ?_⟩
          have b2 : But3 rl wl ov A1 (upd A2 rl (.lst (rv.set r (.ref p)))) := (But3.of_same s2).trans But3.up1
          have hr3 : upd A2 rl (.lst (rv.set r (.ref p))) rl = some (.lst (rv.set r (.ref p))) := upd_same
          have hw3 : upd A2 rl (.lst (rv.set r (.ref p))) wl = some (.lst (rest.map fun r : Nat => V.int (r : Int))) := by rw [upd_ne (Ne.symm rw_ne)]; exact s2 _ _ hw1
          have hov3 : OverB (upd A2 rl (.lst (rv.set r (.ref p)))) ov (symsOf B.G) (ovW B i j st.o) := hov1.stay (tups3 b2 hr1' hw1 ekov1) fun kvs e => by rw [upd_ne ov_rl]; exact s2 _ _ e
          have hp3 : upd A2 rl (.lst (rv.set r (.ref p))) p = some (.lst ws) := by rw [upd_ne p_rl]; exact hp
          have rel3 : Rel2 (CostV (upd A2 rl (.lst (rv.set r (.ref p))))) ws (rowW B T i j st.o r) := rel2.mono fun v c h => CostV.tupS (.at_lst hr2) h
          have rows3 : Rel2 (RowB rl wl (upd A2 rl (.lst (rv.set r (.ref p))))) (rv.set r (.ref p)) (st.R.set r (rowW B T i j st.o r)) := (rel1.mono (RowB.but b2 hr1' hw1 ekov1)).set ⟨p, ws, rfl, p_rl, p_wl, hp3, rel3⟩
          have sA3 := But3.same sA1 b2 nrl0 nwl0 nov0
          generalize upd A2 rl (.lst (rv.set r (.ref p))) = A3 at b2 hr3 hw3 hov3 hp3 rel3 rows3 sA3
          clear hov1 rel1
          -- the cost
          obtain ⟨kov3, ekov3, kl3, kv3⟩ := id hov3
          obtain ⟨vN, evN, cvN⟩ := kv3 N (List.mem_append_left _ (names_mem.mpr ⟨(N, ss), memG, rfl⟩))
          have eoN : ovW B i j st.o N = st.o N := by unfold ovW; rw [if_pos isN]
          rw [eoN] at cvN
          have rlen := row_len2 (T := T) (i := i) (j := j) (o := st.o) hgr
          obtain ⟨c0, hc0⟩ : ∃ c0, (rowW B T i j st.o r)[0]? = some c0 := ⟨_, List.getElem?_eq_getElem (by omega)⟩
          obtain ⟨x0, hx0, cx0⟩ := rel3.at hc0
          have ehd : (rowW B T i j st.o r).headD none = c0 := by rw [headD_get, List.getD_eq_getElem?_getD, hc0]; rfl
          have gd3 := DGet.k (k := Sum.inr N) ekov3
          rw [evN] at gd3
          have gset : (rv.set r (.ref p))[r]? = some (V.ref p) := by rw [List.getElem?_set_self (by rw [lrv]; exact rl')]
          refine ⟨_, rfl, _, rfl, ov, vN, rfl, gd3, ?_⟩
          refine ⟨_, rfl, _, rfl, rl, _, _, _, rfl, rfl, SqL.of hr3, atI_nat gset, p, _, _, _, rfl, rfl, SqL.of hp3, at_of (j := 0) rfl hx0, ?_⟩
          refine ⟨(by show 2 ≤ sizeLine; decide), fun t1 nt1 => ?_⟩
          have u1 : Same A3 (upd A3 t1 (.tup [.int 0, .int 1])) := same_upd nt1
          refine ⟨x0, .ref t1, c0, some (0, 1), rfl, cx0.same u1, ⟨t1, rfl, upd_same⟩, fun xa A4 s4' ca => ?_⟩
          have u2 := u1.trans s4'
          refine ⟨(by show 2 ≤ sizeLine; decide), fun ql nql => ?_⟩
          have u3 : Same A4 (upd A4 ql (.lst [vN, xa])) := same_upd nql
          refine ⟨ql, [vN, xa], [st.o N, addO c0 (some (0, 1))], rfl, upd_same, ⟨(cvN.same u2).same u3, ca.same u3, True.intro⟩, (by show 2 ≤ 1000; decide), fun cv A5 s5' cc => ?_⟩
          have u5 := (u2.trans u3).trans s5'
          have gd5 := DGet.k (k := Sum.inr N) (u5 _ _ ekov3)
          rw [evN] at gd5
          refine ⟨_, rfl, _, rfl, _, rfl, ov, vN, rfl, gd5, ?_⟩
          refine ⟨oD _, oD _, cc.oD, (cvN.same u5).oD, oD_shaped _, oD_shaped _, _, rfl, ?_⟩
          rw [oD_eqv]
          have hstep : wstep B T i j st = if leastO [st.o N, addO c0 (some (0, 1))] = st.o N then ⟨st.o, st.R.set r (rowW B T i j st.o r), rest⟩
              else ⟨fun M => if M = N then leastO [st.o N, addO c0 (some (0, 1))] else st.o M, st.R.set r (rowW B T i j st.o r), addW rest (usersOf B.G N)⟩ := by
            unfold wstep
            rw [ew]
            dsimp only
            rw [eN, ehd]
          rw [hstep]
          generalize leastO [st.o N, addO c0 (some (0, 1))] = C at cc
          have sA5 := sA3.trans u5
          have b5 : But3 rl wl ov A3 A5 := But3.of_same u5
          have hov5 := hov3.stay (TupS.of_same u5) fun kvs e => u5 _ _ e
          have rows5 := rows3.mono (RowB.but b5 hr3 hw3 ekov3)
          have hr5 := u5 _ _ hr3
          have hw5 := u5 _ _ hw3
          by_cases ce : C = st.o N
          · rw [decide_eq_true ce, if_pos ce]
            exact iteF ⟨_, _, _, _, _, rfl, sA5, hw5, hov5, _, hr5, rows5⟩
          · rw [decide_eq_false ce, if_neg ce]
            refine iteT ?_
            obtain ⟨kov5, ekov5, kl5, kv5⟩ := hov5
            obtain ⟨vN5, evN5, _⟩ := kv5 N (List.mem_append_left _ (names_mem.mpr ⟨(N, ss), memG, rfl⟩))
            refine ⟨_, rfl, _, rfl, _, rfl, ov, _, rfl, DPut.k (k := Sum.inr N) ekov5 (million1 (by omega)), ?_⟩
            have b6 : But3 rl wl ov A5 (upd A5 ov (.dK (putK kov5 (Sum.inr N) cv))) := But3.up3
            have t6 : TupS A5 (upd A5 ov (.dK (putK kov5 (Sum.inr N) cv))) := tups3 b6 hr5 hw5 ekov5
            have hov6 : OverB (upd A5 ov (.dK (putK kov5 (Sum.inr N) cv))) ov (symsOf B.G) (ovW B i j fun M => if M = N then C else st.o M) := by
              refine ⟨_, upd_same, by rw [putK_same evN5]; exact kl5, fun s hs => ?_⟩
              by_cases z : s = N
              · subst z
                refine ⟨cv, by rw [valV_put, if_pos rfl], ?_⟩
                unfold ovW
                dsimp only
                rw [if_pos isN, if_pos rfl]
                exact cc.tupS t6
              · obtain ⟨v, ev, cv'⟩ := kv5 s hs
                refine ⟨v, by rw [valV_put, if_neg (fun q => z (Sum.inr.inj q))]; exact ev, ?_⟩
                have : ovW B i j (fun M => if M = N then C else st.o M) s = ovW B i j st.o s := by
                  unfold ovW
                  dsimp only
                  rw [if_neg z]
                rw [this]
                exact cv'.tupS t6
            have hr6 : upd A5 ov (.dK (putK kov5 (Sum.inr N) cv)) rl = some (.lst (rv.set r (.ref p))) := by rw [upd_ne (Ne.symm ov_rl)]; exact hr5
            have hw6 : upd A5 ov (.dK (putK kov5 (Sum.inr N) cv)) wl = some (.lst (rest.map fun r : Nat => V.int (r : Int))) := by rw [upd_ne (Ne.symm ov_wl)]; exact hw5
            have rows6 := rows5.mono (RowB.but b6 hr5 hw5 ekov5)
            have sA6 := But3.same sA5 b6 nrl0 nwl0 nov0
            generalize upd A5 ov (.dK (putK kov5 (Sum.inr N) cv)) = A6 at hov6 hr6 hw6 rows6 sA6
            -- who uses the name
            have hG6 := hG.up (Up.of_same sA6)
            refine ⟨_, rfl, _, rfl, g, B.G, N, rfl, hG6, rul, fun ul A7 s7 nul hul => ⟨ul, rfl, ⟨_, SqL.of hul⟩, ?_⟩⟩
            have hw7 := s7 _ _ hw6
            have ul_wl : ul ≠ wl := Ne.symm (ne_of_none hw6 nul)
            have ulen := users_len B.G N
            refine for_list (a := ul) (xs := (usersOf B.G N).map fun r : Nat => V.int (r : Int)) (fun k σ H' => ∃ v11, σ = [some (.ref g), some (.ref lv), some (.ref pl), some (.str N), some (.ref D), some (.ref ov), some (.int r), some (.ref rl), some (.ref wl), some (.ref sl), some cv, v11] ∧ (∀ b o, b ≠ wl → A7 b = some o → H' b = some o) ∧ H' wl = some (.lst ((addW rest ((usersOf B.G N).take k)).map fun r : Nat => V.int (r : Int))))
              ⟨v11, rfl, fun b o _ e => e, hw7⟩ (fun k σ H' _ ⟨_, _, keep, _⟩ => SqL.of (keep _ _ ul_wl hul)) ?_ ?_
            · rintro k x σ H' hx ⟨v11, rfl, keep, hwk⟩
              obtain ⟨u, hu', rfl⟩ : ∃ u, (usersOf B.G N)[k]? = some u ∧ x = V.int ((u : Nat) : Int) := by
                rw [List.getElem?_map] at hx
                cases e : (usersOf B.G N)[k]? with
                | none => rw [e] at hx; cases hx
                | some u => rw [e] at hx; exact ⟨u, rfl, (Option.some.inj hx).symm⟩
              have nx := addW_take (w := rest) hu'
              have al := addW_len (us := (usersOf B.G N).take k) (w := rest)
              have tl : ((usersOf B.G N).take k).length ≤ (usersOf B.G N).length := List.length_take_le' _ _
              have rl40 : rest.length ≤ 40 := by rw [List.length_cons] at wlen; omega
              rw [nx]
              generalize addW rest ((usersOf B.G N).take k) = W at hwk al
              refine ⟨_, rfl, _, rfl, wl, _, rfl, .inl (SqL.of hwk), rfl, flat_ints W, _, rfl, ?_⟩
              show (if (!inV (V.int (u : Int)) (W.map fun r : Nat => V.int (r : Int))) = true then _ else _)
              rw [inV_ints]
              by_cases mu : u ∈ W
              · rw [decide_eq_true mu, if_pos mu]
                exact iteF ⟨_, rfl, keep, hwk⟩
              · rw [decide_eq_false mu, if_neg mu]
                refine iteT ⟨_, rfl, .inl ⟨rfl, _, SqL.of hwk⟩, _, rfl, wl, _, _, rfl, rfl, hwk, million1 (by rw [List.length_map]; omega), _, rfl, fun b o nb e => ?_, ?_⟩
                · rw [upd_ne nb]
                  exact keep b o nb e
                · rw [upd_same, List.map_append]
                  rfl
            · rintro σ H' ⟨v11, rfl, keep, hwk⟩
              rw [List.length_map, List.take_length] at hwk
              have b7 : But3 rl wl ov A7 H' := fun b o _ h2 _ e => keep b o h2 e
              have sA7 := sA6.trans s7
              have hr7 := s7 _ _ hr6
              obtain ⟨kov7, ekov6, _⟩ := id hov6
              have ekov7 := s7 _ _ ekov6
              refine ⟨_, _, _, _, _, rfl, But3.same sA7 b7 nrl0 nwl0 nov0, hwk, hov6.stay ((TupS.of_same s7).trans (tups3 b7 hr7 hw7 ekov7)) (fun kvs e => keep _ _ ov_wl (s7 _ _ e)), _, keep _ _ rw_ne hr7, ?_⟩
              exact (rows6.mono (RowB.but (But3.of_same s7) hr6 hw6 ekov6)).mono (RowB.but b7 hr7 hw7 ekov7)
end
end Ld

set_option Elab.async false
set_option linter.all false
set_option maxRecDepth 100000
set_option maxHeartbeats 4000000
/-! The law's own prices: of putting in, leaving out, exchanging, of a leaf. -/
namespace Ld
open PySem PySem.Spec PyProof.Rows L2 Lg Lr
section
variable {P : Program} {w : World} {K : PySem.W.Frag} {mg : Str → Option Value} {base : Heap}
theorem scPut : FnScope ["prices", "kind"] ["prices", "kind"] (defScope sLPut) := ⟨rfl, rfl, rfl, by decide +kernel, rfl, by decide +kernel, by decide +kernel⟩
theorem scOut : FnScope ["prices", "kind"] ["prices", "kind"] (defScope sLOut) := ⟨rfl, rfl, rfl, by decide +kernel, rfl, by decide +kernel, by decide +kernel⟩
theorem scChg : FnScope ["prices", "kind", "other"] ["prices", "kind", "other"] (defScope sLChg) := ⟨rfl, rfl, rfl, by decide +kernel, rfl, by decide +kernel, by decide +kernel⟩
theorem scLeaf : FnScope ["prices", "row", "kind", "i", "j", "one"] ["prices", "row", "kind", "i", "j"] (defScope sLLeaf) := ⟨rfl, rfl, rfl, by decide +kernel, rfl, by decide +kernel, by decide +kernel⟩
def spPrice (f : Prc → Str → Int) : Sp := fun vs H Q _ => ∃ (t : Addr) (Z : Prc) (k : Str), vs = [.ref t, .str k] ∧ PrA H t Z ∧ PrcOk Z ∧ ∀ H2, Same H H2 → Q (.int (f Z k)) H2
def spChange : Sp := fun vs H Q _ => ∃ (t : Addr) (Z : Prc) (a b : Str), vs = [.ref t, .str a, .str b] ∧ PrA H t Z ∧ PrcOk Z ∧ ∀ H2, Same H H2 → Q (.int (chgP Z a b)) H2
theorem ok_lput {f : Addr} {fd : FuncData} (F : Fun K "_law_put" "_law_put" sLPut f fd) : FnOk P w K mg base CX0 1 f fd ["prices", "kind"] (spPrice putP) := by
  refine F.ok scPut (fun vs H Q E h => ?_) (fun cdv A outer s H vs Q E hr h => ?_)
  · obtain ⟨t, Z, k, rfl, _⟩ := h
    rfl
  · obtain ⟨t, Z, k, rfl, ⟨d, ht, hd⟩, ok, q⟩ := h
    refine ⟨_, pss_one (ps_ret (pe_dget2 (units1 hr) (pe_ix ix_tup (pv 0) pe_int (fun _ _ => rfl)) (pe_tup (pa_cons pe_str (pa_cons (pv 1) pa_nil))) (pe_ix ix_tup (pv 0) pe_int (fun _ _ => rfl)) ⟨rfl, rfl, rfl, rfl⟩)), ?_⟩
    refine ⟨_, rfl, t, _, _, _, rfl, rfl, SqT.of ht, at_of (j := 3) rfl rfl, d, rfl, .inr ⟨_, .inl hd⟩, _, rfl, (by show 2 ≤ sizeLine; decide), fun p np => ?_⟩
    have s1 : Same H (upd H p (.tup [.str "put", .str k])) := same_upd np
    have g := DGet.t (k := [sk "put", sk k]) (s1 _ _ hd) (b := p) upd_same
    refine ⟨_, rfl, t, _, _, _, rfl, rfl, SqT.of (s1 _ _ ht), at_of (j := 0) rfl rfl, _, g, ?_⟩
    rw [exI_is ok]
    exact q _ s1
theorem ok_lout {f : Addr} {fd : FuncData} (F : Fun K "_law_out" "_law_out" sLOut f fd) : FnOk P w K mg base CX0 1 f fd ["prices", "kind"] (spPrice outP) := by
  refine F.ok scOut (fun vs H Q E h => ?_) (fun cdv A outer s H vs Q E hr h => ?_)
  · obtain ⟨t, Z, k, rfl, _⟩ := h
    rfl
  · obtain ⟨t, Z, k, rfl, ⟨d, ht, hd⟩, ok, q⟩ := h
    refine ⟨_, pss_one (ps_ret (pe_dget2 (units1 hr) (pe_ix ix_tup (pv 0) pe_int (fun _ _ => rfl)) (pe_tup (pa_cons pe_str (pa_cons (pv 1) pa_nil))) (pe_ix ix_tup (pv 0) pe_int (fun _ _ => rfl)) ⟨rfl, rfl, rfl, rfl⟩)), ?_⟩
    refine ⟨_, rfl, t, _, _, _, rfl, rfl, SqT.of ht, at_of (j := 3) rfl rfl, d, rfl, .inr ⟨_, .inl hd⟩, _, rfl, (by show 2 ≤ sizeLine; decide), fun p np => ?_⟩
    have s1 : Same H (upd H p (.tup [.str "out", .str k])) := same_upd np
    have g := DGet.t (k := [sk "out", sk k]) (s1 _ _ hd) (b := p) upd_same
    refine ⟨_, rfl, t, _, _, _, rfl, rfl, SqT.of (s1 _ _ ht), at_of (j := 1) rfl rfl, _, g, ?_⟩
    rw [exI_is ok]
    exact q _ s1
theorem ok_lchg {f : Addr} {fd : FuncData} (F : Fun K "_law_change" "_law_change" sLChg f fd) : FnOk P w K mg base CX0 1 f fd ["prices", "kind", "other"] spChange := by
  refine F.ok scChg (fun vs H Q E h => ?_) (fun cdv A outer s H vs Q E hr h => ?_)
  · obtain ⟨t, Z, a, b, rfl, _⟩ := h
    rfl
  · obtain ⟨t, Z, a, b, rfl, ⟨d, ht, hd⟩, ok, q⟩ := h
    refine ⟨_, pss_cons (ps_if (pt_cmpR op_eq (pv 1) (pv 2) (nomark _)) (pss_one (ps_ret pe_int)) pss_nil)
      (pss_one (ps_ret (pe_dget2 (units1 hr) (pe_ix ix_tup (pv 0) pe_int (fun _ _ => rfl)) (pe_tup (pa_cons pe_str (pa_cons (pv 1) (pa_cons (pv 2) pa_nil)))) (pe_ix ix_tup (pv 0) pe_int (fun _ _ => rfl)) ⟨rfl, rfl, rfl, rfl⟩))), ?_⟩
    refine ⟨_, rfl, _, rfl, rfl, _, rfl, ite2 (fun c => ?_) (fun c => ?_)⟩
    · have e : a = b := V.str.inj (of_decide_eq_true c)
      have := q H (Same.refl H)
      rw [show chgP Z a b = 0 from if_pos e] at this
      exact this
    · have e : ¬ a = b := fun z => c (by rw [z]; exact decide_eq_true rfl)
      refine ⟨_, rfl, t, _, _, _, rfl, rfl, SqT.of ht, at_of (j := 3) rfl rfl, d, rfl, .inr ⟨_, .inl hd⟩, _, rfl, _, rfl, (by show 3 ≤ sizeLine; decide), fun p np => ?_⟩
      have s1 : Same H (upd H p (.tup [.str "change", .str a, .str b])) := same_upd np
      have g := DGet.t (k := [sk "change", sk a, sk b]) (s1 _ _ hd) (b := p) upd_same
      refine ⟨_, rfl, t, _, _, _, rfl, rfl, SqT.of (s1 _ _ ht), at_of (j := 2) rfl rfl, _, g, ?_⟩
      rw [exI_is ok]
      have := q _ s1
      rw [show chgP Z a b = exI Z [sk "change", sk a, sk b] Z.chg from if_neg e] at this
      exact this
end
end Ld

set_option Elab.async false
set_option linter.all false
set_option maxRecDepth 100000
set_option maxHeartbeats 4000000
/-! The law's own prices of leaves. -/
namespace Ld
open PySem PySem.Spec PyProof.Rows L2 Lg Lr
theorem take_out {Z : Prc} {ss : List Str} {j : Nat} {s : Str} (h : ss[j]? = some s) : ((ss.take (j + 1)).map (outP Z)).map V.int = ((ss.take j).map (outP Z)).map V.int ++ [V.int (outP Z s)] := by
  rw [List.take_add_one, h, List.map_append, List.map_append]
  rfl
section
variable {P : Program} {w : World} {K : PySem.W.Frag} {mg : Str → Option Value} {base : Heap}
def spLeaf : Sp := fun vs H Q _ => ∃ (t r : Addr) (Z : Prc) (row : List Str) (k : Str) (i j : Nat), vs = [.ref t, .ref r, .str k, .int i, .int j] ∧ PrA H t Z ∧ PrcOk Z ∧ H r = some (.lst (row.map V.str)) ∧ i ≤ j ∧ j ≤ row.length ∧ row.length ≤ 60 ∧
  ∀ H2, Same H H2 → Q (.int (leafP Z row k i j)) H2
theorem ok_lleaf {f fP fO fC : Addr} {fd fdP fdO fdC : FuncData} (F : Fun K "_law_leaf" "_law_leaf" sLLeaf f fd)
    (GP : FnOk P w K mg base CX0 1 fP fdP ["prices", "kind"] (spPrice putP)) (kP : PySem.W.keepIn K (.ref fP) = true) (bP : Binds K fdP ["prices", "kind"] []) (gP : mg "_law_put" = some (.ref fP))
    (GO : FnOk P w K mg base CX0 1 fO fdO ["prices", "kind"] (spPrice outP)) (kO : PySem.W.keepIn K (.ref fO) = true) (bO : Binds K fdO ["prices", "kind"] []) (gO : mg "_law_out" = some (.ref fO))
    (GC : FnOk P w K mg base CX0 1 fC fdC ["prices", "kind", "other"] spChange) (kC : PySem.W.keepIn K (.ref fC) = true) (bC : Binds K fdC ["prices", "kind", "other"] []) (gC : mg "_law_change" = some (.ref fC))
    (msu : mg "sum" = none) : FnOk P w K mg base CX0 2 f fd ["prices", "row", "kind", "i", "j"] spLeaf := by
  refine F.ok scLeaf (fun vs H Q E h => ?_) (fun cdv A outer s H vs Q E hr h => ?_)
  · obtain ⟨t, r, Z, row, k, i, j, rfl, _⟩ := h
    rfl
  · obtain ⟨t, r, Z, row, k, i, j, rfl, hZ, ok, hrow, ij, jn, len, q⟩ := h
    refine ⟨_, pss_cons (ps_if (pt_cmpR op_eq (pv 3) (pv 4) (nomark _)) (pss_one (ps_ret (pe_call GP hr (by rfl) gP kP bP .nil pass0 (pa_cons (pv 0) (pa_cons (pv 2) pa_nil))))) pss_nil)
      (pss_one (ps_ret (pe_op op_add
        (pe_callB (cr_sum rfl) (by rfl) msu (by decide +kernel) (pa_cons (pe_lc (own := [("one", 5)]) (g := gName 5) rfl scLeaf.nd (pi_list (pe_slice sl_list (pv 1) (po_some (pv 3)) (po_some (pe_op op_sub (pv 4) pe_int))))
          (blkOk_by (N := ["prices", "row", "kind", "i", "j", "one"]) (sc := defScope sLLeaf) (by decide +kernel)) (fun _ _ _ _ _ => pg_name (i := 5) scLeaf.nd rfl (Or.inl rfl)) (fun _ _ _ _ _ => pts_nil)
          (fun _ _ _ _ _ => pe_call GO hr (by rfl) gO kO bO .nil pass0 (pa_cons (pv 0) (pa_cons (pv 5) pa_nil)))) pa_nil))
        (pe_call GC hr (by rfl) gC kC bC .nil pass0 (pa_cons (pv 0) (pa_cons (pe_ix ix_list (pv 1) (pe_op op_sub (pv 4) pe_int) (fun _ _ => rfl)) (pa_cons (pv 2) pa_nil))))))), ?_⟩
    refine ⟨_, rfl, _, rfl, rfl, _, rfl, ite2 (fun c => ?_) (fun c => ?_)⟩
    · have e : i = j := Int.ofNat_inj.mp (V.int.inj (of_decide_eq_true c))
      refine ⟨_, rfl, _, rfl, t, Z, k, rfl, hZ, ok, fun H2 s2 => ?_⟩
      have := q H2 s2
      rw [show leafP Z row k i j = putP Z k from if_pos e] at this
      exact this
    · have ne : ¬ i = j := fun z => c (by rw [z]; exact decide_eq_true rfl)
      have ej : (j : Int) - 1 = ((j - 1 : Nat) : Int) := by omega
      refine ⟨_, rfl, _, rfl, _, rfl, ?_⟩
      refine ⟨_, rfl, _, _, rfl, rfl, _, rfl, r, row.map V.str, rfl, SqL.of hrow, ?_⟩
      rw [ej, cut_map (by omega) (by omega)]
      intro p np
      generalize ess : (row.drop i).take (j - 1 - i) = ss
      have lss : ss.length ≤ 60 := by
        rw [← ess, List.length_take, List.length_drop]
        omega
      have s1 : Same H (upd H p (.lst (ss.map V.str))) := same_upd np
      have hp : upd H p (.lst (ss.map V.str)) p = some (.lst (ss.map V.str)) := upd_same
      generalize upd H p (.lst (ss.map V.str)) = H1 at s1 hp
      refine ⟨p, rfl, ⟨_, SqL.of hp⟩, fun D hD => lc_list (a := p) (xs := ss.map V.str) (fun n H' => Same H1 H' ∧ H' D = some (.lst (((ss.take n).map (outP Z)).map V.int))) ⟨same_upd hD, upd_same⟩ (fun n H' _ ⟨s', _⟩ => SqL.of (s' _ _ hp)) ?_ ?_⟩
      · rintro n x H' hx ⟨s', hd⟩
        obtain ⟨sy, hsy, rfl⟩ := str_at hx
        refine ⟨rfl, _, rfl, _, rfl, t, Z, sy, rfl, hZ.up (Up.of_same (s1.trans s')), ok, fun H2 s2 => ⟨_, s2 _ _ hd, ?_, ?_, ?_⟩⟩
        · rw [List.length_map, List.length_map]
          exact Nat.lt_of_le_of_lt (Nat.le_trans (List.length_take_le' _ _) lss) (by decide)
        · exact same_put (s'.trans s2) hD
        · rw [take_out hsy]
          exact upd_same
      · rintro H2 ⟨s2, hd⟩
        rw [List.length_map, List.take_length] at hd
        have s02 := s1.trans s2
        obtain ⟨last, hlast⟩ : ∃ last, row[j - 1]? = some last := ⟨_, List.getElem?_eq_getElem (by omega)⟩
        refine ⟨D, _, rfl, SqL.of hd, ?_⟩
        refine ⟨_, rfl, _, rfl, _, rfl, _, _, rfl, rfl, r, _, _, _, rfl, rfl, SqL.of (s02 _ _ hrow), at_of (j := j - 1) ej (by rw [List.getElem?_map, hlast]; rfl), _, rfl, t, Z, last, k, rfl, hZ.up (Up.of_same s02), ok, fun H3 s3 => ⟨_, _, rfl, rfl, ?_⟩⟩
        have := q H3 (s02.trans s3)
        rw [show leafP Z row k i j = outsP Z ss + chgP Z last k from by
          unfold leafP
          rw [if_neg ne, ess, List.getD_eq_getElem?_getD, hlast]
          rfl] at this
        exact this
end
end Ld

set_option Elab.async false
set_option linter.all false
set_option maxRecDepth 100000
set_option maxHeartbeats 4000000
/-! The law's own rows and prices. -/
namespace Ld
open PySem PySem.Spec PyProof.Rows L2 Lg Lr
def row5 : List Str := ["A", "BB", "C", "OTHER", "A"]
theorem pick5 {v : Int} (h0 : 0 ≤ v) (h1 : v < 5) : ∃ s, (row5.map V.str)[v.toNat]? = some (V.str s) ∧ s ∈ P4 := by
  have e : v.toNat = 0 ∨ v.toNat = 1 ∨ v.toNat = 2 ∨ v.toNat = 3 ∨ v.toNat = 4 := by omega
  rcases e with e | e | e | e | e <;> rw [e] <;> exact ⟨_, rfl, by decide⟩
theorem pick4 {v : Int} (h0 : 0 ≤ v) (h1 : v < 4) : ∃ s, (P4.map V.str)[v.toNat]? = some (V.str s) ∧ s ∈ P4 ∧ (v < 3 → s ∈ P3) := by
  have e : v.toNat = 0 ∨ v.toNat = 1 ∨ v.toNat = 2 ∨ v.toNat = 3 := by omega
  rcases e with e | e | e | e
  · rw [e]
    exact ⟨_, rfl, by decide, fun _ => by decide⟩
  · rw [e]
    exact ⟨_, rfl, by decide, fun _ => by decide⟩
  · rw [e]
    exact ⟨_, rfl, by decide, fun _ => by decide⟩
  · rw [e]
    exact ⟨_, rfl, by decide, fun z => by omega⟩
theorem pick_top {v : Int} (h0 : 0 ≤ v) (h1 : v < 3) : ∃ c : Int, ([V.int 1, V.int 3, V.int 1000] : List V)[v.toNat]? = some (V.int c) ∧ 1 ≤ c ∧ c ≤ 1000 := by
  have e : v.toNat = 0 ∨ v.toNat = 1 ∨ v.toNat = 2 := by omega
  rcases e with e | e | e <;> rw [e]
  · exact ⟨1, rfl, by decide, by decide⟩
  · exact ⟨3, rfl, by decide, by decide⟩
  · exact ⟨1000, rfl, by decide, by decide⟩
section
variable {P : Program} {w : World} {K : PySem.W.Frag} {mg : Str → Option Value} {base : Heap}
theorem scRow : FnScope ["draws", "first", "most", "k"] ["draws", "first", "most"] (defScope sRow) := ⟨rfl, rfl, rfl, by decide +kernel, rfl, by decide +kernel, by decide +kernel⟩
def spRow (K : PySem.W.Frag) : Sp := fun vs H Q _ => ∃ (a : Addr) (ds : List Int) (first : Int) (most : Nat), vs = [.ref a, .int first, .int most] ∧ H a = some (.lst (ds.map V.int)) ∧ 0 ≤ first ∧ most ≤ 60 ∧
  ∀ (p : Addr) (H2 : Hp) (row : List Str), Same H H2 → H p = none → H2 p = some (.lst (row.map V.str)) → row.length ≤ most → (∀ k ∈ row, k ∈ P4) → Q (.ref p) H2
theorem ok_row {f fA : Addr} {fd fdA : FuncData} (F : Fun K "_law_row" "_law_row" sRow f fd)
    (GA : FnOk P w K mg base CX0 1 fA fdA ["draws", "k", "many"] (spAt K)) (kA : PySem.W.keepIn K (.ref fA) = true) (bA : Binds K fdA ["draws", "k", "many"] []) (gA : mg "_law_at" = some (.ref fA))
    (mr : mg "range" = none) : FnOk P w K mg base CX0 2 f fd ["draws", "first", "most"] (spRow K) := by
  refine F.ok scRow (fun vs H Q E h => ?_) (fun cdv A outer s H vs Q E hr h => ?_)
  · obtain ⟨a, ds, first, most, rfl, _⟩ := h
    rfl
  · obtain ⟨a, ds, first, most, rfl, ha, f0, m60, q⟩ := h
    refine ⟨_, pss_one (ps_ret (pe_lc (own := [("k", 3)]) (g := gName 3) rfl scRow.nd (pi_range1 rfl mr (pa_cons (pe_call GA hr (by rfl) gA kA bA .nil pass0 (pa_cons (pv 0) (pa_cons (pv 1) (pa_cons (pe_op op_add (pv 2) pe_int) pa_nil)))) pa_nil))
      (blkOk_by (N := ["draws", "first", "most", "k"]) (sc := defScope sRow) (by decide +kernel)) (fun _ _ _ _ _ => pg_name (i := 3) scRow.nd rfl (Or.inl rfl)) (fun _ _ _ _ _ => pts_nil)
      (fun _ _ _ _ _ => pe_ix (r := rIxL K) ix_list (pe_lst (pa_cons pe_str (pa_cons pe_str (pa_cons pe_str (pa_cons pe_str (pa_cons pe_str pa_nil)))))) (pe_call GA hr (by rfl) gA kA bA .nil pass0 (pa_cons (pv 0) (pa_cons (pe_op op_add (pe_op op_add (pv 1) pe_int) (pv 3)) (pa_cons pe_int pa_nil)))) (fun _ _ => rfl)))), ?_⟩
    have n0 : (0 : Int) < (most : Int) + 1 := by omega
    refine ⟨_, rfl, _, rfl, _, rfl, _, _, rfl, rfl, a, ds, first, _, rfl, SqL.of ha, f0, n0, ?_⟩
    have l0 := atD_lo ds first n0
    have l1 := atD_hi ds first n0
    generalize atD ds first ((most : Int) + 1) = n at l0 l1
    refine ⟨n, rfl, by omega, by omega, fun D hD => lc_range (lo := 0) (n := n.toNat) (fun j H' => ∃ row : List Str, Same H H' ∧ H' D = some (.lst (row.map V.str)) ∧ row.length = j ∧ ∀ k ∈ row, k ∈ P4) ⟨[], same_upd hD, upd_same, rfl, fun _ m => nomatch m⟩ ?_ ?_⟩
    · rintro j H' hj ⟨row, s', hd, lr, r4⟩
      refine ⟨rfl, (by show 5 ≤ sizeLine; decide), fun p np => ?_⟩
      have s1 : Same H' (upd H' p (.lst (row5.map V.str))) := same_upd np
      have hp : upd H' p (.lst (row5.map V.str)) p = some (.lst (row5.map V.str)) := upd_same
      show _
      refine ⟨_, rfl, _, rfl, _, _, rfl, rfl, _, rfl, _, _, rfl, rfl, a, ds, _, 5, rfl, SqL.of ((s'.trans s1) _ _ ha), by omega, by decide, ?_⟩
      have k0 := atD_lo ds (first + 1 + (0 + (j : Int))) (show (0 : Int) < 5 by decide)
      have k1 := atD_hi ds (first + 1 + (0 + (j : Int))) (show (0 : Int) < 5 by decide)
      generalize atD ds (first + 1 + (0 + (j : Int))) 5 = x at k0 k1
      obtain ⟨sy, gsy, s4⟩ := pick5 k0 k1
      refine ⟨p, _, _, _, rfl, rfl, SqL.of hp, at_of (j := x.toNat) (by omega) gsy, _, s1 _ _ hd, ?_, row ++ [sy], same_put (s'.trans s1) hD, ?_, ?_, fun k hk => ?_⟩
      · rw [List.length_map]
        exact million1 (by omega)
      · rw [upd_same, List.map_append]
        rfl
      · rw [List.length_append, List.length_singleton, lr]
      · rcases List.mem_append.mp hk with m | m
        · exact r4 k m
        · rw [List.mem_singleton.mp m]
          exact s4
    · rintro H' ⟨row, s', hd, lr, r4⟩
      exact q D H' row s' hD hd (by omega) r4
theorem put_mem {kvs : List (List Key × V)} {k : List Key} {v : V} : ∀ p ∈ putK kvs k v, p ∈ kvs ∨ p = (k, v) := fun p hp => by
  unfold putK at hp
  split at hp
  · obtain ⟨q, hq, e⟩ := List.mem_map.mp hp
    split at e
    · rename_i z
      right
      rw [← e, z]
    · left
      rw [← e]
      exact hq
  · rcases List.mem_append.mp hp with m | m
    · exact .inl m
    · exact .inr (List.mem_singleton.mp m)
theorem put_nodup {kvs : List (List Key × V)} {k : List Key} {v : V} (h : (kvs.map (·.1)).Nodup) : ((putK kvs k v).map (·.1)).Nodup := by
  unfold putK
  split
  · have e : (kvs.map fun kv => if kv.1 = k then (kv.1, v) else kv).map (·.1) = kvs.map (·.1) := by
      rw [List.map_map]
      refine List.map_congr_left fun q hq => ?_
      show (if q.1 = k then (q.1, v) else q).1 = q.1
      split <;> rfl
    rw [e]
    exact h
  · rename_i out
    rw [List.map_append, List.nodup_append]
    refine ⟨h, by simp, fun a ha b hb e => out ?_⟩
    rw [List.map_singleton, List.mem_singleton] at hb
    obtain ⟨q, hq, e2⟩ := List.mem_map.mp ha
    refine List.any_eq_true.mpr ⟨q, hq, decide_eq_true ?_⟩
    rw [e2, e, hb]
/-- exceptions so far -/
structure ExS (kvs : List (List Key × V)) (n : Nat) : Prop where
  ex : ∀ p ∈ kvs, exOk p.1 ∧ ∃ i : Int, 1 ≤ i ∧ i ≤ 1000 ∧ p.2 = .int i
  nd : (kvs.map (·.1)).Nodup
  few : kvs.length ≤ n
theorem ExS.nil (n : Nat) : ExS [] n := ⟨(fun _ m => nomatch m), List.nodup_nil, Nat.zero_le _⟩
theorem ExS.put {kvs : List (List Key × V)} {n : Nat} (h : ExS kvs n) {k : List Key} {i : Int} (hk : exOk k) (h0 : 1 ≤ i) (h1 : i ≤ 1000) : ExS (putK kvs k (.int i)) (n + 1) := by
  refine ⟨fun p hp => ?_, put_nodup h.nd, Nat.le_trans (length_putK _ _ _) (Nat.succ_le_succ h.few)⟩
  rcases put_mem p hp with m | rfl
  · exact h.ex p m
  · exact ⟨hk, i, h0, h1, rfl⟩
theorem ExS.up {kvs : List (List Key × V)} {n : Nat} (h : ExS kvs n) : ExS kvs (n + 1) := ⟨h.ex, h.nd, Nat.le_succ_of_le h.few⟩
theorem scPr : FnScope ["draws", "first", "top", "put", "out", "change", "kinds", "exceptions", "k", "cell", "one", "two", "value"] ["draws", "first"] (defScope sPrices) := ⟨rfl, rfl, rfl, by decide +kernel, rfl, by decide +kernel, by decide +kernel⟩
def spPrices (K : PySem.W.Frag) : Sp := fun vs H Q _ => ∃ (a : Addr) (ds : List Int) (first : Int), vs = [.ref a, .int first] ∧ H a = some (.lst (ds.map V.int)) ∧ 0 ≤ first ∧
  ∀ (t : Addr) (H2 : Hp) (Z : Prc), Same H H2 → H t = none → PrcOk Z → PrA (News H H2) t Z → Q (.ref t) H2
theorem ok_prices {f fA : Addr} {fd fdA : FuncData} (F : Fun K "_law_prices" "_law_prices" sPrices f fd)
    (GA : FnOk P w K mg base CX0 1 fA fdA ["draws", "k", "many"] (spAt K)) (kA : PySem.W.keepIn K (.ref fA) = true) (bA : Binds K fdA ["draws", "k", "many"] []) (gA : mg "_law_at" = some (.ref fA))
    (mr : mg "range" = none) (mi : mg "int" = none) : FnOk P w K mg base CX0 2 f fd ["draws", "first"] (spPrices K) := by
  refine F.ok scPr (fun vs H Q E h => ?_) (fun cdv A outer s H vs Q E hr h => ?_)
  · obtain ⟨a, ds, first, rfl, _⟩ := h
    rfl
  · obtain ⟨a, ds, first, rfl, ha, f0, q⟩ := h
    refine ⟨_, pss_cons (ps_set (i := 2) scPr.nd rfl (.inr rfl) (pe_ix ix_list (pe_lst (pa_cons pe_int (pa_cons pe_int (pa_cons pe_int pa_nil)))) (pe_call GA hr (by rfl) gA kA bA .nil pass0 (pa_cons (pv 0) (pa_cons (pv 1) (pa_cons pe_int pa_nil)))) (fun _ _ => rfl)))
      (pss_cons (ps_asg (pe_lc (own := [("k", 8)]) (g := gName 8) rfl scPr.nd (pi_range1 rfl mr (pa_cons pe_int pa_nil))
          (blkOk_by (N := ["draws", "first", "top", "put", "out", "change", "kinds", "exceptions", "k", "cell", "one", "two", "value"]) (sc := defScope sPrices) (by decide +kernel)) (fun _ _ _ _ _ => pg_name (i := 8) scPr.nd rfl (Or.inl rfl)) (fun _ _ _ _ _ => pts_nil)
          (fun _ _ _ _ _ => pe_op op_add pe_int (pe_call GA hr (by rfl) gA kA bA .nil pass0 (pa_cons (pv 0) (pa_cons (pe_op op_add (pe_op op_add (pv 1) pe_int) (pv 8)) (pa_cons (pv 2) pa_nil))))))
        (pg_unl rfl (pgs_cons (pg_name (i := 3) scPr.nd rfl (.inl rfl)) (pgs_cons (pg_name (i := 4) scPr.nd rfl (.inl rfl)) (pgs_cons (pg_name (i := 5) scPr.nd rfl (.inl rfl)) pgs_nil)))))
      (pss_cons (ps_set (i := 6) scPr.nd rfl (.inl rfl) (pe_lst (pa_cons pe_str (pa_cons pe_str (pa_cons pe_str (pa_cons pe_str pa_nil))))))
      (pss_cons (ps_set (i := 7) scPr.nd rfl (.inl rfl) pe_dnewT)
      (pss_cons (ps_for PassesOwn.never rfl (pi_range1 rfl mr (pa_cons (pe_call GA hr (by rfl) gA kA bA .nil pass0 (pa_cons (pv 0) (pa_cons (pe_op op_add (pv 1) pe_int) (pa_cons pe_int pa_nil)))) pa_nil)) (pg_name (i := 8) scPr.nd rfl (.inl rfl))
        (pss_cons (ps_set (i := 9) scPr.nd rfl (.inl rfl) (pe_call GA hr (by rfl) gA kA bA .nil pass0 (pa_cons (pv 0) (pa_cons (pe_op op_add (pe_op op_add (pv 1) pe_int) (pv 8)) (pa_cons pe_int pa_nil)))))
        (pss_cons (ps_set (i := 10) scPr.nd rfl (.inl rfl) (pe_ix ix_list (pv 6) (pe_op op_mod (pe_callTy call_int1 (by rfl) mi (by decide +kernel) (pa_cons (pe_op op_fdiv (pv 9) pe_int) pa_nil)) pe_int) (fun _ _ => rfl)))
        (pss_cons (ps_set (i := 11) scPr.nd rfl (.inl rfl) (pe_ix ix_list (pv 6) (pe_op op_mod (pe_callTy call_int1 (by rfl) mi (by decide +kernel) (pa_cons (pe_op op_fdiv (pv 9) pe_int) pa_nil)) pe_int) (fun _ _ => rfl)))
        (pss_cons (ps_set (i := 12) scPr.nd rfl (.inl rfl) (pe_op op_add pe_int (pe_op op_mod (pe_callTy call_int1 (by rfl) mi (by decide +kernel) (pa_cons (pe_op op_fdiv (pv 9) pe_int) pa_nil)) (pv 2))))
        (pss_one (ps_if (pt_cmpR op_eq (pe_op op_mod (pe_callTy call_int1 (by rfl) mi (by decide +kernel) (pa_cons (pv 9) pa_nil)) pe_int) pe_int (nomark _))
          (pss_one (ps_dput (units1 hr) (pv 7) (pe_tup (pa_cons pe_str (pa_cons (pv 11) pa_nil))) (pv 12) (by rfl)))
          (pss_one (ps_if (pt_cmpR op_eq (pe_op op_mod (pe_callTy call_int1 (by rfl) mi (by decide +kernel) (pa_cons (pv 9) pa_nil)) pe_int) pe_int (nomark _))
            (pss_one (ps_dput (units1 hr) (pv 7) (pe_tup (pa_cons pe_str (pa_cons (pv 10) pa_nil))) (pv 12) (by rfl)))
            (pss_one (ps_if (pt_cmpR op_ne (pv 10) (pv 11) (nomark _))
              (pss_one (ps_dput (units1 hr) (pv 7) (pe_tup (pa_cons pe_str (pa_cons (pv 10) (pa_cons (pv 11) pa_nil)))) (pv 12) (by rfl))) pss_nil)))))))))))
      (pss_one (ps_ret (pe_tup (pa_cons (pv 3) (pa_cons (pv 4) (pa_cons (pv 5) (pa_cons (pv 7) pa_nil))))))))))), ?_⟩
    refine ⟨(by show 3 ≤ sizeLine; decide), fun p np => ?_⟩
    have s1 : Same H (upd H p (.lst [.int 1, .int 3, .int 1000])) := same_upd np
    have hp : upd H p (.lst [.int 1, .int 3, .int 1000]) p = some (.lst [.int 1, .int 3, .int 1000]) := upd_same
    show _
    generalize upd H p (.lst [.int 1, .int 3, .int 1000]) = H1 at s1 hp
    have three : (0 : Int) < 3 := by decide
    refine ⟨_, rfl, _, rfl, a, ds, first, 3, rfl, SqL.of (s1 _ _ ha), f0, three, ?_⟩
    have t0 := atD_lo ds first three
    have t1 := atD_hi ds first three
    generalize atD ds first 3 = x at t0 t1
    obtain ⟨top, gtop, top0, top1⟩ := pick_top t0 t1
    refine ⟨p, _, _, _, rfl, rfl, SqL.of hp, at_of (j := x.toNat) (by omega) gtop, ?_⟩
    refine ⟨3, rfl, by decide, by decide, fun D hD => lc_range (lo := 0) (n := 3) (fun j H' => ∃ xs : List Int, Same H1 H' ∧ H' D = some (.lst (xs.map V.int)) ∧ xs.length = j ∧ ∀ y ∈ xs, 1 ≤ y ∧ y ≤ 1000) ⟨[], same_upd hD, upd_same, rfl, fun _ m => nomatch m⟩ ?_ ?_⟩
    · rintro j H' hj ⟨xs, s', hd, lx, gx⟩
      have tp : (0 : Int) < top := by omega
      refine ⟨rfl, _, rfl, _, rfl, _, _, rfl, rfl, _, rfl, _, _, rfl, rfl, _, rfl, a, ds, _, top, rfl, SqL.of ((s1.trans s') _ _ ha), by omega, tp, ?_⟩
      have y0 := atD_lo ds (first + 1 + (0 + (j : Int))) tp
      have y1 := atD_hi ds (first + 1 + (0 + (j : Int))) tp
      generalize atD ds (first + 1 + (0 + (j : Int))) top = y at y0 y1
      refine ⟨_, _, rfl, rfl, _, hd, ?_, xs ++ [1 + y], same_put s' hD, ?_, ?_, fun z hz => ?_⟩
      · rw [List.length_map]
        exact million1 (by omega)
      · rw [upd_same, List.map_append]
        rfl
      · rw [List.length_append, List.length_singleton, lx]
      · rcases List.mem_append.mp hz with m | m
        · exact gx z m
        · rw [List.mem_singleton.mp m]
          omega
    · rintro H2 ⟨xs, s2, hd, lx, gx⟩
      obtain ⟨x1, x2, x3, rfl⟩ : ∃ x1 x2 x3, xs = [x1, x2, x3] := by
        match xs, lx with
        | [x1, x2, x3], _ => exact ⟨x1, x2, x3, rfl⟩
      have g1 := gx x1 (by simp)
      have g2 := gx x2 (by simp)
      have g3 := gx x3 (by simp)
      have s02 := s1.trans s2
      refine ⟨D, _, rfl, SqL.of hd, rfl, _, _, rfl, _, _, rfl, _, _, rfl, rfl, ?_⟩
      refine ⟨(by show 4 ≤ sizeLine; decide), fun kl nkl => ?_⟩
      have s3 : Same H2 (upd H2 kl (.lst (P4.map V.str))) := same_upd nkl
      have hkl : upd H2 kl (.lst (P4.map V.str)) kl = some (.lst (P4.map V.str)) := upd_same
      have s03 := s02.trans s3
      show _
      generalize hH3 : upd H2 kl (.lst (P4.map V.str)) = H3 at hkl s03
      have hH3' : upd H2 kl (.lst [V.str "A", V.str "BB", V.str "C", V.str "OTHER"]) = H3 := hH3
      simp only [hH3']
      intro d nd
      have six : (0 : Int) < 6 := by decide
      have s4 : Same H3 (upd H3 d (.dT [])) := same_upd nd
      refine ⟨_, rfl, _, rfl, _, _, rfl, rfl, a, ds, _, 6, rfl, SqL.of (s4 _ _ (s03 _ _ ha)), by omega, six, ?_⟩
      have n0 := atD_lo ds (first + 4) six
      have n1 := atD_hi ds (first + 4) six
      generalize atD ds (first + 4) 6 = n at n0 n1
      refine ⟨n, rfl, by omega, by omega, for_range (lo := 0) (n := n.toNat) (fun i σ H' => ∃ v8 v9 v10 v11 v12 kvs, σ = [some (.ref a), some (.int first), some (.int top), some (.int x1), some (.int x2), some (.int x3), some (.ref kl), some (.ref d), v8, v9, v10, v11, v12] ∧ Same H3 H' ∧ H' d = some (.dT kvs) ∧ ExS kvs i)
        ⟨none, none, none, none, none, [], rfl, s4, upd_same, ExS.nil 0⟩ ?_ ?_⟩
      · rintro i σ H' hi ⟨v8, v9, v10, v11, v12, kvs, rfl, s', hd', ok⟩
        have big : (0 : Int) < 65536 := by decide
        refine ⟨_, rfl, _, rfl, _, _, rfl, rfl, _, rfl, _, _, rfl, rfl, a, ds, _, 65536, rfl, SqL.of (s' _ _ (s03 _ _ ha)), by omega, big, ?_⟩
        generalize atD ds (first + 5 + (0 + (i : Int))) 65536 = cell
        have a0 := Int.emod_nonneg (cell / 3) (show (4 : Int) ≠ 0 by decide)
        have a1 := Int.emod_lt_of_pos (cell / 3) (show (0 : Int) < 4 by decide)
        have b0 := Int.emod_nonneg (cell / 12) (show (3 : Int) ≠ 0 by decide)
        have b1 := Int.emod_lt_of_pos (cell / 12) three
        have c0 := Int.emod_nonneg (cell / 36) (show top ≠ 0 by omega)
        have c1 := Int.emod_lt_of_pos (cell / 36) (show 0 < top by omega)
        obtain ⟨one, gone, one4, _⟩ := pick4 a0 a1
        obtain ⟨two, gtwo, two4, two3⟩ := pick4 b0 (by omega)
        have two3 := two3 b1
        refine ⟨_, rfl, _, rfl, _, _, rfl, rfl, ⟨by decide, by decide⟩, .inl ⟨_, rfl, _, _, rfl, rfl, (by show (0 : Int) < _; decide), kl, _, _, _, rfl, rfl, SqL.of (s' _ _ hkl), at_of (j := (cell / 3 % 4).toNat) (by omega) gone, ?_⟩⟩
        refine ⟨_, rfl, _, rfl, _, _, rfl, rfl, ⟨by decide, by decide⟩, .inl ⟨_, rfl, _, _, rfl, rfl, (by show (0 : Int) < _; decide), kl, _, _, _, rfl, rfl, SqL.of (s' _ _ hkl), at_of (j := (cell / 12 % 3).toNat) (by omega) gtwo, ?_⟩⟩
        refine ⟨_, rfl, _, _, rfl, rfl, ⟨by decide, by decide⟩, .inl ⟨_, rfl, _, rfl, _, _, rfl, rfl, by omega, _, _, rfl, rfl, ?_⟩⟩
        have small : kvs.length < sizeLine := million1 (by have := ok.few; omega)
        refine ⟨_, rfl, .inl ⟨_, rfl, _, _, rfl, rfl, three, rfl, _, rfl, ite2 (fun _ => ?_) (fun _ => ?_)⟩⟩
        · refine ⟨_, rfl, _, rfl, _, rfl, (by show 2 ≤ sizeLine; decide), fun t nt => ?_⟩
          have st : Same H' (upd H' t (.tup [.str "put", .str two])) := same_upd nt
          exact ⟨d, _, rfl, DPut.t (k := [sk "put", sk two]) (st _ _ hd') upd_same small, _, _, _, _, _, _, rfl, same_put (s'.trans st) nd, upd_same, ok.put (.inl ⟨two, two3, rfl⟩) (by omega) (by omega)⟩
        · refine ⟨_, rfl, .inl ⟨_, rfl, _, _, rfl, rfl, three, rfl, _, rfl, ite2 (fun _ => ?_) (fun _ => ?_)⟩⟩
          · refine ⟨_, rfl, _, rfl, _, rfl, (by show 2 ≤ sizeLine; decide), fun t nt => ?_⟩
            have st : Same H' (upd H' t (.tup [.str "out", .str one])) := same_upd nt
            exact ⟨d, _, rfl, DPut.t (k := [sk "out", sk one]) (st _ _ hd') upd_same small, _, _, _, _, _, _, rfl, same_put (s'.trans st) nd, upd_same, ok.put (.inr (.inl ⟨one, one4, rfl⟩)) (by omega) (by omega)⟩
          · refine ⟨_, rfl, _, rfl, rfl, _, rfl, ite2 (fun c => ?_) (fun _ => ?_)⟩
            · have ne : one ≠ two := fun z => by
                rw [z] at c
                simp at c
              refine ⟨_, rfl, _, rfl, _, rfl, _, rfl, (by show 3 ≤ sizeLine; decide), fun t nt => ?_⟩
              have st : Same H' (upd H' t (.tup [.str "change", .str one, .str two])) := same_upd nt
              exact ⟨d, _, rfl, DPut.t (k := [sk "change", sk one, sk two]) (st _ _ hd') upd_same small, _, _, _, _, _, _, rfl, same_put (s'.trans st) nd, upd_same, ok.put (.inr (.inr ⟨one, one4, two, two3, ne, rfl⟩)) (by omega) (by omega)⟩
            · exact ⟨_, _, _, _, _, kvs, rfl, s', hd', ok.up⟩
      · rintro σ H' ⟨v8, v9, v10, v11, v12, kvs, rfl, s', hd', ok⟩
        refine ⟨_, rfl, _, rfl, _, rfl, _, rfl, (by show 4 ≤ sizeLine; decide), fun t nt => ?_⟩
        have st : Same H' (upd H' t (.tup [.int x1, .int x2, .int x3, .ref d])) := same_upd nt
        have sf := (s03.trans s').trans st
        have nd0 : H d = none := s03.free nd
        have nt0 : H t = none := (s03.trans s').free nt
        refine q t _ ⟨x1, x2, x3, kvs⟩ sf nt0 ⟨g1, g2, g3, ok.ex, ok.nd, Nat.le_trans ok.few (by omega)⟩ ⟨d, ?_, ?_⟩
        · rw [news_of nt0]
          exact upd_same
        · rw [news_of nd0]
          exact st _ _ hd'
end
end Ld

set_option Elab.async false
set_option linter.all false
set_option maxRecDepth 100000
set_option maxHeartbeats 4000000
/-! The program's prices. -/
namespace Ld
open PySem PySem.Spec PyProof.Rows L2 Lg Lr
section
variable {P : Program} {w : World} {K : PySem.W.Frag} {mg : Str → Option Value} {base : Heap}
theorem scPPut : FnScope ["prices", "kind", "put", "out", "change", "exceptions"] ["prices", "kind"] (defScope s_put_price) := ⟨rfl, rfl, rfl, by decide +kernel, rfl, by decide +kernel, by decide +kernel⟩
theorem scPOut : FnScope ["prices", "kind", "put", "out", "change", "exceptions"] ["prices", "kind"] (defScope s_out_price) := ⟨rfl, rfl, rfl, by decide +kernel, rfl, by decide +kernel, by decide +kernel⟩
theorem scPChg : FnScope ["prices", "kind", "other_kind", "put", "out", "change", "exceptions"] ["prices", "kind", "other_kind"] (defScope s_change_price) := ⟨rfl, rfl, rfl, by decide +kernel, rfl, by decide +kernel, by decide +kernel⟩
theorem ok_put {f : Addr} {fd : FuncData} (F : Fun K "put_price" "put_price" s_put_price f fd) : FnOk P w K mg base CX0 1 f fd ["prices", "kind"] (spPrice putP) := by
  refine F.ok scPPut (fun vs H Q E h => ?_) (fun cdv A outer s H vs Q E hr h => ?_)
  · obtain ⟨t, Z, k, rfl, _⟩ := h
    rfl
  · obtain ⟨t, Z, k, rfl, ⟨d, ht, hd⟩, ok, q⟩ := h
    refine ⟨_, pss_cons (ps_asg (pv 0) (pg_tup rfl (pgs_cons (pg_name (i := 2) scPPut.nd rfl (.inl rfl)) (pgs_cons (pg_name (i := 3) scPPut.nd rfl (.inl rfl)) (pgs_cons (pg_name (i := 4) scPPut.nd rfl (.inl rfl)) (pgs_cons (pg_name (i := 5) scPPut.nd rfl (.inl rfl)) pgs_nil))))))
      (pss_one (ps_ret (pe_dget2 (units1 hr) (pv 5) (pe_tup (pa_cons pe_str (pa_cons (pv 1) pa_nil))) (pv 2) ⟨rfl, rfl, rfl, rfl⟩))), ?_⟩
    refine ⟨_, rfl, t, _, rfl, SqT.of ht, rfl, _, _, rfl, _, _, rfl, _, _, rfl, _, _, rfl, rfl, ?_⟩
    refine ⟨_, rfl, d, rfl, .inr ⟨_, .inl hd⟩, _, rfl, (by show 2 ≤ sizeLine; decide), fun p np => ?_⟩
    have s1 : Same H (upd H p (.tup [.str "put", .str k])) := same_upd np
    have g := DGet.t (k := [sk "put", sk k]) (s1 _ _ hd) (b := p) upd_same
    refine ⟨_, rfl, _, g, ?_⟩
    rw [exI_is ok]
    exact q _ s1
theorem ok_out {f : Addr} {fd : FuncData} (F : Fun K "out_price" "out_price" s_out_price f fd) : FnOk P w K mg base CX0 1 f fd ["prices", "kind"] (spPrice outP) := by
  refine F.ok scPOut (fun vs H Q E h => ?_) (fun cdv A outer s H vs Q E hr h => ?_)
  · obtain ⟨t, Z, k, rfl, _⟩ := h
    rfl
  · obtain ⟨t, Z, k, rfl, ⟨d, ht, hd⟩, ok, q⟩ := h
    refine ⟨_, pss_cons (ps_asg (pv 0) (pg_tup rfl (pgs_cons (pg_name (i := 2) scPOut.nd rfl (.inl rfl)) (pgs_cons (pg_name (i := 3) scPOut.nd rfl (.inl rfl)) (pgs_cons (pg_name (i := 4) scPOut.nd rfl (.inl rfl)) (pgs_cons (pg_name (i := 5) scPOut.nd rfl (.inl rfl)) pgs_nil))))))
      (pss_one (ps_ret (pe_dget2 (units1 hr) (pv 5) (pe_tup (pa_cons pe_str (pa_cons (pv 1) pa_nil))) (pv 3) ⟨rfl, rfl, rfl, rfl⟩))), ?_⟩
    refine ⟨_, rfl, t, _, rfl, SqT.of ht, rfl, _, _, rfl, _, _, rfl, _, _, rfl, _, _, rfl, rfl, ?_⟩
    refine ⟨_, rfl, d, rfl, .inr ⟨_, .inl hd⟩, _, rfl, (by show 2 ≤ sizeLine; decide), fun p np => ?_⟩
    have s1 : Same H (upd H p (.tup [.str "out", .str k])) := same_upd np
    have g := DGet.t (k := [sk "out", sk k]) (s1 _ _ hd) (b := p) upd_same
    refine ⟨_, rfl, _, g, ?_⟩
    rw [exI_is ok]
    exact q _ s1
theorem ok_chg {f : Addr} {fd : FuncData} (F : Fun K "change_price" "change_price" s_change_price f fd) : FnOk P w K mg base CX0 1 f fd ["prices", "kind", "other_kind"] spChange := by
  refine F.ok scPChg (fun vs H Q E h => ?_) (fun cdv A outer s H vs Q E hr h => ?_)
  · obtain ⟨t, Z, a, b, rfl, _⟩ := h
    rfl
  · obtain ⟨t, Z, a, b, rfl, ⟨d, ht, hd⟩, ok, q⟩ := h
    refine ⟨_, pss_cons (ps_asg (pv 0) (pg_tup rfl (pgs_cons (pg_name (i := 3) scPChg.nd rfl (.inl rfl)) (pgs_cons (pg_name (i := 4) scPChg.nd rfl (.inl rfl)) (pgs_cons (pg_name (i := 5) scPChg.nd rfl (.inl rfl)) (pgs_cons (pg_name (i := 6) scPChg.nd rfl (.inl rfl)) pgs_nil))))))
      (pss_cons (ps_if (pt_cmpR op_eq (pv 1) (pv 2) (nomark _)) (pss_one (ps_ret pe_int)) pss_nil)
      (pss_one (ps_ret (pe_dget2 (units1 hr) (pv 6) (pe_tup (pa_cons pe_str (pa_cons (pv 1) (pa_cons (pv 2) pa_nil)))) (pv 5) ⟨rfl, rfl, rfl, rfl⟩)))), ?_⟩
    refine ⟨_, rfl, t, _, rfl, SqT.of ht, rfl, _, _, rfl, _, _, rfl, _, _, rfl, _, _, rfl, rfl, ?_⟩
    refine ⟨_, rfl, _, rfl, rfl, _, rfl, ite2 (fun c => ?_) (fun c => ?_)⟩
    · have e : a = b := V.str.inj (of_decide_eq_true c)
      have := q H (Same.refl H)
      rw [show chgP Z a b = 0 from if_pos e] at this
      exact this
    · have e : ¬ a = b := fun z => c (by rw [z]; exact decide_eq_true rfl)
      refine ⟨_, rfl, d, rfl, .inr ⟨_, .inl hd⟩, _, rfl, _, rfl, (by show 3 ≤ sizeLine; decide), fun p np => ?_⟩
      have s1 : Same H (upd H p (.tup [.str "change", .str a, .str b])) := same_upd np
      have g := DGet.t (k := [sk "change", sk a, sk b]) (s1 _ _ hd) (b := p) upd_same
      refine ⟨_, rfl, _, g, ?_⟩
      rw [exI_is ok]
      have := q _ s1
      rw [show chgP Z a b = exI Z [sk "change", sk a, sk b] Z.chg from if_neg e] at this
      exact this
theorem scPLeaf : FnScope ["prices", "row", "kind", "i", "j", "left_out", "other"] ["prices", "row", "kind", "i", "j"] (defScope s_leaf_price) := ⟨rfl, rfl, rfl, by decide +kernel, rfl, by decide +kernel, by decide +kernel⟩
theorem ok_leaf {f fP fO fC : Addr} {fd fdP fdO fdC : FuncData} (F : Fun K "leaf_price" "leaf_price" s_leaf_price f fd)
    (GP : FnOk P w K mg base CX0 1 fP fdP ["prices", "kind"] (spPrice putP)) (kP : PySem.W.keepIn K (.ref fP) = true) (bP : Binds K fdP ["prices", "kind"] []) (gP : mg "put_price" = some (.ref fP))
    (GO : FnOk P w K mg base CX0 1 fO fdO ["prices", "kind"] (spPrice outP)) (kO : PySem.W.keepIn K (.ref fO) = true) (bO : Binds K fdO ["prices", "kind"] []) (gO : mg "out_price" = some (.ref fO))
    (GC : FnOk P w K mg base CX0 1 fC fdC ["prices", "kind", "other_kind"] spChange) (kC : PySem.W.keepIn K (.ref fC) = true) (bC : Binds K fdC ["prices", "kind", "other_kind"] []) (gC : mg "change_price" = some (.ref fC))
    (msu : mg "sum" = none) : FnOk P w K mg base CX0 2 f fd ["prices", "row", "kind", "i", "j"] spLeaf := by
  refine F.ok scPLeaf (fun vs H Q E h => ?_) (fun cdv A outer s H vs Q E hr h => ?_)
  · obtain ⟨t, r, Z, row, k, i, j, rfl, _⟩ := h
    rfl
  · obtain ⟨t, r, Z, row, k, i, j, rfl, hZ, ok, hrow, ij, jn, len, q⟩ := h
    refine ⟨_, pss_cons (ps_if (pt_cmpR op_eq (pv 3) (pv 4) (nomark _)) (pss_one (ps_ret (pe_call GP hr (by rfl) gP kP bP .nil pass0 (pa_cons (pv 0) (pa_cons (pv 2) pa_nil))))) pss_nil)
      (pss_cons (ps_set (i := 5) scPLeaf.nd rfl (.inl rfl)
        (pe_callB (cr_sum rfl) (by rfl) msu (by decide +kernel) (pa_cons (pe_lc (own := [("other", 6)]) (g := gName 6) rfl scPLeaf.nd (pi_list (pe_slice sl_list (pv 1) (po_some (pv 3)) (po_some (pe_op op_sub (pv 4) pe_int))))
          (blkOk_by (N := ["prices", "row", "kind", "i", "j", "left_out", "other"]) (sc := defScope s_leaf_price) (by decide +kernel)) (fun _ _ _ _ _ => pg_name (i := 6) scPLeaf.nd rfl (Or.inl rfl)) (fun _ _ _ _ _ => pts_nil)
          (fun _ _ _ _ _ => pe_call GO hr (by rfl) gO kO bO .nil pass0 (pa_cons (pv 0) (pa_cons (pv 6) pa_nil)))) pa_nil)))
      (pss_one (ps_ret (pe_op op_add (pv 5)
        (pe_call GC hr (by rfl) gC kC bC .nil pass0 (pa_cons (pv 0) (pa_cons (pe_ix ix_list (pv 1) (pe_op op_sub (pv 4) pe_int) (fun _ _ => rfl)) (pa_cons (pv 2) pa_nil)))))))), ?_⟩
    refine ⟨_, rfl, _, rfl, rfl, _, rfl, ite2 (fun c => ?_) (fun c => ?_)⟩
    · have e : i = j := Int.ofNat_inj.mp (V.int.inj (of_decide_eq_true c))
      refine ⟨_, rfl, _, rfl, t, Z, k, rfl, hZ, ok, fun H2 s2 => ?_⟩
      have := q H2 s2
      rw [show leafP Z row k i j = putP Z k from if_pos e] at this
      exact this
    · have ne : ¬ i = j := fun z => c (by rw [z]; exact decide_eq_true rfl)
      have ej : (j : Int) - 1 = ((j - 1 : Nat) : Int) := by omega
      refine ⟨_, rfl, _, rfl, _, rfl, ?_⟩
      refine ⟨_, rfl, _, _, rfl, rfl, _, rfl, r, row.map V.str, rfl, SqL.of hrow, ?_⟩
      rw [ej, cut_map (by omega) (by omega)]
      intro p np
      generalize ess : (row.drop i).take (j - 1 - i) = ss
      have lss : ss.length ≤ 60 := by
        rw [← ess, List.length_take, List.length_drop]
        omega
      have s1 : Same H (upd H p (.lst (ss.map V.str))) := same_upd np
      have hp : upd H p (.lst (ss.map V.str)) p = some (.lst (ss.map V.str)) := upd_same
      generalize upd H p (.lst (ss.map V.str)) = H1 at s1 hp
      refine ⟨p, rfl, ⟨_, SqL.of hp⟩, fun D hD => lc_list (a := p) (xs := ss.map V.str) (fun n H' => Same H1 H' ∧ H' D = some (.lst (((ss.take n).map (outP Z)).map V.int))) ⟨same_upd hD, upd_same⟩ (fun n H' _ ⟨s', _⟩ => SqL.of (s' _ _ hp)) ?_ ?_⟩
      · rintro n x H' hx ⟨s', hd⟩
        obtain ⟨sy, hsy, rfl⟩ := str_at hx
        refine ⟨rfl, _, rfl, _, rfl, t, Z, sy, rfl, hZ.up (Up.of_same (s1.trans s')), ok, fun H2 s2 => ⟨_, s2 _ _ hd, ?_, ?_, ?_⟩⟩
        · rw [List.length_map, List.length_map]
          exact Nat.lt_of_le_of_lt (Nat.le_trans (List.length_take_le' _ _) lss) (by decide)
        · exact same_put (s'.trans s2) hD
        · rw [take_out hsy]
          exact upd_same
      · rintro H2 ⟨s2, hd⟩
        rw [List.length_map, List.take_length] at hd
        have s02 := s1.trans s2
        obtain ⟨last, hlast⟩ : ∃ last, row[j - 1]? = some last := ⟨_, List.getElem?_eq_getElem (by omega)⟩
        refine ⟨D, _, rfl, SqL.of hd, ?_⟩
        refine ⟨_, rfl, _, rfl, _, rfl, _, rfl, _, _, rfl, rfl, r, _, _, _, rfl, rfl, SqL.of (s02 _ _ hrow), at_of (j := j - 1) ej (by rw [List.getElem?_map, hlast]; rfl), _, rfl, t, Z, last, k, rfl, hZ.up (Up.of_same s02), ok, fun H3 s3 => ⟨_, _, rfl, rfl, ?_⟩⟩
        have := q H3 (s02.trans s3)
        rw [show leafP Z row k i j = outsP Z ss + chgP Z last k from by
          unfold leafP
          rw [if_neg ne, ess, List.getD_eq_getElem?_getD, hlast]
          rfl] at this
        exact this
/-! ### whole numbers -/
theorem scLInt : FnScope ["actual"] ["actual"] (defScope sLInt) := ⟨rfl, rfl, rfl, by decide +kernel, rfl, by decide +kernel, by decide +kernel⟩
def spLInt : Sp := fun vs H Q _ => ∃ n : Int, vs = [.int n] ∧ Q (.bl true) H
theorem ok_lint {f : Addr} {fd : FuncData} (F : Fun K "_law_is_integer" "_law_is_integer" sLInt f fd) (mi : mg "isinstance" = none) (mn : mg "int" = none) (mb : mg "bool" = none) : FnOk P w K mg base CX0 1 f fd ["actual"] spLInt := by
  refine F.ok scLInt (fun vs H Q E h => ?_) (fun cdv A outer s H vs Q E hr h => ?_)
  · obtain ⟨n, rfl, _⟩ := h
    rfl
  · obtain ⟨n, rfl, q⟩ := h
    refine ⟨_, pss_one (ps_ret (pe_and (pe_callB call_isi (by rfl) mi (by decide +kernel) (pa_cons (pv 0) (pa_cons (pe_bltn (v := .ty "int") (by rfl) mn (by decide +kernel) rfl) pa_nil)))
      (pe_one (pe_not (pe_callB call_isi (by rfl) mi (by decide +kernel) (pa_cons (pv 0) (pa_cons (pe_bltn (v := .ty "bool") (by rfl) mb (by decide +kernel) rfl) pa_nil))))))), ?_⟩
    refine ⟨_, rfl, _, _, _, _, _, rfl, .ty "int", .base (.int _), kit_ty (r := true) (by decide +kernel), _, rfl, iteT ?_⟩
    exact ⟨_, rfl, _, _, _, _, _, rfl, .ty "bool", .base (.int _), kit_ty (r := false) (by decide +kernel), _, rfl, q⟩
end
end Ld

set_option Elab.async false
set_option linter.all false
set_option maxRecDepth 100000
set_option maxHeartbeats 4000000
/-! Sets of texts that can be sorted, counted and walked: what is in them is a list without doubles. -/
namespace Sx
open PySem PySem.Spec PyProof.Rows L2 PpSet PySem.Froz
/-- with k, once -/
def withT (l : List Str) (k : Str) : List Str := if k ∈ l then l else k :: l
theorem withT_nodup {l : List Str} (n : l.Nodup) (k : Str) : (withT l k).Nodup := by
  unfold withT
  split
  · exact n
  · rename_i h; exact List.nodup_cons.mpr ⟨h, n⟩
theorem mem_withT {l : List Str} {k x : Str} : x ∈ withT l k ↔ x ∈ l ∨ x = k := by
  unfold withT
  split
  · rename_i h
    exact ⟨.inl, fun z => z.elim id fun e => e ▸ h⟩
  · rw [List.mem_cons]; exact Or.comm
theorem withT_len (l : List Str) (k : Str) : (withT l k).length ≤ l.length + 1 := by
  unfold withT
  split
  · exact Nat.le_succ _
  · exact Nat.le_refl _
/-- lists without doubles that lie in each other -/
theorem perm_same {α : Type} [DecidableEq α] : ∀ {l m : List α}, l.Nodup → (∀ x ∈ l, x ∈ m) → m.length ≤ l.length → l.Perm m
  | [], m, _, _, h => by
    have : m = [] := List.eq_nil_of_length_eq_zero (Nat.le_zero.mp h)
    rw [this]
  | x :: r, m, n, s, h => by
    obtain ⟨n1, n2⟩ := List.nodup_cons.mp n
    have xm := s x List.mem_cons_self
    have p := List.perm_cons_erase xm
    refine (List.Perm.cons x (perm_same n2 (fun y hy => ?_) ?_)).trans p.symm
    · have ne : y ≠ x := fun e => n1 (e ▸ hy)
      exact (List.mem_erase_of_ne ne).mpr (s y (List.mem_cons_of_mem _ hy))
    · rw [List.length_erase_of_mem xm]
      have : (x :: r).length = r.length + 1 := rfl
      omega
structure TxSet (P : Program) (w : World) (h : Heap) (a : Addr) (l : List Str) : Prop where
  held : ∃ D : SD, h.get? a = some (sObj "set" D) ∧ TxOk P w D l ∧ Ris D.2.2.place.toList ∧ (w.params.followText "set-order" = true ∨ D.2.2.led = true)
  once : l.Nodup
  room : l.length < scanBound
section
variable {P : Program} {w : World} {A : Around} {E : Value → Shared → Prop} {s : Shared} {a : Addr} {l : List Str}
theorem TxSet.there {h h' : Heap} (T : TxSet P w h a l) (k : ∀ o, h.get? a = some o → h'.get? a = some o) : TxSet P w h' a l := by
  obtain ⟨⟨D, e, r⟩, n, b⟩ := T
  exact ⟨⟨D, k _ e, r⟩, n, b⟩
theorem tail_keeps {ep : Nat} {es : Array (Int × Value)} {t : SetTable} {wd : Bool} (r : Ris t.place.toList) : Ris (tailTx ep es t wd).2.2.place.toList ∧ (tailTx ep es t wd).2.2.led = t.led := by
  unfold tailTx
  split
  · exact ⟨relayAll_ris _ _ _, relayAll_led _ _ _⟩
  · exact ⟨r, rfl⟩
theorem new_keeps {h : Int} {v : Value} {D : SD} (r : Ris D.2.2.place.toList) : Ris (addTx h v D).2.2.place.toList ∧ (addTx h v D).2.2.led = D.2.2.led := by
  have r1 := layNew_ris D.2.2 D.1 h v r
  have e1 := layNew_led D.2.2 D.1 h v
  unfold addTx
  split
  · have z := @tail_keeps D.2.1 (layNew D.2.2 D.1 h v).1 { (layNew D.2.2 D.1 h v).2.1 with plain := false } (layNew D.2.2 D.1 h v).2.2.1 r1
    exact ⟨z.1, z.2.trans e1⟩
  · have z := @tail_keeps D.2.1 (layNew D.2.2 D.1 h v).1 (layNew D.2.2 D.1 h v).2.1 (layNew D.2.2 D.1 h v).2.2.1 r1
    exact ⟨z.1, z.2.trans e1⟩
/-- what is there already -/
theorem put_old {k : Str} {u : Tok} {Q : Bool → Shared → Prop} {D : SD} (ho : s.heap.get? a = some (sObj "set" D)) (F : TxOk P w D l) (b : l.length < scanBound) (hk : k ∈ l) (q : Q false s) : wpAny (model P w) A (setAddHashed a (.str k u) (hashStr w k)) Q E s := by
  obtain ⟨es, ep, t⟩ := D
  have full : es.size < scanBound := by have z : es.size = l.length := F.sz; omega
  unfold setAddHashed setAddHashedIn
  refine wpAny_holding (wpAny_bind (wpAny_setState_of ho rfl F.fit ?_)); dsimp only
  rw [byScan_of rfl full F.el]; simp only [↓reduceIte]; unfold setAddByScan
  refine wpAny_bind (wpAny_bind (wpAny_rule (wpAny_bind (wpAny_setScan_of (knd := PySem.strKind P w) (is_str k u) ho rfl F.fit F.el ?_))))
  obtain ⟨e, he, hi⟩ := (F.mem k).mp hk
  cases c : List.findIdx? (fun e => (PySem.strKind P w).is k e.2) es.toList with
  | none =>
    have z := List.findIdx?_eq_none_iff.mp c e he
    rw [hi] at z; cases z
  | some j => exact wpAny_pure (wpAny_pure q)
theorem put_any {k : Str} {u : Tok} {Q : Bool → Shared → Prop} (T : TxSet P w s.heap a l) (b : l.length + 1 < scanBound) (q : ∀ h', Heap.SameBut a s.heap h' → TxSet P w h' a (withT l k) → ∀ c, Q c { s with heap := h' }) :
    wpAny (model P w) A (setAddHashed a (.str k u) (hashStr w k)) Q E s := by
  obtain ⟨⟨D, ho, F, r, o⟩, n, room⟩ := T
  by_cases hk : k ∈ l
  · have e : withT l k = l := if_pos hk
    rw [e] at q
    exact put_old ho F room hk (q s.heap (Heap.SameBut.refl a s.heap) ⟨⟨D, ho, F, r, o⟩, n, room⟩ false)
  · have e : withT l k = k :: l := if_neg hk
    rw [e] at q
    obtain ⟨r1, o1⟩ := new_keeps (h := hashStr w k) (v := .str k u) r
    exact add_x ho F hk b (q _ (Heap.SameBut.update s.heap a _) ⟨⟨_, get_upd _ ho rfl, add_ok u F, r1, o.imp id fun z => o1.trans z⟩, List.nodup_cons.mpr ⟨hk, n⟩, b⟩ true)
theorem fresh_t {h : Heap} {o : Obj} (e : o = { cls := .type "set", dict := none, data := .set #[] 0 (.fresh 0 0 (!w.params.followText "set-order")) }) : TxSet P w (h.push o) h.objs.size [] := by
  subst e
  refine ⟨⟨(#[], 0, .fresh 0 0 (!w.params.followText "set-order")), Heap.get?_push_size _ rfl, TxOk.nil (by rfl), List.Pairwise.nil, ?_⟩, List.nodup_nil, by decide⟩
  show _ ∨ (!w.params.followText "set-order") = true
  cases w.params.followText "set-order" <;> simp
/-- x.add(k) -/
theorem call_put {k : Str} {u : Tok} {Q : Value → Shared → Prop} (T : TxSet P w s.heap a l) (b : l.length + 1 < scanBound) (q : ∀ h', Heap.SameBut a s.heap h' → TxSet P w h' a (withT l k) → Q .none { s with heap := h', toks := s.toks + 1 }) :
    wpAny (model P w) A (call (.builtin "set.add") [.ref a, .str k u]) Q E s := by
  obtain ⟨D, ho, _⟩ := T.held
  refine wpAny_call_entry F.slot_set_add ⟨_, ho, rfl⟩ F.entry_set_add ?_ (F.args_set_add_2 _ _)
  unfold Builtin.«set.add» Builtin.Frozenset.oneOther Builtin.Frozenset.addrOf setAdd
  simp only [List.isEmpty_nil, bind_assoc]
  refine wpAny_bind (wpAny_pure ?_); try dsimp only
  refine wpAny_bind (wpAny_pure ?_); try dsimp only
  refine wpAny_bind (wpAny_holding (wpAny_bind ((PySem.strKind P w).pyHash (is_str k u) ?_)))
  refine put_any (s := { s with toks := s.toks + 1 }) T b fun h' sb T' c => ?_
  exact wpAny_pure ⟨_, rfl, q h' sb T'⟩
/-- its texts, in the order that the table has -/
theorem texts_of {D : SD} (F : TxOk P w D l) (n : l.Nodup) : (D.1.toList.map fun e => strOf e.2).Perm l ∧ ∀ e ∈ D.1.toList, ∃ x t, e.2 = Value.str x t := by
  have shape : ∀ e ∈ D.1.toList, ∃ x t, e.2 = Value.str x t := fun e he => by
    obtain ⟨⟨x, hx, _⟩, _⟩ := F.el e he
    obtain ⟨t, ht⟩ := Value.isStrOf_shape hx
    exact ⟨x, t, ht⟩
  refine ⟨(perm_same n (fun x hx => ?_) ?_).symm, shape⟩
  · obtain ⟨e, he, q⟩ := (F.mem x).mp hx
    obtain ⟨t, ht⟩ := Value.isStrOf_shape q
    exact List.mem_map.mpr ⟨e, he, by rw [ht]; rfl⟩
  · rw [List.length_map, Array.length_toList, F.sz]
    exact Nat.le_refl _
/-- sorted(x) -/
theorem call_sortT {Q : Value → Shared → Prop} (T : TxSet P w s.heap a l) (hh : A.handled = none) (few : l.length < 64)
    (q : ∀ s' p (out : Array Value) (c : Nat) (ys : List Str), (∀ b o, s.heap.get? b = some o → s'.heap.get? b = some o) → s'.gens = s.gens → s'.os = s.os → s.heap.objs.size ≤ p → s'.heap.get? p = some (seqObj "list" out c) →
      StrsAre out.toList ys → ys.Perm l → sortedS ys = true → Q (.ref p) s') : wpAny (model P w) A (call (.builtin "sorted") [.ref a]) Q E s := by
  obtain ⟨⟨⟨es, ep, t⟩, ho, F, r, o⟩, n, room⟩ := T
  have sz : es.size = l.length := F.sz
  obtain ⟨pl, shape⟩ := texts_of F n
  refine Calls.call_function_entry kind_sorted plain_sorted entry_sorted (args_sorted1 _) ?_
  unfold Builtin.«sorted»
  refine wpAny_bind (m := checkCount "sorted" 1 1 _) (wpAny_pure (wpAny_bind (collect_set (A := A.in1) hh ⟨_, ho, rfl, rfl⟩ F.fit (by show es.size < scanBound; omega) r o fun s1 vs k1 z1 g1 o1 pm => ?_)))
  have len : vs.length = l.length := by rw [pm.length_eq, List.length_map, Array.length_toList]; exact sz
  have S : StrsAre vs (vs.map strOf) := strsAre_map vs fun v hv => by
    obtain ⟨e, he, ee⟩ := List.mem_map.mp (pm.mem_iff.mp hv)
    rw [← ee]; exact shape e he
  have pv : (vs.map strOf).Perm l := by
    have z := pm.map strOf
    rw [List.map_map] at z
    exact z.trans pl
  refine wpAny_bind (wpAny_newList ?_ (by rw [len, sizeLine_eq]; omega))
  have at0 : (s1.heap.push (seqObj "list" vs.toArray 0)).get? s1.heap.objs.size = some (seqObj "list" vs.toArray 0) := Heap.get?_push_size _ rfl
  refine wpAny_bind (wpAny_holding (wpAny_call_entry slot_list_sort ⟨_, at0, rfl⟩ entry_list_sort (list_sort_treeK strKind_oneLt at0 S.keysOf (fun v₁ v₂ rest e => keyKind_strs (by rw [← e]; exact S)) (by omega) fun st' a1 a2 => ⟨_, rfl, ?_⟩) (args_list_sort _)))
  obtain ⟨ys, b1, b2, b3⟩ := sorted_out_str S a1 a2
  obtain ⟨c, hc⟩ := sortedHeap_at (vs := vs) (out := (arrOf st').map (·.2)) at0
  refine wpAny_pure ⟨_, rfl, q _ s1.heap.objs.size _ c ys (fun b u e => ?_) g1 o1 z1 hc b1 (b2.trans pv) b3⟩
  have z := k1 b u e
  have lt := Heap.lt_size z
  show (sortedHeap (s1.heap.push (seqObj "list" vs.toArray 0)) s1.heap.objs.size vs ((arrOf st').map (·.2))).get? b = some u
  rw [sortedHeap_old (Nat.ne_of_lt lt) (by rw [size_push']; exact Nat.lt_succ_of_lt lt)]
  exact Heap.get?_push_of_some _ z
/-- len(x) -/
theorem call_lenT {Q : Value → Shared → Prop} (T : TxSet P w s.heap a l) (q : ∀ t t', Q (.int l.length t) { s with toks := t' }) : wpAny (model P w) A (call (.builtin "len") [.ref a]) Q E s := by
  obtain ⟨⟨⟨es, ep, t⟩, ho, F, r, o⟩, n, room⟩ := T
  have sz : es.size = l.length := F.sz
  have big : scanBound < 2 ^ 62 := by decide
  refine call_len_set ho ⟨rfl, rfl, rfl⟩ rfl F.fit (by show (es.size : Int) < 2 ^ 63; omega) ?_
  show Q (.int (es.size : Nat) _) _
  rw [sz]
  exact q _ _
end
/-! ### in the heap of a def -/
def TxO (P : Program) (w : World) (a : Addr) (l : List Str) : HO := .ext fun h => TxSet P w h a l
section
variable {X : Cx}
theorem tx_new {w : World} {P : Program} {H : Hp} {h : Heap} {a : Addr} {l : List Str} (T : TxSet P w h a l) : ObjOk P w H h a (TxO P w a l) := by
  have ⟨⟨D, ho, _⟩, _, _⟩ := T
  exact ⟨T, ⟨_, ho⟩, fun h1 h2 p k => TxSet.there p k⟩
theorem tx_get {pins : List (Addr × Obj)} {σ : L2.St} {H : Hp} {s : Shared} {a : Addr} {l : List Str} (I : Inv X pins σ H s) (ha : H a = some (TxO X.prog X.w a l)) : TxSet X.prog X.w s.heap a l := (I.hok a _ ha).1
def TxNew (X : Cx) (D : Addr) : HO := TxO X.prog X.w D []
theorem mk_tx : Lc.Mk X (newSet (.type "set")) (TxNew X) := fun pins s σ H Q E I h => PpSet.newSet_ok (h _ (I.laid (t' := s.toks) (fun b u e => Heap.get?_push_of_some _ e) (Nat.le_refl _) (tx_new (fresh_t rfl))))
/-- a text is put in -/
def tPutT (X : Cx) (te : TE) (D : Addr) : L2.St → Hp → (Hp → Prop) → Prop := fun σ H Nx => te σ H fun y H1 => ∃ (k : Str) (l : List Str), y = .str k ∧ H1 D = some (TxO X.prog X.w D l) ∧ l.length + 1 < scanBound ∧ Nx (upd H1 D (TxO X.prog X.w D (withT l k)))
theorem em_putT {Y : Cx} {elt : Expr} {te : TE} {D : Addr} (quiet : Y.xe = fun _ _ => False) (he : PE Y elt te) : Lc.EM Y (Lc.putIn elt (.ref D) Y.env) [] (tPutT Y te D) := by
  intro pins s σ H Q k R I h hk
  have z := he.run pins s σ H _ I h
  rw [quiet] at z
  unfold Lc.putIn
  refine wpAny_bind (wpAny_bind (thnF z fun v s1 h1 => wpAny_bind (wpAny_standAt (wpAny_bind ?_))))
  obtain ⟨y, H1, I1, ry, kx, l, rfl, hD, room, q⟩ := h1
  obtain ⟨t, rfl⟩ := ry
  refine call_put (tx_get I1 hD) room fun h' sb new => wpAny_pure (hk _ _ (I1.write (e := D) (t' := s1.toks + 1) (by rw [hD]; trivial) (.inl rfl) (fun b u hb hu => (sb.2 b hb).trans hu) ?_ (tx_new new)) q)
  obtain ⟨⟨_, ho, _⟩, _⟩ := new
  exact ⟨_, ho⟩
theorem pe_setT {elt tg iter : Expr} {ifs : List Expr} {scope : Scope} {own : List (Str × Nat)} {pos : Pos} {wi : TI} {g : TG} {tt : TT} {te : TE} (calm : X.calm = true) (nd : X.N.Nodup) (src : PI X tg iter wi) (ok : BlkOk X.N X.env.scope scope own)
    (pg : Lc.InBlk X scope fun Y => PG Y tg g) (pt : Lc.InBlk X scope fun Y => PTs Y ifs tt) (pe : Lc.InBlk X scope fun Y => PE Y elt te) (fold : ∀ x, foldedSetIterable iter X.env x = pure x := by intro _; rfl) :
    PE X (.SetComp elt [⟨tg, iter, ifs, 0⟩] scope pos) (Lc.tCmp (TxNew X) wi g tt (tPutT X te) (own.map (·.2))) := by
  refine ⟨fun pins s σ H Q I h => ?_⟩
  show wpAny _ _ (comprehension (.SetComp elt [⟨tg, iter, ifs, 0⟩] scope pos) scope X.env (firstIterPos [⟨tg, iter, ifs, 0⟩] pos) (newSet (.type "set")) false (eval iter X.env)) _ _ s
  exact Lc.comp_run (emit := Lc.putIn elt) (vs1 := []) (.inl ⟨_, _, _, _, rfl⟩) rfl (fun it acc env => rfl) mk_tx calm nd src ok (fun _ m => nomatch m) pg pt (fun s H C cl fp D => em_putT rfl (pe s H C cl fp)) fold I h
/-- sorted(x), fewer than 64 texts -/
def rSortT (X : Cx) : List V → Hp → VK → Prop := fun xs H Q => ∃ (a : Addr) (l : List Str), xs = [.ref a] ∧ H a = some (TxO X.prog X.w a l) ∧ l.length < 64 ∧
  ∀ (ys : List Str) (p : Addr), ys.Perm l → sortedS ys = true → H p = none → Q (.ref p) (upd H p (.lst (ys.map V.str)))
theorem cr_sortT (calm : X.calm = true) : CallR X (.builtin "sorted") (rSortT X) := by
  intro pins s σ H xs us Q I r h
  obtain ⟨a, l, rfl, ha, few, q⟩ := h
  rw [Vals.ref1 r]
  refine call_sortT (tx_get I ha) (I.ok.hd calm) few fun s' p out c ys k g o new hg hi hp hs => ?_
  have no : H p = none := I.hok.fresh new
  have len : (ys.map V.str).length ≤ sizeLine := by rw [List.length_map, hp.length_eq, sizeLine_eq]; omega
  have J : Inv X pins σ (upd H p (.lst (ys.map V.str))) { s with heap := s'.heap, gens := s'.gens, drawn := s'.drawn, toks := s'.toks } :=
    I.call (ch := []) (Un.laid k new no) (I.hok.laid k new ⟨len, out.toList, c, vals_of_strs hi, hg⟩) (by rw [g]; exact I.bare) (fun _ z => nomatch z)
  obtain ⟨h1, h2, h3, h4, h5⟩ := s'
  cases s
  cases o
  exact ⟨.ref p, _, J, rfl, q ys p hp hs no⟩
end
end Sx

set_option Elab.async false
set_option linter.all false
set_option maxRecDepth 100000
set_option maxHeartbeats 4000000
/-! Sets of texts by a comprehension of two clauses, sortable. -/
namespace Sx
open PySem PySem.Spec PyProof.Rows L2
section
variable {X : Cx}
/-- vs1: the names of the second target -/
def tPutT2 (X : Cx) (wi1 : TI) (g1 : TG) (tt1 : TT) (te : TE) (vs1 : List Nat) (D : Addr) : L2.St → Hp → (Hp → Prop) → Prop := fun σ H Nx => wi1 σ H fun J H1 => ∃ W : Nat → Nat → Hp → Prop, (∃ m, W 0 m H1) ∧ Lc.Wk g1 tt1 (tPutT X te D) vs1 J σ Nx W
theorem pe_setT2 {elt tg iter tg1 iter1 : Expr} {ifs ifs1 : List Expr} {scope : Scope} {own : List (Str × Nat)} {vs1 : List Nat} {pos : Pos} {wi wi1 : TI} {g g1 : TG} {tt tt1 : TT} {te : TE} (calm : X.calm = true) (nd : X.N.Nodup) (src : PI X tg iter wi) (ok : BlkOk X.N X.env.scope scope own) (sub : ∀ i ∈ vs1, i ∈ own.map (·.2))
    (pg : Lc.InBlk X scope fun Y => PG Y tg g) (pt : Lc.InBlk X scope fun Y => PTs Y ifs tt) (src1 : Lc.InBlk X scope fun Y => PI Y tg1 iter1 wi1) (pg1 : Lc.InBlk X scope fun Y => PG Y tg1 g1) (pt1 : Lc.InBlk X scope fun Y => PTs Y ifs1 tt1) (pe : Lc.InBlk X scope fun Y => PE Y elt te)
    (fold : ∀ x, foldedSetIterable iter X.env x = pure x := by intro _; rfl) (fold1 : ∀ env x, foldedSetIterable iter1 env x = pure x := by intro _ _; rfl) :
    PE X (.SetComp elt [⟨tg, iter, ifs, 0⟩, ⟨tg1, iter1, ifs1, 0⟩] scope pos) (Lc.tCmp (TxNew X) wi g tt (tPutT2 X wi1 g1 tt1 te vs1) (own.map (·.2))) := by
  refine ⟨fun pins s σ H Q I h => ?_⟩
  show wpAny _ _ (comprehension (.SetComp elt [⟨tg, iter, ifs, 0⟩, ⟨tg1, iter1, ifs1, 0⟩] scope pos) scope X.env (firstIterPos [⟨tg, iter, ifs, 0⟩, ⟨tg1, iter1, ifs1, 0⟩] pos) (newSet (.type "set")) false (eval iter X.env)) _ _ s
  exact Lc.comp_run (emit := fun acc env => Lc.inner (.SetComp elt [⟨tg, iter, ifs, 0⟩, ⟨tg1, iter1, ifs1, 0⟩] scope pos) iter1 acc env) (.inl ⟨_, _, _, _, rfl⟩) rfl (fun it acc env => rfl) mk_tx calm nd src ok sub pg pt
    (fun s H C cl fp D => Lc.em_inner (emit1 := Lc.putIn elt (.ref D) (compEnvC scope cl C X.env)) (.inl ⟨_, _, _, _, rfl⟩) rfl (fun it => rfl) calm rfl (src1 s H C cl fp) (fold1 _) (pg1 s H C cl fp) (pt1 s H C cl fp) (em_putT rfl (pe s H C cl fp))) fold I h
end
end Sx

set_option Elab.async false
set_option linter.all false
set_option maxRecDepth 100000
set_option maxHeartbeats 4000000
/-! The costs of the leaves over all stretches. -/
namespace Ld
open PySem PySem.Spec PyProof.Rows L2 Lg Lr Lb
theorem leafP_more {Z : Prc} {row : List Str} {k s : Str} {i j : Nat} (h : i + 2 ≤ j) (hs : row[i]? = some s) : leafP Z row k i j = outP Z s + leafP Z row k (i + 1) j := by
  have e : (row.drop i).take (j - 1 - i) = s :: (row.drop (i + 1)).take (j - 1 - (i + 1)) := by
    obtain ⟨hi, e⟩ := List.getElem?_eq_some_iff.mp hs
    rw [List.drop_eq_getElem_cons hi, e, show j - 1 - i = (j - 1 - (i + 1)) + 1 by omega, List.take_succ_cons]
  unfold leafP
  rw [if_neg (by omega), if_neg (by omega), e]
  unfold outsP
  rw [List.map_cons, List.sum_cons]
  omega
theorem mem_shorter {n i j : Nat} : (i, j) ∈ shorter n ↔ i ≤ j ∧ j ≤ n := by
  unfold shorter
  rw [List.mem_flatMap]
  constructor
  · rintro ⟨k, hk, m⟩
    obtain ⟨a, ha, e⟩ := List.mem_map.mp m
    have := List.mem_range.mp hk
    have := List.mem_range.mp ha
    cases e
    omega
  · rintro ⟨h1, h2⟩
    exact ⟨j - i, List.mem_range.mpr (by omega), List.mem_map.mpr ⟨i, List.mem_range.mpr (by omega), by rw [show i + (j - i) = j by omega]⟩⟩
theorem ofLen_mem {n k : Nat} {p : Nat × Nat} (h : p ∈ ofLen n k) : p.2 = p.1 + k := by
  obtain ⟨a, _, rfl⟩ := List.mem_map.mp h
  rfl
theorem shorter_pw (n : Nat) : (shorter n).Pairwise fun p q => p.2 - p.1 ≤ q.2 - q.1 := by
  unfold shorter
  rw [List.pairwise_flatMap]
  refine ⟨fun k _ => List.pairwise_of_forall_mem_list fun x hx y hy => ?_, List.Pairwise.imp ?_ List.pairwise_lt_range⟩
  · rw [ofLen_mem hx, ofLen_mem hy]
    omega
  · intro a b lt x hx y hy
    rw [ofLen_mem hx, ofLen_mem hy]
    omega
theorem shorter_nd (n : Nat) : (shorter n).Nodup := by
  unfold shorter List.Nodup
  rw [List.pairwise_flatMap]
  refine ⟨fun k _ => ?_, List.Pairwise.imp ?_ List.pairwise_lt_range⟩
  · refine List.Pairwise.map _ (fun a b h e => h ?_) List.nodup_range
    exact congrArg Prod.fst e
  · intro a b lt x hx y hy e
    have h1 := ofLen_mem hx
    have h2 := ofLen_mem hy
    rw [e] at h1
    omega
/-- what is shorter is ahead -/
theorem shorter_ahead {n k i j a b : Nat} (h : (shorter n)[k]? = some (i, j)) (h1 : a ≤ b) (h2 : b ≤ n) (lt : b - a < j - i) : (a, b) ∈ (shorter n).take k := by
  obtain ⟨m, hm⟩ := List.mem_iff_getElem?.mp (mem_shorter.mpr ⟨h1, h2⟩)
  obtain ⟨km, em⟩ := List.getElem?_eq_some_iff.mp hm
  obtain ⟨kk, ek⟩ := List.getElem?_eq_some_iff.mp h
  have mk : m < k := by
    rcases Nat.lt_trichotomy m k with q | q | q
    · exact q
    · subst q
      rw [em] at ek
      cases ek
      omega
    · have := List.pairwise_iff_getElem.mp (shorter_pw n) k m kk km q
      rw [em, ek] at this
      dsimp only at this
      omega
  refine List.mem_iff_getElem?.mpr ⟨m, ?_⟩
  rw [List.getElem?_take, if_pos mk]
  exact hm
theorem shorter_here {n k i j : Nat} (h : (shorter n)[k]? = some (i, j)) : (i, j) ∉ (shorter n).take k := fun m => by
  obtain ⟨q, hq⟩ := List.mem_iff_getElem?.mp m
  rw [List.getElem?_take] at hq
  split at hq
  · rename_i lt
    obtain ⟨k1, e1⟩ := List.getElem?_eq_some_iff.mp hq
    obtain ⟨k2, e2⟩ := List.getElem?_eq_some_iff.mp h
    have := List.pairwise_iff_getElem.mp (shorter_nd n) q k k1 k2 lt
    exact this (e1.trans e2.symm)
  · cases hq
theorem shorter_all (n : Nat) : (shorter n).length ≤ 61 * 61 ∨ 60 < n := by
  by_cases h : n ≤ 60
  · left
    have := shorter_len n (n + 1)
    have l : (n + 1) * (n + 1) ≤ 61 * 61 := Nat.mul_le_mul (by omega) (by omega)
    unfold shorter
    omega
  · right
    omega
/-- the kinds of a grammar -/
def kindIn (G : List Rule) (x : Str) : Prop := ∃ r ∈ G, x ∈ r.2 ∧ x ∉ namesOf G
section
variable {P : Program} {w : World} {K : PySem.W.Frag} {mg : Str → Option Value} {base : Heap}
theorem scLc : FnScope ["grammar", "prices", "row", "names", "kinds", "costs", "i", "j", "out", "name", "symbols", "symbol", "kind"] ["grammar", "prices", "row"] (defScope s_leaf_costs) := ⟨rfl, rfl, rfl, by decide +kernel, rfl, by decide +kernel, by decide +kernel⟩
/-- the dict of the leaves over a stretch -/
def KindsA (H : Hp) (d : Addr) (Z : Prc) (row : List Str) (ks : List Str) (i j : Nat) : Prop := ∃ kvs, H d = some (.dK kvs) ∧ kvs.length ≤ 60 ∧ (kvs.map (·.1)).Nodup ∧ ∀ s ∈ ks, ∃ v, valV kvs (Sum.inr s) = some v ∧ CostV H v (some (leafP Z row s i j, 1))
def spLc : Sp := fun vs H Q _ => ∃ (g t r : Addr) (G : List Rule) (Z : Prc) (row Ks : List Str), vs = [.ref g, .ref t, .ref r] ∧ GraA H g G ∧ G.length ≤ 40 ∧ (∀ r ∈ G, r.2.length ≤ 20) ∧ (∀ x, kindIn G x → x ∈ Ks) ∧ Ks.length ≤ 60 ∧ PrA H t Z ∧ PrcOk Z ∧ H r = some (.lst (row.map V.str)) ∧ row.length ≤ 60 ∧
  ∀ p C H2, Same H H2 → H p = none → H2 p = some (.dT C) → (∀ i j, i ≤ j → j ≤ row.length → ∃ d, valV C (kS i j) = some (.ref d) ∧ H d = none ∧ ∃ kvs, H2 d = some (.dK kvs) ∧ kvs.length ≤ 60 ∧ (kvs.map (·.1)).Nodup ∧ ∀ s, kindIn G s → ∃ v, valV kvs (Sum.inr s) = some v ∧ CostV H2 v (some (leafP Z row s i j, 1))) → Q (.ref p) H2
theorem ok_lc {f fN fS fL fO : Addr} {fd fdN fdS fdL fdO : FuncData} (F : Fun K "leaf_costs" "leaf_costs" s_leaf_costs f fd)
    (GN : FnOk P w K mg base CX0 1 fN fdN ["grammar"] spNames) (kN' : PySem.W.keepIn K (.ref fN) = true) (bN : Binds K fdN ["grammar"] []) (gN : mg "names_of" = some (.ref fN))
    (GS : FnOk P w K mg base CX0 1 fS fdS ["many"] spSh) (kS' : PySem.W.keepIn K (.ref fS) = true) (bS : Binds K fdS ["many"] []) (gS : mg "shorter_first" = some (.ref fS))
    (GL : FnOk P w K mg base CX0 2 fL fdL ["prices", "row", "kind", "i", "j"] spLeaf) (kL : PySem.W.keepIn K (.ref fL) = true) (bL : Binds K fdL ["prices", "row", "kind", "i", "j"] []) (gL : mg "leaf_price" = some (.ref fL))
    (GO : FnOk P w K mg base CX0 1 fO fdO ["prices", "kind"] (spPrice outP)) (kO : PySem.W.keepIn K (.ref fO) = true) (bO : Binds K fdO ["prices", "kind"] []) (gO : mg "out_price" = some (.ref fO))
    (ml : mg "len" = none) (mso : mg "sorted" = none) : FnOk P w K mg base CX0 3 f fd ["grammar", "prices", "row"] spLc := by
  refine F.ok scLc (fun vs H Q E h => ?_) (fun cdv A outer s H vs Q E hr h => ?_)
  · obtain ⟨g, t, r, G, Z, row, Ks, rfl, _⟩ := h
    rfl
  · obtain ⟨g, t, r, G, Z, row, Ks, rfl, hG, few, few2, kin, kfew, hZ, ok, hrow, len, q⟩ := h
    have hu := units1 hr
    have hr1 := hr.mono (show 1 ≤ 2 by decide)
    refine ⟨_, pss_cons (ps_set (i := 3) scLc.nd rfl (.inr rfl) (pe_call GN hr1 (by rfl) gN kN' bN .nil pass0 (pa_cons (pv 0) pa_nil)))
      (pss_cons (ps_set (i := 4) scLc.nd rfl (.inl rfl) (pe_callB (Sx.cr_sortT rfl) (by rfl) mso (by decide +kernel) (pa_cons (Sx.pe_setT2 (own := [("name", 9), ("symbols", 10), ("symbol", 11)]) (vs1 := [11]) (wi1 := iList K (tVar 10)) (g := gTup K 2 (gCons (gName 9) (gCons (gName 10) gNil))) (g1 := gName 11) (tt1 := tTest (tOp (rIn K true) (tVar 11) (tVar 3))) (te := tVar 11) rfl scLc.nd (pi_list (pv 0))
          (blkOk_by (own := [("name", 9), ("symbols", 10), ("symbol", 11)]) (N := ["grammar", "prices", "row", "names", "kinds", "costs", "i", "j", "out", "name", "symbols", "symbol", "kind"]) (sc := defScope s_leaf_costs) (by decide +kernel)) (by decide)
          (fun _ _ _ _ _ => pg_tup (n := 2) rfl (pgs_cons (pg_name (i := 9) scLc.nd rfl (.inl rfl) (.inr rfl)) (pgs_cons (pg_name (i := 10) scLc.nd rfl (.inl rfl) (.inr rfl)) pgs_nil))) (fun _ _ _ _ _ => pts_nil)
          (fun _ _ _ _ _ => pi_list (pv 10)) (fun _ _ _ _ _ => pg_name (i := 11) scLc.nd rfl (.inl rfl) (.inr rfl)) (fun _ _ _ _ _ => pts_one (pt_cmpR op_notIn_seq (pv 11) (pv 3) rfl)) (fun _ _ _ _ _ => pv 11)) pa_nil)))
      (pss_cons (ps_set (i := 5) scLc.nd rfl (.inr rfl) pe_dnewT)
      (pss_cons (ps_for PassesOwn.never rfl (pi_list (pe_call GS hr1 (by rfl) gS kS' bS .nil pass0 (pa_cons (pe_callB call_len_seq (by rfl) ml PySem.boot_len (pa_cons (pv 2) pa_nil)) pa_nil))) (pg_tup rfl (pgs_cons (pg_name (i := 6) scLc.nd rfl (.inr rfl)) (pgs_cons (pg_name (i := 7) scLc.nd rfl (.inr rfl)) pgs_nil)))
        (pss_one (ps_if (pt_cmpR op_lt (pe_op op_sub (pv 7) (pv 6)) pe_int (nomark _))
          (pss_one (ps_dput hu (pv 5) (pe_tup (pa_cons (pv 6) (pa_cons (pv 7) pa_nil))) (Lc.pe_dicK (own := [("kind", 12)]) (g := gName 12) (tk := tVar 12) (tv := tTup (tCons (tCall spLeaf [] E0 (tCons (tVar 1) (tCons (tVar 2) (tCons (tVar 12) (tCons (tVar 6) (tCons (tVar 7) tNil)))))) (tCons (tC (.int 1)) tNil))) rfl scLc.nd (pi_list (pv 4))
              (blkOk_by (own := [("kind", 12)]) (N := ["grammar", "prices", "row", "names", "kinds", "costs", "i", "j", "out", "name", "symbols", "symbol", "kind"]) (sc := defScope s_leaf_costs) (by decide +kernel))
              (fun _ _ _ _ _ => pg_name (i := 12) scLc.nd rfl (.inl rfl) (.inr rfl)) (fun _ _ _ _ _ => pts_nil) (fun _ _ _ _ _ => pv 12)
              (fun _ _ _ _ _ => pe_tup (pa_cons (pe_call GL hr (by rfl) gL kL bL .nil pass0 (pa_cons (pv 1) (pa_cons (pv 2) (pa_cons (pv 12) (pa_cons (pv 6) (pa_cons (pv 7) pa_nil)))))) (pa_cons pe_int pa_nil)))) (by rfl)))
          (pss_cons (ps_set (i := 8) scLc.nd rfl (.inr rfl) (pe_call GO hr1 (by rfl) gO kO bO .nil pass0 (pa_cons (pv 1) (pa_cons (pe_ix ix_list (pv 2) (pv 6) (fun _ _ => rfl)) pa_nil))))
          (pss_one (ps_dput hu (pv 5) (pe_tup (pa_cons (pv 6) (pa_cons (pv 7) pa_nil))) (Lc.pe_dicK (own := [("kind", 12)]) (g := gName 12) (tk := tVar 12)
              (tv := tTup (tCons (tOp (rI0 fun i j => .int (i + j)) (tVar 8) (tOp (rIxT K) (tDGet (tDGet (tVar 5) (tTup (tCons (tOp (rI0 fun i j => .int (i + j)) (tVar 6) (tC (.int 1))) (tCons (tVar 7) tNil)))) (tVar 12)) (tC (.int 0)))) (tCons (tC (.int 1)) tNil))) rfl scLc.nd (pi_list (pv 4))
              (blkOk_by (own := [("kind", 12)]) (N := ["grammar", "prices", "row", "names", "kinds", "costs", "i", "j", "out", "name", "symbols", "symbol", "kind"]) (sc := defScope s_leaf_costs) (by decide +kernel))
              (fun _ _ _ _ _ => pg_name (i := 12) scLc.nd rfl (.inl rfl) (.inr rfl)) (fun _ _ _ _ _ => pts_nil) (fun _ _ _ _ _ => pv 12)
              (fun _ _ _ _ _ => pe_tup (pa_cons (pe_op op_add (pv 8) (pe_ix ix_tup (pe_dget hu (pe_dget hu (pv 5) (pe_tup (pa_cons (pe_op op_add (pv 6) pe_int) (pa_cons (pv 7) pa_nil))) (fun _ _ => rfl)) (pv 12) (fun _ _ => rfl)) pe_int (fun _ _ => rfl))) (pa_cons pe_int pa_nil)))) (by rfl)))))))
      (pss_one (ps_ret (pv 5)))))), ?_⟩
    obtain ⟨gvs, hg, gr⟩ := id hG
    have lgv := gr.len
    refine ⟨_, rfl, g, G, rfl, hG, few, fun nl H1 s1 nnl hnl => ?_⟩
    have hg1 := s1 _ _ hg
    -- the set of the kinds
    refine ⟨_, rfl, g, rfl, ⟨_, SqL.of hg1⟩, fun D nD => ?_⟩
    refine Lc.wk_by (walk_list (K := K) (a := g) (xs := gvs)) (fun n H' => ∃ ls, Same H1 H' ∧ H' D = some (Sx.TxO P w D ls) ∧ ls.Nodup ∧ ∀ x, x ∈ ls ↔ ∃ r ∈ G.take n, x ∈ r.2 ∧ x ∉ namesOf G)
      ⟨[], same_upd nD, upd_same, List.nodup_nil, fun x => by simp⟩ (fun n H' _ ⟨_, s', _⟩ => SqL.of (s' _ _ hg1)) ?_ ?_
    · rintro n x H' H'' hn ⟨ls, s', hD, nd, mem⟩ ⟨rfl, hx⟩
      obtain ⟨ru, hru, tt, l, rfl, h1, h2⟩ := gr.get hx
      have ruG : ru ∈ G := List.mem_of_getElem? hru
      have s1' := s1.trans s'
      refine ⟨tt, _, rfl, SqT.of (s1' _ _ h1), rfl, _, _, rfl, _, _, rfl, rfl, rfl, ?_⟩
      unfold tYes
      simp only [if_true]
      refine ⟨_, rfl, l, rfl, ⟨_, SqL.of (s1' _ _ h2)⟩, ?_⟩
      refine Lc.wk_by (walk_list (K := K) (a := l) (xs := ru.2.map V.str)) (fun k H2 => ∃ ls, Same H1 H2 ∧ H2 D = some (Sx.TxO P w D ls) ∧ ls.Nodup ∧ ∀ x, x ∈ ls ↔ (∃ r ∈ G.take n, x ∈ r.2 ∧ x ∉ namesOf G) ∨ (x ∈ ru.2.take k ∧ x ∉ namesOf G))
        ⟨ls, s', hD, nd, fun x => by simp [mem x]⟩ (fun k H2 _ ⟨_, s2, _⟩ => SqL.of (s2 _ _ (s1 _ _ h2))) ?_ ?_
      · rintro k y Ha Hb hk ⟨ls, s2, hD2, nd2, mem2⟩ ⟨rfl, hy⟩
        obtain ⟨sy, hsy, rfl⟩ := str_at hy
        have nx : ∀ x, x ∈ ru.2.take (k + 1) ↔ x ∈ ru.2.take k ∨ x = sy := fun x => by
          rw [List.take_add_one, hsy, List.mem_append]
          simp
        have lsK : ∀ x ∈ ls, x ∈ Ks := fun x hx => by
          rcases (mem2 x).mp hx with ⟨r, hr, h3, h4⟩ | ⟨h3, h4⟩
          · exact kin x ⟨r, List.mem_of_mem_take hr, h3, h4⟩
          · exact kin x ⟨ru, ruG, List.mem_of_mem_take h3, h4⟩
        have lsl := nodup_le2 nd2 lsK
        refine ⟨rfl, _, rfl, _, rfl, nl, _, rfl, .inl (SqL.of (s2 _ _ hnl)), rfl, flat_strs _, _, rfl, ?_⟩
        show (if (!inV (V.str sy) ((namesOf G).map V.str)) = true then _ else _)
        rw [inV_strs]
        by_cases m : sy ∈ namesOf G
        · rw [decide_eq_true m]
          refine iteF ⟨ls, s2, hD2, nd2, fun x => ?_⟩
          rw [mem2 x, nx x]
          constructor
          · rintro (h | ⟨h, h'⟩)
            · exact .inl h
            · exact .inr ⟨.inl h, h'⟩
          · rintro (h | ⟨h | h, h'⟩)
            · exact .inl h
            · exact .inr ⟨h, h'⟩
            · exact absurd m (h ▸ h')
        · rw [decide_eq_false m]
          refine iteT ⟨_, rfl, sy, ls, rfl, hD2, Nat.lt_of_le_of_lt (show ls.length + 1 ≤ 61 by omega) (by decide), Sx.withT ls sy, same_put s2 nD, upd_same, Sx.withT_nodup nd2 sy, fun x => ?_⟩
          rw [Sx.mem_withT, mem2 x, nx x]
          constructor
          · rintro ((h | ⟨h, h'⟩) | h)
            · exact .inl h
            · exact .inr ⟨.inl h, h'⟩
            · exact .inr ⟨.inr h, by rw [h]; exact m⟩
          · rintro (h | ⟨h | h, h'⟩)
            · exact .inl (.inl h)
            · exact .inl (.inr ⟨h, h'⟩)
            · exact .inr h
      · rintro Hc ⟨ls, sc, hDc, ndc, memc⟩
        refine ⟨ls, sc, hDc, ndc, fun x => ?_⟩
        rw [List.length_map, List.take_length] at memc
        rw [memc x, List.take_add_one, hru]
        constructor
        · rintro (⟨r, hr, h⟩ | h)
          · exact ⟨r, List.mem_append_left _ hr, h⟩
          · exact ⟨ru, List.mem_append_right _ (by simp), h⟩
        · rintro ⟨r, hr, h⟩
          rcases List.mem_append.mp hr with z | z
          · exact .inl ⟨r, z, h⟩
          · have : r = ru := by simpa using z
            rw [this] at h
            exact .inr h
    rintro H2 ⟨ls, s2, hD, nd, mem⟩
    rw [lgv, List.take_length] at mem
    have lsl : ls.length ≤ 60 := Nat.le_trans (nodup_le2 nd fun x hx => kin x ((mem x).mp hx)) kfew
    refine ⟨D, ls, rfl, hD, by omega, fun L kl perm so nkl => ?_⟩
    have memL : ∀ x, x ∈ L ↔ kindIn G x := fun x => perm.mem_iff.trans (mem x)
    have lenL : L.length ≤ 60 := by rw [perm.length_eq]; exact lsl
    have s12 := s1.trans s2
    have s3 : Same H2 (upd H2 kl (.lst (L.map V.str))) := same_upd nkl
    have hkl : upd H2 kl (.lst (L.map V.str)) kl = some (.lst (L.map V.str)) := upd_same
    generalize upd H2 kl (.lst (L.map V.str)) = H3 at s3 hkl
    -- the costs, none yet
    intro cd ncd
    have s4 : Same H3 (upd H3 cd (.dT [])) := same_upd ncd
    have hcd0 : upd H3 cd (.dT []) cd = some (.dT []) := upd_same
    generalize upd H3 cd (.dT []) = H4 at s4 hcd0
    have s14 := (s12.trans s3).trans s4
    refine ⟨_, rfl, r, _, rfl, .inl (SqL.of (s14 _ _ hrow)), (row.map V.str).length, rfl, by rw [List.length_map]; exact len, fun sp ws Hb s5 nsp hsp relS => ⟨sp, rfl, ⟨_, SqL.of hsp⟩, ?_⟩⟩
    rw [List.length_map] at relS
    have sHb := s14.trans s5
    have hkb := s5 _ _ (s4 _ _ hkl)
    have hcdb := s5 _ _ hcd0
    have ncdH : H cd = none := (s12.trans s3).free ncd
    have sp_cd : sp ≠ cd := Ne.symm (ne_of_none hcd0 nsp)
    have kl_cd : kl ≠ cd := ne_of_none hkl ncd
    have lws := relS.len
    have shl : (shorter row.length).length ≤ 3721 := by
      rcases shorter_all row.length with z | z <;> omega
    refine for_list (a := sp) (xs := ws) (fun n σ H' => ∃ (v6 v7 v8 : Option V) (C : List (List Key × V)), σ = [some (.ref g), some (.ref t), some (.ref r), some (.ref nl), some (.ref kl), some (.ref cd), v6, v7, v8, none, none, none, none] ∧ (∀ b o, b ≠ cd → Hb b = some o → H' b = some o) ∧ H' cd = some (.dT C) ∧ C.length ≤ n ∧
        ∀ a b, (a, b) ∈ (shorter row.length).take n → ∃ d, valV C (kS a b) = some (.ref d) ∧ Hb d = none ∧ d ≠ cd ∧ KindsA H' d Z row L a b)
      ⟨none, none, none, [], rfl, fun b o _ e => e, hcdb, Nat.le_refl _, fun a b m => by simp at m⟩ (fun n σ H' _ ⟨_, _, _, _, _, but, _⟩ => SqL.of (but _ _ sp_cd hsp)) ?_ ?_
    · rintro n x σ H' hx ⟨v6, v7, v8, C, rfl, but, hcd, Cl, all⟩
      obtain ⟨⟨i, j⟩, hp, a0, rfl, ha0⟩ := relS.get hx
      obtain ⟨ij, jn⟩ := mem_shorter.mp (List.mem_of_getElem? hp)
      have nl' : n < (shorter row.length).length := (List.getElem?_eq_some_iff.mp hp).1
      have a0_cd : a0 ≠ cd := fun z => by rw [z, hcdb] at ha0; cases ha0
      have bH : ∀ b o, H b = some o → H' b = some o := fun b o e => but b o (fun z => by rw [z, ncdH] at e; cases e) (sHb b o e)
      have hZ' : PrA H' t Z := hZ.up (Up.of_same bH)
      have hk' := but _ _ kl_cd hkb
      refine ⟨a0, _, rfl, SqT.of (but _ _ a0_cd ha0), rfl, _, _, rfl, _, _, rfl, rfl, ?_⟩
      refine ⟨_, rfl, _, rfl, _, _, rfl, rfl, _, _, rfl, rfl, _, rfl, ite2 (fun c => ?_) (fun c => ?_)⟩
      · refine ⟨_, rfl, kl, rfl, ⟨_, SqL.of hk'⟩, fun D nD => ?_⟩
        · refine Lc.wk_by (walk_list (K := K) (a := kl) (xs := L.map V.str)) (fun k H2 => ∃ kvs, Same H' H2 ∧ H2 D = some (.dK kvs) ∧ kvs.length ≤ k ∧ (kvs.map (·.1)).Nodup ∧ ∀ s ∈ L.take k, ∃ v, valV kvs (Sum.inr s) = some v ∧ CostV H2 v (some (leafP Z row s i j, 1)))
            ⟨[], same_upd nD, upd_same, Nat.le_refl _, List.nodup_nil, fun s m => by simp at m⟩ (fun k H2 _ ⟨_, s', _⟩ => SqL.of (s' _ _ hk')) ?_ ?_
          · rintro k y Ha Hb' hk2 ⟨kvs, sa, hDa, kla, nda, kva⟩ ⟨rfl, hy⟩
            obtain ⟨sy, hsy, rfl⟩ := str_at hy
            have kL' : k < L.length := (List.getElem?_eq_some_iff.mp hsy).1
            refine ⟨rfl, ?_⟩
            unfold tYes
            simp only [if_true]
            refine ⟨_, rfl, _, rfl, _, rfl, _, rfl, _, rfl, _, rfl, t, r, Z, row, sy, i, j, rfl, hZ'.up (Up.of_same sa), ok, sa _ _ (bH _ _ hrow), ij, jn, len, fun H2 s2' => ?_⟩
            refine ⟨(by show 2 ≤ sizeLine; decide), fun tp ntp => ?_⟩
            have s3' : Same H2 (upd H2 tp (.tup [.int (leafP Z row sy i j), .int 1])) := same_upd ntp
            have htp : upd H2 tp (.tup [.int (leafP Z row sy i j), .int 1]) tp = some (.tup [.int (leafP Z row sy i j), .int 1]) := upd_same
            generalize upd H2 tp (.tup [.int (leafP Z row sy i j), .int 1]) = H3' at s3' htp
            have sa3 := s2'.trans s3'
            have hD3 := sa3 _ _ hDa
            have tD : TupS H3' (upd H3' D (.dK (putK kvs (Sum.inr sy) (.ref tp)))) := fun b xs e => by rw [upd_ne (fun z => by rw [z, hD3] at e; cases e)]; exact e
            refine ⟨kvs, Sum.inr sy, rfl, hD3, million1 (by omega), putK kvs (Sum.inr sy) (.ref tp), same_put (sa.trans sa3) nD, upd_same, ?_, putK_keys.2 nda, fun s hs => ?_⟩
            · have := length_putK kvs (Sum.inr sy) (V.ref tp)
              omega
            · rw [List.take_add_one, hsy] at hs
              rw [valV_put]
              by_cases z : s = sy
              · rw [if_pos (by rw [z])]
                exact ⟨_, rfl, tp, rfl, by rw [z]; exact tD _ _ htp⟩
              · rw [if_neg (fun q => z (Sum.inr.inj q))]
                rcases List.mem_append.mp hs with m | m
                · obtain ⟨v, ev, cv⟩ := kva s m
                  exact ⟨v, ev, (cv.same sa3).tupS tD⟩
                · exact absurd (by simpa using m) z
          · rintro HB ⟨kvs, sB, hDB, kl2, knd2, kv2⟩
            rw [List.length_map, List.take_length] at kv2
            rw [List.length_map] at kl2
            refine ⟨_, rfl, _, rfl, _, rfl, (by show 2 ≤ sizeLine; decide), fun kt nkt => ?_⟩
            have st : Same HB (upd HB kt (.tup [.int (i : Nat), .int (j : Nat)])) := same_upd nkt
            have hkt : upd HB kt (.tup [.int (i : Nat), .int (j : Nat)]) kt = some (.tup ((kS i j).map kV)) := upd_same
            have sC := sB.trans st
            have hcdC := sC _ _ hcd
            have hDC := st _ _ hDB
            have kvC : ∀ s ∈ L, ∃ v, valV kvs (Sum.inr s) = some v ∧ CostV (upd HB kt (.tup [.int (i : Nat), .int (j : Nat)])) v (some (leafP Z row s i j, 1)) := fun s hs => by
              obtain ⟨v, ev, cv⟩ := kv2 s hs
              exact ⟨v, ev, cv.same st⟩
            generalize upd HB kt (.tup [.int (i : Nat), .int (j : Nat)]) = HC at st hkt sC hcdC hDC kvC
            have tC : TupS HC (upd HC cd (.dT (putK C (kS i j) (.ref D)))) := TupS.at_dT hcdC
            have D_cd : D ≠ cd := Ne.symm (ne_of_none hcd nD)
            have nDb : Hb D = none := by
              cases e : Hb D with
              | none => rfl
              | some o => rw [but D o D_cd e] at nD; cases nD
            refine ⟨cd, _, rfl, .inr ⟨C, kS i j, kt, hcdC, rfl, hkt, million1 (by omega), rfl⟩, _, _, _, putK C (kS i j) (.ref D), rfl, fun b o nb e => ?_, upd_same, ?_, fun a b hab => ?_⟩
            · rw [upd_ne nb]
              exact sC _ _ (but b o nb e)
            · have := length_putK C (kS i j) (V.ref D)
              omega
            · rw [List.take_add_one, hp] at hab
              rcases List.mem_append.mp hab with m | m
              · obtain ⟨d, ed, nd, dc, kk, e1, e2, e3, e4⟩ := all a b m
                have ne : kS a b ≠ kS i j := fun z => by
                  obtain ⟨z1, z2⟩ := kS_inj z
                  rw [z1, z2] at m
                  exact shorter_here hp m
                refine ⟨d, by rw [valV_put, if_neg ne]; exact ed, nd, dc, kk, by rw [upd_ne dc]; exact sC _ _ e1, e2, e3, fun s hs => ?_⟩
                obtain ⟨v, ev, cv⟩ := e4 s hs
                exact ⟨v, ev, (cv.same sC).tupS tC⟩
              · cases List.mem_singleton.mp m
                refine ⟨D, by rw [valV_put, if_pos rfl], nDb, D_cd, kvs, by rw [upd_ne D_cd]; exact hDC, by omega, knd2, fun s hs => ?_⟩
                obtain ⟨v, ev, cv⟩ := kvC s hs
                exact ⟨v, ev, cv.tupS tC⟩
      · have c : ¬ ((j : Int) - (i : Int) < 2) := fun z => c (decide_eq_true z)
        have ij2 : i + 2 ≤ j := by omega
        obtain ⟨si, hsi⟩ : ∃ si, row[i]? = some si := ⟨row[i]'(by omega), List.getElem?_eq_getElem (by omega)⟩
        have hri : (row.map V.str)[i]? = some (V.str si) := by rw [List.getElem?_map, hsi]; rfl
        refine ⟨_, rfl, _, rfl, _, rfl, r, _, _, _, rfl, rfl, SqL.of (bH _ _ hrow), atI_nat hri, t, Z, si, rfl, hZ', ok, fun H'' s'' => ?_⟩
        have but := fun b o (nb : b ≠ cd) (e : Hb b = some o) => s'' _ _ (but b o nb e)
        have hcd := s'' _ _ hcd
        have hk' := s'' _ _ hk'
        have all : ∀ a b, (a, b) ∈ (shorter row.length).take n → ∃ d, valV C (kS a b) = some (.ref d) ∧ Hb d = none ∧ d ≠ cd ∧ KindsA H'' d Z row L a b := fun a b m => by
          obtain ⟨d, ed, nd, dc, kk, e1, e2, e3, e4⟩ := all a b m
          refine ⟨d, ed, nd, dc, kk, s'' _ _ e1, e2, e3, fun s hs => ?_⟩
          obtain ⟨v, ev, cv⟩ := e4 s hs
          exact ⟨v, ev, cv.same s''⟩
        obtain ⟨d1, ed1, nd1, dc1, kk1, e11, e12, e13, e14⟩ := all (i + 1) j (shorter_ahead hp (by omega) jn (by omega))
        refine ⟨_, rfl, kl, rfl, ⟨_, SqL.of hk'⟩, fun D nD => ?_⟩
        · refine Lc.wk_by (walk_list (K := K) (a := kl) (xs := L.map V.str)) (fun k H2 => ∃ kvs, Same H'' H2 ∧ H2 D = some (.dK kvs) ∧ kvs.length ≤ k ∧ (kvs.map (·.1)).Nodup ∧ ∀ s ∈ L.take k, ∃ v, valV kvs (Sum.inr s) = some v ∧ CostV H2 v (some (leafP Z row s i j, 1)))
            ⟨[], same_upd nD, upd_same, Nat.le_refl _, List.nodup_nil, fun s m => by simp at m⟩ (fun k H2 _ ⟨_, s', _⟩ => SqL.of (s' _ _ hk')) ?_ ?_
          · rintro k y Ha Hb' hk2 ⟨kvs, sa, hDa, kla, nda, kva⟩ ⟨rfl, hy⟩
            obtain ⟨sy, hsy, rfl⟩ := str_at hy
            have kL' : k < L.length := (List.getElem?_eq_some_iff.mp hsy).1
            obtain ⟨v1, ev1, t1, rfl, ht1⟩ := e14 sy (List.mem_of_getElem? hsy)
            refine ⟨rfl, ?_⟩
            unfold tYes
            simp only [if_true]
            refine ⟨_, rfl, _, rfl, _, rfl, _, rfl, _, _, rfl, rfl, _, rfl, (by show 2 ≤ sizeLine; decide), fun k1 nk1 => ?_⟩
            have sk1 : Same Hb' (upd Hb' k1 (.tup [.int ((i : Nat) + 1), .int (j : Nat)])) := same_upd nk1
            have hk1 : upd Hb' k1 (.tup [.int ((i : Nat) + 1), .int (j : Nat)]) k1 = some (.tup ((kS (i + 1) j).map kV)) := by
              rw [upd_same, show ((i : Nat) : Int) + 1 = ((i + 1 : Nat) : Int) by omega]
              rfl
            have sa1 := sa.trans sk1
            have g1 := DGet.t (k := kS (i + 1) j) (sa1 _ _ hcd) hk1
            rw [ed1] at g1
            have g2 := DGet.k (k := Sum.inr sy) (sa1 _ _ e11)
            rw [ev1] at g2
            refine ⟨cd, .ref d1, rfl, g1, _, rfl, d1, .ref t1, rfl, g2, t1, _, _, _, rfl, rfl, SqT.of (sa1 _ _ ht1), at_of (j := 0) rfl rfl, _, _, rfl, rfl, ?_⟩
            have el : outP Z si + leafP Z row sy (i + 1) j = leafP Z row sy i j := (leafP_more ij2 hsi).symm
            refine ⟨(by show 2 ≤ sizeLine; decide), fun tp ntp => ?_⟩
            generalize upd Hb' k1 (.tup [.int ((i : Nat) + 1), .int (j : Nat)]) = H2 at sk1 ntp sa1
            have s3' : Same H2 (upd H2 tp (.tup [.int (outP Z si + leafP Z row sy (i + 1) j), .int 1])) := same_upd ntp
            have htp : upd H2 tp (.tup [.int (outP Z si + leafP Z row sy (i + 1) j), .int 1]) tp = some (.tup [.int (leafP Z row sy i j), .int 1]) := upd_same.trans (by rw [el])
            generalize upd H2 tp (.tup [.int (outP Z si + leafP Z row sy (i + 1) j), .int 1]) = H3' at s3' htp
            have sa3 := sk1.trans s3'
            have hD3 := sa3 _ _ hDa
            have tD : TupS H3' (upd H3' D (.dK (putK kvs (Sum.inr sy) (.ref tp)))) := fun b xs e => by rw [upd_ne (fun z => by rw [z, hD3] at e; cases e)]; exact e
            refine ⟨kvs, Sum.inr sy, rfl, hD3, million1 (by omega), putK kvs (Sum.inr sy) (.ref tp), same_put (sa.trans sa3) nD, upd_same, ?_, putK_keys.2 nda, fun s hs => ?_⟩
            · have := length_putK kvs (Sum.inr sy) (V.ref tp)
              omega
            · rw [List.take_add_one, hsy] at hs
              rw [valV_put]
              by_cases z : s = sy
              · rw [if_pos (by rw [z])]
                exact ⟨_, rfl, tp, rfl, by rw [z]; exact tD _ _ htp⟩
              · rw [if_neg (fun q => z (Sum.inr.inj q))]
                rcases List.mem_append.mp hs with m | m
                · obtain ⟨v, ev, cv⟩ := kva s m
                  exact ⟨v, ev, (cv.same sa3).tupS tD⟩
                · exact absurd (by simpa using m) z
          · rintro HB ⟨kvs, sB, hDB, kl2, knd2, kv2⟩
            rw [List.length_map, List.take_length] at kv2
            rw [List.length_map] at kl2
            refine ⟨_, rfl, _, rfl, _, rfl, (by show 2 ≤ sizeLine; decide), fun kt nkt => ?_⟩
            have st : Same HB (upd HB kt (.tup [.int (i : Nat), .int (j : Nat)])) := same_upd nkt
            have hkt : upd HB kt (.tup [.int (i : Nat), .int (j : Nat)]) kt = some (.tup ((kS i j).map kV)) := upd_same
            have sC := sB.trans st
            have hcdC := sC _ _ hcd
            have hDC := st _ _ hDB
            have kvC : ∀ s ∈ L, ∃ v, valV kvs (Sum.inr s) = some v ∧ CostV (upd HB kt (.tup [.int (i : Nat), .int (j : Nat)])) v (some (leafP Z row s i j, 1)) := fun s hs => by
              obtain ⟨v, ev, cv⟩ := kv2 s hs
              exact ⟨v, ev, cv.same st⟩
            generalize upd HB kt (.tup [.int (i : Nat), .int (j : Nat)]) = HC at st hkt sC hcdC hDC kvC
            have tC : TupS HC (upd HC cd (.dT (putK C (kS i j) (.ref D)))) := TupS.at_dT hcdC
            have D_cd : D ≠ cd := Ne.symm (ne_of_none hcd nD)
            have nDb : Hb D = none := by
              cases e : Hb D with
              | none => rfl
              | some o => rw [but D o D_cd e] at nD; cases nD
            refine ⟨cd, _, rfl, .inr ⟨C, kS i j, kt, hcdC, rfl, hkt, million1 (by omega), rfl⟩, _, _, _, putK C (kS i j) (.ref D), rfl, fun b o nb e => ?_, upd_same, ?_, fun a b hab => ?_⟩
            · rw [upd_ne nb]
              exact sC _ _ (but b o nb e)
            · have := length_putK C (kS i j) (V.ref D)
              omega
            · rw [List.take_add_one, hp] at hab
              rcases List.mem_append.mp hab with m | m
              · obtain ⟨d, ed, nd, dc, kk, e1, e2, e3, e4⟩ := all a b m
                have ne : kS a b ≠ kS i j := fun z => by
                  obtain ⟨z1, z2⟩ := kS_inj z
                  rw [z1, z2] at m
                  exact shorter_here hp m
                refine ⟨d, by rw [valV_put, if_neg ne]; exact ed, nd, dc, kk, by rw [upd_ne dc]; exact sC _ _ e1, e2, e3, fun s hs => ?_⟩
                obtain ⟨v, ev, cv⟩ := e4 s hs
                exact ⟨v, ev, (cv.same sC).tupS tC⟩
              · cases List.mem_singleton.mp m
                refine ⟨D, by rw [valV_put, if_pos rfl], nDb, D_cd, kvs, by rw [upd_ne D_cd]; exact hDC, by omega, knd2, fun s hs => ?_⟩
                obtain ⟨v, ev, cv⟩ := kvC s hs
                exact ⟨v, ev, cv.tupS tC⟩
    · rintro σ H' ⟨v6, v7, v8, C, rfl, but, hcd, Cl, all⟩
      have bH : Same H H' := fun b o e => but b o (fun z => by rw [z, ncdH] at e; cases e) (sHb b o e)
      refine ⟨_, rfl, q cd C H' bH ncdH hcd fun i j ij jn => ?_⟩
      obtain ⟨d, ed, nd', _, kvs, e1, e2, e3, e4⟩ := all i j (by rw [lws, List.take_length]; exact mem_shorter.mpr ⟨ij, jn⟩)
      exact ⟨d, ed, sHb.free nd', kvs, e1, e2, e3, fun s hs => e4 s ((memL s).mpr hs)⟩
end
end Ld

set_option Elab.async false
set_option linter.all false
set_option maxRecDepth 100000
set_option maxHeartbeats 4000000
/-! The law's own least over the ends. -/
namespace Ld
open PySem PySem.Spec PyProof.Rows L2 Lg Lr Lb
theorem units65 {k : Nat} {A : Around} (h : Room k A) : A.units + 65 < cLine := by
  have := h.un
  omega
section
variable {P : Program} {w : World} {K : PySem.W.Frag} {mg : Str → Option Value} {base : Heap}
theorem scIn : FnScope ["symbol"] ["symbol"] (defScope sLIsName) := ⟨rfl, rfl, rfl, by decide +kernel, rfl, by decide +kernel, by decide +kernel⟩
def spIsName : Sp := fun vs H Q _ => ∃ z : Str, vs = [.str z] ∧ 0 < z.length ∧ z.length ≤ 100 ∧ Q (.bl (isLow z)) H
theorem ok_lisname {f : Addr} {fd : FuncData} (F : Fun K "_law_is_name" "_law_is_name" sLIsName f fd) : FnOk P w K mg base CX0 1 f fd ["symbol"] spIsName := by
  refine F.ok scIn (fun vs H Q E h => ?_) (fun cdv A outer s H vs Q E hr h => ?_)
  · obtain ⟨z, rfl, _⟩ := h
    rfl
  · obtain ⟨z, rfl, pos, len, q⟩ := h
    refine ⟨_, pss_one (ps_ret (pe_cmpR op_in_sign (pe_ix ix_str (pv 0) pe_int (fun _ _ => rfl)) pe_str rfl)), ?_⟩
    obtain ⟨c, cs, e⟩ : ∃ c cs, z.cps.toList = c :: cs := by
      cases q : z.cps.toList with
      | nil =>
        have : z.length = z.cps.toList.length := (Array.length_toList).symm
        rw [q] at this
        rw [this] at pos
        cases pos
      | cons c cs => exact ⟨c, cs, rfl⟩
    refine ⟨_, rfl, z, _, c, rfl, rfl, million0 (by omega), ?_, c, _, rfl, rfl, ?_⟩
    · rw [e]
      exact atI_nat (j := 0) rfl
    · have e2 : isLow z = decide (c ∈ ("abcdefghijklmnopqrstuvwxyz" : Str).cps.toList) := by
        unfold isLow
        rw [e]
      rw [← e2]
      exact q
theorem scLe : FnScope ["grammar", "prices", "row", "found", "rule", "dot", "i", "j", "symbols", "best", "end", "after", "cost"] ["grammar", "prices", "row", "found", "rule", "dot", "i", "j"] (defScope sLeast) := ⟨rfl, rfl, rfl, by decide +kernel, rfl, by decide +kernel, by decide +kernel⟩
def spLeast : Sp := fun vs H Q _ => ∃ (g t r f : Addr) (G : List Rule) (Z : Prc) (row : List Str) (F : List (List Key × V)) (T : Nat → Nat → Ent) (N : Str) (ss : List Str) (rule dot i j : Nat) (kn : Nat → Nat → Option Ent),
  vs = [.ref g, .ref t, .ref r, .ref f, .int rule, .int dot, .int i, .int j] ∧ GraA H g G ∧ GraT G ∧ PrA H t Z ∧ PrcOk Z ∧ H r = some (.lst (row.map V.str)) ∧ row.length ≤ 60 ∧ H f = some (.dT F) ∧ TabK H G row.length F T ∧
  G[rule]? = some (N, ss) ∧ dot ≤ ss.length ∧ i ≤ j ∧ j ≤ row.length ∧ ∀ v o H2, Same H H2 → CostV H2 v o → LeastO (CombC (pbOf G Z row kn) T rule dot i j) o → Q v H2
theorem ok_least {f fL fN : Addr} {fd fdL fdN : FuncData} (F : Fun K "_law_least" "_law_least" sLeast f fd)
    (GL : FnOk P w K mg base CX0 2 fL fdL ["prices", "row", "kind", "i", "j"] spLeaf) (kL : PySem.W.keepIn K (.ref fL) = true) (bL : Binds K fdL ["prices", "row", "kind", "i", "j"] []) (gL : mg "_law_leaf" = some (.ref fL))
    (GN : FnOk P w K mg base CX0 1 fN fdN ["symbol"] spIsName) (kN' : PySem.W.keepIn K (.ref fN) = true) (bN : Binds K fdN ["symbol"] []) (gN : mg "_law_is_name" = some (.ref fN))
    (mr : mg "range" = none) (ml : mg "len" = none) : FnOk P w K mg base CX0 3 f fd ["grammar", "prices", "row", "found", "rule", "dot", "i", "j"] spLeast := by
  refine F.ok scLe (fun vs H Q E h => ?_) (fun cdv A outer s H vs Q E hr h => ?_)
  · obtain ⟨g, t, r, f, G, Z, row, F, T, N, ss, rule, dot, i, j, kn, rfl, _⟩ := h
    rfl
  · obtain ⟨g, t, r, fo, G, Z, row, F, T, N, ss, rule, dot, i, j, kn, rfl, hG, gt, hZ, ok, hrow, len, hf, tab, hrl, hd, ij, jn, q⟩ := h
    have hr1 := hr.mono (show 1 ≤ 2 by decide)
    have hu := units1 hr
    refine ⟨_, pss_cons (ps_set (i := 8) scLe.nd rfl (.inl rfl) (pe_ix ix_tup (pe_ix ix_list (pv 0) (pv 4) (fun _ _ => rfl)) pe_int (fun _ _ => rfl)))
      (pss_cons (ps_if (pt_cmpR op_eq (pv 5) (pe_callB call_len_seq (by rfl) ml PySem.boot_len (pa_cons (pv 8) pa_nil)) (nomark _))
        (pss_one (ps_ret (pe_ifExp (pt_cmpR op_eq (pv 6) (pv 7) (nomark _)) (pe_tup (pa_cons pe_int (pa_cons pe_int pa_nil))) pe_non))) pss_nil)
      (pss_cons (ps_set (i := 9) scLe.nd rfl (.inl rfl) pe_non)
      (pss_cons (ps_for PassesOwn.never rfl (pi_range2 (by rfl) mr (pa_cons (pv 6) (pa_cons (pe_op op_add (pv 7) pe_int) pa_nil))) (pg_name (i := 10) scLe.nd rfl (.inl rfl))
        (pss_cons (ps_set (i := 11) scLe.nd rfl (.inl rfl) (pe_dget hu (pe_dget hu (pv 3) (pe_tup (pa_cons (pv 10) (pa_cons (pv 7) pa_nil))) (fun _ _ => rfl)) (pe_tup (pa_cons pe_str (pa_cons (pv 4) (pa_cons (pe_op op_add (pv 5) pe_int) pa_nil)))) (fun _ _ => rfl)))
        (pss_cons (ps_set (i := 12) scLe.nd rfl (.inl rfl) (pe_tup (pa_cons (pe_call GL hr (by rfl) gL kL bL .nil pass0 (pa_cons (pv 1) (pa_cons (pv 2) (pa_cons (pe_ix ix_list (pv 8) (pv 5) (fun _ _ => rfl)) (pa_cons (pv 6) (pa_cons (pv 10) pa_nil)))))) (pa_cons pe_int pa_nil))))
        (pss_cons (ps_if (pt_val (pe_call GN hr1 (by rfl) gN kN' bN .nil pass0 (pa_cons (pe_ix ix_list (pv 8) (pv 5) (fun _ _ => rfl)) pa_nil)))
          (pss_one (ps_set (i := 12) scLe.nd rfl (.inl rfl) (pe_dget hu (pe_dget hu (pv 3) (pe_tup (pa_cons (pv 6) (pa_cons (pv 10) pa_nil))) (fun _ _ => rfl)) (pe_tup (pa_cons pe_str (pa_cons (pe_ix ix_list (pv 8) (pv 5) (fun _ _ => rfl)) pa_nil))) (fun _ _ => rfl)))) pss_nil)
        (pss_one (ps_if (PW.pt (pw_and (pt_cmpR op_notN (pv 11) pe_non (nomark _)) (pw_and1 (pt_cmpR op_notN (pv 12) pe_non (nomark _)))))
          (pss_cons (ps_set (i := 12) scLe.nd rfl (.inl rfl) (pe_tup (pa_cons (pe_op op_add (pe_ix ix_tup (pv 12) pe_int (fun _ _ => rfl)) (pe_ix ix_tup (pv 11) pe_int (fun _ _ => rfl))) (pa_cons (pe_op op_add (pe_ix ix_tup (pv 12) pe_int (fun _ _ => rfl)) (pe_ix ix_tup (pv 11) pe_int (fun _ _ => rfl))) pa_nil))))
          (pss_one (ps_if (PW.pt (pw_or (pt_cmpR op_isN (pv 9) pe_non (nomark _)) (pw_or1 (pt_cmpR (op_ltD (units65 hr)) (pv 12) (pv 9) (nomark _))))) (pss_one (ps_set (i := 9) scLe.nd rfl (.inl rfl) (pv 12))) pss_nil))) pss_nil))))))
      (pss_one (ps_ret (pv 9)))))), ?_⟩
    obtain ⟨vs, hg, gr⟩ := id hG
    obtain ⟨v0, hv0, t0, l0, rfl, h1, h2⟩ : ∃ v0, vs[rule]? = some v0 ∧ RuleA H v0 (N, ss) := by
      have hlt : rule < vs.length := by
        rw [gr.len]
        exact (List.getElem?_eq_some_iff.mp hrl).1
      obtain ⟨x, hx⟩ : ∃ x, vs[rule]? = some x := ⟨_, List.getElem?_eq_getElem hlt⟩
      obtain ⟨q2, hq2, ra⟩ := gr.get hx
      rw [hrl] at hq2
      cases hq2
      exact ⟨x, hx, ra⟩
    have inG : (N, ss) ∈ G := List.mem_of_getElem? hrl
    have lss := gt.few _ inG
    refine ⟨_, rfl, _, rfl, g, _, _, _, rfl, rfl, SqL.of hg, at_of (j := rule) rfl hv0, t0, _, _, _, rfl, rfl, SqT.of h1, at_of (j := 1) rfl rfl, ?_⟩
    refine ⟨_, rfl, _, rfl, l0, _, rfl, .inl (SqL.of h2), rfl, _, rfl, ite2 (fun c => ?_) (fun c => ?_)⟩
    · have e : dot = ss.length := by
        have := V.int.inj (of_decide_eq_true c)
        rw [List.length_map] at this
        exact Int.ofNat_inj.mp this
      have full := comb_full (B := pbOf G Z row kn) (T := T) (i := i) (j := j) hrl
      rw [← e] at full
      refine ⟨_, rfl, _, rfl, rfl, _, rfl, ite2 (fun c => ?_) (fun c => ?_)⟩
      · have e2 : i = j := Int.ofNat_inj.mp (V.int.inj (of_decide_eq_true c))
        rw [if_pos e2] at full
        refine ⟨(by show 2 ≤ sizeLine; decide), fun p np => ?_⟩
        exact q _ (some (0, 0)) _ (same_upd np) ⟨p, rfl, upd_same⟩ full
      · have e2 : ¬ i = j := fun z => c (by rw [z]; exact decide_eq_true rfl)
        rw [if_neg e2] at full
        exact q _ _ _ (Same.refl H) (show CostV H .non none from rfl) full
    · have lt : dot < ss.length := by
        rcases Nat.lt_or_eq_of_le hd with z | z
        · exact z
        · refine (c ?_).elim
          rw [z, List.length_map]
          exact decide_eq_true rfl
      obtain ⟨k, hk⟩ : ∃ k, ss[dot]? = some k := ⟨_, List.getElem?_eq_getElem lt⟩
      have inS : k ∈ ss := List.mem_of_getElem? hk
      have gk := gt.some_ _ inG k inS
      have hat : (ss.map V.str)[dot]? = some (.str k) := by
        rw [List.getElem?_map, hk]
        rfl
      refine ⟨_, rfl, _, rfl, _, _, rfl, rfl, i, ((j : Int) + 1), rfl, ⟨by omega, by omega, by omega, by omega⟩, ?_⟩
      have en : ((j : Int) + 1 - (i : Int)).toNat = j + 1 - i := by omega
      rw [en]
      refine for_range (lo := i) (n := j + 1 - i) (fun n σ H' => ∃ v10 v11 v12 bv bo, σ = [some (.ref g), some (.ref t), some (.ref r), some (.ref fo), some (.int rule), some (.int dot), some (.int i), some (.int j), some (.ref l0), some bv, v10, v11, v12] ∧ Same H H' ∧ CostV H' bv bo ∧ LeastO (UpC (pbOf G Z row kn) T k rule dot i j (i + n)) bo)
        ⟨none, none, none, .non, none, rfl, Same.refl H, rfl, upC_start⟩ ?_ ?_
      · rintro n σ H1 hn ⟨v10, v11, v12, bv, bo, rfl, s1, hb, least⟩
        have ee : (i : Int) + (n : Int) = ((i + n : Nat) : Int) := by omega
        rw [ee]
        have step := upC_step (Nat.le_add_right i n) least
        rw [Nat.add_assoc] at step
        generalize eE : i + n = e at step
        have h1e : i ≤ e := by omega
        have h2e : e ≤ j := by omega
        -- after
        obtain ⟨d1, kv1, a1, a2, a3⟩ := tab.at_ e j h2e jn
        obtain ⟨av, b1, b2⟩ := a3.rs rule (dot + 1) N ss hrl (by omega)
        refine ⟨_, rfl, _, rfl, _, rfl, (by show 2 ≤ sizeLine; decide), fun p np => ?_⟩
        have s2 : Same H1 (upd H1 p (.tup [.int e, .int j])) := same_upd np
        have s02 := s1.trans s2
        have g1 := DGet.t (k := kS e j) (s02 _ _ hf) (b := p) upd_same
        rw [a1] at g1
        refine ⟨fo, _, rfl, g1, _, rfl, _, rfl, _, _, rfl, rfl, (by show 3 ≤ sizeLine; decide), fun p2 np2 => ?_⟩
        have s3 := s02.trans (same_upd np2 (o := .tup [.str "rest", .int rule, .int ((dot : Int) + 1)]))
        have g2 := DGet.t (k := kR rule (dot + 1)) (s3 _ _ a2) (b := p2) upd_same
        rw [b1] at g2
        refine ⟨d1, av, rfl, g2, ?_⟩
        have hav := b2.up (Up.of_same s3)
        have hb3 := hb.up (Up.of_same (s2.trans (same_upd np2 (o := .tup [.str "rest", .int rule, .int ((dot : Int) + 1)]))))
        generalize upd (upd H1 p (.tup [.int e, .int j])) p2 (.tup [.str "rest", .int rule, .int ((dot : Int) + 1)]) = H3 at s3 hav hb3
        clear g1 g2 s02 s2 np2 np hb s1
        -- cost
        refine ⟨_, rfl, _, rfl, _, rfl, _, rfl, l0, _, _, _, rfl, rfl, SqL.of (s3 _ _ h2), at_of (j := dot) rfl hat, _, rfl, _, rfl, t, r, Z, row, k, i, e, rfl, hZ.up (Up.of_same s3), ok, s3 _ _ hrow, h1e, by omega, len, fun H4 s4 => ⟨(by show 2 ≤ sizeLine; decide), fun p3 np3 => ?_⟩⟩
        have s5 : Same H3 (upd H4 p3 (.tup [.int (leafP Z row k i e), .int 1])) := s4.trans (same_upd np3)
        have hc5 : CostV (upd H4 p3 (.tup [.int (leafP Z row k i e), .int 1])) (.ref p3) (some (leafP Z row k i e, 1)) := ⟨p3, rfl, upd_same⟩
        have hav5 := hav.up (Up.of_same s5)
        have hb5 := hb3.up (Up.of_same s5)
        have s05 := s3.trans s5
        generalize upd H4 p3 (.tup [.int (leafP Z row k i e), .int 1]) = H5 at s5 hc5 hav5 hb5 s05
        clear hav hb3 s5 s3
        refine ⟨_, rfl, _, rfl, l0, _, _, _, rfl, rfl, SqL.of (s05 _ _ h2), at_of (j := dot) rfl hat, k, rfl, gk.1, gk.2, _, rfl, ?_⟩
        by_cases low : isLow k = true
        · rw [low]
          refine iteT ?_
          obtain ⟨q3, hq3, eq3⟩ := gt.name _ inG k inS low
          obtain ⟨d2, kv2, c1, c2, c3⟩ := tab.at_ i e h1e (Nat.le_trans h2e jn)
          obtain ⟨cv, k1, k2⟩ := c3.nm k ⟨q3, hq3, eq3⟩
          refine ⟨_, rfl, _, rfl, _, rfl, (by show 2 ≤ sizeLine; decide), fun p4 np4 => ?_⟩
          have s6 : Same H5 (upd H5 p4 (.tup [.int i, .int e])) := same_upd np4
          have s06 := s05.trans s6
          have g3 := DGet.t (k := kS i e) (s06 _ _ hf) (b := p4) upd_same
          rw [c1] at g3
          refine ⟨fo, _, rfl, g3, _, rfl, _, rfl, l0, _, _, _, rfl, rfl, SqL.of (s06 _ _ h2), at_of (j := dot) rfl hat, (by show 2 ≤ sizeLine; decide), fun p5 np5 => ?_⟩
          have s7 := s6.trans (same_upd np5 (o := .tup [.str "name", .str k]))
          have s07 := s05.trans s7
          have g4 := DGet.t (k := kN k) (s07 _ _ c2) (b := p5) upd_same
          rw [k1] at g4
          refine ⟨d2, cv, rfl, g4, ?_⟩
          have hc7 := k2.up (Up.of_same s07)
          have hav7 := hav5.up (Up.of_same s7)
          have hb7 := hb5.up (Up.of_same s7)
          have ehd : (T i e).nm k = headC (pbOf G Z row kn) T k i e := by
            unfold headC
            rw [if_pos (show (pbOf G Z row kn).isN k = true from low)]
          rw [ehd] at hc7
          show _
          generalize upd (upd H5 p4 (.tup [.int i, .int e])) p5 (.tup [.str "name", .str k]) = H7 at s07 hc7 hav7 hb7
          clear g3 g4 s7 s06 s6 hc5 hav5 hb5 np4 np5
          cases eo : (T e j).rs rule (dot + 1) with
          | none =>
            rw [eo] at hav7
            obtain rfl : av = .non := hav7
            have eE : endC (pbOf G Z row kn) T k rule dot i j e = none := by
              unfold endC
              rw [eo]
              split
              · rename_i z
                cases z
              · rfl
            rw [eE] at step
            refine ⟨_, rfl, rfl, _, rfl, iteF ⟨_, _, _, bv, bo, rfl, s07, hb7, ?_⟩⟩
            cases bo <;> exact step
          | some b =>
            rw [eo] at hav7
            obtain ⟨tb, rfl, htb⟩ := hav7
            refine ⟨_, rfl, rfl, _, rfl, iteT ⟨_, rfl, rfl, _, rfl, ?_⟩⟩
            cases eh : headC (pbOf G Z row kn) T k i e with
            | none =>
              have eE : endC (pbOf G Z row kn) T k rule dot i j e = none := by
                unfold endC
                rw [eh]
              rw [eE] at step
              rw [eh] at hc7
              obtain rfl : cv = .non := hc7
              refine iteF ⟨_, _, _, bv, bo, rfl, s07, hb7, ?_⟩
              cases bo <;> exact step
            | some a =>
              have eE : endC (pbOf G Z row kn) T k rule dot i j e = some (a.1 + b.1, a.2 + b.2) := by
                unfold endC
                rw [eh, eo]
              rw [eE] at step
              rw [eh] at hc7
              obtain ⟨ta, rfl, hta⟩ := hc7
              refine iteT ?_
              refine ⟨_, rfl, ta, _, _, _, rfl, rfl, SqT.of hta, at_of (j := 0) rfl rfl, _, rfl, tb, _, _, _, rfl, rfl, SqT.of htb, at_of (j := 0) rfl rfl, _, _, rfl, rfl, ?_⟩
              refine ⟨_, rfl, ta, _, _, _, rfl, rfl, SqT.of hta, at_of (j := 1) rfl rfl, _, rfl, tb, _, _, _, rfl, rfl, SqT.of htb, at_of (j := 1) rfl rfl, _, _, rfl, rfl, ?_⟩
              refine ⟨(by show 2 ≤ sizeLine; decide), fun p9 np9 => ?_⟩
              have s9 : Same H7 (upd H7 p9 (.tup [.int (a.1 + b.1), .int (a.2 + b.2)])) := same_upd np9
              have hp9 : CostV (upd H7 p9 (.tup [.int (a.1 + b.1), .int (a.2 + b.2)])) (.ref p9) (some (a.1 + b.1, a.2 + b.2)) := ⟨p9, rfl, upd_same⟩
              have hb9 := hb7.up (Up.of_same s9)
              have sA := s07.trans s9
              show _
              generalize upd H7 p9 (.tup [.int (a.1 + b.1), .int (a.2 + b.2)]) = H9 at hp9 hb9 sA
              cases bo with
              | none =>
                obtain rfl : bv = .non := hb9
                exact ⟨_, rfl, rfl, _, rfl, iteT ⟨_, rfl, _, _, _, _, some (a.1 + b.1, a.2 + b.2), rfl, sA, hp9, step⟩⟩
              | some b0 =>
                obtain ⟨t9, rfl, ht9⟩ := id hb9
                refine ⟨_, rfl, rfl, _, rfl, iteF ⟨_, rfl, _, rfl, cD (a.1 + b.1, a.2 + b.2), cD b0, hp9.dp, hb9.dp, cD_alike _ _, (fun z => by cases z), (by simp [cD, PyData.depth, PyData.depthAll]), _, rfl, ?_⟩⟩
                rw [cost_lt]
                unfold better at step
                dsimp only at step ⊢
                by_cases lt : a.1 + b.1 < b0.1 ∨ (a.1 + b.1 = b0.1 ∧ a.2 + b.2 < b0.2)
                · rw [if_pos lt] at step
                  rw [decide_eq_true lt]
                  exact iteT ⟨_, rfl, _, _, _, _, some (a.1 + b.1, a.2 + b.2), rfl, sA, hp9, step⟩
                · rw [if_neg lt] at step
                  rw [decide_eq_false lt]
                  exact iteF ⟨_, _, _, _, some b0, rfl, sA, hb9, step⟩
        · rw [Bool.not_eq_true] at low
          rw [low]
          refine iteF ?_
          have low : ¬ isLow k = true := by rw [low]; exact Bool.false_ne_true
          have ehd : some (leafP Z row k i e, (1 : Int)) = headC (pbOf G Z row kn) T k i e := by
            unfold headC
            rw [if_neg (show ¬ (pbOf G Z row kn).isN k = true from low)]
            rfl
          rw [ehd] at hc5
          cases eo : (T e j).rs rule (dot + 1) with
          | none =>
            rw [eo] at hav5
            obtain rfl : av = .non := hav5
            have eE : endC (pbOf G Z row kn) T k rule dot i j e = none := by
              unfold endC
              rw [eo]
              split
              · rename_i z
                cases z
              · rfl
            rw [eE] at step
            refine ⟨_, rfl, rfl, _, rfl, iteF ⟨_, _, _, bv, bo, rfl, s05, hb5, ?_⟩⟩
            cases bo <;> exact step
          | some b =>
            rw [eo] at hav5
            obtain ⟨tb, rfl, htb⟩ := hav5
            refine ⟨_, rfl, rfl, _, rfl, iteT ⟨_, rfl, rfl, _, rfl, ?_⟩⟩
            cases eh : headC (pbOf G Z row kn) T k i e with
            | none =>
              have eE : endC (pbOf G Z row kn) T k rule dot i j e = none := by
                unfold endC
                rw [eh]
              rw [eE] at step
              unfold headC at eh
              rw [if_neg (show ¬ (pbOf G Z row kn).isN k = true from low)] at eh
              cases eh
            | some a =>
              have eE : endC (pbOf G Z row kn) T k rule dot i j e = some (a.1 + b.1, a.2 + b.2) := by
                unfold endC
                rw [eh, eo]
              rw [eE] at step
              rw [eh] at hc5
              obtain ⟨ta, eta, hta⟩ := hc5
              cases eta
              refine iteT ?_
              refine ⟨_, rfl, p3, _, _, _, rfl, rfl, SqT.of hta, at_of (j := 0) rfl rfl, _, rfl, tb, _, _, _, rfl, rfl, SqT.of htb, at_of (j := 0) rfl rfl, _, _, rfl, rfl, ?_⟩
              refine ⟨_, rfl, p3, _, _, _, rfl, rfl, SqT.of hta, at_of (j := 1) rfl rfl, _, rfl, tb, _, _, _, rfl, rfl, SqT.of htb, at_of (j := 1) rfl rfl, _, _, rfl, rfl, ?_⟩
              refine ⟨(by show 2 ≤ sizeLine; decide), fun p9 np9 => ?_⟩
              have s9 : Same H5 (upd H5 p9 (.tup [.int (a.1 + b.1), .int (a.2 + b.2)])) := same_upd np9
              have hp9 : CostV (upd H5 p9 (.tup [.int (a.1 + b.1), .int (a.2 + b.2)])) (.ref p9) (some (a.1 + b.1, a.2 + b.2)) := ⟨p9, rfl, upd_same⟩
              have hb9 := hb5.up (Up.of_same s9)
              have sA := s05.trans s9
              show _
              generalize upd H5 p9 (.tup [.int (a.1 + b.1), .int (a.2 + b.2)]) = H9 at hp9 hb9 sA
              cases bo with
              | none =>
                obtain rfl : bv = .non := hb9
                exact ⟨_, rfl, rfl, _, rfl, iteT ⟨_, rfl, _, _, _, _, some (a.1 + b.1, a.2 + b.2), rfl, sA, hp9, step⟩⟩
              | some b0 =>
                obtain ⟨t9, rfl, ht9⟩ := id hb9
                refine ⟨_, rfl, rfl, _, rfl, iteF ⟨_, rfl, _, rfl, cD (a.1 + b.1, a.2 + b.2), cD b0, hp9.dp, hb9.dp, cD_alike _ _, (fun z => by cases z), (by simp [cD, PyData.depth, PyData.depthAll]), _, rfl, ?_⟩⟩
                rw [cost_lt]
                unfold better at step
                dsimp only at step ⊢
                by_cases lt : a.1 + b.1 < b0.1 ∨ (a.1 + b.1 = b0.1 ∧ a.2 + b.2 < b0.2)
                · rw [if_pos lt] at step
                  rw [decide_eq_true lt]
                  exact iteT ⟨_, rfl, _, _, _, _, some (a.1 + b.1, a.2 + b.2), rfl, sA, hp9, step⟩
                · rw [if_neg lt] at step
                  rw [decide_eq_false lt]
                  exact iteF ⟨_, _, _, _, some b0, rfl, sA, hb9, step⟩
      · rintro σ H2 ⟨v10, v11, v12, bv, bo, rfl, s2, hb, least⟩
        rw [show i + (j + 1 - i) = j + 1 from by omega] at least
        exact ⟨bv, rfl, q _ _ _ s2 hb (upC_end hrl hk least)⟩
end
end Ld

set_option Elab.async false
set_option linter.all false
set_option maxRecDepth 100000
set_option maxHeartbeats 4000000
/-! The law's own empty table. -/
namespace Ld
open PySem PySem.Spec PyProof.Rows L2 Lg Lr Lb
section
variable {P : Program} {w : World} {K : PySem.W.Frag} {mg : Str → Option Value} {base : Heap}
theorem scSt : FnScope ["grammar", "row", "found", "i", "j", "rule", "dot"] ["grammar", "row"] (defScope sStart) := ⟨rfl, rfl, rfl, by decide +kernel, rfl, by decide +kernel, by decide +kernel⟩
def spStart : Sp := fun vs H Q _ => ∃ (g r : Addr) (G : List Rule) (row : List Str), vs = [.ref g, .ref r] ∧ GraA H g G ∧ GraT G ∧ H r = some (.lst (row.map V.str)) ∧ row.length ≤ 60 ∧
  ∀ (f : Addr) (H2 : Hp) (F : List (List Key × V)), Same H H2 → H f = none → H2 f = some (.dT F) → TabK H2 G row.length F (fun _ _ => ent0) → (∀ p ∈ F, ∃ d, p.2 = .ref d ∧ H d = none ∧ d ≠ f) → F.length ≤ 4000 → Q (.ref f) H2
/-- while the entries of one stretch are made -/
structure StI (G : List Rule) (H : Hp) (fo d : Addr) (D : Nat → Nat → Prop) (F F1 : List (List Key × V)) (DK : List Key → Prop) (n : Nat) (H2 : Hp) : Prop where
  same : Same H H2
  fo : H2 fo = some (.dT F1)
  tab : TabD H2 G D F
  ent : ∃ kvs, H2 d = some (.dT kvs) ∧ NonK DK kvs ∧ kvs.length ≤ n
theorem StI.put {G : List Rule} {H H2 : Hp} {fo d : Addr} {D : Nat → Nat → Prop} {F F1 : List (List Key × V)} {DK DK2 : List Key → Prop} {n : Nat} (h : StI G H fo d D F F1 DK n H2) (fd : fo ≠ d) (nd : H d = none) (out : ∀ p ∈ F, p.2 ≠ .ref d) {H3 : Hp} (s : Same H2 H3) {kvs : List (List Key × V)}
    (hk : H2 d = some (.dT kvs)) (nk : NonK DK kvs) (len : kvs.length ≤ n) {k : List Key} (iff : ∀ x, DK2 x ↔ DK x ∨ x = k) : StI G H fo d D F F1 DK2 (n + 1) (upd H3 d (.dT (putK kvs k .non))) := by
  have b : But d H2 (upd H3 d (.dT (putK kvs k .non))) := (But.of_same s).upd
  refine ⟨same_put (h.same.trans s) nd, b _ _ fd h.fo, h.tab.but hk out b, _, upd_same, nk.put iff, Nat.le_trans (length_putK _ _ _) (Nat.succ_le_succ len)⟩
theorem ok_start {f : Addr} {fd : FuncData} (F : Fun K "_law_start" "_law_start" sStart f fd) (mr : mg "range" = none) (ml : mg "len" = none) : FnOk P w K mg base CX0 1 f fd ["grammar", "row"] spStart := by
  refine F.ok scSt (fun vs H Q E h => ?_) (fun cdv A outer s H vs Q E hr h => ?_)
  · obtain ⟨g, r, G, row, rfl, _⟩ := h
    rfl
  · obtain ⟨g, r, G, row, rfl, hG, gt, hrow, len, q⟩ := h
    have hu := units1 hr
    refine ⟨_, pss_cons (ps_set (i := 2) scSt.nd rfl (.inl rfl) pe_dnewT)
      (pss_cons (ps_for PassesOwn.never rfl (pi_range1 rfl mr (pa_cons (pe_op op_add (pe_callB call_len_seq (by rfl) ml PySem.boot_len (pa_cons (pv 1) pa_nil)) pe_int) pa_nil)) (pg_name (i := 3) scSt.nd rfl (.inl rfl))
        (pss_one (ps_for PassesOwn.never rfl (pi_range2 (by rfl) mr (pa_cons (pv 3) (pa_cons (pe_op op_add (pe_callB call_len_seq (by rfl) ml PySem.boot_len (pa_cons (pv 1) pa_nil)) pe_int) pa_nil))) (pg_name (i := 4) scSt.nd rfl (.inl rfl))
          (pss_cons (ps_dput hu (pv 2) (pe_tup (pa_cons (pv 3) (pa_cons (pv 4) pa_nil))) pe_dnewT (by rfl))
          (pss_one (ps_for PassesOwn.never rfl (pi_range1 rfl mr (pa_cons (pe_callB call_len_seq (by rfl) ml PySem.boot_len (pa_cons (pv 0) pa_nil)) pa_nil)) (pg_name (i := 5) scSt.nd rfl (.inl rfl))
            (pss_cons (ps_dput hu (pe_dget hu (pv 2) (pe_tup (pa_cons (pv 3) (pa_cons (pv 4) pa_nil))) (fun _ _ => rfl)) (pe_tup (pa_cons pe_str (pa_cons (pe_ix ix_tup (pe_ix ix_list (pv 0) (pv 5) (fun _ _ => rfl)) pe_int (fun _ _ => rfl)) pa_nil))) pe_non (by rfl))
            (pss_one (ps_for PassesOwn.never rfl (pi_range1 rfl mr (pa_cons (pe_op op_add (pe_callB call_len_seq (by rfl) ml PySem.boot_len (pa_cons (pe_ix ix_tup (pe_ix ix_list (pv 0) (pv 5) (fun _ _ => rfl)) pe_int (fun _ _ => rfl)) pa_nil)) pe_int) pa_nil)) (pg_name (i := 6) scSt.nd rfl (.inl rfl))
              (pss_one (ps_dput hu (pe_dget hu (pv 2) (pe_tup (pa_cons (pv 3) (pa_cons (pv 4) pa_nil))) (fun _ _ => rfl)) (pe_tup (pa_cons pe_str (pa_cons (pv 5) (pa_cons (pv 6) pa_nil)))) pe_non (by rfl))))))))))))
      (pss_one (ps_ret (pv 2)))), ?_⟩
    obtain ⟨vs, hg, gr⟩ := id hG
    have lvs : (vs.length : Int) = (G.length : Int) := by rw [gr.len]
    have lG := gt.rules
    intro fo nfo
    have s0 : Same H (upd H fo (.dT [])) := same_upd nfo
    refine ⟨_, rfl, r, _, rfl, .inl (SqL.of (s0 _ _ hrow)), _, _, rfl, rfl, _, rfl, by rw [List.length_map]; omega, by rw [List.length_map]; omega, ?_⟩
    have en : (((row.map V.str).length : Int) + 1).toNat = row.length + 1 := by
      rw [List.length_map]
      omega
    rw [en]
    refine for_range (lo := 0) (n := row.length + 1) (fun i σ H' => ∃ v3 v4 v5 v6 F, σ = [some (.ref g), some (.ref r), some (.ref fo), v3, v4, v5, v6] ∧ Same H H' ∧ H' fo = some (.dT F) ∧ TabD H' G (fun a b => a < i ∧ a ≤ b ∧ b ≤ row.length) F ∧ (∀ p ∈ F, ∃ d, p.2 = .ref d ∧ H d = none ∧ d ≠ fo) ∧ F.length ≤ 62 * i)
      ⟨none, none, none, none, [], rfl, s0, upd_same, TabD.start (fun a b z => absurd z.1 (Nat.not_lt_zero a)), (fun _ m => nomatch m), Nat.le_refl _⟩ ?_ ?_
    · rintro i σ H1 hi ⟨v3, v4, v5, v6, F, rfl, s1, hf1, tab1, new1, len1⟩
      rw [Int.zero_add]
      refine ⟨_, rfl, _, rfl, r, _, rfl, .inl (SqL.of (s1 _ _ hrow)), _, _, rfl, rfl, i, _, rfl, ⟨by omega, by omega, by rw [List.length_map]; omega, by rw [List.length_map]; omega⟩, ?_⟩
      have en2 : (((row.map V.str).length : Int) + 1 - (i : Int)).toNat = row.length + 1 - i := by
        rw [List.length_map]
        omega
      rw [en2]
      refine for_range (lo := i) (n := row.length + 1 - i) (fun m σ H' => ∃ v4 v5 v6 F, σ = [some (.ref g), some (.ref r), some (.ref fo), some (.int i), v4, v5, v6] ∧ Same H H' ∧ H' fo = some (.dT F) ∧ TabD H' G (fun a b => (a < i ∧ a ≤ b ∧ b ≤ row.length) ∨ (a = i ∧ i ≤ b ∧ b < i + m)) F ∧ (∀ p ∈ F, ∃ d, p.2 = .ref d ∧ H d = none ∧ d ≠ fo) ∧ F.length ≤ 62 * i + m)
        ⟨v4, v5, v6, F, rfl, s1, hf1, tab1.iff (fun a b => by omega), new1, len1⟩ ?_ ?_
      · rintro m σ H2 hm ⟨v4, v5, v6, F, rfl, s2, hf2, tab2, new2, len2⟩
        have ej : (i : Int) + (m : Int) = ((i + m : Nat) : Int) := by omega
        rw [ej]
        generalize eJ : i + m = j at ej tab2
        intro d nd
        have sd : Same H2 (upd H2 d (.dT [])) := same_upd nd
        have hd0 : upd H2 d (.dT []) d = some (.dT []) := upd_same
        have nfd : fo ≠ d := ne_of_none hf2 nd
        have nd0 : H d = none := s2.free nd
        refine ⟨_, rfl, _, rfl, _, rfl, (by show 2 ≤ sizeLine; decide), fun p np => ?_⟩
        have sp := sd.trans (same_upd np (o := .tup [.int i, .int j]))
        have hdp : upd (upd H2 d (.dT [])) p (.tup [.int i, .int j]) d = some (.dT []) := by
          rw [upd_ne (ne_of_none hd0 np)]
          exact hd0
        have out : ∀ q ∈ F, q.2 ≠ .ref d := fun x hx z => by
          obtain ⟨c, kv, e1, e2⟩ := tab2.live x hx
          rw [e1] at z
          cases z
          rw [nd] at e2
          cases e2
        have outf : ∀ q ∈ F, q.2 ≠ .ref fo := fun x hx z => by
          obtain ⟨c, e1, _, ne⟩ := new2 x hx
          rw [e1] at z
          cases z
          exact ne rfl
        refine ⟨fo, _, rfl, DPut.t (k := kS i j) (sp _ _ hf2) upd_same (million1 (by omega)), ?_⟩
        have b0 : But fo H2 (upd (upd (upd H2 d (.dT [])) p (.tup [.int i, .int j])) fo (.dT (putK F (kS i j) (.ref d)))) := (But.of_same sp).upd
        have st0 : StI G H fo d (fun a b => (a < i ∧ a ≤ b ∧ b ≤ row.length) ∨ (a = i ∧ i ≤ b ∧ b < j)) F (putK F (kS i j) (.ref d)) (KeyD G 0 0 0) 0 (upd (upd (upd H2 d (.dT [])) p (.tup [.int i, .int j])) fo (.dT (putK F (kS i j) (.ref d)))) :=
          ⟨same_put (s2.trans sp) nfo, upd_same, tab2.but hf2 outf b0, [], by rw [upd_ne (Ne.symm nfd)]; exact hdp, NonK.start (keyD_start G), Nat.le_refl _⟩
        generalize upd (upd (upd H2 d (.dT [])) p (.tup [.int i, .int j])) fo (.dT (putK F (kS i j) (.ref d))) = H3 at st0
        have at_d : valV (putK F (kS i j) (.ref d)) (kS i j) = some (.ref d) := by rw [valV_put, if_pos rfl]
        clear b0 hdp sp np hd0 sd
        refine ⟨_, rfl, g, _, rfl, .inl (SqL.of (st0.same _ _ hg)), _, rfl, by rw [lvs]; omega, by rw [lvs]; omega, ?_⟩
        rw [show ((vs.length : Int)).toNat = G.length from by omega]
        refine for_range (lo := 0) (n := G.length) (fun ρ σ H' => ∃ v5 v6, σ = [some (.ref g), some (.ref r), some (.ref fo), some (.int i), some (.int j), v5, v6] ∧ StI G H fo d (fun a b => (a < i ∧ a ≤ b ∧ b ≤ row.length) ∨ (a = i ∧ i ≤ b ∧ b < j)) F (putK F (kS i j) (.ref d)) (KeyD G ρ ρ 0) (22 * ρ) H') ⟨v5, v6, rfl, st0⟩ ?_ ?_
        · rintro ρ σ H4 hρ ⟨v5, v6, rfl, st⟩
          rw [Int.zero_add]
          obtain ⟨⟨N, ss⟩, hrl⟩ : ∃ x, G[ρ]? = some x := ⟨_, List.getElem?_eq_getElem hρ⟩
          obtain ⟨v0, hv0, t0, l0, rfl, h1, h2⟩ : ∃ v0, vs[ρ]? = some v0 ∧ RuleA H v0 (N, ss) := by
            obtain ⟨x, hx⟩ : ∃ x, vs[ρ]? = some x := ⟨_, List.getElem?_eq_getElem (by rw [gr.len]; exact hρ)⟩
            obtain ⟨q2, hq2, ra⟩ := gr.get hx
            rw [hrl] at hq2
            cases hq2
            exact ⟨x, hx, ra⟩
          have lss : ss.length ≤ 20 := gt.few _ (List.mem_of_getElem? hrl)
          -- the name
          obtain ⟨kvs, hk, nk, lk⟩ := st.ent
          refine ⟨_, rfl, _, rfl, _, rfl, (by show 2 ≤ sizeLine; decide), fun p np => ?_⟩
          have s5 : Same H4 (upd H4 p (.tup [.int i, .int j])) := same_upd np
          have g1 := DGet.t (k := kS i j) (s5 _ _ st.fo) (b := p) upd_same
          rw [at_d] at g1
          refine ⟨fo, _, rfl, g1, _, rfl, _, rfl, g, _, _, _, rfl, rfl, SqL.of (s5 _ _ (st.same _ _ hg)), at_of (j := ρ) rfl hv0, t0, _, _, _, rfl, rfl, SqT.of (s5 _ _ (st.same _ _ h1)), at_of (j := 0) rfl rfl, (by show 2 ≤ sizeLine; decide), fun p2 np2 => ?_⟩
          have s6 := s5.trans (same_upd np2 (o := .tup [.str "name", .str N]))
          refine ⟨d, _, rfl, DPut.t (k := kN N) (s6 _ _ hk) upd_same (million1 (by omega)), ?_⟩
          have st2 := st.put nfd nd0 out s6 hk nk lk (keyD_name (d := 0) hrl)
          generalize upd (upd (upd H4 p (.tup [.int i, .int j])) p2 (.tup [.str "name", .str N])) d (.dT (putK kvs (kN N) .non)) = H5 at st2
          clear g1 s6 np2 s5 np lk nk hk st
          refine ⟨_, rfl, _, rfl, g, _, _, _, rfl, rfl, SqL.of (st2.same _ _ hg), at_of (j := ρ) rfl hv0, t0, _, _, _, rfl, rfl, SqT.of (st2.same _ _ h1), at_of (j := 1) rfl rfl, l0, ss.map V.str, rfl, .inl (SqL.of (st2.same _ _ h2)), _, _, rfl, rfl, _, rfl, by rw [List.length_map]; omega, by rw [List.length_map]; omega, ?_⟩
          rw [show (((ss.map V.str).length : Int) + 1).toNat = ss.length + 1 from by rw [List.length_map]; omega]
          refine for_range (lo := 0) (n := ss.length + 1) (fun δ σ H' => ∃ v6, σ = [some (.ref g), some (.ref r), some (.ref fo), some (.int i), some (.int j), some (.int ρ), v6] ∧ StI G H fo d (fun a b => (a < i ∧ a ≤ b ∧ b ≤ row.length) ∨ (a = i ∧ i ≤ b ∧ b < j)) F (putK F (kS i j) (.ref d)) (KeyD G (ρ + 1) ρ δ) (22 * ρ + 1 + δ) H') ⟨v6, rfl, st2⟩ ?_ ?_
          · rintro δ σ H6 hδ ⟨v6, rfl, st⟩
            rw [Int.zero_add]
            obtain ⟨kvs, hk, nk, lk⟩ := st.ent
            refine ⟨_, rfl, _, rfl, _, rfl, (by show 2 ≤ sizeLine; decide), fun p np => ?_⟩
            have s5 : Same H6 (upd H6 p (.tup [.int i, .int j])) := same_upd np
            have g1 := DGet.t (k := kS i j) (s5 _ _ st.fo) (b := p) upd_same
            rw [at_d] at g1
            refine ⟨fo, _, rfl, g1, _, rfl, _, rfl, (by show 3 ≤ sizeLine; decide), fun p2 np2 => ?_⟩
            have s6 := s5.trans (same_upd np2 (o := .tup [.str "rest", .int ρ, .int δ]))
            refine ⟨d, _, rfl, DPut.t (k := kR ρ δ) (s6 _ _ hk) upd_same (million1 (by omega)), _, rfl, ?_⟩
            exact st.put nfd nd0 out s6 hk nk lk (keyD_rest hrl (by omega))
          · rintro σ H6 ⟨v6, rfl, st⟩
            obtain ⟨kvs, hk, nk, lk⟩ := st.ent
            exact ⟨_, _, rfl, st.same, st.fo, st.tab, kvs, hk, nk.iff (keyD_next hrl), by omega⟩
        · rintro σ H4 ⟨v5, v6, rfl, st⟩
          obtain ⟨kvs, hk, nk, lk⟩ := st.ent
          refine ⟨_, _, _, _, rfl, st.same, st.fo, ?_, fun x hx => ?_, Nat.le_trans (length_putK _ _ _) (by omega)⟩
          · exact st.tab.put out hk nk.ent (fun a b => by omega) (by omega)
          · rcases put_mem2 x hx with y | rfl
            · exact new2 x y
            · exact ⟨d, rfl, nd0, Ne.symm nfd⟩
      · rintro σ H2 ⟨v4, v5, v6, F, rfl, s2, hf2, tab2, new2, len2⟩
        exact ⟨_, _, _, _, F, rfl, s2, hf2, tab2.iff (fun a b => by omega), new2, by omega⟩
    · rintro σ H1 ⟨v3, v4, v5, v6, F, rfl, s1, hf1, tab1, new1, len1⟩
      exact ⟨_, rfl, q fo H1 F s1 nfo hf1 (TabD.tab (tab1.iff fun a b => by omega)) new1 (by omega)⟩
end
end Ld

set_option Elab.async false
set_option linter.all false
set_option maxRecDepth 100000
set_option maxHeartbeats 4000000
/-! The law's own round over a stretch. -/
namespace Ld
open PySem PySem.Spec PyProof.Rows L2 Lg Lr Lb
/-- the prices at t, their dict none of F's -/
def PrX (H : Hp) (t : Addr) (Z : Prc) (F : List (List Key × V)) : Prop := ∃ d, H t = some (.tup [.int Z.put, .int Z.out, .int Z.chg, .ref d]) ∧ H d = some (.dT Z.ex) ∧ ∀ p ∈ F, p.2 ≠ .ref d
theorem PrX.pr {H : Hp} {t : Addr} {Z : Prc} {F : List (List Key × V)} (h : PrX H t Z F) : PrA H t Z := let ⟨d, h1, h2, _⟩ := h; ⟨d, h1, h2⟩
theorem PrX.but {A B : Hp} {t d : Addr} {kd : List (List Key × V)} {Z : Prc} {F : List (List Key × V)} (h : PrX A t Z F) (hd : A d = some (.dT kd)) (inF : ∃ p ∈ F, p.2 = .ref d) (b : But d A B) : PrX B t Z F := by
  obtain ⟨dp, h1, h2, h3⟩ := h
  obtain ⟨p, hp, e⟩ := inF
  exact ⟨dp, b.tup hd h1, b dp _ (fun z => h3 p hp (by rw [e, z])) h2, h3⟩
section
variable {P : Program} {w : World} {K : PySem.W.Frag} {mg : Str → Option Value} {base : Heap}
theorem scRo : FnScope ["grammar", "prices", "row", "found", "i", "j", "moved", "entries", "rule", "dot", "cost", "key"] ["grammar", "prices", "row", "found", "i", "j"] (defScope sRound) := ⟨rfl, rfl, rfl, by decide +kernel, rfl, by decide +kernel, by decide +kernel⟩
def spRound (kn : Nat → Nat → Option Ent) : Sp := fun vs H Q _ => ∃ (g t r f : Addr) (G : List Rule) (Z : Prc) (row : List Str) (F : List (List Key × V)) (T : Nat → Nat → Ent) (i j : Nat),
  vs = [.ref g, .ref t, .ref r, .ref f, .int i, .int j] ∧ GraA H g G ∧ GraT G ∧ PrX H t Z F ∧ PrcOk Z ∧ H r = some (.lst (row.map V.str)) ∧ row.length ≤ 60 ∧ H f = some (.dT F) ∧ (∀ p ∈ F, p.2 ≠ .ref f) ∧ TabK H G row.length F T ∧ i ≤ j ∧ j ≤ row.length ∧
  PbOk (pbOf G Z row kn) ∧ Short (pbOf G Z row kn) T i j ∧ kn i j = none ∧ SoundAt (pbOf G Z row kn) (T i j) i j ∧
  ∀ (b : Bool) (H2 : Hp) (d : Addr) (kvs : List (List Key × V)) (e : Ent), valV F (kS i j) = some (.ref d) → But d H H2 → H2 d = some (.dT kvs) → EntK H2 G kvs e → RoundOk (pbOf G Z row kn) i j (T i j) e →
    (b = false → e = T i j ∧ LeastAt (pbOf G Z row kn) e i j) → Q (.bl b) H2
theorem ok_round {f fL : Addr} {fd fdL : FuncData} {kn : Nat → Nat → Option Ent} (F : Fun K "_law_round" "_law_round" sRound f fd)
    (GL : FnOk P w K mg base CX0 3 fL fdL ["grammar", "prices", "row", "found", "rule", "dot", "i", "j"] spLeast) (kL : PySem.W.keepIn K (.ref fL) = true) (bL : Binds K fdL ["grammar", "prices", "row", "found", "rule", "dot", "i", "j"] []) (gL : mg "_law_least" = some (.ref fL))
    (mr : mg "range" = none) (ml : mg "len" = none) : FnOk P w K mg base CX0 4 f fd ["grammar", "prices", "row", "found", "i", "j"] (spRound kn) := by
  refine F.ok scRo (fun vs H Q E h => ?_) (fun cdv A outer s H vs Q E hr h => ?_)
  · obtain ⟨g, t, r, f, G, Z, row, F, T, i, j, rfl, _⟩ := h
    rfl
  · obtain ⟨g, t, r, fo, G, Z, row, F, T, i, j, rfl, hG, gt, hZ, ok, hrow, len, hf, outf, tab, ij, jn, pok, short, hkn, snd, q⟩ := h
    have hu := units1 hr
    refine ⟨_, pss_cons (ps_set (i := 6) scRo.nd rfl (.inl rfl) pe_bl)
      (pss_cons (ps_set (i := 7) scRo.nd rfl (.inl rfl) (pe_dget hu (pv 3) (pe_tup (pa_cons (pv 4) (pa_cons (pv 5) pa_nil))) (fun _ _ => rfl)))
      (pss_cons (ps_for PassesOwn.never rfl (pi_range1 rfl mr (pa_cons (pe_callB call_len_seq (by rfl) ml PySem.boot_len (pa_cons (pv 0) pa_nil)) pa_nil)) (pg_name (i := 8) scRo.nd rfl (.inl rfl))
        (pss_cons (ps_for PassesOwn.never rfl (pi_range3 rfl mr (pa_cons (pe_callB call_len_seq (by rfl) ml PySem.boot_len (pa_cons (pe_ix ix_tup (pe_ix ix_list (pv 0) (pv 8) (fun _ _ => rfl)) pe_int (fun _ _ => rfl)) pa_nil)) (pa_cons (pe_un un_neg pe_int) (pa_cons (pe_un un_neg pe_int) pa_nil)))) (pg_name (i := 9) scRo.nd rfl (.inl rfl))
          (pss_cons (ps_set (i := 10) scRo.nd rfl (.inl rfl) (pe_call GL hr (by rfl) gL kL bL .nil pass0 (pa_cons (pv 0) (pa_cons (pv 1) (pa_cons (pv 2) (pa_cons (pv 3) (pa_cons (pv 8) (pa_cons (pv 9) (pa_cons (pv 4) (pa_cons (pv 5) pa_nil))))))))))
          (pss_one (ps_if (pt_cmpR (op_neD (units64 hr)) (pv 10) (pe_dget hu (pv 7) (pe_tup (pa_cons pe_str (pa_cons (pv 8) (pa_cons (pv 9) pa_nil)))) (fun _ _ => rfl)) (nomark _))
            (pss_cons (ps_dput hu (pv 7) (pe_tup (pa_cons pe_str (pa_cons (pv 8) (pa_cons (pv 9) pa_nil)))) (pv 10) (by rfl))
            (pss_one (ps_set (i := 6) scRo.nd rfl (.inl rfl) pe_bl))) pss_nil))))
        (pss_cons (ps_set (i := 10) scRo.nd rfl (.inl rfl) (pe_dget hu (pv 7) (pe_tup (pa_cons pe_str (pa_cons (pv 8) (pa_cons pe_int pa_nil)))) (fun _ _ => rfl)))
        (pss_cons (ps_set (i := 11) scRo.nd rfl (.inl rfl) (pe_tup (pa_cons pe_str (pa_cons (pe_ix ix_tup (pe_ix ix_list (pv 0) (pv 8) (fun _ _ => rfl)) pe_int (fun _ _ => rfl)) pa_nil))))
        (pss_one (ps_if (PW.pt (pw_and (pt_cmpR op_notN (pv 10) pe_non (nomark _)) (pw_and1 (PW.pt (pw_or (pt_cmpR op_isN (pe_dget hu (pv 7) (pv 11) (fun _ _ => rfl)) pe_non (nomark _))
            (pw_or1 (pt_cmpR (op_ltD (units65 hr)) (pe_tup (pa_cons (pe_ix ix_tup (pv 10) pe_int (fun _ _ => rfl)) (pa_cons (pe_op op_add (pe_ix ix_tup (pv 10) pe_int (fun _ _ => rfl)) pe_int) pa_nil))) (pe_dget hu (pv 7) (pv 11) (fun _ _ => rfl)) (nomark _))))))))
          (pss_cons (ps_dput hu (pv 7) (pv 11) (pe_tup (pa_cons (pe_ix ix_tup (pv 10) pe_int (fun _ _ => rfl)) (pa_cons (pe_op op_add (pe_ix ix_tup (pv 10) pe_int (fun _ _ => rfl)) pe_int) pa_nil))) (by rfl))
          (pss_one (ps_set (i := 6) scRo.nd rfl (.inl rfl) pe_bl))) pss_nil))))))
      (pss_one (ps_ret (pv 6))))), ?_⟩
    obtain ⟨vs, hg, gr⟩ := id hG
    have lvs : (vs.length : Int) = (G.length : Int) := by rw [gr.len]
    have lG := gt.rules
    obtain ⟨d, kd, v1, v2, v3⟩ := tab.at_ i j ij jn
    have inF : ∃ p ∈ F, p.2 = V.ref d := ⟨_, valV_from v1, rfl⟩
    have fd : fo ≠ d := fun z => outf _ (valV_from v1) (by rw [z])
    refine ⟨_, rfl, _, rfl, _, rfl, (by show 2 ≤ sizeLine; decide), fun p np => ?_⟩
    have s1 : Same H (upd H p (.tup [.int i, .int j])) := same_upd np
    have g1 := DGet.t (k := kS i j) (s1 _ _ hf) (b := p) upd_same
    rw [v1] at g1
    refine ⟨fo, _, rfl, g1, ?_⟩
    have b1 : But d H (upd H p (.tup [.int i, .int j])) := But.of_same s1
    have hd1 := s1 _ _ v2
    have en1 := v3.up (Up.of_same s1)
    show _
    generalize upd H p (.tup [.int i, .int j]) = H1 at b1 hd1 en1 s1
    clear g1 np
    refine ⟨_, rfl, g, _, rfl, .inl (SqL.of (s1 _ _ hg)), _, rfl, by rw [lvs]; omega, by rw [lvs]; omega, ?_⟩
    rw [show ((vs.length : Int)).toNat = G.length from by omega]
    refine for_range (lo := 0) (n := G.length) (fun ρ σ H' => ∃ v8 v9 v10 v11 mv e kvs, σ = [some (.ref g), some (.ref t), some (.ref r), some (.ref fo), some (.int i), some (.int j), some (.bl mv), some (.ref d), v8, v9, v10, v11] ∧ But d H H' ∧ H' d = some (.dT kvs) ∧ EntK H' G kvs e ∧
        RInv (pbOf G Z row kn) i j (T i j) e ρ 21 ∧ (mv = false → e = T i j ∧ Still (pbOf G Z row kn) T i j ρ 21))
      ⟨none, none, none, none, false, T i j, kd, rfl, b1, hd1, en1, RInv.start snd (rest_none2 hkn gt.few 0), fun _ => ⟨rfl, Still.start gt.few⟩⟩ ?_ ?_
    · rintro ρ σ H2 hρ ⟨v8, v9, v10, v11, mv, e, kvs, rfl, b2, hd2, en2, ri, still⟩
      rw [Int.zero_add]
      obtain ⟨⟨N, ss⟩, hrl⟩ : ∃ x, G[ρ]? = some x := ⟨_, List.getElem?_eq_getElem hρ⟩
      obtain ⟨v0, hv0, t0, l0, rfl, h1, h2⟩ : ∃ v0, vs[ρ]? = some v0 ∧ RuleA H v0 (N, ss) := by
        obtain ⟨x, hx⟩ : ∃ x, vs[ρ]? = some x := ⟨_, List.getElem?_eq_getElem (by rw [gr.len]; exact hρ)⟩
        obtain ⟨q2, hq2, ra⟩ := gr.get hx
        rw [hrl] at hq2
        cases hq2
        exact ⟨x, hx, ra⟩
      have inG : (N, ss) ∈ G := List.mem_of_getElem? hrl
      have lss : ss.length ≤ 20 := gt.few _ inG
      refine ⟨_, rfl, _, rfl, g, _, _, _, rfl, rfl, SqL.of (b2.lst v2 hg), at_of (j := ρ) rfl hv0, t0, _, _, _, rfl, rfl, SqT.of (b2.tup v2 h1), at_of (j := 1) rfl rfl, l0, ss.map V.str, rfl, .inl (SqL.of (b2.lst v2 h2)), _, rfl, _, rfl, _, _, _, _, rfl, RgC.neg (by rw [List.length_map]; omega) (by rw [List.length_map]; omega) (by decide) (by decide), ?_⟩
      rw [show (((ss.map V.str).length : Int) - (-1)).toNat = ss.length + 1 from by rw [List.length_map]; omega]
      refine for_rangeC (lo := ((ss.map V.str).length : Int)) (c := -1) (n := ss.length + 1) (fun δ σ H' => ∃ v9 v10 mv e kvs, σ = [some (.ref g), some (.ref t), some (.ref r), some (.ref fo), some (.int i), some (.int j), some (.bl mv), some (.ref d), some (.int ρ), v9, v10, v11] ∧ But d H H' ∧ H' d = some (.dT kvs) ∧ EntK H' G kvs e ∧
          RInv (pbOf G Z row kn) i j (T i j) e ρ (ss.length + 1 - δ) ∧ (mv = false → e = T i j ∧ Still (pbOf G Z row kn) T i j ρ (ss.length + 1 - δ)))
        ⟨v9, v10, mv, e, kvs, rfl, b2, hd2, en2, Ld.RInv.out ri (rest_none hkn hrl (Nat.lt_succ_self _)), fun z => ⟨(still z).1, (still z).2.out hrl⟩⟩ ?_ ?_
      · rintro δ σ H3 hδ ⟨v9, v10, mv, e, kvs, rfl, b3, hd3, en3, ri, still⟩
        rw [show ((ss.map V.str).length : Int) + (δ : Int) * (-1) = ((ss.length - δ : Nat) : Int) from by rw [List.length_map]; omega]
        have ed : ss.length + 1 - δ = (ss.length - δ) + 1 := by omega
        rw [ed] at ri still
        rw [show ss.length + 1 - (δ + 1) = ss.length - δ from by omega]
        have hdot : ss.length - δ ≤ ss.length := Nat.sub_le _ _
        generalize ss.length - δ = dot at ri still hdot
        have tab3 := tab.but ij jn v1 v2 b3 hd3 en3
        refine ⟨_, rfl, _, rfl, _, rfl, _, rfl, _, rfl, _, rfl, _, rfl, _, rfl, g, t, r, fo, G, Z, row, F, wi T i j e, N, ss, ρ, dot, i, j, kn, rfl, hG.but b3 v2, gt, (hZ.but v2 inF b3).pr, ok, b3.lst v2 hrow, len, b3 _ _ fd hf, tab3, hrl, hdot, ij, jn, fun v o H4 s4 hv lo => ?_⟩
        have b4 := b3.trans (But.of_same s4)
        have hd4 := s4 _ _ hd3
        have en4 := en3.up (Up.of_same s4)
        obtain ⟨u, k1, k2⟩ := en4.rs ρ dot N ss hrl hdot
        refine ⟨_, rfl, _, rfl, _, rfl, _, rfl, (by show 3 ≤ sizeLine; decide), fun p2 np2 => ?_⟩
        have s5 : Same H4 (upd H4 p2 (.tup [.str "rest", .int ρ, .int dot])) := same_upd np2
        have g2 := DGet.t (k := kR ρ dot) (s5 _ _ hd4) (b := p2) upd_same
        rw [k1] at g2
        refine ⟨d, u, rfl, g2, oD o, oD (e.rs ρ dot), (hv.up (Up.of_same s5)).oD, (k2.up (Up.of_same s5)).oD, oD_shaped _, oD_shaped _, _, rfl, ?_⟩
        rw [oD_eqv]
        have b5 := b4.trans (But.of_same s5)
        have hd5 := s5 _ _ hd4
        have en5 := en4.up (Up.of_same s5)
        have hv5 := hv.up (Up.of_same s5)
        generalize upd H4 p2 (.tup [.str "rest", .int ρ, .int dot]) = H5 at b5 hd5 en5 hv5
        clear g2 s5 np2 k2 k1 en4 hd4 b4 s4 hv tab3
        have ri2 := ri.rest pok short hkn lo
        by_cases same_ : o = e.rs ρ dot
        · rw [decide_eq_true same_]
          rw [setR_self e ρ dot same_] at ri2
          refine iteF ⟨_, _, mv, e, kvs, rfl, b5, hd5, en5, ri2, fun z => ?_⟩
          obtain ⟨e1, st⟩ := still z
          refine ⟨e1, st.rest ?_⟩
          rw [same_, e1] at lo
          have ew : wi T i j (T i j) = T := funext fun a => funext fun b => by
            by_cases w : a = i ∧ b = j
            · rw [w.1, w.2, wi_same]
            · rw [wi_other w]
          rw [ew] at lo
          exact lo
        · rw [decide_eq_false same_]
          refine iteT ⟨_, rfl, _, rfl, _, rfl, _, rfl, (by show 3 ≤ sizeLine; decide), fun p3 np3 => ?_⟩
          have s6 : Same H5 (upd H5 p3 (.tup [.str "rest", .int ρ, .int dot])) := same_upd np3
          have hd6 := s6 _ _ hd5
          have hv6 := hv5.up (Up.of_same s6)
          have en6 := en5.up (Up.of_same s6)
          refine ⟨d, _, rfl, DPut.t (k := kR ρ dot) hd6 upd_same (million1 (by have := en5.few gt; omega)), ?_⟩
          have b7 : But d (upd H5 p3 (.tup [.str "rest", .int ρ, .int dot])) (upd (upd H5 p3 (.tup [.str "rest", .int ρ, .int dot])) d (.dT (putK kvs (kR ρ dot) v))) := (But.of_same (Same.refl _)).upd
          exact ⟨_, _, true, setR e ρ dot o, putK kvs (kR ρ dot) v, rfl, (b5.trans (But.of_same s6)).trans b7, upd_same, (en6.but b7 hd6).putR hrl hdot (hv6.but b7 hd6), ri2, fun z => by cases z⟩
      · rintro σ H3 ⟨v9, v10, mv, e, kvs, rfl, b3, hd3, en3, ri, still⟩
        rw [Nat.sub_self] at ri still
        obtain ⟨cv, k1, k2⟩ := en3.rs ρ 0 N ss hrl (Nat.zero_le _)
        obtain ⟨nv, n1, n2⟩ := en3.nm N ⟨_, inG, rfl⟩
        refine ⟨_, rfl, _, rfl, (by show 3 ≤ sizeLine; decide), fun p2 np2 => ?_⟩
        have s4 : Same H3 (upd H3 p2 (.tup [.str "rest", .int ρ, .int 0])) := same_upd np2
        have g2 := DGet.t (k := kR ρ 0) (s4 _ _ hd3) (b := p2) upd_same
        rw [k1] at g2
        refine ⟨d, cv, rfl, g2, ?_⟩
        refine ⟨_, rfl, _, rfl, g, _, _, _, rfl, rfl, SqL.of (s4 _ _ (b3.lst v2 hg)), at_of (j := ρ) rfl hv0, t0, _, _, _, rfl, rfl, SqT.of (s4 _ _ (b3.tup v2 h1)), at_of (j := 0) rfl rfl, (by show 2 ≤ sizeLine; decide), fun kt nkt => ?_⟩
        have s5 := s4.trans (same_upd nkt (o := .tup [.str "name", .str N]))
        have hkt : upd (upd H3 p2 (.tup [.str "rest", .int ρ, .int 0])) kt (.tup [.str "name", .str N]) kt = some (.tup [.str "name", .str N]) := upd_same
        show _
        generalize upd (upd H3 p2 (.tup [.str "rest", .int ρ, .int 0])) kt (.tup [.str "name", .str N]) = H5 at s5 hkt
        clear g2 s4
        have b5 := b3.trans (But.of_same s5)
        have hd5 := s5 _ _ hd3
        have en5 := en3.up (Up.of_same s5)
        have k5 := k2.up (Up.of_same s5)
        have n5 := n2.up (Up.of_same s5)
        have out21 := rest_none2 (i := i) (j := j) hkn (show ∀ r ∈ (pbOf G Z row kn).G, r.2.length ≤ 20 from gt.few) (ρ + 1)
        -- the name stays
        have stay : (∀ c, e.rs ρ 0 = some c → ∃ x, e.nm N = some x ∧ cle x (c.1, c.2 + 1)) → RInv (pbOf G Z row kn) i j (T i j) e (ρ + 1) 21 ∧ (mv = false → e = T i j ∧ Still (pbOf G Z row kn) T i j (ρ + 1) 21) := fun new => by
          have := ri.name hkn hrl (o := e.nm N) (d := 21) (fun c z => .inl z) (fun c z => ⟨c, z, cle_refl c⟩) new out21
          rw [setN_self e N rfl] at this
          refine ⟨this, fun z => ?_⟩
          obtain ⟨e1, st⟩ := still z
          exact ⟨e1, st.name gt.few hrl (by rw [← e1]; exact new) (Nat.le_refl 21)⟩
        have getN : ∀ {B : Hp}, Same H5 B → DGet B d (.ref kt) (some nv) := fun {B} sB => by
          have := DGet.t (k := kN N) (sB _ _ hd5) (b := kt) (sB _ _ hkt)
          rw [n1] at this
          exact this
        cases ec : e.rs ρ 0 with
        | none =>
          rw [ec] at k5
          obtain rfl : cv = .non := k5
          obtain ⟨r1, r2⟩ := stay fun c z => by rw [ec] at z; cases z
          exact ⟨_, rfl, rfl, _, rfl, iteF ⟨_, _, _, _, mv, e, kvs, rfl, b5, hd5, en5, r1, r2⟩⟩
        | some c =>
          rw [ec] at k5
          obtain ⟨tc, rfl, htc⟩ := id k5
          refine ⟨_, rfl, rfl, _, rfl, iteT ?_⟩
          refine ⟨_, rfl, _, rfl, d, nv, rfl, getN (Same.refl H5), rfl, _, rfl, ?_⟩
          -- the name is lowered
          have lower : ∀ {B : Hp}, Same H5 B → (∀ x, e.nm N = some x → cle (c.1, c.2 + 1) x) → ∀ pt, B pt = none → ∃ kvs2, DPut (upd B pt (.tup [.int c.1, .int (c.2 + 1)])) d (.ref kt) (.ref pt) (upd (upd B pt (.tup [.int c.1, .int (c.2 + 1)])) d (.dT kvs2)) ∧ But d H (upd (upd B pt (.tup [.int c.1, .int (c.2 + 1)])) d (.dT kvs2)) ∧
              EntK (upd (upd B pt (.tup [.int c.1, .int (c.2 + 1)])) d (.dT kvs2)) G kvs2 (setN e N (some (c.1, c.2 + 1))) ∧ RInv (pbOf G Z row kn) i j (T i j) (setN e N (some (c.1, c.2 + 1))) (ρ + 1) 21 := fun {B} sB old pt npt => by
            have s6 := sB.trans (same_upd npt (o := .tup [.int c.1, .int (c.2 + 1)]))
            have hd6 := s6 _ _ hd5
            have en6 := en5.up (Up.of_same s6)
            have b7 : But d (upd B pt (.tup [.int c.1, .int (c.2 + 1)])) (upd (upd B pt (.tup [.int c.1, .int (c.2 + 1)])) d (.dT (putK kvs (kN N) (.ref pt)))) := (But.of_same (Same.refl _)).upd
            have hv6 : CostV (upd B pt (.tup [.int c.1, .int (c.2 + 1)])) (.ref pt) (some (c.1, c.2 + 1)) := ⟨pt, rfl, upd_same⟩
            refine ⟨putK kvs (kN N) (.ref pt), DPut.t (k := kN N) hd6 (s6 _ _ hkt) (million1 (by have := en5.few gt; omega)), (b5.trans (But.of_same s6)).trans b7, (en6.but b7 hd6).putN ⟨_, inG, rfl⟩ (hv6.but b7 hd6), ?_⟩
            refine ri.name hkn hrl (fun c2 z => .inr ⟨c, ec, (Option.some.inj z).symm⟩) (fun x z => ⟨_, rfl, old x z⟩) (fun c2 z => ⟨_, rfl, ?_⟩) out21
            rw [ec] at z
            rw [Option.some.inj z]
            exact cle_refl _
          cases en : e.nm N with
          | none =>
            rw [en] at n5
            obtain rfl : nv = .non := n5
            refine iteT ?_
            refine iteT ⟨_, rfl, tc, _, _, _, rfl, rfl, SqT.of htc, at_of (j := 0) rfl rfl, _, rfl, tc, _, _, _, rfl, rfl, SqT.of htc, at_of (j := 1) rfl rfl, _, _, rfl, rfl, (by show 2 ≤ sizeLine; decide), fun pt npt => ?_⟩
            obtain ⟨kvs2, dp, bt, et, rt⟩ := lower (Same.refl H5) (fun x z => by rw [en] at z; cases z) pt npt
            exact ⟨_, rfl, _, rfl, d, _, rfl, dp, _, _, _, _, true, _, kvs2, rfl, bt, upd_same, et, rt, fun z => by cases z⟩
          | some x =>
            rw [en] at n5
            obtain ⟨tn, rfl, htn⟩ := id n5
            refine iteF ⟨_, rfl, tc, _, _, _, rfl, rfl, SqT.of htc, at_of (j := 0) rfl rfl, _, rfl, tc, _, _, _, rfl, rfl, SqT.of htc, at_of (j := 1) rfl rfl, _, _, rfl, rfl, (by show 2 ≤ sizeLine; decide), fun p6 np6 => ?_⟩
            have s6 : Same H5 (upd H5 p6 (.tup [.int c.1, .int (c.2 + 1)])) := same_upd np6
            have h6 : CostV (upd H5 p6 (.tup [.int c.1, .int (c.2 + 1)])) (.ref p6) (some (c.1, c.2 + 1)) := ⟨p6, rfl, upd_same⟩
            have n6 := n5.up (Up.of_same s6)
            refine ⟨_, rfl, _, rfl, d, _, rfl, getN s6, cD (c.1, c.2 + 1), cD x, h6.dp, n6.dp, cD_alike _ _, (fun z => by cases z), (by simp [cD, PyData.depth, PyData.depthAll]), _, rfl, ?_⟩
            rw [cost_lt]
            show _
            generalize upd H5 p6 (.tup [.int c.1, .int (c.2 + 1)]) = H6 at s6 h6 n6
            by_cases lt : c.1 < x.1 ∨ (c.1 = x.1 ∧ c.2 + 1 < x.2)
            · rw [decide_eq_true lt]
              refine iteT ⟨_, rfl, tc, _, _, _, rfl, rfl, SqT.of (s6 _ _ htc), at_of (j := 0) rfl rfl, _, rfl, tc, _, _, _, rfl, rfl, SqT.of (s6 _ _ htc), at_of (j := 1) rfl rfl, _, _, rfl, rfl, (by show 2 ≤ sizeLine; decide), fun pt npt => ?_⟩
              obtain ⟨kvs2, dp, bt, et, rt⟩ := lower s6 (fun y z => by rw [en] at z; cases z; unfold cle; dsimp only; omega) pt npt
              exact ⟨_, rfl, _, rfl, d, _, rfl, dp, _, _, _, _, true, _, kvs2, rfl, bt, upd_same, et, rt, fun z => by cases z⟩
            · rw [decide_eq_false lt]
              obtain ⟨r1, r2⟩ := stay fun c2 z => by
                rw [ec] at z
                cases z
                refine ⟨x, en, ?_⟩
                unfold cle
                dsimp only
                omega
              exact iteF ⟨_, _, _, _, mv, e, kvs, rfl, b5.trans (But.of_same s6), s6 _ _ hd5, en5.up (Up.of_same s6), r1, r2⟩
    · rintro σ H2 ⟨v8, v9, v10, v11, mv, e, kvs, rfl, b2, hd2, en2, ri, still⟩
      refine ⟨_, rfl, q mv H2 d kvs e v1 b2 hd2 en2 (RInv.all hkn ri) fun z => ?_⟩
      obtain ⟨e1, st⟩ := still z
      exact ⟨e1, by rw [e1]; exact Still.least st ij short hkn snd⟩
end
end Ld

set_option Elab.async false
set_option linter.all false
set_option maxRecDepth 100000
set_option maxHeartbeats 4000000
/-! The law's own table: the least costs. -/
namespace Ld
open PySem PySem.Spec PyProof.Rows L2 Lg Lr Lb
def kn0 : Nat → Nat → Option Ent := fun _ _ => none
theorem kn0_ok {G : List Rule} {Z : Prc} (ok : PrcOk Z) (row : List Str) : PbOk (pbOf G Z row kn0) := pbOf_ok ok fun _ _ _ h => by cases h
theorem ent0_sound {B : Pb} {i j : Nat} : SoundAt B ent0 i j := ⟨(fun _ _ h => by cases h), (fun _ _ _ h => by cases h)⟩
section
variable {P : Program} {w : World} {K : PySem.W.Frag} {mg : Str → Option Value} {base : Heap}
theorem scTb : FnScope ["grammar", "prices", "row", "found", "size", "i", "turn"] ["grammar", "prices", "row"] (defScope sTable) := ⟨rfl, rfl, rfl, by decide +kernel, rfl, by decide +kernel, by decide +kernel⟩
def spTable : Sp := fun vs H Q _ => ∃ (g t r : Addr) (G : List Rule) (Z : Prc) (row Ns : List Str), vs = [.ref g, .ref t, .ref r] ∧ GraA H g G ∧ GraT G ∧ PrA H t Z ∧ PrcOk Z ∧ H r = some (.lst (row.map V.str)) ∧ row.length ≤ 60 ∧ (∀ q ∈ G, q.1 ∈ Ns) ∧ Ns.length ≤ 39 ∧
  ∀ (f : Addr) (H2 : Hp) (F : List (List Key × V)) (T : Nat → Nat → Ent), Same H H2 → H f = none → H2 f = some (.dT F) → TabK H2 G row.length F T → (∀ p ∈ F, ∃ d, p.2 = .ref d ∧ H d = none ∧ d ≠ f) → F.length ≤ 4000 → (∀ i j, i ≤ j → j ≤ row.length → LeastAt (pbOf G Z row kn0) (T i j) i j) → Q (.ref f) H2
theorem ok_table {f fS fR : Addr} {fd fdS fdR : FuncData} (F : Fun K "_law_table" "_law_table" sTable f fd)
    (GS : FnOk P w K mg base CX0 1 fS fdS ["grammar", "row"] spStart) (kS' : PySem.W.keepIn K (.ref fS) = true) (bS : Binds K fdS ["grammar", "row"] []) (gS : mg "_law_start" = some (.ref fS))
    (GR : FnOk P w K mg base CX0 4 fR fdR ["grammar", "prices", "row", "found", "i", "j"] (spRound kn0)) (kR' : PySem.W.keepIn K (.ref fR) = true) (bR : Binds K fdR ["grammar", "prices", "row", "found", "i", "j"] []) (gR : mg "_law_round" = some (.ref fR))
    (mr : mg "range" = none) (ml : mg "len" = none) : FnOk P w K mg base CX0 5 f fd ["grammar", "prices", "row"] spTable := by
  refine F.ok scTb (fun vs H Q E h => ?_) (fun cdv A outer s H vs Q E hr h => ?_)
  · obtain ⟨g, t, r, G, Z, row, Ns, rfl, _⟩ := h
    rfl
  · obtain ⟨g, t, r, G, Z, row, Ns, rfl, hG, gt, hZ, ok, hrow, len, cover, few, q⟩ := h
    have hr1 := hr.mono (show 1 ≤ 4 by decide)
    refine ⟨_, pss_cons (ps_set (i := 3) scTb.nd rfl (.inl rfl) (pe_call GS hr1 (by rfl) gS kS' bS .nil pass0 (pa_cons (pv 0) (pa_cons (pv 2) pa_nil))))
      (pss_cons (ps_for PassesOwn.never rfl (pi_range1 rfl mr (pa_cons (pe_op op_add (pe_callB call_len_seq (by rfl) ml PySem.boot_len (pa_cons (pv 2) pa_nil)) pe_int) pa_nil)) (pg_name (i := 4) scTb.nd rfl (.inl rfl))
        (pss_one (ps_for PassesOwn.never rfl (pi_range1 rfl mr (pa_cons (pe_op op_sub (pe_op op_add (pe_callB call_len_seq (by rfl) ml PySem.boot_len (pa_cons (pv 2) pa_nil)) pe_int) (pv 4)) pa_nil)) (pg_name (i := 5) scTb.nd rfl (.inl rfl))
          (pss_one (ps_for PassesOwn.never rfl (pi_range1 rfl mr (pa_cons pe_int pa_nil)) (pg_name (i := 6) scTb.nd rfl (.inl rfl))
            (pss_one (ps_if (pt_not (pt_val (pe_call GR hr (by rfl) gR kR' bR .nil pass0 (pa_cons (pv 0) (pa_cons (pv 1) (pa_cons (pv 2) (pa_cons (pv 3) (pa_cons (pv 5) (pa_cons (pe_op op_add (pv 5) (pv 4)) pa_nil))))))))) (pss_one ps_break) pss_nil)))))))
      (pss_one (ps_ret (pv 3)))), ?_⟩
    have pok := kn0_ok (G := G) ok row
    have cov : ∀ (a : Nat) N ss, (pbOf G Z row kn0).G[a]? = some (N, ss) → N ∈ Ns := fun a N ss h => cover _ (List.mem_of_getElem? h)
    refine ⟨_, rfl, _, rfl, g, r, G, row, rfl, hG, gt, hrow, len, fun fo H1 F s1 nfo hf1 tab1 new lenF => ?_⟩
    have outf : ∀ p ∈ F, p.2 ≠ V.ref fo := fun x hx z => by
      obtain ⟨c, e1, _, ne⟩ := new x hx
      rw [e1] at z
      cases z
      exact ne rfl
    have prx : ∀ {B : Hp}, Same H B → PrX B t Z F := fun {B} s => by
      obtain ⟨dp, h1, h2⟩ := hZ
      refine ⟨dp, s _ _ h1, s _ _ h2, fun x hx z => ?_⟩
      obtain ⟨c, e1, nc, _⟩ := new x hx
      rw [e1] at z
      cases z
      rw [nc] at h2
      cases h2
    refine ⟨_, rfl, r, row.map V.str, rfl, .inl (SqL.of (s1 _ _ hrow)), _, _, rfl, rfl, _, rfl, by rw [List.length_map]; omega, by rw [List.length_map]; omega, ?_⟩
    rw [show (((row.map V.str).length : Int) + 1).toNat = row.length + 1 from by rw [List.length_map]; omega]
    refine for_range (lo := 0) (n := row.length + 1) (fun sz σ H' => ∃ v4 v5 v6 T, σ = [some (.ref g), some (.ref t), some (.ref r), some (.ref fo), v4, v5, v6] ∧ Same H H' ∧ H' fo = some (.dT F) ∧ TabK H' G row.length F T ∧
        (∀ a b, a ≤ b → b ≤ row.length → b - a < sz → LeastAt (pbOf G Z row kn0) (T a b) a b) ∧ ∀ a b, a ≤ b → sz ≤ b - a → T a b = ent0)
      ⟨none, none, none, _, rfl, s1, hf1, tab1, fun a b _ _ h => absurd h (Nat.not_lt_zero _), fun _ _ _ _ => rfl⟩ ?_ ?_
    · rintro sz σ H2 hsz ⟨v4, v5, v6, T, rfl, s2, hf2, tab2, done2, rest2⟩
      rw [Int.zero_add]
      refine ⟨_, rfl, r, row.map V.str, rfl, .inl (SqL.of (s2 _ _ hrow)), _, _, rfl, rfl, _, rfl, _, _, rfl, rfl, _, rfl, by rw [List.length_map]; omega, by rw [List.length_map]; omega, ?_⟩
      rw [show (((row.map V.str).length : Int) + 1 - (sz : Int)).toNat = row.length + 1 - sz from by rw [List.length_map]; omega]
      refine for_range (lo := 0) (n := row.length + 1 - sz) (fun i σ H' => ∃ v5 v6 T, σ = [some (.ref g), some (.ref t), some (.ref r), some (.ref fo), some (.int sz), v5, v6] ∧ Same H H' ∧ H' fo = some (.dT F) ∧ TabK H' G row.length F T ∧
          (∀ a b, a ≤ b → b ≤ row.length → (b - a < sz ∨ (b - a = sz ∧ a < i)) → LeastAt (pbOf G Z row kn0) (T a b) a b) ∧ ∀ a b, a ≤ b → (sz < b - a ∨ (b - a = sz ∧ i ≤ a)) → T a b = ent0)
        ⟨v5, v6, T, rfl, s2, hf2, tab2, fun a b h1 h2 h3 => done2 a b h1 h2 (by omega), fun a b h1 h2 => rest2 a b h1 (by omega)⟩ ?_ ?_
      · rintro i σ H3 hi ⟨v5, v6, T, rfl, s3, hf3, tab3, done3, rest3⟩
        rw [Int.zero_add]
        have ej : (i : Int) + (sz : Int) = ((i + sz : Nat) : Int) := by omega
        have ij : i ≤ i + sz := Nat.le_add_right _ _
        have jn : i + sz ≤ row.length := by omega
        generalize eJ : i + sz = j at ej ij jn
        have short : Short (pbOf G Z row kn0) T i j := fun a b h1 h2 h3 h4 => done3 a b h2 (by omega) (by omega)
        have snd0 : SoundAt (pbOf G Z row kn0) (T i j) i j := by
          rw [rest3 i j ij (by omega)]
          exact ent0_sound
        -- behind the turns
        have fin : ∀ (x6 : Option V) (T' : Nat → Nat → Ent) (H' : Hp), Same H H' → H' fo = some (.dT F) → TabK H' G row.length F T' → (∀ a b, ¬ (a = i ∧ b = j) → T' a b = T a b) → LeastAt (pbOf G Z row kn0) (T' i j) i j →
            ∃ v5 v6 T, [some (V.ref g), some (.ref t), some (.ref r), some (.ref fo), some (.int sz), some (.int i), x6] = [some (V.ref g), some (.ref t), some (.ref r), some (.ref fo), some (.int sz), v5, v6] ∧ Same H H' ∧ H' fo = some (.dT F) ∧ TabK H' G row.length F T ∧
              (∀ a b, a ≤ b → b ≤ row.length → (b - a < sz ∨ (b - a = sz ∧ a < i + 1)) → LeastAt (pbOf G Z row kn0) (T a b) a b) ∧ ∀ a b, a ≤ b → (sz < b - a ∨ (b - a = sz ∧ i + 1 ≤ a)) → T a b = ent0 := fun x6 T' H' s' hf' tab' oth least => by
          refine ⟨_, x6, T', rfl, s', hf', tab', fun a b h1 h2 h3 => ?_, fun a b h1 h2 => ?_⟩
          · by_cases w : a = i ∧ b = j
            · rw [w.1, w.2]
              exact least
            · rw [oth a b w]
              exact done3 a b h1 h2 (by omega)
          · rw [oth a b (by omega)]
            exact rest3 a b h1 (by omega)
        refine ⟨40, rfl, by decide, by decide, ?_⟩
        refine for_range (lo := 0) (n := 40) (fun tn σ H' => ∃ v6 T', σ = [some (.ref g), some (.ref t), some (.ref r), some (.ref fo), some (.int sz), some (.int i), v6] ∧ Same H H' ∧ H' fo = some (.dT F) ∧ TabK H' G row.length F T' ∧
            (∀ a b, ¬ (a = i ∧ b = j) → T' a b = T a b) ∧ Prog (pbOf G Z row kn0) i j Ns tn (T' i j))
          ⟨v6, T, rfl, s3, hf3, tab3, fun _ _ _ => rfl, Prog.start Ns snd0⟩ ?_ ?_
        · rintro tn σ H4 htn ⟨v6, T', rfl, s4, hf4, tab4, oth, prog⟩
          have short4 : Short (pbOf G Z row kn0) T' i j := fun a b h1 h2 h3 h4 => by
            rw [oth a b h4]
            exact short a b h1 h2 h3 h4
          refine ⟨_, rfl, _, rfl, _, rfl, _, rfl, _, rfl, _, rfl, _, rfl, _, _, rfl, rfl, g, t, r, fo, G, Z, row, F, T', i, j, (by show [V.ref g, V.ref t, V.ref r, V.ref fo, V.int i, V.int ((i : Int) + (sz : Int))] = _; rw [ej]), hG.up (Up.of_same s4), gt, prx s4, ok, s4 _ _ hrow, len, hf4, outf, tab4, ij, jn, pok, short4, rfl, prog.snd, fun b H5 d kvs e v1 bt hd5 en5 ro still => ?_⟩
          obtain ⟨c, e1, nc, ncf⟩ := new _ (valV_from v1)
          cases e1
          obtain ⟨d2, kv2, w1, w2, w3⟩ := tab4.at_ i j ij jn
          rw [v1] at w1
          cases w1
          have s5 : Same H H5 := fun x o h => bt x o (fun z => by rw [z, nc] at h; cases h) (s4 _ _ h)
          have tab5 := tab4.but ij jn v1 w2 bt hd5 en5
          have hf5 := bt _ _ (Ne.symm ncf) hf4
          have oth5 : ∀ a b, ¬ (a = i ∧ b = j) → wi T' i j e a b = T a b := fun a b h => by rw [wi_other h, oth a b h]
          refine ⟨_, rfl, ?_⟩
          cases b with
          | true => exact iteF ⟨_, wi T' i j e, rfl, s5, hf5, tab5, oth5, by rw [wi_same]; exact prog.step pok rfl cov ro⟩
          | false =>
            obtain ⟨_, least⟩ := still rfl
            refine iteT ?_
            unfold tBreak
            exact fin (some (.int (0 + (tn : Int)))) (wi T' i j e) H5 s5 hf5 tab5 oth5 (by rw [wi_same]; exact least)
        · rintro σ H4 ⟨v6, T', rfl, s4, hf4, tab4, oth, prog⟩
          exact fin v6 T' H4 s4 hf4 tab4 oth (prog.done (by omega))
      · rintro σ H3 ⟨v5, v6, T, rfl, s3, hf3, tab3, done3, rest3⟩
        exact ⟨_, _, _, T, rfl, s3, hf3, tab3, fun a b h1 h2 h3 => done3 a b h1 h2 (by omega), fun a b h1 h2 => rest3 a b h1 (by omega)⟩
    · rintro σ H2 ⟨v4, v5, v6, T, rfl, s2, hf2, tab2, done2, _⟩
      exact ⟨_, rfl, q fo H2 F T s2 nfo hf2 tab2 new lenF fun a b h1 h2 => done2 a b h1 h2 (by omega)⟩
end
end Ld

set_option Elab.async false
set_option linter.all false
set_option maxRecDepth 100000
set_option maxHeartbeats 4000000
/-! The table of a row. -/
namespace Ld
open PySem PySem.Spec PyProof.Rows L2 Lg Lr Lb
theorem least_table {B : Pb} (ok : PbOk B) : ∃ T : Nat → Nat → Ent, ∀ a b, LeastAt B (T a b) a b := by
  have ex : ∀ a b, ∃ e : Ent, LeastAt B e a b := fun a b => by
    have f1 : ∀ N, ∃ o, LeastO (TreeC B N a b) o := fun N => least_ex fun c h => TreeC.pos ok h
    have f2 : ∀ r d, ∃ o, LeastO (RestC B r d a b) o := fun r d => least_ex fun c h => RestC.pos ok h
    exact ⟨⟨fun N => Classical.choose (f1 N), fun r d => Classical.choose (f2 r d)⟩, fun N => Classical.choose_spec (f1 N), fun r d => Classical.choose_spec (f2 r d)⟩
  exact ⟨fun a b => Classical.choose (ex a b), fun a b => Classical.choose_spec (ex a b)⟩
theorem psW_pieces (B : Pb) (T : Nat → Nat → Ent) (i j r : Nat) (ss : List Str) : piecesOf B.G (fun a b s => headC B T s a b) T i j r ss = psW B T i j r ss := rfl
theorem EntK.tupS {A B : Hp} (u : TupS A B) {G : List Rule} {kvs : List (List Key × V)} {e : Ent} (h : EntK A G kvs e) : EntK B G kvs e :=
  ⟨fun N q => let ⟨v, e1, c⟩ := h.nm N q; ⟨v, e1, c.tupS u⟩, fun r d N ss h1 h2 => let ⟨v, e1, c⟩ := h.rs r d N ss h1 h2; ⟨v, e1, c.tupS u⟩, h.ks, h.nd⟩
section
variable {P : Program} {w : World} {K : PySem.W.Frag} {mg : Str → Option Value} {base : Heap}
theorem scFi : FnScope ["grammar", "prices", "row", "known", "leaves", "costs", "entries", "i", "j", "found", "pieces", "names", "key", "name"] ["grammar", "prices", "row", "known"] (defScope s_filled) := ⟨rfl, rfl, rfl, by decide +kernel, rfl, by decide +kernel, by decide +kernel⟩
structure GraK (G : List Rule) : Prop where
  own : ∀ r ∈ G, isLow r.1 = true
  name : ∀ r ∈ G, ∀ s ∈ r.2, isLow s = true → ∃ q ∈ G, q.1 = s
  few : ∀ r ∈ G, r.2.length ≤ 20
  rules : G.length ≤ 40
  kinds : ∃ Ks : List Str, Ks.length ≤ 60 ∧ ∀ x, kindIn G x → x ∈ Ks
theorem GraK.graW {G : List Rule} (h : GraK G) (Z : Prc) (row : List Str) (kn : Nat → Nat → Option Ent) : GraW (pbOf G Z row kn) := ⟨h.own, h.name, h.few, h.rules⟩
def spFi : Sp := fun vs H Q _ => ∃ (g t r kd : Addr) (G : List Rule) (Z : Prc) (row : List Str), vs = [.ref g, .ref t, .ref r, .ref kd] ∧ GraA H g G ∧ GraK G ∧ PrA H t Z ∧ PrcOk Z ∧ H r = some (.lst (row.map V.str)) ∧ row.length ≤ 60 ∧ H kd = some (.dT []) ∧
  ∀ (f : Addr) (H2 : Hp) (F : List (List Key × V)) (T : Nat → Nat → Ent), Same H H2 → H f = none → H2 f = some (.dT F) → TabK H2 G row.length F T → (∀ p ∈ F, ∃ d, p.2 = .ref d ∧ H d = none ∧ d ≠ f) → F.length ≤ 4000 → (∀ i j, LeastAt (pbOf G Z row kn0) (T i j) i j) → Q (.ref f) H2
theorem ok_fi {f fC fS fP fM fN : Addr} {fd fdC fdS fdP fdM fdN : FuncData} (F : Fun K "filled" "filled" s_filled f fd)
    (GC : FnOk P w K mg base CX0 3 fC fdC ["grammar", "prices", "row"] spLc) (kC : PySem.W.keepIn K (.ref fC) = true) (bC : Binds K fdC ["grammar", "prices", "row"] []) (gC : mg "leaf_costs" = some (.ref fC))
    (GS : FnOk P w K mg base CX0 1 fS fdS ["many"] spSh) (kS' : PySem.W.keepIn K (.ref fS) = true) (bS : Binds K fdS ["many"] []) (gS : mg "shorter_first" = some (.ref fS))
    (GP : FnOk P w K mg base CX0 3 fP fdP ["grammar", "costs", "entries", "i", "j"] spPs) (kP : PySem.W.keepIn K (.ref fP) = true) (bP : Binds K fdP ["grammar", "costs", "entries", "i", "j"] []) (gP : mg "_pieces" = some (.ref fP))
    (GM : FnOk P w K mg base CX0 4 fM fdM ["grammar", "leaves", "pieces"] spMe) (kM : PySem.W.keepIn K (.ref fM) = true) (bM : Binds K fdM ["grammar", "leaves", "pieces"] []) (gM : mg "_made_entries" = some (.ref fM))
    (GN : FnOk P w K mg base CX0 1 fN fdN ["grammar"] spNames) (kN' : PySem.W.keepIn K (.ref fN) = true) (bN : Binds K fdN ["grammar"] []) (gN : mg "names_of" = some (.ref fN))
    (ml : mg "len" = none) : FnOk P w K mg base CX0 5 f fd ["grammar", "prices", "row", "known"] spFi := by
  refine F.ok scFi (fun vs H Q E h => ?_) (fun cdv A outer s H vs Q E hr h => ?_)
  · obtain ⟨g, t, r, kd, G, Z, row, rfl, _⟩ := h
    rfl
  · obtain ⟨g, t, r, kd, G, Z, row, rfl, hG, gk, hZ, ok, hrow, len, hkd, q⟩ := h
    have hu := units1 hr
    have hr1 := hr.mono (show 1 ≤ 4 by decide)
    have hr3 := hr.mono (show 3 ≤ 4 by decide)
    refine ⟨_, pss_cons (ps_set (i := 4) scFi.nd rfl (.inl rfl) (pe_call GC hr3 (by rfl) gC kC bC .nil pass0 (pa_cons (pv 0) (pa_cons (pv 1) (pa_cons (pv 2) pa_nil)))))
      (pss_cons (ps_set (i := 5) scFi.nd rfl (.inl rfl) pe_dnewT)
      (pss_cons (ps_set (i := 6) scFi.nd rfl (.inl rfl) pe_dnewT)
      (pss_cons (ps_for PassesOwn.never rfl (pi_list (pe_call GS hr1 (by rfl) gS kS' bS .nil pass0 (pa_cons (pe_callB call_len_seq (by rfl) ml PySem.boot_len (pa_cons (pv 2) pa_nil)) pa_nil))) (pg_tup rfl (pgs_cons (pg_name (i := 7) scFi.nd rfl (.inr rfl)) (pgs_cons (pg_name (i := 8) scFi.nd rfl (.inr rfl)) pgs_nil)))
        (pss_cons (ps_if (pt_cmp (pc_din hu (pe_tup (pa_cons (pv 7) (pa_cons (pv 8) pa_nil))) (pv 3)) (by rfl))
          (pss_one (ps_set (i := 9) scFi.nd rfl (.inr rfl) (Lc.pe_dicT (own := [("key", 12)]) (g := gName 12) (tk := tVar 12) (tv := tDGet (tDGet (tVar 3) (tTup (tCons (tVar 7) (tCons (tVar 8) tNil)))) (tVar 12)) hu rfl scFi.nd (pi_keys (pe_dget hu (pv 3) (pe_tup (pa_cons (pv 7) (pa_cons (pv 8) pa_nil))) (fun _ _ => rfl)))
              (blkOk_by (own := [("key", 12)]) (N := ["grammar", "prices", "row", "known", "leaves", "costs", "entries", "i", "j", "found", "pieces", "names", "key", "name"]) (sc := defScope s_filled) (by decide +kernel))
              (fun _ _ _ _ _ => pg_name (i := 12) scFi.nd rfl (.inl rfl) (.inr rfl)) (fun _ _ _ _ _ => pts_nil) (fun _ _ _ _ _ => pv 12)
              (fun _ _ _ _ _ => pe_dget hu (pe_dget hu (pv 3) (pe_tup (pa_cons (pv 7) (pa_cons (pv 8) pa_nil))) (fun _ _ => rfl)) (pv 12) (fun _ _ => rfl)))))
          (pss_cons (ps_set (i := 10) scFi.nd rfl (.inl rfl) (pe_call GP hr3 (by rfl) gP kP bP .nil pass0 (pa_cons (pv 0) (pa_cons (pv 5) (pa_cons (pv 6) (pa_cons (pv 7) (pa_cons (pv 8) pa_nil)))))))
          (pss_one (ps_set (i := 9) scFi.nd rfl (.inr rfl) (pe_call GM hr (by rfl) gM kM bM .nil pass0 (pa_cons (pv 0) (pa_cons (pe_dget hu (pv 4) (pe_tup (pa_cons (pv 7) (pa_cons (pv 8) pa_nil))) (fun _ _ => rfl)) (pa_cons (pv 10) pa_nil))))))))
        (pss_cons (ps_dput hu (pv 6) (pe_tup (pa_cons (pv 7) (pa_cons (pv 8) pa_nil))) (pv 9) (by rfl))
        (pss_cons (Lc.ps_setDicK (i := 11) (own := [("name", 13)]) (g := gName 13) (tk := tVar 13) (tv := tDGet1 (tVar 9) (tTup (tCons (tC (.str "name")) (tCons (tVar 13) tNil)))) rfl scFi.nd rfl rfl rfl (pi_list (pe_call GN hr1 (by rfl) gN kN' bN .nil pass0 (pa_cons (pv 0) pa_nil)))
            (blkOk_by (own := [("name", 13)]) (N := ["grammar", "prices", "row", "known", "leaves", "costs", "entries", "i", "j", "found", "pieces", "names", "key", "name"]) (sc := defScope s_filled) (by decide +kernel))
            (fun _ _ _ _ _ => pg_name (i := 13) scFi.nd rfl (.inl rfl) (.inr rfl)) (fun _ _ _ _ _ => pts_nil) (fun _ _ _ _ _ => pv 13)
            (fun _ _ _ _ _ => pe_dget1 hu (pv 9) (pe_tup (pa_cons pe_str (pa_cons (pv 13) pa_nil))) ⟨rfl, rfl, rfl, rfl⟩))
        (pss_one (ps_dput hu (pv 5) (pe_tup (pa_cons (pv 7) (pa_cons (pv 8) pa_nil))) (Un.pe_unpack (pe_dget hu (pv 4) (pe_tup (pa_cons (pv 7) (pa_cons (pv 8) pa_nil))) (fun _ _ => rfl)) (pv 11)) (by rfl)))))))
      (pss_one (ps_ret (pv 6)))))), ?_⟩
    obtain ⟨Ks, kfew, kin⟩ := gk.kinds
    have pok := kn0_ok (G := G) ok row
    obtain ⟨T, hT⟩ := least_table pok
    have gw := gk.graW Z row kn0
    refine ⟨_, rfl, _, rfl, _, rfl, g, t, r, G, Z, row, Ks, rfl, hG, gk.rules, gk.few, kin, kfew, hZ, ok, hrow, len, fun lf CL H1 s1 nlf hlf leaves => ?_⟩
    intro cd ncd
    have s2 : Same H1 (upd H1 cd (.dT [])) := same_upd ncd
    have hcd0 : upd H1 cd (.dT []) cd = some (.dT []) := upd_same
    generalize upd H1 cd (.dT []) = H2 at s2 hcd0
    intro ed ned
    have s3 : Same H2 (upd H2 ed (.dT [])) := same_upd ned
    have hed0 : upd H2 ed (.dT []) ed = some (.dT []) := upd_same
    generalize upd H2 ed (.dT []) = H3 at s3 hed0
    have s12 := s1.trans s2
    have s13 := s12.trans s3
    have ce : cd ≠ ed := ne_of_none hcd0 ned
    refine ⟨_, rfl, r, _, rfl, .inl (SqL.of (s13 _ _ hrow)), (row.map V.str).length, rfl, by rw [List.length_map]; exact len, fun sp ws Hb s5 nsp hsp relS => ⟨sp, rfl, ⟨_, SqL.of hsp⟩, ?_⟩⟩
    rw [List.length_map] at relS
    have sHb := s13.trans s5
    have ncdH : H cd = none := s1.free ncd
    have nedH : H ed = none := s12.free ned
    have hcdb := s5 _ _ (s3 _ _ hcd0)
    have hedb := s5 _ _ hed0
    have hlfb := s5 _ _ (s3 _ _ (s2 _ _ hlf))
    have s1b := (s2.trans s3).trans s5
    have lws := relS.len
    have shl : (shorter row.length).length ≤ 3721 := by
      rcases shorter_all row.length with z | z <;> omega
    have apartB : ∀ {b : Addr} {o : HO}, Hb b = some o → (∀ kv, o ≠ .dT kv) → b ≠ cd ∧ b ≠ ed := fun {b o} e no => ⟨fun z => by rw [z, hcdb] at e; exact no _ (Option.some.inj e).symm, fun z => by rw [z, hedb] at e; exact no _ (Option.some.inj e).symm⟩
    have lf_cd : lf ≠ cd := ne_of_none hlf ncd
    have lf_ed : lf ≠ ed := ne_of_none (s2 _ _ hlf) ned
    refine for_list (a := sp) (xs := ws) (fun n σ H' => ∃ (v7 v8 v9 v10 v11 : Option V) (C E : List (List Key × V)), σ = [some (.ref g), some (.ref t), some (.ref r), some (.ref kd), some (.ref lf), some (.ref cd), some (.ref ed), v7, v8, v9, v10, v11, none, none] ∧ (∀ b o, b ≠ cd → b ≠ ed → Hb b = some o → H' b = some o) ∧
        H' cd = some (.dT C) ∧ C.length ≤ n ∧ H' ed = some (.dT E) ∧ E.length ≤ n ∧
        (∀ a b, (a, b) ∈ (shorter row.length).take n → ∃ d kvs, valV C (kS a b) = some (.ref d) ∧ d ≠ cd ∧ d ≠ ed ∧ H' d = some (.dK kvs) ∧ ∀ ru ∈ G, ∀ s ∈ ru.2, ∃ v, valV kvs (Sum.inr s) = some v ∧ CostV H' v (headC (pbOf G Z row kn0) T s a b)) ∧
        (∀ a b, (a, b) ∈ (shorter row.length).take n → ∃ d kvs, valV E (kS a b) = some (.ref d) ∧ d ≠ cd ∧ d ≠ ed ∧ H' d = some (.dT kvs) ∧ EntK H' G kvs (T a b)) ∧
        (∀ p ∈ E, ∃ a b, (a, b) ∈ (shorter row.length).take n ∧ p.1 = kS a b) ∧ (E.map (·.1)).Nodup ∧ (∀ p ∈ E, ∀ q ∈ E, p.2 = q.2 → p.1 = q.1) ∧ ∀ p ∈ E, ∃ d kvs, p.2 = .ref d ∧ H' d = some (.dT kvs) ∧ Hb d = none ∧ d ≠ ed)
      ⟨none, none, none, none, none, [], [], rfl, fun b o _ _ e => e, hcdb, Nat.le_refl _, hedb, Nat.le_refl _, (fun a b m => by simp at m), (fun a b m => by simp at m), (fun p m => nomatch m), List.nodup_nil, (fun p m => nomatch m), fun p m => nomatch m⟩
      (fun n σ H' _ ⟨_, _, _, _, _, _, _, _, but, _⟩ => SqL.of (but _ _ (apartB hsp fun _ z => by cases z).1 (apartB hsp fun _ z => by cases z).2 hsp)) ?_ ?_
    · rintro n x σ H' hx ⟨v7, v8, v9, v10, v11, C, E, rfl, but, hcd, Cl, hed, El, allC, allE, inE, ndE, apE, frE⟩
      obtain ⟨⟨i, j⟩, hp0, a0, rfl, ha0⟩ := relS.get hx
      obtain ⟨ij, jn⟩ := mem_shorter.mp (List.mem_of_getElem? hp0)
      have nl' : n < (shorter row.length).length := (List.getElem?_eq_some_iff.mp hp0).1
      obtain ⟨a1, a2⟩ := apartB ha0 fun _ z => by cases z
      have bH : Same H H' := fun b o e => but b o (fun z => by rw [z, ncdH] at e; cases e) (fun z => by rw [z, nedH] at e; cases e) (sHb b o e)
      have tB : TupS Hb H' := fun b xs e => by
        obtain ⟨z1, z2⟩ := apartB e fun _ z => by cases z
        exact but _ _ z1 z2 e
      have hG' := hG.up (Up.of_same bH)
      have hlf' := but _ _ lf_cd lf_ed hlfb
      refine ⟨a0, _, rfl, SqT.of (but _ _ a1 a2 ha0), rfl, _, _, rfl, _, _, rfl, rfl, ?_⟩
      -- nothing is known
      refine ⟨_, rfl, _, rfl, (by show 2 ≤ sizeLine; decide), fun k0 nk0 => ?_⟩
      have u0 : Same H' (upd H' k0 (.tup [.int (i : Nat), .int (j : Nat)])) := same_upd nk0
      have hk0 : upd H' k0 (.tup [.int (i : Nat), .int (j : Nat)]) k0 = some (.tup ((kS i j).map kV)) := upd_same
      generalize upd H' k0 (.tup [.int (i : Nat), .int (j : Nat)]) = A0 at u0 hk0
      refine ⟨_, rfl, kd, none, rfl, DGet.t (k := kS i j) (u0 _ _ (bH _ _ hkd)) hk0, _, rfl, iteF ?_⟩
      -- the pieces
      have u0H := bH.trans u0
      refine ⟨_, rfl, _, rfl, _, rfl, _, rfl, _, rfl, g, cd, ed, G, C, E, i, j, (fun a b s => headC (pbOf G Z row kn0) T s a b), T, rfl, hG.up (Up.of_same u0H), gk.rules, (fun ru hru => by have := gk.few ru hru; omega), u0 _ _ hcd, u0 _ _ hed, ij, by omega, fun k hk => ?_, fun k hk => ?_, ?_⟩
      · obtain ⟨d, kvs, e1, _, _, e2, e3⟩ := allC i (i + k) (shorter_ahead hp0 (by omega) (by omega) (by omega))
        refine ⟨d, kvs, e1, u0 _ _ e2, fun ru hru s hs => ?_⟩
        obtain ⟨v, ev, cv⟩ := e3 ru hru s hs
        exact ⟨v, ev, cv.same u0⟩
      · obtain ⟨d, kvs, e1, _, _, e2, e3⟩ := allE (i + 1 + k) j (shorter_ahead hp0 (by omega) jn (by omega))
        exact ⟨d, kvs, e1, u0 _ _ e2, e3.up (Up.of_same u0)⟩
      refine ⟨fun eij pl A1 s6 npl hpl => ?a, fun lt pl pv A1 s6 npl hpl lpv fx => ?b⟩
      case' a =>
        obtain ⟨pv, epv, lpv, fpv⟩ : ∃ pv, A1 pl = some (.lst pv) ∧ pv.length = G.length ∧ ∀ r N ss, G[r]? = some (N, ss) → ∃ v, pv[r]? = some v ∧ ((i = j ∧ v = .non) ∨ (i < j ∧ PcsA A1 v (psW (pbOf G Z row kn0) T i j r ss))) :=
          ⟨_, hpl, List.length_replicate, fun r N ss h => ⟨.non, by rw [List.getElem?_replicate, if_pos (List.getElem?_eq_some_iff.mp h).1], .inl ⟨eij, rfl⟩⟩⟩
        clear hpl
      case' b =>
        have fpv : ∀ r N ss, G[r]? = some (N, ss) → ∃ v, pv[r]? = some v ∧ ((i = j ∧ v = .non) ∨ (i < j ∧ PcsA A1 v (psW (pbOf G Z row kn0) T i j r ss))) := fun r N ss h => by
          obtain ⟨v, ev, c⟩ := fx r N ss h
          exact ⟨v, ev, .inr ⟨lt, c⟩⟩
        have epv := hpl
        clear fx hpl
      all_goals
        have u1 := u0.trans s6
        have u1H := bH.trans u1
        obtain ⟨dl, edl, ndl, lv, hdl, len60, ndk, lvf⟩ := leaves i j ij jn
        have dl_cd : dl ≠ cd := ne_of_none hdl ncd
        have dl_ed : dl ≠ ed := ne_of_none (s2 _ _ hdl) ned
        have hdl' := but _ _ dl_cd dl_ed (s1b _ _ hdl)
        have gdl : ∀ {A : Hp} {k : Addr}, Same H' A → A k = some (.tup ((kS i j).map kV)) → DGet A lf (.ref k) (some (.ref dl)) := fun {A k} u hk => by
          have := DGet.t (k := kS i j) (u _ _ hlf') hk
          rw [edl] at this
          exact this
        refine ⟨_, rfl, _, rfl, _, rfl, _, rfl, (by show 2 ≤ sizeLine; decide), fun kt nkt => ?_⟩
        have u2 : Same A1 (upd A1 kt (.tup [.int (i : Nat), .int (j : Nat)])) := same_upd nkt
        have hkt : upd A1 kt (.tup [.int (i : Nat), .int (j : Nat)]) kt = some (.tup ((kS i j).map kV)) := upd_same
        generalize upd A1 kt (.tup [.int (i : Nat), .int (j : Nat)]) = A2 at u2 hkt
        have u02 := u1.trans u2
        refine ⟨lf, .ref dl, rfl, gdl u02 hkt, _, rfl, g, dl, pl, pbOf G Z row kn0, T, i, j, pv, rfl, hG.up (Up.of_same (bH.trans u02)), gw, pok, ⟨lv, u02 _ _ hdl', by omega, ndk, fun ru hru s hs n => ?_⟩, u2 _ _ epv, lpv, fun r N ss h => ?_, ij, fun a b _ _ _ _ => hT a b, rfl, fun p kvs A3 e s7 np hp ek le => ?_⟩
        · obtain ⟨v, ev, cv⟩ := lvf s ⟨ru, hru, hs, fun m => by
            obtain ⟨r2, h2, e2⟩ := names_mem.mp m
            have := gk.own r2 h2
            rw [e2] at this
            rw [show (pbOf G Z row kn0).isN s = isLow s from rfl, this] at n
            cases n⟩
          exact ⟨v, ev, ((cv.same s1b).tupS tB).same u02⟩
        · obtain ⟨v, ev, c⟩ := fpv r N ss h
          exact ⟨v, ev, c.imp id fun z => ⟨z.1, z.2.same u2⟩⟩
        rw [ent_agree le (hT i j)] at ek
        have u3 := u02.trans s7
        have hed3 := u3 _ _ hed
        have hcd3 := u3 _ _ hcd
        have p_ed : p ≠ ed := Ne.symm (ne_of_none (u02 _ _ hed) np)
        have p_cd : p ≠ cd := Ne.symm (ne_of_none (u02 _ _ hcd) np)
        refine ⟨_, rfl, _, rfl, _, rfl, _, rfl, (by show 2 ≤ sizeLine; decide), fun k1 nk1 => ?_⟩
        have u4 : Same A3 (upd A3 k1 (.tup [.int (i : Nat), .int (j : Nat)])) := same_upd nk1
        have hk1 : upd A3 k1 (.tup [.int (i : Nat), .int (j : Nat)]) k1 = some (.tup ((kS i j).map kV)) := upd_same
        generalize upd A3 k1 (.tup [.int (i : Nat), .int (j : Nat)]) = A4 at u4 hk1
        have u04 := u3.trans u4
        have hed4 := u4 _ _ hed3
        refine ⟨ed, _, rfl, .inr ⟨E, kS i j, k1, hed4, rfl, hk1, million1 (by omega), rfl⟩, ?_⟩
        have t5 : TupS A4 (upd A4 ed (.dT (putK E (kS i j) (.ref p)))) := TupS.at_dT hed4
        have keep5 : ∀ b o, b ≠ ed → H' b = some o → upd A4 ed (.dT (putK E (kS i j) (.ref p))) b = some o := fun b o nb e => by
          rw [upd_ne nb]
          exact u04 _ _ e
        have hed5 : upd A4 ed (.dT (putK E (kS i j) (.ref p))) ed = some (.dT (putK E (kS i j) (.ref p))) := upd_same
        have hp5 : upd A4 ed (.dT (putK E (kS i j) (.ref p))) p = some (.dT kvs) := by
          rw [upd_ne p_ed]
          exact u4 _ _ hp
        have ek5 : EntK (upd A4 ed (.dT (putK E (kS i j) (.ref p)))) G kvs (T i j) := (ek.up (Up.of_same u4)).tupS t5
        have t05 : TupS H' (upd A4 ed (.dT (putK E (kS i j) (.ref p)))) := fun b xs e => t5 b xs (u04 _ _ e)
        have hcd5 := keep5 _ _ ce hcd
        have nHbp : Hb p = none := by
          cases e : Hb p with
          | none => rfl
          | some o =>
            have := u02 _ _ (but p o p_cd p_ed e)
            rw [np] at this
            cases this
        generalize upd A4 ed (.dT (putK E (kS i j) (.ref p))) = A5 at t5 keep5 hed5 hp5 ek5 t05 hcd5
        have sH5 : Same H A5 := fun b o e => keep5 b o (fun z => by rw [z, nedH] at e; cases e) (bH b o e)
        -- the costs of the names
        refine ⟨_, rfl, g, G, rfl, hG.up (Up.of_same sH5), gk.rules, fun nl A6 s9 nnl hnl => ⟨nl, rfl, ⟨_, SqL.of hnl⟩, fun D nD => ?_⟩⟩
        have nlen := names_len G
        have grl := gk.rules
        refine Lc.wk_by (walk_list (K := K) (a := nl) (xs := (namesOf G).map V.str)) (fun m H2 => ∃ ns, Same A6 H2 ∧ H2 D = some (.dK ns) ∧ (∀ N ∈ (namesOf G).take m, ∃ v, valV ns (Sum.inr N) = some v ∧ CostV H2 v ((T i j).nm N)) ∧ (∀ q ∈ ns, ∃ N ∈ namesOf G, q.1 = Sum.inr N) ∧ ns.length ≤ m ∧ (ns.map (·.1)).Nodup)
          ⟨[], same_upd nD, upd_same, (fun N m => by simp at m), (fun q m => nomatch m), Nat.le_refl _, List.nodup_nil⟩ (fun m H2 _ ⟨_, s', _⟩ => SqL.of (s' _ _ hnl)) ?_ ?_
        · rintro m x B1 B2 hm ⟨ns, s', hD, all, only, len, nd⟩ ⟨rfl, hx⟩
          obtain ⟨y, hy, rfl⟩ := str_at hx
          refine ⟨rfl, ?_⟩
          unfold tYes
          simp only [if_true]
          have hm : m < (namesOf G).length := (List.getElem?_eq_some_iff.mp hy).1
          have s9' := s9.trans s'
          refine ⟨_, rfl, _, rfl, p, rfl, .inr ⟨kvs, .inl (s9' _ _ hp5)⟩, _, rfl, (by show 2 ≤ sizeLine; decide), fun t nt => ?_⟩
          have st : Same B2 (upd B2 t (.tup [.str "name", .str y])) := same_upd nt
          have ht : upd B2 t (.tup [.str "name", .str y]) t = some (.tup ((kN y).map kV)) := upd_same
          generalize upd B2 t (.tup [.str "name", .str y]) = B3 at st ht
          have s9B := s9'.trans st
          obtain ⟨vN, eN, cN⟩ := ek5.nm y (names_mem.mp (List.mem_of_getElem? hy))
          have gd := DGet.t (k := kN y) (s9B _ _ hp5) ht
          rw [eN] at gd
          have hD3 := st _ _ hD
          have tD : TupS B3 (upd B3 D (.dK (putK ns (Sum.inr y) vN))) := fun b xs e => by rw [upd_ne (fun z => by rw [z, hD3] at e; cases e)]; exact e
          refine ⟨_, gd, ns, Sum.inr y, rfl, hD3, million1 (by omega), putK ns (Sum.inr y) vN, same_put (s'.trans st) nD, upd_same, fun N m => ?_, fun q m => ?_, ?_, putK_keys.2 nd⟩
          · rw [List.take_add_one, hy] at m
            rw [valV_put]
            by_cases z : N = y
            · rw [if_pos (by rw [z])]
              exact ⟨_, rfl, by rw [z]; exact (cN.same s9B).tupS tD⟩
            · rw [if_neg (fun q => z (Sum.inr.inj q))]
              rcases List.mem_append.mp m with m | m
              · obtain ⟨v, ev, cv⟩ := all N m
                exact ⟨v, ev, (cv.same st).tupS tD⟩
              · exact absurd (by simpa using m) z
          · rcases putK_keys.1 q m with m | rfl
            · exact only q m
            · exact ⟨y, List.mem_of_getElem? hy, rfl⟩
          · have := length_putK ns (Sum.inr y) vN
            omega
        rintro A7 ⟨ns, s10, hD, all, only, nsl, nsd⟩
        rw [List.length_map, List.take_length] at all
        rw [List.length_map] at nsl
        have u57 := s9.trans s10
        -- both in one
        intro q7 nq7
        have u8 : Same A7 (upd A7 q7 (.dK [])) := same_upd nq7
        have hq8 : upd A7 q7 (.dK []) q7 = some (.dK []) := upd_same
        generalize upd A7 q7 (.dK []) = A8 at u8 hq8
        refine ⟨_, rfl, _, rfl, _, rfl, (by show 2 ≤ sizeLine; decide), fun k2 nk2 => ?_⟩
        have u9 : Same A8 (upd A8 k2 (.tup [.int (i : Nat), .int (j : Nat)])) := same_upd nk2
        have hk2 : upd A8 k2 (.tup [.int (i : Nat), .int (j : Nat)]) k2 = some (.tup ((kS i j).map kV)) := upd_same
        generalize upd A8 k2 (.tup [.int (i : Nat), .int (j : Nat)]) = A9 at u9 hk2
        have hdl7 := u57 _ _ (keep5 _ _ dl_ed hdl')
        have hlf7 := u57 _ _ (keep5 _ _ lf_ed hlf')
        have dl_q : dl ≠ q7 := ne_of_none hdl7 nq7
        have D_q : D ≠ q7 := ne_of_none hD nq7
        have gd9 := DGet.t (k := kS i j) (u9 _ _ (u8 _ _ hlf7)) hk2
        rw [edl] at gd9
        have ml1 := Un.mrg_len lv []
        have grl := gk.rules
        have nlen := names_len G
        refine ⟨lf, .ref dl, rfl, gd9, dl, lv, rfl, dl_q, u9 _ _ (u8 _ _ hdl7), u9 _ _ hq8, _, rfl, D, ns, rfl, D_q, ?_, upd_same, million0 (by omega), ?_⟩
        · rw [upd_ne D_q]
          exact u9 _ _ (u8 _ _ hD)
        rw [upd_upd]
        have u10 : Same A7 (upd A9 q7 (.dK (Un.mrg (Un.mrg [] lv) ns))) := same_put (u8.trans u9) nq7
        have hq10 : upd A9 q7 (.dK (Un.mrg (Un.mrg [] lv) ns)) q7 = some (.dK (Un.mrg (Un.mrg [] lv) ns)) := upd_same
        generalize upd A9 q7 (.dK (Un.mrg (Un.mrg [] lv) ns)) = A10 at u10 hq10
        refine ⟨_, rfl, _, rfl, _, rfl, (by show 2 ≤ sizeLine; decide), fun k3 nk3 => ?_⟩
        have u11 : Same A10 (upd A10 k3 (.tup [.int (i : Nat), .int (j : Nat)])) := same_upd nk3
        have hk3 : upd A10 k3 (.tup [.int (i : Nat), .int (j : Nat)]) k3 = some (.tup ((kS i j).map kV)) := upd_same
        generalize upd A10 k3 (.tup [.int (i : Nat), .int (j : Nat)]) = A11 at u11 hk3
        have u511 := (u57.trans u10).trans u11
        have hcd11 := u511 _ _ hcd5
        refine ⟨cd, _, rfl, .inr ⟨C, kS i j, k3, hcd11, rfl, hk3, million1 (by omega), rfl⟩, ?_⟩
        have t12 : TupS A11 (upd A11 cd (.dT (putK C (kS i j) (.ref q7)))) := TupS.at_dT hcd11
        have q_cd : q7 ≠ cd := Ne.symm (ne_of_none (u57 _ _ hcd5) nq7)
        have q_ed : q7 ≠ ed := Ne.symm (ne_of_none (u57 _ _ hed5) nq7)
        have hed12 : upd A11 cd (.dT (putK C (kS i j) (.ref q7))) ed = some (.dT (putK E (kS i j) (.ref p))) := by
          rw [upd_ne (Ne.symm ce)]
          exact u511 _ _ hed5
        have hp12 : upd A11 cd (.dT (putK C (kS i j) (.ref q7))) p = some (.dT kvs) := by
          rw [upd_ne p_cd]
          exact u511 _ _ hp5
        have hq12 : upd A11 cd (.dT (putK C (kS i j) (.ref q7))) q7 = some (.dK (Un.mrg (Un.mrg [] lv) ns)) := by
          rw [upd_ne q_cd]
          exact u11 _ _ hq10
        have keep12 : ∀ b o, b ≠ cd → b ≠ ed → H' b = some o → upd A11 cd (.dT (putK C (kS i j) (.ref q7))) b = some o := fun b o n1 n2 e => by
          rw [upd_ne n1]
          exact u511 _ _ (keep5 b o n2 e)
        have hcd12 : upd A11 cd (.dT (putK C (kS i j) (.ref q7))) cd = some (.dT (putK C (kS i j) (.ref q7))) := upd_same
        have t7 : TupS A7 (upd A11 cd (.dT (putK C (kS i j) (.ref q7)))) := fun b xs e => t12 b xs (u11 _ _ (u10 _ _ e))
        have ek12 : EntK (upd A11 cd (.dT (putK C (kS i j) (.ref q7)))) G kvs (T i j) := (ek5.up (Up.of_same u511)).tupS t12
        have tH12 : TupS H' (upd A11 cd (.dT (putK C (kS i j) (.ref q7)))) := fun b xs e => t12 b xs (u511 _ _ (t05 b xs e))
        generalize upd A11 cd (.dT (putK C (kS i j) (.ref q7))) = A12 at t12 hed12 hp12 hq12 keep12 hcd12 t7 ek12 tH12
        have heads : ∀ ru ∈ G, ∀ s ∈ ru.2, ∃ v, valV (Un.mrg (Un.mrg [] lv) ns) (Sum.inr s) = some v ∧ CostV A12 v (headC (pbOf G Z row kn0) T s i j) := fun ru hru s hs => by
          cases n : isLow s with
          | true =>
            obtain ⟨v, ev, cv⟩ := all s (names_mem.mpr (gk.name ru hru s hs n))
            refine ⟨v, Un.mrg_in (fun q hq e => ?_) (.inr ⟨(Sum.inr s, v), valV_from ev, rfl⟩), ?_⟩
            · have := valV_nd nsd q hq
              rw [e, ev] at this
              exact (Option.some.inj this).symm
            · rw [show headC (pbOf G Z row kn0) T s i j = (T i j).nm s from if_pos n]
              exact cv.tupS t7
          | false =>
            have notin : s ∉ namesOf G := fun m => by
              obtain ⟨r2, h2, e2⟩ := names_mem.mp m
              have := gk.own r2 h2
              rw [e2, n] at this
              cases this
            obtain ⟨v, ev, cv⟩ := lvf s ⟨ru, hru, hs, notin⟩
            refine ⟨v, ?_, ?_⟩
            · rw [Un.mrg_out fun q hq e => by
                obtain ⟨N, hN, e2⟩ := only q hq
                rw [e] at e2
                exact notin (Sum.inr.inj e2 ▸ hN)]
              refine Un.mrg_in (fun q hq e => ?_) (.inr ⟨(Sum.inr s, v), valV_from ev, rfl⟩)
              have := valV_nd ndk q hq
              rw [e, ev] at this
              exact (Option.some.inj this).symm
            · rw [show headC (pbOf G Z row kn0) T s i j = some (leafP Z row s i j, 1) from if_neg (show ¬ isLow s = true by rw [n]; exact Bool.false_ne_true)]
              exact ((cv.same s1b).tupS tB).tupS tH12
        have neS : ∀ {a b : Nat}, (a, b) ∈ (shorter row.length).take n → kS a b ≠ kS i j := fun {a b} m z => by
          obtain ⟨z1, z2⟩ := kS_inj z
          rw [z1, z2] at m
          exact shorter_here hp0 m
        refine ⟨_, _, _, _, _, putK C (kS i j) (.ref q7), putK E (kS i j) (.ref p), rfl, fun b o n1 n2 e => keep12 b o n1 n2 (but b o n1 n2 e), hcd12, ?_, hed12, ?_, fun a b hab => ?_, fun a b hab => ?_, fun x hx => ?_, putK_keys.2 ndE, fun x hx y hy e => ?_, fun x hx => ?_⟩
        · have := length_putK C (kS i j) (V.ref q7)
          omega
        · have := length_putK E (kS i j) (V.ref p)
          omega
        · rw [List.take_add_one, hp0] at hab
          rcases List.mem_append.mp hab with m | m
          · obtain ⟨d, kv, e1, n1, n2, e2, e3⟩ := allC a b m
            refine ⟨d, kv, by rw [valV_put, if_neg (neS m)]; exact e1, n1, n2, keep12 _ _ n1 n2 e2, fun ru hru s hs => ?_⟩
            obtain ⟨v, ev, cv⟩ := e3 ru hru s hs
            exact ⟨v, ev, cv.tupS tH12⟩
          · cases List.mem_singleton.mp m
            exact ⟨q7, _, by rw [valV_put, if_pos rfl], q_cd, q_ed, hq12, heads⟩
        · rw [List.take_add_one, hp0] at hab
          rcases List.mem_append.mp hab with m | m
          · obtain ⟨d, kv, e1, n1, n2, e2, e3⟩ := allE a b m
            exact ⟨d, kv, by rw [valV_put, if_neg (neS m)]; exact e1, n1, n2, keep12 _ _ n1 n2 e2, e3.tupS tH12⟩
          · cases List.mem_singleton.mp m
            exact ⟨p, kvs, by rw [valV_put, if_pos rfl], p_cd, p_ed, hp12, ek12⟩
        · rcases putK_keys.1 x hx with m | rfl
          · obtain ⟨a, b, m2, e⟩ := inE x m
            exact ⟨a, b, by rw [List.take_add_one]; exact List.mem_append_left _ m2, e⟩
          · exact ⟨i, j, by rw [List.take_add_one, hp0]; exact List.mem_append_right _ List.mem_cons_self, rfl⟩
        · have old : ∀ z ∈ E, z.2 ≠ .ref p := fun z hz e => by
            obtain ⟨d, kv, e2, h2, _⟩ := frE z hz
            rw [e] at e2
            cases e2
            have := u02 _ _ h2
            rw [np] at this
            cases this
          rcases putK_keys.1 x hx with m | rfl <;> rcases putK_keys.1 y hy with m2 | rfl
          · exact apE x m y m2 e
          · exact absurd e (old x m)
          · exact absurd e.symm (old y m2)
          · rfl
        · rcases putK_keys.1 x hx with m | rfl
          · obtain ⟨d, kv, e, h1, h2, h3⟩ := frE x m
            exact ⟨d, kv, e, keep12 _ _ (fun z => by rw [z, hcdb] at h2; cases h2) h3 h1, h2, h3⟩
          · exact ⟨p, kvs, rfl, hp12, nHbp, p_ed⟩
    · rintro σ H' ⟨v7, v8, v9, v10, v11, C, E, rfl, but, hcd, Cl, hed, El, allC, allE, inE, ndE, apE, frE⟩
      have tk : (shorter row.length).take ws.length = shorter row.length := by rw [lws, List.take_length]
      rw [tk] at allE inE
      have bH : Same H H' := fun b o e => but b o (fun z => by rw [z, ncdH] at e; cases e) (fun z => by rw [z, nedH] at e; cases e) (sHb b o e)
      refine ⟨_, rfl, q ed H' E T bH nedH hed ⟨fun i j ij jn => ?_, fun p hp => ?_, ndE, apE⟩ (fun p hp => ?_) (by omega) hT⟩
      · obtain ⟨d, kvs, e1, _, _, e2, e3⟩ := allE i j (mem_shorter.mpr ⟨ij, jn⟩)
        exact ⟨d, kvs, e1, e2, e3⟩
      · obtain ⟨a, b, m, e⟩ := inE p hp
        obtain ⟨h1, h2⟩ := mem_shorter.mp m
        exact ⟨a, b, h1, h2, e⟩
      · obtain ⟨d, kvs, e, _, nd, ne⟩ := frE p hp
        exact ⟨d, e, sHb.free nd, ne⟩
end
end Ld

set_option Elab.async false
set_option linter.all false
set_option maxRecDepth 100000
set_option maxHeartbeats 4000000
/-! The law's own grammar. -/
namespace Ld
open PySem PySem.Spec PyProof.Rows L2 Lg Lr Lb
theorem pick_of {ss : List Str} {v : Int} (h0 : 0 ≤ v) (h1 : v < (ss.length : Int)) : ∃ s, (ss.map V.str)[v.toNat]? = some (V.str s) ∧ s ∈ ss := by
  have e : v.toNat < ss.length := by omega
  exact ⟨ss[v.toNat], by rw [List.getElem?_map, List.getElem?_eq_getElem e]; rfl, List.getElem_mem e⟩
def rLn (K : PySem.W.Frag) : List V → Hp → VK → Prop := fun xs H Q => ∃ p ys, xs = [V.ref p] ∧ (SqL K H p ys ∨ SqT K H p ys) ∧ Q (V.int (ys.length : Int)) H
section
variable {P : Program} {w : World} {K : PySem.W.Frag} {mg : Str → Option Value} {base : Heap}
theorem scGm : FnScope ["draws", "first", "names", "kinds", "rules", "k", "cell", "symbols", "size", "rule", "place", "out", "j"] ["draws", "first"] (defScope sGram) := ⟨rfl, rfl, rfl, by decide +kernel, rfl, by decide +kernel, by decide +kernel⟩
def spGramT (K : PySem.W.Frag) : Sp := fun vs H Q _ => ∃ (a : Addr) (ds : List Int) (first : Int), vs = [.ref a, .int first] ∧ H a = some (.lst (ds.map V.int)) ∧ 0 ≤ first ∧
  ∀ (g : Addr) (H2 : Hp) (G : List Rule), Same H H2 → GramT G → H g = none → GraA (News H H2) g G → Q (.ref g) H2
theorem ok_gramT {f fA : Addr} {fd fdA : FuncData} (F : Fun K "_law_grammar" "_law_grammar" sGram f fd)
    (GA : FnOk P w K mg base CX0 1 fA fdA ["draws", "k", "many"] (spAt K)) (kA : PySem.W.keepIn K (.ref fA) = true) (bA : Binds K fdA ["draws", "k", "many"] []) (gA : mg "_law_at" = some (.ref fA))
    (mr : mg "range" = none) (mi : mg "int" = none) (ml : mg "len" = none) : FnOk P w K mg base CX0 2 f fd ["draws", "first"] (spGramT K) := by
  refine F.ok scGm (fun vs H Q E h => ?_) (fun cdv A outer s H vs Q E hr h => ?_)
  · obtain ⟨a, ds, first, rfl, _⟩ := h
    rfl
  · obtain ⟨a, ds, first, rfl, ha, f0, q⟩ := h
    refine ⟨_, pss_cons (ps_set (i := 2) scGm.nd rfl (.inl rfl) (pe_slice sl_list (pe_lst (pa_cons pe_str (pa_cons pe_str (pa_cons pe_str (pa_cons pe_str pa_nil))))) po_none (po_some (pe_op op_add pe_int (pe_call GA hr (by rfl) gA kA bA .nil pass0 (pa_cons (pv 0) (pa_cons (pv 1) (pa_cons pe_int pa_nil))))))))
      (pss_cons (ps_set (i := 3) scGm.nd rfl (.inr rfl) (pe_slice sl_list (pe_lst (pa_cons pe_str (pa_cons pe_str (pa_cons pe_str pa_nil)))) po_none (po_some (pe_op op_add pe_int (pe_call GA hr (by rfl) gA kA bA .nil pass0 (pa_cons (pv 0) (pa_cons (pe_op op_add (pv 1) pe_int) (pa_cons pe_int pa_nil))))))))
      (pss_cons (ps_set (i := 4) scGm.nd rfl (.inl rfl) (pe_lst pa_nil))
      (pss_cons (ps_for PassesOwn.never rfl (pi_range1 rfl mr (pa_cons (pe_callB call_len_seq (by rfl) ml PySem.boot_len (pa_cons (pv 2) pa_nil)) pa_nil)) (pg_name (i := 5) scGm.nd rfl (.inl rfl))
        (pss_cons (ps_set (i := 6) scGm.nd rfl (.inr rfl) (pe_call GA hr (by rfl) gA kA bA .nil pass0 (pa_cons (pv 0) (pa_cons (pe_op op_add (pe_op op_add (pv 1) pe_int) (pv 5)) (pa_cons pe_int pa_nil)))))
        (pss_cons (ps_expr (pe_bm PySem.F.plainAttrs_list PySem.F.slot_list_append PySem.F.type_list_append mt_append (pv 4) (pa_cons (pe_tup (pa_cons (pe_ix ix_list (pv 2) (pv 5) (fun _ _ => rfl)) (pa_cons
            (pe_lc (own := [("j", 12)]) (g := gName 12) rfl scGm.nd (pi_range1 rfl mr (pa_cons (pe_op op_mod (pe_callTy call_int1 (by rfl) mi (by decide +kernel) (pa_cons (pv 6) pa_nil)) pe_int) pa_nil))
              (blkOk_by (N := ["draws", "first", "names", "kinds", "rules", "k", "cell", "symbols", "size", "rule", "place", "out", "j"]) (sc := defScope sGram) (by decide +kernel)) (fun _ _ _ _ _ => pg_name (i := 12) scGm.nd rfl (Or.inl rfl)) (fun _ _ _ _ _ => pts_nil)
              (fun _ _ _ _ _ => pe_ix (r := rIxL K) ix_list (pv 3) (pe_op op_mod (pe_callTy call_int1 (by rfl) mi (by decide +kernel) (pa_cons (pe_op op_fdiv (pv 6) (pe_op op_add (pv 12) pe_int)) pa_nil)) (pe_callB (r := rLn K) call_len_seq (by rfl) ml PySem.boot_len (pa_cons (pv 3) pa_nil))) (fun _ _ => rfl))) pa_nil))) pa_nil)))
        (pss_one (ps_if (pt_cmpR op_lt (pe_op op_add (pv 5) pe_int) (pe_callB call_len_seq (by rfl) ml PySem.boot_len (pa_cons (pv 2) pa_nil)) (nomark _))
          (pss_one (ps_expr (pe_bm PySem.F.plainAttrs_list PySem.F.slot_list_append PySem.F.type_list_append mt_append (pv 4) (pa_cons (pe_tup (pa_cons (pe_ix ix_list (pv 2) (pv 5) (fun _ _ => rfl)) (pa_cons
            (pe_op op_cat (pe_ix ix_list (pe_lst (pa_cons (pe_lst pa_nil) (pa_cons (pe_lst (pa_cons (pe_ix ix_list (pv 3) (pe_op op_mod (pe_callTy call_int1 (by rfl) mi (by decide +kernel) (pa_cons (pe_op op_fdiv (pv 6) pe_int) pa_nil)) (pe_callB call_len_seq (by rfl) ml PySem.boot_len (pa_cons (pv 3) pa_nil))) (fun _ _ => rfl)) pa_nil)) pa_nil)))
                (pe_op op_mod (pe_callTy call_int1 (by rfl) mi (by decide +kernel) (pa_cons (pe_op op_fdiv (pv 6) pe_int) pa_nil)) pe_int) (fun _ _ => rfl))
              (pe_lst (pa_cons (pe_ix ix_list (pv 2) (pe_op op_add (pv 5) pe_int) (fun _ _ => rfl)) pa_nil))) pa_nil))) pa_nil)))) pss_nil)))))
      (pss_cons (ps_set (i := 7) scGm.nd rfl (.inr rfl) (pe_op op_cat (pv 3) (pv 2)))
      (pss_cons (ps_for PassesOwn.never rfl (pi_range1 rfl mr (pa_cons (pe_call GA hr (by rfl) gA kA bA .nil pass0 (pa_cons (pv 0) (pa_cons (pe_op op_add (pv 1) pe_int) (pa_cons pe_int pa_nil)))) pa_nil)) (pg_name (i := 5) scGm.nd rfl (.inl rfl))
        (pss_cons (ps_set (i := 6) scGm.nd rfl (.inr rfl) (pe_call GA hr (by rfl) gA kA bA .nil pass0 (pa_cons (pv 0) (pa_cons (pe_op op_add (pe_op op_add (pv 1) pe_int) (pv 5)) (pa_cons pe_int pa_nil)))))
        (pss_cons (ps_set (i := 8) scGm.nd rfl (.inl rfl) (pe_op op_mod (pe_callTy call_int1 (by rfl) mi (by decide +kernel) (pa_cons (pv 6) pa_nil)) pe_int))
        (pss_cons (ps_set (i := 9) scGm.nd rfl (.inl rfl) (pe_tup (pa_cons (pe_ix ix_list (pv 2) (pe_op op_mod (pe_callTy call_int1 (by rfl) mi (by decide +kernel) (pa_cons (pe_op op_fdiv (pv 6) pe_int) pa_nil)) (pe_callB call_len_seq (by rfl) ml PySem.boot_len (pa_cons (pv 2) pa_nil))) (fun _ _ => rfl)) (pa_cons
            (pe_lc (own := [("j", 12)]) (g := gName 12) rfl scGm.nd (pi_range1 rfl mr (pa_cons (pv 8) pa_nil))
              (blkOk_by (N := ["draws", "first", "names", "kinds", "rules", "k", "cell", "symbols", "size", "rule", "place", "out", "j"]) (sc := defScope sGram) (by decide +kernel)) (fun _ _ _ _ _ => pg_name (i := 12) scGm.nd rfl (Or.inl rfl)) (fun _ _ _ _ _ => pts_nil)
              (fun _ _ _ _ _ => pe_ix (r := rIxL K) ix_list (pv 7) (pe_op op_mod (pe_callTy call_int1 (by rfl) mi (by decide +kernel) (pa_cons (pe_op op_fdiv (pv 6) (pe_op op_add (pe_op op_mul pe_int (pv 12)) pe_int)) pa_nil)) (pe_callB (r := rLn K) call_len_seq (by rfl) ml PySem.boot_len (pa_cons (pv 7) pa_nil))) (fun _ _ => rfl))) pa_nil))))
        (pss_cons (ps_set (i := 10) scGm.nd rfl (.inl rfl) (pe_op op_mod (pe_callTy call_int1 (by rfl) mi (by decide +kernel) (pa_cons (pe_op op_fdiv (pv 6) pe_int) pa_nil)) (pe_callB call_len_seq (by rfl) ml PySem.boot_len (pa_cons (pv 4) pa_nil))))
        (pss_one (ps_set (i := 4) scGm.nd rfl (.inl rfl) (pe_op op_cat (pe_op op_cat (pe_slice sl_list (pv 4) po_none (po_some (pe_op op_add (pv 10) pe_int))) (pe_lst (pa_cons (pv 9) pa_nil))) (pe_slice sl_list (pv 4) (po_some (pe_op op_add (pv 10) pe_int)) po_none)))))))))
      (pss_cons (ps_set (i := 11) scGm.nd rfl (.inl rfl) (pe_lst pa_nil))
      (pss_cons (ps_for PassesOwn.never rfl (pi_list (pv 4)) (pg_name (i := 9) scGm.nd rfl (.inl rfl))
        (pss_one (ps_if (pt_cmpR (op_notInD (units65 hr)) (pv 9) (pv 11) rfl) (pss_one (ps_expr (pe_bm PySem.F.plainAttrs_list PySem.F.slot_list_append PySem.F.type_list_append mt_append (pv 11) (pa_cons (pv 9) pa_nil)))) pss_nil)))
      (pss_one (ps_ret (pv 11)))))))))), ?_⟩
    have four : (0 : Int) < 4 := by decide
    have three : (0 : Int) < 3 := by decide
    have two : (0 : Int) < 2 := by decide
    have big : (0 : Int) < 65536 := by decide
    -- names
    refine ⟨(by show 4 ≤ sizeLine; decide), fun p0 n0 => ?_⟩
    have s0 : Same H (upd H p0 (.lst (N4t.map V.str))) := same_upd n0
    have hp0 : upd H p0 (.lst (N4t.map V.str)) p0 = some (.lst (N4t.map V.str)) := upd_same
    refine ⟨_, rfl, _, rfl, a, ds, first, 4, rfl, SqL.of (s0 _ _ ha), f0, four, ?_⟩
    have x0 := atD_lo ds first four
    have x1 := atD_hi ds first four
    generalize atD ds first 4 = x at x0 x1
    obtain ⟨n, en, n1, n4⟩ : ∃ n : Nat, 1 + x = (n : Int) ∧ 1 ≤ n ∧ n ≤ 4 := ⟨(1 + x).toNat, by omega, by omega, by omega⟩
    refine ⟨_, _, rfl, rfl, _, rfl, p0, N4t.map V.str, rfl, SqL.of hp0, ?_⟩
    rw [en, cut_pre (show n ≤ (N4t.map V.str).length from n4), ← List.map_take]
    intro p1 np1
    have lns : (N4t.take n).length = n := by
      rw [List.length_take]
      exact Nat.min_eq_left n4
    have sub : ∀ s ∈ N4t.take n, s ∈ N4t := fun s hs => List.mem_of_mem_take hs
    have s1 := s0.trans (same_upd np1 (o := .lst ((N4t.take n).map V.str)))
    have hp1 : upd (upd H p0 (.lst (N4t.map V.str))) p1 (.lst ((N4t.take n).map V.str)) p1 = some (.lst ((N4t.take n).map V.str)) := upd_same
    show _
    generalize N4t.take n = ns at lns sub s1 hp1
    have hH1' : upd (upd H p0 (.lst [V.str "s", V.str "expr", V.str "b", V.str "items"])) p1 (.lst (ns.map V.str)) = upd (upd H p0 (.lst (N4t.map V.str))) p1 (.lst (ns.map V.str)) := rfl
    generalize upd (upd H p0 (.lst (N4t.map V.str))) p1 (.lst (ns.map V.str)) = H1 at s1 hp1 hH1'
    simp only [hH1']
    clear hH1' hp0 s0
    -- kinds
    refine ⟨(by show 3 ≤ sizeLine; decide), fun p2 n2 => ?_⟩
    have s2 : Same H1 (upd H1 p2 (.lst (P3.map V.str))) := same_upd n2
    have hp2 : upd H1 p2 (.lst (P3.map V.str)) p2 = some (.lst (P3.map V.str)) := upd_same
    refine ⟨_, rfl, _, rfl, _, _, rfl, rfl, a, ds, _, 3, rfl, SqL.of ((s1.trans s2) _ _ ha), by omega, three, ?_⟩
    have y0 := atD_lo ds (first + 1) three
    have y1 := atD_hi ds (first + 1) three
    generalize atD ds (first + 1) 3 = y at y0 y1
    obtain ⟨m, em, m1, m3⟩ : ∃ m : Nat, 1 + y = (m : Int) ∧ 1 ≤ m ∧ m ≤ 3 := ⟨(1 + y).toNat, by omega, by omega, by omega⟩
    refine ⟨_, _, rfl, rfl, _, rfl, p2, P3.map V.str, rfl, SqL.of hp2, ?_⟩
    rw [em, cut_pre (show m ≤ (P3.map V.str).length from m3), ← List.map_take]
    intro p3 np3
    have lks : (P3.take m).length = m := by
      rw [List.length_take]
      exact Nat.min_eq_left m3
    have subk : ∀ s ∈ P3.take m, s ∈ P3 := fun s hs => List.mem_of_mem_take hs
    have s3 := s2.trans (same_upd np3 (o := .lst ((P3.take m).map V.str)))
    have hp3 : upd (upd H1 p2 (.lst (P3.map V.str))) p3 (.lst ((P3.take m).map V.str)) p3 = some (.lst ((P3.take m).map V.str)) := upd_same
    show _
    generalize P3.take m = ks at lks subk s3 hp3
    have hH3' : upd (upd H1 p2 (.lst [V.str "A", V.str "BB", V.str "C"])) p3 (.lst (ks.map V.str)) = upd (upd H1 p2 (.lst (P3.map V.str))) p3 (.lst (ks.map V.str)) := rfl
    generalize upd (upd H1 p2 (.lst (P3.map V.str))) p3 (.lst (ks.map V.str)) = H3 at s3 hp3 hH3'
    simp only [hH3']
    clear hH3' hp2 s2
    have s03 := s1.trans s3
    have hn3 := s3 _ _ hp1
    -- rules = []
    refine ⟨Nat.zero_le _, fun R nR => ?_⟩
    have sR : Same H3 (upd H3 R (.lst [])) := same_upd nR
    have nR0 : H R = none := s03.free nR
    have ns0 : ((ns.map V.str).length : Int) = (n : Int) := by rw [List.length_map, lns]
    have ks0 : ((ks.map V.str).length : Int) = (m : Int) := by rw [List.length_map, lks]
    refine ⟨_, rfl, p1, _, rfl, .inl (SqL.of (sR _ _ hn3)), _, rfl, by rw [ns0]; omega, by rw [ns0]; omega, ?_⟩
    rw [show ((ns.map V.str).length : Int).toNat = n from by omega]
    refine for_range (lo := 0) (n := n) (fun k σ H' => ∃ v5 v6 v12 vs G, σ = [some (.ref a), some (.int first), some (.ref p1), some (.ref p3), some (.ref R), v5, v6, none, none, none, none, none, v12] ∧ Same H3 H' ∧ H' R = some (.lst vs) ∧ GrA (News (upd H3 R (.lst [])) H') vs G ∧ GramP ns k (2 * k) G)
      ⟨none, none, none, [], [], rfl, sR, upd_same, True.intro, GramP.start ns⟩ ?_ ?_
    · rintro k σ H4 hk ⟨v5, v6, v12, vs, G, rfl, s4, hR4, gr4, gp⟩
      rw [Int.zero_add]
      have s04 := s03.trans s4
      refine ⟨_, rfl, _, rfl, _, _, rfl, rfl, _, rfl, _, _, rfl, rfl, a, ds, _, 65536, rfl, SqL.of (s04 _ _ ha), by omega, big, ?_⟩
      have c0 := atD_lo ds (first + 2 + (k : Int)) big
      generalize atD ds (first + 2 + (k : Int)) 65536 = cell at c0
      obtain ⟨N, gN, hN⟩ : ∃ N, (ns.map V.str)[k]? = some (V.str N) ∧ ns[k]? = some N := by
        obtain ⟨N, hN⟩ : ∃ N, ns[k]? = some N := ⟨_, List.getElem?_eq_getElem (by omega)⟩
        exact ⟨N, by rw [List.getElem?_map, hN]; rfl, hN⟩
      -- the first rule
      have z0 := Int.emod_nonneg cell (show (3 : Int) ≠ 0 by decide)
      have z1 := Int.emod_lt_of_pos cell three
      refine ⟨_, rfl, .inl ⟨rfl, _, SqL.of hR4⟩, _, rfl, _, rfl, p1, _, _, _, rfl, rfl, SqL.of (s4 _ _ hn3), at_of (j := k) rfl gN, _, rfl, .inl ⟨_, rfl, _, _, rfl, rfl, three, _, rfl, by omega, by omega, fun D hD => lc_range (lo := 0) (n := (cell % 3).toNat) (fun j H' => ∃ ss : List Str, Same H4 H' ∧ H' D = some (.lst (ss.map V.str)) ∧ ss.length = j ∧ ∀ s ∈ ss, s ∈ P3)
        ⟨[], same_upd hD, upd_same, rfl, fun _ h => nomatch h⟩ ?_ ?_⟩⟩
      · rintro j H5 hj ⟨ss, s5, hd5, lj, sk⟩
        rw [Int.zero_add]
        have q0 := Int.emod_nonneg (cell / ((j : Int) + 1)) (show ((ks.map V.str).length : Int) ≠ 0 by omega)
        have q1 := Int.emod_lt_of_pos (cell / ((j : Int) + 1)) (show (0 : Int) < ((ks.map V.str).length : Int) by omega)
        obtain ⟨sy, gsy, msy⟩ := pick_of (ss := ks) (v := cell / ((j : Int) + 1) % ((ks.map V.str).length : Int)) q0 (by rw [List.length_map] at q1 ⊢; exact q1)
        refine ⟨rfl, _, rfl, _, rfl, _, rfl, _, _, rfl, rfl, _, _, rfl, rfl, ⟨by show (0 : Int) < _; omega, by show ((j : Int) + 1) < 1073741824; omega⟩, .inl ⟨_, rfl, _, rfl, p3, _, rfl, .inl (SqL.of ((s4.trans s5) _ _ hp3)), _, _, rfl, rfl, (by show (0 : Int) < _; omega), p3, _, _, _, rfl, rfl, SqL.of ((s4.trans s5) _ _ hp3), at_of (j := (cell / ((j : Int) + 1) % ((ks.map V.str).length : Int)).toNat) (by omega) gsy, _, hd5, ?_, ss ++ [sy], same_put s5 hD, ?_, ?_, fun s hs => ?_⟩⟩
        · rw [List.length_map]
          exact million1 (by omega)
        · rw [upd_same, List.map_append]
          rfl
        · rw [List.length_append, List.length_singleton, lj]
        · rcases List.mem_append.mp hs with q | q
          · exact sk s q
          · rw [List.mem_singleton.mp q]
            exact subk sy msy
      · rintro H5 ⟨ss, s5, hd5, lj, sk⟩
        refine ⟨(by show 2 ≤ sizeLine; decide), fun t nt => ?_⟩
        have domb : ∀ b, H4 b = none → upd H3 R (.lst []) b = none := fun b hb => by
          have nb : b ≠ R := fun z => by rw [z, hR4] at hb; cases hb
          rw [upd_ne nb]
          exact s4.free hb
        have s6 := s5.trans (same_upd nt (o := .tup [.str N, .ref D]))
        have ht : upd H5 t (.tup [.str N, .ref D]) t = some (.tup [.str N, .ref D]) := upd_same
        have hd6 : upd H5 t (.tup [.str N, .ref D]) D = some (.lst (ss.map V.str)) := (same_upd nt) _ _ hd5
        have nt0 : H4 t = none := s5.free nt
        generalize upd H5 t (.tup [.str N, .ref D]) = H6 at s6 ht hd6
        have ra : RuleA (News (upd H3 R (.lst [])) H6) (.ref t) (N, ss) := ⟨t, D, rfl, by rw [news_of (domb t nt0)]; exact ht, by rw [news_of (domb D hD)]; exact hd6⟩
        have gr6 : GrA (News (upd H3 R (.lst [])) H6) (vs ++ [.ref t]) (G ++ [(N, ss)]) := (gr4.up (News.up (Up.of_same s6))).snoc ra
        have hR6 := s6 _ _ hR4
        have lvs : vs.length ≤ 8 := by
          rw [gr4.len]
          have := gp.few
          omega
        refine ⟨R, _, _, rfl, rfl, hR6, million1 (by omega), ?_⟩
        have gp2 := gp.own_ hN (ss := ss) (by omega) sk
        have gr7 : GrA (News (upd H3 R (.lst [])) (upd H6 R (.lst (vs ++ [.ref t])))) (vs ++ [.ref t]) (G ++ [(N, ss)]) := by
          rw [News.put (upd_same (H := H3) (a := R) (o := .lst []))]
          exact gr6
        have hR7 : upd H6 R (.lst (vs ++ [.ref t])) R = some (.lst (vs ++ [.ref t])) := upd_same
        have s7 : Same H3 (upd H6 R (.lst (vs ++ [.ref t]))) := same_put (s4.trans s6) nR
        show _
        generalize upd H6 R (.lst (vs ++ [.ref t])) = H7 at gr7 hR7 s7
        clear gr6 hR6 ra ht hd6 hd5 s5 s6 domb gr4 hR4 s4 s04
        -- the second one
        refine ⟨_, rfl, _, _, rfl, rfl, _, rfl, p1, _, rfl, .inl (SqL.of (s7 _ _ hn3)), _, _, rfl, rfl, _, rfl, ite2 (fun c => ?_) (fun c => ?_)⟩
        · have k1 : k + 1 < n := by
            have := of_decide_eq_true c
            omega
          obtain ⟨N2, gN2, hN2⟩ : ∃ N, (ns.map V.str)[k + 1]? = some (V.str N) ∧ N ∈ ns := by
            obtain ⟨N, hN⟩ : ∃ N, ns[k + 1]? = some N := ⟨_, List.getElem?_eq_getElem (by omega)⟩
            exact ⟨N, by rw [List.getElem?_map, hN]; rfl, List.mem_of_getElem? hN⟩
          have q0 := Int.emod_nonneg (cell / 5) (show ((ks.map V.str).length : Int) ≠ 0 by omega)
          have q1 := Int.emod_lt_of_pos (cell / 5) (show (0 : Int) < ((ks.map V.str).length : Int) by omega)
          obtain ⟨sy, gsy, msy⟩ := pick_of (ss := ks) (v := cell / 5 % ((ks.map V.str).length : Int)) q0 (by rw [List.length_map] at q1 ⊢; exact q1)
          refine ⟨_, rfl, .inl ⟨rfl, _, SqL.of hR7⟩, _, rfl, _, rfl, p1, _, _, _, rfl, rfl, SqL.of (s7 _ _ hn3), at_of (j := k) rfl gN, ?_⟩
          refine ⟨Nat.zero_le _, fun q1' nq1 => ?_⟩
          have t1 : Same H7 (upd H7 q1' (.lst [])) := same_upd nq1
          refine ⟨_, rfl, _, rfl, _, _, rfl, rfl, ⟨by decide, by decide⟩, .inl ⟨_, rfl, _, rfl, p3, _, rfl, .inl (SqL.of ((s7.trans t1) _ _ hp3)), _, _, rfl, rfl, (by show (0 : Int) < _; omega), p3, _, _, _, rfl, rfl, SqL.of ((s7.trans t1) _ _ hp3), at_of (j := (cell / 5 % ((ks.map V.str).length : Int)).toNat) (by omega) gsy, (by show 1 ≤ sizeLine; decide), fun q2' nq2 => ?_⟩⟩
          refine ⟨(by show 2 ≤ sizeLine; decide), fun q3' nq3 => ?_⟩
          have t3 := (t1.trans (same_upd nq2 (o := .lst [.str sy]))).trans (same_upd nq3 (o := .lst [.ref q1', .ref q2']))
          have hq3 : upd (upd (upd H7 q1' (.lst [])) q2' (.lst [.str sy])) q3' (.lst [.ref q1', .ref q2']) q3' = some (.lst [.ref q1', .ref q2']) := upd_same
          have hq1 : upd (upd (upd H7 q1' (.lst [])) q2' (.lst [.str sy])) q3' (.lst [.ref q1', .ref q2']) q1' = some (.lst []) := (same_upd nq3) _ _ ((same_upd nq2) _ _ upd_same)
          have hq2 : upd (upd (upd H7 q1' (.lst [])) q2' (.lst [.str sy])) q3' (.lst [.ref q1', .ref q2']) q2' = some (.lst [.str sy]) := (same_upd nq3) _ _ upd_same
          show _
          generalize upd (upd (upd H7 q1' (.lst [])) q2' (.lst [.str sy])) q3' (.lst [.ref q1', .ref q2']) = H8 at t3 hq3 hq1 hq2
          have w0 := Int.emod_nonneg (cell / 3) (show (2 : Int) ≠ 0 by decide)
          have w1 := Int.emod_lt_of_pos (cell / 3) two
          obtain ⟨qx, xs, gx, hx, lx, kx⟩ : ∃ (qx : Addr) (xs : List Str), ([V.ref q1', V.ref q2'] : List V)[(cell / 3 % 2).toNat]? = some (.ref qx) ∧ H8 qx = some (.lst (xs.map V.str)) ∧ xs.length ≤ 1 ∧ ∀ s ∈ xs, s ∈ P3 := by
            have e : (cell / 3 % 2).toNat = 0 ∨ (cell / 3 % 2).toNat = 1 := by omega
            rcases e with e | e <;> rw [e]
            · exact ⟨q1', [], rfl, hq1, Nat.zero_le _, fun _ h => nomatch h⟩
            · exact ⟨q2', [sy], rfl, hq2, Nat.le_refl _, fun s hs => by rw [List.mem_singleton.mp hs]; exact subk sy msy⟩
          refine ⟨_, rfl, _, _, rfl, rfl, ⟨by decide, by decide⟩, .inl ⟨_, rfl, _, _, rfl, rfl, two, q3', _, _, _, rfl, rfl, SqL.of hq3, at_of (j := (cell / 3 % 2).toNat) (by omega) gx, ?_⟩⟩
          refine ⟨_, rfl, _, rfl, _, _, rfl, rfl, p1, _, _, _, rfl, rfl, SqL.of ((s7.trans t3) _ _ hn3), at_of (j := k + 1) (by omega) gN2, (by show 1 ≤ sizeLine; decide), fun q4' nq4 => ?_⟩
          have t4 := t3.trans (same_upd nq4 (o := .lst [.str N2]))
          refine ⟨qx, q4', xs.map V.str, [V.str N2], rfl, rfl, (same_upd nq4) _ _ hx, upd_same, million0 (by rw [List.length_map]; show xs.length + 1 ≤ _; omega), fun q5' nq5 => ?_⟩
          have t5 := t4.trans (same_upd nq5 (o := .lst (xs.map V.str ++ [V.str N2])))
          have hq5 : upd (upd H8 q4' (.lst [.str N2])) q5' (.lst (xs.map V.str ++ [V.str N2])) q5' = some (.lst ((xs ++ [N2]).map V.str)) := by
            rw [upd_same, List.map_append]
            rfl
          show _
          generalize upd (upd H8 q4' (.lst [.str N2])) q5' (.lst (xs.map V.str ++ [V.str N2])) = H9 at t5 hq5
          have nq50 : H7 q5' = none := t4.free nq5
          refine ⟨(by show 2 ≤ sizeLine; decide), fun t2 nt2 => ?_⟩
          have domb : ∀ b, H7 b = none → upd H3 R (.lst []) b = none := fun b hb => by
            have nb : b ≠ R := fun z => by rw [z, hR7] at hb; cases hb
            rw [upd_ne nb]
            exact s7.free hb
          have t6 := t5.trans (same_upd nt2 (o := .tup [.str N, .ref q5']))
          have ht2 : upd H9 t2 (.tup [.str N, .ref q5']) t2 = some (.tup [.str N, .ref q5']) := upd_same
          have hq6 : upd H9 t2 (.tup [.str N, .ref q5']) q5' = some (.lst ((xs ++ [N2]).map V.str)) := (same_upd nt2) _ _ hq5
          have nt20 : H7 t2 = none := t5.free nt2
          generalize upd H9 t2 (.tup [.str N, .ref q5']) = HA at t6 ht2 hq6
          have ra : RuleA (News (upd H3 R (.lst [])) HA) (.ref t2) (N, xs ++ [N2]) := ⟨t2, q5', rfl, by rw [news_of (domb t2 nt20)]; exact ht2, by rw [news_of (domb q5' nq50)]; exact hq6⟩
          have grA : GrA (News (upd H3 R (.lst [])) HA) (vs ++ [.ref t] ++ [.ref t2]) (G ++ [(N, ss)] ++ [(N, xs ++ [N2])]) := (gr7.up (News.up (Up.of_same t6))).snoc ra
          refine ⟨R, _, _, rfl, rfl, t6 _ _ hR7, million1 (by rw [List.length_append, List.length_singleton]; omega), ?_⟩
          have gp3 := gp2.more (r := (N, xs ++ [N2])) ⟨List.mem_of_getElem? hN, by show (xs ++ [N2]).length ≤ 3; rw [List.length_append, List.length_singleton]; omega, fun s hs => by
            rcases List.mem_append.mp hs with q | q
            · exact .inr (kx s q)
            · rw [List.mem_singleton.mp q]
              exact .inl hN2⟩ (G ++ [(N, ss)]) [] (List.append_nil _).symm
          rw [List.append_nil] at gp3
          refine ⟨_, _, _, vs ++ [.ref t] ++ [.ref t2], _, rfl, same_put (s7.trans t6) nR, upd_same, ?_, gp3.skip (by omega)⟩
          rw [News.put (upd_same (H := H3) (a := R) (o := .lst []))]
          exact grA
        · exact ⟨_, _, _, vs ++ [.ref t], _, rfl, s7, hR7, gr7, gp2.skip (by omega)⟩
    · rintro σ H4 ⟨v5, v6, v12, vs, G, rfl, s4, hR4, gr4, gp⟩
      have s04 := s03.trans s4
      have grH : GrA (News H H4) vs G := gr4.up (Up.of_same (News.less fun b hb => by
        have nb : b ≠ R := fun z => by rw [z, upd_same] at hb; cases hb
        rw [upd_ne nb] at hb
        exact s03.free hb))
      -- symbols
      refine ⟨_, rfl, _, rfl, p3, p1, ks.map V.str, ns.map V.str, rfl, rfl, s4 _ _ hp3, s4 _ _ hn3, million0 (by rw [List.length_map, List.length_map]; omega), fun p4 np4 => ?_⟩
      have s5 : Same H4 (upd H4 p4 (.lst (ks.map V.str ++ ns.map V.str))) := same_upd np4
      have hp4 : upd H4 p4 (.lst (ks.map V.str ++ ns.map V.str)) p4 = some (.lst ((ks ++ ns).map V.str)) := by rw [upd_same, List.map_append]
      have hR5 := s5 _ _ hR4
      have gr5 := grH.up (News.up (Up.of_same s5))
      have s05 := s04.trans s5
      have hn5 := s5 _ _ (s4 _ _ hn3)
      show _
      generalize upd H4 p4 (.lst (ks.map V.str ++ ns.map V.str)) = H5 at s5 hp4 hR5 gr5 s05 hn5
      have sy0 : (((ks ++ ns).map V.str).length : Int) = ((m + n : Nat) : Int) := by rw [List.length_map, List.length_append, lks, lns]
      have symk : ∀ s ∈ ks ++ ns, s ∈ ns ∨ s ∈ P3 := fun s hs => by
        rcases List.mem_append.mp hs with q | q
        · exact .inr (subk s q)
        · exact .inl q
      have five : (0 : Int) < 5 := by decide
      refine ⟨_, rfl, _, rfl, _, _, rfl, rfl, a, ds, _, 5, rfl, SqL.of (s05 _ _ ha), by omega, five, ?_⟩
      have w0 := atD_lo ds (first + 6) five
      have w1 := atD_hi ds (first + 6) five
      generalize atD ds (first + 6) 5 = x5 at w0 w1
      refine ⟨_, rfl, by omega, by omega, ?_⟩
      clear gr4 grH s5 s4 s04 hR4
      have gp0 := gp.skip (show 2 * n ≤ 8 + 0 by omega)
      refine for_range (lo := 0) (n := x5.toNat) (fun i σ H' => ∃ v5 v6 v8 v9 v10 v12 Rk vs G, σ = [some (.ref a), some (.int first), some (.ref p1), some (.ref p3), some (.ref Rk), v5, v6, some (.ref p4), v8, v9, v10, none, v12] ∧ Same H5 H' ∧ H' Rk = some (.lst vs) ∧ GrA (News H H') vs G ∧ GramP ns n (8 + i) G)
        ⟨v5, v6, none, none, none, v12, R, vs, G, rfl, Same.refl H5, hR5, gr5, gp0⟩ ?_ ?_
      · rintro i σ H6 hi ⟨v5, v6, v8, v9, v10, v12, Rk, vs, G, rfl, s6, hR6, gr6, gp6⟩
        rw [Int.zero_add]
        have s06 := s05.trans s6
        refine ⟨_, rfl, _, rfl, _, _, rfl, rfl, _, rfl, _, _, rfl, rfl, a, ds, _, 65536, rfl, SqL.of (s06 _ _ ha), by omega, big, ?_⟩
        have c0 := atD_lo ds (first + 7 + (i : Int)) big
        generalize atD ds (first + 7 + (i : Int)) 65536 = cell at c0
        refine ⟨_, rfl, .inl ⟨_, rfl, _, _, rfl, rfl, four, ?_⟩⟩
        have z0 := Int.emod_nonneg cell (show (4 : Int) ≠ 0 by decide)
        have z1 := Int.emod_lt_of_pos cell four
        -- rule
        have q0 := Int.emod_nonneg (cell / 4) (show ((ns.map V.str).length : Int) ≠ 0 by omega)
        have q1 := Int.emod_lt_of_pos (cell / 4) (show (0 : Int) < ((ns.map V.str).length : Int) by omega)
        obtain ⟨N, gN, mN⟩ := pick_of (ss := ns) (v := cell / 4 % ((ns.map V.str).length : Int)) q0 (by rw [List.length_map] at q1 ⊢; exact q1)
        refine ⟨_, rfl, _, rfl, _, _, rfl, rfl, ⟨by decide, by decide⟩, .inl ⟨_, rfl, _, rfl, p1, _, rfl, .inl (SqL.of (s6 _ _ hn5)), _, _, rfl, rfl, (by show (0 : Int) < _; omega), p1, _, _, _, rfl, rfl, SqL.of (s6 _ _ hn5), at_of (j := (cell / 4 % ((ns.map V.str).length : Int)).toNat) (by omega) gN, ?_⟩⟩
        refine ⟨_, rfl, _, rfl, by omega, by omega, fun D hD => lc_range (lo := 0) (n := (cell % 4).toNat) (fun j H' => ∃ ss : List Str, Same H6 H' ∧ H' D = some (.lst (ss.map V.str)) ∧ ss.length = j ∧ ∀ s ∈ ss, s ∈ ns ∨ s ∈ P3) ⟨[], same_upd hD, upd_same, rfl, fun _ h => nomatch h⟩ ?_ ?_⟩
        · rintro j H7 hj ⟨ss, s7, hd7, lj, sk⟩
          rw [Int.zero_add]
          have q0 := Int.emod_nonneg (cell / (7 * (j : Int) + 3)) (show (((ks ++ ns).map V.str).length : Int) ≠ 0 by omega)
          have q1 := Int.emod_lt_of_pos (cell / (7 * (j : Int) + 3)) (show (0 : Int) < (((ks ++ ns).map V.str).length : Int) by omega)
          obtain ⟨sy, gsy, msy⟩ := pick_of (ss := ks ++ ns) (v := cell / (7 * (j : Int) + 3) % (((ks ++ ns).map V.str).length : Int)) q0 (by rw [List.length_map] at q1 ⊢; exact q1)
          refine ⟨rfl, _, rfl, _, rfl, _, rfl, _, _, rfl, rfl, .inl ⟨by decide, by decide⟩, _, _, rfl, rfl, _, _, rfl, rfl, ⟨by show (0 : Int) < _; omega, by show (7 * (j : Int) + 3) < 1073741824; omega⟩, .inl ⟨_, rfl, _, rfl, p4, _, rfl, .inl (SqL.of ((s6.trans s7) _ _ hp4)), _, _, rfl, rfl, (by show (0 : Int) < _; omega), p4, _, _, _, rfl, rfl, SqL.of ((s6.trans s7) _ _ hp4), at_of (j := (cell / (7 * (j : Int) + 3) % (((ks ++ ns).map V.str).length : Int)).toNat) (by omega) gsy, _, hd7, ?_, ss ++ [sy], same_put s7 hD, ?_, ?_, fun s hs => ?_⟩⟩
          · rw [List.length_map]
            exact million1 (by omega)
          · rw [upd_same, List.map_append]
            rfl
          · rw [List.length_append, List.length_singleton, lj]
          · rcases List.mem_append.mp hs with q | q
            · exact sk s q
            · rw [List.mem_singleton.mp q]
              exact symk sy msy
        · rintro H7 ⟨ss, s7, hd7, lj, sk⟩
          refine ⟨(by show 2 ≤ sizeLine; decide), fun t nt => ?_⟩
          have s8 := s7.trans (same_upd nt (o := .tup [.str N, .ref D]))
          have ht : upd H7 t (.tup [.str N, .ref D]) t = some (.tup [.str N, .ref D]) := upd_same
          have hd8 : upd H7 t (.tup [.str N, .ref D]) D = some (.lst (ss.map V.str)) := (same_upd nt) _ _ hd7
          have nt0 : H6 t = none := s7.free nt
          show _
          generalize upd H7 t (.tup [.str N, .ref D]) = H8 at s8 ht hd8
          have ra : RuleA (News H H8) (.ref t) (N, ss) := ⟨t, D, rfl, by rw [news_of (s06.free nt0)]; exact ht, by rw [news_of (s06.free hD)]; exact hd8⟩
          have gr8 := gr6.up (News.up (Up.of_same s8))
          have hR8 := s8 _ _ hR6
          have lvs := gr6.len
          have lG := gp6.few
          have lG0 : 0 < G.length := List.length_pos_iff.mpr (gp6.ne (by omega))
          -- place
          have r0 := Int.emod_nonneg (cell / 11) (show (vs.length : Int) ≠ 0 by omega)
          have r1 := Int.emod_lt_of_pos (cell / 11) (show (0 : Int) < (vs.length : Int) by omega)
          refine ⟨_, rfl, _, _, rfl, rfl, ⟨by decide, by decide⟩, .inl ⟨_, rfl, _, rfl, Rk, _, rfl, .inl (SqL.of hR8), _, _, rfl, rfl, (by show (0 : Int) < _; omega), ?_⟩⟩
          obtain ⟨pl, epl, lpl⟩ : ∃ pl : Nat, cell / 11 % (vs.length : Int) + 1 = (pl : Int) ∧ pl ≤ vs.length := ⟨(cell / 11 % (vs.length : Int) + 1).toNat, by omega, by omega⟩
          refine ⟨_, rfl, _, rfl, _, _, rfl, rfl, _, rfl, Rk, vs, rfl, SqL.of hR8, ?_⟩
          rw [epl, cut_pre lpl]
          intro u1 nu1
          have v1 : Same H8 (upd H8 u1 (.lst (vs.take pl))) := same_upd nu1
          refine ⟨_, rfl, (by show 1 ≤ sizeLine; decide), fun u2 nu2 => ?_⟩
          have v2 := v1.trans (same_upd nu2 (o := .lst [.ref t]))
          refine ⟨u1, u2, vs.take pl, [V.ref t], rfl, rfl, (same_upd nu2) _ _ upd_same, upd_same, million0 (by rw [List.length_take]; show min pl vs.length + 1 ≤ _; omega), fun u3 nu3 => ?_⟩
          have v3 := v2.trans (same_upd nu3 (o := .lst (vs.take pl ++ [.ref t])))
          have hu3 : upd (upd (upd H8 u1 (.lst (vs.take pl))) u2 (.lst [.ref t])) u3 (.lst (vs.take pl ++ [.ref t])) u3 = some (.lst (vs.take pl ++ [.ref t])) := upd_same
          show _
          generalize upd (upd (upd H8 u1 (.lst (vs.take pl))) u2 (.lst [.ref t])) u3 (.lst (vs.take pl ++ [.ref t])) = H9 at v3 hu3
          refine ⟨_, rfl, _, rfl, _, _, rfl, rfl, _, rfl, Rk, vs, rfl, SqL.of (v3 _ _ hR8), ?_⟩
          rw [epl, cut_post lpl]
          intro u4 nu4
          have v4 := v3.trans (same_upd nu4 (o := .lst (vs.drop pl)))
          refine ⟨u3, u4, vs.take pl ++ [.ref t], vs.drop pl, rfl, rfl, (same_upd nu4) _ _ hu3, upd_same, million0 (by rw [List.length_append, List.length_take, List.length_drop, List.length_singleton]; omega), fun u5 nu5 => ?_⟩
          have v5' := v4.trans (same_upd nu5 (o := .lst (vs.take pl ++ [.ref t] ++ vs.drop pl)))
          refine ⟨_, _, _, _, _, _, u5, vs.take pl ++ [.ref t] ++ vs.drop pl, G.take pl ++ [(N, ss)] ++ G.drop pl, rfl, (s6.trans s8).trans v5', upd_same, ?_, ?_⟩
          · have g9 := gr8.up (News.up (Up.of_same v5'))
            exact GrA.app (GrA.snoc (GrA.take pl g9) (ra.up (News.up (Up.of_same v5')))) (GrA.drop pl g9)
          · exact gp6.more (r := (N, ss)) ⟨mN, by show ss.length ≤ 3; omega, sk⟩ (G.take pl) (G.drop pl) (List.take_append_drop pl G).symm
      · rintro σ H6 ⟨v5, v6, v8, v9, v10, v12, Rk, vs, G, rfl, s6, hR6, gr6, gp6⟩
        have s06 := s05.trans s6
        refine ⟨Nat.zero_le _, fun O nO => ?_⟩
        have sO : Same H6 (upd H6 O (.lst [])) := same_upd nO
        have lG := gp6.few
        refine ⟨_, rfl, Rk, rfl, ⟨_, SqL.of (sO _ _ hR6)⟩, for_list (a := Rk) (xs := vs) (fun i σ H' => ∃ v9 ws, σ = [some (.ref a), some (.int first), some (.ref p1), some (.ref p3), some (.ref Rk), v5, v6, some (.ref p4), v8, v9, v10, some (.ref O), v12] ∧ Same H6 H' ∧ H' O = some (.lst ws) ∧ GrA (News H H6) ws ((G.take i).foldl nubStep []))
          ⟨v9, [], rfl, sO, upd_same, True.intro⟩ (fun i σ H' _ ⟨_, _, _, s', _⟩ => SqL.of (s' _ _ hR6)) ?_ ?_⟩
        · rintro i x σ H7 hx ⟨v9, ws, rfl, s7, hO, grO⟩
          obtain ⟨r, hr2, ra⟩ := gr6.get hx
          have e := nub_take hr2
          have hl := nub_len (G.take i) []
          have hlt : (G.take i).length ≤ 20 := Nat.le_trans (List.length_take_le' _ _) (by omega)
          have sub2 : ∀ y ∈ (G.take i).foldl nubStep [], y ∈ G := fun y hy => by
            rcases (nub_in _ [] y).mp hy with z | z
            · cases z
            · exact List.mem_of_mem_take z
          generalize (G.take i).foldl nubStep [] = DD at e hl grO sub2
          have rg : ∀ y ∈ G, GoodR y := fun y hy => ruleT_good (by
            obtain ⟨g1, g2, g3⟩ := gp6.good y hy
            exact ⟨sub _ g1, g2, fun s hs => (g3 s hs).imp_left (sub s)⟩)
          have ra7 : RuleA H7 x r := (ra.up (Up.of_same news_same)).up (Up.of_same s7)
          have gd : Dp K H7 (.ref O) (.list (DD.map ruleD)) := (show GraA H7 O DD from ⟨ws, hO, (grO.up (Up.of_same news_same)).up (Up.of_same s7)⟩).dp
          refine ⟨_, rfl, _, rfl, ruleD r, DD.map ruleD, ra7.dp, gd, rule_shaped (rg r (List.mem_of_getElem? hr2)), gD_shaped (fun y hy => rg y (sub2 y hy)), _, rfl, ?_⟩
          rw [ruleD_in]
          by_cases mm : r ∈ DD
          · rw [decide_eq_true mm]
            refine iteF ⟨_, ws, rfl, s7, hO, ?_⟩
            rw [e]
            unfold nubStep
            rw [if_pos mm]
            exact grO
          · rw [decide_eq_false mm]
            refine iteT ⟨_, rfl, .inl ⟨rfl, _, SqL.of hO⟩, _, rfl, O, _, _, rfl, rfl, hO, ?_, _, ws ++ [x], rfl, same_put s7 nO, upd_same, ?_⟩
            · rw [grO.len]
              rw [List.length_nil] at hl
              exact million1 (by omega)
            · rw [e]
              unfold nubStep
              rw [if_neg mm]
              exact grO.snoc ra
        · rintro σ H7 ⟨v9, ws, rfl, s7, hO, grO⟩
          rw [gr6.len, List.take_length] at grO
          have nO0 : H O = none := s06.free nO
          refine ⟨_, rfl, q O H7 _ (s06.trans s7) (gp6.gram sub lns.symm (by omega) (by omega)) nO0 ⟨ws, by rw [news_of nO0]; exact hO, grO.up (News.up (Up.of_same s7))⟩⟩
end
end Ld

set_option Elab.async false
set_option linter.all false
set_option maxRecDepth 100000
set_option maxHeartbeats 4000000
/-! What names derive, reach, and their least rows: no program here. -/
namespace Ld
open PySem PySem.Spec PyProof.Rows L2 TL
def N4 : List Str := ["a", "bb", "s", "list"]
def K3 : List Str := ["A", "BB", "NUMBER"]
def GoodW (r : Rule) : Prop := r.1 ∈ N4 ∧ r.2.length ≤ 6 ∧ ∀ s ∈ r.2, s ∈ N4 ∨ s ∈ K3
theorem n4_name : N4.all nameB = true := by decide +kernel
theorem k3_sym : K3.all symB = true := by decide +kernel
theorem n4_sym : N4.all symB = true := by decide +kernel
theorem k3_not : ∀ s ∈ K3, s ∉ N4 := by decide +kernel
theorem GoodW.good {r : Rule} (h : GoodW r) : GoodR r := ⟨List.all_eq_true.mp n4_name _ h.1, h.2.1, List.all_eq_true.mpr fun s hs => (h.2.2 s hs).elim (fun z => List.all_eq_true.mp n4_sym _ z) fun z => List.all_eq_true.mp k3_sym _ z⟩
/-! ### counting -/
theorem nodup_le {α : Type} [DecidableEq α] : ∀ {l m : List α}, l.Nodup → (∀ x ∈ l, x ∈ m) → l.length ≤ m.length
  | [], _, _, _ => Nat.zero_le _
  | x :: l, m, nd, h => by
    have hx := h x List.mem_cons_self
    have h2 := nodup_le (l := l) (m := m.erase x) (List.nodup_cons.mp nd).2 fun y hy => by
      have ne : y ≠ x := fun e => (List.nodup_cons.mp nd).1 (e ▸ hy)
      exact (List.mem_erase_of_ne ne).mpr (h y (List.mem_cons_of_mem _ hy))
    have h3 := List.length_erase_of_mem hx
    have h4 := List.length_pos_of_mem hx
    rw [List.length_cons]
    omega
/-- the rules whose names are in D -/
def rulesIn (G : List Rule) (D : List Str) : Nat := (G.filter fun r => decide (r.1 ∈ D)).length
theorem rulesIn_le (G : List Rule) (D : List Str) : rulesIn G D ≤ G.length := List.length_filter_le _ _
theorem rulesIn_mono {G : List Rule} {D D2 : List Str} (h : ∀ n ∈ D, n ∈ D2) : rulesIn G D ≤ rulesIn G D2 := by
  unfold rulesIn
  induction G with
  | nil => exact Nat.le_refl _
  | cons r G ih =>
    rw [List.filter_cons, List.filter_cons]
    by_cases c : r.1 ∈ D
    · rw [if_pos (decide_eq_true c), if_pos (decide_eq_true (h _ c)), List.length_cons, List.length_cons]
      omega
    · rw [if_neg (fun z => c (of_decide_eq_true z))]
      split
      · rw [List.length_cons]
        omega
      · exact ih
theorem rulesIn_lt {G : List Rule} {D D2 : List Str} (h : ∀ n ∈ D, n ∈ D2) {q : Rule} (hq : q ∈ G) (n1 : q.1 ∉ D) (n2 : q.1 ∈ D2) : rulesIn G D < rulesIn G D2 := by
  unfold rulesIn
  induction G with
  | nil => cases hq
  | cons r G ih =>
    have mono := rulesIn_mono (G := G) h
    unfold rulesIn at mono
    rw [List.filter_cons, List.filter_cons]
    rcases List.mem_cons.mp hq with e | m
    · subst e
      rw [if_neg (fun z => n1 (of_decide_eq_true z)), if_pos (decide_eq_true n2), List.length_cons]
      omega
    · have := ih m
      by_cases c : r.1 ∈ D
      · rw [if_pos (decide_eq_true c), if_pos (decide_eq_true (h _ c)), List.length_cons, List.length_cons]
        omega
      · rw [if_neg (fun z => c (of_decide_eq_true z))]
        split
        · rw [List.length_cons]
          omega
        · exact this
/-! ### what derives, what is reached -/
inductive Der (G : List Rule) : Str → Prop
  | mk {n : Str} {ss : List Str} (h : (n, ss) ∈ G) (k : ∀ s ∈ ss, s ∈ N4 → Der G s) : Der G n
def ClosedD (G : List Rule) (D : List Str) : Prop := ∀ r ∈ G, (∀ s ∈ r.2, s ∈ N4 → s ∈ D) → r.1 ∈ D
theorem der_in {G : List Rule} {D : List Str} (c : ClosedD G D) {n : Str} (h : Der G n) : n ∈ D := by
  induction h with
  | mk h k ih => exact c _ h fun s hs hn => ih s hs hn
inductive Rea (G : List Rule) (n0 : Str) : Str → Prop
  | start : Rea G n0 n0
  | step {n s : Str} {ss : List Str} (h : Rea G n0 n) (r : (n, ss) ∈ G) (m : s ∈ ss) (k : s ∈ N4) : Rea G n0 s
def ClosedR (G : List Rule) (D : List Str) : Prop := ∀ r ∈ G, r.1 ∈ D → ∀ s ∈ r.2, s ∈ N4 → s ∈ D
theorem rea_in {G : List Rule} {n0 : Str} {D : List Str} (h0 : n0 ∈ D) (c : ClosedR G D) {n : Str} (h : Rea G n0 n) : n ∈ D := by
  induction h with
  | start => exact h0
  | step h r m k ih => exact c _ r ih _ m k
/-! ### rows of kinds, by number -/
def dig (s : Str) : Nat := if s = "A" then 1 else if s = "BB" then 2 else 3
theorem dig_lo (s : Str) : 1 ≤ dig s := by
  unfold dig
  split
  · decide
  · split <;> decide
theorem dig_hi (s : Str) : dig s ≤ 3 := by
  unfold dig
  split
  · decide
  · split <;> decide
def val : List Str → Nat
  | [] => 0
  | x :: a => dig x * 4 ^ a.length + val a
theorem val_hi : ∀ a : List Str, val a < 4 ^ a.length
  | [] => by decide
  | x :: a => by
    have h1 := val_hi a
    have h2 := dig_hi x
    have h3 : dig x * 4 ^ a.length ≤ 3 * 4 ^ a.length := Nat.mul_le_mul_right _ h2
    show dig x * 4 ^ a.length + val a < 4 ^ (a.length + 1)
    rw [Nat.pow_succ]
    omega
theorem val_lo : ∀ a : List Str, 4 ^ a.length ≤ 3 * val a + 1
  | [] => by decide
  | x :: a => by
    have h1 := val_lo a
    have h2 := dig_lo x
    have h3 : 1 * 4 ^ a.length ≤ dig x * 4 ^ a.length := Nat.mul_le_mul_right _ h2
    show 4 ^ (a.length + 1) ≤ 3 * (dig x * 4 ^ a.length + val a) + 1
    rw [Nat.pow_succ]
    omega
theorem val_len {a b : List Str} (h : val a ≤ val b) : a.length ≤ b.length := by
  refine Nat.le_of_not_lt fun lt => ?_
  have h1 := val_lo a
  have h2 := val_hi b
  have h3 : 4 ^ (b.length + 1) ≤ 4 ^ a.length := Nat.pow_le_pow_right (by decide) lt
  rw [Nat.pow_succ] at h3
  omega
theorem val_app : ∀ a b : List Str, val (a ++ b) = val a * 4 ^ b.length + val b
  | [], b => by simp [val]
  | x :: a, b => by
    show dig x * 4 ^ (a ++ b).length + val (a ++ b) = (dig x * 4 ^ a.length + val a) * 4 ^ b.length + val b
    rw [val_app a b, List.length_append, Nat.pow_add, Nat.add_mul, Nat.mul_assoc]
    omega
theorem val_mono_l {a a2 : List Str} (b : List Str) (h : val a ≤ val a2) : val (a ++ b) ≤ val (a2 ++ b) := by
  rw [val_app, val_app]
  have := Nat.mul_le_mul_right (4 ^ b.length) h
  omega
theorem val_mono_r (a : List Str) {b b2 : List Str} (h : val b ≤ val b2) : val (a ++ b) ≤ val (a ++ b2) := by
  rw [val_app, val_app]
  have hl := Nat.pow_le_pow_right (show 0 < 4 by decide) (val_len h)
  have := Nat.mul_le_mul_left (val a) hl
  omega
theorem val_lt_l {a a2 : List Str} (b : List Str) (h : val a < val a2) : val (a ++ b) < val (a2 ++ b) := by
  rw [val_app, val_app]
  have h0 : 0 < 4 ^ b.length := Nat.pow_pos (by decide)
  have := Nat.mul_lt_mul_of_pos_right h h0
  omega
theorem val_lt_r (a : List Str) {b b2 : List Str} (h : val b < val b2) : val (a ++ b) < val (a ++ b2) := by
  rw [val_app, val_app]
  have hl := Nat.pow_le_pow_right (show 0 < 4 by decide) (val_len (Nat.le_of_lt h))
  have := Nat.mul_le_mul_left (val a) hl
  omega
def KR (r : List Str) : Prop := ∀ k ∈ r, k ∈ K3
theorem dig_inj : ∀ x ∈ K3, ∀ y ∈ K3, dig x = dig y → x = y := by decide +kernel
theorem dig_lt : ∀ x ∈ K3, ∀ y ∈ K3, (x.cps.toList < y.cps.toList ↔ dig x < dig y) := by decide +kernel
theorem val_head {x y : Str} {a b : List Str} (hl : a.length = b.length) : (val (x :: a) < val (y :: b) ↔ dig x < dig y ∨ (dig x = dig y ∧ val a < val b)) := by
  have h1 := val_hi a
  have h2 := val_hi b
  show dig x * 4 ^ a.length + val a < dig y * 4 ^ b.length + val b ↔ _
  rw [← hl] at h2 ⊢
  generalize 4 ^ a.length = p at h1 h2
  constructor
  · intro h
    rcases Nat.lt_trichotomy (dig x) (dig y) with c | c | c
    · exact .inl c
    · refine .inr ⟨c, ?_⟩
      rw [c] at h
      omega
    · have : (dig y + 1) * p ≤ dig x * p := Nat.mul_le_mul_right _ c
      rw [Nat.add_mul] at this
      omega
  · rintro (c | ⟨c, d⟩)
    · have : (dig x + 1) * p ≤ dig y * p := Nat.mul_le_mul_right _ c
      rw [Nat.add_mul] at this
      omega
    · rw [c]
      omega
theorem val_inj : ∀ {a b : List Str}, KR a → KR b → val a = val b → a = b
  | [], [], _, _, _ => rfl
  | [], y :: b, _, _, h => by
    have := val_len (Nat.le_of_eq h.symm)
    simp at this
  | x :: a, [], _, _, h => by
    have := val_len (Nat.le_of_eq h)
    simp at this
  | x :: a, y :: b, ka, kb, h => by
    have l1 := val_len (Nat.le_of_eq h)
    have l2 := val_len (Nat.le_of_eq h.symm)
    have hl : a.length = b.length := by
      rw [List.length_cons, List.length_cons] at l1 l2
      omega
    have n1 : ¬ val (x :: a) < val (y :: b) := by omega
    have n2 : ¬ val (y :: b) < val (x :: a) := by omega
    rw [val_head hl] at n1
    rw [val_head hl.symm] at n2
    have hd : dig x = dig y := by
      rcases Nat.lt_trichotomy (dig x) (dig y) with c | c | c
      · exact (n1 (.inl c)).elim
      · exact c
      · exact (n2 (.inl c)).elim
    have ht : val a = val b := by
      rcases Nat.lt_trichotomy (val a) (val b) with c | c | c
      · exact (n1 (.inr ⟨hd, c⟩)).elim
      · exact c
      · exact (n2 (.inr ⟨hd.symm, c⟩)).elim
    have e1 := dig_inj x (ka x List.mem_cons_self) y (kb y List.mem_cons_self) hd
    have e2 := val_inj (fun k hk => ka k (List.mem_cons_of_mem _ hk)) (fun k hk => kb k (List.mem_cons_of_mem _ hk)) ht
    rw [e1, e2]
/-! ### the order of (length, row) -/
open PySem.W in
theorem rows_alike : ∀ a b : List Str, alikeAll (a.map PyData.str) (b.map PyData.str) = true
  | [], _ => by simp [alikeAll]
  | _ :: _, [] => by simp [alikeAll]
  | x :: a, y :: b => by
    rw [List.map_cons, List.map_cons, alikeAll, rows_alike a b]
    simp [alike]
open PySem.W in
theorem rows_lt : ∀ {a b : List Str}, KR a → KR b → a.length = b.length → lexLt itemOrd (keyToksAll (a.map PyData.str)) (keyToksAll (b.map PyData.str)) = decide (val a < val b)
  | [], [], _, _, _ => by decide +kernel
  | [], _ :: _, _, _, h => by simp at h
  | _ :: _, [], _, _, h => by simp at h
  | x :: a, y :: b, ka, kb, h => by
    have hl : a.length = b.length := by simpa using h
    have kx := ka x List.mem_cons_self
    have ky := kb y List.mem_cons_self
    have al : alike (.str x) (.str y) = true := by simp [alike]
    rw [List.map_cons, List.map_cons]
    by_cases e : x = y
    · have ev : PyData.eqv (.str x) (.str y) = true := by simp [PyData.eqv, e]
      rw [dataLt_all_yes al ev, rows_lt (fun k hk => ka k (List.mem_cons_of_mem _ hk)) (fun k hk => kb k (List.mem_cons_of_mem _ hk)) hl, Bool.eq_iff_iff, decide_eq_true_eq, decide_eq_true_eq, val_head hl, e]
      constructor
      · exact fun z => .inr ⟨rfl, z⟩
      · rintro (z | z)
        · omega
        · exact z.2
    · have ev : PyData.eqv (.str x) (.str y) = false := by simp [PyData.eqv, e]
      rw [dataLt_all_no al ev, dataLt_str, Bool.eq_iff_iff, decide_eq_true_eq, decide_eq_true_eq, dig_lt x kx y ky, val_head hl]
      constructor
      · exact fun z => .inl z
      · rintro (z | z)
        · exact z
        · exact (e (dig_inj x kx y ky z.1)).elim
def pairD (a : List Str) : PyData := .tuple [.int a.length, .list (a.map PyData.str)]
open PySem.W in
theorem pair_alike (a b : List Str) : alike (pairD a) (pairD b) = true := by
  unfold pairD
  simp [alike, alikeAll, rows_alike]
open PySem.W in
theorem pair_lt {a b : List Str} (ka : KR a) (kb : KR b) : dataLt (pairD a) (pairD b) = decide (val a < val b) := by
  unfold pairD
  rw [dataLt_tuple]
  have al : alike (.int a.length) (.int b.length) = true := by simp [alike]
  by_cases e : a.length = b.length
  · have ev : PyData.eqv (.int a.length) (.int b.length) = true := by simp [PyData.eqv, e]
    have al2 : alike (.list (a.map PyData.str)) (.list (b.map PyData.str)) = true := by rw [alike]; exact rows_alike a b
    rw [dataLt_all_yes al ev]
    by_cases e2 : a = b
    · have ev2 : PyData.eqv (.list (a.map PyData.str)) (.list (b.map PyData.str)) = true := by rw [PyData.eqv, strs_eqv, e2]; simp
      rw [dataLt_all_yes al2 ev2, e2]
      have : ¬ val b < val b := by omega
      rw [decide_eq_false this]
      decide +kernel
    · have ev2 : PyData.eqv (.list (a.map PyData.str)) (.list (b.map PyData.str)) = false := by rw [PyData.eqv, strs_eqv, decide_eq_false e2]
      rw [dataLt_all_no al2 ev2, dataLt_list]
      exact rows_lt ka kb e
  · have ev : PyData.eqv (.int a.length) (.int b.length) = false := by
      rw [PyData.eqv]
      exact beq_eq_false_iff_ne.mpr fun z => e (by omega)
    rw [dataLt_all_no al ev, dataLt_int, Bool.eq_iff_iff, decide_eq_true_eq, decide_eq_true_eq]
    constructor
    · intro z
      refine Nat.lt_of_not_le fun le => ?_
      have := val_len le
      omega
    · intro z
      have := val_len (Nat.le_of_lt z)
      omega
end Ld

set_option Elab.async false
set_option linter.all false
set_option maxRecDepth 100000
set_option maxHeartbeats 4000000
/-! How long a shown grammar is. -/
namespace Ld
open PySem PySem.Spec PyProof.Rows L2
theorem textFrom_up {B : Nat} : ∀ (ts : List Str) (k : Nat) (acc : Str), (∀ t ∈ ts, t.length ≤ B) → (textFrom k acc ts).length ≤ acc.length + (B + 2) * ts.length
  | [], _, _, _ => by
    show _ ≤ _
    rw [textFrom]
    omega
  | t :: ts, k, acc, h => by
    have ih := textFrom_up ts (k + 1) (acc ++ (if k > 0 then ", " else "" : String) ++ t) fun x hx => h x (List.mem_cons_of_mem _ hx)
    have e : (acc ++ (if k > 0 then ", " else "" : String) ++ t).length ≤ acc.length + 2 + t.length := by
      rw [strLen_append, strLen_append]
      have : ((if k > 0 then ", " else "" : String) : Str).length ≤ 2 := by
        split
        · exact Nat.le_refl 2
        · exact Nat.zero_le 2
      omega
    have := h t List.mem_cons_self
    rw [textFrom, List.length_cons, Nat.mul_succ]
    omega
theorem listText_up {B : Nat} {ts : List Str} (h : ∀ t ∈ ts, t.length ≤ B) : (listText ts).length ≤ (B + 2) * ts.length + 2 := by
  unfold listText
  have := textFrom_up ts 0 "[" h
  have e1 : ((("[" : String) : Str)).length = 1 := rfl
  have e2 : ((("]" : String) : Str)).length = 1 := rfl
  rw [strLen_append]
  omega
theorem tupleText_up {x y : Str} : (tupleText [x, y]).length ≤ x.length + y.length + 6 := by
  unfold tupleText
  have := join_length_add [x, y] (by simp)
  have p : piled [x, y] = x.length + y.length + 4 := by
    simp only [piled, List.map_cons, List.map_nil, List.sum_cons, List.sum_nil]
    omega
  have e1 : ((("(" : String) : Str)).length = 1 := rfl
  have e2 : (((if ([x, y] : List Str).length == 1 then ",)" else ")" : String) : Str)).length = 1 := rfl
  rw [strLen_append, strLen_append]
  omega
theorem shownAll_map {α : Type} (f : α → PyData) : ∀ xs : List α, PyData.shownAll (xs.map f) = xs.map fun x => (f x).shown
  | [] => rfl
  | x :: xs => by
    rw [List.map_cons, PyData.shownAll, shownAll_map f xs]
    rfl
theorem showAll_map {α : Type} (f : α → PyData) (h : ∀ x, (f x).showable = true) : ∀ xs : List α, PyData.showableAll (xs.map f) = true
  | [] => rfl
  | x :: xs => by
    rw [List.map_cons, PyData.showableAll, h x, showAll_map f h xs]
    rfl
theorem str_showable (s : Str) : (PyData.str s).showable = true := rfl
theorem strs_showable (xs : List Str) : (PyData.list (xs.map PyData.str)).showable = true := by
  rw [PyData.showable]
  exact showAll_map _ str_showable xs
theorem rule_showable (r : Rule) : (ruleD r).showable = true := by
  unfold ruleD
  rw [PyData.showable, PyData.showableAll, PyData.showableAll, PyData.showableAll, strs_showable]
  rfl
theorem gD_showable (G : List Rule) : (gD G).showable = true := by
  unfold gD
  rw [PyData.showable]
  exact showAll_map _ rule_showable G
theorem pairG_showable (G : List Rule) (ks : List Str) : (PyData.tuple [gD G, .list (ks.map PyData.str)]).showable = true := by
  rw [PyData.showable, PyData.showableAll, PyData.showableAll, PyData.showableAll, gD_showable, strs_showable]
  rfl
theorem wordB_le {z lo hi : Str} (h : wordB z lo hi = true) : z.length ≤ 12 := by
  unfold wordB at h
  rw [Bool.and_eq_true, Bool.and_eq_true] at h
  have := of_decide_eq_true h.2.1
  omega
theorem sym_le {z : Str} (h : symB z = true) : z.length ≤ 12 := by
  unfold symB at h
  rcases Bool.or_eq_true _ _ |>.mp h with k | k
  · unfold kindB at k
    rw [Bool.and_eq_true] at k
    exact wordB_le k.1
  · exact wordB_le k
theorem sym_shown {z : Str} (h : symB z = true) : (PyData.str z).shown.length ≤ 122 := by
  rw [PyData.shown]
  have h1 := StrLaws.reprText_len z fun c hc => by
    have := sym_codes h c hc
    have e : (16 : Nat) ^ 8 = 4294967296 := by decide
    omega
  have := sym_le h
  omega
theorem syms_shown {ss : List Str} (h : ∀ s ∈ ss, symB s = true) (l : ss.length ≤ 10) : (PyData.list (ss.map PyData.str)).shown.length ≤ 1242 := by
  rw [PyData.shown, shownAll_map]
  have h1 := listText_up (B := 122) (ts := ss.map fun x => (PyData.str x).shown) fun t ht => by
    obtain ⟨s, hs, rfl⟩ := List.mem_map.mp ht
    exact sym_shown (h s hs)
  rw [List.length_map] at h1
  have : (122 + 2) * ss.length ≤ (122 + 2) * 10 := Nat.mul_le_mul_left _ l
  omega
theorem rule_shown {r : Rule} (g : GoodR r) : (ruleD r).shown.length ≤ 1370 := by
  unfold ruleD
  rw [PyData.shown, PyData.shownAll, PyData.shownAll, PyData.shownAll]
  have h1 := tupleText_up (x := (PyData.str r.1).shown) (y := (PyData.list (r.2.map PyData.str)).shown)
  have h2 := sym_shown (z := r.1) (by unfold symB; rw [g.1, Bool.or_true])
  have h3 := syms_shown (List.all_eq_true.mp g.2.2) (Nat.le_trans g.2.1 (by decide))
  omega
theorem gD_shown {G : List Rule} (g : ∀ r ∈ G, GoodR r) (l : G.length ≤ 12) : (gD G).shown.length ≤ 16466 := by
  unfold gD
  rw [PyData.shown, shownAll_map]
  have h1 := listText_up (B := 1370) (ts := G.map fun x => (ruleD x).shown) fun t ht => by
    obtain ⟨s, hs, rfl⟩ := List.mem_map.mp ht
    exact rule_shown (g s hs)
  rw [List.length_map] at h1
  have : (1370 + 2) * G.length ≤ (1370 + 2) * 12 := Nat.mul_le_mul_left _ l
  omega
def inD (G : List Rule) (ks : List Str) : PyData := .tuple [gD G, .list (ks.map PyData.str)]
theorem inD_showable (G : List Rule) (ks : List Str) : (inD G ks).showable = true := pairG_showable G ks
theorem inD_shown {G : List Rule} {ks : List Str} (g : ∀ r ∈ G, GoodR r) (l : G.length ≤ 12) (h : ∀ s ∈ ks, symB s = true) (l2 : ks.length ≤ 10) : (inD G ks).shown.length ≤ sizeLine := by
  unfold inD
  rw [PyData.shown, PyData.shownAll, PyData.shownAll, PyData.shownAll]
  have h1 := tupleText_up (x := (gD G).shown) (y := (PyData.list (ks.map PyData.str)).shown)
  have h2 := gD_shown g l
  have h3 := syms_shown h l2
  rw [sizeLine_eq]
  omega
theorem inD_shaped {G : List Rule} {ks : List Str} (g : ∀ r ∈ G, GoodR r) (h : ∀ s ∈ ks, symB s = true) : SeqAt.shaped (inD G ks) = true := by
  have h1 : (gD G).canLay0 = true := SeqAt.canLay_of_shaped (gD_shaped g)
  have h2 := strs_lay (ss := ks) fun s hs => strOk_sym (h s hs)
  refine shaped_mk ?_ ?_
  · simp [inD, PyData.canLay0, PyData.canLayAll0, h1, h2]
  · have h3 := rules_depth G
    have h4 := strs_depth ks
    simp only [inD, gD, PyData.depth, PyData.depthAll]
    omega
theorem faultD_shaped (o : Option (Str × Nat)) (h : ∀ s k, o = some (s, k) → PyData.strOk s = true) : SeqAt.shaped (match o with | none => PyData.none | some (s, k) => .tuple [.str s, .int k]) = true := by
  cases o with
  | none => exact shaped_mk rfl (by simp [PyData.depth])
  | some p =>
    obtain ⟨s, k⟩ := p
    refine shaped_mk ?_ (by simp [PyData.depth, PyData.depthAll])
    simp [PyData.canLay0, PyData.canLayAll0, h s k rfl]
end Ld

set_option Elab.async false
set_option linter.all false
set_option maxRecDepth 100000
set_option maxHeartbeats 4000000
/-! What stays where some dicts change; grammars, prices and rows as data. -/
namespace Ld
open PySem PySem.Spec PyProof.Rows L2 Lr Lb
/-- all but S stays; at S there were dicts -/
structure ButS (S : Addr → Prop) (A B : Hp) : Prop where
  keep : ∀ b o, ¬ S b → A b = some o → B b = some o
theorem ButS.of_same {S : Addr → Prop} {A B : Hp} (h : Same A B) : ButS S A B := ⟨fun b o _ e => h b o e⟩
theorem ButS.trans {S : Addr → Prop} {A B C : Hp} (h : ButS S A B) (k : ButS S B C) : ButS S A C := ⟨fun b o n e => k.keep b o n (h.keep b o n e)⟩
theorem ButS.upd {S : Addr → Prop} {A B : Hp} {d : Addr} {o : HO} (h : ButS S A B) (hd : S d) : ButS S A (L2.upd B d o) := ⟨fun b x n e => by
  rw [upd_ne (fun z => n (by rw [z]; exact hd))]
  exact h.keep b x n e⟩
theorem ButS.same {S : Addr → Prop} {A B : Hp} (h : ButS S A B) {C : Hp} (s : Same C A) (n : ∀ b, S b → C b = none) : Same C B := fun b o e => h.keep b o (fun z => by rw [n b z] at e; cases e) (s b o e)
section
variable {S : Addr → Prop} {A B : Hp}
theorem CostV.butS (h : ButS S A B) (dic : ∀ b, S b → ∃ kvs, A b = some (.dT kvs)) {v : V} : ∀ {o : Option Cost}, CostV A v o → CostV B v o
  | none, q => q
  | some _, ⟨t, e, q⟩ => ⟨t, e, h.keep t _ (fun z => by obtain ⟨k, e2⟩ := dic t z; rw [q] at e2; cases e2) q⟩
theorem EntK.butS (h : ButS S A B) (dic : ∀ b, S b → ∃ kvs, A b = some (.dT kvs)) {G : List Rule} {kvs : List (List Key × V)} {e : Ent} (q : EntK A G kvs e) : EntK B G kvs e := by
  refine ⟨fun N z => ?_, fun r d N ss h1 h2 => ?_, q.ks, q.nd⟩
  · obtain ⟨v, e1, c⟩ := q.nm N z
    exact ⟨v, e1, c.butS h dic⟩
  · obtain ⟨v, e1, c⟩ := q.rs r d N ss h1 h2
    exact ⟨v, e1, c.butS h dic⟩
theorem TabK.butS (h : ButS S A B) (dic : ∀ b, S b → ∃ kvs, A b = some (.dT kvs)) {G : List Rule} {n : Nat} {F : List (List Key × V)} {T : Nat → Nat → Ent} (q : TabK A G n F T) (out : ∀ p ∈ F, ∀ d, p.2 = .ref d → ¬ S d) : TabK B G n F T := by
  refine ⟨fun i j h1 h2 => ?_, q.ks, q.nd, q.apart⟩
  obtain ⟨d, kvs, e1, e2, e3⟩ := q.at_ i j h1 h2
  exact ⟨d, kvs, e1, h.keep d _ (out _ (valV_from e1) d rfl) e2, e3.butS h dic⟩
end
theorem TabK.congr {H : Hp} {G : List Rule} {n : Nat} {F : List (List Key × V)} {T T2 : Nat → Nat → Ent} (h : TabK H G n F T) (e : ∀ i j, i ≤ j → j ≤ n → T i j = T2 i j) : TabK H G n F T2 :=
  ⟨fun i j h1 h2 => by rw [← e i j h1 h2]; exact h.at_ i j h1 h2, h.ks, h.nd, h.apart⟩
/-- each value is None or a pair of numbers -/
def VOk (H : Hp) (kvs : List (List Key × V)) : Prop := ∀ p ∈ kvs, ∃ o, CostV H p.2 o
theorem EntK.vok {H : Hp} {G : List Rule} {kvs : List (List Key × V)} {e : Ent} (h : EntK H G kvs e) : VOk H kvs := fun p hp => by
  have v := valV_at2 h.nd hp
  rcases h.ks p hp with ⟨N, hN, e1⟩ | ⟨r, d, N, ss, h1, h2, e1⟩
  · obtain ⟨u, e2, c⟩ := h.nm N hN
    rw [e1, e2] at v
    exact ⟨_, by rw [← Option.some.inj v]; exact c⟩
  · obtain ⟨u, e2, c⟩ := h.rs r d N ss h1 h2
    rw [e1, e2] at v
    exact ⟨_, by rw [← Option.some.inj v]; exact c⟩
theorem TabK.vals {H : Hp} {G : List Rule} (gt : GraT G) {n : Nat} {F : List (List Key × V)} {T : Nat → Nat → Ent} (h : TabK H G n F T) : ∀ p ∈ F, ∃ d kvs, p.2 = .ref d ∧ H d = some (.dT kvs) ∧ VOk H kvs ∧ kvs.length ≤ 1320 := fun p hp => by
  have v := valV_at2 h.nd hp
  obtain ⟨i, j, h1, h2, e⟩ := h.ks p hp
  obtain ⟨d, kvs, e1, e2, e3⟩ := h.at_ i j h1 h2
  rw [e, e1] at v
  exact ⟨d, kvs, (Option.some.inj v).symm, e2, e3.vok, e3.few gt⟩
theorem VOk.butS {S : Addr → Prop} {A B : Hp} (h : ButS S A B) (dic : ∀ b, S b → ∃ kvs, A b = some (.dT kvs)) {kvs : List (List Key × V)} (q : VOk A kvs) : VOk B kvs := fun p hp => let ⟨o, c⟩ := q p hp; ⟨o, c.butS h dic⟩
/-! ### as data -/
def inT (G : List Rule) (Z : Prc) (row : List Str) : PyData := .tuple [gD G, prD Z, .list (row.map PyData.str)]
theorem inT_show {G : List Rule} {Z : Prc} (ok : PrcOk Z) (row : List Str) : (inT G Z row).showable = true := by
  unfold inT
  rw [PyData.showable, PyData.showableAll, PyData.showableAll, PyData.showableAll, PyData.showableAll, gD_showable, prD_show ok, strs_showable]
  rfl
theorem inT_dict (G : List Rule) (Z : Prc) (row : List Str) : (inT G Z row).hasDict = true := by
  simp [inT, prD, PyData.hasDict, PyData.hasDictAll]
theorem keys_depth : ∀ k : List Key, PyData.depthAll (k.map keyD) ≤ 1
  | [] => by simp [PyData.depthAll]
  | .inl _ :: k => by
    have := keys_depth k
    simp only [List.map_cons, keyD, PyData.depthAll, PyData.depth]
    omega
  | .inr _ :: k => by
    have := keys_depth k
    simp only [List.map_cons, keyD, PyData.depthAll, PyData.depth]
    omega
theorem ex_depth : ∀ kvs : List (List Key × V), PyData.depthKv (exD kvs) ≤ 3
  | [] => by simp [exD, PyData.depthKv]
  | (k, v) :: kvs => by
    have h1 := keys_depth k
    have h2 := ex_depth kvs
    have h3 : (vD v).depth ≤ 1 := by cases v <;> simp [vD, PyData.depth]
    show PyData.depthKv ((.tuple (k.map keyD), vD v) :: exD kvs) ≤ 3
    simp only [PyData.depthKv, PyData.depth]
    omega
theorem inT_depth (G : List Rule) (Z : Prc) (row : List Str) : (inT G Z row).depth ≤ 60 := by
  have h1 := rules_depth G
  have h2 := strs_depth row
  have h3 := ex_depth Z.ex
  simp only [inT, gD, prD, PyData.depth, PyData.depthAll]
  omega
theorem row_shown {row : List Str} (h : ∀ k ∈ row, k ∈ P4) (l : row.length ≤ 60) : (PyData.list (row.map PyData.str)).shown.length ≤ 2000 := by
  have one : ∀ k ∈ P4, (PyData.str k).shown.length ≤ 20 := by decide +kernel
  rw [PyData.shown, shownAll_map]
  have h1 := listText_up (B := 20) (ts := row.map fun x => (PyData.str x).shown) fun t ht => by
    obtain ⟨s, hs, rfl⟩ := List.mem_map.mp ht
    exact one s (h s hs)
  rw [List.length_map] at h1
  have : (20 + 2) * row.length ≤ (20 + 2) * 60 := Nat.mul_le_mul_left _ l
  omega
theorem inT_shown {G : List Rule} {Z : Prc} {row : List Str} (g : ∀ r ∈ G, GoodR r) (l : G.length ≤ 12) (ok : PrcOk Z) (h : ∀ k ∈ row, k ∈ P4) (l2 : row.length ≤ 60) : (inT G Z row).shown.length ≤ sizeLine := by
  unfold inT
  rw [PyData.shown, PyData.shownAll, PyData.shownAll, PyData.shownAll, PyData.shownAll]
  have h1 := tupleText_piled [(gD G).shown, (prD Z).shown, (PyData.list (row.map PyData.str)).shown]
  rw [piled_cons, piled_cons, piled_cons, piled_nil] at h1
  have h2 := gD_shown g l
  have h3 := shown_wt (prD Z)
  have h4 := prD_wt ok
  have h5 := row_shown h l2
  rw [sizeLine_eq]
  omega
theorem inT_dq {K : PySem.W.Frag} {H : Hp} {t g pr r : Addr} {G : List Rule} {Z : Prc} {row : List Str} (h : SqT K H t [.ref g, .ref pr, .ref r]) (hg : GraA H g G) (hp : PrA H pr Z) (ok : PrcOk Z) (hr : H r = some (.lst (row.map V.str))) : Dq K H (.ref t) (inT G Z row) :=
  .tup h (.cons (.dp hg.dp) (.cons (hp.dq ok) (.cons (.dp (.lst (SqL.of hr) (dp_strs _))) .nil)))
end Ld

set_option Elab.async false
set_option linter.all false
set_option maxRecDepth 100000
set_option maxHeartbeats 4000000
namespace Ld
open PySem PySem.Spec PyProof.Rows L2 Lg Lr Lb
theorem GramT.graK {G : List Rule} (h : GramT G) : GraK G := by
  refine ⟨fun r hr => n4t_low _ (h.good r hr).1, fun r hr s hs l => ?_, fun r hr => by have := (h.good r hr).2.1; omega, by have := h.few; omega, P3, by decide, fun x ⟨r, hr, hx, nx⟩ => ?_⟩
  · rcases (h.good r hr).2.2 s hs with m | m
    · exact h.names r hr s hs m
    · rw [p3_low s m] at l; cases l
  · rcases (h.good r hr).2.2 x hx with m | m
    · obtain ⟨q, hq, e⟩ := h.names r hr x hx m
      exact absurd (names_mem.mpr ⟨q, hq, e⟩) nx
    · exact m
theorem keys_mem {H : Hp} : ∀ {kvs : List (List Key × V)} {bs : List Addr}, IsKeys H kvs bs → ∀ b ∈ bs, ∃ p ∈ kvs, H b = some (.tup (p.1.map kV))
  | _, _, .nil, _, m => nomatch m
  | _, _, .cons h t, b, m => by
    rcases List.mem_cons.mp m with rfl | m
    · exact ⟨_, List.mem_cons_self, h⟩
    · obtain ⟨p, hp, e⟩ := keys_mem t b m
      exact ⟨p, List.mem_cons_of_mem _ hp, e⟩
theorem valV_has {κ : Type} [DecidableEq κ] : ∀ {kvs : List (κ × V)} {p : κ × V}, p ∈ kvs → ∃ v, valV kvs p.1 = some v
  | q :: r, p, h => by
    by_cases e : q.1 = p.1
    · exact ⟨_, valV_pos e⟩
    · rcases List.mem_cons.mp h with rfl | m
      · exact absurd rfl e
      · rw [valV_neg e]
        exact valV_has m
theorem keys_len {H : Hp} {kvs : List (List Key × V)} {bs : List Addr} (h : IsKeys H kvs bs) : bs.length = kvs.length := (Paired.length h).symm
theorem ref_at {bs : List Addr} {n : Nat} {x : V} (h : (bs.map V.ref)[n]? = some x) : ∃ b ∈ bs, x = .ref b := by
  rw [List.getElem?_map] at h
  cases e : bs[n]? with
  | none => rw [e] at h; cases h
  | some b => rw [e] at h; exact ⟨b, List.mem_of_getElem? e, (Option.some.inj h).symm⟩
section
variable {P : Program} {w : World} {K : PySem.W.Frag} {mg : Str → Option Value} {base : Heap}
theorem scTa : FnScope ["grammar", "prices", "row"] ["grammar", "prices", "row"] (defScope s_table) := ⟨rfl, rfl, rfl, by decide +kernel, rfl, by decide +kernel, by decide +kernel⟩
def spTa : Sp := fun vs H Q _ => ∃ (g t r : Addr) (G : List Rule) (Z : Prc) (row : List Str), vs = [.ref g, .ref t, .ref r] ∧ GraA H g G ∧ GraK G ∧ PrA H t Z ∧ PrcOk Z ∧ H r = some (.lst (row.map V.str)) ∧ row.length ≤ 60 ∧
  ∀ (f : Addr) (H2 : Hp) (F : List (List Key × V)) (T : Nat → Nat → Ent), Same H H2 → H f = none → H2 f = some (.dT F) → TabK H2 G row.length F T → (∀ p ∈ F, ∃ d, p.2 = .ref d ∧ H d = none ∧ d ≠ f) → F.length ≤ 4000 → (∀ i j, LeastAt (pbOf G Z row kn0) (T i j) i j) → Q (.ref f) H2
theorem ok_ta {f fF : Addr} {fd fdF : FuncData} (F : Fun K "table" "table" s_table f fd)
    (GF : FnOk P w K mg base CX0 5 fF fdF ["grammar", "prices", "row", "known"] spFi) (kF : PySem.W.keepIn K (.ref fF) = true) (bF : Binds K fdF ["grammar", "prices", "row", "known"] []) (gF : mg "filled" = some (.ref fF)) : FnOk P w K mg base CX0 6 f fd ["grammar", "prices", "row"] spTa := by
  refine F.ok scTa (fun vs H Q E h => ?_) (fun cdv A outer s H vs Q E hr h => ?_)
  · obtain ⟨g, t, r, G, Z, row, rfl, _⟩ := h
    rfl
  · obtain ⟨g, t, r, G, Z, row, rfl, hG, gk, hZ, ok, hrow, len, q⟩ := h
    refine ⟨_, pss_one (ps_ret (pe_call GF hr (by rfl) gF kF bF .nil pass0 (pa_cons (pv 0) (pa_cons (pv 1) (pa_cons (pv 2) (pa_cons pe_dnewT pa_nil)))))), ?_⟩
    refine ⟨_, rfl, _, rfl, _, rfl, fun p np => ?_⟩
    have s1 : Same H (upd H p (.dT [])) := same_upd np
    refine ⟨g, t, r, p, G, Z, row, rfl, hG.up (Up.of_same s1), gk, hZ.up (Up.of_same s1), ok, s1 _ _ hrow, len, upd_same, fun f H2 F T s2 nf hf tab fr few hT => q f H2 F T (s1.trans s2) (s1.free nf) hf tab (fun x hx => ?_) few hT⟩
    obtain ⟨d, e, nd, ne⟩ := fr x hx
    exact ⟨d, e, s1.free nd, ne⟩
end
end Ld

set_option Elab.async false
set_option linter.all false
set_option maxRecDepth 100000
set_option maxHeartbeats 4000000
namespace Ld
open PySem PySem.Spec PyProof.Rows L2 Lg Lr Lb
section
variable {P : Program} {w : World} {K : PySem.W.Frag} {mg : Str → Option Value} {base : Heap}
theorem scL : FnScope ["script", "draws", "grammar", "prices", "row", "kept", "told", "due", "stretch", "key", "cost"] ["script"] (defScope sLaw) := ⟨rfl, rfl, rfl, by decide +kernel, rfl, by decide +kernel, by decide +kernel⟩
def spLaw (K : PySem.W.Frag) : Sp := fun vs H Q _ => ∃ (a : Addr) (ns : List Int), vs = [.ref a] ∧ SqL K H a (ns.map V.int) ∧ ns.length ≤ 63 ∧ ∀ H', Q (.bl true) H'
theorem ok_law {f fD fG fP fR fI fT fU : Addr} {fd fdD fdG fdP fdR fdI fdT fdU : FuncData} (F : Fun K "law" "law" sLaw f fd)
    (GD : FnOk P w K mg base CX0 1 fD fdD ["script"] (spDraws K)) (kD : PySem.W.keepIn K (.ref fD) = true) (bD : Binds K fdD ["script"] []) (gD : mg "_law_draws" = some (.ref fD))
    (GG : FnOk P w K mg base CX0 2 fG fdG ["draws", "first"] (spGramT K)) (kG : PySem.W.keepIn K (.ref fG) = true) (bG : Binds K fdG ["draws", "first"] []) (gG : mg "_law_grammar" = some (.ref fG))
    (GP : FnOk P w K mg base CX0 2 fP fdP ["draws", "first"] (spPrices K)) (kP : PySem.W.keepIn K (.ref fP) = true) (bP : Binds K fdP ["draws", "first"] []) (gP : mg "_law_prices" = some (.ref fP))
    (GR : FnOk P w K mg base CX0 2 fR fdR ["draws", "first", "most"] (spRow K)) (kR : PySem.W.keepIn K (.ref fR) = true) (bR : Binds K fdR ["draws", "first", "most"] []) (gR : mg "_law_row" = some (.ref fR))
    (GI : FnOk P w K mg base CX0 1 fI fdI ["actual"] spLInt) (kI : PySem.W.keepIn K (.ref fI) = true) (bI : Binds K fdI ["actual"] []) (gI : mg "_law_is_integer" = some (.ref fI))
    (GT : FnOk P w K mg base CX0 6 fT fdT ["grammar", "prices", "row"] spTa) (kT : PySem.W.keepIn K (.ref fT) = true) (bT : Binds K fdT ["grammar", "prices", "row"] []) (gT : mg "table" = some (.ref fT))
    (GU : FnOk P w K mg base CX0 5 fU fdU ["grammar", "prices", "row"] spTable) (kU : PySem.W.keepIn K (.ref fU) = true) (bU : Binds K fdU ["grammar", "prices", "row"] []) (gU : mg "_law_table" = some (.ref fU))
    (mis : mg "isinstance" = none) (mdi : mg "dict" = none) (mtu : mg "tuple" = none) (mli : mg "list" = none) (mso : mg "sorted" = none) (mre : mg "repr" = none) : Top P w K mg base CX0 f fd ["script"] (spLaw K) := by
  refine top_ok F scL (k := 6) ⟨rfl, by decide, by decide⟩ (fun vs H Q E h => ?_) (fun cdv s H vs Q E hr h => ?_)
  · obtain ⟨a, ns, rfl, _⟩ := h
    rfl
  · obtain ⟨a, ns, rfl, hS, hlen, q⟩ := h
    have hu := units1 hr
    have hr1 : Room 1 (callerA.deeper (envOfC "law" (defScope sLaw) s.heap.objs.size f cdv)) := hr.mono (by decide)
    have hr2 : Room 2 (callerA.deeper (envOfC "law" (defScope sLaw) s.heap.objs.size f cdv)) := hr.mono (by decide)
    have hr5 : Room 5 (callerA.deeper (envOfC "law" (defScope sLaw) s.heap.objs.size f cdv)) := hr.mono (by decide)
    refine ⟨_, pss_cons (ps_set (i := 1) scL.nd rfl (.inl rfl) (pe_call GD hr1 (by rfl) gD kD bD .nil pass0 (pa_cons (pv 0) pa_nil)))
      (pss_cons (ps_set (i := 2) scL.nd rfl (.inl rfl) (pe_call GG hr2 (by rfl) gG kG bG .nil pass0 (pa_cons (pv 1) (pa_cons pe_int pa_nil))))
      (pss_cons (ps_set (i := 3) scL.nd rfl (.inl rfl) (pe_call GP hr2 (by rfl) gP kP bP .nil pass0 (pa_cons (pv 1) (pa_cons pe_int pa_nil))))
      (pss_cons (ps_set (i := 4) scL.nd rfl (.inl rfl) (pe_call GR hr2 (by rfl) gR kR bR .nil pass0 (pa_cons (pv 1) (pa_cons pe_int (pa_cons pe_int pa_nil)))))
      (pss_cons (ps_set (i := 5) scL.nd rfl (.inl rfl) (pe_callB (call_reprQ rfl (units66 hr)) (by rfl) mre (by decide +kernel) (pa_cons (pe_tup (pa_cons (pv 2) (pa_cons (pv 3) (pa_cons (pv 4) pa_nil)))) pa_nil)))
      (pss_cons (ps_set (i := 6) scL.nd rfl (.inl rfl) (pe_call GT hr (by rfl) gT kT bT .nil pass0 (pa_cons (pv 2) (pa_cons (pv 3) (pa_cons (pv 4) pa_nil)))))
      (pss_cons (ps_set (i := 7) scL.nd rfl (.inl rfl) (pe_call GU hr5 (by rfl) gU kU bU .nil pass0 (pa_cons (pv 2) (pa_cons (pv 3) (pa_cons (pv 4) pa_nil)))))
      (pss_cons (ps_if (PW.pt (pw_or (pt_not (pt_val (pe_callB call_isi (by rfl) mis (by decide +kernel) (pa_cons (pv 6) (pa_cons (pe_bltn (v := .ty "dict") (by rfl) mdi (by decide +kernel) rfl) pa_nil)))))
          (pw_or (pt_cmpR (op_neT (units120 hr)) (pv 6) (pv 7) (nomark _))
          (pw_or1 (pt_cmpR op_ne (pe_callB (call_reprQ rfl (units66 hr)) (by rfl) mre (by decide +kernel) (pa_cons (pe_tup (pa_cons (pv 2) (pa_cons (pv 3) (pa_cons (pv 4) pa_nil)))) pa_nil)) (pv 5) (nomark _)))))) (pss_one (ps_ret pe_bl)) pss_nil)
      (pss_cons (ps_for PassesOwn.never rfl (pi_list (pe_callB cr_sortedP (by rfl) mso (by decide +kernel) (pa_cons (pe_callTy (call_list_dT rfl) (by rfl) mli (by decide +kernel) (pa_cons (pv 6) pa_nil)) pa_nil))) (pg_name (i := 8) scL.nd rfl (.inl rfl))
        (pss_cons (ps_for PassesOwn.never rfl (pi_list (pe_callTy (call_list_dT rfl) (by rfl) mli (by decide +kernel) (pa_cons (pe_dget hu (pv 6) (pv 8) (fun _ _ => rfl)) pa_nil))) (pg_name (i := 9) scL.nd rfl (.inl rfl))
          (pss_cons (ps_set (i := 10) scL.nd rfl (.inl rfl) (pe_dget hu (pe_dget hu (pv 6) (pv 8) (fun _ _ => rfl)) (pv 9) (fun _ _ => rfl)))
          (pss_one (ps_if (PW.pt (pw_and (pt_cmp (pc_notN (pv 10)) (by rfl)) (pw_and1 (PW.pt (pw_or (pt_not (pt_val (pe_callB call_isi (by rfl) mis (by decide +kernel) (pa_cons (pv 10) (pa_cons (pe_bltn (v := .ty "tuple") (by rfl) mtu (by decide +kernel) rfl) pa_nil)))))
              (pw_or1 (pt_not (pt_val (pe_call GI hr1 (by rfl) gI kI bI .nil pass0 (pa_cons (pe_ix ix_tup (pv 10) pe_int (fun _ _ => rfl)) pa_nil)))))))))) (pss_one (ps_ret pe_bl)) pss_nil))))
        (pss_one (ps_dput hu (pe_dget hu (pv 6) (pv 8) (fun _ _ => rfl)) (pe_tup (pa_cons pe_str (pa_cons pe_str pa_nil))) pe_non (by rfl)))))
      (pss_cons (ps_dput hu (pv 6) (pe_tup (pa_cons pe_int (pa_cons pe_int pa_nil))) pe_dnewT (by rfl))
      (pss_one (ps_ret (pe_cmpR (op_eqT (units120 hr)) (pe_call GT hr (by rfl) gT kT bT .nil pass0 (pa_cons (pv 2) (pa_cons (pv 3) (pa_cons (pv 4) pa_nil)))) (pv 7) (nomark _))))))))))))), ?_⟩
    refine ⟨_, rfl, a, ns, rfl, hS, hlen, fun o no => ?_⟩
    have ho1 : upd H o (.lst ((drawsOf ns).map V.int)) o = some (.lst ((drawsOf ns).map V.int)) := upd_same
    generalize upd H o (.lst ((drawsOf ns).map V.int)) = H1 at ho1
    refine ⟨_, rfl, o, drawsOf ns, 0, rfl, ho1, by decide, fun g H2 G s2 gt ng hg => ?_⟩
    have hG2 : GraA H2 g G := hg.up (Up.of_same news_same)
    refine ⟨_, rfl, o, drawsOf ns, 14, rfl, s2 _ _ ho1, by decide, fun t H3 Z s3 nt ok hZ => ?_⟩
    have hZ3 : PrA H3 t Z := hZ.up (Up.of_same news_same)
    have hG3 := hG2.up (Up.of_same s3)
    refine ⟨_, rfl, o, drawsOf ns, 28, 4, rfl, s3 _ _ (s2 _ _ ho1), by decide, by decide, fun r H4 row s4 nr hrow lrow r4 => ?_⟩
    have hG4 := hG3.up (Up.of_same s4)
    have hZ4 := hZ3.up (Up.of_same s4)
    have shown := inT_shown (row := row) gt.goodR gt.few ok r4 (by omega)
    refine ⟨_, rfl, _, rfl, _, rfl, (by show 3 ≤ sizeLine; decide), fun tt ntt => ?_⟩
    have s5 : Same H4 (upd H4 tt (.tup [.ref g, .ref t, .ref r])) := same_upd ntt
    refine ⟨tt, inT G Z row, rfl, inT_dq (SqT.of upd_same) (hG4.up (Up.of_same s5)) (hZ4.up (Up.of_same s5)) ok (s5 _ _ hrow), inT_dict _ _ _, inT_show ok row, inT_depth _ _ _, shown, ?_⟩
    generalize upd H4 tt (.tup [.ref g, .ref t, .ref r]) = H5 at s5
    have hG5 := hG4.up (Up.of_same s5)
    have hZ5 := hZ4.up (Up.of_same s5)
    have hrow5 := s5 _ _ hrow
    refine ⟨_, rfl, _, rfl, _, rfl, g, t, r, G, Z, row, rfl, hG5, gt.graK, hZ5, ok, hrow5, by omega, fun f H6 F T s6 nf hf tab fr few hT => ?_⟩
    refine ⟨_, rfl, _, rfl, _, rfl, g, t, r, G, Z, row, N4t, rfl, hG5.up (Up.of_same s6), gt.walk, hZ5.up (Up.of_same s6), ok, s6 _ _ hrow5, by omega, gt.cover, by decide, fun f2 H7 F2 T2 s7 nf2 hf2 tab2 fr2 few2 hT2 => ?_⟩
    have s57 := s6.trans s7
    have tab7 := tab.up (Up.of_same s7)
    have hf7 := s7 _ _ hf
    have tab2 : TabK H7 G row.length F2 T := tab2.congr fun i j h1 h2 => ent_agree (hT2 i j h1 h2) (hT i j)
    -- what was told is what is due
    refine ⟨_, rfl, .ref f, .ty "dict", .type "dict", .type "dict", true, rfl, .ty "dict", .base (.dT hf7), rfl, true, rfl, iteF ?_⟩
    refine ⟨_, rfl, _, rfl, ⟨2, by decide, .inl ⟨f, f2, F, F2, rfl, rfl, hf7, hf2, (tab7.eqT (K := K) tab2).1, (tab7.eqT tab2).2⟩, _, rfl, iteF ?_⟩⟩
    refine ⟨_, rfl, _, rfl, _, rfl, (by show 3 ≤ sizeLine; decide), fun t2 nt2 => ?_⟩
    have s8 : Same H7 (upd H7 t2 (.tup [.ref g, .ref t, .ref r])) := same_upd nt2
    have s58 := s57.trans s8
    refine ⟨t2, inT G Z row, rfl, inT_dq (SqT.of upd_same) (hG5.up (Up.of_same s58)) (hZ5.up (Up.of_same s58)) ok (s58 _ _ hrow5), inT_dict _ _ _, inT_show ok row, inT_depth _ _ _, shown, ?_⟩
    refine ⟨_, rfl, rfl, _, rfl, ?_⟩
    rw [decide_eq_true (rfl : V.str (inT G Z row).shown = _)]
    refine iteF ?_
    have hf8 := s8 _ _ hf7
    have tab8 := tab7.up (Up.of_same s8)
    have tab28 := tab2.up (Up.of_same s8)
    have hf28 := s8 _ _ hf2
    generalize upd H7 t2 (.tup [.ref g, .ref t, .ref r]) = H8 at s8 s58 hf8 tab8 tab28 hf28
    -- what the changes reach
    have inS : ∀ b, (b = f ∨ ∃ p ∈ F, p.2 = V.ref b) → H5 b = none ∧ (∃ kvs, H6 b = some (.dT kvs)) := fun b z => by
      rcases z with rfl | ⟨p, hp, e⟩
      · exact ⟨nf, _, hf⟩
      · obtain ⟨d, e2, nd, _⟩ := fr p hp
        rw [e] at e2
        cases e2
        obtain ⟨d2, kvs, e3, h3, _⟩ := tab.vals gt.walk p hp
        rw [e] at e3
        cases e3
        exact ⟨nd, kvs, h3⟩
    have dic8 : ∀ b, (b = f ∨ ∃ p ∈ F, p.2 = V.ref b) → ∃ kvs, H8 b = some (.dT kvs) := fun b z => by
      obtain ⟨_, kvs, e⟩ := inS b z
      exact ⟨kvs, s8 _ _ (s7 _ _ e)⟩
    have outS : ∀ p ∈ F2, ∀ d, p.2 = V.ref d → ¬ (d = f ∨ ∃ p ∈ F, p.2 = V.ref d) := fun p hp d e z => by
      obtain ⟨d2, e2, nd, _⟩ := fr2 p hp
      rw [e] at e2
      cases e2
      obtain ⟨_, kvs, h⟩ := inS d z
      rw [nd] at h
      cases h
    have f2S : ¬ (f2 = f ∨ ∃ p ∈ F, p.2 = V.ref f2) := fun z => by
      obtain ⟨_, kvs, h⟩ := inS f2 z
      rw [nf2] at h
      cases h
    refine ⟨_, rfl, f, F, rfl, .inl hf8, fun kl bs nkl keys => ?_⟩
    have s9 : Same H8 (upd H8 kl (.lst (bs.map V.ref))) := same_upd nkl
    have hkl : upd H8 kl (.lst (bs.map V.ref)) kl = some (.lst (bs.map V.ref)) := upd_same
    generalize upd H8 kl (.lst (bs.map V.ref)) = H9 at s9 hkl
    have keyT : ∀ x ∈ bs.map V.ref, ∃ b, x = V.ref b ∧ ∃ p ∈ F, H8 b = some (.tup (p.1.map kV)) := fun x hx => by
      obtain ⟨b, hb, rfl⟩ := List.mem_map.mp hx
      exact ⟨b, rfl, keys_mem keys b hb⟩
    refine ⟨kl, _, rfl, SqL.of hkl, fun x hx => ?_, fun ys sl perm nsl => ⟨sl, rfl, ⟨_, SqL.of upd_same⟩, ?_⟩⟩
    · obtain ⟨b, rfl, p, hp, e⟩ := keyT x hx
      obtain ⟨i, j, _, _, e2⟩ := tab.ks p hp
      rw [e2] at e
      exact ⟨b, _, _, rfl, s9 _ _ e⟩
    have s10 : Same H9 (upd H9 sl (.lst ys)) := same_upd nsl
    have hsl : upd H9 sl (.lst ys) sl = some (.lst ys) := upd_same
    generalize upd H9 sl (.lst ys) = HA at s10 hsl
    have s8A := s9.trans s10
    have ylen : ys.length ≤ 4000 := by
      rw [perm.length_eq, List.length_map, keys_len keys]
      exact few
    have slS : ¬ (sl = f ∨ ∃ p ∈ F, p.2 = V.ref sl) := fun z => by
      obtain ⟨kvs, e⟩ := dic8 sl z
      rw [s9 _ _ e] at nsl
      cases nsl
    refine for_list (a := sl) (xs := ys) (fun n σ H' => ∃ v8 v9 v10, σ = [some (.ref a), some (.ref o), some (.ref g), some (.ref t), some (.ref r), some (.str (inT G Z row).shown), some (.ref f), some (.ref f2), v8, v9, v10] ∧ ButS (fun b => b = f ∨ ∃ p ∈ F, p.2 = V.ref b) HA H' ∧
        H' f = some (.dT F) ∧ ∀ p ∈ F, ∃ d kvs, p.2 = .ref d ∧ d ≠ f ∧ H' d = some (.dT kvs) ∧ VOk H' kvs ∧ kvs.length ≤ 1320 + n)
      ⟨none, none, none, rfl, ButS.of_same fun b o e => e, s8A _ _ hf8, fun p hp => ?_⟩ (fun n σ H' _ ⟨_, _, _, _, but, _⟩ => SqL.of (but.keep _ _ slS hsl)) ?_ ?_
    · obtain ⟨d, kvs, e, h, ok2, l⟩ := (tab8.up (Up.of_same s8A)).vals gt.walk p hp
      obtain ⟨d2, e2, _, ne⟩ := fr p hp
      rw [e] at e2
      cases e2
      exact ⟨d, kvs, e, ne, h, ok2, l⟩
    · rintro n x σ H' hx ⟨v8, v9, v10, rfl, but, hf', all⟩
      have nl : n < ys.length := (List.getElem?_eq_some_iff.mp hx).1
      obtain ⟨b, rfl, p, hp, hb⟩ := keyT x (perm.mem_iff.mp (List.mem_of_getElem? hx))
      obtain ⟨d, kvs, ed, dnf, hd, vok, kl1⟩ := all p hp
      have tupS : ∀ {c : Addr} {xs : List V}, H8 c = some (.tup xs) → H' c = some (.tup xs) := fun {c xs} e => but.keep _ _ (fun z => by
        obtain ⟨kvs, e2⟩ := dic8 c z
        rw [e] at e2
        cases e2) (s8A _ _ e)
      have hb' := tupS hb
      have vp := valV_at2 tab.nd hp
      rw [ed] at vp
      have gd : ∀ {A : Hp}, Same H' A → DGet A f (.ref b) (some (.ref d)) := fun {A} u => by
        have := DGet.t (k := p.1) (u _ _ hf') (u _ _ hb')
        rw [vp] at this
        exact this
      refine ⟨_, rfl, _, rfl, f, .ref d, rfl, gd (fun b o e => e), d, kvs, rfl, .inl hd, fun kq cs nkq keys2 => ⟨kq, rfl, ⟨_, SqL.of upd_same⟩, ?_⟩⟩
      have u1 : Same H' (upd H' kq (.lst (cs.map V.ref))) := same_upd nkq
      have hkq : upd H' kq (.lst (cs.map V.ref)) kq = some (.lst (cs.map V.ref)) := upd_same
      generalize upd H' kq (.lst (cs.map V.ref)) = B at u1 hkq
      refine for_list (a := kq) (xs := cs.map V.ref) (fun m σ H2 => ∃ v9 v10, σ = [some (.ref a), some (.ref o), some (.ref g), some (.ref t), some (.ref r), some (.str (inT G Z row).shown), some (.ref f), some (.ref f2), some (.ref b), v9, v10] ∧ H2 = B)
        ⟨v9, v10, rfl, rfl⟩ (fun m σ H2 _ ⟨_, _, _, e⟩ => by rw [e]; exact SqL.of hkq) ?_ ?_
      · rintro m y σ H2 hy ⟨v9, v10, rfl, rfl⟩
        obtain ⟨c, hc, rfl⟩ := ref_at hy
        obtain ⟨p2, hp2, ec⟩ := keys_mem keys2 c hc
        obtain ⟨v, ev⟩ := valV_has hp2
        obtain ⟨oc, cv⟩ := vok _ (valV_from ev)
        have cv : CostV H2 v oc := cv.same u1
        have gc := DGet.t (k := p2.1) (u1 _ _ hd) (u1 _ _ ec)
        rw [ev] at gc
        refine ⟨_, rfl, _, rfl, f, .ref d, rfl, gd u1, _, rfl, d, v, rfl, gc, _, rfl, ?_⟩
        cases oc with
        | none =>
          rw [show v = .non from cv]
          exact ⟨_, rfl, iteF (iteF ⟨_, _, rfl, rfl⟩)⟩
        | some c0 =>
          obtain ⟨tc, rfl, htc⟩ := cv
          refine ⟨_, rfl, iteT ⟨_, rfl, .ref tc, .ty "tuple", .type "tuple", .type "tuple", true, rfl, .ty "tuple", .base (.tup htc), rfl, true, rfl, iteF ?_⟩⟩
          exact ⟨_, rfl, tc, _, 0, _, rfl, rfl, SqT.of htc, rfl, c0.1, rfl, true, rfl, iteF ⟨_, _, rfl, rfl⟩⟩
      · rintro σ H2 ⟨v9, v10, rfl, rfl⟩
        refine ⟨_, rfl, _, rfl, f, .ref d, rfl, gd u1, (by show 2 ≤ sizeLine; decide), fun kt nkt => ?_⟩
        have u2 : Same H2 (upd H2 kt (.tup [.str "name", .str "zz"])) := same_upd nkt
        have hkt : upd H2 kt (.tup [.str "name", .str "zz"]) kt = some (.tup ((kN "zz").map kV)) := upd_same
        generalize upd H2 kt (.tup [.str "name", .str "zz"]) = C at u2 hkt
        have u12 := u1.trans u2
        have hdC := u12 _ _ hd
        refine ⟨d, _, rfl, .inr ⟨kvs, kN "zz", kt, hdC, rfl, hkt, million1 (by omega), rfl⟩, _, _, _, rfl, (but.trans (ButS.of_same u12)).upd (.inr ⟨p, hp, ed⟩), by rw [upd_ne (Ne.symm dnf)]; exact u12 _ _ hf', fun p3 hp3 => ?_⟩
        have tC : TupS C (upd C d (.dT (putK kvs (kN "zz") .non))) := TupS.at_dT hdC
        have up : ∀ {ks : List (List Key × V)}, VOk H' ks → VOk (upd C d (.dT (putK kvs (kN "zz") .non))) ks := fun {ks} h q hq => let ⟨oc, c⟩ := h q hq; ⟨oc, (c.same u12).tupS tC⟩
        obtain ⟨d3, kv3, e3, n3, h3, ok3, l3⟩ := all p3 hp3
        by_cases z : d3 = d
        · subst z
          rw [hd] at h3
          cases h3
          refine ⟨d3, putK kvs (kN "zz") .non, e3, n3, upd_same, fun q hq => ?_, ?_⟩
          · rcases putK_keys.1 q hq with m | rfl
            · exact up vok q m
            · exact ⟨none, rfl⟩
          · have := length_putK kvs (kN "zz") V.non
            omega
        · exact ⟨d3, kv3, e3, n3, by rw [upd_ne z]; exact u12 _ _ h3, up ok3, by omega⟩
    · rintro σ H' ⟨v8, v9, v10, rfl, but, hf', all⟩
      intro ne nne
      have u1 : Same H' (upd H' ne (.dT [])) := same_upd nne
      generalize upd H' ne (.dT []) = B at u1
      refine ⟨_, rfl, (by show 2 ≤ sizeLine; decide), fun kt nkt => ?_⟩
      have u2 : Same B (upd B kt (.tup [.int 0, .int 0])) := same_upd nkt
      have hkt : upd B kt (.tup [.int 0, .int 0]) kt = some (.tup ((kS 0 0).map kV)) := upd_same
      generalize upd B kt (.tup [.int 0, .int 0]) = C at u2 hkt
      have u12 := u1.trans u2
      have hfC := u12 _ _ hf'
      refine ⟨f, _, rfl, .inr ⟨F, kS 0 0, kt, hfC, rfl, hkt, million1 (by omega), rfl⟩, ?_⟩
      have but2 : ButS (fun b => b = f ∨ ∃ p ∈ F, p.2 = V.ref b) HA (upd C f (.dT (putK F (kS 0 0) (.ref ne)))) := (but.trans (ButS.of_same u12)).upd (.inl rfl)
      generalize upd C f (.dT (putK F (kS 0 0) (.ref ne))) = D at but2
      have sD : Same H5 D := but2.same (s58.trans s8A) fun b z => (inS b z).1
      have tab2D : TabK D G row.length F2 T := (tab28.up (Up.of_same s8A)).butS but2 (fun b z => let ⟨kvs, e⟩ := dic8 b z; ⟨kvs, s8A _ _ e⟩) outS
      have hf2D : D f2 = some (.dT F2) := but2.keep _ _ f2S (s8A _ _ hf28)
      refine ⟨_, rfl, _, rfl, _, rfl, g, t, r, G, Z, row, rfl, hG5.up (Up.of_same sD), gt.graK, hZ5.up (Up.of_same sD), ok, sD _ _ hrow5, by omega, fun f3 HE F3 T3 s3 nf3 hf3 tab3 fr3 few3 hT3 => ?_⟩
      have tab3 : TabK HE G row.length F3 T := tab3.congr fun i j h1 h2 => ent_agree (hT3 i j) (hT i j)
      have tab2E := tab2D.up (Up.of_same s3)
      exact ⟨_, rfl, 2, by decide, .inl ⟨f3, f2, F3, F2, rfl, rfl, hf3, s3 _ _ hf2D, (tab3.eqT (K := K) tab2E).1, (tab3.eqT tab2E).2⟩, q _⟩
end
end Ld

set_option Elab.async false
set_option linter.all false
set_option maxRecDepth 100000
set_option maxHeartbeats 4000000

namespace Ld
open PySem PySem.Spec PyProof.Rows L2 Lg Lr Lb

theorem all_mk {l : PySem.W.OpenLaw} {w : World} {K : PySem.W.Frag} {h : Heap} {mg : Str → Option Value} {fa   fnm fad fls fpu fou fch fle fsh flc fta ffi fps fpc fsp fme fus fef frs frn fdr fat fli fgr fpr fro flp flo flx fll fln flm flz flr flt flw : Addr} (X : K.In h) (G : h.Ns mainGlobals mg) (hfa : mg "law" = some (.ref fa))
    {odnm annm odad anad odls anls odpu anpu odou anou odch anch odle anle odsh ansh odlc anlc odta anta odfi anfi odps anps odpc anpc odsp ansp odme anme odus anus odef anef odrs anrs odrn anrn oddr andr odat anat odli anli odgr angr odpr anpr odro anro odlp anlp odlo anlo odlx anlx odll anll odln anln odlm anlm odlz anlz odlr anlr odlt anlt odlw anlw : Option Addr}
    {slnm slad slls slpu slou slch slle slsh sllc slta slfi slps slpc slsp slme slus slef slrs slrn sldr slat slli slgr slpr slro sllp sllo sllx slll slln sllm sllz sllr sllt sllw : Array (Option Value)}
    {ocnm kVnm dcnm pmnm ctnm cdnm ocad kVad dcad pmad ctad cdad ocls kVls dcls pmls ctls cdls ocpu kVpu dcpu pmpu ctpu cdpu ocou kVou dcou pmou ctou cdou occh kVch dcch pmch ctch cdch ocle kVle dcle pmle ctle cdle ocsh kVsh dcsh pmsh ctsh cdsh oclc kVlc dclc pmlc ctlc cdlc octa kVta dcta pmta ctta cdta ocfi kVfi dcfi pmfi ctfi cdfi ocps kVps dcps pmps ctps cdps ocpc kVpc dcpc pmpc ctpc cdpc ocsp kVsp dcsp pmsp ctsp cdsp ocme kVme dcme pmme ctme cdme ocus kVus dcus pmus ctus cdus ocef kVef dcef pmef ctef cdef ocrs kVrs dcrs pmrs ctrs cdrs ocrn kVrn dcrn pmrn ctrn cdrn ocdr kVdr dcdr pmdr ctdr cddr ocat kVat dcat pmat ctat cdat ocli kVli dcli pmli ctli cdli ocgr kVgr dcgr pmgr ctgr cdgr ocpr kVpr dcpr pmpr ctpr cdpr ocro kVro dcro pmro ctro cdro oclp kVlp dclp pmlp ctlp cdlp oclo kVlo dclo pmlo ctlo cdlo oclx kVlx dclx pmlx ctlx cdlx ocll kVll dcll pmll ctll cdll ocln kVln dcln pmln ctln cdln oclm kVlm dclm pmlm ctlm cdlm oclz kVlz dclz pmlz ctlz cdlz oclr kVlr dclr pmlr ctlr cdlr oclt kVlt dclt pmlt ctlt cdlt oclw kVlw dclw pmlw ctlw cdlw : Value}
    (anm : PySem.W.nsIn K mainGlobals "names_of" = some (some (.ref fnm)))
    (lnm : K.lookup fnm = some ⟨ocnm, odnm, .func (PySem.W.fnOf "names_of" "names_of" (defArgs s_names_of) (defBody s_names_of) (defScope s_names_of) .none kVnm dcnm pmnm annm cdnm ctnm), slnm⟩)
    (cnm : PySem.W.codeIn K cdnm "names_of" = true)
    (knm : PySem.W.keepIn K (.ref fnm) = true)
    (aad : PySem.W.nsIn K mainGlobals "added" = some (some (.ref fad)))
    (lad : K.lookup fad = some ⟨ocad, odad, .func (PySem.W.fnOf "added" "added" (defArgs s_added) (defBody s_added) (defScope s_added) .none kVad dcad pmad anad cdad ctad), slad⟩)
    (cad : PySem.W.codeIn K cdad "added" = true)
    (kad : PySem.W.keepIn K (.ref fad) = true)
    (als : PySem.W.nsIn K mainGlobals "least" = some (some (.ref fls)))
    (lls : K.lookup fls = some ⟨ocls, odls, .func (PySem.W.fnOf "least" "least" (defArgs s_least) (defBody s_least) (defScope s_least) .none kVls dcls pmls anls cdls ctls), slls⟩)
    (cls : PySem.W.codeIn K cdls "least" = true)
    (kls : PySem.W.keepIn K (.ref fls) = true)
    (apu : PySem.W.nsIn K mainGlobals "put_price" = some (some (.ref fpu)))
    (lpu : K.lookup fpu = some ⟨ocpu, odpu, .func (PySem.W.fnOf "put_price" "put_price" (defArgs s_put_price) (defBody s_put_price) (defScope s_put_price) .none kVpu dcpu pmpu anpu cdpu ctpu), slpu⟩)
    (cpu : PySem.W.codeIn K cdpu "put_price" = true)
    (kpu : PySem.W.keepIn K (.ref fpu) = true)
    (aou : PySem.W.nsIn K mainGlobals "out_price" = some (some (.ref fou)))
    (lou : K.lookup fou = some ⟨ocou, odou, .func (PySem.W.fnOf "out_price" "out_price" (defArgs s_out_price) (defBody s_out_price) (defScope s_out_price) .none kVou dcou pmou anou cdou ctou), slou⟩)
    (cou : PySem.W.codeIn K cdou "out_price" = true)
    (kou : PySem.W.keepIn K (.ref fou) = true)
    (ach : PySem.W.nsIn K mainGlobals "change_price" = some (some (.ref fch)))
    (lch : K.lookup fch = some ⟨occh, odch, .func (PySem.W.fnOf "change_price" "change_price" (defArgs s_change_price) (defBody s_change_price) (defScope s_change_price) .none kVch dcch pmch anch cdch ctch), slch⟩)
    (cch : PySem.W.codeIn K cdch "change_price" = true)
    (kch : PySem.W.keepIn K (.ref fch) = true)
    (ale : PySem.W.nsIn K mainGlobals "leaf_price" = some (some (.ref fle)))
    (lle : K.lookup fle = some ⟨ocle, odle, .func (PySem.W.fnOf "leaf_price" "leaf_price" (defArgs s_leaf_price) (defBody s_leaf_price) (defScope s_leaf_price) .none kVle dcle pmle anle cdle ctle), slle⟩)
    (cle : PySem.W.codeIn K cdle "leaf_price" = true)
    (kle : PySem.W.keepIn K (.ref fle) = true)
    (ash : PySem.W.nsIn K mainGlobals "shorter_first" = some (some (.ref fsh)))
    (lsh : K.lookup fsh = some ⟨ocsh, odsh, .func (PySem.W.fnOf "shorter_first" "shorter_first" (defArgs s_shorter_first) (defBody s_shorter_first) (defScope s_shorter_first) .none kVsh dcsh pmsh ansh cdsh ctsh), slsh⟩)
    (csh : PySem.W.codeIn K cdsh "shorter_first" = true)
    (ksh : PySem.W.keepIn K (.ref fsh) = true)
    (alc : PySem.W.nsIn K mainGlobals "leaf_costs" = some (some (.ref flc)))
    (llc : K.lookup flc = some ⟨oclc, odlc, .func (PySem.W.fnOf "leaf_costs" "leaf_costs" (defArgs s_leaf_costs) (defBody s_leaf_costs) (defScope s_leaf_costs) .none kVlc dclc pmlc anlc cdlc ctlc), sllc⟩)
    (clc : PySem.W.codeIn K cdlc "leaf_costs" = true)
    (klc : PySem.W.keepIn K (.ref flc) = true)
    (ata : PySem.W.nsIn K mainGlobals "table" = some (some (.ref fta)))
    (lta : K.lookup fta = some ⟨octa, odta, .func (PySem.W.fnOf "table" "table" (defArgs s_table) (defBody s_table) (defScope s_table) .none kVta dcta pmta anta cdta ctta), slta⟩)
    (cta : PySem.W.codeIn K cdta "table" = true)
    (kta : PySem.W.keepIn K (.ref fta) = true)
    (afi : PySem.W.nsIn K mainGlobals "filled" = some (some (.ref ffi)))
    (lfi : K.lookup ffi = some ⟨ocfi, odfi, .func (PySem.W.fnOf "filled" "filled" (defArgs s_filled) (defBody s_filled) (defScope s_filled) .none kVfi dcfi pmfi anfi cdfi ctfi), slfi⟩)
    (cfi : PySem.W.codeIn K cdfi "filled" = true)
    (kfi : PySem.W.keepIn K (.ref ffi) = true)
    (aps : PySem.W.nsIn K mainGlobals "_pieces" = some (some (.ref fps)))
    (lps : K.lookup fps = some ⟨ocps, odps, .func (PySem.W.fnOf "_pieces" "_pieces" (defArgs s__pieces) (defBody s__pieces) (defScope s__pieces) .none kVps dcps pmps anps cdps ctps), slps⟩)
    (cps : PySem.W.codeIn K cdps "_pieces" = true)
    (kps : PySem.W.keepIn K (.ref fps) = true)
    (apc : PySem.W.nsIn K mainGlobals "_piece" = some (some (.ref fpc)))
    (lpc : K.lookup fpc = some ⟨ocpc, odpc, .func (PySem.W.fnOf "_piece" "_piece" (defArgs s__piece) (defBody s__piece) (defScope s__piece) .none kVpc dcpc pmpc anpc cdpc ctpc), slpc⟩)
    (cpc : PySem.W.codeIn K cdpc "_piece" = true)
    (kpc : PySem.W.keepIn K (.ref fpc) = true)
    (asp : PySem.W.nsIn K mainGlobals "_least_split" = some (some (.ref fsp)))
    (lsp : K.lookup fsp = some ⟨ocsp, odsp, .func (PySem.W.fnOf "_least_split" "_least_split" (defArgs s__least_split) (defBody s__least_split) (defScope s__least_split) .none kVsp dcsp pmsp ansp cdsp ctsp), slsp⟩)
    (csp : PySem.W.codeIn K cdsp "_least_split" = true)
    (ksp : PySem.W.keepIn K (.ref fsp) = true)
    (ame : PySem.W.nsIn K mainGlobals "_made_entries" = some (some (.ref fme)))
    (lme : K.lookup fme = some ⟨ocme, odme, .func (PySem.W.fnOf "_made_entries" "_made_entries" (defArgs s__made_entries) (defBody s__made_entries) (defScope s__made_entries) .none kVme dcme pmme anme cdme ctme), slme⟩)
    (cme : PySem.W.codeIn K cdme "_made_entries" = true)
    (kme : PySem.W.keepIn K (.ref fme) = true)
    (aus : PySem.W.nsIn K mainGlobals "_users_of" = some (some (.ref fus)))
    (lus : K.lookup fus = some ⟨ocus, odus, .func (PySem.W.fnOf "_users_of" "_users_of" (defArgs s__users_of) (defBody s__users_of) (defScope s__users_of) .none kVus dcus pmus anus cdus ctus), slus⟩)
    (cus : PySem.W.codeIn K cdus "_users_of" = true)
    (kus : PySem.W.keepIn K (.ref fus) = true)
    (aef : PySem.W.nsIn K mainGlobals "_entries_from" = some (some (.ref fef)))
    (lef : K.lookup fef = some ⟨ocef, odef, .func (PySem.W.fnOf "_entries_from" "_entries_from" (defArgs s__entries_from) (defBody s__entries_from) (defScope s__entries_from) .none kVef dcef pmef anef cdef ctef), slef⟩)
    (cef : PySem.W.codeIn K cdef "_entries_from" = true)
    (kef : PySem.W.keepIn K (.ref fef) = true)
    (ars : PySem.W.nsIn K mainGlobals "_rests_of" = some (some (.ref frs)))
    (lrs : K.lookup frs = some ⟨ocrs, odrs, .func (PySem.W.fnOf "_rests_of" "_rests_of" (defArgs s__rests_of) (defBody s__rests_of) (defScope s__rests_of) .none kVrs dcrs pmrs anrs cdrs ctrs), slrs⟩)
    (crs : PySem.W.codeIn K cdrs "_rests_of" = true)
    (krs : PySem.W.keepIn K (.ref frs) = true)
    (arn : PySem.W.nsIn K mainGlobals "_rests_over_nothing" = some (some (.ref frn)))
    (lrn : K.lookup frn = some ⟨ocrn, odrn, .func (PySem.W.fnOf "_rests_over_nothing" "_rests_over_nothing" (defArgs s__rests_over_nothing) (defBody s__rests_over_nothing) (defScope s__rests_over_nothing) .none kVrn dcrn pmrn anrn cdrn ctrn), slrn⟩)
    (crn : PySem.W.codeIn K cdrn "_rests_over_nothing" = true)
    (krn : PySem.W.keepIn K (.ref frn) = true)
    (adr : PySem.W.nsIn K mainGlobals "_law_draws" = some (some (.ref fdr)))
    (ldr : K.lookup fdr = some ⟨ocdr, oddr, .func (PySem.W.fnOf "_law_draws" "_law_draws" (defArgs sDraws) (defBody sDraws) (defScope sDraws) .none kVdr dcdr pmdr andr cddr ctdr), sldr⟩)
    (cdr : PySem.W.codeIn K cddr "_law_draws" = true)
    (kdr : PySem.W.keepIn K (.ref fdr) = true)
    (aat : PySem.W.nsIn K mainGlobals "_law_at" = some (some (.ref fat)))
    (lat : K.lookup fat = some ⟨ocat, odat, .func (PySem.W.fnOf "_law_at" "_law_at" (defArgs sAt) (defBody sAt) (defScope sAt) .none kVat dcat pmat anat cdat ctat), slat⟩)
    (cat : PySem.W.codeIn K cdat "_law_at" = true)
    (kat : PySem.W.keepIn K (.ref fat) = true)
    (ali : PySem.W.nsIn K mainGlobals "_law_is_integer" = some (some (.ref fli)))
    (lli : K.lookup fli = some ⟨ocli, odli, .func (PySem.W.fnOf "_law_is_integer" "_law_is_integer" (defArgs sLInt) (defBody sLInt) (defScope sLInt) .none kVli dcli pmli anli cdli ctli), slli⟩)
    (cli : PySem.W.codeIn K cdli "_law_is_integer" = true)
    (kli : PySem.W.keepIn K (.ref fli) = true)
    (agr : PySem.W.nsIn K mainGlobals "_law_grammar" = some (some (.ref fgr)))
    (lgr : K.lookup fgr = some ⟨ocgr, odgr, .func (PySem.W.fnOf "_law_grammar" "_law_grammar" (defArgs sGram) (defBody sGram) (defScope sGram) .none kVgr dcgr pmgr angr cdgr ctgr), slgr⟩)
    (cgr : PySem.W.codeIn K cdgr "_law_grammar" = true)
    (kgr : PySem.W.keepIn K (.ref fgr) = true)
    (apr : PySem.W.nsIn K mainGlobals "_law_prices" = some (some (.ref fpr)))
    (lpr : K.lookup fpr = some ⟨ocpr, odpr, .func (PySem.W.fnOf "_law_prices" "_law_prices" (defArgs sPrices) (defBody sPrices) (defScope sPrices) .none kVpr dcpr pmpr anpr cdpr ctpr), slpr⟩)
    (cpr : PySem.W.codeIn K cdpr "_law_prices" = true)
    (kpr : PySem.W.keepIn K (.ref fpr) = true)
    (aro : PySem.W.nsIn K mainGlobals "_law_row" = some (some (.ref fro)))
    (lro : K.lookup fro = some ⟨ocro, odro, .func (PySem.W.fnOf "_law_row" "_law_row" (defArgs sRow) (defBody sRow) (defScope sRow) .none kVro dcro pmro anro cdro ctro), slro⟩)
    (cro : PySem.W.codeIn K cdro "_law_row" = true)
    (kro : PySem.W.keepIn K (.ref fro) = true)
    (alp : PySem.W.nsIn K mainGlobals "_law_put" = some (some (.ref flp)))
    (llp : K.lookup flp = some ⟨oclp, odlp, .func (PySem.W.fnOf "_law_put" "_law_put" (defArgs sLPut) (defBody sLPut) (defScope sLPut) .none kVlp dclp pmlp anlp cdlp ctlp), sllp⟩)
    (clp : PySem.W.codeIn K cdlp "_law_put" = true)
    (klp : PySem.W.keepIn K (.ref flp) = true)
    (alo : PySem.W.nsIn K mainGlobals "_law_out" = some (some (.ref flo)))
    (llo : K.lookup flo = some ⟨oclo, odlo, .func (PySem.W.fnOf "_law_out" "_law_out" (defArgs sLOut) (defBody sLOut) (defScope sLOut) .none kVlo dclo pmlo anlo cdlo ctlo), sllo⟩)
    (clo : PySem.W.codeIn K cdlo "_law_out" = true)
    (klo : PySem.W.keepIn K (.ref flo) = true)
    (alx : PySem.W.nsIn K mainGlobals "_law_change" = some (some (.ref flx)))
    (llx : K.lookup flx = some ⟨oclx, odlx, .func (PySem.W.fnOf "_law_change" "_law_change" (defArgs sLChg) (defBody sLChg) (defScope sLChg) .none kVlx dclx pmlx anlx cdlx ctlx), sllx⟩)
    (clx : PySem.W.codeIn K cdlx "_law_change" = true)
    (klx : PySem.W.keepIn K (.ref flx) = true)
    (all : PySem.W.nsIn K mainGlobals "_law_leaf" = some (some (.ref fll)))
    (lll : K.lookup fll = some ⟨ocll, odll, .func (PySem.W.fnOf "_law_leaf" "_law_leaf" (defArgs sLLeaf) (defBody sLLeaf) (defScope sLLeaf) .none kVll dcll pmll anll cdll ctll), slll⟩)
    (cll : PySem.W.codeIn K cdll "_law_leaf" = true)
    (kll : PySem.W.keepIn K (.ref fll) = true)
    (aln : PySem.W.nsIn K mainGlobals "_law_is_name" = some (some (.ref fln)))
    (lln : K.lookup fln = some ⟨ocln, odln, .func (PySem.W.fnOf "_law_is_name" "_law_is_name" (defArgs sLIsName) (defBody sLIsName) (defScope sLIsName) .none kVln dcln pmln anln cdln ctln), slln⟩)
    (cln : PySem.W.codeIn K cdln "_law_is_name" = true)
    (kln : PySem.W.keepIn K (.ref fln) = true)
    (alm : PySem.W.nsIn K mainGlobals "_law_least" = some (some (.ref flm)))
    (llm : K.lookup flm = some ⟨oclm, odlm, .func (PySem.W.fnOf "_law_least" "_law_least" (defArgs sLeast) (defBody sLeast) (defScope sLeast) .none kVlm dclm pmlm anlm cdlm ctlm), sllm⟩)
    (clm : PySem.W.codeIn K cdlm "_law_least" = true)
    (klm : PySem.W.keepIn K (.ref flm) = true)
    (alz : PySem.W.nsIn K mainGlobals "_law_start" = some (some (.ref flz)))
    (llz : K.lookup flz = some ⟨oclz, odlz, .func (PySem.W.fnOf "_law_start" "_law_start" (defArgs sStart) (defBody sStart) (defScope sStart) .none kVlz dclz pmlz anlz cdlz ctlz), sllz⟩)
    (clz : PySem.W.codeIn K cdlz "_law_start" = true)
    (klz : PySem.W.keepIn K (.ref flz) = true)
    (alr : PySem.W.nsIn K mainGlobals "_law_round" = some (some (.ref flr)))
    (llr : K.lookup flr = some ⟨oclr, odlr, .func (PySem.W.fnOf "_law_round" "_law_round" (defArgs sRound) (defBody sRound) (defScope sRound) .none kVlr dclr pmlr anlr cdlr ctlr), sllr⟩)
    (clr : PySem.W.codeIn K cdlr "_law_round" = true)
    (klr : PySem.W.keepIn K (.ref flr) = true)
    (alt : PySem.W.nsIn K mainGlobals "_law_table" = some (some (.ref flt)))
    (llt : K.lookup flt = some ⟨oclt, odlt, .func (PySem.W.fnOf "_law_table" "_law_table" (defArgs sTable) (defBody sTable) (defScope sTable) .none kVlt dclt pmlt anlt cdlt ctlt), sllt⟩)
    (clt : PySem.W.codeIn K cdlt "_law_table" = true)
    (klt : PySem.W.keepIn K (.ref flt) = true)
    (alw : PySem.W.nsIn K mainGlobals "law" = some (some (.ref flw)))
    (llw : K.lookup flw = some ⟨oclw, odlw, .func (PySem.W.fnOf "law" "law" (defArgs sLaw) (defBody sLaw) (defScope sLaw) .none kVlw dclw pmlw anlw cdlw ctlw), sllw⟩)
    (clw : PySem.W.codeIn K cdlw "law" = true)
    (klw : PySem.W.keepIn K (.ref flw) = true)
    (z_len : PySem.W.nsIn K mainGlobals "len" = some none)
    (z_range : PySem.W.nsIn K mainGlobals "range" = some none)
    (z_min : PySem.W.nsIn K mainGlobals "min" = some none)
    (z_abs : PySem.W.nsIn K mainGlobals "abs" = some none)
    (z_int : PySem.W.nsIn K mainGlobals "int" = some none)
    (z_isinstance : PySem.W.nsIn K mainGlobals "isinstance" = some none)
    (z_bool : PySem.W.nsIn K mainGlobals "bool" = some none)
    (z_repr : PySem.W.nsIn K mainGlobals "repr" = some none)
    (z_sum : PySem.W.nsIn K mainGlobals "sum" = some none)
    (z_dict : PySem.W.nsIn K mainGlobals "dict" = some none)
    (z_tuple : PySem.W.nsIn K mainGlobals "tuple" = some none)
    (z_list : PySem.W.nsIn K mainGlobals "list" = some none)
    (z_sorted : PySem.W.nsIn K mainGlobals "sorted" = some none)
    (z_zip : PySem.W.nsIn K mainGlobals "zip" = some none)
    (z_enumerate : PySem.W.nsIn K mainGlobals "enumerate" = some none)
    : LawTop l w K 63 "script" mg fa h := by
  have e := hfa.symm.trans (PySem.W.mg_of X G alw)
  cases e
  have m := fun {x : Str} (z : PySem.W.nsIn K mainGlobals x = some none) => PySem.W.mg_none_of X G z
  have Fnm := fun_mk (st := s_names_of) lnm cnm knm
  have Fad := fun_mk (st := s_added) lad cad kad
  have Fls := fun_mk (st := s_least) lls cls kls
  have Fpu := fun_mk (st := s_put_price) lpu cpu kpu
  have Fou := fun_mk (st := s_out_price) lou cou kou
  have Fch := fun_mk (st := s_change_price) lch cch kch
  have Fle := fun_mk (st := s_leaf_price) lle cle kle
  have Fsh := fun_mk (st := s_shorter_first) lsh csh ksh
  have Flc := fun_mk (st := s_leaf_costs) llc clc klc
  have Fta := fun_mk (st := s_table) lta cta kta
  have Ffi := fun_mk (st := s_filled) lfi cfi kfi
  have Fps := fun_mk (st := s__pieces) lps cps kps
  have Fpc := fun_mk (st := s__piece) lpc cpc kpc
  have Fsp := fun_mk (st := s__least_split) lsp csp ksp
  have Fme := fun_mk (st := s__made_entries) lme cme kme
  have Fus := fun_mk (st := s__users_of) lus cus kus
  have Fef := fun_mk (st := s__entries_from) lef cef kef
  have Frs := fun_mk (st := s__rests_of) lrs crs krs
  have Frn := fun_mk (st := s__rests_over_nothing) lrn crn krn
  have Fdr := fun_mk (st := sDraws) ldr cdr kdr
  have Fat := fun_mk (st := sAt) lat cat kat
  have Fli := fun_mk (st := sLInt) lli cli kli
  have Fgr := fun_mk (st := sGram) lgr cgr kgr
  have Fpr := fun_mk (st := sPrices) lpr cpr kpr
  have Fro := fun_mk (st := sRow) lro cro kro
  have Flp := fun_mk (st := sLPut) llp clp klp
  have Flo := fun_mk (st := sLOut) llo clo klo
  have Flx := fun_mk (st := sLChg) llx clx klx
  have Fll := fun_mk (st := sLLeaf) lll cll kll
  have Fln := fun_mk (st := sLIsName) lln cln kln
  have Flm := fun_mk (st := sLeast) llm clm klm
  have Flz := fun_mk (st := sStart) llz clz klz
  have Flr := fun_mk (st := sRound) llr clr klr
  have Flt := fun_mk (st := sTable) llt clt klt
  have Flw := fun_mk (st := sLaw) llw clw klw
  have bnm := Fnm.binds (ps := ["grammar"]) fun _ _ _ _ _ _ us hl => match us, hl with | [_], _ => rfl
  have bad := Fad.binds (ps := ["one", "two"]) fun _ _ _ _ _ _ us hl => match us, hl with | [_, _], _ => rfl
  have bls := Fls.binds (ps := ["costs"]) fun _ _ _ _ _ _ us hl => match us, hl with | [_], _ => rfl
  have bpu := Fpu.binds (ps := ["prices", "kind"]) fun _ _ _ _ _ _ us hl => match us, hl with | [_, _], _ => rfl
  have bou := Fou.binds (ps := ["prices", "kind"]) fun _ _ _ _ _ _ us hl => match us, hl with | [_, _], _ => rfl
  have bch := Fch.binds (ps := ["prices", "kind", "other_kind"]) fun _ _ _ _ _ _ us hl => match us, hl with | [_, _, _], _ => rfl
  have ble := Fle.binds (ps := ["prices", "row", "kind", "i", "j"]) fun _ _ _ _ _ _ us hl => match us, hl with | [_, _, _, _, _], _ => rfl
  have bsh := Fsh.binds (ps := ["many"]) fun _ _ _ _ _ _ us hl => match us, hl with | [_], _ => rfl
  have blc := Flc.binds (ps := ["grammar", "prices", "row"]) fun _ _ _ _ _ _ us hl => match us, hl with | [_, _, _], _ => rfl
  have bta := Fta.binds (ps := ["grammar", "prices", "row"]) fun _ _ _ _ _ _ us hl => match us, hl with | [_, _, _], _ => rfl
  have bfi := Ffi.binds (ps := ["grammar", "prices", "row", "known"]) fun _ _ _ _ _ _ us hl => match us, hl with | [_, _, _, _], _ => rfl
  have bps := Fps.binds (ps := ["grammar", "costs", "entries", "i", "j"]) fun _ _ _ _ _ _ us hl => match us, hl with | [_, _, _, _, _], _ => rfl
  have bpc := Fpc.binds (ps := ["heads", "tails", "symbol", "rest"]) fun _ _ _ _ _ _ us hl => match us, hl with | [_, _, _, _], _ => rfl
  have bsp := Fsp.binds (ps := ["heads", "tails", "symbol", "rest"]) fun _ _ _ _ _ _ us hl => match us, hl with | [_, _, _, _], _ => rfl
  have bme := Fme.binds (ps := ["grammar", "leaves", "pieces"]) fun _ _ _ _ _ _ us hl => match us, hl with | [_, _, _], _ => rfl
  have bus := Fus.binds (ps := ["grammar", "name"]) fun _ _ _ _ _ _ us hl => match us, hl with | [_, _], _ => rfl
  have bef := Fef.binds (ps := ["grammar", "over", "rests"]) fun _ _ _ _ _ _ us hl => match us, hl with | [_, _, _], _ => rfl
  have brs := Frs.binds (ps := ["symbols", "over", "pieces"]) fun _ _ _ _ _ _ us hl => match us, hl with | [_, _, _], _ => rfl
  have brn := Frn.binds (ps := ["symbols", "over"]) fun _ _ _ _ _ _ us hl => match us, hl with | [_, _], _ => rfl
  have bdr := Fdr.binds (ps := ["script"]) fun _ _ _ _ _ _ us hl => match us, hl with | [_], _ => rfl
  have bat := Fat.binds (ps := ["draws", "k", "many"]) fun _ _ _ _ _ _ us hl => match us, hl with | [_, _, _], _ => rfl
  have bli := Fli.binds (ps := ["actual"]) fun _ _ _ _ _ _ us hl => match us, hl with | [_], _ => rfl
  have bgr := Fgr.binds (ps := ["draws", "first"]) fun _ _ _ _ _ _ us hl => match us, hl with | [_, _], _ => rfl
  have bpr := Fpr.binds (ps := ["draws", "first"]) fun _ _ _ _ _ _ us hl => match us, hl with | [_, _], _ => rfl
  have bro := Fro.binds (ps := ["draws", "first", "most"]) fun _ _ _ _ _ _ us hl => match us, hl with | [_, _, _], _ => rfl
  have blp := Flp.binds (ps := ["prices", "kind"]) fun _ _ _ _ _ _ us hl => match us, hl with | [_, _], _ => rfl
  have blo := Flo.binds (ps := ["prices", "kind"]) fun _ _ _ _ _ _ us hl => match us, hl with | [_, _], _ => rfl
  have blx := Flx.binds (ps := ["prices", "kind", "other"]) fun _ _ _ _ _ _ us hl => match us, hl with | [_, _, _], _ => rfl
  have bll := Fll.binds (ps := ["prices", "row", "kind", "i", "j"]) fun _ _ _ _ _ _ us hl => match us, hl with | [_, _, _, _, _], _ => rfl
  have bln := Fln.binds (ps := ["symbol"]) fun _ _ _ _ _ _ us hl => match us, hl with | [_], _ => rfl
  have blm := Flm.binds (ps := ["grammar", "prices", "row", "found", "rule", "dot", "i", "j"]) fun _ _ _ _ _ _ us hl => match us, hl with | [_, _, _, _, _, _, _, _], _ => rfl
  have blz := Flz.binds (ps := ["grammar", "row"]) fun _ _ _ _ _ _ us hl => match us, hl with | [_, _], _ => rfl
  have blr := Flr.binds (ps := ["grammar", "prices", "row", "found", "i", "j"]) fun _ _ _ _ _ _ us hl => match us, hl with | [_, _, _, _, _, _], _ => rfl
  have blt := Flt.binds (ps := ["grammar", "prices", "row"]) fun _ _ _ _ _ _ us hl => match us, hl with | [_, _, _], _ => rfl
  have blw := Flw.binds (ps := ["script"]) fun _ _ _ _ _ _ us hl => match us, hl with | [_], _ => rfl
  refine ⟨PySem.W.fnOf "law" "law" (defArgs sLaw) (defBody sLaw) (defScope sLaw) .none kVlw dclw pmlw anlw cdlw ctlw, [], spLaw K, fun p hp => ?_, fun s v => .of_eq rfl, fun H a ns hl hH hS => ⟨a, ns, rfl, hS, hl, fun _ => rfl⟩, fun base hK hN hTB => ?_⟩
  · cases hp
  · have g := fun {x : Str} {v : Value} (z : PySem.W.nsIn K mainGlobals x = some (some v)) => PySem.W.mg_of X G z
    have Gnm : FnOk l.prog w K mg base CX0 1 fnm _ ["grammar"] spNames := ok_names Fnm
    have Gad : FnOk l.prog w K mg base CX0 1 fad _ ["one", "two"] spAd := ok_ad Fad
    have Gls : FnOk l.prog w K mg base CX0 1 fls _ ["costs"] spLs := ok_ls Fls (m z_min)
    have Gpu : FnOk l.prog w K mg base CX0 1 fpu _ ["prices", "kind"] (spPrice putP) := ok_put Fpu
    have Gou : FnOk l.prog w K mg base CX0 1 fou _ ["prices", "kind"] (spPrice outP) := ok_out Fou
    have Gch : FnOk l.prog w K mg base CX0 1 fch _ ["prices", "kind", "other_kind"] spChange := ok_chg Fch
    have Gle := ok_leaf Fle Gpu kpu bpu (g apu) Gou kou bou (g aou) Gch kch bch (g ach) (m z_sum)
    have Gsh : FnOk l.prog w K mg base CX0 1 fsh _ ["many"] spSh := ok_sh Fsh (m z_range)
    have Glc := ok_lc Flc Gnm knm bnm (g anm) Gsh ksh bsh (g ash) Gle kle ble (g ale) Gou kou bou (g aou) (m z_len) (m z_sorted)
    have Gsp : FnOk l.prog w K mg base CX0 1 fsp _ ["heads", "tails", "symbol", "rest"] spSl := ok_sl Fsp (m z_zip)
    have Gpc := ok_pc Fpc Gsp ksp bsp (g asp)
    have Gps := ok_ps Fps Gpc kpc bpc (g apc) (m z_enumerate) (m z_range)
    have Gus : FnOk l.prog w K mg base CX0 1 fus _ ["grammar", "name"] spUs := ok_us Fus (m z_enumerate)
    have Gef := ok_ef Fef Gnm knm bnm (g anm) (m z_enumerate)
    have Grn := ok_rn Frn Gad kad bad (g aad)
    have Grs := ok_rs Frs Grn krn brn (g arn) Gad kad bad (g aad) Gls kls bls (g als) (m z_zip) (m z_list)
    have Gme := ok_me Fme Gnm knm bnm (g anm) Grs krs brs (g ars) Gad kad bad (g aad) Gls kls bls (g als) Gus kus bus (g aus) Gef kef bef (g aef) (m z_list) (m z_range) (m z_len)
    have Gfi := ok_fi Ffi Glc klc blc (g alc) Gsh ksh bsh (g ash) Gps kps bps (g aps) Gme kme bme (g ame) Gnm knm bnm (g anm) (m z_len)
    have Gta := ok_ta Fta Gfi kfi bfi (g afi)
    have Glp : FnOk l.prog w K mg base CX0 1 flp _ ["prices", "kind"] (spPrice putP) := ok_lput Flp
    have Glo : FnOk l.prog w K mg base CX0 1 flo _ ["prices", "kind"] (spPrice outP) := ok_lout Flo
    have Glx : FnOk l.prog w K mg base CX0 1 flx _ ["prices", "kind", "other"] spChange := ok_lchg Flx
    have Gll := ok_lleaf Fll Glp klp blp (g alp) Glo klo blo (g alo) Glx klx blx (g alx) (m z_sum)
    have Gln : FnOk l.prog w K mg base CX0 1 fln _ ["symbol"] spIsName := ok_lisname Fln
    have Glm := ok_least Flm Gll kll bll (g all) Gln kln bln (g aln) (m z_range) (m z_len)
    have Glz : FnOk l.prog w K mg base CX0 1 flz _ ["grammar", "row"] spStart := ok_start Flz (m z_range) (m z_len)
    have Glr := ok_round (kn := kn0) Flr Glm klm blm (g alm) (m z_range) (m z_len)
    have Glt := ok_table Flt Glz klz blz (g alz) Glr klr blr (g alr) (m z_range) (m z_len)
    have Gat : FnOk l.prog w K mg base CX0 1 fat _ ["draws", "k", "many"] (spAt K) := ok_at (k := 0) Fat (m z_len) (m z_int)
    have Ggr := ok_gramT Fgr Gat kat bat (g aat) (m z_range) (m z_int) (m z_len)
    have Gpr := ok_prices Fpr Gat kat bat (g aat) (m z_range) (m z_int)
    have Gro := ok_row Fro Gat kat bat (g aat) (m z_range)
    have Gli : FnOk l.prog w K mg base CX0 1 fli _ ["actual"] spLInt := ok_lint Fli (m z_isinstance) (m z_int) (m z_bool)
    exact ok_law Flw (ok_draws (k := 0) Fdr (m z_range) (m z_min) (m z_len) (m z_abs) (m z_int)) kdr bdr (g adr) Ggr kgr bgr (g agr) Gpr kpr bpr (g apr) Gro kro bro (g aro) Gli kli bli (g ali) Gta kta bta (g ata) Glt klt blt (g alt) (m z_isinstance) (m z_dict) (m z_tuple) (m z_list) (m z_sorted) (m z_repr)
end Ld

open PySem PySem.W PyProof.Rows
set_option maxRecDepth 100000 in
set_option maxHeartbeats 0 in
theorem PySem.Challenge.cw_leastmend_k14_tables_of_rows_holds : PySem.Challenge.rw_leastmend_k14_tables_of_rows.Holds := by
  w_on; o_law; k_head; (case hw => w_witness2)
  k_fill
  refine Lg.walk_top (l := PySem.Challenge.rw_leastmend_k14_tables_of_rows) (n := 63) (x := "script") rfl (by decide) rfl (fun w h Y => PySem.W.kIn_of Y) ?F
  case F =>
    intro w mg fa h Y KX G hmg htab
    refine' Ld.all_mk KX G hmg  ?anm ?lnm ?cnm ?knm ?aad ?lad ?cad ?kad ?als ?lls ?cls ?kls ?apu ?lpu ?cpu ?kpu ?aou ?lou ?cou ?kou ?ach ?lch ?cch ?kch ?ale ?lle ?cle ?kle ?ash ?lsh ?csh ?ksh ?alc ?llc ?clc ?klc ?ata ?lta ?cta ?kta ?afi ?lfi ?cfi ?kfi ?aps ?lps ?cps ?kps ?apc ?lpc ?cpc ?kpc ?asp ?lsp ?csp ?ksp ?ame ?lme ?cme ?kme ?aus ?lus ?cus ?kus ?aef ?lef ?cef ?kef ?ars ?lrs ?crs ?krs ?arn ?lrn ?crn ?krn ?adr ?ldr ?cdr ?kdr ?aat ?lat ?cat ?kat ?ali ?lli ?cli ?kli ?agr ?lgr ?cgr ?kgr ?apr ?lpr ?cpr ?kpr ?aro ?lro ?cro ?kro ?alp ?llp ?clp ?klp ?alo ?llo ?clo ?klo ?alx ?llx ?clx ?klx ?all ?lll ?cll ?kll ?aln ?lln ?cln ?kln ?alm ?llm ?clm ?klm ?alz ?llz ?clz ?klz ?alr ?llr ?clr ?klr ?alt ?llt ?clt ?klt ?alw ?llw ?clw ?klw ?z_len ?z_range ?z_min ?z_abs ?z_int ?z_isinstance ?z_bool ?z_repr ?z_sum ?z_dict ?z_tuple ?z_list ?z_sorted ?z_zip ?z_enumerate
    (case anm => k_is)
    (case lnm => k_is)
    (case cnm => k_is)
    (case knm => k_is)
    (case aad => k_is)
    (case lad => k_is)
    (case cad => k_is)
    (case kad => k_is)
    (case als => k_is)
    (case lls => k_is)
    (case cls => k_is)
    (case kls => k_is)
    (case apu => k_is)
    (case lpu => k_is)
    (case cpu => k_is)
    (case kpu => k_is)
    (case aou => k_is)
    (case lou => k_is)
    (case cou => k_is)
    (case kou => k_is)
    (case ach => k_is)
    (case lch => k_is)
    (case cch => k_is)
    (case kch => k_is)
    (case ale => k_is)
    (case lle => k_is)
    (case cle => k_is)
    (case kle => k_is)
    (case ash => k_is)
    (case lsh => k_is)
    (case csh => k_is)
    (case ksh => k_is)
    (case alc => k_is)
    (case llc => k_is)
    (case clc => k_is)
    (case klc => k_is)
    (case ata => k_is)
    (case lta => k_is)
    (case cta => k_is)
    (case kta => k_is)
    (case afi => k_is)
    (case lfi => k_is)
    (case cfi => k_is)
    (case kfi => k_is)
    (case aps => k_is)
    (case lps => k_is)
    (case cps => k_is)
    (case kps => k_is)
    (case apc => k_is)
    (case lpc => k_is)
    (case cpc => k_is)
    (case kpc => k_is)
    (case asp => k_is)
    (case lsp => k_is)
    (case csp => k_is)
    (case ksp => k_is)
    (case ame => k_is)
    (case lme => k_is)
    (case cme => k_is)
    (case kme => k_is)
    (case aus => k_is)
    (case lus => k_is)
    (case cus => k_is)
    (case kus => k_is)
    (case aef => k_is)
    (case lef => k_is)
    (case cef => k_is)
    (case kef => k_is)
    (case ars => k_is)
    (case lrs => k_is)
    (case crs => k_is)
    (case krs => k_is)
    (case arn => k_is)
    (case lrn => k_is)
    (case crn => k_is)
    (case krn => k_is)
    (case adr => k_is)
    (case ldr => k_is)
    (case cdr => k_is)
    (case kdr => k_is)
    (case aat => k_is)
    (case lat => k_is)
    (case cat => k_is)
    (case kat => k_is)
    (case ali => k_is)
    (case lli => k_is)
    (case cli => k_is)
    (case kli => k_is)
    (case agr => k_is)
    (case lgr => k_is)
    (case cgr => k_is)
    (case kgr => k_is)
    (case apr => k_is)
    (case lpr => k_is)
    (case cpr => k_is)
    (case kpr => k_is)
    (case aro => k_is)
    (case lro => k_is)
    (case cro => k_is)
    (case kro => k_is)
    (case alp => k_is)
    (case llp => k_is)
    (case clp => k_is)
    (case klp => k_is)
    (case alo => k_is)
    (case llo => k_is)
    (case clo => k_is)
    (case klo => k_is)
    (case alx => k_is)
    (case llx => k_is)
    (case clx => k_is)
    (case klx => k_is)
    (case all => k_is)
    (case lll => k_is)
    (case cll => k_is)
    (case kll => k_is)
    (case aln => k_is)
    (case lln => k_is)
    (case cln => k_is)
    (case kln => k_is)
    (case alm => k_is)
    (case llm => k_is)
    (case clm => k_is)
    (case klm => k_is)
    (case alz => k_is)
    (case llz => k_is)
    (case clz => k_is)
    (case klz => k_is)
    (case alr => k_is)
    (case llr => k_is)
    (case clr => k_is)
    (case klr => k_is)
    (case alt => k_is)
    (case llt => k_is)
    (case clt => k_is)
    (case klt => k_is)
    (case alw => k_is)
    (case llw => k_is)
    (case clw => k_is)
    (case klw => k_is)
    (case z_len => k_is)
    (case z_range => k_is)
    (case z_min => k_is)
    (case z_abs => k_is)
    (case z_int => k_is)
    (case z_isinstance => k_is)
    (case z_bool => k_is)
    (case z_repr => k_is)
    (case z_sum => k_is)
    (case z_dict => k_is)
    (case z_tuple => k_is)
    (case z_list => k_is)
    (case z_sorted => k_is)
    (case z_zip => k_is)
    (case z_enumerate => k_is)
