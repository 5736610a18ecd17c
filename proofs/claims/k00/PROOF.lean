import PyProof.Rows.All
import Wide.All
import OpenK.AllK
import Wide.FinOn
import HandS.ForMost
import HandS.AnyAll
import HandS.Walk
import HandS.IsInst
import HandS.EndTab
import PySem.Challenge.RW_leastmend_k00_kinds_and_names
set_option Elab.async false
set_option linter.all false
set_option maxRecDepth 100000
set_option maxHeartbeats 4000000
/-! all(test for x in e): any thing that is walked, any test that leaves the heap's objects as they stand; the test may read what the def holds. -/
namespace Gc
open PySem PySem.Spec PyProof.Rows L2 GxR
/-- the code object of the inner block, found in the table or made and entered there: one end for both -/
theorem code_either {M : Model} {A : Around} {E : Value → Shared → Prop} {s : Shared} {env : Env} {c P : Addr} {ps : Array Value} {gp : Pos} {qn : Str} {scope : Scope} {Q : Value → Shared → Prop}
    (hc : env.code = .ref c) (C : PySem.W.CodeHd s.heap c P) (tab : s.heap.get? P = some { cls := .none, data := .fields ps }) (ok : TriplesOk ps.toList)
    (go : ∀ (code : Value) (h3 : Heap) (tk : Nat) (more : Array Value), Heap.ExtBut P s.heap h3 → s.heap.objs.size ≤ h3.objs.size → h3.get? P = some { cls := .none, data := .fields (ps ++ more) } → TriplesOk (ps ++ more).toList → Q code { s with heap := h3, toks := tk }) :
    wpAny M A (genexprCode env gp qn scope) Q E s := by
  cases found : codeAmong gp ps.toList with
  | some cv =>
    have q := go cv s.heap s.toks #[] (Heap.ExtBut.refl _ _) (Nat.le_refl _) (by rw [Array.append_empty]; exact tab) (by rw [Array.append_empty]; exact ok)
    exact wpAny_genexprCode_hit hc (C.code tab ok) found q
  | none =>
    refine wpAny_genexprCodeX hc (C.code tab ok) (C.tab tab) found fun c' h3 tk ext big small made _ entered _ => ?_
    obtain ⟨_, _, _, _, _, _, _, _, _, _, _, _, _, _, _, _, _, _, _, ok3, _⟩ := made
    exact go (.ref c') h3 tk _ ext (Nat.le_of_lt (Nat.lt_of_le_of_lt big small)) entered.2 ok3
/-- what is walked: xv in the heap h1 gives n items, the i-th under Pf i; its iterator is the next new object; it reads nothing of the table at P -/
def SrcOk (prog : Program) (w : World) (h1 : Heap) (P : Addr) (xv : Value) (n : Nat) (Pf : Nat → Value → Prop) : Prop :=
  ∃ fp : List Addr, (∀ b ∈ fp, b ≤ h1.objs.size) ∧ P ∉ fp ∧
    ∀ (A : Around) (E : Value → Shared → Prop) (s : Shared) (Q : Value → Shared → Prop), s.heap = h1 →
      (∀ (o : Obj) (St : Nat → Heap → Prop), (∀ A' : Around, A'.handled = none → Walks prog w A' h1.objs.size fp [h1.objs.size] n Pf St) → St 0 (h1.push o) → Q (.ref h1.objs.size) { s with heap := h1.push o }) → wpAny (model prog w) A (pyIter xv) Q E s
/-- the environment in which the inner block runs -/
abbrev blkEnv (X : Cx) (scope : Scope) (C : Addr) (code : Value) : Env := genEnv scope (cloFrom X.env.cells scope.names []) C code builtinsNs X.env
/-- the test: of an item under Pf i it gives pb i, wherever all that stood in h1 (but the table at P) stands -/
def EltG (X : Cx) (scope : Scope) (x : Str) (elt : Expr) (P : Addr) (h1 : Heap) (Pf : Nat → Value → Prop) (pb : Nat → Bool) : Prop :=
  ∀ (C : Addr) (code : Value) (A' : Around) (E' : Value → Shared → Prop) (i : Nat) (v : Value) (s₂ : Shared) (m₂ : Str → Option Value), A'.handled = none → A'.depth ≤ X.A.depth + 1 → A'.units ≤ X.A.units + 8 → Pf i v →
    (∀ b o, b ≠ P → h1.get? b = some o → s₂.heap.get? b = some o) → s₂.heap.Ns C m₂ → m₂ x = some v →
    wpAny (model X.prog X.w) A' (eval elt (blkEnv X scope C code)) (fun y s₃ => y = .bool (pb i) ∧ Keeps s₂ s₃) E' s₂
/-- the block's own scope, over the def's scope sc -/
structure GenSc (sc scope : Scope) (x : Str) : Prop where
  kind : scope.kind = .function
  co : scope.isCoroutine = false
  cell : ∀ y ∈ scope.names, y.2 ≠ .cell
  dot : scope.names.lookup (".0" : Str) = some NameKind.local
  loc : scope.names.lookup x = some .local
  free : ∀ y ∈ scope.names, y.2 = .free → sc.names.lookup y.1 = some .cell
section
variable {X : Cx}
/-- all(test for x in e) -/
def tAllG (X : Cx) (scope : Scope) (x : Str) (elt : Expr) (P : Addr) (te : TE) : TE := fun σ H Q => te σ H fun v H1 => ∃ (n : Nat) (Pf : Nat → Value → Prop) (pb : Nat → Bool),
  (∀ (pins : List (Addr × Obj)) (s1 : Shared) (xv : Value), Inv X pins σ H1 s1 → RelV v xv → SrcOk X.prog X.w s1.heap P xv n Pf ∧ EltG X scope x elt P s1.heap Pf pb) ∧ TabG H1 P ∧ ∀ H2, Tabbed P H1 H2 → Q (.bl ((List.range n).all pb)) H2
theorem pe_allG {c P : Addr} {elt iter : Expr} {x : Str} {px p pos gpos : Pos} {scope : Scope} {te : TE} {k : Nat}
    (hr : Room k X.A) (hg : Gl X "all") (hm : X.mg "all" = none) (hb : bootBuiltins "all" = some (.builtin "all")) (TB : TabB X.base X.mg c P) (hcode : X.env.code = .ref c) (S : GenSc X.env.scope scope x) (hi : PE X iter te)
    (hs : ∀ v, genFold iter X.env v = pure v)
    (he : starEach [.GeneratorExp elt [⟨.Name x px, iter, [], 0⟩] scope gpos] X.env = (false, eval (.GeneratorExp elt [⟨.Name x px, iter, [], 0⟩] scope gpos) X.env) :: starEach [] X.env := by rfl) :
    PE X (.Call (.Name "all" p) [.GeneratorExp elt [⟨.Name x px, iter, [], 0⟩] scope gpos] [] pos) (tAllG X scope x elt P te) := by
  refine ⟨fun pins s σ H Q I h => ?_⟩
  have has : ∀ y ∈ scope.names, y.2 = .free → ∃ a, X.env.cells.lookup y.1 = some a := fun y hy e => I.ok.has _ (.inl (S.free y hy e))
  refine wpAny_Call_Name_kw (ld_blt I hg hm hb ?_)
  refine PyProof.Rows.callWith_builtin1 ?_ he (by rfl)
  rw [he]
  show wpAny _ _ (spliced (_ :: backTo pos (starEach [] X.env))) _ _ _
  refine Calls.spliced_cons ?_
  refine wpAny_GeneratorExp_walksQD hr.hd S.co (closure_ok has) S.cell S.dot S.loc S.kind (by have := hr.dp; omega) ?_ hs
  refine thn (hi.run pins s σ H _ I h) fun xv s1 hv => ?_
  obtain ⟨v, H1, J, rv, n, Pf, pb, sem, ⟨ps, hP, trip⟩, fin⟩ := hv
  obtain ⟨⟨fp, below, apart, begins⟩, test⟩ := sem pins s1 xv J rv
  refine begins _ _ s1 _ rfl fun o St W at0 => ⟨J.nolimit.push o, ?_⟩
  have tab1 : s1.heap.get? P = some { cls := .none, data := .fields ps } := J.hok P _ hP
  have tabLt : P < s1.heap.objs.size := Heap.lt_size tab1
  have tab2 := Heap.get?_push_of_some o tab1
  have big2 : (s1.heap.push o).objs.size = s1.heap.objs.size + 1 := Heap.size_push ..
  refine code_either hcode (TB.code.keeps fun b u e => Heap.get?_push_of_some _ (J.bk b u e)) tab2 trip fun code h3 tk more ext big tab3 trip3 => ?_
  -- what stood in s1 stands in h3, the table grown
  have stands : ∀ b u, b ≠ P → s1.heap.get? b = some u → h3.get? b = some u := fun b u ne e => ext b u ne (Heap.get?_push_of_some _ e)
  obtain ⟨statLt, statNe⟩ : cStatics < s1.heap.objs.size ∧ cStatics ≠ P := by
    obtain ⟨mc, ns, _⟩ := J.nolimit
    refine ⟨ns.lt, fun z => ?_⟩
    obtain ⟨o1, es, ep, ho, hd, _⟩ := ns
    rw [z, tab1] at ho
    cases ho
    cases hd
  obtain ⟨bm, ob, b1, b2, b3, b4, b5, b6, b7, b8⟩ := TB.bm
  have globs : h3.Ns X.env.globals X.mg := by
    rw [J.ok.glob]
    exact ((J.mod.glob.keeps J.bk).push o).extBut ext TB.gP
  refine wpAny_builtinsFor globs b1 b2 (stands _ _ b4 (J.bk _ _ b5)) b6 b7 b8 ?_
  have newLt : s1.heap.objs.size < h3.objs.size := by
    have big' : (s1.heap.push o).objs.size ≤ h3.objs.size := big
    omega
  refine ⟨s1.heap.objs.size, fp, [s1.heap.objs.size], n, Pf, St, (fun _ => true), (fun i y => y = .bool (pb i)), rfl, W, ?_, fun b hb => ?_, (J.nolimit.push o).extBut ext statNe, fun z => ?_, fun href up => ?_, ?_⟩
  · exact (W X.A hr.hd).frame _ _ _ at0 fun b hb u e => ext b u (fun z => apart (by rw [← z]; exact hb)) e
  · exact Nat.lt_of_le_of_lt (below b hb) newLt
  · exact Nat.ne_of_lt statLt (List.mem_singleton.mp z)
  · refine ⟨fun A' E' i v s₂ m₂ _ _ _ _ _ _ _ => ?_, fun A' E' i v s₂ m₂ h1 h2 h3' hv _ hn hx old => ?_⟩
    · rw [List.forIn_nil]
      exact wpAny_pure ⟨rfl, keeps_refl _⟩
    · refine test _ _ A' E' i v s₂ m₂ h1 h2 h3' hv (fun b u ne e => ?_) hn hx
      have lt := Heap.lt_size e
      refine old b (List.mem_range.mpr (Nat.lt_trans lt newLt)) (fun z => ?_) u (up _ _ (stands b u ne e))
      exact Nat.ne_of_lt lt (List.mem_singleton.mp z)
  · intro g h5 tk5 gs bare gBig gLast up5 WG atG
    rw [GxR.passing_true, List.length_range] at WG
    refine Calls.spliced_nil (call_all_walkS (WG.in4_1.self 0 _ _ _ atG ⟨g, _, _, _, n, _, _, pb, rfl, WG.in4_1, atG, fun j y sj Qj Ej item q => ?_, fun s' mv => ?_⟩))
    · obtain ⟨i, at_, rfl⟩ := item
      obtain ⟨_, ij⟩ := List.getElem?_eq_some_iff.mp at_
      rw [List.getElem_range] at ij
      rw [← ij]
      exact wpAny_truthy_bool q
    · -- behind the walk: the table has grown, all else stands
      have off : ∀ b u, s1.heap.get? b = some u → b ∉ h3.objs.size :: [s1.heap.objs.size] := fun b u e hb => by
        have lt := Heap.lt_size e
        rcases List.mem_cons.mp hb with z | z
        · exact Nat.lt_irrefl _ (Nat.lt_trans (by rw [← z]; exact lt) newLt)
        · exact Nat.ne_of_lt lt (List.mem_singleton.mp z)
      have K := inv_tab (more := more) (h' := s'.heap) (g' := s'.gens) (d' := s'.drawn) (t' := s'.toks) J hP (fun b u ne e => mv.heap b u (off b u e) (up5 b u (stands b u ne e)))
        (mv.heap P _ (off P _ tab1) (up5 P _ tab3)) (AllBare.movedS (J.bare.push bare) mv)
      rw [sh_eta s1 s' mv.os] at K
      exact ⟨.bl _, _, K, rfl, fin _ ⟨⟨ps ++ more, upd_same, trip3⟩, fun b ne => upd_ne ne⟩⟩
end
/-! ### captured names -/
theorem mem_of_lookup {α : Type} {n : Str} {c : α} : ∀ {l : List (Str × α)}, l.lookup n = some c → (n, c) ∈ l
  | (k, v) :: r, h => by
    rw [List.lookup_cons] at h
    by_cases e : n = k
    · have e' : (n == k) = true := by rw [e]; simp
      rw [e'] at h
      cases h
      rw [e]
      exact List.mem_cons_self
    · rw [beq_eq_false_iff_ne.mpr e] at h
      exact List.mem_cons_of_mem _ (mem_of_lookup h)
theorem cap_lookup {cells : List (Str × Addr)} {names : List (Str × NameKind)} {n : Str} {c : Addr} (hm : (n, NameKind.free) ∈ names) (hc : cells.lookup n = some c) : (cloFrom cells names []).lookup n = some c := by
  obtain ⟨d, hd⟩ := mem_lookup (cloFrom_has (acc := []) (cells := cells) hm)
  rcases cloFrom_mem (mem_of_lookup hd) with z | ⟨_, z⟩
  · cases z
  · rw [hd, z, hc]
    rfl
section
variable {X : Cx} {pins : List (Addr × Obj)} {σ : L2.St} {H : Hp} {s : Shared}
/-- the def's name y, captured, in slot i: what the block reads of it, wherever all that stood stands -/
theorem captured {scope : Scope} {y : Str} {i : Nat} {v : V} {P : Addr} {ps : Array Value} (I : Inv X pins σ H s) (hP : H P = some (.tbl ps)) (hc : X.env.scope.names.lookup y = some .cell) (hf : (y, NameKind.free) ∈ scope.names) (hN : X.N[i]? = some y) (hv : σ[i]? = some (some v)) :
    ∃ a u, (cloFrom X.env.cells scope.names []).lookup y = some a ∧ RelV v u ∧ ∀ h : Heap, (∀ b o, b ≠ P → s.heap.get? b = some o → h.get? b = some o) → h.IsCell a (some u) := by
  obtain ⟨m, _, hl⟩ := I.loc
  obtain ⟨u, ru, l⟩ := hl i y v hN hv (.inr (.inl hc))
  rcases l with ⟨k, _⟩ | ⟨_, a, ha, o, ho, hd⟩
  · have k' : X.env.scope.names.lookup y = some NameKind.local := k
    rw [hc] at k'
    cases k'
  · refine ⟨a, u, cap_lookup hf ha, ru, fun h up => ⟨o, up a o (fun z => ?_) ho, hd⟩⟩
    have t : s.heap.get? P = some { cls := .none, data := .fields ps } := I.hok P _ hP
    rw [z, t] at ho
    cases ho
    cases hd
/-- a text, sign by sign -/
theorem src_str {P : Addr} {ps : Array Value} {z : Str} {t : Tok} (I : Inv X pins σ H s) (hP : H P = some (.tbl ps)) : SrcOk X.prog X.w s.heap P (.str z t) z.cps.size (SignAt z) := by
  have tab : s.heap.get? P = some { cls := .none, data := .fields ps } := I.hok P _ hP
  refine ⟨[s.heap.objs.size], fun b hb => Nat.le_of_eq (List.mem_singleton.mp hb), fun hb => ?_, fun A E s2 Q e q => ?_⟩
  · exact Nat.ne_of_lt (Heap.lt_size tab) (List.mem_singleton.mp hb)
  · obtain ⟨h2, g2, d2, t2, o2⟩ := s2
    obtain rfl : h2 = s.heap := e
    exact wpAny_pyIter_str fun o St W at0 => q o St W at0
theorem walks_weaker {prog : Program} {w : World} {A : Around} {I : Addr} {fp wr : List Addr} {n : Nat} {Pf Pg : Nat → Value → Prop} {St : Nat → Heap → Prop} (W : Walks prog w A I fp wr n Pf St) (f : ∀ i v, Pf i v → Pg i v) : Walks prog w A I fp wr n Pg St :=
  ⟨W.sub, W.frame, fun i s Q E hi st q => W.item i s Q E hi st fun v h' tk y => q v h' tk (f i v y), W.done, W.self⟩
/-- a list -/
theorem src_lst {P l : Addr} {ps : Array Value} {xs : List V} (I : Inv X pins σ H s) (hP : H P = some (.tbl ps)) (hl : SqL X.K H l xs) : SrcOk X.prog X.w s.heap P (.ref l) xs.length (fun i v => ∃ x, xs[i]? = some x ∧ RelV x v) := by
  have tab : s.heap.get? P = some { cls := .none, data := .fields ps } := I.hok P _ hP
  obtain ⟨its, rv, pl, _⟩ := I.list hl
  have lst := pl.isList
  have len : its.toArray.size = xs.length := by rw [List.size_toArray, rv.length]
  have lt : l < s.heap.objs.size := by
    obtain ⟨_, e, _⟩ := _root_.id lst
    exact Heap.lt_size e
  refine ⟨[s.heap.objs.size, l], fun b hb => ?_, fun hb => ?_, fun A E s2 Q e q => ?_⟩
  rotate_left 2
  · obtain ⟨h2, g2, d2, t2, o2⟩ := s2
    obtain rfl : h2 = s.heap := e
    refine wpAny_pyIter_list lst (q _ (fun i h => h.IsListIter s.heap.objs.size l i ∧ h.IsList l its.toArray) (fun A' hA => ?_) ⟨⟨_, Heap.get?_push_size _ rfl, rfl, rfl⟩, lst.push _⟩)
    have W := Walks.list (prog := X.prog) (w := X.w) hA s.heap.objs.size l (Nat.ne_of_lt lt) its.toArray
    rw [len] at W
    refine walks_weaker W fun i v e => ?_
    have e' : its[i]? = some v := by simpa using e
    have hi : i < its.length := (List.getElem?_eq_some_iff.mp e').1
    have hi2 : i < xs.length := by rw [rv.length]; exact hi
    obtain ⟨u, hu, ru⟩ := rv.get (List.getElem?_eq_getElem hi2)
    rw [e'] at hu
    cases hu
    exact ⟨xs[i], List.getElem?_eq_getElem hi2, ru⟩
  · rcases List.mem_cons.mp hb with z | z
    · exact Nat.le_of_eq z
    · rw [List.mem_singleton.mp z]
      exact Nat.le_of_lt lt
  · rcases List.mem_cons.mp hb with z | z
    · exact Nat.ne_of_lt (Heap.lt_size tab) z
    · have z' := List.mem_singleton.mp z
      obtain ⟨o1, e1, _, _, d1⟩ := _root_.id lst
      rw [← z', tab] at e1
      cases e1
      cases d1
end
/-! ### «lo <= x <= hi», lo and hi captured texts -/
def between (lo hi : Str) (c : Nat) : Bool := !(decide ([c] < lo.cps.toList)) && !(decide (hi.cps.toList < [c]))
theorem elt_between {X : Cx} {pins : List (Addr × Obj)} {σ : L2.St} {H : Hp} {s : Shared} {scope : Scope} {x lo hi : Str} {z zl zh : Str} {P : Addr} {ps : Array Value} {i j : Nat} {p1 p2 p3 p4 : Pos} (I : Inv X pins σ H s) (hP : H P = some (.tbl ps))
    (hk : scope.kind = .function) (hl : scope.names.lookup x = some .local) (h1 : scope.names.lookup lo = some .free) (h2 : scope.names.lookup hi = some .free)
    (c1 : X.env.scope.names.lookup lo = some .cell) (c2 : X.env.scope.names.lookup hi = some .cell) (n1 : X.N[i]? = some lo) (n2 : X.N[j]? = some hi) (v1 : σ[i]? = some (some (.str zl))) (v2 : σ[j]? = some (some (.str zh)))
    (d0 : (x == ("__debug__" : Str)) = false := by decide) (d1 : (lo == ("__debug__" : Str)) = false := by decide) (d2 : (hi == ("__debug__" : Str)) = false := by decide) (e1 : (lo == ("__classdict__" : Str)) = false := by decide) (e2 : (hi == ("__classdict__" : Str)) = false := by decide) :
    EltG X scope x (.Compare (.Name lo p1) [.LtE, .LtE] [.Name x p2, .Name hi p3] p4) P s.heap (SignAt z) (fun k => between zl zh (z.cps.getD k 0)) := by
  obtain ⟨a, u, la, ru, ca⟩ := captured (scope := scope) I hP c1 (mem_of_lookup h1) n1 v1
  obtain ⟨b, v, lb, rv, cb⟩ := captured (scope := scope) I hP c2 (mem_of_lookup h2) n2 v2
  obtain ⟨ta, rfl⟩ := ru
  obtain ⟨tb, rfl⟩ := rv
  intro C code A' E' k item s₂ m₂ _ _ _ sign old ns hx
  obtain ⟨cc, tc, hcc, rfl⟩ := sign
  have gd : z.cps.getD k 0 = cc := by
    rw [Array.getD_eq_getD_getElem?, hcc]
    rfl
  refine Compare_chain ?_ (by with_unfolding_all rfl)
  refine wpAny_Name (wpAny_loadName_free hk (show scope.names.lookup lo = some .free from h1) la (ca _ old) ?_ e1) d1
  refine chain_link (wpAny_Name (wpAny_loadName_local hk (show scope.names.lookup x = some .local from hl) ns hx ?_) d0)
  refine PySem.P.le_str (wpAny_truthy_bool ?_)
  show (if (!decide (([cc] : List Nat) < zl.cps.toList)) = true then _ else _)
  by_cases q : ([cc] : List Nat) < zl.cps.toList
  · rw [decide_eq_true q]
    refine ite_ff ⟨?_, keeps_refl _⟩
    show _ = Value.bool (between zl zh (z.cps.getD k 0))
    rw [gd]
    unfold between
    rw [decide_eq_true q]
    rfl
  · rw [decide_eq_false q]
    refine ite_tt (chain_last ?_)
    refine wpAny_Name (wpAny_loadName_free hk (show scope.names.lookup hi = some .free from h2) lb (cb _ old) ?_ e2) d2
    refine PySem.P.le_str ⟨?_, keeps_refl _⟩
    show _ = Value.bool (between zl zh (z.cps.getD k 0))
    rw [gd]
    unfold between
    rw [decide_eq_false q]
    rfl
theorem range_all (z : Array Nat) (p : Nat → Bool) : (List.range z.size).all (fun k => p (z.getD k 0)) = z.toList.all p := by
  rw [Bool.eq_iff_iff, List.all_eq_true, List.all_eq_true]
  constructor
  · intro h b hb
    obtain ⟨j, hj, e⟩ := List.getElem_of_mem hb
    have hj' : j < z.size := by simpa using hj
    have q := h j (List.mem_range.mpr hj')
    rw [Array.getD_eq_getD_getElem?, Array.getElem?_eq_getElem hj'] at q
    rw [← e]
    simpa using q
  · intro h j hj
    have hj' := List.mem_range.mp hj
    rw [Array.getD_eq_getD_getElem?, Array.getElem?_eq_getElem hj']
    exact h _ (by simp)
end Gc

set_option Elab.async false
set_option linter.all false
set_option maxRecDepth 100000
set_option maxHeartbeats 4000000
namespace Ld
open PySem PySem.Spec PyProof.Rows L2
/-! ### the draws: mathematics -/
def dstep (p : Int × List Int) : Int × List Int := if p.1 > 0 then (p.1 / 65536, p.2 ++ [p.1 % 65536]) else p
def diter : Nat → Int × List Int → Int × List Int
  | 0, p => p
  | n + 1, p => dstep (diter n p)
def dabs (x : Int) : Int := if x < 0 then -x else x
def dmix1 (k r : Int) : Int := (r * 48271 + (k + 1) * 69621) % 2147483647
def dmix2 (k r : Int) : Int := (dmix1 k r * 16807 + 11 * k + 5) % 2147483629
def dcell (k x : Int) (ds : List Int) : List Int :=
  if (10 : Int) ^ (18 : Int).toNat ≤ dabs x then (diter 60 (dabs x, ds)).2
  else ds ++ [dmix2 k (dabs x) % 65536] ++ [dmix2 k (dabs x) / 65536 % 32768]
def drawsN (ns : List Int) : Nat → List Int
  | 0 => []
  | i + 1 => dcell (i : Nat) (ns.getD i 0) (drawsN ns i)
def drawsOf (ns : List Int) : List Int := drawsN ns ns.length
def DOk (ds : List Int) : Prop := ∀ x ∈ ds, 0 ≤ x ∧ x < 65536
theorem DOk.app {ds : List Int} {x : Int} (h : DOk ds) (h0 : 0 ≤ x) (h1 : x < 65536) : DOk (ds ++ [x]) := fun y hy => by
  rcases List.mem_append.mp hy with z | z
  · exact h y z
  · rw [List.mem_singleton.mp z]
    exact ⟨h0, h1⟩
theorem dstep_ok {p : Int × List Int} (h : DOk p.2) : DOk (dstep p).2 := by
  unfold dstep
  split
  · exact h.app (Int.emod_nonneg _ (by decide)) (Int.emod_lt_of_pos _ (by decide))
  · exact h
theorem dstep_len (p : Int × List Int) : (dstep p).2.length ≤ p.2.length + 1 := by
  unfold dstep
  split
  · show (p.2 ++ [p.1 % 65536]).length ≤ _
    rw [List.length_append, List.length_singleton]
    exact Nat.le_refl _
  · omega
theorem diter_ok {p : Int × List Int} (h : DOk p.2) : ∀ n, DOk (diter n p).2
  | 0 => h
  | n + 1 => dstep_ok (diter_ok h n)
theorem diter_len (p : Int × List Int) : ∀ n, (diter n p).2.length ≤ p.2.length + n
  | 0 => Nat.le_refl _
  | n + 1 => by
    have := dstep_len (diter n p)
    have := diter_len p n
    show (dstep (diter n p)).2.length ≤ _
    omega
theorem dcell_ok {k x : Int} {ds : List Int} (h : DOk ds) : DOk (dcell k x ds) := by
  unfold dcell
  split
  · exact diter_ok (p := (dabs x, ds)) h 60
  · have h1 : DOk (ds ++ [dmix2 k (dabs x) % 65536]) := h.app (Int.emod_nonneg _ (by decide)) (Int.emod_lt_of_pos _ (by decide))
    refine h1.app (Int.emod_nonneg _ (by decide)) ?_
    have : dmix2 k (dabs x) / 65536 % 32768 < 32768 := Int.emod_lt_of_pos _ (by decide)
    omega
theorem dcell_len (k x : Int) (ds : List Int) : (dcell k x ds).length ≤ ds.length + 60 := by
  unfold dcell
  split
  · exact diter_len (dabs x, ds) 60
  · simp only [List.length_append, List.length_singleton]
    omega
theorem drawsN_ok (ns : List Int) : ∀ n, DOk (drawsN ns n)
  | 0 => fun _ h => nomatch h
  | n + 1 => dcell_ok (drawsN_ok ns n)
theorem drawsN_len (ns : List Int) : ∀ n, (drawsN ns n).length ≤ 60 * n
  | 0 => Nat.le_refl _
  | n + 1 => by
    have := dcell_len (n : Nat) (ns.getD n 0) (drawsN ns n)
    have := drawsN_len ns n
    show (dcell _ _ _).length ≤ _
    omega
theorem drawsOf_len {ns : List Int} (h : ns.length ≤ 63) : (drawsOf ns).length ≤ 3780 := by
  have := drawsN_len ns ns.length
  unfold drawsOf
  omega
/-- a draw below many -/
def atD (ds : List Int) (k many : Int) : Int := if k < (ds.length : Int) then ds.getD k.toNat 0 % many else 0
theorem atD_lo (ds : List Int) (k : Int) {many : Int} (h : 0 < many) : 0 ≤ atD ds k many := by
  unfold atD
  split
  · exact Int.emod_nonneg _ (by omega)
  · exact Int.le_refl _
theorem atD_hi (ds : List Int) (k : Int) {many : Int} (h : 0 < many) : atD ds k many < many := by
  unfold atD
  split
  · exact Int.emod_lt_of_pos _ h
  · exact h
theorem getI {ns : List Int} {i : Nat} (h : i < ns.length) : (ns.map V.int)[i]? = some (V.int (ns.getD i 0)) := by
  rw [List.getElem?_map, List.getElem?_eq_getElem h, List.getD_eq_getElem?_getD, List.getElem?_eq_getElem h]
  rfl
theorem same_upd {H : Hp} {p : Addr} {o : HO} (h : H p = none) : Same H (upd H p o) := fun b x e => by
  rw [upd_ne (ne_of_none e h)]
  exact e
theorem small4000 {n : Nat} (h : n ≤ 4000) : n < sizeLine := Nat.lt_of_le_of_lt h (by decide)
end Ld

set_option Elab.async false
set_option linter.all false
set_option maxRecDepth 100000
set_option maxHeartbeats 4000000
namespace Ld
open PySem PySem.Spec PyProof.Rows L2
def topS (i : Nat) : Stmt := PySem.Challenge.pw_leastmend_k00_kinds_and_names.main.body.getD i (.Pass ⟨0, 0, 0, 0⟩)
abbrev sDraws : Stmt := topS 6
abbrev sAt : Stmt := topS 7
abbrev sWord : Stmt := topS 4
abbrev sKind : Stmt := topS 2
abbrev sName : Stmt := topS 3
abbrev sWord2 : Stmt := topS 9
abbrev sAll : Stmt := topS 10
abbrev sLaw : Stmt := topS 11
section
variable {P : Program} {w : World} {K : PySem.W.Frag} {mg : Str → Option Value} {base : Heap}
/-! ### the law's own draws -/
theorem scDr : FnScope ["script", "draws", "k", "rest", "turn", "mixed"] ["script"] (defScope sDraws) := ⟨rfl, rfl, rfl, by decide +kernel, rfl, by decide +kernel, by decide +kernel⟩
/-- a new list of the draws; what stood stands -/
def spDraws (K : PySem.W.Frag) : Sp := fun vs H Q _ => ∃ (a : Addr) (ns : List Int), vs = [.ref a] ∧ SqL K H a (ns.map V.int) ∧ ns.length ≤ 63 ∧
  ∀ p, H p = none → Q (.ref p) (upd H p (.lst ((drawsOf ns).map V.int)))
theorem ok_draws {f : Addr} {fd : FuncData} {k : Nat} (F : Fun K "_law_draws" "_law_draws" sDraws f fd) (mr : mg "range" = none) (mm : mg "min" = none) (ml : mg "len" = none) (ma : mg "abs" = none) (mi : mg "int" = none) :
    FnOk P w K mg base CX0 (k + 1) f fd ["script"] (spDraws K) := by
  refine F.ok scDr (fun vs H Q E h => ?_) (fun cdv A outer s H vs Q E hr h => ?_)
  · obtain ⟨a, ns, rfl, _⟩ := h
    rfl
  · obtain ⟨a, ns, rfl, hS, hlen, q⟩ := h
    refine ⟨_, pss_cons (ps_set (i := 1) scDr.nd rfl (.inl rfl) (pe_lst pa_nil))
      (pss_cons (ps_for PassesOwn.never rfl (pi_range1 rfl mr (pa_cons (pe_callB (call_min2 rfl) (by rfl) mm (by decide +kernel) (pa_cons pe_int (pa_cons (pe_callB call_len_seq (by rfl) ml PySem.boot_len (pa_cons (pv 0) pa_nil)) pa_nil))) pa_nil))
          (pg_name (i := 2) scDr.nd rfl (.inl rfl))
        (pss_cons (ps_set (i := 3) scDr.nd rfl (.inl rfl) (pe_callB call_abs (by rfl) ma (by decide +kernel) (pa_cons (pe_ix ix_list (pv 0) (pv 2) (fun _ _ => rfl)) pa_nil)))
        (pss_one (ps_if (pt_cmpR op_ge (pv 3) (pe_op op_pow pe_int pe_int) (nomark _))
          (pss_one (ps_for PassesOwn.never rfl (pi_range1 rfl mr (pa_cons pe_int pa_nil)) (pg_name (i := 4) scDr.nd rfl (.inl rfl))
            (pss_one (ps_if (pt_cmpR op_gt (pv 3) pe_int (nomark _))
              (pss_cons (ps_expr (pe_bm PySem.F.plainAttrs_list PySem.F.slot_list_append PySem.F.type_list_append mt_append (pv 1) (pa_cons (pe_op op_mod (pe_callTy call_int1 (by rfl) mi (by decide +kernel) (pa_cons (pv 3) pa_nil)) pe_int) pa_nil)))
              (pss_one (ps_set (i := 3) scDr.nd rfl (.inl rfl) (pe_op op_fdiv (pv 3) pe_int)))) pss_nil))))
          (pss_cons (ps_set (i := 5) scDr.nd rfl (.inl rfl) (pe_op op_mod (pe_callTy call_int1 (by rfl) mi (by decide +kernel) (pa_cons (pe_op op_add (pe_op op_mul (pv 3) pe_int) (pe_op op_mul (pe_op op_add (pv 2) pe_int) pe_int)) pa_nil)) pe_int))
          (pss_cons (ps_set (i := 5) scDr.nd rfl (.inl rfl) (pe_op op_mod (pe_callTy call_int1 (by rfl) mi (by decide +kernel) (pa_cons (pe_op op_add (pe_op op_add (pe_op op_mul (pv 5) pe_int) (pe_op op_mul pe_int (pv 2))) pe_int) pa_nil)) pe_int))
          (pss_cons (ps_expr (pe_bm PySem.F.plainAttrs_list PySem.F.slot_list_append PySem.F.type_list_append mt_append (pv 1) (pa_cons (pe_op op_mod (pe_callTy call_int1 (by rfl) mi (by decide +kernel) (pa_cons (pv 5) pa_nil)) pe_int) pa_nil)))
          (pss_one (ps_expr (pe_bm PySem.F.plainAttrs_list PySem.F.slot_list_append PySem.F.type_list_append mt_append (pv 1) (pa_cons (pe_op op_mod (pe_callTy call_int1 (by rfl) mi (by decide +kernel) (pa_cons (pe_op op_fdiv (pv 5) pe_int) pa_nil)) pe_int) pa_nil)))))))))))
      (pss_one (ps_ret (pv 1)))), ?_⟩
    -- draws = []
    refine ⟨Nat.zero_le _, fun o no => ?_⟩
    have s1 : Same H (upd H o (.lst [])) := same_upd no
    have nao : ∀ G : HO, SqL K (upd H o G) a (ns.map V.int) := fun G => (same_upd no).seq hS
    have hi62 : (ns.length : Int) < 2 ^ 62 := by omega
    -- range(min(63, len(script)))
    have ej : (if ((ns.map V.int).length : Int) < 63 then ((ns.map V.int).length : Int) else 63) = (ns.length : Int) := by
      rw [List.length_map]
      split <;> omega
    refine ⟨.ref a, rfl, a, ns.map V.int, rfl, .inl (s1.seq hS), 63, _, rfl, _, rfl, by rw [ej]; omega, by rw [ej]; omega, ?_⟩
    rw [ej]
    refine for_range (lo := 0) (n := ns.length) (fun i σ H' => ∃ v2 v3 v4 v5, σ = [some (.ref a), some (.ref o), v2, v3, v4, v5] ∧ H' = upd H o (.lst ((drawsN ns i).map V.int))) ⟨none, none, none, none, rfl, rfl⟩ ?_ ?_
    · rintro i σ H' hi ⟨v2, v3, v4, v5, rfl, rfl⟩
      have gi := getI hi
      have hSi := nao (.lst ((drawsN ns i).map V.int))
      have hl := drawsN_len ns i
      -- rest = abs(script[k])
      refine ⟨.ref a, rfl, _, rfl, a, _, _, _, rfl, rfl, hSi, at_of (j := i) (by omega) gi, ns.getD i 0, rfl, ?_⟩
      rw [Int.zero_add]
      refine ⟨_, rfl, _, _, rfl, rfl, ⟨by decide, by decide, by decide⟩, _, _, rfl, rfl, _, rfl, ite2 (fun c => ?_) (fun c => ?_)⟩
      · -- the digits
        have c1 : (10 : Int) ^ (18 : Int).toNat ≤ dabs (ns.getD i 0) := of_decide_eq_true c
        have e1 : drawsN ns (i + 1) = (diter 60 (dabs (ns.getD i 0), drawsN ns i)).2 := if_pos c1
        refine ⟨60, rfl, by decide, by decide, for_range (lo := 0) (n := 60) (fun j σ H' => ∃ v4, σ = [some (.ref a), some (.ref o), some (.int i), some (.int (diter j (dabs (ns.getD i 0), drawsN ns i)).1), v4, v5] ∧ H' = upd H o (.lst ((diter j (dabs (ns.getD i 0), drawsN ns i)).2.map V.int)))
          ⟨v4, rfl, rfl⟩ ?_ ?_⟩
        · rintro j σ H' hj ⟨w4, rfl, rfl⟩
          have hl2 := diter_len (dabs (ns.getD i 0), drawsN ns i) j
          generalize hp : diter j (dabs (ns.getD i 0), drawsN ns i) = p at hl2
          have e2 : diter (j + 1) (dabs (ns.getD i 0), drawsN ns i) = dstep p := by rw [← hp]; rfl
          refine ⟨_, rfl, _, _, rfl, rfl, _, rfl, ite2 (fun c2 => ?_) (fun c2 => ?_)⟩
          · have e3 : dstep p = (p.1 / 65536, p.2 ++ [p.1 % 65536]) := if_pos (of_decide_eq_true c2)
            refine ⟨.ref o, rfl, .inl ⟨rfl, _, SqL.of upd_same⟩, _, rfl, .inl ⟨_, rfl, _, _, rfl, rfl, (by show (0 : Int) < 65536; decide), o, _, _, rfl, rfl, upd_same, ?_, _, rfl, _, _, rfl, rfl, ⟨by decide, by decide⟩, some (.int (0 + j)), ?_, ?_⟩⟩
            · rw [List.length_map]
              refine small4000 ?_
              have hl3 : (drawsN ns i).length ≤ 60 * i := hl
              have hl4 : p.2.length ≤ (drawsN ns i).length + j := hl2
              omega
            · rw [e2, e3]
              rfl
            · rw [e2, e3, upd_upd, List.map_append]
              rfl
          · have e3 : dstep p = p := if_neg fun z => c2 (decide_eq_true z)
            refine ⟨some (.int (0 + j)), ?_, ?_⟩
            · rw [e2, e3]
              rfl
            · rw [e2, e3]
        · rintro σ H' ⟨w4, rfl, rfl⟩
          exact ⟨_, _, _, _, rfl, by rw [e1]⟩
      · -- two mixed numbers
        have e1 : drawsN ns (i + 1) = drawsN ns i ++ [dmix2 i (dabs (ns.getD i 0)) % 65536] ++ [dmix2 i (dabs (ns.getD i 0)) / 65536 % 32768] := if_neg fun z => c (decide_eq_true z)
        refine ⟨_, rfl, _, _, rfl, rfl, .inr ⟨by decide, by decide⟩, _, rfl, _, _, rfl, rfl, _, _, rfl, rfl, .inr ⟨by decide, by decide⟩, _, _, rfl, rfl, .inl ⟨_, rfl, _, _, rfl, rfl, (by show (0 : Int) < 2147483647; decide), ?_⟩⟩
        refine ⟨_, rfl, _, _, rfl, rfl, .inr ⟨by decide, by decide⟩, _, rfl, _, _, rfl, rfl, .inl ⟨by decide, by decide⟩, _, _, rfl, rfl, _, _, rfl, rfl, .inl ⟨_, rfl, _, _, rfl, rfl, (by show (0 : Int) < 2147483629; decide), ?_⟩⟩
        refine ⟨.ref o, rfl, .inl ⟨rfl, _, SqL.of upd_same⟩, _, rfl, .inl ⟨_, rfl, _, _, rfl, rfl, (by show (0 : Int) < 65536; decide), o, _, _, rfl, rfl, upd_same, ?_, ?_⟩⟩
        · rw [List.length_map]
          exact small4000 (by omega)
        refine ⟨.ref o, rfl, .inl ⟨rfl, _, SqL.of upd_same⟩, _, rfl, _, _, rfl, rfl, ⟨by decide, by decide⟩, .inl ⟨_, rfl, _, _, rfl, rfl, (by show (0 : Int) < 32768; decide), o, _, _, rfl, rfl, upd_same, ?_, ?_⟩⟩
        · rw [List.length_append, List.length_map]
          exact small4000 (by show (drawsN ns i).length + 1 ≤ 4000; omega)
        refine ⟨_, _, _, _, rfl, ?_⟩
        rw [e1, upd_upd, upd_upd, List.map_append, List.map_append]
        rfl
    · rintro σ H' ⟨v2, v3, v4, v5, rfl, rfl⟩
      exact ⟨.ref o, rfl, q o no⟩
/-! ### a draw below many -/
theorem scAt : FnScope ["draws", "k", "many"] ["draws", "k", "many"] (defScope sAt) := ⟨rfl, rfl, rfl, by decide +kernel, rfl, by decide +kernel, by decide +kernel⟩
def spAt (K : PySem.W.Frag) : Sp := fun vs H Q _ => ∃ (a : Addr) (ds : List Int) (k many : Int), vs = [.ref a, .int k, .int many] ∧ SqL K H a (ds.map V.int) ∧ 0 ≤ k ∧ 0 < many ∧ Q (.int (atD ds k many)) H
theorem ok_at {f : Addr} {fd : FuncData} {k : Nat} (F : Fun K "_law_at" "_law_at" sAt f fd) (ml : mg "len" = none) (mi : mg "int" = none) :
    FnOk P w K mg base CX0 (k + 1) f fd ["draws", "k", "many"] (spAt K) := by
  refine F.ok scAt (fun vs H Q E h => ?_) (fun cdv A outer s H vs Q E hr h => ?_)
  · obtain ⟨a, ds, k, many, rfl, _⟩ := h
    rfl
  · obtain ⟨a, ds, k, many, rfl, hS, h0, hm, q⟩ := h
    refine ⟨_, pss_cons (ps_if (pt_cmpR op_lt (pv 1) (pe_callB call_len_seq (by rfl) ml PySem.boot_len (pa_cons (pv 0) pa_nil)) (nomark _))
        (pss_one (ps_ret (pe_op op_mod (pe_callTy call_int1 (by rfl) mi (by decide +kernel) (pa_cons (pe_ix ix_list (pv 0) (pv 1) (fun _ _ => rfl)) pa_nil)) (pv 2)))) pss_nil)
      (pss_one (ps_ret pe_int)), ?_⟩
    refine ⟨_, rfl, _, rfl, a, _, rfl, .inl hS, _, _, rfl, rfl, _, rfl, ite2 (fun c => ?_) (fun c => ?_)⟩
    · have c1 : k < ((ds.map V.int).length : Int) := of_decide_eq_true c
      rw [List.length_map] at c1
      have gi := getI (ns := ds) (i := k.toNat) (by omega)
      refine ⟨_, rfl, _, rfl, a, _, _, _, rfl, rfl, hS, at_of (j := k.toNat) (by omega) gi, .inl ⟨_, rfl, _, rfl, _, _, rfl, rfl, hm, ?_⟩⟩
      have e : atD ds k many = ds.getD k.toNat 0 % many := if_pos c1
      show Q (.int (ds.getD k.toNat 0 % many)) H
      rw [← e]
      exact q
    · have c1 : ¬ k < ((ds.map V.int).length : Int) := fun z => c (decide_eq_true z)
      rw [List.length_map] at c1
      have e : atD ds k many = 0 := if_neg c1
      show Q (.int 0) H
      rw [← e]
      exact q
/-! ### words of letters -/
/-- as Fun.ok, the def's code told -/
theorem okT {x qual : Str} {st : Stmt} {f c : Addr} {fd : FuncData} {N ps : List Str} {k : Nat} {sp : Sp} (F : Fun K x qual st f fd) (hc : fd.code = .ref c) (S : FnScope N ps (defScope st)) (len : ∀ vs H Q E, sp vs H Q E → vs.length = ps.length)
    (hbody : ∀ (A : Around) (outer : List Env) (s : Shared) (H : Hp) (vs : List V) (Q : VK) (E : XK), Room k (A.deeper (envOfC qual (defScope st) s.heap.objs.size f (.ref c))) → sp vs H Q E →
      ∃ t, PSs (cxOf CX0 P w K mg base N qual (defScope st) f (.ref c) A outer s H E).nox (defBody st) t ∧ t { nx := fun _ H' => Q .non H', rt := Q } (start N vs) H) : FnOk P w K mg base CX0 (k + 1) f fd ps sp := by
  obtain ⟨oc, od, kV, doc, pm, an, cdv, ct, osl, rfl, lk, hcd⟩ := F.ex
  have e : cdv = .ref c := hc
  subst e
  refine fn_of lk hcd S len fun A outer s H vs Q E hr hsp => ?_
  obtain ⟨t, h, q⟩ := hbody A outer s H vs Q E hr hsp
  exact ⟨t, h.nox, q⟩
theorem scW : FnScope ["text", "first", "last"] ["text", "first", "last"] (defScope sWord) := ⟨rfl, rfl, rfl, by decide +kernel, rfl, by decide +kernel, by decide +kernel⟩
def wordB (z lo hi : Str) : Bool := decide (1 ≤ (z.length : Int)) && (decide ((z.length : Int) ≤ 12) && z.cps.toList.all (Gc.between lo hi))
def spWord (T : Addr) : Sp := fun vs H Q _ => ∃ (z lo hi : Str), vs = [.str z, .str lo, .str hi] ∧ z.length ≤ sizeLine ∧ GxR.TabG H T ∧ ∀ H2, GxR.Tabbed T H H2 → Q (.bl (wordB z lo hi)) H2
theorem wFree : ∀ y ∈ ([((".0" : Str), NameKind.local), ("letter", NameKind.local), ("first", NameKind.free), ("last", NameKind.free)] : List (Str × NameKind)), y.2 = .free → (defScope sWord).names.lookup y.1 = some .cell := by decide +kernel
theorem wCell1 : (defScope sWord).names.lookup ("first" : Str) = some NameKind.cell := by decide +kernel
theorem wCell2 : (defScope sWord).names.lookup ("last" : Str) = some NameKind.cell := by decide +kernel
theorem ok_word {f c T : Addr} {fd : FuncData} {k : Nat} (F : Fun K "_is_word" "_is_word" sWord f fd) (hc : fd.code = .ref c) (TB : GxR.TabB base mg c T) (ml : mg "len" = none) (ma : mg "all" = none) {tk : Tok} (mm : mg "MOST_LETTERS" = some (.int 12 tk)) :
    FnOk P w K mg base CX0 (k + 1) f fd ["text", "first", "last"] (spWord T) := by
  refine okT F hc scW (fun vs H Q E h => ?_) (fun A outer s H vs Q E hr h => ?_)
  · obtain ⟨z, lo, hi, rfl, _⟩ := h
    rfl
  · obtain ⟨z, lo, hi, rfl, hz, tg, q⟩ := h
    refine ⟨_, pss_one (ps_ret (pe_and (pe_chain op_le op_le pe_int (pe_callB call_len_str (by rfl) ml PySem.boot_len (pa_cons (pv 0) pa_nil)) (pe_glob (v := .int 12) rfl mm ⟨_, rfl⟩))
      (pe_one (Gc.pe_allG hr (by rfl) ma (by decide +kernel) TB rfl ⟨rfl, rfl, by decide +kernel, rfl, rfl, wFree⟩ (pv 0) (fun _ => rfl))))), ?_⟩
    refine ⟨_, rfl, z, rfl, hz, _, _, rfl, rfl, _, rfl, ite2 (fun c1 => ?_) (fun c1 => ?_)⟩
    · refine ⟨_, _, rfl, rfl, _, rfl, ite2 (fun c2 => ?_) (fun c2 => ?_)⟩
      · refine ⟨_, rfl, z.cps.size, PySem.SignAt z, fun k => Gc.between lo hi (z.cps.getD k 0), fun pins s1 xv I r => ?_, tg, fun H2 hT => ?_⟩
        · obtain ⟨t, rfl⟩ := r
          obtain ⟨ps, hP, _⟩ := tg
          exact ⟨Gc.src_str I hP, Gc.elt_between (i := 1) (j := 2) I hP rfl rfl rfl rfl wCell1 wCell2 rfl rfl rfl rfl⟩
        · have e : wordB z lo hi = z.cps.toList.all (Gc.between lo hi) := by
            unfold wordB
            rw [c1, c2]
            rfl
          have q2 := q H2 hT
          rw [e, ← Gc.range_all] at q2
          exact q2
      · have e : wordB z lo hi = false := by
          unfold wordB
          rw [Bool.eq_false_iff.mpr c2]
          simp
        have q2 := q H ⟨tg, fun _ _ => rfl⟩
        rw [e] at q2
        exact q2
    · have e : wordB z lo hi = false := by
        unfold wordB
        rw [Bool.eq_false_iff.mpr c1]
        rfl
      have q2 := q H ⟨tg, fun _ _ => rfl⟩
      rw [e] at q2
      exact ⟨_, rfl, iteF q2⟩
theorem scK : FnScope ["text"] ["text"] (defScope sKind) := ⟨rfl, rfl, rfl, by decide +kernel, rfl, by decide +kernel, by decide +kernel⟩
theorem scN : FnScope ["text"] ["text"] (defScope sName) := ⟨rfl, rfl, rfl, by decide +kernel, rfl, by decide +kernel, by decide +kernel⟩
def kindB (z : Str) : Bool := wordB z "A" "Z" && !decide (z = "OTHER")
def nameB (z : Str) : Bool := wordB z "a" "z"
def spOne (T : Addr) (b : Str → Bool) : Sp := fun vs H Q _ => ∃ z : Str, vs = [.str z] ∧ z.length ≤ sizeLine ∧ GxR.TabG H T ∧ ∀ H2, GxR.Tabbed T H H2 → Q (.bl (b z)) H2
theorem str_dec (x y : Str) : decide (V.str x = V.str y) = decide (x = y) := by
  by_cases e : x = y
  · subst e; simp
  · rw [decide_eq_false e]
    exact decide_eq_false fun z => e (V.str.inj z)
theorem ok_kind {f fW T : Addr} {fd fdW : FuncData} {k : Nat} (F : Fun K "is_kind" "is_kind" sKind f fd) (FW : Fun K "_is_word" "_is_word" sWord fW fdW) (GW : FnOk P w K mg base CX0 (k + 1) fW fdW ["text", "first", "last"] (spWord T)) (bW : Binds K fdW ["text", "first", "last"] []) (gW : mg "_is_word" = some (.ref fW)) :
    FnOk P w K mg base CX0 (k + 2) f fd ["text"] (spOne T kindB) := by
  refine F.ok scK (fun vs H Q E h => ?_) (fun cdv A outer s H vs Q E hr h => ?_)
  · obtain ⟨z, rfl, _⟩ := h
    rfl
  · obtain ⟨z, rfl, hz, tg, q⟩ := h
    refine ⟨_, pss_one (ps_ret (pe_and (pe_call GW hr (by rfl) gW FW.kp bW .nil pass0 (pa_cons (pv 0) (pa_cons pe_str (pa_cons pe_str pa_nil)))) (pe_one (pe_cmpR op_ne (pv 0) pe_str (nomark _))))), ?_⟩
    refine ⟨_, rfl, z, _, _, rfl, hz, tg, fun H2 hT => ?_⟩
    have q2 := q H2 hT
    refine ⟨_, rfl, ite2 (fun c => ?_) (fun c => ?_)⟩
    · refine ⟨_, rfl, rfl, ?_⟩
      unfold kindB at q2
      rw [c, ← str_dec] at q2
      exact q2
    · unfold kindB at q2
      rw [Bool.eq_false_iff.mpr c] at q2
      exact q2
theorem ok_name {f fW T : Addr} {fd fdW : FuncData} {k : Nat} (F : Fun K "is_name" "is_name" sName f fd) (FW : Fun K "_is_word" "_is_word" sWord fW fdW) (GW : FnOk P w K mg base CX0 (k + 1) fW fdW ["text", "first", "last"] (spWord T)) (bW : Binds K fdW ["text", "first", "last"] []) (gW : mg "_is_word" = some (.ref fW)) :
    FnOk P w K mg base CX0 (k + 2) f fd ["text"] (spOne T nameB) := by
  refine F.ok scN (fun vs H Q E h => ?_) (fun cdv A outer s H vs Q E hr h => ?_)
  · obtain ⟨z, rfl, _⟩ := h
    rfl
  · obtain ⟨z, rfl, hz, tg, q⟩ := h
    refine ⟨_, pss_one (ps_ret (pe_call GW hr (by rfl) gW FW.kp bW .nil pass0 (pa_cons (pv 0) (pa_cons pe_str (pa_cons pe_str pa_nil))))), ?_⟩
    exact ⟨_, rfl, z, _, _, rfl, hz, tg, fun H2 hT => q H2 hT⟩
/-! ### the law's own test of a word -/
theorem scAl : FnScope ["word", "letters", "c"] ["word", "letters"] (defScope sAll) := ⟨rfl, rfl, rfl, by decide +kernel, rfl, by decide +kernel, by decide +kernel⟩
def outs (z l : List Nat) : List Nat := z.filter fun c => !decide (c ∈ l)
def allB (z l : Str) : Bool := decide (1 ≤ (z.length : Int)) && (decide ((z.length : Int) ≤ 12) && decide (V.int ((outs z.cps.toList l.cps.toList).length : Int) = V.int 0))
def spAll : Sp := fun vs H Q _ => ∃ (z l : Str), vs = [.str z, .str l] ∧ z.length ≤ sizeLine ∧ ∀ H2, Same H H2 → Q (.bl (allB z l)) H2
def sgn (c : Nat) : V := .str ⟨#[c]⟩
theorem outs_more {z l : List Nat} {i c : Nat} (h : z[i]? = some c) : outs (z.take (i + 1)) l = outs (z.take i) l ++ (if c ∈ l then [] else [c]) := by
  unfold outs
  rw [List.take_add_one, h, List.filter_append]
  congr 1
  by_cases e : c ∈ l
  · simp [e]
  · simp [e]
theorem outs_len (z l : List Nat) : (outs z l).length ≤ z.length := List.length_filter_le _ _
theorem ok_all {f : Addr} {fd : FuncData} {k : Nat} (F : Fun K "_law_all" "_law_all" sAll f fd) (ml : mg "len" = none) : FnOk P w K mg base CX0 (k + 1) f fd ["word", "letters"] spAll := by
  refine F.ok scAl (fun vs H Q E h => ?_) (fun cdv A outer s H vs Q E hr h => ?_)
  · obtain ⟨z, l, rfl, _⟩ := h
    rfl
  · obtain ⟨z, l, rfl, hz, q⟩ := h
    refine ⟨_, pss_one (ps_ret (pe_and (pe_chain op_le op_le pe_int (pe_callB call_len_str (by rfl) ml PySem.boot_len (pa_cons (pv 0) pa_nil)) pe_int)
      (pe_one (pe_cmpR op_eq (pe_callB call_len_seq (by rfl) ml PySem.boot_len (pa_cons (pe_lc (own := [("c", 2)]) (g := gName 2) rfl scAl.nd (pi_str (pv 0)) (blkOk_by (N := ["word", "letters", "c"]) (sc := defScope sAll) (by decide +kernel))
        (fun _ _ _ _ _ => pg_name (i := 2) scAl.nd rfl (Or.inl rfl)) (fun _ _ _ _ _ => pts_one (pt_cmpR op_notIn_sign (pv 2) (pv 1) rfl)) (fun _ _ _ _ _ => pv 2)) pa_nil)) pe_int (nomark _))))), ?_⟩
    have q0 := q H (Same.refl H)
    refine ⟨_, rfl, z, rfl, hz, _, _, rfl, rfl, _, rfl, ite2 (fun c1 => ?_) (fun c1 => ?_)⟩
    · refine ⟨_, _, rfl, rfl, _, rfl, ite2 (fun c2 => ?_) (fun c2 => ?_)⟩
      · refine ⟨_, rfl, z, rfl, fun D hD => lc_it walk_str (fun i H' => H' = upd H D (.lst ((outs (z.cps.toList.take i) l.cps.toList).map sgn))) rfl (fun _ _ _ _ => True.intro) ?_ ?_⟩
        · rintro i x H1 H' hi rfl ⟨rfl, cc, hc, rfl⟩
          have hc' : z.cps.toList[i]? = some cc := by rw [Array.getElem?_toList]; exact hc
          have em := outs_more (l := l.cps.toList) hc'
          refine ⟨rfl, _, rfl, _, rfl, cc, l, rfl, rfl, _, rfl, ite2 (fun c3 => ?_) (fun c3 => ?_)⟩
          · have c4 : ¬ cc ∈ l.cps.toList := by simpa using c3
            rw [if_neg c4] at em
            refine ⟨_, rfl, _, upd_same, ?_, ?_⟩
            · rw [List.length_map]
              have h1 := outs_len (z.cps.toList.take i) l.cps.toList
              have h2 : (z.cps.toList.take i).length ≤ i := List.length_take_le _ _
              have h3 : i < sizeLine := Nat.lt_of_lt_of_le hi hz
              omega
            · rw [em, upd_upd, List.map_append]
              rfl
          · have c4 : cc ∈ l.cps.toList := by simpa using c3
            rw [if_pos c4, List.append_nil] at em
            rw [em]
        · rintro H' rfl
          have ez : z.cps.toList.take z.cps.size = z.cps.toList := List.take_of_length_le (by simp)
          refine ⟨_, _, rfl, .inl (SqL.of upd_same), rfl, ?_⟩
          have q2 := q _ (same_upd (o := .lst ((outs (z.cps.toList.take z.cps.size) l.cps.toList).map sgn)) hD)
          unfold allB at q2
          rw [c1, c2] at q2
          rw [List.length_map]
          rw [ez] at q2 ⊢
          exact q2
      · unfold allB at q0
        rw [Bool.eq_false_iff.mpr c2, Bool.false_and, Bool.and_false] at q0
        exact q0
    · unfold allB at q0
      rw [Bool.eq_false_iff.mpr c1] at q0
      exact ⟨_, rfl, iteF q0⟩
/-! ### the law's word: a text of fewer than 100 signs -/
theorem scW2 : FnScope ["draws", "k", "small", "word", "n", "letter", "place"] ["draws", "k"] (defScope sWord2) := ⟨rfl, rfl, rfl, by decide +kernel, rfl, by decide +kernel, by decide +kernel⟩
def spWord2 (K : PySem.W.Frag) : Sp := fun vs H Q _ => ∃ (a : Addr) (ds : List Int) (k : Int), vs = [.ref a, .int k] ∧ SqL K H a (ds.map V.int) ∧ 0 ≤ k ∧ ∀ z : Str, z.length ≤ 100 → Q (.str z) H
theorem len_app (x y : Str) : (x ++ y).length = x.length + y.length := by
  show (x.cps ++ y.cps).size = x.cps.size + y.cps.size
  exact Array.size_append
theorem small_line {n : Nat} (h : n ≤ 1000) : n ≤ sizeLine := Nat.le_trans h (by decide)
theorem atI_ok {α : Type} {xs : List α} {v : Int} (h0 : 0 ≤ v) (h1 : v < (xs.length : Int)) : ∃ c, atI xs v = some c := by
  have e : v = ((v.toNat : Nat) : Int) := by omega
  have hl : v.toNat < xs.length := by omega
  obtain ⟨c, hc⟩ : ∃ c, xs[v.toNat]? = some c := ⟨_, List.getElem?_eq_getElem hl⟩
  refine ⟨c, ?_⟩
  rw [e]
  exact atI_nat hc
theorem small_up {z : Str} (h : z.length ≤ 3) : z.length ≤ 5592405 := Nat.le_trans h (by decide)
def smallS : Str := "abcdefghijklmnopqrstuvwxyz"
def oddS : Str := " -_0.:\n\x40[`{"
theorem ok_word2 {f fA : Addr} {fd fdA : FuncData} {k : Nat} (F : Fun K "_law_word" "_law_word" sWord2 f fd) (FA : Fun K "_law_at" "_law_at" sAt fA fdA) (GA : FnOk P w K mg base CX0 (k + 1) fA fdA ["draws", "k", "many"] (spAt K)) (bA : Binds K fdA ["draws", "k", "many"] []) (gA : mg "_law_at" = some (.ref fA))
    (mr : mg "range" = none) (ml : mg "len" = none) : FnOk P w K mg base CX0 (k + 2) f fd ["draws", "k"] (spWord2 K) := by
  refine F.ok scW2 (fun vs H Q E h => ?_) (fun cdv A outer s H vs Q E hr h => ?_)
  · obtain ⟨a, ds, k, rfl, _⟩ := h
    rfl
  · obtain ⟨a, ds, k, rfl, hS, h0, q⟩ := h
    refine ⟨_, pss_cons (ps_set (i := 2) scW2.nd rfl (.inl rfl) pe_str) (pss_cons (ps_set (i := 3) scW2.nd rfl (.inl rfl) pe_str)
      (pss_cons (ps_for PassesOwn.never rfl (pi_range1 rfl mr (pa_cons (pe_call GA hr (by rfl) gA FA.kp bA .nil pass0 (pa_cons (pv 0) (pa_cons (pv 1) (pa_cons pe_int pa_nil)))) pa_nil)) (pg_name (i := 4) scW2.nd rfl (.inl rfl))
        (pss_cons (ps_set (i := 5) scW2.nd rfl (.inl rfl) (pe_ix ix_str (pv 2) (pe_call GA hr (by rfl) gA FA.kp bA .nil pass0 (pa_cons (pv 0) (pa_cons (pe_op op_add (pe_op op_add (pv 1) pe_int) (pv 4)) (pa_cons pe_int pa_nil)))) (fun _ _ => rfl)))
        (pss_cons (ps_if (PW.pt (pw_or (pt_cmpR op_lt (pe_call GA hr (by rfl) gA FA.kp bA .nil pass0 (pa_cons (pv 0) (pa_cons (pe_op op_add (pv 1) pe_int) (pa_cons pe_int pa_nil)))) pe_int (nomark _))
            (pw_or1 (PW.pt (pw_and (pt_cmpR op_eq (pe_call GA hr (by rfl) gA FA.kp bA .nil pass0 (pa_cons (pv 0) (pa_cons (pe_op op_add (pv 1) pe_int) (pa_cons pe_int pa_nil)))) pe_int (nomark _))
              (pw_and1 (pt_cmpR op_eq (pe_call GA hr (by rfl) gA FA.kp bA .nil pass0 (pa_cons (pv 0) (pa_cons (pe_op op_add (pe_op op_add (pv 1) pe_int) (pv 4)) (pa_cons pe_int pa_nil)))) pe_int (nomark _))))))))
            (pss_one (ps_set (i := 5) scW2.nd rfl (.inl rfl) (pe_upper (pv 5)))) pss_nil)
        (pss_one (ps_set (i := 3) scW2.nd rfl (.inl rfl) (pe_op op_add_str (pv 3) (pv 5)))))))
      (pss_cons (ps_if (pt_cmpR op_eq (pe_call GA hr (by rfl) gA FA.kp bA .nil pass0 (pa_cons (pv 0) (pa_cons (pe_op op_add (pv 1) pe_int) (pa_cons pe_int pa_nil)))) pe_int (nomark _))
          (pss_cons (ps_set (i := 6) scW2.nd rfl (.inl rfl) (pe_call GA hr (by rfl) gA FA.kp bA .nil pass0 (pa_cons (pv 0) (pa_cons (pv 1) (pa_cons (pe_op op_add (pe_callB call_len_str (by rfl) ml PySem.boot_len (pa_cons (pv 3) pa_nil)) pe_int) pa_nil)))))
          (pss_one (ps_set (i := 3) scW2.nd rfl (.inl rfl) (pe_op op_add_str (pe_op op_add_str (pe_slice sl_str (pv 3) po_none (po_some (pv 6))) (pe_ix ix_str pe_str (pe_call GA hr (by rfl) gA FA.kp bA .nil pass0 (pa_cons (pv 0) (pa_cons (pe_op op_add (pv 1) pe_int) (pa_cons pe_int pa_nil)))) (fun _ _ => rfl)))
            (pe_slice sl_str (pv 3) (po_some (pe_op op_add (pv 6) pe_int)) po_none))))) pss_nil)
      (pss_one (ps_ret (pv 3)))))), ?_⟩
    have b15 := atD_lo ds k (many := 15) (by decide)
    have c15 := atD_hi ds k (many := 15) (by decide)
    refine ⟨_, rfl, _, rfl, a, ds, k, 15, rfl, hS, h0, by decide, _, rfl, by omega, by omega, for_range (lo := 0) (n := (atD ds k 15).toNat)
      (fun i σ H' => H' = H ∧ ∃ (z : Str) (v4 v5 v6 : Option V), σ = [some (.ref a), some (.int k), some (.str smallS), some (.str z), v4, v5, v6] ∧ z.length ≤ 3 * i) ⟨rfl, ⟨#[]⟩, none, none, none, rfl, Nat.le_refl _⟩ ?_ ?_⟩
    · rintro i σ H' hi ⟨rfl, z, v4, v5, v6, rfl, hz⟩
      have hi15 : i < 15 := by omega
      obtain ⟨c, hc⟩ := atI_ok (xs := smallS.cps.toList) (atD_lo ds (k + 2 + (0 + (i : Int))) (many := 26) (by decide)) (atD_hi ds (k + 2 + (0 + (i : Int))) (many := 26) (by decide))
      have nn : 0 ≤ k + 2 + (0 + (i : Int)) := by omega
      have n1 : 0 ≤ k + 1 := by omega
      refine ⟨_, rfl, _, rfl, _, rfl, _, _, rfl, rfl, _, rfl, _, _, rfl, rfl, a, ds, _, _, rfl, hS, nn, by decide, _, _, c, rfl, rfl, (by decide +kernel), hc, ?_⟩
      have fin : ∀ y : Str, y.length ≤ 3 → (z ++ y).length ≤ 3 * (i + 1) ∧ z.length + y.length ≤ sizeLine := fun y hy => by
        rw [len_app]
        exact ⟨by omega, small_line (by omega)⟩
      have one : (⟨#[c]⟩ : Str).length ≤ 3 := by
        show 1 ≤ 3
        decide
      have up : (Txt.upper (⟨#[c]⟩ : Str)).length ≤ 3 := PyProof.Rows.len_upper (⟨#[c]⟩ : Str)
      have f1 := fin _ one
      have f2 := fin _ up
      refine ⟨_, rfl, _, rfl, _, _, rfl, rfl, a, ds, _, _, rfl, hS, n1, by decide, _, _, rfl, rfl, _, rfl, ite2 (fun _ => iteT ?_) (fun _ => ?_)⟩
      · exact ⟨_, rfl, ⟨_, rfl⟩, _, rfl, rfl, small_up one, _, rfl, _, rfl, _, _, rfl, rfl, f2.2, rfl, _, _, _, _, rfl, f2.1⟩
      · refine ⟨_, rfl, _, rfl, _, _, rfl, rfl, a, ds, _, _, rfl, hS, n1, by decide, rfl, _, rfl, ite2 (fun _ => ?_) (fun _ => iteF ?_)⟩
        · refine ⟨_, rfl, _, rfl, _, _, rfl, rfl, _, rfl, _, _, rfl, rfl, a, ds, _, _, rfl, hS, nn, by decide, rfl, _, rfl, ite2 (fun _ => ?_) (fun _ => ?_)⟩
          · exact ⟨_, rfl, ⟨_, rfl⟩, _, rfl, rfl, small_up one, _, rfl, _, rfl, _, _, rfl, rfl, f2.2, rfl, _, _, _, _, rfl, f2.1⟩
          · exact ⟨_, rfl, _, rfl, _, _, rfl, rfl, f1.2, rfl, _, _, _, _, rfl, f1.1⟩
        · exact ⟨_, rfl, _, rfl, _, _, rfl, rfl, f1.2, rfl, _, _, _, _, rfl, f1.1⟩
    · rintro σ H' ⟨rfl, z, v4, v5, v6, rfl, hz⟩
      have hz42 : z.length ≤ 42 := by omega
      have hzl : z.length ≤ sizeLine := small_line (by omega)
      have n1 : 0 ≤ k + 1 := by omega
      have n2 : 0 ≤ k + 2 := by omega
      refine ⟨_, rfl, _, rfl, _, _, rfl, rfl, a, ds, _, _, rfl, hS, n1, by decide, rfl, _, rfl, ite2 (fun _ => ?_) (fun _ => ?_)⟩
      · obtain ⟨c, hc⟩ := atI_ok (xs := oddS.cps.toList) (atD_lo ds (k + 2) (many := 11) (by decide)) (atD_hi ds (k + 2) (many := 11) (by decide))
        have one : (⟨#[c]⟩ : Str).length ≤ 1 := by
          exact Nat.le_refl 1
        have cut := fun lo hi => cutS_length z lo hi
        refine ⟨_, rfl, _, rfl, _, rfl, z, rfl, hzl, _, _, rfl, rfl, a, ds, k, _, rfl, hS, h0, by omega, ?_⟩
        refine ⟨_, rfl, _, rfl, _, rfl, z, rfl, hzl, _, rfl, _, rfl, _, _, rfl, rfl, a, ds, _, _, rfl, hS, n2, by decide, _, _, c, rfl, rfl, (by decide +kernel), hc, _, _, rfl, rfl, ?_, ?_⟩
        · have := cut none (some (atD ds k ((z.length : Int) + 1)))
          exact small_line (by omega)
        · refine ⟨_, rfl, _, rfl, _, _, rfl, rfl, _, rfl, z, rfl, hzl, _, _, rfl, rfl, ?_, ?_⟩
          · rw [len_app]
            have := cut none (some (atD ds k ((z.length : Int) + 1)))
            have := cut (some (atD ds k ((z.length : Int) + 1) + 1)) none
            exact small_line (by omega)
          · refine ⟨_, rfl, q _ ?_⟩
            rw [len_app, len_app]
            have := cut none (some (atD ds k ((z.length : Int) + 1)))
            have := cut (some (atD ds k ((z.length : Int) + 1) + 1)) none
            omega
      · exact ⟨_, rfl, q z (by omega)⟩
/-! ### words, two ways -/
theorem lt_one (a b : Nat) : (([a] : List Nat) < [b]) ↔ a < b := by
  simp [List.cons_lt_cons_iff]
def bigL : Str := "ABCDEFGHIJKLMNOPQRSTUVWXYZ"
def lowL : Str := "abcdefghijklmnopqrstuvwxyz"
theorem bigL_codes : bigL.cps.toList = [65, 66, 67, 68, 69, 70, 71, 72, 73, 74, 75, 76, 77, 78, 79, 80, 81, 82, 83, 84, 85, 86, 87, 88, 89, 90] := by decide +kernel
theorem lowL_codes : lowL.cps.toList = [97, 98, 99, 100, 101, 102, 103, 104, 105, 106, 107, 108, 109, 110, 111, 112, 113, 114, 115, 116, 117, 118, 119, 120, 121, 122] := by decide +kernel
theorem between_big (c : Nat) : Gc.between "A" "Z" c = decide (c ∈ bigL.cps.toList) := by
  unfold Gc.between
  rw [show ("A" : Str).cps.toList = [65] from by decide +kernel, show ("Z" : Str).cps.toList = [90] from by decide +kernel, bigL_codes]
  rw [Bool.eq_iff_iff]
  simp only [Bool.and_eq_true, Bool.not_eq_true', decide_eq_false_iff_not, decide_eq_true_eq, lt_one, List.mem_cons, List.not_mem_nil, or_false]
  omega
theorem between_low (c : Nat) : Gc.between "a" "z" c = decide (c ∈ lowL.cps.toList) := by
  unfold Gc.between
  rw [show ("a" : Str).cps.toList = [97] from by decide +kernel, show ("z" : Str).cps.toList = [122] from by decide +kernel, lowL_codes]
  rw [Bool.eq_iff_iff]
  simp only [Bool.and_eq_true, Bool.not_eq_true', decide_eq_false_iff_not, decide_eq_true_eq, lt_one, List.mem_cons, List.not_mem_nil, or_false]
  omega
theorem all_outs (l m : List Nat) (p : Nat → Bool) (hp : ∀ c, p c = decide (c ∈ m)) : l.all p = decide (V.int ((outs l m).length : Int) = V.int 0) := by
  rw [Bool.eq_iff_iff, List.all_eq_true, decide_eq_true_eq]
  have e : (V.int ((outs l m).length : Int) = V.int 0) ↔ outs l m = [] := by
    constructor
    · intro h
      have h2 : ((outs l m).length : Int) = 0 := V.int.inj h
      exact List.eq_nil_of_length_eq_zero (by omega)
    · intro h
      rw [h]
      rfl
  rw [e]
  unfold outs
  rw [List.filter_eq_nil_iff]
  constructor
  · intro h c hc
    have h2 := h c hc
    rw [hp] at h2
    rw [h2]
    simp
  · intro h c hc
    have h2 := h c hc
    rw [hp]
    simpa using h2
theorem word_big (z : Str) : wordB z "A" "Z" = allB z bigL := by
  unfold wordB allB
  rw [all_outs _ bigL.cps.toList _ between_big]
theorem word_low (z : Str) : wordB z "a" "z" = allB z lowL := by
  unfold wordB allB
  rw [all_outs _ lowL.cps.toList _ between_low]
/-! ### the law -/
theorem scL : FnScope ["script", "draws", "word", "others", "other", "kind", "name"] ["script"] (defScope sLaw) := ⟨rfl, rfl, rfl, by decide +kernel, rfl, by decide +kernel, by decide +kernel⟩
def spLaw (K : PySem.W.Frag) (T : Addr) : Sp := fun vs H Q _ => ∃ (a : Addr) (ns : List Int), vs = [.ref a] ∧ SqL K H a (ns.map V.int) ∧ ns.length ≤ 63 ∧ GxR.TabG H T ∧ ∀ H', Q (.bl true) H'
def wds (z : Str) : List Str := ["OTHER", "OTHE", "OTHERS", "other", "Other", "", z, Txt.upper z, cutS z none (some 12), cutS z none (some 13)]
theorem wds_len {z : Str} (hz : z.length ≤ 100) : ∀ u ∈ wds z, u.length ≤ 1000 := by
  intro u hu
  unfold wds at hu
  simp only [List.mem_cons, List.not_mem_nil, or_false] at hu
  have h1 := PyProof.Rows.len_upper z
  have h2 := cutS_length z none (some 12)
  have h3 := cutS_length z none (some 13)
  rcases hu with e | e | e | e | e | e | e | e | e | e <;> subst e
  · decide
  · decide
  · decide
  · decide
  · decide
  · decide
  · omega
  · have h4 : (Txt.upper z).length ≤ 3 * z.length := h1
    omega
  · omega
  · omega
theorem ok_law {f fD fW2 fK fN fA T : Addr} {fd fdD fdW2 fdK fdN fdA : FuncData} {k : Nat} (F : Fun K "law" "law" sLaw f fd)
    (GD : FnOk P w K mg base CX0 (k + 2) fD fdD ["script"] (spDraws K)) (kD : PySem.W.keepIn K (.ref fD) = true) (bD : Binds K fdD ["script"] []) (gD : mg "_law_draws" = some (.ref fD))
    (GW : FnOk P w K mg base CX0 (k + 2) fW2 fdW2 ["draws", "k"] (spWord2 K)) (kW : PySem.W.keepIn K (.ref fW2) = true) (bW : Binds K fdW2 ["draws", "k"] []) (gW : mg "_law_word" = some (.ref fW2))
    (GK : FnOk P w K mg base CX0 (k + 2) fK fdK ["text"] (spOne T kindB)) (kK : PySem.W.keepIn K (.ref fK) = true) (bK : Binds K fdK ["text"] []) (gK : mg "is_kind" = some (.ref fK))
    (GN : FnOk P w K mg base CX0 (k + 2) fN fdN ["text"] (spOne T nameB)) (kN : PySem.W.keepIn K (.ref fN) = true) (bN : Binds K fdN ["text"] []) (gN : mg "is_name" = some (.ref fN))
    (GA : FnOk P w K mg base CX0 (k + 2) fA fdA ["word", "letters"] spAll) (kA : PySem.W.keepIn K (.ref fA) = true) (bA : Binds K fdA ["word", "letters"] []) (gA : mg "_law_all" = some (.ref fA))
    (mi : mg "isinstance" = none) (mb : mg "bool" = none) : FnOk P w K mg base CX0 (k + 3) f fd ["script"] (spLaw K T) := by
  refine F.ok scL (fun vs H Q E h => ?_) (fun cdv A outer s H vs Q E hr h => ?_)
  · obtain ⟨a, ns, rfl, _⟩ := h
    rfl
  · obtain ⟨a, ns, rfl, hS, hlen, tg, q⟩ := h
    refine ⟨_, pss_cons (ps_set (i := 1) scL.nd rfl (.inl rfl) (pe_call GD hr (by rfl) gD kD bD .nil pass0 (pa_cons (pv 0) pa_nil)))
      (pss_cons (ps_set (i := 2) scL.nd rfl (.inl rfl) (pe_call GW hr (by rfl) gW kW bW .nil pass0 (pa_cons (pv 1) (pa_cons pe_int pa_nil))))
      (pss_cons (ps_set (i := 3) scL.nd rfl (.inl rfl) (pe_lst (pa_cons pe_str (pa_cons pe_str (pa_cons pe_str (pa_cons pe_str (pa_cons pe_str (pa_cons pe_str (pa_cons (pv 2) (pa_cons (pe_upper (pv 2)) (pa_cons (pe_slice sl_str (pv 2) po_none (po_some pe_int)) (pa_cons (pe_slice sl_str (pv 2) po_none (po_some pe_int)) pa_nil))))))))))))
      (pss_cons (ps_for PassesOwn.never rfl (pi_list (pv 3)) (pg_name (i := 4) scL.nd rfl (.inl rfl))
        (pss_cons (ps_set (i := 5) scL.nd rfl (.inl rfl) (pe_call GK hr (by rfl) gK kK bK .nil pass0 (pa_cons (pv 4) pa_nil)))
        (pss_cons (ps_set (i := 6) scL.nd rfl (.inl rfl) (pe_call GN hr (by rfl) gN kN bN .nil pass0 (pa_cons (pv 4) pa_nil)))
        (pss_cons (ps_if (PW.pt (pw_or (pt_not (pt_val (pe_callB call_isi (by rfl) mi (by decide +kernel) (pa_cons (pv 5) (pa_cons (pe_bltn (v := .ty "bool") (by rfl) mb (by decide +kernel) rfl) pa_nil)))))
            (pw_or1 (pt_not (pt_val (pe_callB call_isi (by rfl) mi (by decide +kernel) (pa_cons (pv 6) (pa_cons (pe_bltn (v := .ty "bool") (by rfl) mb (by decide +kernel) rfl) pa_nil)))))))) (pss_one (ps_ret pe_bl)) pss_nil)
        (pss_cons (ps_if (pt_cmpR op_ne (pv 5) (pe_and (pe_call GA hr (by rfl) gA kA bA .nil pass0 (pa_cons (pv 4) (pa_cons pe_str pa_nil))) (pe_one (pe_cmpR op_ne (pv 4) pe_str (nomark _)))) (nomark _)) (pss_one (ps_ret pe_bl)) pss_nil)
        (pss_one (ps_if (pt_cmpR op_ne (pv 6) (pe_call GA hr (by rfl) gA kA bA .nil pass0 (pa_cons (pv 4) (pa_cons pe_str pa_nil))) (nomark _)) (pss_one (ps_ret pe_bl)) pss_nil)))))))
      (pss_one (ps_ret pe_bl))))), ?_⟩
    refine ⟨_, rfl, a, ns, rfl, hS, hlen, fun o no => ?_⟩
    refine ⟨_, rfl, o, drawsOf ns, 1, rfl, SqL.of upd_same, by decide, fun z hz => ?_⟩
    refine ⟨_, rfl, _, rfl, ⟨_, rfl⟩, _, rfl, rfl, Nat.le_trans hz (by decide), _, rfl, _, rfl, z, rfl, small_line (by omega), _, rfl, _, rfl, z, rfl, small_line (by omega), (by show 10 ≤ sizeLine; decide), fun l nl => ?_⟩
    obtain ⟨ps, hT, htr⟩ := tg
    have nTo : T ≠ o := ne_of_none hT no
    have hT1 : upd H o (.lst ((drawsOf ns).map V.int)) T = some (.tbl ps) := by rw [upd_ne nTo]; exact hT
    have nTl : T ≠ l := ne_of_none hT1 nl
    refine ⟨_, rfl, l, rfl, ⟨_, SqL.of upd_same⟩, for_list (K := K) (a := l) (xs := (wds z).map V.str) (fun i σ H' => ∃ v4 v5 v6, σ = [some (.ref a), some (.ref o), some (.str z), some (.ref l), v4, v5, v6] ∧ GxR.TabG H' T ∧ H' l = some (.lst ((wds z).map V.str)))
      ⟨none, none, none, rfl, ⟨ps, by rw [upd_ne nTl]; exact hT1, htr⟩, upd_same⟩ (fun i σ H' _ ⟨_, _, _, _, _, h⟩ => SqL.of h) ?_ ?_⟩
    · rintro i y σ H1 hi ⟨v4, v5, v6, rfl, tg1, hl1⟩
      obtain ⟨u, hu, rfl⟩ : ∃ u, u ∈ wds z ∧ y = V.str u := by
        rw [List.getElem?_map] at hi
        cases e : (wds z)[i]? with
        | none =>
          rw [e] at hi
          cases hi
        | some u =>
          rw [e] at hi
          exact ⟨u, List.mem_of_getElem? e, (Option.some.inj hi).symm⟩
      have hul : u.length ≤ sizeLine := small_line (wds_len hz u hu)
      refine ⟨_, rfl, u, rfl, hul, tg1, fun H2 hT2 => ?_⟩
      refine ⟨_, rfl, u, rfl, hul, hT2.1, fun H3 hT3 => ?_⟩
      refine ⟨_, rfl, _, _, _, _, _, rfl, .ty "bool", .base (.bl _), kit_ty (r := true) (by decide +kernel), _, rfl, iteF ?_⟩
      refine ⟨_, rfl, _, _, _, _, _, rfl, .ty "bool", .base (.bl _), kit_ty (r := true) (by decide +kernel), _, rfl, iteF ?_⟩
      have hl3 : H3 l = some (.lst ((wds z).map V.str)) := by
        obtain ⟨p1, e1, _⟩ := tg1
        have n1 : l ≠ T := ne_of hl1 e1 (by intro q; cases q)
        rw [hT3.2 l n1, hT2.2 l n1]
        exact hl1
      have fin : ∀ H4 H5, Same H3 H4 → Same H4 H5 → GxR.TabG H5 T ∧ H5 l = some (.lst ((wds z).map V.str)) := fun H4 H5 s4 s5 => by
        obtain ⟨p1, e1, e2⟩ := hT3.1
        exact ⟨⟨p1, s5 _ _ (s4 _ _ e1), e2⟩, s5 _ _ (s4 _ _ hl3)⟩
      refine ⟨_, rfl, _, rfl, u, _, rfl, hul, fun H4 s4 => ⟨_, rfl, ite2 (fun c => ?_) (fun c => ?_)⟩⟩
      · have e : kindB u = !decide (V.str u = V.str "OTHER") := by
          unfold kindB
          rw [word_big, show allB u bigL = true from c, str_dec]
          rfl
        refine ⟨_, rfl, rfl, rfl, _, rfl, iteNS (by rw [e]) ?_⟩
        refine ⟨_, rfl, _, rfl, u, _, rfl, hul, fun H5 s5 => ⟨rfl, _, rfl, iteNS (by unfold nameB; rw [word_low]; rfl) ?_⟩⟩
        exact ⟨_, _, _, rfl, fin H4 H5 s4 s5⟩
      · have e : kindB u = false := by
          unfold kindB
          rw [word_big, show allB u bigL = false from Bool.eq_false_iff.mpr c]
          rfl
        refine ⟨rfl, _, rfl, iteNS (by rw [e]) ?_⟩
        refine ⟨_, rfl, _, rfl, u, _, rfl, hul, fun H5 s5 => ⟨rfl, _, rfl, iteNS (by unfold nameB; rw [word_low]; rfl) ?_⟩⟩
        exact ⟨_, _, _, rfl, fin H4 H5 s4 s5⟩
    · rintro σ H' ⟨v4, v5, v6, rfl, _, _⟩
      exact q H'
end
/-! ### the end: tables of the defs' code objects, told by their names -/
theorem walk_ofTT {l : PySem.W.OpenLaw} {n k : Nat} {q : Program} {loose : List Str} {XP : (Str → Option Value) → Heap → Prop} {YP : World → Heap → Prop} {d : PySem.DefRec} {K : Params → PySem.W.Frag} {CX : World → CXT} {x : Str}
    (hn : l.most = some n) (hn2 : n ≤ sizeLine) (hdf : d.params.defaults = []) (hr : Room k callerA) (hY : ∀ (w : World) (h : Heap), YP w h → (K w.params).In h)
    (F : ∀ (w : World) (mg : Str → Option Value) (fa : Addr) (h : Heap), YP w h → (K w.params).In h → h.Ns mainGlobals mg → mg d.name = some (.ref fa) →
      (∀ (y : Str) (d' : PySem.DefRec) (c T : Addr), (recsOf q).find? (fun e => e.name == y) = some d' → PySem.W.tabIn (K w.params) y = some (c, T) → PySem.W.CodeHd h c T ∧ h.get? T = some { cls := .none, data := .fields #[] }) → LamX.LawAtS l w (K w.params) (CX w) k n x mg fa h)
    (hCX : ∀ (w : World) (H : Hp) (s : Shared) (e : Value) (s' : Shared), CX w [] H s (fun _ _ _ => False) e s' → False) :
    PySem.W.WalkO q loose XP YP l.row.toRowW d [] (fun f vs => PySem.call f vs) := by
  refine Att.attach_callB hn hdf fun w s₀ s₁ mg mb fa o pm cd doc a vs ns G Y ho hd hcd hmg hobj hints hlen hbits hg => ?_
  have KX := hY w _ Y
  obtain ⟨fd, cs, sp, hT, nT, C, hb, hsp, hF⟩ := F w mg fa _ Y KX G.T.g hmg fun y d' c T hr ht => PySem.W.tab_of G.T KX hr ht
  exact LamX.law_callTs KX G.T.g G.T.b G.T.builtins G.T.nolimit hg hT nT C G.T.bmain hobj hints (Nat.le_trans hlen hn2) hr hF hb (fun H hH hS => hsp H a ns hlen hbits hH hS) fun H e s' => hCX w H s₁ e s'
theorem tab_mk {K : PySem.W.Frag} {x : Str} {f c T : Addr} {oc ec : Value} {od dd : Option Addr} {fd : FuncData} {sl sl2 : Array (Option Value)} {vs : Array Value} (a : PySem.W.nsIn K mainGlobals x = some (some (.ref f))) (l : K.lookup f = some ⟨oc, od, .func fd, sl⟩) (hc : fd.code = .ref c)
    (lc : K.lookup c = some ⟨ec, dd, .fields vs, sl2⟩) (hv : vs[11]? = some (.ref T)) : PySem.W.tabIn K x = some (c, T) := by
  unfold PySem.W.tabIn
  rw [a]
  simp only
  rw [l]
  simp only
  rw [hc]
  simp only
  rw [lc]
  simp only
  rw [hv]
theorem all_mk {l : PySem.W.OpenLaw} {w : World} {K : PySem.W.Frag} {h : Heap} {mg : Str → Option Value} {fa c T f2 f3 f4 f6 f7 f9 f10 f11 : Addr} (X : K.In h) (G : h.Ns mainGlobals mg) (hfa : mg "law" = some (.ref fa))
    (htab : ∀ (c T : Addr), PySem.W.tabIn K "_is_word" = some (c, T) → PySem.W.CodeHd h c T ∧ h.get? T = some { cls := .none, data := .fields #[] })
    {od2 an2 od3 an3 od4 an4 od6 an6 od7 an7 od9 an9 od10 an10 od11 an11 : Option Addr} {sl2 sl3 sl4 sl6 sl7 sl9 sl10 sl11 : Array (Option Value)}
    {oc2 kV2 dc2 pm2 cd2 ct2 oc3 kV3 dc3 pm3 cd3 ct3 oc4 kV4 dc4 pm4 ct4 oc6 kV6 dc6 pm6 cd6 ct6 oc7 kV7 dc7 pm7 cd7 ct7 oc9 kV9 dc9 pm9 cd9 ct9 oc10 kV10 dc10 pm10 cd10 ct10 oc11 kV11 dc11 pm11 cd11 ct11 : Value}
    (a2 : PySem.W.nsIn K mainGlobals "is_kind" = some (some (.ref f2))) (l2 : K.lookup f2 = some ⟨oc2, od2, .func (PySem.W.fnOf "is_kind" "is_kind" (defArgs sKind) (defBody sKind) (defScope sKind) .none kV2 dc2 pm2 an2 cd2 ct2), sl2⟩) (c2 : PySem.W.codeIn K cd2 "is_kind" = true) (k2 : PySem.W.keepIn K (.ref f2) = true)
    (a3 : PySem.W.nsIn K mainGlobals "is_name" = some (some (.ref f3))) (l3 : K.lookup f3 = some ⟨oc3, od3, .func (PySem.W.fnOf "is_name" "is_name" (defArgs sName) (defBody sName) (defScope sName) .none kV3 dc3 pm3 an3 cd3 ct3), sl3⟩) (c3 : PySem.W.codeIn K cd3 "is_name" = true) (k3 : PySem.W.keepIn K (.ref f3) = true)
    (a4 : PySem.W.nsIn K mainGlobals "_is_word" = some (some (.ref f4))) (l4 : K.lookup f4 = some ⟨oc4, od4, .func (PySem.W.fnOf "_is_word" "_is_word" (defArgs sWord) (defBody sWord) (defScope sWord) .none kV4 dc4 pm4 an4 (.ref c) ct4), sl4⟩) (c4 : PySem.W.codeIn K (.ref c) "_is_word" = true) (k4 : PySem.W.keepIn K (.ref f4) = true)
    {ec : Value} {dc : Option Addr} {vc : Array Value} {sc : Array (Option Value)} (lc : K.lookup c = some ⟨ec, dc, .fields vc, sc⟩) (hv : vc[11]? = some (.ref T)) (nT : K.lookup T = none)
    (a6 : PySem.W.nsIn K mainGlobals "_law_draws" = some (some (.ref f6))) (l6 : K.lookup f6 = some ⟨oc6, od6, .func (PySem.W.fnOf "_law_draws" "_law_draws" (defArgs sDraws) (defBody sDraws) (defScope sDraws) .none kV6 dc6 pm6 an6 cd6 ct6), sl6⟩) (c6 : PySem.W.codeIn K cd6 "_law_draws" = true) (k6 : PySem.W.keepIn K (.ref f6) = true)
    (a7 : PySem.W.nsIn K mainGlobals "_law_at" = some (some (.ref f7))) (l7 : K.lookup f7 = some ⟨oc7, od7, .func (PySem.W.fnOf "_law_at" "_law_at" (defArgs sAt) (defBody sAt) (defScope sAt) .none kV7 dc7 pm7 an7 cd7 ct7), sl7⟩) (c7 : PySem.W.codeIn K cd7 "_law_at" = true) (k7 : PySem.W.keepIn K (.ref f7) = true)
    (a9 : PySem.W.nsIn K mainGlobals "_law_word" = some (some (.ref f9))) (l9 : K.lookup f9 = some ⟨oc9, od9, .func (PySem.W.fnOf "_law_word" "_law_word" (defArgs sWord2) (defBody sWord2) (defScope sWord2) .none kV9 dc9 pm9 an9 cd9 ct9), sl9⟩) (c9 : PySem.W.codeIn K cd9 "_law_word" = true) (k9 : PySem.W.keepIn K (.ref f9) = true)
    (a10 : PySem.W.nsIn K mainGlobals "_law_all" = some (some (.ref f10))) (l10 : K.lookup f10 = some ⟨oc10, od10, .func (PySem.W.fnOf "_law_all" "_law_all" (defArgs sAll) (defBody sAll) (defScope sAll) .none kV10 dc10 pm10 an10 cd10 ct10), sl10⟩) (c10 : PySem.W.codeIn K cd10 "_law_all" = true) (k10 : PySem.W.keepIn K (.ref f10) = true)
    (a11 : PySem.W.nsIn K mainGlobals "law" = some (some (.ref f11))) (l11 : K.lookup f11 = some ⟨oc11, od11, .func (PySem.W.fnOf "law" "law" (defArgs sLaw) (defBody sLaw) (defScope sLaw) .none kV11 dc11 pm11 an11 cd11 ct11), sl11⟩) (c11 : PySem.W.codeIn K cd11 "law" = true) (k11 : PySem.W.keepIn K (.ref f11) = true)
    {tk : Tok} (vM : PySem.W.nsIn K mainGlobals "MOST_LETTERS" = some (some (.int 12 tk)))
    (z1 : PySem.W.nsIn K mainGlobals "len" = some none) (z2 : PySem.W.nsIn K mainGlobals "all" = some none) (z3 : PySem.W.nsIn K mainGlobals "range" = some none) (z4 : PySem.W.nsIn K mainGlobals "min" = some none) (z5 : PySem.W.nsIn K mainGlobals "abs" = some none) (z6 : PySem.W.nsIn K mainGlobals "int" = some none)
    (z7 : PySem.W.nsIn K mainGlobals "isinstance" = some none) (z8 : PySem.W.nsIn K mainGlobals "bool" = some none) :
    LamX.LawAtS l w K CX0 3 63 "script" mg fa h := by
  obtain ⟨hC, hT⟩ := htab c T (tab_mk a4 l4 rfl lc hv)
  have e := hfa.symm.trans (PySem.W.mg_of X G a11)
  cases e
  have m := fun {x : Str} (z : PySem.W.nsIn K mainGlobals x = some none) => PySem.W.mg_none_of X G z
  have F2 := fun_mk (st := sKind) l2 c2 k2
  have F3 := fun_mk (st := sName) l3 c3 k3
  have F4 := fun_mk (st := sWord) l4 c4 k4
  have F6 := fun_mk (st := sDraws) l6 c6 k6
  have F7 := fun_mk (st := sAt) l7 c7 k7
  have F9 := fun_mk (st := sWord2) l9 c9 k9
  have F10 := fun_mk (st := sAll) l10 c10 k10
  have F11 := fun_mk (st := sLaw) l11 c11 k11
  have b2 := F2.binds (ps := ["text"]) fun _ _ _ _ _ _ us hl => match us, hl with | [_], _ => rfl
  have b3 := F3.binds (ps := ["text"]) fun _ _ _ _ _ _ us hl => match us, hl with | [_], _ => rfl
  have b4 := F4.binds (ps := ["text", "first", "last"]) fun _ _ _ _ _ _ us hl => match us, hl with | [_, _, _], _ => rfl
  have b6 := F6.binds (ps := ["script"]) fun _ _ _ _ _ _ us hl => match us, hl with | [_], _ => rfl
  have b7 := F7.binds (ps := ["draws", "k", "many"]) fun _ _ _ _ _ _ us hl => match us, hl with | [_, _, _], _ => rfl
  have b9 := F9.binds (ps := ["draws", "k"]) fun _ _ _ _ _ _ us hl => match us, hl with | [_, _], _ => rfl
  have b10 := F10.binds (ps := ["word", "letters"]) fun _ _ _ _ _ _ us hl => match us, hl with | [_, _], _ => rfl
  refine ⟨PySem.W.fnOf "law" "law" (defArgs sLaw) (defBody sLaw) (defScope sLaw) .none kV11 dc11 pm11 an11 cd11 ct11, [(c, T)], spLaw K T, fun p hp => ?_, fun p hp => ?_, fun p hp => ?_, fun s v => .of_eq rfl, fun H a ns hl _ hH hS => ⟨a, ns, rfl, hS, hl, ⟨#[], hH (c, T) (by simp), True.intro⟩, fun _ => rfl⟩, fun base hK hN hTB => ?_⟩
  · obtain rfl := List.mem_singleton.mp hp
    exact hT
  · obtain rfl := List.mem_singleton.mp hp
    exact nT
  · obtain rfl := List.mem_singleton.mp hp
    exact hC
  · have tb := hTB (c, T) (by simp)
    have TB : GxR.TabB base mg c T := ⟨tb.code, tb.bm, tb.gP⟩
    have G4 : ∀ {k : Nat}, FnOk l.prog w K mg base CX0 (k + 1) f4 _ ["text", "first", "last"] (spWord T) := ok_word F4 rfl TB (m z1) (m z2) (PySem.W.mg_of X G vM)
    have G7 : FnOk l.prog w K mg base CX0 1 f7 _ ["draws", "k", "many"] (spAt K) := ok_at F7 (m z1) (m z6)
    exact ok_law (k := 0) F11 (ok_draws F6 (m z3) (m z4) (m z1) (m z5) (m z6)) k6 b6 (PySem.W.mg_of X G a6)
      (ok_word2 F9 F7 G7 b7 (PySem.W.mg_of X G a7) (m z3) (m z1)) k9 b9 (PySem.W.mg_of X G a9)
      (ok_kind F2 F4 G4 b4 (PySem.W.mg_of X G a4)) k2 b2 (PySem.W.mg_of X G a2)
      (ok_name F3 F4 G4 b4 (PySem.W.mg_of X G a4)) k3 b3 (PySem.W.mg_of X G a3)
      (ok_all F10 (m z1)) k10 b10 (PySem.W.mg_of X G a10) (m z7) (m z8)
end Ld
open PySem PySem.W PyProof.Rows
set_option maxRecDepth 100000 in
set_option maxHeartbeats 0 in
theorem PySem.Challenge.cw_leastmend_k00_kinds_and_names_holds : PySem.Challenge.rw_leastmend_k00_kinds_and_names.Holds := by
  w_on; o_law; k_head; (case hw => w_witness2)
  k_fill
  refine Ld.walk_ofTT (l := PySem.Challenge.rw_leastmend_k00_kinds_and_names) (n := 63) (k := 3) (x := "script") (CX := fun _ => L2.CX0) rfl (by decide) rfl ⟨rfl, by decide, by decide⟩ (fun w h Y => PySem.W.kIn_of Y) ?F (fun _ _ _ _ _ h => h)
  case F =>
    intro w mg fa h Y KX G hmg htab
    refine' Ld.all_mk KX G hmg (fun c T => htab "_is_word" _ c T (by rfl)) ?a2 ?l2 ?c2 ?k2 ?a3 ?l3 ?c3 ?k3 ?a4 ?l4 ?c4 ?k4 ?lc ?hv ?nT ?a6 ?l6 ?c6 ?k6 ?a7 ?l7 ?c7 ?k7 ?a9 ?l9 ?c9 ?k9 ?a10 ?l10 ?c10 ?k10 ?a11 ?l11 ?c11 ?k11 ?vM ?z1 ?z2 ?z3 ?z4 ?z5 ?z6 ?z7 ?z8
    (case a2 => k_is); (case l2 => k_is); (case c2 => k_is); (case k2 => k_is)
    (case a3 => k_is); (case l3 => k_is); (case c3 => k_is); (case k3 => k_is)
    (case a4 => k_is); (case l4 => k_is); (case c4 => k_is); (case k4 => k_is)
    (case lc => k_is); (case hv => rfl); (case nT => first | kernel_rfl | rfl)
    (case a6 => k_is); (case l6 => k_is); (case c6 => k_is); (case k6 => k_is)
    (case a7 => k_is); (case l7 => k_is); (case c7 => k_is); (case k7 => k_is)
    (case a9 => k_is); (case l9 => k_is); (case c9 => k_is); (case k9 => k_is)
    (case a10 => k_is); (case l10 => k_is); (case c10 => k_is); (case k10 => k_is)
    (case a11 => k_is); (case l11 => k_is); (case c11 => k_is); (case k11 => k_is)
    (case vM => k_is)
    (case z1 => k_is); (case z2 => k_is); (case z3 => k_is); (case z4 => k_is); (case z5 => k_is); (case z6 => k_is); (case z7 => k_is); (case z8 => k_is)
