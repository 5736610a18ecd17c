import PyProof.Rows.All
import Wide.All
import OpenK.AllK
import Wide.FinOn
import HandS.ForMost
import HandS.AnyAll
import HandS.Walk
import HandS.IsInst
import HandS.EndTab
import HandS.Deep
import HandS.GenOver
import HandS.GenList
import HandS.ForExc
import HandS.ExcInit
import HandS.ExcIs
import HandS.TryMany
import HandS.ExcField
import HandS.CallSlots
import PySem.Challenge.RW_leastmend_k01_texts_of_grammars
set_option Elab.async false
set_option linter.all false
set_option maxRecDepth 100000
set_option maxHeartbeats 4000000
/-! all(test for x in e): any thing that is walked, any test that leaves the heap's objects as they stand; the test may read what the def holds. -/
namespace Gc
open PySem PySem.Spec PyProof.Rows L2 GxR
/-- the code object of the inner block, found in the table or made and entered there: one end for both -/
theorem code_either {M : Model} {A : Around} {E : Value → Shared → Prop} {s : Shared} {env : Env} {c P : Addr} {ps : Array Value} {gp : Pos} {qn : Str} {scope : Scope} {Q : Value → Shared → Prop}
    (hc : env.code = .ref c) (C : PySem.W.CodeHd s.heap c P) (tab : s.heap.get? P = some { cls := .none, data := .fields ps }) (ok : TriplesOk ps.toList)
    (go : ∀ (code : Value) (h3 : Heap) (tk : Nat) (more : Array Value), Heap.ExtBut P s.heap h3 → s.heap.objs.size ≤ h3.objs.size → h3.get? P = some { cls := .none, data := .fields (ps ++ more) } → TriplesOk (ps ++ more).toList → Q code { s with heap := h3, toks := tk }) :
    wpAny M A (genexprCode env gp qn scope) Q E s := by
  cases found : codeAmong gp ps.toList with
  | some cv =>
    have q := go cv s.heap s.toks #[] (Heap.ExtBut.refl _ _) (Nat.le_refl _) (by rw [Array.append_empty]; exact tab) (by rw [Array.append_empty]; exact ok)
    exact wpAny_genexprCode_hit hc (C.code tab ok) found q
  | none =>
    refine wpAny_genexprCodeX hc (C.code tab ok) (C.tab tab) found fun c' h3 tk ext big small made _ entered _ => ?_
    obtain ⟨_, _, _, _, _, _, _, _, _, _, _, _, _, _, _, _, _, _, _, ok3, _⟩ := made
    exact go (.ref c') h3 tk _ ext (Nat.le_of_lt (Nat.lt_of_le_of_lt big small)) entered.2 ok3
/-- what is walked: xv in the heap h1 gives n items, the i-th under Pf i; its iterator is the next new object; it reads nothing of the table at P -/
def SrcOk (prog : Program) (w : World) (h1 : Heap) (P : Addr) (xv : Value) (n : Nat) (Pf : Nat → Value → Prop) : Prop :=
  ∃ fp : List Addr, (∀ b ∈ fp, b ≤ h1.objs.size) ∧ P ∉ fp ∧
    ∀ (A : Around) (E : Value → Shared → Prop) (s : Shared) (Q : Value → Shared → Prop), s.heap = h1 →
      (∀ (o : Obj) (St : Nat → Heap → Prop), (∀ A' : Around, A'.handled = none → Walks prog w A' h1.objs.size fp [h1.objs.size] n Pf St) → St 0 (h1.push o) → Q (.ref h1.objs.size) { s with heap := h1.push o }) → wpAny (model prog w) A (pyIter xv) Q E s
/-- the environment in which the inner block runs -/
abbrev blkEnv (X : Cx) (scope : Scope) (C : Addr) (code : Value) : Env := genEnv scope (cloFrom X.env.cells scope.names []) C code builtinsNs X.env
/-- the test: of an item under Pf i it gives pb i, wherever all that stood in h1 (but the table at P) stands -/
def EltG (X : Cx) (scope : Scope) (x : Str) (elt : Expr) (P : Addr) (h1 : Heap) (Pf : Nat → Value → Prop) (pb : Nat → Bool) : Prop :=
  ∀ (C : Addr) (code : Value) (A' : Around) (E' : Value → Shared → Prop) (i : Nat) (v : Value) (s₂ : Shared) (m₂ : Str → Option Value), A'.handled = none → A'.depth ≤ X.A.depth + 1 → A'.units ≤ X.A.units + 8 → Pf i v →
    (∀ b o, b ≠ P → h1.get? b = some o → s₂.heap.get? b = some o) → s₂.heap.Ns C m₂ → m₂ x = some v →
    wpAny (model X.prog X.w) A' (eval elt (blkEnv X scope C code)) (fun y s₃ => y = .bool (pb i) ∧ Keeps s₂ s₃) E' s₂
/-- the block's own scope, over the def's scope sc -/
structure GenSc (sc scope : Scope) (x : Str) : Prop where
  kind : scope.kind = .function
  co : scope.isCoroutine = false
  cell : ∀ y ∈ scope.names, y.2 ≠ .cell
  dot : scope.names.lookup (".0" : Str) = some NameKind.local
  loc : scope.names.lookup x = some .local
  free : ∀ y ∈ scope.names, y.2 = .free → sc.names.lookup y.1 = some .cell
section
variable {X : Cx}
/-- all(test for x in e) -/
def tAllG (X : Cx) (scope : Scope) (x : Str) (elt : Expr) (P : Addr) (te : TE) : TE := fun σ H Q => te σ H fun v H1 => ∃ (n : Nat) (Pf : Nat → Value → Prop) (pb : Nat → Bool),
  (∀ (pins : List (Addr × Obj)) (s1 : Shared) (xv : Value), Inv X pins σ H1 s1 → RelV v xv → SrcOk X.prog X.w s1.heap P xv n Pf ∧ EltG X scope x elt P s1.heap Pf pb) ∧ TabG H1 P ∧ ∀ H2, Tabbed P H1 H2 → Q (.bl ((List.range n).all pb)) H2
theorem pe_allG {c P : Addr} {elt iter : Expr} {x : Str} {px p pos gpos : Pos} {scope : Scope} {te : TE} {k : Nat}
    (hr : Room k X.A) (hg : Gl X "all") (hm : X.mg "all" = none) (hb : bootBuiltins "all" = some (.builtin "all")) (TB : TabB X.base X.mg c P) (hcode : X.env.code = .ref c) (S : GenSc X.env.scope scope x) (hi : PE X iter te)
    (hs : ∀ v, genFold iter X.env v = pure v)
    (he : starEach [.GeneratorExp elt [⟨.Name x px, iter, [], 0⟩] scope gpos] X.env = (false, eval (.GeneratorExp elt [⟨.Name x px, iter, [], 0⟩] scope gpos) X.env) :: starEach [] X.env := by rfl) :
    PE X (.Call (.Name "all" p) [.GeneratorExp elt [⟨.Name x px, iter, [], 0⟩] scope gpos] [] pos) (tAllG X scope x elt P te) := by
  refine ⟨fun pins s σ H Q I h => ?_⟩
  have has : ∀ y ∈ scope.names, y.2 = .free → ∃ a, X.env.cells.lookup y.1 = some a := fun y hy e => I.ok.has _ (.inl (S.free y hy e))
  refine wpAny_Call_Name_kw (ld_blt I hg hm hb ?_)
  refine PyProof.Rows.callWith_builtin1 ?_ he (by rfl)
  rw [he]
  show wpAny _ _ (spliced (_ :: backTo pos (starEach [] X.env))) _ _ _
  refine Calls.spliced_cons ?_
  refine wpAny_GeneratorExp_walksQD hr.hd S.co (closure_ok has) S.cell S.dot S.loc S.kind (by have := hr.dp; omega) ?_ hs
  refine thn (hi.run pins s σ H _ I h) fun xv s1 hv => ?_
  obtain ⟨v, H1, J, rv, n, Pf, pb, sem, ⟨ps, hP, trip⟩, fin⟩ := hv
  obtain ⟨⟨fp, below, apart, begins⟩, test⟩ := sem pins s1 xv J rv
  refine begins _ _ s1 _ rfl fun o St W at0 => ⟨J.nolimit.push o, ?_⟩
  have tab1 : s1.heap.get? P = some { cls := .none, data := .fields ps } := J.hok P _ hP
  have tabLt : P < s1.heap.objs.size := Heap.lt_size tab1
  have tab2 := Heap.get?_push_of_some o tab1
  have big2 : (s1.heap.push o).objs.size = s1.heap.objs.size + 1 := Heap.size_push ..
  refine code_either hcode (TB.code.keeps fun b u e => Heap.get?_push_of_some _ (J.bk b u e)) tab2 trip fun code h3 tk more ext big tab3 trip3 => ?_
  -- what stood in s1 stands in h3, the table grown
  have stands : ∀ b u, b ≠ P → s1.heap.get? b = some u → h3.get? b = some u := fun b u ne e => ext b u ne (Heap.get?_push_of_some _ e)
  obtain ⟨statLt, statNe⟩ : cStatics < s1.heap.objs.size ∧ cStatics ≠ P := by
    obtain ⟨mc, ns, _⟩ := J.nolimit
    refine ⟨ns.lt, fun z => ?_⟩
    obtain ⟨o1, es, ep, ho, hd, _⟩ := ns
    rw [z, tab1] at ho
    cases ho
    cases hd
  obtain ⟨bm, ob, b1, b2, b3, b4, b5, b6, b7, b8⟩ := TB.bm
  have globs : h3.Ns X.env.globals X.mg := by
    rw [J.ok.glob]
    exact ((J.mod.glob.keeps J.bk).push o).extBut ext TB.gP
  refine wpAny_builtinsFor globs b1 b2 (stands _ _ b4 (J.bk _ _ b5)) b6 b7 b8 ?_
  have newLt : s1.heap.objs.size < h3.objs.size := by
    have big' : (s1.heap.push o).objs.size ≤ h3.objs.size := big
    omega
  refine ⟨s1.heap.objs.size, fp, [s1.heap.objs.size], n, Pf, St, (fun _ => true), (fun i y => y = .bool (pb i)), rfl, W, ?_, fun b hb => ?_, (J.nolimit.push o).extBut ext statNe, fun z => ?_, fun href up => ?_, ?_⟩
  · exact (W X.A hr.hd).frame _ _ _ at0 fun b hb u e => ext b u (fun z => apart (by rw [← z]; exact hb)) e
  · exact Nat.lt_of_le_of_lt (below b hb) newLt
  · exact Nat.ne_of_lt statLt (List.mem_singleton.mp z)
  · refine ⟨fun A' E' i v s₂ m₂ _ _ _ _ _ _ _ => ?_, fun A' E' i v s₂ m₂ h1 h2 h3' hv _ hn hx old => ?_⟩
    · rw [List.forIn_nil]
      exact wpAny_pure ⟨rfl, keeps_refl _⟩
    · refine test _ _ A' E' i v s₂ m₂ h1 h2 h3' hv (fun b u ne e => ?_) hn hx
      have lt := Heap.lt_size e
      refine old b (List.mem_range.mpr (Nat.lt_trans lt newLt)) (fun z => ?_) u (up _ _ (stands b u ne e))
      exact Nat.ne_of_lt lt (List.mem_singleton.mp z)
  · intro g h5 tk5 gs bare gBig gLast up5 WG atG
    rw [GxR.passing_true, List.length_range] at WG
    refine Calls.spliced_nil (call_all_walkS (WG.in4_1.self 0 _ _ _ atG ⟨g, _, _, _, n, _, _, pb, rfl, WG.in4_1, atG, fun j y sj Qj Ej item q => ?_, fun s' mv => ?_⟩))
    · obtain ⟨i, at_, rfl⟩ := item
      obtain ⟨_, ij⟩ := List.getElem?_eq_some_iff.mp at_
      rw [List.getElem_range] at ij
      rw [← ij]
      exact wpAny_truthy_bool q
    · -- behind the walk: the table has grown, all else stands
      have off : ∀ b u, s1.heap.get? b = some u → b ∉ h3.objs.size :: [s1.heap.objs.size] := fun b u e hb => by
        have lt := Heap.lt_size e
        rcases List.mem_cons.mp hb with z | z
        · exact Nat.lt_irrefl _ (Nat.lt_trans (by rw [← z]; exact lt) newLt)
        · exact Nat.ne_of_lt lt (List.mem_singleton.mp z)
      have K := inv_tab (more := more) (h' := s'.heap) (g' := s'.gens) (d' := s'.drawn) (t' := s'.toks) J hP (fun b u ne e => mv.heap b u (off b u e) (up5 b u (stands b u ne e)))
        (mv.heap P _ (off P _ tab1) (up5 P _ tab3)) (AllBare.movedS (J.bare.push bare) mv)
      rw [sh_eta s1 s' mv.os] at K
      exact ⟨.bl _, _, K, rfl, fin _ ⟨⟨ps ++ more, upd_same, trip3⟩, fun b ne => upd_ne ne⟩⟩
end
/-! ### captured names -/
theorem mem_of_lookup {α : Type} {n : Str} {c : α} : ∀ {l : List (Str × α)}, l.lookup n = some c → (n, c) ∈ l
  | (k, v) :: r, h => by
    rw [List.lookup_cons] at h
    by_cases e : n = k
    · have e' : (n == k) = true := by rw [e]; simp
      rw [e'] at h
      cases h
      rw [e]
      exact List.mem_cons_self
    · rw [beq_eq_false_iff_ne.mpr e] at h
      exact List.mem_cons_of_mem _ (mem_of_lookup h)
theorem cap_lookup {cells : List (Str × Addr)} {names : List (Str × NameKind)} {n : Str} {c : Addr} (hm : (n, NameKind.free) ∈ names) (hc : cells.lookup n = some c) : (cloFrom cells names []).lookup n = some c := by
  obtain ⟨d, hd⟩ := mem_lookup (cloFrom_has (acc := []) (cells := cells) hm)
  rcases cloFrom_mem (mem_of_lookup hd) with z | ⟨_, z⟩
  · cases z
  · rw [hd, z, hc]
    rfl
section
variable {X : Cx} {pins : List (Addr × Obj)} {σ : L2.St} {H : Hp} {s : Shared}
/-- the def's name y, captured, in slot i: what the block reads of it, wherever all that stood stands -/
theorem captured {scope : Scope} {y : Str} {i : Nat} {v : V} {P : Addr} {ps : Array Value} (I : Inv X pins σ H s) (hP : H P = some (.tbl ps)) (hc : X.env.scope.names.lookup y = some .cell) (hf : (y, NameKind.free) ∈ scope.names) (hN : X.N[i]? = some y) (hv : σ[i]? = some (some v)) :
    ∃ a u, (cloFrom X.env.cells scope.names []).lookup y = some a ∧ RelV v u ∧ ∀ h : Heap, (∀ b o, b ≠ P → s.heap.get? b = some o → h.get? b = some o) → h.IsCell a (some u) := by
  obtain ⟨m, _, hl⟩ := I.loc
  obtain ⟨u, ru, l⟩ := hl i y v hN hv (.inr (.inl hc))
  rcases l with ⟨k, _⟩ | ⟨_, a, ha, o, ho, hd⟩
  · have k' : X.env.scope.names.lookup y = some NameKind.local := k
    rw [hc] at k'
    cases k'
  · refine ⟨a, u, cap_lookup hf ha, ru, fun h up => ⟨o, up a o (fun z => ?_) ho, hd⟩⟩
    have t : s.heap.get? P = some { cls := .none, data := .fields ps } := I.hok P _ hP
    rw [z, t] at ho
    cases ho
    cases hd
/-- a text, sign by sign -/
theorem src_str {P : Addr} {ps : Array Value} {z : Str} {t : Tok} (I : Inv X pins σ H s) (hP : H P = some (.tbl ps)) : SrcOk X.prog X.w s.heap P (.str z t) z.cps.size (SignAt z) := by
  have tab : s.heap.get? P = some { cls := .none, data := .fields ps } := I.hok P _ hP
  refine ⟨[s.heap.objs.size], fun b hb => Nat.le_of_eq (List.mem_singleton.mp hb), fun hb => ?_, fun A E s2 Q e q => ?_⟩
  · exact Nat.ne_of_lt (Heap.lt_size tab) (List.mem_singleton.mp hb)
  · obtain ⟨h2, g2, d2, t2, o2⟩ := s2
    obtain rfl : h2 = s.heap := e
    exact wpAny_pyIter_str fun o St W at0 => q o St W at0
theorem walks_weaker {prog : Program} {w : World} {A : Around} {I : Addr} {fp wr : List Addr} {n : Nat} {Pf Pg : Nat → Value → Prop} {St : Nat → Heap → Prop} (W : Walks prog w A I fp wr n Pf St) (f : ∀ i v, Pf i v → Pg i v) : Walks prog w A I fp wr n Pg St :=
  ⟨W.sub, W.frame, fun i s Q E hi st q => W.item i s Q E hi st fun v h' tk y => q v h' tk (f i v y), W.done, W.self⟩
/-- a list -/
theorem src_lst {P l : Addr} {ps : Array Value} {xs : List V} (I : Inv X pins σ H s) (hP : H P = some (.tbl ps)) (hl : SqL X.K H l xs) : SrcOk X.prog X.w s.heap P (.ref l) xs.length (fun i v => ∃ x, xs[i]? = some x ∧ RelV x v) := by
  have tab : s.heap.get? P = some { cls := .none, data := .fields ps } := I.hok P _ hP
  obtain ⟨its, rv, pl, _⟩ := I.list hl
  have lst := pl.isList
  have len : its.toArray.size = xs.length := by rw [List.size_toArray, rv.length]
  have lt : l < s.heap.objs.size := by
    obtain ⟨_, e, _⟩ := _root_.id lst
    exact Heap.lt_size e
  refine ⟨[s.heap.objs.size, l], fun b hb => ?_, fun hb => ?_, fun A E s2 Q e q => ?_⟩
  rotate_left 2
  · obtain ⟨h2, g2, d2, t2, o2⟩ := s2
    obtain rfl : h2 = s.heap := e
    refine wpAny_pyIter_list lst (q _ (fun i h => h.IsListIter s.heap.objs.size l i ∧ h.IsList l its.toArray) (fun A' hA => ?_) ⟨⟨_, Heap.get?_push_size _ rfl, rfl, rfl⟩, lst.push _⟩)
    have W := Walks.list (prog := X.prog) (w := X.w) hA s.heap.objs.size l (Nat.ne_of_lt lt) its.toArray
    rw [len] at W
    refine walks_weaker W fun i v e => ?_
    have e' : its[i]? = some v := by simpa using e
    have hi : i < its.length := (List.getElem?_eq_some_iff.mp e').1
    have hi2 : i < xs.length := by rw [rv.length]; exact hi
    obtain ⟨u, hu, ru⟩ := rv.get (List.getElem?_eq_getElem hi2)
    rw [e'] at hu
    cases hu
    exact ⟨xs[i], List.getElem?_eq_getElem hi2, ru⟩
  · rcases List.mem_cons.mp hb with z | z
    · exact Nat.le_of_eq z
    · rw [List.mem_singleton.mp z]
      exact Nat.le_of_lt lt
  · rcases List.mem_cons.mp hb with z | z
    · exact Nat.ne_of_lt (Heap.lt_size tab) z
    · have z' := List.mem_singleton.mp z
      obtain ⟨o1, e1, _, _, d1⟩ := _root_.id lst
      rw [← z', tab] at e1
      cases e1
      cases d1
end
/-! ### «lo <= x <= hi», lo and hi captured texts -/
def between (lo hi : Str) (c : Nat) : Bool := !(decide ([c] < lo.cps.toList)) && !(decide (hi.cps.toList < [c]))
theorem elt_between {X : Cx} {pins : List (Addr × Obj)} {σ : L2.St} {H : Hp} {s : Shared} {scope : Scope} {x lo hi : Str} {z zl zh : Str} {P : Addr} {ps : Array Value} {i j : Nat} {p1 p2 p3 p4 : Pos} (I : Inv X pins σ H s) (hP : H P = some (.tbl ps))
    (hk : scope.kind = .function) (hl : scope.names.lookup x = some .local) (h1 : scope.names.lookup lo = some .free) (h2 : scope.names.lookup hi = some .free)
    (c1 : X.env.scope.names.lookup lo = some .cell) (c2 : X.env.scope.names.lookup hi = some .cell) (n1 : X.N[i]? = some lo) (n2 : X.N[j]? = some hi) (v1 : σ[i]? = some (some (.str zl))) (v2 : σ[j]? = some (some (.str zh)))
    (d0 : (x == ("__debug__" : Str)) = false := by decide) (d1 : (lo == ("__debug__" : Str)) = false := by decide) (d2 : (hi == ("__debug__" : Str)) = false := by decide) (e1 : (lo == ("__classdict__" : Str)) = false := by decide) (e2 : (hi == ("__classdict__" : Str)) = false := by decide) :
    EltG X scope x (.Compare (.Name lo p1) [.LtE, .LtE] [.Name x p2, .Name hi p3] p4) P s.heap (SignAt z) (fun k => between zl zh (z.cps.getD k 0)) := by
  obtain ⟨a, u, la, ru, ca⟩ := captured (scope := scope) I hP c1 (mem_of_lookup h1) n1 v1
  obtain ⟨b, v, lb, rv, cb⟩ := captured (scope := scope) I hP c2 (mem_of_lookup h2) n2 v2
  obtain ⟨ta, rfl⟩ := ru
  obtain ⟨tb, rfl⟩ := rv
  intro C code A' E' k item s₂ m₂ _ _ _ sign old ns hx
  obtain ⟨cc, tc, hcc, rfl⟩ := sign
  have gd : z.cps.getD k 0 = cc := by
    rw [Array.getD_eq_getD_getElem?, hcc]
    rfl
  refine Compare_chain ?_ (by with_unfolding_all rfl)
  refine wpAny_Name (wpAny_loadName_free hk (show scope.names.lookup lo = some .free from h1) la (ca _ old) ?_ e1) d1
  refine chain_link (wpAny_Name (wpAny_loadName_local hk (show scope.names.lookup x = some .local from hl) ns hx ?_) d0)
  refine PySem.P.le_str (wpAny_truthy_bool ?_)
  show (if (!decide (([cc] : List Nat) < zl.cps.toList)) = true then _ else _)
  by_cases q : ([cc] : List Nat) < zl.cps.toList
  · rw [decide_eq_true q]
    refine ite_ff ⟨?_, keeps_refl _⟩
    show _ = Value.bool (between zl zh (z.cps.getD k 0))
    rw [gd]
    unfold between
    rw [decide_eq_true q]
    rfl
  · rw [decide_eq_false q]
    refine ite_tt (chain_last ?_)
    refine wpAny_Name (wpAny_loadName_free hk (show scope.names.lookup hi = some .free from h2) lb (cb _ old) ?_ e2) d2
    refine PySem.P.le_str ⟨?_, keeps_refl _⟩
    show _ = Value.bool (between zl zh (z.cps.getD k 0))
    rw [gd]
    unfold between
    rw [decide_eq_false q]
    rfl
theorem range_all (z : Array Nat) (p : Nat → Bool) : (List.range z.size).all (fun k => p (z.getD k 0)) = z.toList.all p := by
  rw [Bool.eq_iff_iff, List.all_eq_true, List.all_eq_true]
  constructor
  · intro h b hb
    obtain ⟨j, hj, e⟩ := List.getElem_of_mem hb
    have hj' : j < z.size := by simpa using hj
    have q := h j (List.mem_range.mpr hj')
    rw [Array.getD_eq_getD_getElem?, Array.getElem?_eq_getElem hj'] at q
    rw [← e]
    simpa using q
  · intro h j hj
    have hj' := List.mem_range.mp hj
    rw [Array.getD_eq_getD_getElem?, Array.getElem?_eq_getElem hj']
    exact h _ (by simp)
end Gc

set_option Elab.async false
set_option linter.all false
set_option maxRecDepth 100000
set_option maxHeartbeats 4000000
namespace Ld
open PySem PySem.Spec PyProof.Rows L2
/-! ### the draws: mathematics -/
def dstep (p : Int × List Int) : Int × List Int := if p.1 > 0 then (p.1 / 65536, p.2 ++ [p.1 % 65536]) else p
def diter : Nat → Int × List Int → Int × List Int
  | 0, p => p
  | n + 1, p => dstep (diter n p)
def dabs (x : Int) : Int := if x < 0 then -x else x
def dmix1 (k r : Int) : Int := (r * 48271 + (k + 1) * 69621) % 2147483647
def dmix2 (k r : Int) : Int := (dmix1 k r * 16807 + 11 * k + 5) % 2147483629
def dcell (k x : Int) (ds : List Int) : List Int :=
  if (10 : Int) ^ (18 : Int).toNat ≤ dabs x then (diter 60 (dabs x, ds)).2
  else ds ++ [dmix2 k (dabs x) % 65536] ++ [dmix2 k (dabs x) / 65536 % 32768]
def drawsN (ns : List Int) : Nat → List Int
  | 0 => []
  | i + 1 => dcell (i : Nat) (ns.getD i 0) (drawsN ns i)
def drawsOf (ns : List Int) : List Int := drawsN ns ns.length
def DOk (ds : List Int) : Prop := ∀ x ∈ ds, 0 ≤ x ∧ x < 65536
theorem DOk.app {ds : List Int} {x : Int} (h : DOk ds) (h0 : 0 ≤ x) (h1 : x < 65536) : DOk (ds ++ [x]) := fun y hy => by
  rcases List.mem_append.mp hy with z | z
  · exact h y z
  · rw [List.mem_singleton.mp z]
    exact ⟨h0, h1⟩
theorem dstep_ok {p : Int × List Int} (h : DOk p.2) : DOk (dstep p).2 := by
  unfold dstep
  split
  · exact h.app (Int.emod_nonneg _ (by decide)) (Int.emod_lt_of_pos _ (by decide))
  · exact h
theorem dstep_len (p : Int × List Int) : (dstep p).2.length ≤ p.2.length + 1 := by
  unfold dstep
  split
  · show (p.2 ++ [p.1 % 65536]).length ≤ _
    rw [List.length_append, List.length_singleton]
    exact Nat.le_refl _
  · omega
theorem diter_ok {p : Int × List Int} (h : DOk p.2) : ∀ n, DOk (diter n p).2
  | 0 => h
  | n + 1 => dstep_ok (diter_ok h n)
theorem diter_len (p : Int × List Int) : ∀ n, (diter n p).2.length ≤ p.2.length + n
  | 0 => Nat.le_refl _
  | n + 1 => by
    have := dstep_len (diter n p)
    have := diter_len p n
    show (dstep (diter n p)).2.length ≤ _
    omega
theorem dcell_ok {k x : Int} {ds : List Int} (h : DOk ds) : DOk (dcell k x ds) := by
  unfold dcell
  split
  · exact diter_ok (p := (dabs x, ds)) h 60
  · have h1 : DOk (ds ++ [dmix2 k (dabs x) % 65536]) := h.app (Int.emod_nonneg _ (by decide)) (Int.emod_lt_of_pos _ (by decide))
    refine h1.app (Int.emod_nonneg _ (by decide)) ?_
    have : dmix2 k (dabs x) / 65536 % 32768 < 32768 := Int.emod_lt_of_pos _ (by decide)
    omega
theorem dcell_len (k x : Int) (ds : List Int) : (dcell k x ds).length ≤ ds.length + 60 := by
  unfold dcell
  split
  · exact diter_len (dabs x, ds) 60
  · simp only [List.length_append, List.length_singleton]
    omega
theorem drawsN_ok (ns : List Int) : ∀ n, DOk (drawsN ns n)
  | 0 => fun _ h => nomatch h
  | n + 1 => dcell_ok (drawsN_ok ns n)
theorem drawsN_len (ns : List Int) : ∀ n, (drawsN ns n).length ≤ 60 * n
  | 0 => Nat.le_refl _
  | n + 1 => by
    have := dcell_len (n : Nat) (ns.getD n 0) (drawsN ns n)
    have := drawsN_len ns n
    show (dcell _ _ _).length ≤ _
    omega
theorem drawsOf_len {ns : List Int} (h : ns.length ≤ 63) : (drawsOf ns).length ≤ 3780 := by
  have := drawsN_len ns ns.length
  unfold drawsOf
  omega
/-- a draw below many -/
def atD (ds : List Int) (k many : Int) : Int := if k < (ds.length : Int) then ds.getD k.toNat 0 % many else 0
theorem atD_lo (ds : List Int) (k : Int) {many : Int} (h : 0 < many) : 0 ≤ atD ds k many := by
  unfold atD
  split
  · exact Int.emod_nonneg _ (by omega)
  · exact Int.le_refl _
theorem atD_hi (ds : List Int) (k : Int) {many : Int} (h : 0 < many) : atD ds k many < many := by
  unfold atD
  split
  · exact Int.emod_lt_of_pos _ h
  · exact h
theorem getI {ns : List Int} {i : Nat} (h : i < ns.length) : (ns.map V.int)[i]? = some (V.int (ns.getD i 0)) := by
  rw [List.getElem?_map, List.getElem?_eq_getElem h, List.getD_eq_getElem?_getD, List.getElem?_eq_getElem h]
  rfl
theorem same_upd {H : Hp} {p : Addr} {o : HO} (h : H p = none) : Same H (upd H p o) := fun b x e => by
  rw [upd_ne (ne_of_none e h)]
  exact e
theorem small4000 {n : Nat} (h : n ≤ 4000) : n < sizeLine := Nat.lt_of_le_of_lt h (by decide)
end Ld

set_option Elab.async false
set_option linter.all false
set_option maxRecDepth 100000
set_option maxHeartbeats 4000000
/-! Reading a line, two ways: over codes alone. -/
namespace Ld
open PySem PySem.Spec PyProof.Rows L2 TL
/-! ### words (as in the law of words) -/
def wordB (z lo hi : Str) : Bool := decide (1 ≤ (z.length : Int)) && (decide ((z.length : Int) ≤ 12) && z.cps.toList.all (Gc.between lo hi))
def kindB (z : Str) : Bool := wordB z "A" "Z" && !decide (z = "OTHER")
def nameB (z : Str) : Bool := wordB z "a" "z"
def symB (z : Str) : Bool := kindB z || nameB z
theorem lt_one (a b : Nat) : (([a] : List Nat) < [b]) ↔ a < b := by
  simp [List.cons_lt_cons_iff]
theorem name_codes {z : Str} (h : nameB z = true) : ∀ c ∈ tl z, 97 ≤ c ∧ c ≤ 122 := by
  intro c hc
  unfold nameB wordB at h
  rw [Bool.and_eq_true, Bool.and_eq_true] at h
  have q := List.all_eq_true.mp h.2.2 c hc
  unfold Gc.between at q
  rw [show ("a" : Str).cps.toList = [97] from by decide +kernel, show ("z" : Str).cps.toList = [122] from by decide +kernel] at q
  simp only [Bool.and_eq_true, Bool.not_eq_true', decide_eq_false_iff_not, lt_one] at q
  omega
theorem name_no {z : Str} (h : nameB z = true) {c : Nat} (hc : c < 97) : c ∉ tl z := fun m => by
  have := name_codes h c m
  omega
abbrev Rule := Str × List Str
/-- the text's parts at a space, at a newline -/
theorem colon_tl : tl (":" : Str) = [58] := by decide +kernel
theorem space_tl : tl (" " : Str) = [32] := by decide +kernel
theorem nl_tl : tl ("\n" : Str) = [10] := by decide +kernel
theorem kind_space (x : Str) : ¬ Builtin.Str.strKind x < Builtin.Str.strKind (" " : Str) := kind_ok (by decide +kernel)
theorem kind_nl (x : Str) : ¬ Builtin.Str.strKind x < Builtin.Str.strKind ("\n" : Str) := kind_ok (by decide +kernel)
def spS (x : Str) : List Str := Txt.split x " "
theorem spS_tl (x : Str) : (spS x).map tl = spl [32] 0 [] (tl x) := by
  have h := split_spl x " " (by rw [space_tl]; simp) (kind_space x)
  rw [space_tl] at h
  exact h
theorem cut_first (s : Nat) : ∀ L : List Nat, s ∉ L ∨ ∃ p r, L = p ++ s :: r ∧ s ∉ p
  | [] => .inl (by simp)
  | c :: L => by
    by_cases e : c = s
    · exact .inr ⟨[], L, by rw [e]; rfl, by simp⟩
    · rcases cut_first s L with h | ⟨p, r, h1, h2⟩
      · exact .inl fun m => (List.mem_cons.mp m).elim (fun z => e z.symm) h
      · exact .inr ⟨c :: p, r, by rw [h1]; rfl, fun m => (List.mem_cons.mp m).elim (fun z => e z.symm) h2⟩
theorem spl_no {s : Nat} {p : List Nat} (h : s ∉ p) : spl [s] 0 [] p = [p] := by
  have := spl_last1 (S := []) (acc := []) h
  rw [this]
  rfl
theorem spl_at1 {s : Nat} {p r : List Nat} (h : s ∉ p) : spl [s] 0 [] (p ++ s :: r) = p :: spl [s] 0 [] r := by
  have := spl_part1 (S := []) (acc := []) (rest := r) h
  exact this
/-- split never gives the empty list; its head -/
theorem spl_ne (s : Nat) (L : List Nat) : ∃ p r, spl [s] 0 [] L = p :: r ∧ s ∉ p ∧ ∀ c ∈ p, c ∈ L := by
  rcases cut_first s L with h | ⟨p, r, rfl, h⟩
  · exact ⟨L, [], spl_no h, h, fun _ z => z⟩
  · exact ⟨p, _, spl_at1 h, h, fun c z => List.mem_append_left _ z⟩
/-! ### the program's way -/
def ruleOf (l : Str) : Option Rule :=
  if nameB (Txt.partition l ":").1 = true ∧ (Txt.partition l ":").2.1 ≠ Str.empty ∧ (spS (Txt.partition l ":").2.2).head? = some Str.empty ∧ (spS (Txt.partition l ":").2.2).tail.length ≤ 6 ∧ (spS (Txt.partition l ":").2.2).tail.all symB = true
  then some ((Txt.partition l ":").1, (spS (Txt.partition l ":").2.2).tail) else none
/-- the law's way; b0: the first word without its last sign -/
def endsColon (w : Str) : Prop := ∃ b : List Nat, tl w = b ++ [58]
def lawLine (l : Str) (w0 : Str) (ws : List Str) : Option Rule → Prop := fun o =>
  (o = none ∧ ¬ ∃ n : Str, tl w0 = tl n ++ [58] ∧ nameB n = true ∧ ws.length ≤ 6 ∧ ws.all symB = true) ∨
  ∃ n : Str, o = some (n, ws) ∧ tl w0 = tl n ++ [58] ∧ nameB n = true ∧ ws.length ≤ 6 ∧ ws.all symB = true
theorem str_of (l : List Nat) : ∃ z : Str, tl z = l := ⟨⟨l.toArray⟩, rfl⟩
theorem tl_inj {x y : Str} (h : tl x = tl y) : x = y := ext_tl h
theorem line_eq (l : Str) : ∃ w0 ws, spS l = w0 :: ws ∧ lawLine l w0 ws (ruleOf l) := by
  have hs := spS_tl l
  rcases cut_first 58 (tl l) with h | ⟨A, R, hL, hA⟩
  · -- no colon
    obtain ⟨p, r, e, _, sub⟩ := spl_ne 32 (tl l)
    rw [e] at hs
    cases hsl : spS l with
    | nil => rw [hsl] at hs; cases hs
    | cons w0 ws =>
      rw [hsl, List.map_cons] at hs
      injection hs with h1 h2
      refine ⟨w0, ws, rfl, .inl ⟨?_, ?_⟩⟩
      · unfold ruleOf
        rw [partition_none colon_tl h]
        rw [if_neg (fun z => z.2.1 rfl)]
      · rintro ⟨n, hn, _⟩
        refine h (sub 58 ?_)
        rw [← h1, hn]
        exact List.mem_append_right _ (List.mem_singleton.mpr rfl)
  · obtain ⟨a, ha⟩ := str_of A
    obtain ⟨r, hr⟩ := str_of R
    have el : l = a ++ (":" : Str) ++ r := tl_inj (by rw [tl_append, tl_append, ha, hr, colon_tl, hL]; simp)
    have ep : Txt.partition l ":" = (a, (":" : Str), r) := by
      rw [el]
      exact partition_app colon_tl (by rw [ha]; exact hA)
    have rr := spS_tl r
    rw [hr] at rr
    by_cases h32 : 32 ∈ A
    · -- a space ahead of the colon: no name
      obtain ⟨p, q, hp, np⟩ : ∃ p q, A = p ++ 32 :: q ∧ 32 ∉ p := by
        rcases cut_first 32 A with z | z
        · exact absurd h32 z
        · exact z
      rw [hL, hp, List.append_assoc, List.cons_append, spl_at1 np] at hs
      cases hsl : spS l with
      | nil => rw [hsl] at hs; cases hs
      | cons w0 ws =>
        rw [hsl, List.map_cons] at hs
        injection hs with h1 h2
        refine ⟨w0, ws, rfl, .inl ⟨?_, ?_⟩⟩
        · unfold ruleOf
          rw [ep, if_neg]
          intro z
          exact name_no z.1 (by decide : 32 < 97) (by rw [ha]; exact h32)
        · rintro ⟨n, hn, _⟩
          refine hA ?_
          rw [hp]
          refine List.mem_append_left _ ?_
          rw [← h1, hn]
          exact List.mem_append_right _ (List.mem_singleton.mpr rfl)
    · have h32' : 32 ∉ A ++ [58] := fun z => (List.mem_append.mp z).elim h32 fun z => by simp at z
      cases R with
      | nil =>
        rw [hL, spl_no h32'] at hs
        rw [spl_no (by simp)] at rr
        cases hsl : spS l with
        | nil => rw [hsl] at hs; cases hs
        | cons w0 ws =>
          rw [hsl, List.map_cons] at hs
          injection hs with h1 h2
          have ews : ws = [] := List.map_eq_nil_iff.mp h2
          subst ews
          cases hsr : spS r with
          | nil => rw [hsr] at rr; cases rr
          | cons v0 vs =>
            rw [hsr, List.map_cons] at rr
            injection rr with g1 g2
            have evs : vs = [] := List.map_eq_nil_iff.mp g2
            subst evs
            have ev0 : v0 = Str.empty := tl_inj g1
            refine ⟨w0, [], rfl, ?_⟩
            by_cases hn : nameB a = true
            · refine .inr ⟨a, ?_, by rw [h1, ha], hn, by decide, rfl⟩
              unfold ruleOf
              rw [ep]
              simp only [hsr]
              rw [if_pos ⟨hn, by decide +kernel, by rw [ev0]; rfl, Nat.zero_le _, rfl⟩]
              rfl
            · refine .inl ⟨?_, ?_⟩
              · unfold ruleOf
                rw [ep, if_neg fun z => hn z.1]
              · rintro ⟨n, hn2, hn3, _⟩
                have : n = a := tl_inj (by
                  rw [h1] at hn2
                  rw [ha]
                  exact (List.append_cancel_right hn2).symm)
                rw [this] at hn3
                exact hn hn3
      | cons c R' =>
        by_cases hc : c = 32
        · subst hc
          have e2 : tl l = (A ++ [58]) ++ 32 :: R' := by rw [hL]; simp
          rw [e2, spl_at1 h32'] at hs
          have e3 : spl [32] 0 [] (32 :: R') = [] :: spl [32] 0 [] R' := spl_at1 (p := []) (by simp)
          rw [e3] at rr
          cases hsl : spS l with
          | nil => rw [hsl] at hs; cases hs
          | cons w0 ws =>
            rw [hsl, List.map_cons] at hs
            injection hs with h1 h2
            cases hsr : spS r with
            | nil => rw [hsr] at rr; cases rr
            | cons v0 vs =>
              rw [hsr, List.map_cons] at rr
              injection rr with g1 g2
              have evs : vs = ws := map_tl_inj (g2.trans h2.symm)
              subst evs
              have ev0 : v0 = Str.empty := tl_inj g1
              refine ⟨w0, vs, rfl, ?_⟩
              by_cases hn : nameB a = true ∧ vs.length ≤ 6 ∧ vs.all symB = true
              · refine .inr ⟨a, ?_, by rw [h1, ha], hn⟩
                unfold ruleOf
                rw [ep]
                simp only [hsr]
                rw [if_pos ⟨hn.1, by decide +kernel, by rw [ev0]; rfl, hn.2.1, hn.2.2⟩]
                rfl
              · refine .inl ⟨?_, ?_⟩
                · unfold ruleOf
                  rw [ep]
                  simp only [hsr]
                  rw [if_neg fun z => hn ⟨z.1, z.2.2.2.1, z.2.2.2.2⟩]
                · rintro ⟨n, hn2, hn3, hn4⟩
                  have : n = a := tl_inj (by
                    rw [h1] at hn2
                    rw [ha]
                    exact (List.append_cancel_right hn2).symm)
                  rw [this] at hn3
                  exact hn ⟨hn3, hn4⟩
        · -- a sign right behind the colon
          have e2 : tl l = (A ++ [58]) ++ c :: R' := by rw [hL]; simp
          have first : ∀ (pp : List Nat), 32 ∉ pp → ∃ q t, spl [32] 0 [] (pp ++ c :: R') = (pp ++ c :: q) :: t := by
            intro pp hpp
            rcases cut_first 32 (c :: R') with z | ⟨p, q, hp, np⟩
            · refine ⟨R', [], spl_no fun m => ?_⟩
              rcases List.mem_append.mp m with m | m
              · exact hpp m
              · exact z m
            · cases p with
              | nil =>
                injection hp with x1 x2
                exact absurd x1 hc
              | cons d p' =>
                injection hp with x1 x2
                subst x1
                refine ⟨p', spl [32] 0 [] q, ?_⟩
                rw [x2]
                have n2 : 32 ∉ pp ++ c :: p' := fun m => (List.mem_append.mp m).elim hpp np
                have := spl_at1 (r := q) n2
                rw [List.append_assoc] at this
                exact this
          obtain ⟨q1, t1, f1⟩ := first (A ++ [58]) h32'
          obtain ⟨q2, t2, f2⟩ := first [] (by simp)
          rw [e2, f1] at hs
          rw [List.nil_append] at f2
          rw [f2, List.nil_append] at rr
          cases hsl : spS l with
          | nil => rw [hsl] at hs; cases hs
          | cons w0 ws =>
            rw [hsl, List.map_cons] at hs
            injection hs with h1 h2
            cases hsr : spS r with
            | nil => rw [hsr] at rr; cases rr
            | cons v0 vs =>
              rw [hsr, List.map_cons] at rr
              injection rr with g1 g2
              refine ⟨w0, ws, rfl, .inl ⟨?_, ?_⟩⟩
              · unfold ruleOf
                rw [ep]
                simp only [hsr]
                rw [if_neg]
                intro z
                have z3 := z.2.2.1
                rw [List.head?_cons] at z3
                have z4 : v0 = Str.empty := Option.some.inj z3
                rw [z4] at g1
                cases g1
              · rintro ⟨n, hn2, hn3, _⟩
                rw [h1] at hn2
                -- the name would hold the colon
                refine name_no hn3 (by decide : 58 < 97) ?_
                have e4 : tl n = (A ++ [58] ++ c :: q1).dropLast := by
                  rw [hn2, List.dropLast_concat]
                rw [e4, List.dropLast_append_of_ne_nil (by simp)]
                exact List.mem_append_left _ (List.mem_append_right _ (List.mem_singleton.mpr rfl))
end Ld

set_option Elab.async false
set_option linter.all false
set_option maxRecDepth 100000
set_option maxHeartbeats 4000000
/-! Grammars as texts, read and written: over codes alone; and as data that is compared. -/
namespace Ld
open PySem PySem.Spec PyProof.Rows L2 TL
/-! ### a word's signs, two ways -/
def bigL : Str := "ABCDEFGHIJKLMNOPQRSTUVWXYZ"
def lowL : Str := "abcdefghijklmnopqrstuvwxyz"
theorem bigL_codes : bigL.cps.toList = [65, 66, 67, 68, 69, 70, 71, 72, 73, 74, 75, 76, 77, 78, 79, 80, 81, 82, 83, 84, 85, 86, 87, 88, 89, 90] := by decide +kernel
theorem lowL_codes : lowL.cps.toList = [97, 98, 99, 100, 101, 102, 103, 104, 105, 106, 107, 108, 109, 110, 111, 112, 113, 114, 115, 116, 117, 118, 119, 120, 121, 122] := by decide +kernel
theorem between_big (c : Nat) : Gc.between "A" "Z" c = decide (c ∈ bigL.cps.toList) := by
  unfold Gc.between
  rw [show ("A" : Str).cps.toList = [65] from by decide +kernel, show ("Z" : Str).cps.toList = [90] from by decide +kernel, bigL_codes]
  rw [Bool.eq_iff_iff]
  simp only [Bool.and_eq_true, Bool.not_eq_true', decide_eq_false_iff_not, decide_eq_true_eq, lt_one, List.mem_cons, List.not_mem_nil, or_false]
  omega
theorem between_low (c : Nat) : Gc.between "a" "z" c = decide (c ∈ lowL.cps.toList) := by
  unfold Gc.between
  rw [show ("a" : Str).cps.toList = [97] from by decide +kernel, show ("z" : Str).cps.toList = [122] from by decide +kernel, lowL_codes]
  rw [Bool.eq_iff_iff]
  simp only [Bool.and_eq_true, Bool.not_eq_true', decide_eq_false_iff_not, decide_eq_true_eq, lt_one, List.mem_cons, List.not_mem_nil, or_false]
  omega
def outs (z l : List Nat) : List Nat := z.filter fun c => !decide (c ∈ l)
theorem outs_more {z l : List Nat} {i c : Nat} (h : z[i]? = some c) : outs (z.take (i + 1)) l = outs (z.take i) l ++ (if c ∈ l then [] else [c]) := by
  unfold outs
  rw [List.take_add_one, h, List.filter_append]
  congr 1
  by_cases e : c ∈ l
  · simp [e]
  · simp [e]
theorem outs_len (z l : List Nat) : (outs z l).length ≤ z.length := List.length_filter_le _ _
theorem all_outs (l m : List Nat) (p : Nat → Bool) (hp : ∀ c, p c = decide (c ∈ m)) : l.all p = decide (outs l m = []) := by
  rw [Bool.eq_iff_iff, List.all_eq_true, decide_eq_true_eq]
  unfold outs
  rw [List.filter_eq_nil_iff]
  constructor
  · intro h c hc
    have h2 := h c hc
    rw [hp] at h2
    rw [h2]
    simp
  · intro h c hc
    have h2 := h c hc
    rw [hp]
    simpa using h2
def sizeB (z : Str) : Bool := decide (1 ≤ (z.length : Int)) && decide ((z.length : Int) ≤ 12)
theorem word_big (z : Str) : wordB z "A" "Z" = (sizeB z && decide (outs (tl z) (tl bigL) = [])) := by
  unfold wordB sizeB
  rw [all_outs _ bigL.cps.toList _ between_big, Bool.and_assoc]
theorem word_low (z : Str) : wordB z "a" "z" = (sizeB z && decide (outs (tl z) (tl lowL) = [])) := by
  unfold wordB sizeB
  rw [all_outs _ lowL.cps.toList _ between_low, Bool.and_assoc]
/-! ### lines and texts -/
def lineT (r : Rule) : List Nat := tl r.1 ++ 58 :: r.2.flatMap (fun s => 32 :: tl s)
def writeT (G : List Rule) : List Nat := G.flatMap (fun r => lineT r ++ [10])
def lineS (r : Rule) : Str := r.1 ++ (":" : Str) ++ Txt.join "" (r.2.map (fun s => (" " : Str) ++ s)) ++ ("\n" : Str)
def writeS (G : List Rule) : Str := Txt.join "" (G.map lineS)
theorem nil_tl : tl ("" : Str) = [] := by decide +kernel
theorem joinL_nil : ∀ l : List (List Nat), joinL [] l = l.flatten
  | [] => rfl
  | [p] => by simp [joinL]
  | p :: q :: r => by
    show p ++ ([] ++ joinL [] (q :: r)) = _
    rw [joinL_nil (q :: r)]
    simp
theorem join0_tl (parts : List Str) : tl (Txt.join "" parts) = parts.flatMap tl := by
  rw [join_eq, tl_join, nil_tl, joinL_nil, List.flatMap_def]
theorem lineS_tl (r : Rule) : tl (lineS r) = lineT r ++ [10] := by
  unfold lineS lineT
  rw [tl_append, tl_append, tl_append, join0_tl, colon_tl, nl_tl, List.flatMap_map]
  have : (fun s : Str => tl ((" " : Str) ++ s)) = fun s => 32 :: tl s := by
    funext s
    rw [tl_append, space_tl]
    rfl
  rw [this]
  simp
theorem writeS_tl (G : List Rule) : tl (writeS G) = writeT G := by
  unfold writeS writeT
  rw [join0_tl, List.flatMap_map]
  congr 1
  funext r
  exact lineS_tl r
theorem joinL_space : ∀ (l : List (List Nat)) (p : List Nat), joinL [32] (p :: l) = p ++ l.flatMap (fun s => 32 :: s)
  | [], p => by simp [joinL]
  | q :: r, p => by
    show p ++ ([32] ++ joinL [32] (q :: r)) = _
    rw [joinL_space r q]
    simp
theorem law_line (r : Rule) : Txt.join " " ((r.1 ++ (":" : Str)) :: r.2) ++ ("\n" : Str) = lineS r := by
  refine tl_inj ?_
  rw [tl_append, join_eq, tl_join, List.map_cons, space_tl, joinL_space, lineS_tl, tl_append, colon_tl, nl_tl, List.flatMap_map]
  unfold lineT
  simp
theorem writeS_nil : writeS [] = ("" : Str) := by decide +kernel
theorem writeS_snoc (G : List Rule) (r : Rule) : writeS (G ++ [r]) = writeS G ++ Txt.join " " ((r.1 ++ (":" : Str)) :: r.2) ++ ("\n" : Str) := by
  refine tl_inj ?_
  have e := law_line r
  have e2 := congrArg tl e
  rw [tl_append, lineS_tl] at e2
  rw [writeS_tl, tl_append, tl_append, writeS_tl, List.append_assoc, e2]
  unfold writeT
  simp
/-! ### the reading -/
def GoodR (r : Rule) : Prop := nameB r.1 = true ∧ r.2.length ≤ 6 ∧ r.2.all symB = true
theorem kind_codes {z : Str} (h : kindB z = true) : ∀ c ∈ tl z, 65 ≤ c ∧ c ≤ 90 := by
  intro c hc
  unfold kindB wordB at h
  rw [Bool.and_eq_true, Bool.and_eq_true, Bool.and_eq_true] at h
  have q := List.all_eq_true.mp h.1.2.2 c hc
  unfold Gc.between at q
  rw [show ("A" : Str).cps.toList = [65] from by decide +kernel, show ("Z" : Str).cps.toList = [90] from by decide +kernel] at q
  simp only [Bool.and_eq_true, Bool.not_eq_true', decide_eq_false_iff_not, lt_one] at q
  omega
theorem sym_codes {z : Str} (h : symB z = true) : ∀ c ∈ tl z, 65 ≤ c ∧ c ≤ 122 := by
  intro c hc
  unfold symB at h
  rw [Bool.or_eq_true] at h
  rcases h with h | h
  · have := kind_codes h c hc
    omega
  · have := name_codes h c hc
    omega
theorem spl_syms : ∀ (ss : List (List Nat)), (∀ p ∈ ss, 32 ∉ p) → spl [32] 0 [] (ss.flatMap fun s => 32 :: s) = [] :: ss
  | [], _ => spl_no (p := []) (fun m => nomatch m)
  | q :: r, h => by
    have e : ((q :: r).flatMap fun s => 32 :: s) = [] ++ 32 :: joinL [32] (q :: r) := by
      rw [joinL_space]
      simp
    rw [e, spl_at1 (by simp), spl_join (by simp) h]
theorem rule_back {l : Str} {r : Rule} (h : tl l = lineT r) (g : GoodR r) : ruleOf l = some r := by
  obtain ⟨rest, hr⟩ := str_of (r.2.flatMap fun s => 32 :: tl s)
  have el : l = r.1 ++ (":" : Str) ++ rest := tl_inj (by rw [h, tl_append, tl_append, hr, colon_tl]; unfold lineT; simp)
  have ep : Txt.partition l ":" = (r.1, (":" : Str), rest) := by
    rw [el]
    exact partition_app colon_tl (name_no g.1 (by decide))
  have es : spS rest = Str.empty :: r.2 := by
    refine map_tl_inj ?_
    rw [spS_tl, hr, List.map_cons]
    have := spl_syms (r.2.map tl) fun p hp => by
      obtain ⟨s, hs, rfl⟩ := List.mem_map.mp hp
      intro z
      have := sym_codes (List.all_eq_true.mp g.2.2 s hs) 32 z
      omega
    rw [List.flatMap_map] at this
    rw [this]
    rfl
  unfold ruleOf
  rw [ep]
  simp only [es]
  rw [if_pos ⟨g.1, by decide +kernel, rfl, g.2.1, g.2.2⟩]
  rfl
theorem rule_good {l : Str} {r : Rule} (h : ruleOf l = some r) : GoodR r := by
  unfold ruleOf at h
  split at h
  · rename_i c
    obtain rfl := Option.some.inj h
    exact ⟨c.1, c.2.2.2.1, c.2.2.2.2⟩
  · cases h
inductive Rd
  | line (k : Nat)
  | taken (k : Nat)
  | large (k : Nat)
  | good (G : List Rule)
def rdGo : Nat → List Rule → List Str → Rd
  | _, G, [] => .good G
  | k, G, l :: ls => match ruleOf l with
    | none => .line k
    | some r => if r ∈ G then .taken k else if 24 ≤ k then .large k else rdGo (k + 1) (G ++ [r]) ls
def rdEnd (n : Nat) (u : Str) : Rd → Rd
  | .good G => if u ≠ "" ∨ n = 0 then .line n else .good G
  | x => x
/-- what reading a text gives: of its parts at newlines, the last one apart -/
def rd (ls : List Str) : Rd := rdEnd ls.dropLast.length (ls.getLast?.getD "") (rdGo 0 [] ls.dropLast)
def linesOf (x : Str) : List Str := Txt.split x "\n"
theorem linesOf_tl (x : Str) : (linesOf x).map tl = spl [10] 0 [] (tl x) := by
  have h := split_spl x "\n" (by rw [nl_tl]; simp) (kind_nl x)
  rw [nl_tl] at h
  exact h
theorem linesOf_ne (x : Str) : linesOf x ≠ [] := fun e => by
  have h := linesOf_tl x
  obtain ⟨p, r, q, _⟩ := spl_ne 10 (tl x)
  rw [e, q] at h
  cases h
theorem spl_lines : ∀ G : List Rule, (∀ r ∈ G, 10 ∉ lineT r) → spl [10] 0 [] (writeT G) = G.map lineT ++ [[]]
  | [], _ => spl_no (p := []) (fun m => nomatch m)
  | r :: G, h => by
    have e : writeT (r :: G) = lineT r ++ 10 :: writeT G := by
      unfold writeT
      simp
    rw [e, spl_at1 (h r List.mem_cons_self), spl_lines G fun q hq => h q (List.mem_cons_of_mem _ hq)]
    rfl
theorem line_no10 {r : Rule} (g : GoodR r) : 10 ∉ lineT r := by
  intro m
  unfold lineT at m
  rcases List.mem_append.mp m with m | m
  · exact name_no g.1 (by decide) m
  · rcases List.mem_cons.mp m with m | m
    · cases m
    · obtain ⟨s, hs, q⟩ := List.mem_flatMap.mp m
      rcases List.mem_cons.mp q with q | q
      · cases q
      · have := sym_codes (List.all_eq_true.mp g.2.2 s hs) 10 q
        omega
def lineO (r : Rule) : Str := ⟨(lineT r).toArray⟩
theorem lines_back {x : Str} {G : List Rule} (h : tl x = writeT G) (g : ∀ r ∈ G, GoodR r) : linesOf x = G.map lineO ++ [("" : Str)] := by
  refine map_tl_inj ?_
  rw [linesOf_tl, h, spl_lines G fun r hr => line_no10 (g r hr), List.map_append, List.map_map]
  rfl
theorem rdGo_back : ∀ (G A : List Rule), (∀ r ∈ G, GoodR r) → (A ++ G).Nodup → A.length + G.length ≤ 24 → rdGo A.length A (G.map lineO) = .good (A ++ G)
  | [], A, _, _, _ => by
    rw [List.append_nil]
    rfl
  | r :: G, A, g, nd, h => by
    rw [List.map_cons]
    unfold rdGo
    rw [rule_back (l := lineO r) (r := r) rfl (g r List.mem_cons_self)]
    have h2 : r ∉ A := fun m => by
      rw [List.nodup_append] at nd
      exact nd.2.2 r m r List.mem_cons_self rfl
    have h3 : A.length + G.length + 1 ≤ 24 := by
      rw [List.length_cons] at h
      omega
    simp only
    rw [if_neg h2, if_neg (by omega)]
    have e : A ++ r :: G = (A ++ [r]) ++ G := by simp
    have l : A.length + 1 = (A ++ [r]).length := by simp
    rw [e, l]
    refine rdGo_back G (A ++ [r]) (fun q hq => g q (List.mem_cons_of_mem _ hq)) (by rw [← e]; exact nd) ?_
    rw [← l]
    omega
/-- THE READ-BACK -/
theorem rd_back {G : List Rule} (g : ∀ r ∈ G, GoodR r) (nd : G.Nodup) (n0 : G ≠ []) (h : G.length ≤ 24) : rd (linesOf (writeS G)) = .good G := by
  rw [lines_back (writeS_tl G) g]
  unfold rd
  rw [List.dropLast_concat, List.getLast?_concat]
  have := rdGo_back G [] g nd (by simpa using h)
  rw [List.length_nil, List.nil_append] at this
  rw [this]
  unfold rdEnd
  simp only
  rw [if_neg]
  rintro (z | z)
  · exact z rfl
  · rw [List.length_map] at z
    exact n0 (List.eq_nil_of_length_eq_zero z)
theorem rd_empty : rd (linesOf "") = .line 0 := by
  have e : linesOf "" = [("" : Str)] := by
    refine map_tl_inj ?_
    rw [linesOf_tl, nil_tl, spl_no (by simp)]
    rfl
  rw [e]
  unfold rd rdEnd rdGo
  simp
/-! ### lengths of parts -/
theorem spl_bound (s : Nat) : ∀ (n : Nat) (L : List Nat), L.length ≤ n → ∀ p ∈ spl [s] 0 [] L, p.length ≤ L.length
  | n, L, h => by
    rcases cut_first s L with c | ⟨p, r, rfl, c⟩
    · rw [spl_no c]
      intro q hq
      rw [List.mem_singleton.mp hq]
      exact Nat.le_refl _
    · rw [spl_at1 c]
      intro q hq
      rw [List.length_append, List.length_cons] at h ⊢
      rcases List.mem_cons.mp hq with z | z
      · rw [z]
        omega
      · cases n with
        | zero => omega
        | succ m =>
          have := spl_bound s m r (by omega) q z
          omega
theorem spl_count (s : Nat) : ∀ (n : Nat) (L : List Nat), L.length ≤ n → (spl [s] 0 [] L).length ≤ L.length + 1
  | n, L, h => by
    rcases cut_first s L with c | ⟨p, r, rfl, c⟩
    · rw [spl_no c]
      show 1 ≤ _
      omega
    · rw [spl_at1 c]
      rw [List.length_append, List.length_cons] at h ⊢
      cases n with
      | zero => omega
      | succ m =>
        have := spl_count s m r (by omega)
        rw [List.length_cons]
        omega
theorem map_len {l : List Str} {p : Str} (h : p ∈ l) {n : Nat} (b : ∀ q ∈ l.map tl, q.length ≤ n) : p.length ≤ n := by
  rw [len_tl]
  exact b _ (List.mem_map.mpr ⟨p, h, rfl⟩)
theorem spS_len {x p : Str} (h : p ∈ spS x) : p.length ≤ x.length := map_len h (by rw [spS_tl, len_tl]; exact spl_bound 32 _ _ (Nat.le_refl _))
theorem lines_len {x p : Str} (h : p ∈ linesOf x) : p.length ≤ x.length := map_len h (by rw [linesOf_tl, len_tl]; exact spl_bound 10 _ _ (Nat.le_refl _))
theorem spS_count (x : Str) : (spS x).length ≤ x.length + 1 := by
  have := spl_count 32 _ (tl x) (Nat.le_refl _)
  rw [← spS_tl, List.length_map, ← len_tl] at this
  exact this
theorem lines_count (x : Str) : (linesOf x).length ≤ x.length + 1 := by
  have := spl_count 10 _ (tl x) (Nat.le_refl _)
  rw [← linesOf_tl, List.length_map, ← len_tl] at this
  exact this
theorem spS_cons (x : Str) : ∃ w ws, spS x = w :: ws := by
  cases h : spS x with
  | cons w ws => exact ⟨w, ws, rfl⟩
  | nil =>
    obtain ⟨p, r, e, _⟩ := spl_ne 32 (tl x)
    have := spS_tl x
    rw [h, e] at this
    cases this
theorem part_len (z : Str) : (Txt.partition z ":").1.length ≤ z.length ∧ (Txt.partition z ":").2.2.length ≤ z.length := by
  rcases cut_first 58 (tl z) with h | ⟨A, R, hL, hA⟩
  · rw [partition_none colon_tl h]
    exact ⟨Nat.le_refl _, Nat.zero_le _⟩
  · obtain ⟨a, ha⟩ := str_of A
    obtain ⟨r, hr⟩ := str_of R
    have el : z = a ++ (":" : Str) ++ r := tl_inj (by rw [tl_append, tl_append, ha, hr, colon_tl, hL]; simp)
    have ep : Txt.partition z ":" = (a, (":" : Str), r) := by
      rw [el]
      exact partition_app colon_tl (by rw [ha]; exact hA)
    rw [ep, len_tl z, hL, List.length_append, List.length_cons, len_tl a, len_tl r, ha, hr]
    omega
theorem cutV_tail (x : V) (xs : List V) : cutV (x :: xs) (some 1) none = xs := by
  unfold cutV HT.sIx
  simp only [List.length_cons]
  have e : min (1 : Int).toNat (xs.length + 1) = 1 := by
    have : (1 : Int).toNat = 1 := rfl
    omega
  rw [if_neg (by decide)]
  rw [e]
  simp
/-! ### as data -/
def ruleD (r : Rule) : PyData := .tuple [.str r.1, .list (r.2.map PyData.str)]
def gD (G : List Rule) : PyData := .list (G.map ruleD)
theorem strs_eqv : ∀ xs ys : List Str, PyData.eqvAll (xs.map PyData.str) (ys.map PyData.str) = decide (xs = ys)
  | [], [] => by simp [PyData.eqvAll]
  | [], _ :: _ => by simp [PyData.eqvAll]
  | _ :: _, [] => by simp [PyData.eqvAll]
  | x :: xs, y :: ys => by
    rw [List.map_cons, List.map_cons, PyData.eqvAll, strs_eqv xs ys, PyData.eqv, Bool.eq_iff_iff]
    simp
theorem ruleD_eqv (r q : Rule) : PyData.eqv (ruleD r) (ruleD q) = decide (r = q) := by
  obtain ⟨a, s⟩ := r
  obtain ⟨b, t⟩ := q
  unfold ruleD
  rw [PyData.eqv, PyData.eqvAll, PyData.eqvAll, PyData.eqvAll, PyData.eqv, PyData.eqv, strs_eqv, Bool.eq_iff_iff]
  simp
theorem ruleD_in (G : List Rule) (r : Rule) : ((G.map ruleD).any fun z => PyData.eqv z (ruleD r)) = decide (r ∈ G) := by
  rw [Bool.eq_iff_iff, List.any_eq_true, decide_eq_true_eq]
  constructor
  · rintro ⟨z, hz, e⟩
    obtain ⟨q, hq, rfl⟩ := List.mem_map.mp hz
    rw [ruleD_eqv, decide_eq_true_eq] at e
    rw [← e]
    exact hq
  · intro h
    exact ⟨ruleD r, List.mem_map.mpr ⟨r, h, rfl⟩, by rw [ruleD_eqv]; simp⟩
theorem strOk_sym {z : Str} (h : symB z = true) : PyData.strOk z = true := by
  unfold PyData.strOk
  rw [Array.all_eq_true']
  intro c hc
  have := sym_codes h c (by simpa using hc)
  exact decide_eq_true (by omega)
theorem strs_lay : ∀ {ss : List Str}, (∀ s ∈ ss, PyData.strOk s = true) → PyData.canLayAll0 (ss.map PyData.str) = true
  | [], _ => by simp [PyData.canLayAll0]
  | s :: ss, h => by
    rw [List.map_cons, PyData.canLayAll0, PyData.canLay0, h s List.mem_cons_self, strs_lay fun z hz => h z (List.mem_cons_of_mem _ hz)]
    rfl
theorem strs_depth : ∀ ss : List Str, PyData.depthAll (ss.map PyData.str) ≤ 0
  | [] => by simp [PyData.depthAll]
  | s :: ss => by
    have := strs_depth ss
    simp only [List.map_cons, PyData.depthAll, PyData.depth]
    omega
theorem rule_lay {r : Rule} (g : GoodR r) : (ruleD r).canLay0 = true := by
  have h1 : PyData.strOk r.1 = true := strOk_sym (by unfold symB; rw [g.1, Bool.or_true])
  have h2 := strs_lay (ss := r.2) fun s hs => strOk_sym (List.all_eq_true.mp g.2.2 s hs)
  simp [ruleD, PyData.canLay0, PyData.canLayAll0, h1, h2]
theorem rule_depth (r : Rule) : (ruleD r).depth ≤ 2 := by
  have h := strs_depth r.2
  simp only [ruleD, PyData.depth, PyData.depthAll]
  omega
theorem rules_lay : ∀ {G : List Rule}, (∀ r ∈ G, GoodR r) → PyData.canLayAll0 (G.map ruleD) = true
  | [], _ => by simp [PyData.canLayAll0]
  | r :: G, g => by
    rw [List.map_cons, PyData.canLayAll0, rule_lay (g r List.mem_cons_self), rules_lay fun q hq => g q (List.mem_cons_of_mem _ hq)]
    rfl
theorem rules_depth : ∀ G : List Rule, PyData.depthAll (G.map ruleD) ≤ 2
  | [] => by simp [PyData.depthAll]
  | r :: G => by
    have h1 := rules_depth G
    have h2 := rule_depth r
    simp only [List.map_cons, PyData.depthAll]
    omega
theorem shaped_mk {d : PyData} (h1 : d.canLay0 = true) (h2 : d.depth ≤ 64) : SeqAt.shaped d = true := by
  unfold SeqAt.shaped
  rw [h1, decide_eq_true h2]
  rfl
theorem rule_shaped {r : Rule} (g : GoodR r) : SeqAt.shaped (ruleD r) = true := shaped_mk (rule_lay g) (by have := rule_depth r; omega)
theorem gD_shaped {G : List Rule} (g : ∀ r ∈ G, GoodR r) : SeqAt.shaped (gD G) = true := shaped_mk (by unfold gD; rw [PyData.canLay0]; exact rules_lay g) (by
  have := rules_depth G
  unfold gD
  simp only [PyData.depth]
  omega)
theorem eqv_self {d : PyData} (h : SeqAt.shaped d = true) : PyData.eqv d d = true := SeqAt.eqv_refl d (SeqAt.canLay_of_shaped h)
/-! ### what a reading gives, as data -/
def rdD : Rd → PyData
  | .line k => .tuple [.str "line", .int k]
  | .taken k => .tuple [.str "taken", .int k]
  | .large k => .tuple [.str "large", .int k]
  | .good G => .tuple [.str "grammar", gD G]
def RdOk : Rd → Prop
  | .good G => ∀ r ∈ G, GoodR r
  | _ => True
theorem rd_shaped {x : Rd} (h : RdOk x) : SeqAt.shaped (rdD x) = true := by
  cases x with
  | line k => exact shaped_mk (by simp [rdD, PyData.canLay0, PyData.canLayAll0]; decide +kernel) (by simp [rdD, PyData.depth, PyData.depthAll])
  | taken k => exact shaped_mk (by simp [rdD, PyData.canLay0, PyData.canLayAll0]; decide +kernel) (by simp [rdD, PyData.depth, PyData.depthAll])
  | large k => exact shaped_mk (by simp [rdD, PyData.canLay0, PyData.canLayAll0]; decide +kernel) (by simp [rdD, PyData.depth, PyData.depthAll])
  | good G =>
    have h1 : (gD G).canLay0 = true := SeqAt.canLay_of_shaped (gD_shaped h)
    have h2 : (gD G).depth ≤ 64 - 1 := by
      have := rules_depth G
      unfold gD
      simp only [PyData.depth]
      omega
    refine shaped_mk ?_ ?_
    · simp only [rdD, PyData.canLay0, PyData.canLayAll0, h1, Bool.and_true]
      decide +kernel
    · simp only [rdD, PyData.depth, PyData.depthAll]
      omega
end Ld

set_option Elab.async false
set_option linter.all false
set_option maxRecDepth 100000
set_option maxHeartbeats 4000000
/-! What stands stands, tables may grow; grammars in the heap. -/
namespace Ld
open PySem PySem.Spec PyProof.Rows L2 TL
/-- what stood stands, but that tables stay tables -/
def Up (H H2 : Hp) : Prop := ∀ b o, H b = some o → H2 b = some o ∨ ∃ ps qs, o = .tbl ps ∧ H2 b = some (.tbl qs)
theorem Up.refl (H : Hp) : Up H H := fun _ _ h => .inl h
theorem Up.trans {A B C : Hp} (u : Up A B) (v : Up B C) : Up A C := fun b o h => by
  rcases u b o h with e | ⟨ps, qs, rfl, e⟩
  · exact v b o e
  · rcases v b _ e with e2 | ⟨_, q2, _, e2⟩
    · exact .inr ⟨ps, qs, rfl, e2⟩
    · exact .inr ⟨ps, q2, rfl, e2⟩
theorem Up.dom {A B : Hp} (u : Up A B) {b : Addr} (h : B b = none) : A b = none := by
  cases e : A b with
  | none => rfl
  | some o =>
    rcases u b o e with e2 | ⟨_, _, _, e2⟩
    · rw [h] at e2; cases e2
    · rw [h] at e2; cases e2
theorem Up.lst {A B : Hp} (u : Up A B) {a : Addr} {xs : List V} (h : A a = some (.lst xs)) : B a = some (.lst xs) := by
  rcases u a _ h with e | ⟨_, _, z, _⟩
  · exact e
  · cases z
theorem Up.tup {A B : Hp} (u : Up A B) {a : Addr} {xs : List V} (h : A a = some (.tup xs)) : B a = some (.tup xs) := by
  rcases u a _ h with e | ⟨_, _, z, _⟩
  · exact e
  · cases z
theorem Up.xd {A B : Hp} (u : Up A B) {a : Addr} {fs : List (Str × V)} (h : A a = some (.xd fs)) : B a = some (.xd fs) := by
  rcases u a _ h with e | ⟨_, _, z, _⟩
  · exact e
  · cases z
theorem Up.seq {K : PySem.W.Frag} {A B : Hp} (u : Up A B) {a : Addr} {xs : List V} (h : SqL K A a xs) : SqL K B a xs := by
  rcases h with h | h
  · left
    rcases h with h | ⟨o, h⟩
    · exact .inl (u.lst h)
    · right
      refine ⟨o, ?_⟩
      rcases u a _ h with e | ⟨_, _, z, _⟩
      · exact e
      · cases z
  · exact .inr h
theorem Up.seqT {K : PySem.W.Frag} {A B : Hp} (u : Up A B) {a : Addr} {xs : List V} (h : SqT K A a xs) : SqT K B a xs := by
  rcases h with h | h
  · left
    rcases h with h | ⟨o, h⟩
    · exact .inl (u.tup h)
    · right
      refine ⟨o, ?_⟩
      rcases u a _ h with e | ⟨_, _, z, _⟩
      · exact e
      · cases z
  · exact .inr h
theorem Up.of_same {A B : Hp} (h : Same A B) : Up A B := fun b o e => .inl (h b o e)
theorem Up.upd {A B : Hp} (u : Up A B) {p : Addr} {o : HO} (n : A p = none) : Up A (upd B p o) := fun b x e => by
  have ne : b ≠ p := fun z => by rw [z, n] at e; cases e
  rw [upd_ne ne]
  exact u b x e
theorem Up.put (A : Hp) {p : Addr} {o : HO} (n : A p = none) : Up A (L2.upd A p o) := (Up.refl A).upd n
theorem Up.tabbed {A B : Hp} {T : Addr} (t : GxR.TabG A T) (h : GxR.Tabbed T A B) : Up A B := fun b o e => by
  by_cases z : b = T
  · subst z
    obtain ⟨ps, e1, _⟩ := t
    obtain ⟨qs, e2, _⟩ := h.1
    rw [e1] at e
    cases e
    exact .inr ⟨ps, qs, rfl, e2⟩
  · rw [← h.2 b z] at e
    exact .inl e
/-- the two tables -/
def Tb (T1 T2 : Addr) (H : Hp) : Prop := GxR.TabG H T1 ∧ GxR.TabG H T2
theorem tabG_upd {H : Hp} {T p : Addr} {o : HO} (h : GxR.TabG H T) (n : p ≠ T) : GxR.TabG (upd H p o) T := by
  obtain ⟨ps, e, t⟩ := h
  exact ⟨ps, by rw [upd_ne (Ne.symm n)]; exact e, t⟩
theorem tabG_new {H : Hp} {T p : Addr} {o : HO} (h : GxR.TabG H T) (n : H p = none) : GxR.TabG (upd H p o) T := tabG_upd h fun z => by
  obtain ⟨ps, e, _⟩ := h
  rw [z, e] at n
  cases n
theorem tabG_in {H : Hp} {T p : Addr} {o u : HO} (h : GxR.TabG H T) (n : H p = some u) (k : ∀ ps, u ≠ .tbl ps) : GxR.TabG (upd H p o) T := tabG_upd h fun z => by
  obtain ⟨ps, e, _⟩ := h
  rw [z, e] at n
  cases n
  exact k _ rfl
theorem Tb.new {T1 T2 : Addr} {H : Hp} (t : Tb T1 T2 H) {p : Addr} {o : HO} (n : H p = none) : Tb T1 T2 (upd H p o) := ⟨tabG_new t.1 n, tabG_new t.2 n⟩
theorem Tb.lst {T1 T2 : Addr} {H : Hp} (t : Tb T1 T2 H) {p : Addr} {o : HO} {xs : List V} (n : H p = some (.lst xs)) : Tb T1 T2 (upd H p o) := ⟨tabG_in t.1 n (fun _ z => by cases z), tabG_in t.2 n fun _ z => by cases z⟩
theorem tabbed_other {H H2 : Hp} {T T2 : Addr} (t : GxR.TabG H T2) (h : GxR.Tabbed T H H2) : GxR.TabG H2 T2 := by
  by_cases z : T2 = T
  · rw [z]
    exact h.1
  · obtain ⟨ps, e, k⟩ := t
    exact ⟨ps, by rw [h.2 T2 z]; exact e, k⟩
theorem Tb.on1 {T1 T2 : Addr} {H H2 : Hp} (t : Tb T1 T2 H) (h : GxR.Tabbed T1 H H2) : Tb T1 T2 H2 := ⟨h.1, tabbed_other t.2 h⟩
theorem Tb.on2 {T1 T2 : Addr} {H H2 : Hp} (t : Tb T1 T2 H) (h : GxR.Tabbed T2 H H2) : Tb T1 T2 H2 := ⟨tabbed_other t.1 h, h.1⟩
/-! ### what is new -/
def News (A B : Hp) : Hp := fun a => match A a with
  | none => B a
  | some _ => none
theorem news_of {A B : Hp} {a : Addr} (h : A a = none) : News A B a = B a := by
  unfold News
  rw [h]
theorem news_at {A B : Hp} {a : Addr} {o : HO} (h : News A B a = some o) : A a = none ∧ B a = some o := by
  unfold News at h
  cases e : A a with
  | none =>
    rw [e] at h
    exact ⟨rfl, h⟩
  | some _ =>
    rw [e] at h
    cases h
theorem news_same {A B : Hp} : Same (News A B) B := fun _ _ h => (news_at h).2
theorem News.up {A B C : Hp} (u : Up B C) : Up (News A B) (News A C) := fun b o h => by
  obtain ⟨n, e⟩ := news_at h
  rw [news_of n]
  exact u b o e
theorem News.less {A A2 B : Hp} (d : ∀ b, A2 b = none → A b = none) : Same (News A2 B) (News A B) := fun b o h => by
  obtain ⟨n, e⟩ := news_at h
  rw [news_of (d b n)]
  exact e
theorem News.put {A B : Hp} {p : Addr} {o u : HO} (h : A p = some u) : News A (upd B p o) = News A B := by
  funext b
  unfold News
  cases e : A b with
  | some _ => rfl
  | none =>
    have : b ≠ p := fun z => by rw [z, h] at e; cases e
    simp only
    rw [upd_ne this]
/-! ### rules and grammars in the heap -/
def RuleA (H : Hp) (v : V) (r : Rule) : Prop := ∃ t l, v = .ref t ∧ H t = some (.tup [.str r.1, .ref l]) ∧ H l = some (.lst (r.2.map V.str))
theorem RuleA.up {A B : Hp} (u : Up A B) {v : V} {r : Rule} (h : RuleA A v r) : RuleA B v r := by
  obtain ⟨t, l, e, h1, h2⟩ := h
  exact ⟨t, l, e, u.tup h1, u.lst h2⟩
def GrA (H : Hp) : List V → List Rule → Prop
  | [], [] => True
  | v :: vs, r :: G => RuleA H v r ∧ GrA H vs G
  | _, _ => False
theorem GrA.up {A B : Hp} (u : Up A B) : ∀ {vs : List V} {G : List Rule}, GrA A vs G → GrA B vs G
  | [], [], _ => True.intro
  | _ :: _, _ :: _, h => ⟨h.1.up u, h.2.up u⟩
  | [], _ :: _, h => h.elim
  | _ :: _, [], h => h.elim
theorem GrA.len {A : Hp} : ∀ {vs : List V} {G : List Rule}, GrA A vs G → vs.length = G.length
  | [], [], _ => rfl
  | _ :: _, _ :: _, h => by rw [List.length_cons, List.length_cons, h.2.len]
  | [], _ :: _, h => h.elim
  | _ :: _, [], h => h.elim
theorem GrA.get {A : Hp} : ∀ {vs : List V} {G : List Rule} {i : Nat} {v : V}, GrA A vs G → vs[i]? = some v → ∃ r, G[i]? = some r ∧ RuleA A v r
  | _ :: _, r :: _, 0, _, h, e => by
    cases e
    exact ⟨r, rfl, h.1⟩
  | _ :: _, _ :: _, i + 1, _, h, e => h.2.get (i := i) e
  | [], _, _, _, _, e => by cases e
  | _ :: _, [], _, _, h, _ => h.elim
theorem GrA.snoc {A : Hp} : ∀ {vs : List V} {G : List Rule} {v : V} {r : Rule}, GrA A vs G → RuleA A v r → GrA A (vs ++ [v]) (G ++ [r])
  | [], [], _, _, _, q => ⟨q, True.intro⟩
  | _ :: _, _ :: _, _, _, h, q => ⟨h.1, h.2.snoc q⟩
  | [], _ :: _, _, _, h, _ => h.elim
  | _ :: _, [], _, _, h, _ => h.elim
def GraA (H : Hp) (g : Addr) (G : List Rule) : Prop := ∃ vs, H g = some (.lst vs) ∧ GrA H vs G
theorem GraA.up {A B : Hp} (u : Up A B) {g : Addr} {G : List Rule} (h : GraA A g G) : GraA B g G := by
  obtain ⟨vs, e, q⟩ := h
  exact ⟨vs, u.lst e, q.up u⟩
theorem dp_strs {K : PySem.W.Frag} {H : Hp} : ∀ xs : List Str, DpAll K H (xs.map V.str) (xs.map PyData.str)
  | [] => .nil
  | x :: xs => .cons (.str x) (dp_strs xs)
theorem RuleA.dp {K : PySem.W.Frag} {H : Hp} {v : V} {r : Rule} (h : RuleA H v r) : Dp K H v (ruleD r) := by
  obtain ⟨t, l, rfl, h1, h2⟩ := h
  exact .tup (SqT.of h1) (.cons (.str _) (.cons (.lst (SqL.of h2) (dp_strs _)) .nil))
theorem GrA.dp {K : PySem.W.Frag} {H : Hp} : ∀ {vs : List V} {G : List Rule}, GrA H vs G → DpAll K H vs (G.map ruleD)
  | [], [], _ => .nil
  | _ :: _, _ :: _, h => .cons h.1.dp h.2.dp
  | [], _ :: _, h => h.elim
  | _ :: _, [], h => h.elim
theorem GraA.dp {K : PySem.W.Frag} {H : Hp} {g : Addr} {G : List Rule} (h : GraA H g G) : Dp K H (.ref g) (gD G) := by
  obtain ⟨vs, e, q⟩ := h
  exact .lst (SqL.of e) q.dp
/-- grammars that a law hands in -/
def GoodG (most : Nat) (G : List Rule) : Prop := (∀ r ∈ G, GoodR r) ∧ G.Nodup ∧ G ≠ [] ∧ G.length ≤ most
end Ld

set_option Elab.async false
set_option linter.all false
set_option maxRecDepth 100000
set_option maxHeartbeats 4000000
/-! A generator expression whose element may call defs (and make generators of its own): first over states alone. -/
namespace Gn
open PySem PySem.Spec PyProof.Rows L2
section
variable {prog : Program} {w : World} {A : Around} {elt iter : Expr} {x : Str} {px pos : Pos} {scope : Scope} {it : Addr} {cenv : Env} {n : Nat} {J : Nat → Shared → Prop} {Fn : Shared → Prop} {pb : Nat → Bool}
/-- the code of the block's turn -/
abbrev turnCode (elt iter : Expr) (x : Str) (px pos : Pos) (scope : Scope) (it : Addr) (cenv : Env) : Code := .compLoop (.GeneratorExp elt [⟨.Name x px, iter, [], 0⟩] scope pos) 0 (.ref it) .none cenv
abbrev startCode (elt iter : Expr) (x : Str) (px pos : Pos) (scope : Scope) (it : Addr) (cenv : Env) : Code := .compStart (.GeneratorExp elt [⟨.Name x px, iter, [], 0⟩] scope pos) 0 (.ref it) .none cenv
/-- J i: the i-th turn is about to begin; it holds whatever the table of generators, as long as none is to be cleaned up -/
structure Core (prog : Program) (w : World) (A : Around) (elt iter : Expr) (x : Str) (px pos : Pos) (scope : Scope) (it : Addr) (cenv : Env) (n : Nat) (J : Nat → Shared → Prop) (Fn : Shared → Prop) (pb : Nat → Bool) : Prop where
  co : cenv.scope.isCoroutine = false
  any : ∀ i s g' t', J i s → AllBare g' → J i { s with gens := g', toks := t' }
  bare : ∀ i s, J i s → AllBare s.gens
  self : ∀ (B : Around) (s : Shared) (Q : Value → Shared → Prop) (E : Value → Shared → Prop), J 0 s → Q (.ref it) s → wpAny (model prog w) B (pyIter (.ref it)) Q E s
  done : ∀ s, J n s → wpAny (model prog w) (A.over (turnCode elt iter x px pos scope it cenv) []) (pyNext (.ref it)) (fun r s' => r = none ∧ Fn s') (fun _ _ => False) s
  turn : ∀ i s, i < n → J i s → wpAny (model prog w) (A.over (turnCode elt iter x px pos scope it cenv) []) (pyNext (.ref it)) (fun r s1 => ∃ u, r = some u ∧
    wpAny (model prog w) (A.over (turnCode elt iter x px pos scope it cenv) []) (letOwnedTupleGo (.Name x px) (.ref it) u) (fun _ s0 =>
      wpAny (model prog w) (A.over (turnCode elt iter x px pos scope it cenv) []) (assign (.Name x px) cenv u) (fun _ s2 =>
        wpAny (model prog w) (A.over (turnCode elt iter x px pos scope it cenv) []) (eval elt cenv) (fun y s3 => y = .bool (pb i) ∧ J (i + 1) s3) (fun _ _ => False) s2) (fun _ _ => False) s0) (fun _ _ => False) s1) (fun _ _ => False) s
def endJ (Fn : Shared → Prop) : GenEnd := fun m s₀ r s₁ => r = .ok .next ∧ (m = 0 ∧ Fn s₁)
def outJ (n : Nat) (J : Nat → Shared → Prop) (pb : Nat → Bool) : Protocol := fun m s₀ v s kap => v = .bool (pb (n - 1 - m)) ∧ m < n ∧ J (n - m) s ∧ ∀ s'', J (n - m) s'' → kap (.send .none) s''
theorem seg_turns (C : Core prog w A elt iter x px pos scope it cenv n J Fn pb) : ∀ (k i : Nat) (s₀ s : Shared), n - i = k → i ≤ n → J i s →
    Seg (model prog w) A (endJ Fn) (outJ n J pb) k s₀ (turnCode elt iter x px pos scope it cenv) ((model prog w).den (turnCode elt iter x px pos scope it cenv)) [] s := by
  intro k
  induction k with
  | zero =>
    intro i s₀ s hk hi hJ
    obtain rfl : i = n := by omega
    show Seg _ A _ _ _ s₀ _ ((compTurn (.GeneratorExp elt [⟨.Name x px, iter, [], 0⟩] scope pos) 0 (.ref it) .none cenv).onRaise (leaving cenv)) [] s
    rw [compTurn_gen, Sem.onRaise_eq_wrap]
    refine seg_bind_wrap (wpAny_standAt ?_)
    refine seg_bind_wrap (wpAny_mono (C.done s hJ) (fun r s' hr => ?_) fun _ _ z => False.elim z)
    obtain ⟨rfl, hJ'⟩ := hr
    exact seg_end (.ok .next) ⟨rfl, rfl, hJ'⟩
  | succ k ih =>
    intro i s₀ s hk hi hJ
    have lt : i < n := by omega
    show Seg _ A _ _ _ s₀ _ ((compTurn (.GeneratorExp elt [⟨.Name x px, iter, [], 0⟩] scope pos) 0 (.ref it) .none cenv).onRaise (leaving cenv)) [] s
    rw [compTurn_gen, Sem.onRaise_eq_wrap]
    refine seg_bind_wrap (wpAny_standAt ?_)
    refine seg_bind_wrap (wpAny_mono (C.turn i s lt hJ) (fun r s1 hr => ?_) fun _ _ z => False.elim z)
    obtain ⟨u, rfl, h1⟩ := hr
    refine seg_bind_wrap (wpAny_mono h1 (fun _ s0 h0 => ?_) fun _ _ z => False.elim z)
    refine seg_bind_wrap (wpAny_mono h0 (fun _ s2 h2 => ?_) fun _ _ z => False.elim z)
    refine seg_bind_wrap ?_
    rw [List.forIn_nil]
    refine wpAny_pure ?_
    simp only [if_true]
    have out : ∀ v, yieldOut cenv v = yieldValue v := fun v => by simp only [yieldOut, C.co, Bool.false_eq_true, if_false]
    simp only [out]
    rw [Sem.bind_eq_wrap', Sem.bind_eq_wrap', Sem.wrap_wrap, Sem.wrap_wrap]
    refine seg_wrap (wpAny_mono h2 (fun y s3 h3 => ?_) fun _ _ z => False.elim z)
    obtain ⟨rfl, hJ3⟩ := h3
    have e1 : n - 1 - k = i := by omega
    have e2 : n - k = i + 1 := by omega
    refine seg_at (seg_yield rfl rfl rfl ⟨by show _ = Value.bool (pb (n - 1 - k)); rw [e1], by show k < n; omega, by show J (n - k) s3; rw [e2]; exact hJ3, fun s'' h'' => ?_⟩)
    have h4 : J (i + 1) s'' := by rw [← e2]; exact h''
    exact seg_again rfl (ih (i + 1) s'' s'' (by omega) lt h4)
theorem seg_begins (C : Core prog w A elt iter x px pos scope it cenv n J Fn pb) (s₀ s : Shared) (hJ : J 0 s) :
    Seg (model prog w) A (endJ Fn) (outJ n J pb) n s₀ (startCode elt iter x px pos scope it cenv) ((model prog w).den (startCode elt iter x px pos scope it cenv)) [] s := by
  have loop := seg_turns C n 0 s₀ s (Nat.sub_zero _) (Nat.zero_le _) hJ
  show Seg _ A _ _ _ s₀ _ ((compStart (.GeneratorExp elt [⟨.Name x px, iter, [], 0⟩] scope pos) 0 (.ref it) .none cenv).onRaise (leaving cenv)) [] s
  unfold compStart
  rw [Sem.onRaise_eq_wrap]
  show Seg _ A _ _ _ s₀ _ ((ask >>= _).wrap _ _ _ _) [] s
  refine seg_bind_wrap (wpAny_askSetting ?_)
  split
  · exact seg_again rfl loop
  · first
      | exact seg_bind_wrap (wpAny_rule (seg_bind_wrap (wpAny_standAt (seg_bind_wrap (C.self _ s _ _ hJ (seg_again rfl loop))))))
      | (refine seg_bind_wrap (wpAny_rule ?_); show Seg _ A _ _ _ s₀ _ ((standAt iter.pos >>= _).wrap _ _ _ _) [] s; exact seg_bind_wrap (wpAny_standAt (seg_bind_wrap (C.self _ s _ _ hJ (seg_again rfl loop)))))
/-- the generator a, number g, sleeps ahead of its i-th turn -/
def Asleep (prog : Program) (w : World) (B : Around) (a : Addr) (g : Nat) (n : Nat) (J : Nat → Shared → Prop) (Fn : Shared → Prop) (pb : Nat → Bool) (i : Nat) (s : Shared) : Prop :=
  J i s ∧ ∃ gs, s.gens[g]? = some gs ∧ ∀ s'', J i s'' → gs.Goes (model prog w) B (endJ Fn) (outJ n J pb) (n - i) (.send .none) s''
/-- what the consumer asks of J: the generator's object stands, there is no lid -/
structure Held (a : Addr) (g : Nat) (J : Nat → Shared → Prop) (Fn : Shared → Prop) : Prop where
  gen : ∀ i s, J i s → s.heap.IsGen a g
  lim : ∀ i s, J i s → s.heap.NoLimit
  any : ∀ i s g' t', J i s → AllBare g' → J i { s with gens := g', toks := t' }
  bare : ∀ i s, J i s → AllBare s.gens
  /-- behind the end: the making of StopIteration leaves all as it stands -/
  more : ∀ s h', Fn s → (∀ b o, s.heap.get? b = some o → h'.get? b = some o) → Fn { s with heap := h' }
  anyF : ∀ s g', Fn s → AllBare g' → Fn { s with gens := g' }
  bareF : ∀ s, Fn s → AllBare s.gens
  fin : ∀ i s, J i s → Fn s
theorem set_bare {s : Shared} {g : Nat} {y : GenState} (h : AllBare s.gens) (hy : y.bare = true) : AllBare (s.setGen g y).gens := allBare_setGen h hy
theorem all_turns {a : Addr} {g : Nat} {R : Result → Shared → Prop} (D : Held a g J Fn) (hh : A.handled = none) (hroom : A.depth < recursionLimit) : ∀ (k i : Nat) (s : Shared), n - i = k → i ≤ n → Asleep prog w A.in1.in1 a g n J Fn pb i s →
    (∀ s', Fn s' → R (.ok (.ret (.bool (((List.range n).drop i).all pb)))) s') → codeAny (model prog w) A (.builtin "all.loop" ⟨[.ref a], []⟩) R s := by
  intro k
  induction k with
  | zero =>
    intro i s hk hi hA hR
    obtain rfl : i = n := by omega
    obtain ⟨hJ, gs, hgs, goes⟩ := hA
    rw [Nat.sub_self] at goes
    refine codeAny_builtin F.entry_all_loop ?_
    rw [Around.under_plainId F.plain_all_loop _]
    show wpAny _ A.in1 (pyNext (.ref a) >>= _) _ _ s
    refine wpAny_bind (wpAny_pyNext_genexpQ (A := A.in1) (P := fun m s₀ s₁ => m = 0 ∧ Fn s₁) hh (D.lim i s hJ) hroom (D.gen i s hJ) hgs (goes _ (D.any i s _ s.toks hJ (set_bare (D.bare i s hJ) rfl))) (fun v s₁ gs' hb hv => ?_) (fun s₁ hp h' up => ?_))
    · exact False.elim (hv.2.2.2 _ hv.2.2.1)
    · refine wpAny_bind (wpAny_rule (wpAny_pure ?_))
      have last := hR _ (D.more _ h' (D.anyF s₁ (s₁.setGen g .finished).gens hp.2 (set_bare (D.bareF s₁ hp.2) rfl)) up)
      rw [List.drop_of_length_le (by simp)] at last
      exact last
  | succ k ih =>
    intro i s hk hi hA hR
    obtain ⟨hJ, gs, hgs, goes⟩ := hA
    have lt : i < n := by omega
    have cut : (List.range n).drop i = i :: (List.range n).drop (i + 1) := by
      rw [List.drop_eq_getElem_cons (by simpa using lt)]
      simp
    have gl : g < s.gens.size := (Array.getElem?_eq_some_iff.mp hgs).1
    rw [hk] at goes
    refine codeAny_builtin F.entry_all_loop ?_
    rw [Around.under_plainId F.plain_all_loop _]
    show wpAny _ A.in1 (pyNext (.ref a) >>= _) _ _ s
    refine wpAny_bind (GenW.wpAny_gsz (n := g + 1) gl (wpAny_pyNext_genexpQ (A := A.in1) (P := fun m s₀ s₁ => m = 0 ∧ Fn s₁) hh (D.lim i s hJ) hroom (D.gen i s hJ) hgs (goes _ (D.any i s _ s.toks hJ (set_bare (D.bare i s hJ) rfl))) (fun v s₁ gs' hb hv => ?_) (fun s₁ hp h' up => ?_)))
    · obtain ⟨ev, hm, hJ1, kap⟩ := hv
      intro big
      have e1 : n - 1 - (k + 1 - 1) = i := by omega
      have e2 : n - (k + 1 - 1) = i + 1 := by omega
      rw [e1] at ev
      rw [e2] at hJ1 kap
      subst ev
      have hJ2 : J (i + 1) (s₁.setGen g gs') := D.any (i + 1) s₁ (s₁.setGen g gs').gens s₁.toks hJ1 (set_bare (D.bare _ _ hJ1) hb)
      refine wpAny_bind (wpAny_holding (wpAny_truthy_bool ?_))
      refine wpAny_bind (wpAny_letGo ?_)
      cases hp : pb i with
      | true =>
        simp only [if_true]
        refine wpAny_pure ⟨plainId_quiet F.plain_all_loop _, ih (i + 1) _ (by omega) lt ⟨hJ2, gs', ?_, ?_⟩ fun s' hj => ?_⟩
        · have q : (s₁.setGen g gs').gens.size = s₁.gens.size := GenW.setGen_size _ _ _
          have big' : g + 1 ≤ (s₁.setGen g gs').gens.size := big
          exact setGen_at (by omega)
        · intro s'' h''
          have e3 : n - (i + 1) = k := by omega
          rw [e3]
          exact kap s'' h''
        · have last := hR s' hj
          rw [cut, List.all_cons, hp, Bool.true_and] at last
          exact last
      | false =>
        simp only [Bool.false_eq_true, if_false]
        refine wpAny_bind (wpAny_rule (wpAny_pure ?_))
        have last := hR _ (D.fin (i + 1) _ hJ2)
        rw [cut, List.all_cons, hp, Bool.false_and] at last
        exact last
    · exact absurd hp.1 (Nat.succ_ne_zero k)
end
end Gn

set_option Elab.async false
set_option linter.all false
set_option maxRecDepth 100000
set_option maxHeartbeats 4000000
/-! .. then with the layer's own words: the element is any expression of the block. -/
namespace Gn
open PySem PySem.Spec PyProof.Rows L2
/-- the environment, the context of the inner block; it began at s with H -/
abbrev blkEnv (X : Cx) (scope : Scope) (C : Addr) (code : Value) : Env := genEnv scope (cloFrom X.env.cells scope.names []) C code builtinsNs X.env
abbrev gblk (X : Cx) (B : Around) (s : Shared) (H : Hp) (scope : Scope) (C : Addr) (code : Value) (fp : List Addr) : Cx :=
  { X with A := B, s_0 := s, H_0 := H, env := blkEnv X scope C code, outer := X.stack, stack := blkEnv X scope C code :: X.stack, ex := fp, fn := fun _ => false, calm := true, pn := [], xe := fun _ _ => False }
section
variable {X : Cx} {pins : List (Addr × Obj)} {σ : L2.St} {H : Hp} {s : Shared}
theorem blk_start {scope : Scope} {own : List (Str × Nat)} {fp : List Addr} {B : Around} {code : Value} {h5 : Heap} {g5 : Array GenState} {t5 : Nat} {m : Str → Option Value} (I : Inv X pins σ H s) (hN : X.N.Nodup) (ok : BlkOk X.N X.env.scope scope own) (noCell : ∀ y ∈ scope.names, y.2 ≠ .cell)
    (hfp : ∀ b ∈ fp, FpOk X pins H b ∧ b < s.heap.objs.size) (kp : ∀ b o, s.heap.get? b = some o → h5.get? b = some o) (ns : h5.Ns s.heap.objs.size m) (bare : AllBare g5) (hh : B.handled = none) (fr : B.frames = some (blkEnv X scope s.heap.objs.size code :: X.stack)) :
    Inv (gblk X B s H scope s.heap.objs.size code fp) [] (wipe σ (own.map (·.2))) H { s with heap := h5, gens := g5, toks := t5 } := by
  have has : ∀ y ∈ scope.names, y.2 = .free → ∃ c, X.env.cells.lookup y.1 = some c := fun y hy e => by
    rcases ok.free y hy e with k | k
    · exact I.ok.has _ (.inl k)
    · exact I.ok.has _ (.inr k)
  have mem : ∀ {y c}, (cloFrom X.env.cells scope.names []).lookup y = some c → X.env.cells.lookup y = some c ∧ c < s.heap.objs.size := fun {y c} e => by
    rcases cloFrom_mem (Gc.mem_of_lookup e) with z | ⟨z, rfl⟩
    · cases z
    · obtain ⟨c, hc⟩ := has _ z rfl
      rw [hc]
      obtain ⟨u, q⟩ := I.cell _ _ hc
      exact ⟨rfl, q.lt⟩
  have free_of : ∀ {y : Str}, (scope.names.lookup y = some NameKind.cell ∨ scope.names.lookup y = some NameKind.free) → (y, NameKind.free) ∈ scope.names := fun {y} hy => by
    rcases hy with e | e
    · exact absurd rfl (noCell _ (Gc.mem_of_lookup e))
    · exact Gc.mem_of_lookup e
  have okB : (gblk X B s H scope s.heap.objs.size code fp).Ok := by
    refine ⟨I.ok.mod, ok.kind, I.ok.glob, rfl, Nat.le_refl _, fun y z c e1 e2 => I.ok.inj y z c (mem e1).1 (mem e2).1, fun y hy => ?_, fun y c z _ => Bool.noConfusion z, fun _ => hh, fr, .inr ⟨rfl, rfl⟩, fun b hb => ⟨Nat.ne_of_lt (hfp b hb).2, fun y c e z => ?_⟩, I.bs, Nat.le_trans I.ok.bsz I.sz,
      fun b o e hb => ?_, fun b hb z => ?_, I.stack, I.stkFree⟩
    · obtain ⟨d, hd⟩ := mem_lookup (cloFrom_has (acc := []) (cells := X.env.cells) (free_of hy))
      exact ⟨d, hd⟩
    · exact (hfp b hb).1.2.2.2.2.1 y c (mem e).1 z
    · rcases (hfp b hb).1.2.2.2.1 with z | z
      · exact I.ok.noex b o e z
      · exact absurd (Nat.lt_of_lt_of_le (Heap.lt_size e) (Nat.le_trans I.ok.bsz z)) (Nat.lt_irrefl _)
    · rcases List.mem_cons.mp (I.stkSub b z) with z | z
      · exact (hfp b hb).1.2.1 z
      · exact (hfp b hb).1.2.2.1 z
  refine ⟨okB, rfl, bare, Un.kept kp, ⟨m, ns, fun i y v e1 e2 e3 => ?_⟩, fun y c e => ?_, I.hok.fresh (Nat.le_refl _), fun y c e => I.freeC y c (mem e).1, fun p hp => absurd (show p ∈ ([] : List (Addr × Obj)) ++ [] from hp) (by simp), I.hok.kept kp, by rw [wipe_length]; exact I.len⟩
  · obtain ⟨e2', out⟩ := wipe_some e2
    have vis : scope.names.lookup y = some .local ∨ scope.names.lookup y = some .cell ∨ scope.names.lookup y = some .free := e3
    have isFree : scope.names.lookup y = some .free := by
      have own_no : ∀ k : NameKind, scope.names.lookup y = some k → (k = .local ∨ k = .cell) → False := fun k e hk => by
        rcases ok.own _ (Gc.mem_of_lookup e) hk with z | z
        · obtain ⟨p, hp, py⟩ := List.mem_map.mp z
          have q := ok.ix p hp
          rw [show p.1 = y from py] at q
          exact out (List.mem_map.mpr ⟨p, hp, nd_ix hN q e1⟩)
        · exact z (List.mem_of_getElem? e1)
      rcases vis with e | e | e
      · exact (own_no _ e (.inl rfl)).elim
      · exact (own_no _ e (.inr rfl)).elim
      · exact e
    have inner : (y, NameKind.free) ∈ scope.names := Gc.mem_of_lookup isFree
    obtain ⟨m0, _, hl⟩ := I.loc
    have visX : Vis X.env.scope y := (ok.free _ inner rfl).elim (fun k => .inr (.inl k)) fun k => .inr (.inr k)
    obtain ⟨u, r, q⟩ := hl i y v e1 e2' visX
    refine ⟨u, r, .inr ⟨.inr isFree, ?_⟩⟩
    rcases q with ⟨k, _⟩ | ⟨_, c, hc, z⟩
    · have k : X.env.scope.names.lookup y = some .local := k
      rcases ok.free _ inner rfl with k' | k' <;> rw [show X.env.scope.names.lookup y = _ from k'] at k <;> cases k
    · exact ⟨c, Gc.cap_lookup inner hc, z.keeps kp⟩
  · obtain ⟨u, z⟩ := I.cell y c (mem e).1
    exact ⟨u, z.keeps kp⟩
theorem inv_regen {Y : Cx} {pn : List (Addr × Obj)} {τ : L2.St} {H' : Hp} {s' : Shared} (I : Inv Y pn τ H' s') (g : Array GenState) (t : Nat) (hb : AllBare g) : Inv Y pn τ H' { s' with gens := g, toks := t } :=
  ⟨I.ok, I.os, hb, I.base, I.loc, I.cell, I.free, I.freeC, I.pin, I.hok, I.len⟩
/-- all(elt for x in iter): x's slot ix; the def's table may grow first; W by the turn and the heap -/
def tAllN (P : Addr) (wi : TI) (ix : Nat) (te : TE) : TE := fun σ H Q => wi σ H fun J H1 => GxR.TabG H1 P ∧ ∀ H2, GxR.Tabbed P H1 H2 → ∃ (n : Nat) (pb : Nat → Bool) (W : Nat → Hp → Prop), W 0 H2 ∧
  (∀ i H3, i < n → W i H3 → J.go i H3 ∧ ∀ x H4, J.yld i H3 x H4 → te ((wipe σ [ix]).set ix (some x)) H4 fun y H5 => y = .bl (pb i) ∧ W (i + 1) H5) ∧ (∀ H3, W n H3 → J.stop n H3) ∧ ∀ i H3, W i H3 → Q (.bl ((List.range n).all pb)) H3
theorem pe_allN {c P : Addr} {elt iter : Expr} {x : Str} {px p pos gpos : Pos} {scope : Scope} {wi : TI} {te : TE} {k ix : Nat}
    (hr : Room (k + 1) X.A) (hg : Gl X "all") (hm : X.mg "all" = none) (hb : bootBuiltins "all" = some (.builtin "all")) (TB : GxR.TabB X.base X.mg c P) (hcode : X.env.code = .ref c) (hN : X.N.Nodup) (S : Gc.GenSc X.env.scope scope x) (ok : BlkOk X.N X.env.scope scope [(x, ix)]) (hx : X.N[ix]? = some x)
    (hi : PI X (.Name x px) iter wi) (hel : ∀ (B : Around) (s : Shared) (H : Hp) (C : Addr) (code : Value) (fp : List Addr), Room k B → PE (gblk X B s H scope C code fp) elt te) (hs : ∀ v, genFold iter X.env v = pure v)
    (he : starEach [.GeneratorExp elt [⟨.Name x px, iter, [], 0⟩] scope gpos] X.env = (false, eval (.GeneratorExp elt [⟨.Name x px, iter, [], 0⟩] scope gpos) X.env) :: starEach [] X.env := by rfl) :
    PE X (.Call (.Name "all" p) [.GeneratorExp elt [⟨.Name x px, iter, [], 0⟩] scope gpos] [] pos) (tAllN P wi ix te) := by
  refine ⟨fun pins s σ H Q I h => ?_⟩
  have has : ∀ y ∈ scope.names, y.2 = .free → ∃ a, X.env.cells.lookup y.1 = some a := fun y hy e => I.ok.has _ (.inl (S.free y hy e))
  refine wpAny_Call_Name_kw (ld_blt I hg hm hb ?_)
  refine PyProof.Rows.callWith_builtin1 ?_ he (by rfl)
  rw [he]
  show wpAny _ _ (spliced (_ :: backTo pos (starEach [] X.env))) _ _ _
  refine Calls.spliced_cons ?_
  refine wpAny_GeneratorExp_make S.co (closure_ok has) S.cell S.dot S.kind (by have := hr.dp; omega) ?_ hs
  refine thn (hi.run pins s σ H _ I h) fun xv s1 h1 => thn h1 fun itv s2 h2 => ?_
  obtain ⟨it, fp, tn, J, H1, rfl, I1, T, st, ffp, ⟨ps, hP, trip⟩, want⟩ := h2
  have tab1 : s2.heap.get? P = some { cls := .none, data := .fields ps } := I1.hok P _ hP
  refine ⟨I1.nolimit, Gc.code_either hcode (TB.code.keeps fun b u e => I1.bk b u e) tab1 trip fun code h3 tk more ext big tab3 trip3 => ?_⟩
  have I2 := GxR.inv_tab (more := more) (h' := h3) (g' := s2.gens) (d' := s2.drawn) (t' := tk) I1 hP ext tab3 I1.bare
  have grown : GxR.Tabbed P H1 (upd H1 P (.tbl (ps ++ more))) := ⟨⟨_, upd_same, trip3⟩, fun b ne => upd_ne ne⟩
  obtain ⟨n, pb, W, w0, step, stop, fin⟩ := want _ grown
  have nP : ∀ b ∈ fp, b ≠ P := fun b hb z => by
    have q := (ffp b hb).1
    rw [z, hP] at q
    cases q
  have fH2 : ∀ b ∈ fp, FpOk X pins (upd H1 P (.tbl (ps ++ more))) b := fun b hb => ⟨by rw [upd_ne (nP b hb)]; exact (ffp b hb).1, (ffp b hb).2⟩
  generalize hH2 : upd H1 P (.tbl (ps ++ more)) = H2 at I2 w0 fH2
  generalize hs3 : ({ s2 with heap := h3, gens := s2.gens, drawn := s2.drawn, toks := tk } : Shared) = s3 at I2
  have eh3 : s3.heap = h3 := by rw [← hs3]
  have st3 : tn 0 s3.heap := T.keep _ _ _ st fun b hb o e => by rw [eh3]; exact ext b o (nP b hb) e
  obtain ⟨bm, ob, b1, b2, b3, b4, b5, b6, b7, b8⟩ := TB.bm
  refine wpAny_builtinsFor (m := X.mg) (by rw [I2.ok.glob]; exact I2.mod.glob.keeps I2.bk) b1 b2 (I2.bk _ _ b5) b6 b7 b8 ?_
  intro h4 ns same
  have sz4 : h4.objs.size = s3.heap.objs.size + 1 := by rw [same.1, Heap.size_push]
  have up4 : ∀ b o, s3.heap.get? b = some o → h4.get? b = some o := fun b o e => same.extBut b o (Nat.ne_of_lt (Heap.lt_size e)) (Heap.get?_push_of_some _ e)
  generalize hgo : ({ cls := .type "generator", data := .fields #[.int s3.gens.size 0, .str "<genexpr>" (s3.toks + 1), .str (X.env.qual ++ "<genexpr>") (s3.toks + 1 + 1)] } : Obj) = go
  have isGen : ∀ h : Heap, h.get? h4.objs.size = some go → h.IsGen h4.objs.size s3.gens.size := fun h e => by
    subst hgo
    exact ⟨_, _, _, e, rfl, rfl, rfl⟩
  have new4 : (h4.push go).get? h4.objs.size = some go := by
    subst hgo
    exact Heap.get?_push_size _ rfl
  have offStack : ∀ b, s3.heap.objs.size ≤ b → b ∉ frs X.stack := fun b hb z => by
    rcases List.mem_cons.mp (I2.stkSub b z) with q | q
    · rw [q] at hb
      exact absurd (Nat.lt_of_lt_of_le I2.lt hb) (Nat.lt_irrefl _)
    · exact I2.nofs hb q
  have up5 : ∀ b o, s3.heap.get? b = some o → (h4.push go).get? b = some o := fun b o e => Heap.get?_push_of_some _ (up4 b o e)
  let B : Around := X.A.in1.in1.over (turnCode elt iter x px gpos scope it (blkEnv X scope s3.heap.objs.size code)) []
  have hhB : B.handled = none := hr.hd
  have frB : B.frames = some (blkEnv X scope s3.heap.objs.size code :: X.stack) := by
    have q : X.A.frames = some X.stack := I2.ok.frames
    show pushEnvs [blkEnv X scope s3.heap.objs.size code] X.A.frames = _
    rw [q]
    rfl
  have roomB : Room k B := ⟨hhB, by have := hr.dp; show X.A.depth + 0 + 1 + 3 * k + 5 < _; omega, by have := hr.un; show X.A.units + 1 + 1 + 0 + 3 + 16 * k + 200 < _; omega⟩
  have lt3 : ∀ b ∈ fp, b < s3.heap.objs.size := fun b hb => by
    obtain ⟨o, e, _⟩ := T.obj _ _ st3 b hb
    exact Heap.lt_size e
  have start := blk_start (B := B) (code := code) (h5 := h4.push go) (g5 := s3.gens.push (.fresh (startCode elt iter x px gpos scope it (blkEnv X scope s3.heap.objs.size code)))) (t5 := s3.toks + 1 + 1 + 1) (own := [(x, ix)]) (fp := fp) I2 hN ok S.cell (fun b hb => ⟨fH2 b hb, lt3 b hb⟩) up5 (ns.push go) (I2.bare.push rfl) hhB frB
  have w1 : wipe σ ([(x, ix)].map (·.2)) = wipe σ [ix] := rfl
  rw [w1] at start
  generalize hY : gblk X B s3 H2 scope s3.heap.objs.size code fp = Y at start
  have a_ne : h4.objs.size ≠ s3.heap.objs.size := by omega
  have pinned : ∀ {τ : L2.St} {H' : Hp} {s' : Shared}, Inv Y [] τ H' s' → s'.heap.get? h4.objs.size = some go → H' h4.objs.size = none → Inv Y [(h4.objs.size, go)] τ H' s' := fun {τ H' s'} K e e2 => K.pins_of fun q hq => by
    obtain rfl := List.mem_singleton.mp hq
    refine ⟨e, e2, by rw [← hY]; exact a_ne, by rw [← hY]; exact offStack _ (by rw [sz4]; exact Nat.le_succ _), fun v z => ?_⟩
    rw [← hgo] at z
    cases z
  have Ypn : Y.pn = [] := by rw [← hY]
  have Yfp : ∀ {H' : Hp}, (∀ b ∈ fp, H' b = none) → ∀ b ∈ fp, FpOk Y [(h4.objs.size, go)] H' b := fun {H'} hn b hb => by
    have okY := start.ok
    have hex : b ∈ Y.ex := by rw [← hY]; exact hb
    refine ⟨hn b hb, (okY.exf b hex).1, okY.exfs b hex, .inl hex, fun y c e => (okY.exf b hex).2 y c e, fun q hq => ?_⟩
    rw [Ypn, List.nil_append] at hq
    obtain rfl := List.mem_singleton.mp hq
    intro z
    have l := lt3 b hb
    have e : b = s3.heap.objs.size + 1 := (show h4.objs.size = b from z).symm.trans sz4
    rw [e] at l
    exact absurd l (Nat.not_lt.mpr (Nat.le_succ _))
  have st5 : tn 0 (h4.push go) := T.keep _ _ _ st3 fun b _ o e => up5 b o e
  have start2 := pinned start new4 (by
    have q := start.hok.fresh (a := h4.objs.size)
    exact I2.hok.fresh (by rw [sz4]; exact Nat.le_succ _))
  -- the i-th turn is about to begin
  let Js : Nat → Shared → Prop := fun i s' => ∃ H', Inv Y [(h4.objs.size, go)] (wipe σ [ix]) H' s' ∧ tn i s'.heap ∧ (∀ b ∈ fp, H' b = none) ∧ W i H'
  let Fs : Shared → Prop := fun s' => ∃ i H', Inv Y [(h4.objs.size, go)] (wipe σ [ix]) H' s' ∧ W i H'
  have held : Held h4.objs.size s3.gens.size Js Fs := {
    gen := fun i s' ⟨H', K, _⟩ => isGen _ (K.pin (h4.objs.size, go) (List.mem_append_right _ (List.mem_singleton.mpr rfl))).1
    lim := fun i s' ⟨H', K, _⟩ => K.nolimit
    any := fun i s' g' t' ⟨H', K, a1, a2, a3⟩ hb => ⟨H', inv_regen K g' t' hb, a1, a2, a3⟩
    bare := fun i s' ⟨H', K, _⟩ => K.bare
    more := fun s' h' ⟨i, H', K, a3⟩ up => ⟨i, H', K.kept (t' := s'.toks) up, a3⟩
    anyF := fun s' g' ⟨i, H', K, a3⟩ hb => ⟨i, H', inv_regen K g' s'.toks hb, a3⟩
    bareF := fun s' ⟨_, H', K, _⟩ => K.bare
    fin := fun i s' ⟨H', K, _, _, a3⟩ => ⟨i, H', K, a3⟩ }
  have progs : Y.prog = X.prog ∧ Y.w = X.w ∧ Y.K = X.K ∧ Y.calm = true ∧ Y.A = B ∧ Y.N = X.N ∧ Y.xe = fun _ _ => False := by
    rw [← hY]
    exact ⟨rfl, rfl, rfl, rfl, rfl, rfl, rfl⟩
  obtain ⟨y1, y2, y3, y4, y5, y6, y7⟩ := progs
  have pe := hel B s3 H2 s3.heap.objs.size code fp roomB
  rw [hY] at pe
  have pg : PG Y (.Name x px) (gName ix) := by
    rw [← hY]
    exact pg_name hN hx (.inl S.loc) (.inr S.loc)
  have envY : Y.env = blkEnv X scope s3.heap.objs.size code := by rw [← hY]
  have core : Core X.prog X.w X.A.in1.in1 elt iter x px gpos scope it (blkEnv X scope s3.heap.objs.size code) n Js Fs pb := {
    co := S.co
    any := held.any
    bare := held.bare
    self := fun B' s' Q' E' ⟨H', K, a1, _⟩ q => T.self B' 0 s' Q' E' a1 q
    done := fun s' ⟨H', K, a1, a2, a3⟩ => by
      have td := T.done Y y1 y2 y3 y4 n [(h4.objs.size, go)] s' _ H' (fun _ _ => False) K (Yfp a2) a1 (stop H' a3)
      rw [y5] at td
      exact thn td fun r s'' ⟨hr, K2⟩ => ⟨hr, n, H', K2, a3⟩
    turn := fun i s' lt ⟨H', K, a1, a2, a3⟩ => by
      obtain ⟨go_, item⟩ := step i H' lt a3
      have ti := T.item Y y1 y2 y3 y4 i [(h4.objs.size, go)] s' _ H' (fun _ _ => False) K (Yfp a2) a1 go_
      rw [y5] at ti
      refine thn ti fun r s6 ⟨u, hr, h6⟩ => ⟨u, hr, ?_⟩
      refine thn h6 fun _ s7 ⟨xv, H7, K7, r7, q7, st7, n7⟩ => ?_
      have K7' := K7.pinned (Yfp n7) (T.obj _ _ st7)
      have pa := pg.run _ s7 _ H7 xv u (fun σ' H' => σ' = (wipe σ [ix]).set ix (some xv) ∧ H' = H7) K7' r7 ⟨rfl, rfl⟩
      rw [y1, y2, y5, y7, envY] at pa
      refine thn pa fun _ s8 ⟨σ8, H8, K8, e8, e8'⟩ => ?_
      subst e8 e8'
      have pv_ := pe.run _ s8 _ H8 _ K8 (item xv H8 q7)
      rw [y1, y2, y5, y7, envY] at pv_
      refine thn pv_ fun y s9 ⟨v, H9, K9, rv, ev, w9⟩ => ?_
      subst ev
      have pin' : ∀ b ∈ fp, ∀ o, s7.heap.get? b = some o → s9.heap.get? b = some o ∧ H9 b = none := fun b hb o e =>
        let z := K9.pin (b, o) (List.mem_append_right _ (List.mem_append_right _ (mem_pinsAt hb e)))
        ⟨z.1, z.2.1⟩
      refine ⟨rv, H9, (K9.unpinned (pins := [(h4.objs.size, go)])).weak ?_ fun j v e => ?_, T.keep _ _ _ st7 fun b hb o e => (pin' b hb o e).1, fun b hb => ?_, w9⟩
      · rw [List.length_set]
      · obtain ⟨_, out⟩ := wipe_some e
        rw [List.getElem?_set_ne (fun z => out (by rw [z]; exact List.mem_singleton.mpr rfl))]
        exact e
      · obtain ⟨o, e, _⟩ := T.obj _ _ st7 b hb
        exact (pin' b hb o e).2 }
  -- the call of all
  refine Calls.spliced_nil ?_
  refine call_function_tree F.kind_all F.plain_all F.entry_all (F.args_all1 _) ?_
  unfold Builtin.«all»
  refine wpAny_bind (m := oneArg "all" _) (wpAny_pure ?_)
  refine wpAny_bind (wpAny_pyIter_gen (isGen _ new4) ?_)
  have hs' : Asleep X.prog X.w X.A.in1.in1 h4.objs.size s3.gens.size n Js Fs pb 0 { s3 with heap := h4.push go, gens := s3.gens.push (.fresh (startCode elt iter x px gpos scope it (blkEnv X scope s3.heap.objs.size code))), toks := s3.toks + 1 + 1 + 1 } :=
    ⟨⟨H2, start2, st5, fun b hb => (fH2 b hb).1, w0⟩, _, Array.getElem?_push_size .., fun s'' h'' => ⟨rfl, seg_begins core s'' s'' h''⟩⟩
  refine wpAny_pure ⟨plainId_quiet F.plain_all_loop _, all_turns held hr.hd (by have := hr.dp; omega) n 0 _ rfl (Nat.zero_le _) hs' fun s' hF => ?_⟩
  obtain ⟨i, H', K, wi'⟩ := hF
  have back : Inv X pins σ H' s' := by
    have b0 : Un (frs X.stack) fp H2 H' s3.heap s'.heap := by
      have q := K.base
      rw [← hY] at q
      exact q
    have o0 : s'.os = s3.os := by
      have q := K.os
      rw [← hY] at q
      exact q
    have k0 : HOk X.prog X.w H' s'.heap := by
      have q := K.hok
      rw [← hY] at q
      exact q
    exact I2.call' (ch := fp) o0 b0 k0 K.bare fun b hb => ⟨(fH2 b hb).2.2.2.1, (fH2 b hb).2.1, (fH2 b hb).2.2.2.2.1, (fH2 b hb).2.2.2.2.2⟩
  exact ⟨.bl _, H', back, rfl, fin i H' wi'⟩
end
end Gn

set_option Elab.async false
set_option linter.all false
set_option maxRecDepth 100000
set_option maxHeartbeats 4000000
/-! Errors of own classes as values: made by a call, their field read, isinstance asked. -/
namespace PySem.W
open PySem PySem.Spec PySem.Calls PyProof.Rows
section
variable {prog : Program} {w : World} {A : Around} {E : Value → Shared → Prop} {s : Shared} {K : Frag} {x D : Addr} {ox : Obj} {od : Option Obj}
/-- its class, where the error has a dict of its own -/
theorem ask_class {Q : Option Value → Shared → Prop} (lead : findIn K (.ref D) "__getattribute__" = some (some (.builtin "BaseException.__getattribute__"))) (noGet : findIn K (.ref D) "__getattr__" = some none) (below : subIn K (.ref D) (.type "BaseException") = some true)
    (found : findObj K D od "__class__" = some (.bind (.builtin "getset_descriptor.__get__") (.builtin "object.__class__"))) (top : mroIn K D (.type "object") = some true) (Y : K.In s.heap) (J : InstAt s.heap x ox D od) (done : Q (some (.ref D)) { s with toks := s.toks + 1 }) :
    wpAny (model prog w) A (getAttr? (.ref x) "__class__") Q E s := by
  obtain ⟨hp, g, d, t, os⟩ := s
  have its := J.type (M := model prog w)
  have other : (Value.builtin "BaseException.__getattribute__" == Value.builtin "object.__getattribute__") = false := by decide +kernel
  have plain : (onTheHeap (Value.ref D) && Value.builtin "BaseException.__getattribute__" == Value.builtin "object.__getattribute__") = false := by rw [other, Bool.and_false]
  unfold getAttr? getAttrBy? getAttrBy
  refine wpAny_bind (wpAny_mkText (wpAny_bind (wpAny_attempt (wpAny_holding (wpAny_bind (its.at (wpAny_bind ((looks_findIn Y lead).at ?_))))))))
  show wpAny _ _ (ite ((onTheHeap (Value.ref D) && Value.builtin "BaseException.__getattribute__" == Value.builtin "object.__getattribute__") = true) _ _) _ _ _
  rw [plain, if_neg Bool.false_ne_true]
  unfold getAttrByItsOwn hookBefore
  refine wpAny_bind ?_
  rw [if_pos (show onTheHeap (Value.ref D) = true from rfl)]
  refine (looks_findIn Y noGet).at (wpAny_bind (wpAny_attempt (wpAny_holding ?_)))
  unfold callGetattribute
  rw [show (false && onTheHeap (Value.builtin "BaseException.__getattribute__")) = false from rfl, if_neg Bool.false_ne_true]
  unfold boundAndCalled
  rw [PySem.F.excAttr_ValueError.ga.bind (.ref x)]
  refine wpAny_bind (wpAny_pure ?_)
  show wpAny _ _ (call (.builtin "BaseException.__getattribute__") [.ref x, .str "__class__" t]) _ _ _
  refine wpAny_call (codeAny_call_builtin PySem.F.excAttr_ValueError.ga.plain PySem.F.entry_bexc_ga ?_)
  refine @check_slot (model prog w) _ _ ⟨hp, g, d, t + 1, os⟩ "BaseException.__getattribute__" "BaseException" "__getattribute__" (.ref x) [.str "__class__" t] [] _ (by decide +kernel) (by decide +kernel) (its.andThen (looks_subIn Y below)) (PySem.F.args_bexc_ga (.ref x) (.str "__class__" t)) ?_
  unfold Builtin.«object.__getattribute__»
  refine wpAny_bind (wpAny_of_eq (a := ((Value.ref x : Value), [Value.str "__class__" t])) (by first | rfl | (simp only [slotArgs]; rfl)) ?_)
  refine wpAny_bind (wpAny_pure (wpAny_bind (its.at (wpAny_bind ((looks_find Y J found).at ?_)))))
  show wpAny _ _ (holding [Value.builtin "object.__class__"] (call (.builtin "getset_descriptor.__get__") [.builtin "object.__class__", .ref x, .ref D]) >>= ret) _ _ _
  refine wpAny_bind (wpAny_holding (wpAny_call (class_get (s := ⟨hp, g, d, t + 1, os⟩) (ox := ox) (od := od) Y J top (wpAny_pure ?_))))
  show wpAny _ _ (handedOut (.ref D)) _ _ _
  rw [handedOut_of (v := .ref D) rfl]
  first
    | exact wpAny_pure (wpAny_pure done)
    | exact wpAny_pure done
    | exact wpAny_pure (wpAny_bind (wpAny_pure (wpAny_pure done)))
theorem cls_there (have_ : hasDictIn K D = true) : ∃ c d cd sl, K.lookup D = some ⟨c, d, .cls cd, sl⟩ := by
  obtain ⟨cd, hc, _⟩ := any_some have_
  unfold clsIn at hc
  split at hc
  · rename_i c d cd' sl ho
    exact ⟨c, d, cd', sl, ho⟩
  · cases hc
end
end PySem.W
namespace PySem.W
open PySem PySem.Spec PySem.Calls PyProof.Rows
theorem kit_err {K : Frag} {x D : Addr} {ox od : Obj} (lead : findIn K (.ref D) "__getattribute__" = some (some (.builtin "BaseException.__getattribute__"))) (noGet : findIn K (.ref D) "__getattr__" = some none) (below : subIn K (.ref D) (.type "BaseException") = some true) (have_ : hasDictIn K D = true)
    (found : findObj K D (some od) "__class__" = some (.bind (.builtin "getset_descriptor.__get__") (.builtin "object.__class__"))) (top : mroIn K D (.type "object") = some true) : KitX K (.ref x) (.ref D) (fun h => InstAt h x ox D (some od)) := by
  obtain ⟨c, d, cd, sl, at_⟩ := cls_there have_
  refine ⟨fun _ _ _ J => J.type, fun _ _ Y _ => ?_, fun h tp dd its n sl Y e => ?_, fun Y J q => ask_class lead noGet below found top Y J q⟩
  · intro A' Q' E' s' up q
    unfold isType loadHead
    exact wpAny_bind (wpAny_loadPart (up _ _ (Y _ _ at_)) (wpAny_pure q))
  · refine Bool.eq_false_iff.mpr fun q => ?_
    have same : D = tp := Value.ref.inj (beq_iff_eq.mp q)
    rw [← same] at e
    have two := (Y _ _ at_).symm.trans e
    cases two
end PySem.W
namespace Le
open PySem PySem.Spec PyProof.Rows L2
/-- what the written part says of an error's class, for its making, its field «at», and isinstance -/
structure ErrC (K : PySem.W.Frag) (C fI : Addr) : Prop where
  oex : OexC K C
  exc : ExcC K C
  ini : PySem.W.findIn K (.ref C) "__init__" = some (some (.ref fI))
  tyI : PySem.W.typeIn K (.ref fI) = some (.type "function")
  noAt : PySem.W.findIn K (.ref C) "at" = some none
/-- at a: an error of the class at C, made of the integer n -/
def ErrAt (H : Hp) (a C d : Addr) (n : Int) : Prop := H a = some (exo a C (some d)) ∧ H d = some (exd d [(("at" : Str), V.int n)])
def spInit (K : PySem.W.Frag) : Sp := fun vs H Q _ => ∃ (a C fI : Addr) (n : Int), vs = [.ref a, .int n] ∧ ErrC K C fI ∧ H a = some (exo a C none) ∧
  ∀ d, H d = none → d ≠ a → Q .non (upd (upd H d (exd d [(("at" : Str), V.int n)])) a (exo a C (some d)))
section
variable {X : Cx}
/-- C(e, ..) as a value, C's __init__ keeping sp -/
def tErr (C : Addr) (sp : Sp) (ta : TA) : TE := fun σ H Q => ta σ H fun vs H1 => vs.length ≤ 1000 ∧ ∀ a, H1 a = none → sp (.ref a :: (vs ++ [])) (upd H1 a (exo a C none)) (fun v H2 => v = .non ∧ Q (.ref a) H2) (fun _ _ _ => False)
theorem pe_err {e : Expr} {es : List Expr} {ta : TA} {CX : CXT} {x : Str} {C fI : Addr} {k : Nat} {fd : FuncData} {ps : List Str} {sp : Sp} {p pos : Pos} (T : ErrC X.K C fI) (G : FnOk X.prog X.w X.K X.mg X.base CX k fI fd ps sp) (hr : Room (k + 1) X.A) (hb : Binds X.K fd ps []) (hx : Passes CX X (fun _ _ _ => False)) (hg : Gl X x) (hm : X.mg x = some (.ref C)) (ha : PA X (e :: es) ta)
    (hdb : (x == ("__debug__" : Str)) = false := by decide) (he : starEach (e :: es) X.env = (false, eval e X.env) :: starEach es X.env := by rfl) (hpl : (backTo pos (starEach es X.env)).any (·.1) = false := by rfl) : PE X (.Call (.Name x p) (e :: es) [] pos) (tErr C sp ta) := by
  refine ⟨fun pins s σ H Q I h => ?_⟩
  obtain ⟨nm, q, N, bs, bm, sn, sub, ab, col, dd, k0, k1, k2, k3, k5, obj, base⟩ := T.oex.cls
  refine wpAny_Call_Name_kw (ld_glob I hg hm ?_ hdb)
  refine PySem.W.callWith_K (h₀ := X.base) I.ok.mod.kin T.oex.kC (thn (ha.run pos pins s σ H _ I h) fun us s1 got => ?_) he hpl
  obtain ⟨vs, H1, J, rel, few, want⟩ := got
  refine ⟨J.kIn, ?_⟩
  obtain ⟨hp, g, dr, tk, os⟩ := s1
  have next : hp.objs.size ≤ hp.objs.size + 1 := Nat.le_succ _
  have promise := want _ (J.hok.fresh next)
  have J2 : Inv X pins σ (upd H1 (hp.objs.size + 1) (exo (hp.objs.size + 1) C none)) ⟨(hp.push (PySem.W.kdv_tup us)).push (PySem.HandSPX.excO C hp.objs.size), g, dr, tk, os⟩ :=
    J.laid (t' := tk) (fun b o e => Heap.get?_push_of_some _ (Heap.get?_push_of_some _ e)) next (exo_ok (show Heap.get? _ (hp.objs.size + 1) = some (PySem.HandSPX.excO C hp.objs.size) by heap_get))
  have rel2 : Vals (V.ref (hp.objs.size + 1) :: (vs ++ [])) (Value.ref (hp.objs.size + 1) :: (us ++ [])) := .cons rfl (rel.append .nil)
  have count : (Value.ref (hp.objs.size + 1) :: us ++ []).length = ps.length := by
    have e := rel2.length
    rw [G.len _ _ _ _ promise] at e
    exact e.symm
  have room : us.length ≤ sizeLine := by
    rw [← Paired.length rel, sizeLine_eq]
    omega
  show wpAny _ _ (call (.ref C) us) _ _ _
  refine wpAny_call (PySem.HandSPX.call_own F.excBase_ValueError (fun Y => PySem.HandSPX.refsVE_contains Y bm base) (J.kIn _ _ obj) (PySem.W.looks_findIn J.kIn T.ini) (fun self => PySem.W.bind_fn J.kIn self T.tyI) room
    (codeAny_mono (G.run _ X.stack _ _ ⟨Value.ref (hp.objs.size + 1) :: us, []⟩ (Value.ref (hp.objs.size + 1) :: (us ++ [])) _ _ (fun _ _ _ => False) (hr.make C us []) (J2.env0.make C us []) (by have z := hb _ (Value.ref (hp.objs.size + 1) :: us) J2.kIn count; rw [List.cons_append] at z; exact z) rel2 promise) fun r s' left => ?_))
  cases r with
  | error er => exact hx pins σ _ _ er s' J2 left
  | ok fl =>
    cases fl with
    | ret u =>
      obtain ⟨v, H2, os2, bare2, un2, ok2, rv, isNon, q2⟩ := left
      subst isNon
      exact ⟨rv, .ref (hp.objs.size + 1), H2, J2.call' (ch := []) os2 un2 ok2 bare2 (fun b z => absurd z (by simp)), rfl, q2⟩
    | next => exact False.elim left
    | brk => exact False.elim left
    | cont => exact False.elim left
/-- e.at, e an error -/
def tAt (K : PySem.W.Frag) (te : TE) : TE := fun σ H Q => te σ H fun x H1 => ∃ (a C d fI : Addr) (n : Int), x = .ref a ∧ ErrC K C fI ∧ ErrAt H1 a C d n ∧ Q (.int n) H1
theorem inst_of {pins : List (Addr × Obj)} {σ : L2.St} {H : Hp} {s : Shared} {a C d : Addr} {n : Int} (I : Inv X pins σ H s) (h : ErrAt H a C d n) : ∃ (ox od : Obj) (mA : Str → Option Value), PySem.W.InstAt s.heap a ox C (some od) ∧ (∀ f : Str, PySem.W.lookIn f od = some (mA f)) ∧ ∀ f : Str, RelO ([(("at" : Str), V.int n)].lookup f) (mA f) := by
  obtain ⟨t1, ho⟩ := exo_at I.hok h.1
  obtain ⟨mA, ns, rel⟩ := exd_at I.hok h.2
  obtain ⟨od, hd, hl⟩ := lookIn_ns ns
  exact ⟨_, od, mA, ⟨ho, rfl, rfl, hd⟩, hl, rel⟩
theorem pe_at {e : Expr} {te : TE} {pos : Pos} (he : PE X e te) (hb : attributeBase e "at" X.env (eval e X.env) = eval e X.env := by rfl) : PE X (.Attribute e "at" pos) (tAt X.K te) := by
  refine ⟨fun pins s σ H Q I h => ?_⟩
  refine attr_of hb (thn (he.run pins s σ H _ I h) fun u s1 got => ?_)
  obtain ⟨x, H1, J, rx, a, C, d, fI, n, rfl, T, at_, q⟩ := got
  obtain rfl : u = Value.ref a := rx
  obtain ⟨ox, od, mA, inst, look, rel⟩ := inst_of J at_
  have l : List.lookup ("at" : Str) [(("at" : Str), V.int n)] = some (V.int n) := by simp [List.lookup]
  obtain ⟨v, hv, rv⟩ := RelO.some_of (v := V.int n) (o := mA "at") (by rw [← l]; exact rel "at")
  exact HandSPX.exc_get J.kIn inst T.exc.hg T.exc.hk T.exc.hs (PySem.W.findObj_own T.exc.hd T.noAt rfl (by rw [look, hv])) (handed_of rv) ⟨.int n, H1, J.tok _, rv, q⟩
/-- isinstance(e, c), e an error -/
def rIsErr (K : PySem.W.Frag) : List V → Hp → VK → Prop := fun xs H Q => ∃ (a C d fI : Addr) (n : Int) (c : V) (cv : Value) (b : Bool), xs = [.ref a, c] ∧ ClsV c cv ∧ ErrC K C fI ∧ ErrAt H a C d n ∧ PySem.W.kitOne K (.ref C) cv = some b ∧ Q (.bl b) H
theorem call_isErr : CallR X (.builtin "isinstance") (rIsErr X.K) := by
  intro pins s σ H xs us Q I r h
  obtain ⟨a, C, d, fI, n, c, cv, b, rfl, cl, T, at_, kit, q⟩ := h
  obtain ⟨u1, u2, rfl, r1, r2⟩ := vals2 r
  obtain rfl := cl.eq r2
  obtain rfl : u1 = Value.ref a := r1
  obtain ⟨ox, od, mA, inst, _, _⟩ := inst_of I at_
  have there : (PySem.W.clsIn X.K C).isSome = true := by
    obtain ⟨cd, hc, _⟩ := PySem.W.any_some T.exc.hd
    rw [hc]
    rfl
  exact PySem.W.kia_one (PySem.W.kit_err T.exc.hg T.exc.hk T.exc.hs T.exc.hd (PySem.W.findObj_data there T.exc.ha T.exc.hn T.exc.ht) T.exc.hm) I.kIn inst kit (fun z => nomatch z) fun tk => ⟨.bl b, H, I.tok tk, rfl, q⟩
end
end Le

set_option Elab.async false
set_option linter.all false
set_option maxRecDepth 100000
set_option maxHeartbeats 4000000
/-! try with several except clauses, each with or without a name. -/
namespace Lt
open PySem PySem.Spec PyProof.Rows L2
/-- one clause: the class, the slot of its name if it has one, what its suite asks -/
abbrev Cl := Value × Option Nat × (Addr → Value → Option Addr → TS)
/-- the ends of a suite: the name's slot is emptied -/
def emptied (D : Ends) (o : Option Nat) : Ends := match o with
  | none => D
  | some i => { nx := fun σ' H' => D.nx (σ'.set i none) H', rt := D.rt, bk := fun σ' H' => D.bk (σ'.set i none) H', ct := fun σ' H' => D.ct (σ'.set i none) H' }
def named (o : Option Nat) (a : Addr) (σ : L2.St) : L2.St := match o with
  | none => σ
  | some i => σ.set i (some (.ref a))
/-- the wish of the clauses, one after the other -/
def wCls (K : PySem.W.Frag) (Wo : WX) (D : Ends) : List Cl → WX
  | [] => Wo
  | q :: r => fun cls d σ H => ∃ b, PySem.W.exmOne K cls q.1 = some b ∧ (b = true → ∀ a, H a = none → q.2.2 a cls d (emptied D q.2.1) (named q.2.1 a σ) H) ∧ (b = false → wCls K Wo D r cls d σ H)
/-- the clause's name is a local in slot i, or there is none -/
def NameAt (X : Cx) : Option Str → Option Nat → Prop
  | none, none => True
  | some n, some i => X.N[i]? = some n ∧ X.env.kindOf n = some .local
  | _, _ => False
inductive ClsOk (X : Cx) : List ExceptHandler → List Cl → Prop
  | nil : ClsOk X [] []
  | cons {x : Str} {nm : Option Str} {c : Value} {o : Option Nat} {ts : Addr → Value → Option Addr → TS} {b₀ : Stmt} {suite : List Stmt} {np pos' : Pos} {hds : List ExceptHandler} {l : List Cl} (hc : Names X x c) (hn : NameAt X nm o)
      (hsu : ∀ (a : Addr) (oe : Obj) (cls : Value) (d : Option Addr) (pn : List (Addr × Obj)), Zc cls d oe → (∃ vs, oe.data = .fields vs) → PSs (X.suite a ((a, oe) :: pn)) (b₀ :: suite) (ts a cls d)) (r : ClsOk X hds l) :
      ClsOk X (.ExceptHandler (some (.Name x np)) nm (b₀ :: suite) pos' :: hds) ((c, o, ts) :: l)
section
variable {X : Cx} {pins : List (Addr × Obj)} {D : Ends} {Wo : WX}
/-- the clauses are asked -/
theorem asks (tk : Takes X Wo) (hs : X.stack = X.env :: X.outer) (hf : X.env.frame = some X.env.locals) (hN : X.N.Nodup) {B : Heap} {s' : Shared} {h3 : Heap} {a : Addr} {σ : L2.St} {H : Hp} {cls : Value} {d : Option Addr}
    (J3 : ∀ h4, HandSPX.FlyingZ B (X.env :: X.outer) a (Zc cls d) h4 → h3.UpToSlots h4 → Inv X pins σ H { s' with heap := h4 })
    (out : ∀ h4, HandSPX.HeldZ B (X.env :: X.outer) a (Zc cls d) X.env.locals h4 → h3.UpToSlots h4 → Wo cls d σ H → XE X Wo (.ref a) { s' with heap := h4 })
    (fl : HandSPX.FlyingZ B (X.env :: X.outer) a (Zc cls d) h3) (na : H a = none) {hds : List ExceptHandler} {l : List Cl} (ok : ClsOk X hds l) (want : wCls X.K Wo D l cls d σ H) :
    wpAny (model X.prog X.w) X.A (handleBy (.ref a) X.env hds) (SP X pins D) X.xe { s' with heap := h3 } := by
  have I3 := J3 h3 fl (Heap.UpToSlots.refl _)
  have frame : ∀ {h : Heap} {o : Obj} {vs : Array Value}, h.FunFrames B (X.env :: X.outer) → h.get? a = some o → o.data = .fields vs → a ∉ frs (X.env :: X.outer) := by
    intro h o vs ff e dd hm
    obtain ⟨_, o2, e2, out2⟩ := ff.mem hm
    rw [e] at e2
    cases e2
    exact out2 _ dd
  obtain ⟨oe3, vs3, he3, hz3, hd3⟩ := fl.there
  have nfr := frame fl.2.2.1 he3 hd3
  have nL : a ≠ X.env.locals := fun z => nfr (List.mem_filterMap.mpr ⟨X.env, List.mem_cons_self, by rw [hf, z]⟩)
  have nF : a ∉ X.fs := by
    intro hm
    obtain ⟨e, he, q⟩ := List.mem_filterMap.mp hm
    exact nfr (List.mem_filterMap.mpr ⟨e, List.mem_cons_of_mem _ he, q⟩)
  have S3 := I3.suite he3 hd3 na nL nF
  have LT : PySem.W.Looks (model X.prog X.w) h3 (typeOf (.ref a)) cls := fun A Q E s k q => wpAny_typeOf_ref (k _ _ he3) (by rw [hz3.1]; exact q)
  induction ok with
  | nil =>
    refine wpAny_handleBy_nil ?_
    obtain ⟨k1, k2, k3, oe, vs, T, oT, ts2, he, hz, hd, h1, hr⟩ := id fl
    unfold PySem.passOn
    refine wpAny_bind (wpAny_field he hd h1 ?_)
    rw [if_neg (show ¬ ((Value.ref T == Value.none) = true) from by simp)]
    have fin : wpAny (model X.prog X.w) X.A (setFlight (.ref a) X.env.frame) (fun _ s4 => wpAny (model X.prog X.w) X.A (throw (.ref a) : Sem Flow) (SP X pins D) X.xe s4) X.xe { s' with heap := h3 } := by
      rw [hf]
      exact HandSPX.setFlight_upZ fl fun h4 hh4 up4 => wpAny_throw (tk _ _ (out h4 hh4 up4 want))
    first
      | exact wpAny_bind (wpAny_pure (wpAny_bind fin))
      | exact wpAny_bind fin
  | @cons x nm c o ts b₀ suite np pos' hds2 l2 hc hn hsu r ih =>
    obtain ⟨b, hb1, yes, no⟩ := want
    refine wpAny_handleBy_cons (codeAny_handlers_test ?_) (by intro q; cases q)
    have LM := PySem.W.exm_one (M := model X.prog X.w) (I3.kIn) LT hb1
    have test : ∀ {Q E : Value → Shared → Prop}, Q c { s' with heap := h3 } → wpAny (model X.prog X.w) (X.A.mark (some (.ref a))) (eval (.Name x np) X.env) Q E { s' with heap := h3 } := by
      intro Q E q
      obtain ⟨hg, hdbg, hm | ⟨hm, hv, hnn⟩⟩ := hc
      · exact ld_glob (X := X.suite a ((a, oe3) :: (X.pn ++ pins))) S3 hg hm q hdbg
      · exact ld_blt (X := X.suite a ((a, oe3) :: (X.pn ++ pins))) S3 hg hm hv q hnn hdbg
    refine test (LM.here ?_)
    cases b with
    | false => exact ih (no rfl)
    | true =>
      have want2 := yes rfl a na
      cases nm with
      | none =>
        cases o with
        | some i => exact hn.elim
        | none =>
          refine codeAny_handlers_suite (HandSPX.lands_againZ fl fun h4 fl4 up4 => ?_)
          obtain ⟨oe4, vs4, he4, hz4, hd4⟩ := fl4.there
          have S4 := (J3 h4 fl4 up4).suite he4 hd4 na nL nF
          refine wpAny_mono ((hsu a oe4 cls d (X.pn ++ pins) hz4 ⟨_, hd4⟩).run [] _ _ H _ S4 want2) (fun f s6 hsp => ?_) (fun _ _ z => False.elim z)
          cases f
          all_goals
            first
              | (obtain ⟨σ6, H6, S6, q6⟩ := hsp; exact ⟨_, _, S6.unsuite I3.ok, q6⟩)
              | (obtain ⟨v6, σ6, H6, S6, r6, q6⟩ := hsp; exact ⟨_, _, _, S6.unsuite I3.ok, r6, q6⟩)
      | some n =>
        cases o with
        | none => exact hn.elim
        | some i =>
          obtain ⟨hi, hln⟩ := hn
          refine codeAny_handlers_suite_as (HandSPX.lands_againZ fl fun h4 fl4 up4 => ?_)
          obtain ⟨oe4, vs4, he4, hz4, hd4⟩ := fl4.there
          have S4 := (J3 h4 fl4 up4).suite he4 hd4 na nL nF
          refine store_ok (X := X.suite a ((a, oe4) :: (X.pn ++ pins))) (v := .ref a) S4 hN hi (.inl hln) rfl (fun s5 S5 => ?_) (.inr hln)
          refine wpAny_mono ((hsu a oe4 cls d (X.pn ++ pins) hz4 ⟨_, hd4⟩).run [] s5 _ H _ S5 want2) (fun f s6 hsp => ?_) (fun _ _ z => False.elim z)
          cases f
          all_goals
            first
              | (obtain ⟨σ6, H6, S6, q6⟩ := hsp; exact gone_ok (S6.unsuite I3.ok) hN hi hln fun s7 J7 => ⟨_, _, J7, q6⟩)
              | (obtain ⟨v6, σ6, H6, S6, r6, q6⟩ := hsp; exact gone_ok (S6.unsuite I3.ok) hN hi hln fun s7 J7 => ⟨_, _, _, J7, r6, q6⟩)
theorem ps_try_cls {body : List Stmt} {h₀ : ExceptHandler} {hds : List ExceptHandler} {l : List Cl} {pos : Pos} {tb : WX → TS} (hs : X.stack = X.env :: X.outer) (hf : X.env.frame = some X.env.locals) (hN : X.N.Nodup) (tk : Takes X Wo)
    (hb : ∀ (W : WX) (pn : List (Addr × Obj)) (xe : Value → Shared → Prop), Takes (X.tr pn xe) W → PassesOwn (model X.prog X.w) X.A X.env xe → PSs (X.tr pn xe) body (tb W))
    (hh : ClsOk X (h₀ :: hds) l) : PS X (.Try body (h₀ :: hds) [] [] pos) (fun D σ H => tb (wCls X.K Wo D l) D σ H) := by
  refine ⟨fun pins s σ H D I h => ?_⟩
  have ok := I.ok
  have hfr : X.A.frames = some (X.env :: X.outer) := ok.frames.trans (congrArg some hs)
  refine wpAny_Try_except (wpAny_mono ((hb (wCls X.K Wo D l) (X.pn ++ pins) (fun e s₁ => wpAny (model X.prog X.w) X.A (noteFrame e X.env) (fun _ s₂ => wpAny (model X.prog X.w) X.A (setFlight e none)
    (fun _ s₃ => wpAny (model X.prog X.w) X.A (handleBy e X.env (h₀ :: hds)) (SP X pins D) X.xe s₃) X.xe s₂) X.xe s₁) (fun u s' xx => ?_) PassesOwn.looking).run [] s σ H D (I.toTry _) h) (fun f s1 hsp => ?_) (fun e s1 he => he))
  · obtain ⟨a, B, sI, pins', σ', H', cls, d, rfl, J', nb, up, sky, na, os, ag, w⟩ := xx
    have J : Inv X pins σ' H' sI := J'.ofTry ok
    refine Sky.land (s := s') (E₁ := X.xe) Zc.steady hfr hf (hs ▸ sky) fun h3 fl3 up3 => ?_
    refine asks tk hs hf hN (B := B) (fun h4 fl4 up4 => J.landed nb fl4.1 ((up.trans up3).trans up4) os ag) (fun h4 hh4 up4 wo => ?_) fl3 na hh w
    exact ⟨a, B, sI, pins, σ', H', cls, d, rfl, J, nb, (up.trans up3).trans up4, .inr (.inr (hs.symm ▸ hh4)), na, os, ag, wo⟩
  · cases f
    case next =>
      obtain ⟨σ', H', J', q⟩ := hsp
      exact wpAny_execs_nil ⟨σ', H', J'.ofTry ok, q⟩
    case ret u =>
      obtain ⟨v, σ', H', J', r, q⟩ := hsp
      exact ⟨v, σ', H', J'.ofTry ok, r, q⟩
    all_goals
      obtain ⟨σ', H', J', q⟩ := hsp
      exact ⟨σ', H', J'.ofTry ok, q⟩
end
end Lt

set_option Elab.async false
set_option linter.all false
set_option maxRecDepth 100000
set_option maxHeartbeats 4000000
namespace Ld
open PySem PySem.Spec PyProof.Rows L2 Le
def topS (i : Nat) : Stmt := PySem.Challenge.pw_leastmend_k01_texts_of_grammars.main.body.getD i (.Pass ⟨0, 0, 0, 0⟩)
abbrev sInit : Stmt := inClass (topS 1) 0
abbrev sKind : Stmt := topS 9
abbrev sName : Stmt := topS 10
abbrev sWord : Stmt := topS 11
abbrev sWrite : Stmt := topS 12
abbrev sLine : Stmt := topS 13
abbrev sRead : Stmt := topS 14
abbrev sNext : Stmt := topS 15
abbrev sRule : Stmt := topS 16
abbrev sSym : Stmt := topS 17
abbrev sNames : Stmt := topS 18
abbrev sDraws : Stmt := topS 20
abbrev sAt : Stmt := topS 21
abbrev sMix : Stmt := topS 23
abbrev sGram : Stmt := topS 24
abbrev sWrit : Stmt := topS 25
abbrev sSpoil : Stmt := topS 26
abbrev sLSym : Stmt := topS 27
abbrev sLRead : Stmt := topS 28
abbrev sTold : Stmt := topS 29
abbrev sLaw : Stmt := topS 30
section
variable {P : Program} {w : World} {K : PySem.W.Frag} {mg : Str → Option Value} {base : Heap}
/-! ### the law's own draws -/
theorem scDr : FnScope ["script", "draws", "k", "rest", "turn", "mixed"] ["script"] (defScope sDraws) := ⟨rfl, rfl, rfl, by decide +kernel, rfl, by decide +kernel, by decide +kernel⟩
/-- a new list of the draws; what stood stands -/
def spDraws (K : PySem.W.Frag) : Sp := fun vs H Q _ => ∃ (a : Addr) (ns : List Int), vs = [.ref a] ∧ SqL K H a (ns.map V.int) ∧ ns.length ≤ 63 ∧
  ∀ p, H p = none → Q (.ref p) (upd H p (.lst ((drawsOf ns).map V.int)))
theorem ok_draws {f : Addr} {fd : FuncData} {k : Nat} (F : Fun K "_law_draws" "_law_draws" sDraws f fd) (mr : mg "range" = none) (mm : mg "min" = none) (ml : mg "len" = none) (ma : mg "abs" = none) (mi : mg "int" = none) :
    FnOk P w K mg base CX0 (k + 1) f fd ["script"] (spDraws K) := by
  refine F.ok scDr (fun vs H Q E h => ?_) (fun cdv A outer s H vs Q E hr h => ?_)
  · obtain ⟨a, ns, rfl, _⟩ := h
    rfl
  · obtain ⟨a, ns, rfl, hS, hlen, q⟩ := h
    refine ⟨_, pss_cons (ps_set (i := 1) scDr.nd rfl (.inl rfl) (pe_lst pa_nil))
      (pss_cons (ps_for PassesOwn.never rfl (pi_range1 rfl mr (pa_cons (pe_callB (call_min2 rfl) (by rfl) mm (by decide +kernel) (pa_cons pe_int (pa_cons (pe_callB call_len_seq (by rfl) ml PySem.boot_len (pa_cons (pv 0) pa_nil)) pa_nil))) pa_nil))
          (pg_name (i := 2) scDr.nd rfl (.inl rfl))
        (pss_cons (ps_set (i := 3) scDr.nd rfl (.inl rfl) (pe_callB call_abs (by rfl) ma (by decide +kernel) (pa_cons (pe_ix ix_list (pv 0) (pv 2) (fun _ _ => rfl)) pa_nil)))
        (pss_one (ps_if (pt_cmpR op_ge (pv 3) (pe_op op_pow pe_int pe_int) (nomark _))
          (pss_one (ps_for PassesOwn.never rfl (pi_range1 rfl mr (pa_cons pe_int pa_nil)) (pg_name (i := 4) scDr.nd rfl (.inl rfl))
            (pss_one (ps_if (pt_cmpR op_gt (pv 3) pe_int (nomark _))
              (pss_cons (ps_expr (pe_bm PySem.F.plainAttrs_list PySem.F.slot_list_append PySem.F.type_list_append mt_append (pv 1) (pa_cons (pe_op op_mod (pe_callTy call_int1 (by rfl) mi (by decide +kernel) (pa_cons (pv 3) pa_nil)) pe_int) pa_nil)))
              (pss_one (ps_set (i := 3) scDr.nd rfl (.inl rfl) (pe_op op_fdiv (pv 3) pe_int)))) pss_nil))))
          (pss_cons (ps_set (i := 5) scDr.nd rfl (.inl rfl) (pe_op op_mod (pe_callTy call_int1 (by rfl) mi (by decide +kernel) (pa_cons (pe_op op_add (pe_op op_mul (pv 3) pe_int) (pe_op op_mul (pe_op op_add (pv 2) pe_int) pe_int)) pa_nil)) pe_int))
          (pss_cons (ps_set (i := 5) scDr.nd rfl (.inl rfl) (pe_op op_mod (pe_callTy call_int1 (by rfl) mi (by decide +kernel) (pa_cons (pe_op op_add (pe_op op_add (pe_op op_mul (pv 5) pe_int) (pe_op op_mul pe_int (pv 2))) pe_int) pa_nil)) pe_int))
          (pss_cons (ps_expr (pe_bm PySem.F.plainAttrs_list PySem.F.slot_list_append PySem.F.type_list_append mt_append (pv 1) (pa_cons (pe_op op_mod (pe_callTy call_int1 (by rfl) mi (by decide +kernel) (pa_cons (pv 5) pa_nil)) pe_int) pa_nil)))
          (pss_one (ps_expr (pe_bm PySem.F.plainAttrs_list PySem.F.slot_list_append PySem.F.type_list_append mt_append (pv 1) (pa_cons (pe_op op_mod (pe_callTy call_int1 (by rfl) mi (by decide +kernel) (pa_cons (pe_op op_fdiv (pv 5) pe_int) pa_nil)) pe_int) pa_nil)))))))))))
      (pss_one (ps_ret (pv 1)))), ?_⟩
    -- draws = []
    refine ⟨Nat.zero_le _, fun o no => ?_⟩
    have s1 : Same H (upd H o (.lst [])) := same_upd no
    have nao : ∀ G : HO, SqL K (upd H o G) a (ns.map V.int) := fun G => (same_upd no).seq hS
    have hi62 : (ns.length : Int) < 2 ^ 62 := by omega
    -- range(min(63, len(script)))
    have ej : (if ((ns.map V.int).length : Int) < 63 then ((ns.map V.int).length : Int) else 63) = (ns.length : Int) := by
      rw [List.length_map]
      split <;> omega
    refine ⟨.ref a, rfl, a, ns.map V.int, rfl, .inl (s1.seq hS), 63, _, rfl, _, rfl, by rw [ej]; omega, by rw [ej]; omega, ?_⟩
    rw [ej]
    refine for_range (lo := 0) (n := ns.length) (fun i σ H' => ∃ v2 v3 v4 v5, σ = [some (.ref a), some (.ref o), v2, v3, v4, v5] ∧ H' = upd H o (.lst ((drawsN ns i).map V.int))) ⟨none, none, none, none, rfl, rfl⟩ ?_ ?_
    · rintro i σ H' hi ⟨v2, v3, v4, v5, rfl, rfl⟩
      have gi := getI hi
      have hSi := nao (.lst ((drawsN ns i).map V.int))
      have hl := drawsN_len ns i
      -- rest = abs(script[k])
      refine ⟨.ref a, rfl, _, rfl, a, _, _, _, rfl, rfl, hSi, at_of (j := i) (by omega) gi, ns.getD i 0, rfl, ?_⟩
      rw [Int.zero_add]
      refine ⟨_, rfl, _, _, rfl, rfl, ⟨by decide, by decide, by decide⟩, _, _, rfl, rfl, _, rfl, ite2 (fun c => ?_) (fun c => ?_)⟩
      · -- the digits
        have c1 : (10 : Int) ^ (18 : Int).toNat ≤ dabs (ns.getD i 0) := of_decide_eq_true c
        have e1 : drawsN ns (i + 1) = (diter 60 (dabs (ns.getD i 0), drawsN ns i)).2 := if_pos c1
        refine ⟨60, rfl, by decide, by decide, for_range (lo := 0) (n := 60) (fun j σ H' => ∃ v4, σ = [some (.ref a), some (.ref o), some (.int i), some (.int (diter j (dabs (ns.getD i 0), drawsN ns i)).1), v4, v5] ∧ H' = upd H o (.lst ((diter j (dabs (ns.getD i 0), drawsN ns i)).2.map V.int)))
          ⟨v4, rfl, rfl⟩ ?_ ?_⟩
        · rintro j σ H' hj ⟨w4, rfl, rfl⟩
          have hl2 := diter_len (dabs (ns.getD i 0), drawsN ns i) j
          generalize hp : diter j (dabs (ns.getD i 0), drawsN ns i) = p at hl2
          have e2 : diter (j + 1) (dabs (ns.getD i 0), drawsN ns i) = dstep p := by rw [← hp]; rfl
          refine ⟨_, rfl, _, _, rfl, rfl, _, rfl, ite2 (fun c2 => ?_) (fun c2 => ?_)⟩
          · have e3 : dstep p = (p.1 / 65536, p.2 ++ [p.1 % 65536]) := if_pos (of_decide_eq_true c2)
            refine ⟨.ref o, rfl, .inl ⟨rfl, _, SqL.of upd_same⟩, _, rfl, .inl ⟨_, rfl, _, _, rfl, rfl, (by show (0 : Int) < 65536; decide), o, _, _, rfl, rfl, upd_same, ?_, _, rfl, _, _, rfl, rfl, ⟨by decide, by decide⟩, some (.int (0 + j)), ?_, ?_⟩⟩
            · rw [List.length_map]
              refine small4000 ?_
              have hl3 : (drawsN ns i).length ≤ 60 * i := hl
              have hl4 : p.2.length ≤ (drawsN ns i).length + j := hl2
              omega
            · rw [e2, e3]
              rfl
            · rw [e2, e3, upd_upd, List.map_append]
              rfl
          · have e3 : dstep p = p := if_neg fun z => c2 (decide_eq_true z)
            refine ⟨some (.int (0 + j)), ?_, ?_⟩
            · rw [e2, e3]
              rfl
            · rw [e2, e3]
        · rintro σ H' ⟨w4, rfl, rfl⟩
          exact ⟨_, _, _, _, rfl, by rw [e1]⟩
      · -- two mixed numbers
        have e1 : drawsN ns (i + 1) = drawsN ns i ++ [dmix2 i (dabs (ns.getD i 0)) % 65536] ++ [dmix2 i (dabs (ns.getD i 0)) / 65536 % 32768] := if_neg fun z => c (decide_eq_true z)
        refine ⟨_, rfl, _, _, rfl, rfl, .inr ⟨by decide, by decide⟩, _, rfl, _, _, rfl, rfl, _, _, rfl, rfl, .inr ⟨by decide, by decide⟩, _, _, rfl, rfl, .inl ⟨_, rfl, _, _, rfl, rfl, (by show (0 : Int) < 2147483647; decide), ?_⟩⟩
        refine ⟨_, rfl, _, _, rfl, rfl, .inr ⟨by decide, by decide⟩, _, rfl, _, _, rfl, rfl, .inl ⟨by decide, by decide⟩, _, _, rfl, rfl, _, _, rfl, rfl, .inl ⟨_, rfl, _, _, rfl, rfl, (by show (0 : Int) < 2147483629; decide), ?_⟩⟩
        refine ⟨.ref o, rfl, .inl ⟨rfl, _, SqL.of upd_same⟩, _, rfl, .inl ⟨_, rfl, _, _, rfl, rfl, (by show (0 : Int) < 65536; decide), o, _, _, rfl, rfl, upd_same, ?_, ?_⟩⟩
        · rw [List.length_map]
          exact small4000 (by omega)
        refine ⟨.ref o, rfl, .inl ⟨rfl, _, SqL.of upd_same⟩, _, rfl, _, _, rfl, rfl, ⟨by decide, by decide⟩, .inl ⟨_, rfl, _, _, rfl, rfl, (by show (0 : Int) < 32768; decide), o, _, _, rfl, rfl, upd_same, ?_, ?_⟩⟩
        · rw [List.length_append, List.length_map]
          exact small4000 (by show (drawsN ns i).length + 1 ≤ 4000; omega)
        refine ⟨_, _, _, _, rfl, ?_⟩
        rw [e1, upd_upd, upd_upd, List.map_append, List.map_append]
        rfl
    · rintro σ H' ⟨v2, v3, v4, v5, rfl, rfl⟩
      exact ⟨.ref o, rfl, q o no⟩
/-! ### a draw below many -/
theorem scAt : FnScope ["draws", "k", "many"] ["draws", "k", "many"] (defScope sAt) := ⟨rfl, rfl, rfl, by decide +kernel, rfl, by decide +kernel, by decide +kernel⟩
def spAt (K : PySem.W.Frag) : Sp := fun vs H Q _ => ∃ (a : Addr) (ds : List Int) (k many : Int), vs = [.ref a, .int k, .int many] ∧ SqL K H a (ds.map V.int) ∧ 0 ≤ k ∧ 0 < many ∧ Q (.int (atD ds k many)) H
theorem ok_at {f : Addr} {fd : FuncData} {k : Nat} (F : Fun K "_law_at" "_law_at" sAt f fd) (ml : mg "len" = none) (mi : mg "int" = none) :
    FnOk P w K mg base CX0 (k + 1) f fd ["draws", "k", "many"] (spAt K) := by
  refine F.ok scAt (fun vs H Q E h => ?_) (fun cdv A outer s H vs Q E hr h => ?_)
  · obtain ⟨a, ds, k, many, rfl, _⟩ := h
    rfl
  · obtain ⟨a, ds, k, many, rfl, hS, h0, hm, q⟩ := h
    refine ⟨_, pss_cons (ps_if (pt_cmpR op_lt (pv 1) (pe_callB call_len_seq (by rfl) ml PySem.boot_len (pa_cons (pv 0) pa_nil)) (nomark _))
        (pss_one (ps_ret (pe_op op_mod (pe_callTy call_int1 (by rfl) mi (by decide +kernel) (pa_cons (pe_ix ix_list (pv 0) (pv 1) (fun _ _ => rfl)) pa_nil)) (pv 2)))) pss_nil)
      (pss_one (ps_ret pe_int)), ?_⟩
    refine ⟨_, rfl, _, rfl, a, _, rfl, .inl hS, _, _, rfl, rfl, _, rfl, ite2 (fun c => ?_) (fun c => ?_)⟩
    · have c1 : k < ((ds.map V.int).length : Int) := of_decide_eq_true c
      rw [List.length_map] at c1
      have gi := getI (ns := ds) (i := k.toNat) (by omega)
      refine ⟨_, rfl, _, rfl, a, _, _, _, rfl, rfl, hS, at_of (j := k.toNat) (by omega) gi, .inl ⟨_, rfl, _, rfl, _, _, rfl, rfl, hm, ?_⟩⟩
      have e : atD ds k many = ds.getD k.toNat 0 % many := if_pos c1
      show Q (.int (ds.getD k.toNat 0 % many)) H
      rw [← e]
      exact q
    · have c1 : ¬ k < ((ds.map V.int).length : Int) := fun z => c (decide_eq_true z)
      rw [List.length_map] at c1
      have e : atD ds k many = 0 := if_neg c1
      show Q (.int 0) H
      rw [← e]
      exact q
/-! ### words of letters -/
/-- as Fun.ok, the def's code told -/
theorem okT {x qual : Str} {st : Stmt} {f c : Addr} {fd : FuncData} {N ps : List Str} {k : Nat} {sp : Sp} (F : Fun K x qual st f fd) (hc : fd.code = .ref c) (S : FnScope N ps (defScope st)) (len : ∀ vs H Q E, sp vs H Q E → vs.length = ps.length)
    (hbody : ∀ (A : Around) (outer : List Env) (s : Shared) (H : Hp) (vs : List V) (Q : VK) (E : XK), Room k (A.deeper (envOfC qual (defScope st) s.heap.objs.size f (.ref c))) → sp vs H Q E →
      ∃ t, PSs (cxOf CX0 P w K mg base N qual (defScope st) f (.ref c) A outer s H E).nox (defBody st) t ∧ t { nx := fun _ H' => Q .non H', rt := Q } (start N vs) H) : FnOk P w K mg base CX0 (k + 1) f fd ps sp := by
  obtain ⟨oc, od, kV, doc, pm, an, cdv, ct, osl, rfl, lk, hcd⟩ := F.ex
  have e : cdv = .ref c := hc
  subst e
  refine fn_of lk hcd S len fun A outer s H vs Q E hr hsp => ?_
  obtain ⟨t, h, q⟩ := hbody A outer s H vs Q E hr hsp
  exact ⟨t, h.nox, q⟩
theorem scW : FnScope ["text", "first", "last"] ["text", "first", "last"] (defScope sWord) := ⟨rfl, rfl, rfl, by decide +kernel, rfl, by decide +kernel, by decide +kernel⟩
def spWord (T : Addr) : Sp := fun vs H Q _ => ∃ (z lo hi : Str), vs = [.str z, .str lo, .str hi] ∧ z.length ≤ sizeLine ∧ GxR.TabG H T ∧ ∀ H2, GxR.Tabbed T H H2 → Q (.bl (wordB z lo hi)) H2
theorem wFree : ∀ y ∈ ([((".0" : Str), NameKind.local), ("letter", NameKind.local), ("first", NameKind.free), ("last", NameKind.free)] : List (Str × NameKind)), y.2 = .free → (defScope sWord).names.lookup y.1 = some .cell := by decide +kernel
theorem wCell1 : (defScope sWord).names.lookup ("first" : Str) = some NameKind.cell := by decide +kernel
theorem wCell2 : (defScope sWord).names.lookup ("last" : Str) = some NameKind.cell := by decide +kernel
theorem ok_word {f c T : Addr} {fd : FuncData} {k : Nat} (F : Fun K "_is_word" "_is_word" sWord f fd) (hc : fd.code = .ref c) (TB : GxR.TabB base mg c T) (ml : mg "len" = none) (ma : mg "all" = none) {tk : Tok} (mm : mg "MOST_LETTERS" = some (.int 12 tk)) :
    FnOk P w K mg base CX0 (k + 1) f fd ["text", "first", "last"] (spWord T) := by
  refine okT F hc scW (fun vs H Q E h => ?_) (fun A outer s H vs Q E hr h => ?_)
  · obtain ⟨z, lo, hi, rfl, _⟩ := h
    rfl
  · obtain ⟨z, lo, hi, rfl, hz, tg, q⟩ := h
    refine ⟨_, pss_one (ps_ret (pe_and (pe_chain op_le op_le pe_int (pe_callB call_len_str (by rfl) ml PySem.boot_len (pa_cons (pv 0) pa_nil)) (pe_glob (v := .int 12) rfl mm ⟨_, rfl⟩))
      (pe_one (Gc.pe_allG hr (by rfl) ma (by decide +kernel) TB rfl ⟨rfl, rfl, by decide +kernel, rfl, rfl, wFree⟩ (pv 0) (fun _ => rfl))))), ?_⟩
    refine ⟨_, rfl, z, rfl, hz, _, _, rfl, rfl, _, rfl, ite2 (fun c1 => ?_) (fun c1 => ?_)⟩
    · refine ⟨_, _, rfl, rfl, _, rfl, ite2 (fun c2 => ?_) (fun c2 => ?_)⟩
      · refine ⟨_, rfl, z.cps.size, PySem.SignAt z, fun k => Gc.between lo hi (z.cps.getD k 0), fun pins s1 xv I r => ?_, tg, fun H2 hT => ?_⟩
        · obtain ⟨t, rfl⟩ := r
          obtain ⟨ps, hP, _⟩ := tg
          exact ⟨Gc.src_str I hP, Gc.elt_between (i := 1) (j := 2) I hP rfl rfl rfl rfl wCell1 wCell2 rfl rfl rfl rfl⟩
        · have e : wordB z lo hi = z.cps.toList.all (Gc.between lo hi) := by
            unfold wordB
            rw [c1, c2]
            rfl
          have q2 := q H2 hT
          rw [e, ← Gc.range_all] at q2
          exact q2
      · have e : wordB z lo hi = false := by
          unfold wordB
          rw [Bool.eq_false_iff.mpr c2]
          simp
        have q2 := q H ⟨tg, fun _ _ => rfl⟩
        rw [e] at q2
        exact q2
    · have e : wordB z lo hi = false := by
        unfold wordB
        rw [Bool.eq_false_iff.mpr c1]
        rfl
      have q2 := q H ⟨tg, fun _ _ => rfl⟩
      rw [e] at q2
      exact ⟨_, rfl, iteF q2⟩
theorem scK : FnScope ["text"] ["text"] (defScope sKind) := ⟨rfl, rfl, rfl, by decide +kernel, rfl, by decide +kernel, by decide +kernel⟩
theorem scN : FnScope ["text"] ["text"] (defScope sName) := ⟨rfl, rfl, rfl, by decide +kernel, rfl, by decide +kernel, by decide +kernel⟩
def spOne (T : Addr) (b : Str → Bool) : Sp := fun vs H Q _ => ∃ z : Str, vs = [.str z] ∧ z.length ≤ sizeLine ∧ GxR.TabG H T ∧ ∀ H2, GxR.Tabbed T H H2 → Q (.bl (b z)) H2
theorem str_dec (x y : Str) : decide (V.str x = V.str y) = decide (x = y) := by
  by_cases e : x = y
  · subst e; simp
  · rw [decide_eq_false e]
    exact decide_eq_false fun z => e (V.str.inj z)
theorem ok_kind {f fW T : Addr} {fd fdW : FuncData} {k : Nat} (F : Fun K "is_kind" "is_kind" sKind f fd) (FW : Fun K "_is_word" "_is_word" sWord fW fdW) (GW : FnOk P w K mg base CX0 (k + 1) fW fdW ["text", "first", "last"] (spWord T)) (bW : Binds K fdW ["text", "first", "last"] []) (gW : mg "_is_word" = some (.ref fW)) :
    FnOk P w K mg base CX0 (k + 2) f fd ["text"] (spOne T kindB) := by
  refine F.ok scK (fun vs H Q E h => ?_) (fun cdv A outer s H vs Q E hr h => ?_)
  · obtain ⟨z, rfl, _⟩ := h
    rfl
  · obtain ⟨z, rfl, hz, tg, q⟩ := h
    refine ⟨_, pss_one (ps_ret (pe_and (pe_call GW hr (by rfl) gW FW.kp bW .nil pass0 (pa_cons (pv 0) (pa_cons pe_str (pa_cons pe_str pa_nil)))) (pe_one (pe_cmpR op_ne (pv 0) pe_str (nomark _))))), ?_⟩
    refine ⟨_, rfl, z, _, _, rfl, hz, tg, fun H2 hT => ?_⟩
    have q2 := q H2 hT
    refine ⟨_, rfl, ite2 (fun c => ?_) (fun c => ?_)⟩
    · refine ⟨_, rfl, rfl, ?_⟩
      unfold kindB at q2
      rw [c, ← str_dec] at q2
      exact q2
    · unfold kindB at q2
      rw [Bool.eq_false_iff.mpr c] at q2
      exact q2
theorem ok_name {f fW T : Addr} {fd fdW : FuncData} {k : Nat} (F : Fun K "is_name" "is_name" sName f fd) (FW : Fun K "_is_word" "_is_word" sWord fW fdW) (GW : FnOk P w K mg base CX0 (k + 1) fW fdW ["text", "first", "last"] (spWord T)) (bW : Binds K fdW ["text", "first", "last"] []) (gW : mg "_is_word" = some (.ref fW)) :
    FnOk P w K mg base CX0 (k + 2) f fd ["text"] (spOne T nameB) := by
  refine F.ok scN (fun vs H Q E h => ?_) (fun cdv A outer s H vs Q E hr h => ?_)
  · obtain ⟨z, rfl, _⟩ := h
    rfl
  · obtain ⟨z, rfl, hz, tg, q⟩ := h
    refine ⟨_, pss_one (ps_ret (pe_call GW hr (by rfl) gW FW.kp bW .nil pass0 (pa_cons (pv 0) (pa_cons pe_str (pa_cons pe_str pa_nil))))), ?_⟩
    exact ⟨_, rfl, z, _, _, rfl, hz, tg, fun H2 hT => q H2 hT⟩
/-! ### MendError.__init__ -/
theorem scI : FnScope ["self", "at"] ["self", "at"] (defScope sInit) := ⟨rfl, rfl, rfl, by decide +kernel, rfl, by decide +kernel, by decide +kernel⟩
theorem ok_init {f : Addr} {fd : FuncData} {k : Nat} (F : Fun K "__init__" "MendError.__init__" sInit f fd) : FnOk P w K mg base CX0 (k + 1) f fd ["self", "at"] (spInit K) := by
  refine F.ok scI (fun vs H Q E h => ?_) (fun cdv A outer s H vs Q E hr h => ?_)
  · obtain ⟨a, C, fI, n, rfl, _⟩ := h
    rfl
  · obtain ⟨a, C, fI, n, rfl, T, ea, q⟩ := h
    refine ⟨_, pss_one (ps_ost (pv 0) (pv 1)), ?_⟩
    exact ⟨_, rfl, _, rfl, a, C, rfl, T.oex, T.noAt, .inl ⟨ea, fun d nd ne => q d nd ne⟩⟩
theorem made_err {C fI : Addr} {n : Int} {i : Nat} {σ : L2.St} {H : Hp} {Q : VK} (T : ErrC K C fI) (hv : σ[i]? = some (some (.int n))) (want : ∀ (a d : Addr) (H' : Hp), Same H H' → ErrAt H' a C d n → Q (.ref a) H') : tErr C (spInit K) (tCons (tVar i) tNil) σ H Q := by
  refine ⟨_, hv, by show 1 ≤ 1000; decide, fun a na => ⟨a, C, fI, n, rfl, T, upd_same, fun d nd ne => ⟨rfl, want a d _ (fun b o e => ?_) ⟨upd_same, ?_⟩⟩⟩⟩
  · have nb : b ≠ a := ne_of_none e na
    have nd' : H d = none := by
      rw [upd_ne ne] at nd
      exact nd
    rw [upd_ne nb, upd_ne (ne_of_none e nd'), upd_ne nb]
    exact e
  · rw [upd_ne ne, upd_same]
/-! ### _is_symbol, _rule_of -/
theorem scSy : FnScope ["text"] ["text"] (defScope sSym) := ⟨rfl, rfl, rfl, by decide +kernel, rfl, by decide +kernel, by decide +kernel⟩
def spSym (T1 T2 : Addr) : Sp := fun vs H Q _ => ∃ z : Str, vs = [.str z] ∧ z.length ≤ sizeLine ∧ Tb T1 T2 H ∧ ∀ H2, Up H H2 → Tb T1 T2 H2 → Q (.bl (symB z)) H2
theorem ok_sym {f fK fN T1 T2 : Addr} {fd fdK fdN : FuncData} {k : Nat} (F : Fun K "_is_symbol" "_is_symbol" sSym f fd)
    (GK : FnOk P w K mg base CX0 (k + 2) fK fdK ["text"] (spOne T1 kindB)) (kK : PySem.W.keepIn K (.ref fK) = true) (bK : Binds K fdK ["text"] []) (gK : mg "is_kind" = some (.ref fK))
    (GN : FnOk P w K mg base CX0 (k + 2) fN fdN ["text"] (spOne T1 nameB)) (kN : PySem.W.keepIn K (.ref fN) = true) (bN : Binds K fdN ["text"] []) (gN : mg "is_name" = some (.ref fN)) :
    FnOk P w K mg base CX0 (k + 3) f fd ["text"] (spSym T1 T2) := by
  refine F.ok scSy (fun vs H Q E h => ?_) (fun cdv A outer s H vs Q E hr h => ?_)
  · obtain ⟨z, rfl, _⟩ := h
    rfl
  · obtain ⟨z, rfl, hz, tb, q⟩ := h
    refine ⟨_, pss_one (ps_ret (pe_or (pe_call GK hr (by rfl) gK kK bK .nil pass0 (pa_cons (pv 0) pa_nil)) (pe_one (pe_call GN hr (by rfl) gN kN bN .nil pass0 (pa_cons (pv 0) pa_nil))))), ?_⟩
    refine ⟨_, rfl, z, rfl, hz, tb.1, fun H2 h2 => ⟨_, rfl, ?_⟩⟩
    have u2 := Up.tabbed tb.1 h2
    have t2 := tb.on1 h2
    have e : symB z = (kindB z || nameB z) := rfl
    refine ite2 (fun c => ?_) (fun c => ?_)
    · have := q H2 u2 t2
      rw [e, c] at this
      exact this
    · refine ⟨_, rfl, z, rfl, hz, t2.1, fun H3 h3 => ?_⟩
      have := q H3 (u2.trans (Up.tabbed t2.1 h3)) (t2.on1 h3)
      rw [e, Bool.eq_false_iff.mpr c, Bool.false_or] at this
      exact this
theorem scRu : FnScope ["line", "name", "colon", "rest", "parts", "symbols"] ["line"] (defScope sRule) := ⟨rfl, rfl, rfl, by decide +kernel, rfl, by decide +kernel, by decide +kernel⟩
def spRule (T1 T2 : Addr) : Sp := fun vs H Q _ => ∃ z : Str, vs = [.str z] ∧ z.length ≤ 1000000 ∧ Tb T1 T2 H ∧
  (ruleOf z = none → ∀ H2, Up H H2 → Tb T1 T2 H2 → Q .non H2) ∧ (∀ r, ruleOf z = some r → ∀ v H2, Up H H2 → Tb T1 T2 H2 → RuleA (News H H2) v r → Q v H2)
theorem ruleScope : Gc.GenSc (defScope sRule) (({ kind := ScopeKind.function, names := [(Str.ofString ".0", NameKind.local), (Str.ofString "symbol", NameKind.local), (Str.ofString "_is_symbol", NameKind.globalImplicit)], isGenerator := true, isCoroutine := false, more := [] } : Scope)) "symbol" :=
  ⟨rfl, rfl, by decide +kernel, rfl, rfl, by decide +kernel⟩
theorem all_get (ss : List Str) : ((List.range ss.length).all fun i => symB (ss.getD i "")) = ss.all symB := by
  rw [Bool.eq_iff_iff, List.all_eq_true, List.all_eq_true]
  constructor
  · intro h s hs
    obtain ⟨j, hj, e⟩ := List.getElem_of_mem hs
    have q := h j (List.mem_range.mpr hj)
    rw [List.getD_eq_getElem?_getD, List.getElem?_eq_getElem hj] at q
    rw [← e]
    exact q
  · intro h j hj
    have hj' := List.mem_range.mp hj
    rw [List.getD_eq_getElem?_getD, List.getElem?_eq_getElem hj']
    exact h _ (List.getElem_mem hj')
theorem scRu7 : FnScope ["line", "name", "colon", "rest", "parts", "symbols", "symbol"] ["line"] (defScope sRule) := ⟨rfl, rfl, rfl, by decide +kernel, rfl, by decide +kernel, by decide +kernel⟩
theorem million {n : Nat} (h : n ≤ 1000000) : n + 2 ≤ sizeLine := Nat.le_trans (Nat.add_le_add_right h 2) (by decide)
theorem million0 {n : Nat} (h : n ≤ 1000000) : n ≤ sizeLine := Nat.le_trans h (by decide)
theorem iteStr {x y : Str} {A B : Prop} (h1 : x = y → A) (h2 : x ≠ y → B) : if decide (V.str x = V.str y) = true then A else B := by
  by_cases e : x = y
  · subst e
    rw [decide_eq_true rfl]
    exact iteT (h1 rfl)
  · rw [decide_eq_false (fun z => e (V.str.inj z))]
    exact iteF (h2 e)
theorem iteStrN {x y : Str} {A B : Prop} (h1 : x ≠ y → A) (h2 : x = y → B) : if (!decide (V.str x = V.str y)) = true then A else B := by
  by_cases e : x = y
  · subst e
    rw [decide_eq_true rfl]
    exact iteF (h2 rfl)
  · rw [decide_eq_false (fun z => e (V.str.inj z))]
    exact iteT (h1 e)
theorem ok_rule {f c fN fY T1 T2 : Addr} {fd fdN fdY : FuncData} (F : Fun K "_rule_of" "_rule_of" sRule f fd) (hc : fd.code = .ref c) (TB : GxR.TabB base mg c T2)
    (GN : FnOk P w K mg base CX0 2 fN fdN ["text"] (spOne T1 nameB)) (kN : PySem.W.keepIn K (.ref fN) = true) (bN : Binds K fdN ["text"] []) (gN : mg "is_name" = some (.ref fN))
    (GY : FnOk P w K mg base CX0 3 fY fdY ["text"] (spSym T1 T2)) (kY : PySem.W.keepIn K (.ref fY) = true) (bY : Binds K fdY ["text"] []) (gY : mg "_is_symbol" = some (.ref fY))
    (ml : mg "len" = none) (ma : mg "all" = none) {tk : Tok} (mS : mg "MOST_SYMBOLS" = some (.int 6 tk)) :
    FnOk P w K mg base CX0 5 f fd ["line"] (spRule T1 T2) := by
  refine okT (k := 4) F hc scRu7 (fun vs H Q E h => ?_) (fun A outer s H vs Q E hr h => ?_)
  · obtain ⟨z, rfl, _⟩ := h
    rfl
  · obtain ⟨z, rfl, hz, tb, qn, qs⟩ := h
    refine ⟨_, pss_cons (ps_asg (pe_partition (pv 0) pe_str) (pg_tup rfl (pgs_cons (pg_name (i := 1) scRu7.nd rfl (.inl rfl)) (pgs_cons (pg_name (i := 2) scRu7.nd rfl (.inl rfl)) (pgs_cons (pg_name (i := 3) scRu7.nd rfl (.inl rfl)) pgs_nil)))))
      (pss_cons (ps_set (i := 4) scRu7.nd rfl (.inl rfl) (pe_split (pv 3) pe_str))
      (pss_cons (ps_set (i := 5) scRu7.nd rfl (.inl rfl) (pe_slice sl_list (pv 4) (po_some pe_int) po_none))
      (pss_cons (ps_if (PW.pt (pw_or (pt_not (pt_val (pe_call GN (hr.mono (by decide)) (by rfl) gN kN bN .nil pass0 (pa_cons (pv 1) pa_nil))))
          (pw_or (pt_cmpR op_eq (pv 2) pe_str (nomark _)) (pw_or1 (pt_cmpR op_ne (pe_ix ix_list (pv 4) pe_int (fun _ _ => rfl)) pe_str (nomark _)))))) (pss_one (ps_ret pe_non)) pss_nil)
      (pss_cons (ps_if (PW.pt (pw_or (pt_cmpR op_gt (pe_callB call_len_seq (by rfl) ml PySem.boot_len (pa_cons (pv 5) pa_nil)) (pe_glob (v := .int 6) rfl mS ⟨_, rfl⟩) (nomark _))
          (pw_or1 (pt_not (pt_val (Gn.pe_allN (k := 3) (ix := 6) hr (by rfl) ma (by decide +kernel) TB rfl scRu7.nd ruleScope (blkOk_by (own := [("symbol", 6)]) (N := ["line", "name", "colon", "rest", "parts", "symbols", "symbol"]) (sc := defScope sRule) (by decide +kernel)) rfl (pi_list (pv 5))
            (fun B s H C code fp hB => pe_call GY hB (by rfl) gY kY bY .nil pass0 (pa_cons (pv 6) pa_nil)) (fun _ => rfl))))))) (pss_one (ps_ret pe_non)) pss_nil)
      (pss_one (ps_ret (pe_tup (pa_cons (pv 1) (pa_cons (pv 5) pa_nil))))))))), ?_⟩
    have pl := part_len z
    -- the three parts
    refine ⟨_, rfl, ⟨_, rfl⟩, z, _, rfl, rfl, by decide +kernel, million0 hz, fun p np => ?_⟩
    refine ⟨p, _, rfl, SqT.of upd_same, rfl, ?_⟩
    generalize hp : Txt.partition z ":" = pt at pl
    obtain ⟨a, cl, r⟩ := pt
    have pa : a.length ≤ 1000000 := Nat.le_trans pl.1 hz
    have pr : r.length ≤ 1000000 := Nat.le_trans pl.2 hz
    obtain ⟨w0, ws, es⟩ := spS_cons r
    have er : ruleOf z = if nameB a = true ∧ cl ≠ Str.empty ∧ (some w0 : Option Str) = some Str.empty ∧ ws.length ≤ 6 ∧ ws.all symB = true then some (a, ws) else none := by
      unfold ruleOf
      rw [hp]
      simp only [es, List.head?_cons, List.tail_cons]
    refine ⟨_, _, rfl, _, _, rfl, _, _, rfl, rfl, ?_⟩
    refine ⟨_, rfl, ⟨_, rfl⟩, r, _, rfl, rfl, by decide +kernel, million pr, fun l nl => ?_⟩
    have e4 : Txt.split r " " = w0 :: ws := es
    rw [e4]
    refine ⟨_, rfl, _, rfl, l, _, rfl, SqL.of upd_same, fun m nm => ?_⟩
    rw [List.map_cons, cutV_tail]
    have u1 : Up H (upd H p (.tup [.str a, .str cl, .str r])) := Up.put H np
    have u2 := u1.trans (Up.put _ nl (o := .lst (.str w0 :: ws.map V.str)))
    have u3 := u2.trans (Up.put _ nm (o := .lst (ws.map V.str)))
    have t3 := ((tb.new np (o := .tup [.str a, .str cl, .str r])).new nl (o := .lst (.str w0 :: ws.map V.str))).new nm (o := .lst (ws.map V.str))
    have hm3 : upd (upd (upd H p (.tup [.str a, .str cl, .str r])) l (.lst (.str w0 :: ws.map V.str))) m (.lst (ws.map V.str)) m = some (.lst (ws.map V.str)) := upd_same
    have nm0 : H m = none := u2.dom nm
    have hl3 : upd (upd (upd H p (.tup [.str a, .str cl, .str r])) l (.lst (.str w0 :: ws.map V.str))) m (.lst (ws.map V.str)) l = some (.lst (.str w0 :: ws.map V.str)) := by
      rw [upd_ne (ne_of_none upd_same nm)]
      exact upd_same
    refine ⟨_, rfl, a, rfl, million0 pa, t3.1, fun H4 h4 => ⟨_, rfl, ?_⟩⟩
    have u4 := u3.trans (Up.tabbed t3.1 h4)
    have t4 := t3.on1 h4
    have u34 := Up.tabbed t3.1 h4
    cases cn : nameB a with
    | false =>
      refine iteT (qn ?_ H4 u4 t4)
      rw [er, if_neg]
      intro x
      rw [cn] at x
      exact Bool.false_ne_true x.1
    | true =>
      refine iteF ⟨_, rfl, rfl, _, rfl, iteStr (fun ec => ?_) (fun nc => ?_)⟩
      · refine qn ?_ H4 u4 t4
        rw [er, if_neg]
        exact fun x => x.2.1 ec
      · refine ⟨_, rfl, l, _, _, _, rfl, rfl, SqL.of (u34.lst hl3), at_of (j := 0) rfl rfl, rfl, _, rfl, iteStrN (fun n0 => ?_) (fun e0 => ?_)⟩
        · refine qn ?_ H4 u4 t4
          rw [er, if_neg]
          exact fun x => n0 (Option.some.inj x.2.2.1)
        · refine ⟨_, rfl, m, _, rfl, .inl (SqL.of (u34.lst hm3)), _, _, rfl, rfl, _, rfl, ite2 (fun c1 => ?_) (fun c1 => ?_)⟩
          · refine qn ?_ H4 u4 t4
            have c2 : (6 : Int) < ((ws.map V.str).length : Int) := of_decide_eq_true c1
            rw [List.length_map] at c2
            rw [er, if_neg]
            intro x
            have := x.2.2.2.1
            omega
          · have c2 : ¬ (6 : Int) < ((ws.map V.str).length : Int) := fun x => c1 (decide_eq_true x)
            rw [List.length_map] at c2
            have c3 : ws.length ≤ 6 := by omega
            refine ⟨_, rfl, m, rfl, ⟨_, SqL.of (u34.lst hm3)⟩, t4.2, fun H5 h5 => ⟨ws.length, fun i => symB (ws.getD i ""), fun _ H' => Up H4 H' ∧ Tb T1 T2 H', ⟨Up.tabbed t4.2 h5, t4.on2 h5⟩, ?_, ?_, ?_⟩⟩
            · rintro i H' hi ⟨ui, ti⟩
              have st : SqL K H' m (ws.map V.str) := SqL.of (ui.lst (u34.lst hm3))
              refine ⟨walk_list.goes i H' (by rw [List.length_map]; exact hi) st, fun x H2 y => ?_⟩
              obtain ⟨rfl, hx⟩ := walk_list.yields i H' x H2 (by rw [List.length_map]; exact hi) st y
              have ex : x = V.str (ws.getD i "") := by
                rw [List.getElem?_map, List.getElem?_eq_getElem hi] at hx
                rw [List.getD_eq_getElem?_getD, List.getElem?_eq_getElem hi]
                exact (Option.some.inj hx).symm
              have mem : ws.getD i "" ∈ spS r := by
                rw [es, List.getD_eq_getElem?_getD, List.getElem?_eq_getElem hi]
                exact List.mem_cons_of_mem _ (List.getElem_mem hi)
              refine ⟨_, by rw [ex]; rfl, _, rfl, million0 (Nat.le_trans (spS_len mem) pr), ti, fun H6 u6 t6 => ⟨rfl, ui.trans u6, t6⟩⟩
            · rintro H' ⟨ui, ti⟩
              have := walk_list.stops H' (SqL.of (ui.lst (u34.lst hm3)) : SqL K H' m (ws.map V.str))
              rw [List.length_map] at this
              exact this
            · rintro i H' ⟨ui, ti⟩
              rw [all_get]
              refine ⟨_, rfl, ?_⟩
              cases ca : ws.all symB with
              | false =>
                refine iteT (qn ?_ H' (u4.trans ui) ti)
                rw [er, if_neg]
                intro x
                rw [ca] at x
                exact Bool.false_ne_true x.2.2.2.2
              | true =>
                refine iteF ⟨_, rfl, _, rfl, (by show 2 ≤ sizeLine; decide), fun t nt => ?_⟩
                have u6 := (u4.trans ui).trans (Up.put H' nt (o := .tup [.str a, .ref m]))
                have hm6 : H' m = some (.lst (ws.map V.str)) := ui.lst (u34.lst hm3)
                refine qs (a, ws) ?_ _ _ u6 (ti.new nt) ⟨t, m, rfl, ?_, ?_⟩
                · rw [er, if_pos ⟨cn, nc, congrArg some (e0.trans (by decide +kernel)), c3, ca⟩]
                · rw [news_of ((u4.trans ui).dom nt)]
                  exact upd_same
                · rw [news_of nm0, upd_ne (ne_of_none hm6 nt)]
                  exact hm6
end
end Ld

set_option Elab.async false
set_option linter.all false
set_option maxRecDepth 100000
set_option maxHeartbeats 4000000
namespace Ld
open PySem PySem.Spec PyProof.Rows L2 Le TL
section
variable {P : Program} {w : World} {K : PySem.W.Frag} {mg : Str → Option Value} {base : Heap}
/-! ### an error that leaves -/
def Thrown (T1 T2 C : Addr) (n : Int) (H : Hp) (E : XK) : Prop := ∀ d H2, Up H H2 → Tb T1 T2 H2 → H2 d = some (.xd [(("at" : Str), V.int n)]) → E (.ref C) (some d) H2
theorem Thrown.later {T1 T2 C : Addr} {n : Int} {H H2 : Hp} {E : XK} (h : Thrown T1 T2 C n H E) (u : Up H H2) : Thrown T1 T2 C n H2 E := fun d H3 u3 => h d H3 (u.trans u3)
theorem threw {T1 T2 C fI : Addr} {n : Int} {H1 : Hp} {Q : XK} (T : ErrC K C fI) (tb : Tb T1 T2 H1) (want : Thrown T1 T2 C n H1 Q) : ∀ a, H1 a = none → spInit K (.ref a :: ([.int n] ++ [])) (upd H1 a (exo a C none))
    (fun v H2 => v = .non ∧ ∃ (d : Addr) (fs : List (Str × V)), H2 a = some (exo a C (some d)) ∧ H2 d = some (exd d fs) ∧ H1 d = none ∧ Q (.ref C) (some d) (upd (del H2 a) d (.xd fs))) (fun _ _ _ => False) := by
  intro a na
  refine ⟨a, C, fI, n, rfl, T, upd_same, fun d nd ne => ⟨rfl, d, [(("at" : Str), V.int n)], upd_same, ?_, ?_, ?_⟩⟩
  · rw [upd_ne ne]
    exact upd_same
  · rw [upd_ne ne] at nd
    exact nd
  · have nd1 : H1 d = none := by
      rw [upd_ne ne] at nd
      exact nd
    have e : upd (del (upd (upd (upd H1 a (exo a C none)) d (exd d [(("at" : Str), V.int n)])) a (exo a C (some d))) a) d (.xd [(("at" : Str), V.int n)]) = upd H1 d (.xd [(("at" : Str), V.int n)]) := by
      funext b
      by_cases hb : b = d
      · subst hb
        rw [upd_same, upd_same]
      · rw [upd_ne hb, upd_ne hb]
        by_cases ha : b = a
        · subst ha
          rw [del_same, na]
        · rw [del_ne ha, upd_ne ha, upd_ne hb, upd_ne ha]
    rw [e]
    exact want d _ (Up.put H1 nd1) (tb.new nd1) upd_same
/-! ### _next_rule -/
theorem units65 {k : Nat} {A : Around} (h : Room k A) : A.units + 65 < cLine := by
  have := h.un
  omega
theorem iteFd {p : Prop} [Decidable p] {A B : Prop} (h : ¬ p) (b : B) : if decide p = true then A else B := by
  rw [decide_eq_false h]
  exact iteF b
theorem iteTd {p : Prop} [Decidable p] {A B : Prop} (h : p) (a : A) : if decide p = true then A else B := by
  rw [decide_eq_true h]
  exact iteT a
theorem scNx : FnScope ["before", "number", "line", "rule"] ["before", "number", "line"] (defScope sNext) := ⟨rfl, rfl, rfl, by decide +kernel, rfl, by decide +kernel, by decide +kernel⟩
def spNext (T1 T2 cB cT cL : Addr) : Sp := fun vs H Q E => ∃ (b : Addr) (n : Nat) (z : Str) (G : List Rule), vs = [.ref b, .int n, .str z] ∧ z.length ≤ 1000000 ∧ Tb T1 T2 H ∧ GraA H b G ∧ (∀ r ∈ G, GoodR r) ∧
  (ruleOf z = none → Thrown T1 T2 cB n H E) ∧ (∀ r, ruleOf z = some r → r ∈ G → Thrown T1 T2 cT n H E) ∧ (∀ r, ruleOf z = some r → r ∉ G → 24 ≤ n → Thrown T1 T2 cL n H E) ∧
  (∀ r, ruleOf z = some r → r ∉ G → ¬ 24 ≤ n → ∀ v H2, Up H H2 → Tb T1 T2 H2 → RuleA (News H H2) v r → Q v H2)
theorem ruleA_ne {H : Hp} {v : V} {r : Rule} (h : RuleA H v r) : v ≠ V.non := by
  obtain ⟨t, l, rfl, _⟩ := h
  intro z
  cases z
theorem ok_next {f fR fI T1 T2 cB cT cL : Addr} {fd fdR fdI : FuncData} (F : Fun K "_next_rule" "_next_rule" sNext f fd)
    (GR : FnOk P w K mg base CX0 5 fR fdR ["line"] (spRule T1 T2)) (kR : PySem.W.keepIn K (.ref fR) = true) (bR : Binds K fdR ["line"] []) (gR : mg "_rule_of" = some (.ref fR))
    (GI : FnOk P w K mg base CX0 1 fI fdI ["self", "at"] (spInit K)) (bI : Binds K fdI ["self", "at"] []) (EB : ErrC K cB fI) (ET : ErrC K cT fI) (EL : ErrC K cL fI)
    (gB : mg "BadLine" = some (.ref cB)) (gT : mg "TakenRule" = some (.ref cT)) (gL : mg "TooLarge" = some (.ref cL)) {tk : Tok} (mR : mg "MOST_RULES" = some (.int 24 tk)) :
    FnOk P w K mg base (L2.CX P w) 6 f fd ["before", "number", "line"] (spNext T1 T2 cB cT cL) := by
  refine F.okX scNx (fun vs H Q E h => ?_) (fun cdv A outer s H vs Q E hr h => ?_)
  · obtain ⟨b, n, z, G, rfl, _⟩ := h
    rfl
  · obtain ⟨b, n, z, G, rfl, hz, tb, hG, good, p1, p2, p3, p4⟩ := h
    refine ⟨_, pss_cons (ps_set (i := 3) scNx.nd rfl (.inl rfl) (pe_call GR hr (by rfl) gR kR bR .nil pass0 (pa_cons (pv 2) pa_nil)))
      (pss_cons (ps_if (pt_cmpR op_isN (pv 3) pe_non (nomark _)) (pss_one (ps_raise rfl (takes_of rfl rfl rfl rfl) (pmk_oex EB.oex EB.ini EB.tyI GI (hr.mono (by decide)) bI .nil pass0 rfl gB (pa_cons (pv 1) pa_nil)))) pss_nil)
      (pss_cons (ps_if (pt_cmpR (op_inD (units65 hr)) (pv 3) (pv 0) rfl) (pss_one (ps_raise rfl (takes_of rfl rfl rfl rfl) (pmk_oex ET.oex ET.ini ET.tyI GI (hr.mono (by decide)) bI .nil pass0 rfl gT (pa_cons (pv 1) pa_nil)))) pss_nil)
      (pss_cons (ps_if (pt_cmpR op_ge (pv 1) (pe_glob (v := .int 24) rfl mR ⟨_, rfl⟩) (nomark _)) (pss_one (ps_raise rfl (takes_of rfl rfl rfl rfl) (pmk_oex EL.oex EL.ini EL.tyI GI (hr.mono (by decide)) bI .nil pass0 rfl gL (pa_cons (pv 1) pa_nil)))) pss_nil)
      (pss_one (ps_ret (pv 3)))))), ?_⟩
    refine ⟨_, rfl, z, rfl, hz, tb, fun e H2 u2 t2 => ?_, fun r e v H2 u2 t2 ra => ?_⟩
    · refine ⟨_, rfl, rfl, _, rfl, iteT ⟨_, rfl, (by show 1 ≤ 1000; decide), threw EB t2 ((p1 e).later u2)⟩⟩
    · have ne := ruleA_ne ra
      have ra2 : RuleA H2 v r := ra.up (Up.of_same news_same)
      have g2 := hG.up u2
      refine ⟨_, rfl, rfl, _, rfl, iteFd ne ⟨_, rfl, _, rfl, ruleD r, G.map ruleD, ra2.dp, g2.dp, rule_shaped (rule_good e), gD_shaped good, _, rfl, ?_⟩⟩
      rw [ruleD_in]
      refine ite2 (fun c => ⟨_, rfl, (by show 1 ≤ 1000; decide), threw ET t2 ((p2 r e (of_decide_eq_true c)).later u2)⟩) (fun c => ?_)
      have c2 : r ∉ G := fun z => c (decide_eq_true z)
      refine ⟨_, rfl, _, _, rfl, rfl, _, rfl, ite2 (fun d => ?_) (fun d => ?_)⟩
      · have d2 : (24 : Int) ≤ (n : Int) := of_decide_eq_true d
        exact ⟨_, rfl, (by show 1 ≤ 1000; decide), threw EL t2 ((p3 r e c2 (by omega)).later u2)⟩
      · have d2 : ¬ (24 : Int) ≤ (n : Int) := fun z => d (decide_eq_true z)
        exact ⟨_, rfl, p4 r e c2 (by omega) v H2 u2 t2 ra⟩
end
end Ld

set_option Elab.async false
set_option linter.all false
set_option maxRecDepth 100000
set_option maxHeartbeats 4000000
namespace Ld
open PySem PySem.Spec PyProof.Rows L2 Le TL
section
variable {P : Program} {w : World} {K : PySem.W.Frag} {mg : Str → Option Value} {base : Heap}
/-! ### read_grammar -/
theorem scRd : FnScope ["text", "lines", "unended", "grammar", "number", "line"] ["text"] (defScope sRead) := ⟨rfl, rfl, rfl, by decide +kernel, rfl, by decide +kernel, by decide +kernel⟩
def Out (T1 T2 cB cT cL : Addr) (H : Hp) (Q : VK) (E : XK) : Rd → Prop
  | .line k => Thrown T1 T2 cB k H E
  | .taken k => Thrown T1 T2 cT k H E
  | .large k => Thrown T1 T2 cL k H E
  | .good G => ∀ p H2, Up H H2 → Tb T1 T2 H2 → GraA (News H H2) p G → Q (.ref p) H2
def spRead (T1 T2 cB cT cL : Addr) : Sp := fun vs H Q E => ∃ z : Str, vs = [.str z] ∧ z.length ≤ 900000 ∧ Tb T1 T2 H ∧ Out T1 T2 cB cT cL H Q E (rd (linesOf z))
theorem drop_get {α : Type} {L : List α} {i : Nat} {x : α} (h : L[i]? = some x) : L.drop i = x :: L.drop (i + 1) := by
  obtain ⟨hi, e⟩ := List.getElem?_eq_some_iff.mp h
  rw [← e]
  exact List.drop_eq_getElem_cons hi
theorem ok_read {f fX fI T1 T2 cB cT cL : Addr} {fd fdX fdI : FuncData} (F : Fun K "read_grammar" "read_grammar" sRead f fd)
    (GX : FnOk P w K mg base (L2.CX P w) 6 fX fdX ["before", "number", "line"] (spNext T1 T2 cB cT cL)) (kX : PySem.W.keepIn K (.ref fX) = true) (bX : Binds K fdX ["before", "number", "line"] []) (gX : mg "_next_rule" = some (.ref fX))
    (GI : FnOk P w K mg base CX0 1 fI fdI ["self", "at"] (spInit K)) (bI : Binds K fdI ["self", "at"] []) (EB : ErrC K cB fI) (gB : mg "BadLine" = some (.ref cB)) (ml : mg "len" = none) (me : mg "enumerate" = none) :
    FnOk P w K mg base (L2.CX P w) 7 f fd ["text"] (spRead T1 T2 cB cT cL) := by
  refine F.okX scRd (fun vs H Q E h => ?_) (fun cdv A outer s H vs Q E hr h => ?_)
  · obtain ⟨z, rfl, _⟩ := h
    rfl
  · obtain ⟨z, rfl, hz, tb, out⟩ := h
    refine ⟨_, pss_cons (ps_set (i := 1) scRd.nd rfl (.inl rfl) (pe_split (pv 0) pe_str))
      (pss_cons (ps_set (i := 2) scRd.nd rfl (.inl rfl) (pe_bm0 PySem.F.plainAttrs_list PySem.F.slot_list_pop PySem.F.type_list_pop mt_pop (pv 1)))
      (pss_cons (ps_set (i := 3) scRd.nd rfl (.inl rfl) (pe_lst pa_nil))
      (pss_cons (ps_for (passes_of rfl) rfl (pi_enum (by rfl) me (pa_cons (pv 1) pa_nil)) (pg_tup rfl (pgs_cons (pg_name (i := 4) scRd.nd rfl (.inl rfl)) (pgs_cons (pg_name (i := 5) scRd.nd rfl (.inl rfl)) pgs_nil)))
        (pss_one (ps_expr (pe_bm PySem.F.plainAttrs_list PySem.F.slot_list_append PySem.F.type_list_append mt_append (pv 3) (pa_cons (pe_call GX hr (by rfl) gX kX bX .nil (passes_call (takes_of rfl rfl rfl rfl) fun _ _ _ _ h => h) (pa_cons (pv 3) (pa_cons (pv 4) (pa_cons (pv 5) pa_nil)))) pa_nil)))))
      (pss_cons (ps_if (PW.pt (pw_or (pt_cmpR op_ne (pv 2) pe_str (nomark _)) (pw_or1 (pt_not (pt_truth (pv 1) (by intro _; rfl))))))
        (pss_one (ps_raise rfl (takes_of rfl rfl rfl rfl) (pmk_oex EB.oex EB.ini EB.tyI GI (hr.mono (by decide)) bI .nil pass0 rfl gB (pa_cons (pe_callB call_len_seq (by rfl) ml PySem.boot_len (pa_cons (pv 1) pa_nil)) pa_nil)))) pss_nil)
      (pss_one (ps_ret (pv 3))))))), ?_⟩
    obtain ⟨L, u, eL⟩ : ∃ L u, linesOf z = L ++ [u] := ⟨_, _, (List.dropLast_concat_getLast (linesOf_ne z)).symm⟩
    have eRd : rd (linesOf z) = rdEnd L.length u (rdGo 0 [] L) := by
      rw [eL]
      unfold rd
      rw [List.dropLast_concat, List.getLast?_concat]
      rfl
    have lenL : ∀ x ∈ L, x.length ≤ 1000000 := fun x hx => by
      have := lines_len (x := z) (p := x) (by rw [eL]; exact List.mem_append_left _ hx)
      omega
    have cntL : L.length ≤ 900001 := by
      have := lines_count z
      rw [eL, List.length_append, List.length_singleton] at this
      omega
    have eS : (Txt.split z "\n").map V.str = L.map V.str ++ [V.str u] := by
      rw [show Txt.split z "\n" = L ++ [u] from eL, List.map_append]
      rfl
    refine ⟨_, rfl, ⟨_, rfl⟩, z, _, rfl, rfl, by decide +kernel, million (by omega), fun l nl => ?_⟩
    rw [eS]
    refine ⟨_, rfl, .inl ⟨rfl, _, SqL.of upd_same⟩, l, _, .str u, rfl, rfl, upd_same, ?_, ?_⟩
    · rw [List.length_append, List.length_singleton, Nat.add_sub_cancel, List.getElem?_append_right (Nat.le_refl _), Nat.sub_self]
      rfl
    rw [List.dropLast_concat, upd_upd]
    refine ⟨Nat.zero_le _, fun g ng => ?_⟩
    have u2 : Up H (upd H l (.lst (L.map V.str))) := Up.put H nl
    have t2 : Tb T1 T2 (upd H l (.lst (L.map V.str))) := tb.new nl
    have hl2 : upd H l (.lst (L.map V.str)) l = some (.lst (L.map V.str)) := upd_same
    generalize upd H l (.lst (L.map V.str)) = H2 at ng u2 t2 hl2
    have ngH : H g = none := u2.dom ng
    refine ⟨_, rfl, l, _, rfl, SqL.of (by rw [upd_ne (ne_of_none hl2 ng)]; exact hl2), for_it walk_enum (fun i σ H' => ∃ v4 v5 vs G, σ = [some (.str z), some (.ref l), some (.str u), some (.ref g), v4, v5] ∧ Up H2 H' ∧ Tb T1 T2 H' ∧ H' g = some (.lst vs) ∧
      GrA (News (upd H2 g (.lst [])) H') vs G ∧ (∀ r ∈ G, GoodR r) ∧ G.length = i ∧ rdGo 0 [] L = rdGo i G (L.drop i)) ⟨none, none, [], [], rfl, Up.put H2 ng, t2.new ng, upd_same, True.intro, (fun _ m => nomatch m), rfl, rfl⟩
      (fun i σ H' _ ⟨_, _, _, _, _, ui, _⟩ => SqL.of (ui.lst hl2)) ?_ ?_⟩
    · rintro i x σ H' H'' hi ⟨v4, v5, vs, G, rfl, ui, ti, hg, gr, good, len, hrd⟩ ⟨T, x1, y, rfl, nT, rfl, hx, hy⟩
      cases hx
      obtain ⟨line, hline, rfl⟩ : ∃ line, L[i]? = some line ∧ y = V.str line := by
        have hy : (L.map V.str)[i]? = some y := hy
        rw [List.getElem?_map] at hy
        cases e : L[i]? with
        | none =>
          rw [e] at hy
          cases hy
        | some q =>
          rw [e] at hy
          exact ⟨q, rfl, (Option.some.inj hy).symm⟩
      rw [drop_get hline] at hrd
      have hcnt : i < L.length := (List.getElem?_eq_some_iff.mp hline).1
      have uT : Up H' (upd H' T (.tup [.int (i : Nat), .str line])) := Up.put H' nT
      have tT : Tb T1 T2 (upd H' T (.tup [.int (i : Nat), .str line])) := ti.new nT
      have u0 : Up H (upd H' T (.tup [.int (i : Nat), .str line])) := (u2.trans ui).trans uT
      have hgT : upd H' T (.tup [.int (i : Nat), .str line]) g = some (.lst vs) := uT.lst hg
      have grT := gr.up (News.up uT (A := upd H2 g (.lst [])))
      have uiT := ui.trans uT
      refine ⟨T, _, rfl, SqT.of upd_same, rfl, _, _, rfl, _, _, rfl, rfl, ?_⟩
      generalize upd H' T (.tup [.int (i : Nat), .str line]) = H3 at uT tT u0 hgT grT uiT
      refine ⟨_, rfl, .inl ⟨rfl, _, SqL.of hgT⟩, _, rfl, _, rfl, _, rfl, g, i, line, G, rfl, lenL line (List.mem_of_getElem? hline), tT, ⟨vs, hgT, grT.up (Up.of_same news_same)⟩, good, fun e => ?_, fun r e m => ?_, fun r e m n => ?_, fun r e m n v H4 u4 t4 ra => ?_⟩
      · have q : rdGo 0 [] L = .line i := by rw [hrd]; unfold rdGo; rw [e]
        rw [eRd, q] at out
        exact Thrown.later out u0
      · have q : rdGo 0 [] L = .taken i := by rw [hrd]; unfold rdGo; rw [e]; simp only; rw [if_pos m]
        rw [eRd, q] at out
        exact Thrown.later out u0
      · have q : rdGo 0 [] L = .large i := by rw [hrd]; unfold rdGo; rw [e]; simp only; rw [if_neg m, if_pos n]
        rw [eRd, q] at out
        exact Thrown.later out u0
      · have q : rdGo 0 [] L = rdGo (i + 1) (G ++ [r]) (L.drop (i + 1)) := by rw [hrd]; rw [rdGo]; rw [e]; simp only; rw [if_neg m, if_neg n]
        have hg4 := u4.lst hgT
        refine ⟨g, vs, v, rfl, rfl, hg4, ?_, ?_⟩
        · have := gr.len
          exact Nat.lt_of_le_of_lt (by omega : vs.length ≤ 900001) (by decide)
        · refine ⟨_, _, vs ++ [v], G ++ [r], rfl, (uiT.trans u4).upd ng, t4.lst hg4, upd_same, ?_, fun q hq => ?_, by rw [List.length_append, List.length_singleton, len], q⟩
          · rw [News.put (upd_same (H := H2) (a := g) (o := .lst []))]
            refine GrA.snoc (grT.up (News.up u4)) (ra.up (Up.of_same (News.less fun b hb => ?_)))
            have nb : b ≠ g := fun z => by rw [z, hgT] at hb; cases hb
            rw [upd_ne nb]
            exact uiT.dom hb
          · rcases List.mem_append.mp hq with z | z
            · exact good q z
            · rw [List.mem_singleton.mp z]
              exact rule_good e
    · rintro σ H' ⟨v4, v5, vs, G, rfl, ui, ti, hg, gr, good, len, hrd⟩
      rw [List.length_map] at len hrd
      rw [List.drop_length] at hrd
      have q : rdGo 0 [] L = .good G := by rw [hrd]; unfold rdGo; rfl
      rw [eRd, q] at out
      have thr : (u ≠ "" ∨ L.length = 0) → Thrown T1 T2 cB L.length H E := fun c => by
        unfold rdEnd at out
        simp only at out
        rw [if_pos c] at out
        exact out
      have len2 : ((L.map V.str).length : Int) = (L.length : Int) := by rw [List.length_map]
      have raised : (u ≠ "" ∨ L.length = 0) → ∀ a, H' a = none → spInit K (.ref a :: ([.int ((L.map V.str).length : Nat)] ++ [])) (upd H' a (exo a cB none))
          (fun v H2 => v = .non ∧ ∃ (d : Addr) (fs : List (Str × V)), H2 a = some (exo a cB (some d)) ∧ H2 d = some (exd d fs) ∧ H' d = none ∧ E (.ref cB) (some d) (upd (del H2 a) d (.xd fs))) (fun _ _ _ => False) := fun c => by
        rw [List.length_map]
        exact threw EB ti ((thr c).later (u2.trans ui))
      refine ⟨_, rfl, rfl, _, rfl, iteStrN (fun nu => ?_) (fun eu => ?_)⟩
      · exact ⟨_, rfl, l, _, rfl, .inl (SqL.of (ui.lst hl2)), (by show 1 ≤ 1000; decide), raised (.inl nu)⟩
      · refine ⟨_, rfl, _, .inl ⟨_, SqL.of (ui.lst hl2), rfl⟩, ?_⟩
        cases L with
        | nil => exact iteT ⟨_, rfl, l, _, rfl, .inl (SqL.of (ui.lst hl2)), (by show 1 ≤ 1000; decide), raised (.inr rfl)⟩
        | cons l0 L0 =>
          refine iteF ⟨_, rfl, ?_⟩
          unfold rdEnd at out
          simp only at out
          rw [if_neg (by rintro (z | z); exact z eu; exact absurd z (by simp))] at out
          refine out g H' (u2.trans ui) ti ⟨vs, ?_, gr.up (Up.of_same (News.less fun b hb => ?_))⟩
          · rw [news_of ngH]
            exact hg
          · have nb : b ≠ g := fun z => by rw [z, upd_same] at hb; cases hb
            rw [upd_ne nb] at hb
            exact u2.dom hb
end
end Ld

set_option Elab.async false
set_option linter.all false
set_option maxRecDepth 100000
set_option maxHeartbeats 4000000
namespace Ld
open PySem PySem.Spec PyProof.Rows L2 Le TL
/-! ### lengths -/
theorem len_colon : (":" : Str).length = 1 := by decide +kernel
theorem len_sp : (" " : Str).length = 1 := by decide +kernel
theorem len_nl : ("\n" : Str).length = 1 := by decide +kernel
theorem len_no : ("" : Str).length = 0 := by decide +kernel
theorem word_len {z lo hi : Str} (h : wordB z lo hi = true) : z.length ≤ 12 := by
  unfold wordB at h
  rw [Bool.and_eq_true, Bool.and_eq_true] at h
  have := of_decide_eq_true h.2.1
  omega
theorem name_len {z : Str} (h : nameB z = true) : z.length ≤ 12 := word_len h
theorem sym_len {z : Str} (h : symB z = true) : z.length ≤ 12 := by
  unfold symB kindB at h
  rw [Bool.or_eq_true, Bool.and_eq_true] at h
  rcases h with h | h
  · exact word_len h.1
  · exact word_len h
theorem sum_le {c : Nat} : ∀ {ys : List Str}, (∀ y ∈ ys, y.length ≤ c) → (ys.map (·.length)).sum ≤ ys.length * c
  | [], _ => Nat.zero_le _
  | y :: ys, h => by
    have h1 := h y List.mem_cons_self
    have h2 := sum_le fun z hz => h z (List.mem_cons_of_mem _ hz)
    rw [List.map_cons, List.sum_cons, List.length_cons, Nat.succ_mul]
    omega
theorem len_app (x y : Str) : (x ++ y).length = x.length + y.length := by
  show (x.cps ++ y.cps).size = x.cps.size + y.cps.size
  exact Array.size_append
theorem flat_len {c : Nat} : ∀ {ss : List Str}, (∀ s ∈ ss, s.length ≤ c) → (ss.flatMap fun s => 32 :: tl s).length ≤ ss.length * (c + 1)
  | [], _ => Nat.zero_le _
  | s :: ss, h => by
    have h1 := h s List.mem_cons_self
    have h2 := flat_len fun z hz => h z (List.mem_cons_of_mem _ hz)
    rw [List.flatMap_cons, List.length_append, List.length_cons, List.length_cons, Nat.succ_mul, ← len_tl]
    omega
theorem lineS_len {r : Rule} (g : GoodR r) : (lineS r).length ≤ 92 := by
  rw [len_tl, lineS_tl]
  unfold lineT
  have h1 := name_len g.1
  have h2 := flat_len (c := 12) (ss := r.2) fun s hs => sym_len (List.all_eq_true.mp g.2.2 s hs)
  have h3 := g.2.1
  rw [len_tl] at h1
  simp only [List.length_append, List.length_cons, List.length_nil]
  omega
theorem writeT_len : ∀ {G : List Rule}, (∀ r ∈ G, GoodR r) → (writeT G).length ≤ G.length * 92
  | [], _ => Nat.zero_le _
  | r :: G, g => by
    have h1 := lineS_len (g r List.mem_cons_self)
    have h2 := writeT_len fun q hq => g q (List.mem_cons_of_mem _ hq)
    rw [len_tl, lineS_tl] at h1
    have e : writeT (r :: G) = (lineT r ++ [10]) ++ writeT G := by
      unfold writeT
      simp
    rw [e, List.length_append, List.length_cons, Nat.succ_mul]
    omega
theorem writeS_len {G : List Rule} (g : ∀ r ∈ G, GoodR r) : (writeS G).length ≤ G.length * 92 := by
  rw [len_tl, writeS_tl]
  exact writeT_len g
section
variable {P : Program} {w : World} {K : PySem.W.Frag} {mg : Str → Option Value} {base : Heap}
/-! ### _line_of -/
theorem scLn : FnScope ["name", "symbols", "symbol"] ["name", "symbols"] (defScope sLine) := ⟨rfl, rfl, rfl, by decide +kernel, rfl, by decide +kernel, by decide +kernel⟩
def spLine : Sp := fun vs H Q _ => ∃ (r : Rule) (l : Addr), vs = [.str r.1, .ref l] ∧ H l = some (.lst (r.2.map V.str)) ∧ GoodR r ∧ ∀ H2, Same H H2 → Q (.str (lineS r)) H2
theorem take_snoc {α β : Type} (f : α → β) {xs : List α} {i : Nat} {x : α} (h : xs[i]? = some x) : (xs.take (i + 1)).map f = (xs.take i).map f ++ [f x] := by
  rw [List.take_add_one, h, List.map_append]
  rfl
theorem ok_line {f : Addr} {fd : FuncData} (F : Fun K "_line_of" "_line_of" sLine f fd) : FnOk P w K mg base CX0 1 f fd ["name", "symbols"] spLine := by
  refine F.ok scLn (fun vs H Q E h => ?_) (fun cdv A outer s H vs Q E hr h => ?_)
  · obtain ⟨r, l, rfl, _⟩ := h
    rfl
  · obtain ⟨r, l, rfl, hl, g, q⟩ := h
    refine ⟨_, pss_one (ps_ret (pe_op op_add_str (pe_op op_add_str (pe_op op_add_str (pv 0) pe_str) (pe_join pe_str
      (pe_lc (own := [("symbol", 2)]) (g := gName 2) rfl scLn.nd (pi_list (pv 1)) (blkOk_by (N := ["name", "symbols", "symbol"]) (sc := defScope sLine) (by decide +kernel)) (fun _ _ _ _ _ => pg_name (i := 2) scLn.nd rfl (Or.inl rfl)) (fun _ _ _ _ _ => pts_nil)
        (fun _ _ _ _ _ => pe_op op_add_str pe_str (pv 2))))) pe_str)), ?_⟩
    have l1 := name_len g.1
    have l2 := g.2.1
    have l3 : ∀ s ∈ r.2, s.length ≤ 12 := fun s hs => sym_len (List.all_eq_true.mp g.2.2 s hs)
    refine ⟨_, rfl, _, _, rfl, rfl, million0 (by rw [len_colon]; omega), ⟨_, rfl⟩, _, rfl, l, rfl, ⟨_, SqL.of hl⟩, fun D hD => lc_list (a := l) (xs := r.2.map V.str) (fun i H' => H' = upd H D (.lst ((r.2.take i).map fun s => V.str ((" " : Str) ++ s)))) rfl ?_ ?_ ?_⟩
    · rintro i H' _ rfl
      refine SqL.of (K := K) ?_
      rw [upd_ne (ne_of_none hl hD)]
      exact hl
    · rintro i x H' hx rfl
      obtain ⟨s, hs, rfl⟩ : ∃ s, r.2[i]? = some s ∧ x = V.str s := by
        rw [List.getElem?_map] at hx
        cases e : r.2[i]? with
        | none =>
          rw [e] at hx
          cases hx
        | some s =>
          rw [e] at hx
          exact ⟨s, rfl, (Option.some.inj hx).symm⟩
      have ls := l3 s (List.mem_of_getElem? hs)
      refine ⟨rfl, _, rfl, _, _, rfl, rfl, million0 (by rw [len_sp]; omega), _, upd_same, ?_, ?_⟩
      · rw [List.length_map]
        exact Nat.lt_of_le_of_lt (Nat.le_trans (List.length_take_le' _ _) l2) (by decide)
      · rw [upd_upd, take_snoc _ hs]
    · rintro H' rfl
      rw [List.length_map, List.take_length]
      have e : (r.2.map fun s => V.str ((" " : Str) ++ s)) = (r.2.map fun s => (" " : Str) ++ s).map V.str := by
        rw [List.map_map]
        rfl
      rw [e]
      have jl : (Txt.join "" (r.2.map fun s => (" " : Str) ++ s)).length ≤ 78 := by
        rw [len_tl, join0_tl, List.flatMap_map]
        have e2 : (fun s : Str => tl ((" " : Str) ++ s)) = fun s => 32 :: tl s := by
          funext s
          rw [tl_append, space_tl]
          rfl
        rw [e2]
        have := flat_len l3
        omega
      refine ⟨_, _, _, rfl, rfl, .inl (SqL.of upd_same), ?_, ?_⟩
      · have := sum_le (c := 13) (ys := r.2.map fun s => (" " : Str) ++ s) fun y hy => by
          obtain ⟨s, hs, rfl⟩ := List.mem_map.mp hy
          rw [len_app, len_sp]
          have := l3 s hs
          omega
        rw [List.length_map] at this ⊢
        rw [len_no]
        omega
      · have n1 := len_colon
        have n2 := len_nl
        refine ⟨_, _, rfl, rfl, million0 (by rw [len_app]; omega), _, _, rfl, rfl, million0 (by rw [len_app, len_app]; omega), ?_⟩
        exact q _ (same_upd hD)
end
end Ld

set_option Elab.async false
set_option linter.all false
set_option maxRecDepth 100000
set_option maxHeartbeats 4000000
namespace Ld
open PySem PySem.Spec PyProof.Rows L2 Le TL
section
variable {P : Program} {w : World} {K : PySem.W.Frag} {mg : Str → Option Value} {base : Heap}
/-! ### write_grammar -/
theorem scWr : FnScope ["grammar", "name", "symbols"] ["grammar"] (defScope sWrite) := ⟨rfl, rfl, rfl, by decide +kernel, rfl, by decide +kernel, by decide +kernel⟩
def spWrite : Sp := fun vs H Q _ => ∃ (g : Addr) (G : List Rule), vs = [.ref g] ∧ GraA H g G ∧ (∀ r ∈ G, GoodR r) ∧ G.length ≤ 40 ∧ ∀ H2, Up H H2 → (∀ T1 T2, Tb T1 T2 H → Tb T1 T2 H2) → Q (.str (writeS G)) H2
theorem ok_write {f fL : Addr} {fd fdL : FuncData} (F : Fun K "write_grammar" "write_grammar" sWrite f fd) (GL : FnOk P w K mg base CX0 1 fL fdL ["name", "symbols"] spLine) (kL : PySem.W.keepIn K (.ref fL) = true) (bL : Binds K fdL ["name", "symbols"] []) (gL : mg "_line_of" = some (.ref fL)) :
    FnOk P w K mg base CX0 4 f fd ["grammar"] spWrite := by
  refine F.ok scWr (fun vs H Q E h => ?_) (fun cdv A outer s H vs Q E hr h => ?_)
  · obtain ⟨g, G, rfl, _⟩ := h
    rfl
  · obtain ⟨g, G, rfl, hG, good, hlen, q⟩ := h
    refine ⟨_, pss_one (ps_ret (pe_join pe_str
      (pe_lc (own := [("name", 1), ("symbols", 2)]) (g := gTup K 2 (gCons (gName 1) (gCons (gName 2) gNil))) rfl scWr.nd (pi_list (pv 0)) (blkOk_by (N := ["grammar", "name", "symbols"]) (sc := defScope sWrite) (by decide +kernel))
        (fun _ _ _ _ _ => pg_tup rfl (pgs_cons (pg_name (i := 1) scWr.nd rfl (Or.inl rfl)) (pgs_cons (pg_name (i := 2) scWr.nd rfl (Or.inl rfl)) pgs_nil))) (fun _ _ _ _ _ => pts_nil)
        (fun _ _ _ _ _ => pe_call GL (hr.mono (by decide)) (by rfl) gL kL bL .nil pass0 (pa_cons (pv 1) (pa_cons (pv 2) pa_nil)))))), ?_⟩
    obtain ⟨vs, hg, gr⟩ := hG
    refine ⟨⟨_, rfl⟩, _, rfl, g, rfl, ⟨_, SqL.of hg⟩, fun D hD => lc_list (a := g) (xs := vs) (fun i H' => Up H H' ∧ (∀ T1 T2, Tb T1 T2 H → Tb T1 T2 H') ∧ H' D = some (.lst ((G.take i).map fun r => V.str (lineS r)))) ⟨Up.put H hD, fun _ _ t => t.new hD, upd_same⟩ ?_ ?_ ?_⟩
    · rintro i H' _ ⟨u, _, _⟩
      exact SqL.of (u.lst hg)
    · rintro i x H' hx ⟨u, t, hd⟩
      obtain ⟨r, hr2, ra⟩ := gr.get hx
      have g1 := good r (List.mem_of_getElem? hr2)
      obtain ⟨tt, l, rfl, h1, h2⟩ := ra.up u
      refine ⟨tt, _, rfl, SqT.of h1, rfl, _, _, rfl, _, _, rfl, rfl, rfl, _, rfl, _, rfl, r, l, rfl, h2, g1, fun H2 s2 => ⟨_, s2 _ _ hd, ?_, ?_, ?_, ?_⟩⟩
      · rw [List.length_map]
        exact Nat.lt_of_le_of_lt (Nat.le_trans (List.length_take_le' _ _) hlen) (by decide)
      · exact (u.trans (Up.of_same s2)).upd hD
      · intro T1 T2 tb
        have t1 := t T1 T2 tb
        have t2 : Tb T1 T2 H2 := by
          obtain ⟨⟨p1, e1, k1⟩, p2, e2, k2⟩ := t1
          exact ⟨⟨p1, s2 _ _ e1, k1⟩, p2, s2 _ _ e2, k2⟩
        exact t2.lst (s2 _ _ hd)
      · rw [upd_same, take_snoc _ hr2]
    · rintro H' ⟨u, t, hd⟩
      rw [gr.len, List.take_length] at hd
      have e : (G.map fun r => V.str (lineS r)) = (G.map lineS).map V.str := by
        rw [List.map_map]
        rfl
      rw [e] at hd
      refine ⟨_, _, _, rfl, rfl, .inl (SqL.of hd), ?_, q H' u t⟩
      have := sum_le (c := 92) (ys := G.map lineS) fun y hy => by
        obtain ⟨r, hr2, rfl⟩ := List.mem_map.mp hy
        exact lineS_len (good r hr2)
      rw [List.length_map] at this ⊢
      rw [len_no]
      omega
/-! ### names_of -/
theorem scNm : FnScope ["grammar", "names", "name", "symbols"] ["grammar"] (defScope sNames) := ⟨rfl, rfl, rfl, by decide +kernel, rfl, by decide +kernel, by decide +kernel⟩
def nmStep (ns : List Str) (r : Rule) : List Str := if r.1 ∈ ns then ns else ns ++ [r.1]
def namesOf (G : List Rule) : List Str := G.foldl nmStep []
theorem inV_strs (n : Str) (ns : List Str) : inV (V.str n) (ns.map V.str) = decide (n ∈ ns) := by
  unfold inV
  rw [Bool.eq_iff_iff, List.any_eq_true, decide_eq_true_eq]
  constructor
  · rintro ⟨y, hy, e⟩
    obtain ⟨m, hm, rfl⟩ := List.mem_map.mp hy
    have : m = n := by simpa [eqV] using e
    rw [← this]
    exact hm
  · intro h
    exact ⟨V.str n, List.mem_map.mpr ⟨n, h, rfl⟩, by simp [eqV]⟩
theorem flat_strs (ns : List Str) : (ns.map V.str).all flatV = true := by
  rw [List.all_eq_true]
  intro x hx
  obtain ⟨m, _, rfl⟩ := List.mem_map.mp hx
  rfl
theorem fold_len : ∀ (G : List Rule) (ns : List Str), (G.foldl nmStep ns).length ≤ ns.length + G.length
  | [], ns => by simp
  | r :: G, ns => by
    have := fold_len G (nmStep ns r)
    have h2 : (nmStep ns r).length ≤ ns.length + 1 := by
      unfold nmStep
      split
      · omega
      · simp
    rw [List.foldl_cons, List.length_cons]
    omega
theorem fold_take {G : List Rule} {i : Nat} {r : Rule} (h : G[i]? = some r) : (G.take (i + 1)).foldl nmStep [] = nmStep ((G.take i).foldl nmStep []) r := by
  rw [List.take_add_one, h, List.foldl_append]
  rfl
def spNames : Sp := fun vs H Q _ => ∃ (g : Addr) (G : List Rule), vs = [.ref g] ∧ GraA H g G ∧ G.length ≤ 40 ∧ ∀ p H2, Same H H2 → H p = none → H2 p = some (.lst ((namesOf G).map V.str)) → Q (.ref p) H2
theorem ok_names {f : Addr} {fd : FuncData} (F : Fun K "names_of" "names_of" sNames f fd) : FnOk P w K mg base CX0 1 f fd ["grammar"] spNames := by
  refine F.ok scNm (fun vs H Q E h => ?_) (fun cdv A outer s H vs Q E hr h => ?_)
  · obtain ⟨g, G, rfl, _⟩ := h
    rfl
  · obtain ⟨g, G, rfl, hG, hlen, q⟩ := h
    refine ⟨_, pss_cons (ps_set (i := 1) scNm.nd rfl (.inl rfl) (pe_lst pa_nil))
      (pss_cons (ps_for PassesOwn.never rfl (pi_list (pv 0)) (pg_tup rfl (pgs_cons (pg_name (i := 2) scNm.nd rfl (Or.inl rfl)) (pgs_cons (pg_name (i := 3) scNm.nd rfl (Or.inl rfl)) pgs_nil)))
        (pss_one (ps_if (pt_cmpR op_notIn_seq (pv 2) (pv 1) rfl) (pss_one (ps_expr (pe_bm PySem.F.plainAttrs_list PySem.F.slot_list_append PySem.F.type_list_append mt_append (pv 1) (pa_cons (pv 2) pa_nil)))) pss_nil)))
      (pss_one (ps_ret (pv 1)))), ?_⟩
    obtain ⟨vs, hg, gr⟩ := hG
    refine ⟨Nat.zero_le _, fun p np => ?_⟩
    have hg1 : ∀ G2 : HO, upd H p G2 g = some (.lst vs) := fun G2 => by rw [upd_ne (ne_of_none hg np)]; exact hg
    refine ⟨_, rfl, g, rfl, ⟨_, SqL.of (hg1 _)⟩, for_list (a := g) (xs := vs) (fun i σ H' => ∃ v2 v3, σ = [some (.ref g), some (.ref p), v2, v3] ∧ H' = upd H p (.lst (((G.take i).foldl nmStep []).map V.str))) ⟨none, none, rfl, rfl⟩ ?_ ?_ ?_⟩
    · rintro i σ H' _ ⟨v2, v3, rfl, rfl⟩
      exact SqL.of (hg1 _)
    · rintro i x σ H' hx ⟨v2, v3, rfl, rfl⟩
      obtain ⟨r, hr2, ra⟩ := gr.get hx
      obtain ⟨tt, l, rfl, h1, h2⟩ := ra
      have h1' : upd H p (.lst (((G.take i).foldl nmStep []).map V.str)) tt = some (.tup [.str r.1, .ref l]) := by
        rw [upd_ne (ne_of_none h1 np)]
        exact h1
      have e := fold_take hr2
      have hl := fold_len (G.take i) []
      have ht : (G.take i).length ≤ 40 := Nat.le_trans (List.length_take_le' _ _) hlen
      generalize (G.take i).foldl nmStep [] = ns at e hl h1'
      refine ⟨tt, _, rfl, SqT.of h1', rfl, _, _, rfl, _, _, rfl, rfl, ?_⟩
      refine ⟨_, rfl, _, rfl, p, _, rfl, .inl (SqL.of upd_same), rfl, flat_strs ns, _, rfl, ?_⟩
      show (if (!inV (V.str r.1) (ns.map V.str)) = true then _ else _)
      rw [inV_strs]
      by_cases m : r.1 ∈ ns
      · rw [decide_eq_true m]
        refine iteF ⟨_, _, rfl, ?_⟩
        rw [e]
        unfold nmStep
        rw [if_pos m]
      · rw [decide_eq_false m]
        refine iteT ⟨_, rfl, .inl ⟨rfl, _, SqL.of upd_same⟩, _, rfl, p, _, _, rfl, rfl, upd_same, ?_, _, _, rfl, ?_⟩
        · rw [List.length_map]
          exact Nat.lt_of_le_of_lt (Nat.le_trans hl (by rw [List.length_nil]; omega : _ ≤ 40)) (by decide)
        · rw [e, upd_upd]
          unfold nmStep
          rw [if_neg m, List.map_append]
          rfl
    · rintro σ H' ⟨v2, v3, rfl, rfl⟩
      refine ⟨_, rfl, q p _ (same_upd np) np ?_⟩
      rw [gr.len, List.take_length]
      exact upd_same
end
end Ld

set_option Elab.async false
set_option linter.all false
set_option maxRecDepth 100000
set_option maxHeartbeats 4000000
namespace Ld
open PySem PySem.Spec PyProof.Rows L2 Le TL
section
variable {P : Program} {w : World} {K : PySem.W.Frag} {mg : Str → Option Value} {base : Heap}
/-! ### _law_mix -/
theorem scMx : FnScope ["draws", "k", "many", "value"] ["draws", "k", "many"] (defScope sMix) := ⟨rfl, rfl, rfl, by decide +kernel, rfl, by decide +kernel, by decide +kernel⟩
def spMix (K : PySem.W.Frag) : Sp := fun vs H Q _ => ∃ (a : Addr) (ds : List Int) (k many : Int), vs = [.ref a, .int k, .int many] ∧ SqL K H a (ds.map V.int) ∧ 0 < many ∧ ∀ v, 0 ≤ v → v < many → Q (.int v) H
theorem ok_mix {f : Addr} {fd : FuncData} (F : Fun K "_law_mix" "_law_mix" sMix f fd) (ml : mg "len" = none) (mi : mg "int" = none) : FnOk P w K mg base CX0 1 f fd ["draws", "k", "many"] (spMix K) := by
  refine F.ok scMx (fun vs H Q E h => ?_) (fun cdv A outer s H vs Q E hr h => ?_)
  · obtain ⟨a, ds, k, many, rfl, _⟩ := h
    rfl
  · obtain ⟨a, ds, k, many, rfl, hS, hm, q⟩ := h
    refine ⟨_, pss_cons (ps_set (i := 3) scMx.nd rfl (.inl rfl) pe_int)
      (pss_cons (ps_if (pt_cmpR op_gt (pe_callB call_len_seq (by rfl) ml PySem.boot_len (pa_cons (pv 0) pa_nil)) pe_int (nomark _))
        (pss_one (ps_set (i := 3) scMx.nd rfl (.inl rfl) (pe_ix ix_list (pv 0) (pe_op op_mod (pe_callTy call_int1 (by rfl) mi (by decide +kernel) (pa_cons (pv 1) pa_nil)) (pe_callB call_len_seq (by rfl) ml PySem.boot_len (pa_cons (pv 0) pa_nil))) (fun _ _ => rfl)))) pss_nil)
      (pss_cons (ps_if (pt_cmpR op_lt (pv 1) (pe_callB call_len_seq (by rfl) ml PySem.boot_len (pa_cons (pv 0) pa_nil)) (nomark _))
        (pss_one (ps_ret (pe_op op_mod (pe_callTy call_int1 (by rfl) mi (by decide +kernel) (pa_cons (pv 3) pa_nil)) (pv 2)))) pss_nil)
      (pss_one (ps_ret (pe_op op_mod (pe_callTy call_int1 (by rfl) mi (by decide +kernel) (pa_cons (pe_op op_fdiv (pe_callTy call_int1 (by rfl) mi (by decide +kernel) (pa_cons (pe_op op_add (pe_op op_mul (pv 3) pe_int) (pe_op op_mul (pv 1) pe_int)) pa_nil)) pe_int) pa_nil)) (pv 2)))))), ?_⟩
    have fin : ∀ x : Int, Q (.int (x % many)) H := fun x => q _ (Int.emod_nonneg _ (by omega)) (Int.emod_lt_of_pos _ hm)
    refine ⟨_, rfl, a, _, rfl, .inl hS, _, _, rfl, rfl, _, rfl, ite2 (fun c => ?_) (fun c => ?_)⟩
    · have c1 : (0 : Int) < ((ds.map V.int).length : Int) := of_decide_eq_true c
      have lo := Int.emod_nonneg k (b := ((ds.map V.int).length : Int)) (by omega)
      have hi := Int.emod_lt_of_pos k c1
      have gi := getI (ns := ds) (i := (k % ((ds.map V.int).length : Int)).toNat) (by rw [List.length_map] at *; omega)
      refine ⟨_, rfl, _, rfl, .inl ⟨_, rfl, _, rfl, a, _, rfl, .inl hS, _, _, rfl, rfl, c1, a, _, _, _, rfl, rfl, hS, at_of (j := (k % ((ds.map V.int).length : Int)).toNat) (by omega) gi, ?_⟩⟩
      refine ⟨_, rfl, _, rfl, a, _, rfl, .inl hS, _, _, rfl, rfl, _, rfl, ite2 (fun c => ?_) (fun c => ?_)⟩
      · exact ⟨_, rfl, .inl ⟨_, rfl, _, rfl, _, _, rfl, rfl, hm, fin _⟩⟩
      · exact ⟨_, rfl, _, _, rfl, rfl, .inr ⟨by decide, by decide⟩, _, rfl, _, _, rfl, rfl, .inr ⟨by decide, by decide⟩, _, _, rfl, rfl, .inl ⟨_, rfl, _, _, rfl, rfl, ⟨by decide, by decide⟩, .inl ⟨_, rfl, _, rfl, _, _, rfl, rfl, hm, fin _⟩⟩⟩
    · refine ⟨_, rfl, _, rfl, a, _, rfl, .inl hS, _, _, rfl, rfl, _, rfl, ite2 (fun c => ?_) (fun c => ?_)⟩
      · exact ⟨_, rfl, .inl ⟨_, rfl, _, rfl, _, _, rfl, rfl, hm, fin _⟩⟩
      · exact ⟨_, rfl, _, _, rfl, rfl, .inr ⟨by decide, by decide⟩, _, rfl, _, _, rfl, rfl, .inr ⟨by decide, by decide⟩, _, _, rfl, rfl, .inl ⟨_, rfl, _, _, rfl, rfl, ⟨by decide, by decide⟩, .inl ⟨_, rfl, _, rfl, _, _, rfl, rfl, hm, fin _⟩⟩⟩
/-! ### _law_written -/
theorem scWt : FnScope ["grammar", "text", "name", "symbols"] ["grammar"] (defScope sWrit) := ⟨rfl, rfl, rfl, by decide +kernel, rfl, by decide +kernel, by decide +kernel⟩
def spWrit : Sp := fun vs H Q _ => ∃ (g : Addr) (G : List Rule), vs = [.ref g] ∧ GraA H g G ∧ (∀ r ∈ G, GoodR r) ∧ G.length ≤ 40 ∧ ∀ H2, Same H H2 → Q (.str (writeS G)) H2
theorem ok_writ {f : Addr} {fd : FuncData} (F : Fun K "_law_written" "_law_written" sWrit f fd) : FnOk P w K mg base CX0 1 f fd ["grammar"] spWrit := by
  refine F.ok scWt (fun vs H Q E h => ?_) (fun cdv A outer s H vs Q E hr h => ?_)
  · obtain ⟨g, G, rfl, _⟩ := h
    rfl
  · obtain ⟨g, G, rfl, hG, good, hlen, q⟩ := h
    refine ⟨_, pss_cons (ps_set (i := 1) scWt.nd rfl (.inl rfl) pe_str)
      (pss_cons (ps_for PassesOwn.never rfl (pi_list (pv 0)) (pg_tup rfl (pgs_cons (pg_name (i := 2) scWt.nd rfl (Or.inl rfl)) (pgs_cons (pg_name (i := 3) scWt.nd rfl (Or.inl rfl)) pgs_nil)))
        (pss_one (ps_set (i := 1) scWt.nd rfl (.inl rfl) (pe_op op_add_str (pe_op op_add_str (pv 1) (pe_join pe_str (pe_op op_cat (pe_lst (pa_cons (pe_op op_add_str (pv 2) pe_str) pa_nil)) (pv 3)))) pe_str))))
      (pss_one (ps_ret (pv 1)))), ?_⟩
    obtain ⟨vs, hg, gr⟩ := hG
    refine ⟨_, rfl, g, rfl, ⟨_, SqL.of hg⟩, for_list (a := g) (xs := vs) (fun i σ H' => ∃ v2 v3, σ = [some (.ref g), some (.str (writeS (G.take i))), v2, v3] ∧ Same H H') ⟨none, none, by rw [List.take_zero, writeS_nil]; rfl, Same.refl H⟩ ?_ ?_ ?_⟩
    · rintro i σ H' _ ⟨v2, v3, rfl, s⟩
      exact SqL.of (s _ _ hg)
    · rintro i x σ H' hx ⟨v2, v3, rfl, s⟩
      obtain ⟨r, hr2, ra⟩ := gr.get hx
      have g1 := good r (List.mem_of_getElem? hr2)
      obtain ⟨tt, l, rfl, h1, h2⟩ := ra.up (Up.of_same s)
      have l1 := name_len g1.1
      have l2 := g1.2.1
      have l3 : ∀ s ∈ r.2, s.length ≤ 12 := fun s hs => sym_len (List.all_eq_true.mp g1.2.2 s hs)
      have wl : (writeS (G.take i)).length ≤ 40 * 92 := by
        have := writeS_len (G := G.take i) fun q hq => good q (List.mem_of_mem_take hq)
        have h3 : (G.take i).length ≤ 40 := Nat.le_trans (List.length_take_le' _ _) hlen
        have := Nat.mul_le_mul_right 92 h3
        omega
      have e : writeS (G.take (i + 1)) = writeS (G.take i) ++ Txt.join " " ((r.1 ++ (":" : Str)) :: r.2) ++ ("\n" : Str) := by
        rw [List.take_add_one, hr2]
        exact writeS_snoc _ r
      have jl : (Txt.join " " ((r.1 ++ (":" : Str)) :: r.2)).length ≤ 92 := by
        have h5 := lineS_len g1
        rw [← law_line, len_app] at h5
        omega
      refine ⟨tt, _, rfl, SqT.of h1, rfl, _, _, rfl, _, _, rfl, rfl, ?_⟩
      refine ⟨_, rfl, ⟨_, rfl⟩, _, rfl, _, _, rfl, rfl, million0 (by rw [len_colon]; omega), (by show 1 ≤ sizeLine; decide), fun p np => ?_⟩
      have h2p : upd H' p (.lst [.str (r.1 ++ ":")]) l = some (.lst (r.2.map V.str)) := by
        rw [upd_ne (ne_of_none h2 np)]
        exact h2
      refine ⟨_, rfl, p, l, _, _, rfl, rfl, upd_same, h2p, ?_, fun c nc => ?_⟩
      · rw [List.length_map]
        show 1 + r.2.length ≤ sizeLine
        exact million0 (by omega)
      refine ⟨_, c, (r.1 ++ ":") :: r.2, rfl, rfl, .inl (SqL.of upd_same), ?_, ?_⟩
      · have := sum_le (c := 13) (ys := (r.1 ++ (":" : Str)) :: r.2) fun y hy => by
          rcases List.mem_cons.mp hy with z | z
          · rw [z, len_app, len_colon]
            omega
          · have := l3 y z
            omega
        rw [List.length_cons] at this ⊢
        rw [len_sp]
        omega
      · refine ⟨_, _, rfl, rfl, million0 (by omega), _, _, rfl, rfl, million0 (by rw [len_app, len_nl]; omega), ?_⟩
        refine ⟨some (.str r.1), some (.ref l), ?_, (s.trans (same_upd np)).trans (same_upd nc)⟩
        rw [e]
        rfl
    · rintro σ H' ⟨v2, v3, rfl, s⟩
      rw [gr.len, List.take_length]
      exact ⟨_, rfl, q H' s⟩
end
end Ld

set_option Elab.async false
set_option linter.all false
set_option maxRecDepth 100000
set_option maxHeartbeats 4000000
namespace Ld
open PySem PySem.Spec PyProof.Rows L2 Le TL
section
variable {P : Program} {w : World} {K : PySem.W.Frag} {mg : Str → Option Value} {base : Heap}
/-! ### _law_grammar -/
theorem scGr : FnScope ["draws", "k", "most", "words", "rules", "n", "at", "name", "size", "rule", "j"] ["draws", "k", "most"] (defScope sGram) := ⟨rfl, rfl, rfl, by decide +kernel, rfl, by decide +kernel, by decide +kernel⟩
def wordsL : List Str := ["a", "bb", "s", "list", "A", "BB", "NUMBER", "a", "bb", "A"]
theorem words_sym : wordsL.all symB = true := by decide +kernel
theorem words_name : (wordsL.take 4).all nameB = true := by decide +kernel
theorem pick_word {v : Int} (h0 : 0 ≤ v) (h1 : v < 10) : ∃ s, (wordsL.map V.str)[v.toNat]? = some (V.str s) ∧ symB s = true ∧ (v < 4 → nameB s = true) := by
  have e : v.toNat < wordsL.length := by
    show v.toNat < 10
    omega
  refine ⟨wordsL[v.toNat], by rw [List.getElem?_map, List.getElem?_eq_getElem e]; rfl, List.all_eq_true.mp words_sym _ (List.getElem_mem e), fun h4 => ?_⟩
  refine List.all_eq_true.mp words_name _ ?_
  have e2 : v.toNat < (wordsL.take 4).length := by
    show v.toNat < 4
    omega
  have e3 : wordsL[v.toNat] = (wordsL.take 4)[v.toNat] := by rw [List.getElem_take]
  rw [e3]
  exact List.getElem_mem e2
theorem pick_size {v : Int} (h0 : 0 ≤ v) (h1 : v < 4) : ∃ c : Int, ([V.int 3, V.int 3, V.int 4, V.int 7] : List V)[v.toNat]? = some (V.int c) ∧ 0 < c ∧ c ≤ 7 := by
  have e : v.toNat = 0 ∨ v.toNat = 1 ∨ v.toNat = 2 ∨ v.toNat = 3 := by omega
  rcases e with e | e | e | e <;> rw [e]
  · exact ⟨3, rfl, by decide, by decide⟩
  · exact ⟨3, rfl, by decide, by decide⟩
  · exact ⟨4, rfl, by decide, by decide⟩
  · exact ⟨7, rfl, by decide, by decide⟩
theorem same_put {A B : Hp} (u : Same A B) {p : Addr} {o : HO} (n : A p = none) : Same A (upd B p o) := fun b x e => by
  rw [upd_ne (ne_of_none e n)]
  exact u b x e
def spGram (K : PySem.W.Frag) : Sp := fun vs H Q _ => ∃ (a : Addr) (ds : List Int) (k : Int) (most : Nat), vs = [.ref a, .int k, .int most] ∧ H a = some (.lst (ds.map V.int)) ∧ 0 < most ∧ most ≤ 40 ∧
  ∀ g H2 G, Same H H2 → GoodG most G → GraA (News H H2) g G → Q (.ref g) H2
theorem ok_gram {f fM : Addr} {fd fdM : FuncData} (F : Fun K "_law_grammar" "_law_grammar" sGram f fd) (GM : FnOk P w K mg base CX0 1 fM fdM ["draws", "k", "many"] (spMix K)) (kM : PySem.W.keepIn K (.ref fM) = true) (bM : Binds K fdM ["draws", "k", "many"] []) (gM : mg "_law_mix" = some (.ref fM))
    (mr : mg "range" = none) : FnOk P w K mg base CX0 4 f fd ["draws", "k", "most"] (spGram K) := by
  refine F.ok scGr (fun vs H Q E h => ?_) (fun cdv A outer s H vs Q E hr h => ?_)
  · obtain ⟨a, ds, k, most, rfl, _⟩ := h
    rfl
  · obtain ⟨a, ds, k, most, rfl, ha, m0, m40, q⟩ := h
    have hr1 := hr.mono (show 1 ≤ 3 by decide)
    refine ⟨_, pss_cons (ps_set (i := 3) scGr.nd rfl (.inr rfl) (pe_lst (pa_cons pe_str (pa_cons pe_str (pa_cons pe_str (pa_cons pe_str (pa_cons pe_str (pa_cons pe_str (pa_cons pe_str (pa_cons pe_str (pa_cons pe_str (pa_cons pe_str pa_nil))))))))))))
      (pss_cons (ps_set (i := 4) scGr.nd rfl (.inl rfl) (pe_lst pa_nil))
      (pss_cons (ps_for PassesOwn.never rfl (pi_range1 rfl mr (pa_cons (pe_op op_add pe_int (pe_call GM hr1 (by rfl) gM kM bM .nil pass0 (pa_cons (pv 0) (pa_cons (pv 1) (pa_cons (pv 2) pa_nil))))) pa_nil)) (pg_name (i := 5) scGr.nd rfl (.inl rfl))
        (pss_cons (ps_set (i := 6) scGr.nd rfl (.inr rfl) (pe_op op_add (pe_op op_add (pv 1) pe_int) (pe_op op_mul pe_int (pv 5))))
        (pss_cons (ps_set (i := 7) scGr.nd rfl (.inl rfl) (pe_ix ix_list (pv 3) (pe_call GM hr1 (by rfl) gM kM bM .nil pass0 (pa_cons (pv 0) (pa_cons (pv 6) (pa_cons pe_int pa_nil)))) (fun _ _ => rfl)))
        (pss_cons (ps_set (i := 8) scGr.nd rfl (.inl rfl) (pe_call GM hr1 (by rfl) gM kM bM .nil pass0 (pa_cons (pv 0) (pa_cons (pe_op op_add (pv 6) pe_int) (pa_cons
            (pe_ix ix_list (pe_lst (pa_cons pe_int (pa_cons pe_int (pa_cons pe_int (pa_cons pe_int pa_nil))))) (pe_call GM hr1 (by rfl) gM kM bM .nil pass0 (pa_cons (pv 0) (pa_cons (pe_op op_add (pv 6) pe_int) (pa_cons pe_int pa_nil)))) (fun _ _ => rfl)) pa_nil)))))
        (pss_cons (ps_set (i := 9) scGr.nd rfl (.inl rfl) (pe_tup (pa_cons (pv 7) (pa_cons
            (pe_lc (own := [("j", 10)]) (g := gName 10) rfl scGr.nd (pi_range1 rfl mr (pa_cons (pv 8) pa_nil)) (blkOk_by (N := ["draws", "k", "most", "words", "rules", "n", "at", "name", "size", "rule", "j"]) (sc := defScope sGram) (by decide +kernel)) (fun _ _ _ _ _ => pg_name (i := 10) scGr.nd rfl (Or.inl rfl)) (fun _ _ _ _ _ => pts_nil)
              (fun _ _ _ _ _ => pe_ix (r := rIxL K) ix_list (pv 3) (pe_call GM hr1 (by rfl) gM kM bM .nil pass0 (pa_cons (pv 0) (pa_cons (pe_op op_add (pe_op op_add (pv 6) pe_int) (pv 10)) (pa_cons pe_int pa_nil)))) (fun _ _ => rfl))) pa_nil))))
        (pss_one (ps_if (pt_cmpR (op_notInD (units65 hr)) (pv 9) (pv 4) rfl) (pss_one (ps_expr (pe_bm PySem.F.plainAttrs_list PySem.F.slot_list_append PySem.F.type_list_append mt_append (pv 4) (pa_cons (pv 9) pa_nil)))) pss_nil)))))))
      (pss_one (ps_ret (pv 4))))), ?_⟩
    refine ⟨(by show 10 ≤ sizeLine; decide), fun wd nwd => ⟨Nat.zero_le _, fun rl nrl => ?_⟩⟩
    have s1 : Same H (upd H wd (.lst (wordsL.map V.str))) := same_upd nwd
    have hw1 : upd H wd (.lst (wordsL.map V.str)) wd = some (.lst (wordsL.map V.str)) := upd_same
    have nrl1 : upd H wd (.lst (wordsL.map V.str)) rl = none := nrl
    show _
    generalize hH1 : upd H wd (.lst (wordsL.map V.str)) = H1 at s1 hw1 nrl1
    have hH1' : upd H wd (.lst [V.str "a", V.str "bb", V.str "s", V.str "list", V.str "A", V.str "BB", V.str "NUMBER", V.str "a", V.str "bb", V.str "A"]) = H1 := hH1
    have nrl0 : H rl = none := s1.free nrl1
    have ha1 := s1 _ _ ha
    have hab : ∀ {B : Hp}, Same H1 B → SqL K B a (ds.map V.int) := fun u => SqL.of (u _ _ ha1)
    have sb : Same H1 (upd H1 rl (.lst [])) := same_upd nrl1
    simp only [hH1']
    refine ⟨_, rfl, _, rfl, _, rfl, a, ds, k, most, rfl, hab sb, by omega, fun v v0 v1 => ?_⟩
    refine ⟨_, _, rfl, rfl, _, rfl, by omega, by omega, for_range (lo := 0) (n := (1 + v).toNat) (fun i σ H' => ∃ v5 v6 v7 v8 v9 v10 vs G, σ = [some (.ref a), some (.int k), some (.int most), some (.ref wd), some (.ref rl), v5, v6, v7, v8, v9, v10] ∧ Same H1 H' ∧ H' rl = some (.lst vs) ∧
      GrA (News (upd H1 rl (.lst [])) H') vs G ∧ (∀ r ∈ G, GoodR r) ∧ G.Nodup ∧ G.length ≤ i ∧ (i = 0 ∨ G ≠ [])) ⟨none, none, none, none, none, none, [], [], rfl, sb, upd_same, True.intro, (fun _ m => nomatch m), List.nodup_nil, Nat.le_refl _, .inl rfl⟩ ?_ ?_⟩
    · rintro i σ H' hi ⟨v5, v6, v7, v8, v9, v10, vs, G, rfl, s', hrl, gr, good, nd, gl, gn⟩
      have domb : ∀ b, H' b = none → upd H1 rl (.lst []) b = none := fun b hb => by
        have nb : b ≠ rl := fun z => by rw [z, hrl] at hb; cases hb
        rw [upd_ne nb]
        exact s'.free hb
      refine ⟨_, rfl, _, _, rfl, rfl, _, rfl, _, _, rfl, rfl, .inl ⟨by decide, by decide⟩, _, _, rfl, rfl, ?_⟩
      refine ⟨_, rfl, _, rfl, _, rfl, a, ds, _, _, rfl, hab s', (by decide : (0 : Int) < 4), fun x x0 x1 => ?_⟩
      obtain ⟨nm, gnm, _, nmB⟩ := pick_word x0 (by omega)
      refine ⟨wd, _, _, _, rfl, rfl, SqL.of (s' _ _ hw1), at_of (j := x.toNat) (by omega) gnm, ?_⟩
      refine ⟨_, rfl, _, rfl, _, _, rfl, rfl, (by show 4 ≤ sizeLine; decide), fun qq nq => ?_⟩
      have sq : Same H' (upd H' qq (.lst [.int 3, .int 3, .int 4, .int 7])) := same_upd nq
      have hq : upd H' qq (.lst [.int 3, .int 3, .int 4, .int 7]) qq = some (.lst [.int 3, .int 3, .int 4, .int 7]) := upd_same
      generalize upd H' qq (.lst [.int 3, .int 3, .int 4, .int 7]) = H2 at sq hq
      have s2 := s'.trans sq
      refine ⟨_, rfl, _, rfl, _, _, rfl, rfl, a, ds, _, _, rfl, hab s2, (by decide : (0 : Int) < 4), fun y y0 y1 => ?_⟩
      obtain ⟨c, gc, c0, c7⟩ := pick_size y0 y1
      refine ⟨qq, _, _, _, rfl, rfl, SqL.of hq, at_of (j := y.toNat) (by omega) gc, ?_⟩
      refine ⟨a, ds, _, _, rfl, hab s2, c0, fun size z0 z1 => ?_⟩
      refine ⟨_, rfl, _, rfl, size, rfl, by omega, by omega, fun D hD => lc_range (lo := 0) (n := size.toNat) (fun j H'' => ∃ ss : List Str, ss.length = j ∧ (∀ s ∈ ss, symB s = true) ∧ H'' = upd H2 D (.lst (ss.map V.str))) ⟨[], rfl, (fun _ m => nomatch m), rfl⟩ ?_ ?_⟩
      · rintro j H'' hj ⟨ss, hss, hsy, rfl⟩
        refine ⟨rfl, _, rfl, _, rfl, _, rfl, _, _, rfl, rfl, _, rfl, _, _, rfl, rfl, a, ds, _, _, rfl, hab (s2.trans (same_upd hD)), (by decide : (0 : Int) < 10), fun p p0 p1 => ?_⟩
        obtain ⟨sy, gsy, syB, _⟩ := pick_word p0 p1
        refine ⟨wd, _, _, _, rfl, rfl, SqL.of ((s2.trans (same_upd hD)) _ _ hw1), at_of (j := p.toNat) (by omega) gsy, _, upd_same, ?_, ss ++ [sy], ?_, fun s hs => ?_, ?_⟩
        · rw [List.length_map, hss]
          exact Nat.lt_of_lt_of_le (by omega : j < 7) (by decide)
        · rw [List.length_append, List.length_singleton, hss]
        · rcases List.mem_append.mp hs with m | m
          · exact hsy s m
          · rw [List.mem_singleton.mp m]
            exact syB
        · rw [upd_upd, List.map_append]
          rfl
      · rintro H'' ⟨ss, hss, hsy, rfl⟩
        refine ⟨(by show 2 ≤ sizeLine; decide), fun t nt => ?_⟩
        have gr1 : GoodR (nm, ss) := ⟨nmB x1, by show ss.length ≤ 6; omega, List.all_eq_true.mpr hsy⟩
        have s3 : Same H' (upd H2 D (.lst (ss.map V.str))) := sq.trans (same_upd hD)
        have s4 : Same H' (upd (upd H2 D (.lst (ss.map V.str))) t (.tup [.str nm, .ref D])) := s3.trans (same_upd nt)
        have ht : upd (upd H2 D (.lst (ss.map V.str))) t (.tup [.str nm, .ref D]) t = some (.tup [.str nm, .ref D]) := upd_same
        have hDv : upd (upd H2 D (.lst (ss.map V.str))) t (.tup [.str nm, .ref D]) D = some (.lst (ss.map V.str)) := by
          rw [upd_ne (ne_of_none upd_same nt)]
          exact upd_same
        have nt0 : H' t = none := s3.free nt
        have nD0 : H' D = none := sq.free hD
        generalize upd (upd H2 D (.lst (ss.map V.str))) t (.tup [.str nm, .ref D]) = H4 at s4 ht hDv
        have ra : RuleA (News (upd H1 rl (.lst [])) H4) (.ref t) (nm, ss) := ⟨t, D, rfl, by rw [news_of (domb t nt0)]; exact ht, by rw [news_of (domb D nD0)]; exact hDv⟩
        have gr4 : GrA (News (upd H1 rl (.lst [])) H4) vs G := gr.up (News.up (Up.of_same s4))
        have hrl4 := s4 _ _ hrl
        have gd : Dp K H4 (.ref rl) (.list (G.map ruleD)) := (show GraA H4 rl G from ⟨vs, hrl4, gr4.up (Up.of_same news_same)⟩).dp
        refine ⟨_, rfl, _, rfl, ruleD (nm, ss), G.map ruleD, (ra.up (Up.of_same news_same)).dp, gd, rule_shaped gr1, gD_shaped good, _, rfl, ?_⟩
        rw [ruleD_in]
        by_cases m : (nm, ss) ∈ G
        · rw [decide_eq_true m]
          refine iteF ⟨_, _, _, _, _, _, vs, G, rfl, s'.trans s4, hrl4, gr4, good, nd, by omega, .inr fun z => ?_⟩
          rw [z] at m
          cases m
        · rw [decide_eq_false m]
          refine iteT ⟨_, rfl, .inl ⟨rfl, _, SqL.of hrl4⟩, _, rfl, rl, _, _, rfl, rfl, hrl4, ?_, _, _, _, _, _, _, vs ++ [.ref t], G ++ [(nm, ss)], rfl, same_put (s'.trans s4) nrl1, upd_same, ?_, fun r hr2 => ?_, ?_, ?_, .inr ?_⟩
          · rw [gr.len]
            exact Nat.lt_of_le_of_lt (by omega : G.length ≤ 40) (by decide)
          · rw [News.put (upd_same (H := H1) (a := rl) (o := .lst []))]
            exact gr4.snoc ra
          · rcases List.mem_append.mp hr2 with z | z
            · exact good r z
            · rw [List.mem_singleton.mp z]
              exact gr1
          · rw [List.nodup_append]
            refine ⟨nd, by simp, fun p hp p2 hp2 e => ?_⟩
            rw [List.mem_singleton.mp hp2] at e
            rw [e] at hp
            exact m hp
          · rw [List.length_append, List.length_singleton]
            omega
          · simp
    · rintro σ H' ⟨v5, v6, v7, v8, v9, v10, vs, G, rfl, s', hrl, gr, good, nd, gl, gn⟩
      refine ⟨_, rfl, q rl H' G (s1.trans s') ⟨good, nd, ?_, by omega⟩ ⟨vs, by rw [news_of nrl0]; exact hrl, gr.up (Up.of_same (News.less fun b hb => ?_))⟩⟩
      · rcases gn with z | z
        · omega
        · exact z
      · have nb : b ≠ rl := fun z => by rw [z, upd_same] at hb; cases hb
        rw [upd_ne nb] at hb
        exact s1.free hb
end
end Ld

set_option Elab.async false
set_option linter.all false
set_option maxRecDepth 100000
set_option maxHeartbeats 4000000
namespace Ld
open PySem PySem.Spec PyProof.Rows L2 Le TL
/-! ### lengths of what is cut and joined -/
def sumL (L : List Str) : Nat := (L.map (·.length)).sum
theorem sumL_app (A B : List Str) : sumL (A ++ B) = sumL A + sumL B := by
  unfold sumL
  rw [List.map_append, List.sum_append]
theorem sumL_drop : ∀ (L : List Str) (k : Nat), sumL (L.drop k) ≤ sumL L
  | L, 0 => Nat.le_refl _
  | [], _ + 1 => Nat.le_refl _
  | x :: L, k + 1 => by
    have := sumL_drop L k
    show sumL (L.drop k) ≤ x.length + sumL L
    omega
theorem sumL_take : ∀ (L : List Str) (k : Nat), sumL (L.take k) ≤ sumL L
  | _, 0 => Nat.zero_le _
  | [], _ + 1 => Nat.le_refl _
  | x :: L, k + 1 => by
    have := sumL_take L k
    show x.length + sumL (L.take k) ≤ x.length + sumL L
    omega
def cutL (L : List Str) (lo hi : Option Int) : List Str := (L.drop (HT.sIx L.length 0 lo)).take (HT.sIx L.length L.length hi - HT.sIx L.length 0 lo)
theorem cutV_strs (L : List Str) (lo hi : Option Int) : cutV (L.map V.str) lo hi = (cutL L lo hi).map V.str := by
  unfold cutV cutL
  rw [List.length_map, List.map_take, List.map_drop]
theorem cutL_sum (L : List Str) (lo hi : Option Int) : sumL (cutL L lo hi) ≤ sumL L := Nat.le_trans (sumL_take _ _) (sumL_drop _ _)
theorem cutL_len (L : List Str) (lo hi : Option Int) : (cutL L lo hi).length ≤ L.length := by
  unfold cutL
  rw [List.length_take, List.length_drop]
  omega
theorem joinL_len (s : Nat) : ∀ l : List (List Nat), (joinL [s] l).length ≤ (l.map (·.length)).sum + l.length
  | [] => Nat.le_refl _
  | [p] => by
    show p.length ≤ p.length + 0 + 1
    omega
  | p :: q :: r => by
    have := joinL_len s (q :: r)
    show (p ++ ([s] ++ joinL [s] (q :: r))).length ≤ p.length + ((q :: r).map (·.length)).sum + ((q :: r).length + 1)
    rw [List.length_append, List.length_append, List.length_singleton]
    omega
theorem join_len (L : List Str) : (Txt.join "\n" L).length ≤ sumL L + L.length := by
  rw [len_tl, join_eq, tl_join, nl_tl]
  have h := joinL_len 10 (L.map tl)
  have e : ((L.map tl).map (·.length)) = L.map (·.length) := by
    rw [List.map_map]
    congr 1
  rw [e, List.length_map] at h
  exact h
theorem join_fits {ys : List Str} (h : sumL ys + ys.length ≤ 16777216) : (ys.map (·.length)).sum + ys.length * ("\n" : Str).length ≤ 16777216 := by
  rw [len_nl, Nat.mul_one]
  exact h
theorem sumL_one (x : Str) : sumL [x] = x.length := by
  show x.length + 0 = _
  omega
theorem spl_sum (s : Nat) : ∀ (n : Nat) (L : List Nat), L.length ≤ n → ((spl [s] 0 [] L).map (·.length)).sum ≤ L.length
  | n, L, h => by
    rcases cut_first s L with c | ⟨p, r, rfl, c⟩
    · rw [spl_no c]
      show L.length + 0 ≤ _
      omega
    · rw [spl_at1 c]
      rw [List.length_append, List.length_cons] at h ⊢
      cases n with
      | zero => omega
      | succ m =>
        have := spl_sum s m r (by omega)
        rw [List.map_cons, List.sum_cons]
        omega
theorem lines_sum (x : Str) : sumL (linesOf x) ≤ x.length := by
  have h := spl_sum 10 _ (tl x) (Nat.le_refl _)
  rw [← linesOf_tl, ← len_tl, List.map_map] at h
  have e : ((fun x : List Nat => x.length) ∘ tl) = (fun x : Str => x.length) := by
    funext y
    exact (len_tl y).symm
  rw [e] at h
  exact h
def bnd : Nat → Nat
  | 0 => 4000
  | n + 1 => 5 * bnd n + 40
theorem bnd_hi {i : Nat} (h : i ≤ 2) : bnd i ≤ 101000 := by
  have : i = 0 ∨ i = 1 ∨ i = 2 := by omega
  rcases this with rfl | rfl | rfl <;> decide
section
variable {P : Program} {w : World} {K : PySem.W.Frag} {mg : Str → Option Value} {base : Heap}
/-! ### _law_spoilt -/
theorem scSp : FnScope ["draws", "text", "turn", "word", "place", "sign", "lines", "which"] ["draws", "text"] (defScope sSpoil) := ⟨rfl, rfl, rfl, by decide +kernel, rfl, by decide +kernel, by decide +kernel⟩
def spSpoil (K : PySem.W.Frag) : Sp := fun vs H Q _ => ∃ (a : Addr) (ds : List Int) (z : Str), vs = [.ref a, .str z] ∧ H a = some (.lst (ds.map V.int)) ∧ z.length ≤ 4000 ∧ ∀ z2 H2, z2.length ≤ 101000 → Same H H2 → Q (.str z2) H2
def signsL : Str := " \n:aAzZO9"
theorem atI_ok {α : Type} {xs : List α} {v : Int} (h0 : 0 ≤ v) (h1 : v < (xs.length : Int)) : ∃ c, atI xs v = some c := by
  have e : v = ((v.toNat : Nat) : Int) := by omega
  have hl : v.toNat < xs.length := by omega
  obtain ⟨c, hc⟩ : ∃ c, xs[v.toNat]? = some c := ⟨_, List.getElem?_eq_getElem hl⟩
  refine ⟨c, ?_⟩
  rw [e]
  exact atI_nat hc
theorem iteEq {i j : Int} {A B : Prop} (h1 : i = j → A) (h2 : i ≠ j → B) : if decide (V.int i = V.int j) = true then A else B := by
  by_cases e : i = j
  · subst e
    rw [decide_eq_true rfl]
    exact iteT (h1 rfl)
  · rw [decide_eq_false (fun z => e (V.int.inj z))]
    exact iteF (h2 e)
theorem ok_spoil {f fA : Addr} {fd fdA : FuncData} (F : Fun K "_law_spoilt" "_law_spoilt" sSpoil f fd) (GA : FnOk P w K mg base CX0 1 fA fdA ["draws", "k", "many"] (spAt K)) (kA : PySem.W.keepIn K (.ref fA) = true) (bA : Binds K fdA ["draws", "k", "many"] []) (gA : mg "_law_at" = some (.ref fA))
    (mr : mg "range" = none) (ml : mg "len" = none) : FnOk P w K mg base CX0 2 f fd ["draws", "text"] (spSpoil K) := by
  refine F.ok scSp (fun vs H Q E h => ?_) (fun cdv A outer s H vs Q E hr h => ?_)
  · obtain ⟨a, ds, z, rfl, _⟩ := h
    rfl
  · obtain ⟨a, ds, z, rfl, ha, hz, q⟩ := h
    refine ⟨_, pss_cons (ps_for PassesOwn.never rfl (pi_range1 rfl mr (pa_cons (pe_call GA hr (by rfl) gA kA bA .nil pass0 (pa_cons (pv 0) (pa_cons pe_int (pa_cons pe_int pa_nil)))) pa_nil)) (pg_name (i := 2) scSp.nd rfl (.inl rfl))
        (pss_cons (ps_set (i := 3) scSp.nd rfl (.inl rfl) (pe_call GA hr (by rfl) gA kA bA .nil pass0 (pa_cons (pv 0) (pa_cons (pe_op op_add pe_int (pe_op op_mul pe_int (pv 2))) (pa_cons pe_int pa_nil)))))
        (pss_cons (ps_set (i := 4) scSp.nd rfl (.inl rfl) (pe_call GA hr (by rfl) gA kA bA .nil pass0 (pa_cons (pv 0) (pa_cons (pe_op op_add pe_int (pe_op op_mul pe_int (pv 2))) (pa_cons (pe_op op_add (pe_callB call_len_str (by rfl) ml PySem.boot_len (pa_cons (pv 1) pa_nil)) pe_int) pa_nil)))))
        (pss_cons (ps_set (i := 5) scSp.nd rfl (.inl rfl) (pe_ix ix_str pe_str (pe_call GA hr (by rfl) gA kA bA .nil pass0 (pa_cons (pv 0) (pa_cons (pe_op op_add pe_int (pe_op op_mul pe_int (pv 2))) (pa_cons pe_int pa_nil)))) (fun _ _ => rfl)))
        (pss_cons (ps_set (i := 6) scSp.nd rfl (.inl rfl) (pe_split (pv 1) pe_str))
        (pss_cons (ps_set (i := 7) scSp.nd rfl (.inl rfl) (pe_call GA hr (by rfl) gA kA bA .nil pass0 (pa_cons (pv 0) (pa_cons (pe_op op_add pe_int (pe_op op_mul pe_int (pv 2))) (pa_cons (pe_callB call_len_seq (by rfl) ml PySem.boot_len (pa_cons (pv 6) pa_nil)) pa_nil)))))
        (pss_one (ps_if (pt_cmpR op_eq (pv 3) pe_int (nomark _)) (pss_one (ps_set (i := 1) scSp.nd rfl (.inl rfl) (pe_op op_add_str (pe_op op_add_str (pe_slice sl_str (pv 1) po_none (po_some (pv 4))) (pv 5)) (pe_slice sl_str (pv 1) (po_some (pv 4)) po_none))))
          (pss_one (ps_if (pt_cmpR op_eq (pv 3) pe_int (nomark _)) (pss_one (ps_set (i := 1) scSp.nd rfl (.inl rfl) (pe_op op_add_str (pe_slice sl_str (pv 1) po_none (po_some (pv 4))) (pe_slice sl_str (pv 1) (po_some (pe_op op_add (pv 4) pe_int)) po_none))))
          (pss_one (ps_if (pt_cmpR op_eq (pv 3) pe_int (nomark _)) (pss_one (ps_set (i := 1) scSp.nd rfl (.inl rfl) (pe_op op_add_str (pe_op op_add_str (pe_slice sl_str (pv 1) po_none (po_some (pv 4))) (pv 5)) (pe_slice sl_str (pv 1) (po_some (pe_op op_add (pv 4) pe_int)) po_none))))
          (pss_one (ps_if (pt_cmpR op_eq (pv 3) pe_int (nomark _)) (pss_one (ps_set (i := 1) scSp.nd rfl (.inl rfl) (pe_join pe_str (pe_op op_cat (pe_slice sl_list (pv 6) po_none (po_some (pv 7))) (pe_slice sl_list (pv 6) (po_some (pe_op op_add (pv 7) pe_int)) po_none)))))
          (pss_one (ps_if (pt_cmpR op_eq (pv 3) pe_int (nomark _)) (pss_one (ps_set (i := 1) scSp.nd rfl (.inl rfl) (pe_join pe_str (pe_op op_cat (pe_op op_cat (pe_slice sl_list (pv 6) po_none (po_some (pv 7))) (pe_lst (pa_cons (pe_ix ix_list (pv 6) (pv 7) (fun _ _ => rfl)) pa_nil))) (pe_slice sl_list (pv 6) (po_some (pv 7)) po_none)))))
          (pss_one (ps_if (pt_cmpR op_eq (pv 3) pe_int (nomark _)) (pss_one (ps_set (i := 1) scSp.nd rfl (.inl rfl) (pe_join pe_str (pe_op op_cat (pe_op op_cat (pe_slice sl_list (pv 6) po_none (po_some (pv 7))) (pe_lst (pa_cons (pe_op op_add_str (pe_ix ix_list (pv 6) (pv 7) (fun _ _ => rfl)) pe_str) pa_nil))) (pe_slice sl_list (pv 6) (po_some (pe_op op_add (pv 7) pe_int)) po_none)))))
          (pss_one (ps_set (i := 1) scSp.nd rfl (.inl rfl) (pe_slice sl_str (pv 1) po_none (po_some (pv 4)))))))))))))))))))))))
      (pss_one (ps_ret (pv 1))), ?_⟩
    have b3 := atD_lo ds 0 (many := 3) (by decide)
    have c3 := atD_hi ds 0 (many := 3) (by decide)
    refine ⟨_, rfl, a, ds, 0, 3, rfl, SqL.of ha, by decide, by decide, _, rfl, by omega, by omega, for_range (lo := 0) (n := (atD ds 0 3).toNat) (fun i σ H' => Same H H' ∧ ∃ (z : Str) (v2 v3 v4 v5 v6 v7 : Option V), σ = [some (.ref a), some (.str z), v2, v3, v4, v5, v6, v7] ∧ z.length ≤ bnd i)
      ⟨Same.refl H, z, none, none, none, none, none, none, rfl, hz⟩ ?_ ?_⟩
    · clear hz
      rintro i σ H' hi ⟨s', z, v2, v3, v4, v5, v6, v7, rfl, hz⟩
      have hz2 : z.length ≤ 101000 := Nat.le_trans hz (bnd_hi (by omega))
      have hzl : z.length ≤ sizeLine := million0 (by omega)
      have hS : SqL K H' a (ds.map V.int) := SqL.of (s' _ _ ha)
      have fin : ∀ {z2 : Str}, z2.length ≤ 5 * z.length + 40 → z2.length ≤ bnd (i + 1) := fun {z2} h => by
        show _ ≤ 5 * bnd i + 40
        omega
      refine ⟨_, rfl, _, rfl, _, _, rfl, rfl, .inl ⟨by decide, by decide⟩, _, _, rfl, rfl, a, ds, _, _, rfl, hS, by omega, by decide, ?_⟩
      refine ⟨_, rfl, _, rfl, _, _, rfl, rfl, .inl ⟨by decide, by decide⟩, _, _, rfl, rfl, _, rfl, z, rfl, hzl, _, _, rfl, rfl, a, ds, _, _, rfl, hS, by omega, by omega, ?_⟩
      obtain ⟨sc, hsc⟩ := atI_ok (xs := signsL.cps.toList) (atD_lo ds (3 + 4 * (0 + (i : Int))) (many := 9) (by decide)) (atD_hi ds (3 + 4 * (0 + (i : Int))) (many := 9) (by decide))
      have one : (⟨#[sc]⟩ : Str).length = 1 := rfl
      refine ⟨_, rfl, _, rfl, _, _, rfl, rfl, .inl ⟨by decide, by decide⟩, _, _, rfl, rfl, a, ds, _, _, rfl, hS, by omega, by decide, _, _, sc, rfl, rfl, (by decide +kernel), hsc, ?_⟩
      refine ⟨_, rfl, ⟨_, rfl⟩, z, _, rfl, rfl, by decide +kernel, million (by omega), fun l nl => ?_⟩
      have sl : Same H' (upd H' l (.lst ((linesOf z).map V.str))) := same_upd nl
      have hl : upd H' l (.lst ((linesOf z).map V.str)) l = some (.lst ((linesOf z).map V.str)) := upd_same
      have ss := s'.trans sl
      have lpos : 0 < (linesOf z).length := List.length_pos_iff.mpr (linesOf_ne z)
      have cnt := lines_count z
      have sum := lines_sum z
      show _
      rw [show Txt.split z "\n" = linesOf z from rfl]
      generalize hL : linesOf z = L at sl hl lpos cnt sum ss
      generalize upd H' l (.lst (L.map V.str)) = H2 at sl hl ss
      have hS2 : SqL K H2 a (ds.map V.int) := SqL.of (ss _ _ ha)
      refine ⟨_, rfl, _, rfl, _, _, rfl, rfl, .inl ⟨by decide, by decide⟩, _, _, rfl, rfl, _, rfl, l, _, rfl, .inl (SqL.of hl), a, ds, _, _, rfl, hS2, by omega, by rw [List.length_map]; omega, ?_⟩
      have w0 := atD_lo ds (4 + 4 * (0 + (i : Int))) (many := ((L.map V.str).length : Int)) (by rw [List.length_map]; omega)
      have w1 := atD_hi ds (4 + 4 * (0 + (i : Int))) (many := ((L.map V.str).length : Int)) (by rw [List.length_map]; omega)
      generalize atD ds (4 + 4 * (0 + (i : Int))) ((L.map V.str).length : Int) = wh at w0 w1
      obtain ⟨lw, hlw, hlm⟩ : ∃ lw, atI (L.map V.str) wh = some (V.str lw) ∧ lw.length ≤ z.length := by
        rw [List.length_map] at w1
        have hj : wh.toNat < L.length := by omega
        refine ⟨L[wh.toNat], at_of (j := wh.toNat) (by omega) (by rw [List.getElem?_map, List.getElem?_eq_getElem hj]; rfl), ?_⟩
        refine lines_len (x := z) ?_
        rw [hL]
        exact List.getElem_mem hj
      have cut := fun lo hi => cutS_length z lo hi
      have ca := fun lo hi => cutL_sum L lo hi
      have cb := fun lo hi => cutL_len L lo hi
      generalize atD ds (2 + 4 * (0 + (i : Int))) ((z.length : Int) + 1) = pl
      generalize atD ds (1 + 4 * (0 + (i : Int))) 7 = wd
      have k1 := cut none (some pl)
      have k2 := cut (some pl) none
      have k3 := cut (some (pl + 1)) none
      have k4 := ca none (some wh)
      have k5 := cb none (some wh)
      have k6 := ca (some (wh + 1)) none
      have k7 := cb (some (wh + 1)) none
      have k8 := ca (some wh) none
      have k9 := cb (some wh) none
      refine ⟨_, rfl, rfl, _, rfl, iteEq (fun _ => ?_) (fun _ => ?_)⟩
      · exact ⟨_, rfl, _, rfl, _, rfl, z, rfl, hzl, _, rfl, _, _, rfl, rfl, million0 (by omega), _, rfl, _, rfl, _, rfl, z, rfl, hzl, _, _, rfl, rfl, million0 (by rw [len_app]; omega), ss, _, _, _, _, _, _, _, rfl, fin (by rw [len_app, len_app]; omega)⟩
      refine ⟨_, rfl, rfl, _, rfl, iteEq (fun _ => ?_) (fun _ => ?_)⟩
      · exact ⟨_, rfl, _, rfl, _, rfl, z, rfl, hzl, _, rfl, _, rfl, _, _, rfl, rfl, _, rfl, z, rfl, hzl, _, _, rfl, rfl, million0 (by omega), ss, _, _, _, _, _, _, _, rfl, fin (by rw [len_app]; omega)⟩
      refine ⟨_, rfl, rfl, _, rfl, iteEq (fun _ => ?_) (fun _ => ?_)⟩
      · exact ⟨_, rfl, _, rfl, _, rfl, z, rfl, hzl, _, rfl, _, _, rfl, rfl, million0 (by omega), _, rfl, _, rfl, _, _, rfl, rfl, _, rfl, z, rfl, hzl, _, _, rfl, rfl, million0 (by rw [len_app]; omega), ss, _, _, _, _, _, _, _, rfl, fin (by rw [len_app, len_app]; omega)⟩
      refine ⟨_, rfl, rfl, _, rfl, iteEq (fun _ => ?_) (fun _ => ?_)⟩
      · refine ⟨⟨_, rfl⟩, _, rfl, _, rfl, _, rfl, l, _, rfl, SqL.of hl, fun p np => ?_⟩
        rw [cutV_strs]
        have s3 : Same H2 (upd H2 p (.lst ((cutL L none (some wh)).map V.str))) := same_upd np
        refine ⟨_, rfl, _, rfl, _, _, rfl, rfl, _, rfl, l, _, rfl, SqL.of (s3 _ _ hl), fun c nc => ?_⟩
        rw [cutV_strs]
        refine ⟨p, c, _, _, rfl, rfl, (same_upd nc) _ _ upd_same, upd_same, million0 (by rw [List.length_map, List.length_map]; omega), fun e ne => ?_⟩
        rw [← List.map_append]
        refine ⟨_, e, _, rfl, rfl, .inl (SqL.of upd_same), join_fits (by rw [sumL_app, List.length_append]; omega), ((ss.trans s3).trans (same_upd nc)).trans (same_upd ne), _, _, _, _, _, _, _, rfl, fin ?_⟩
        refine Nat.le_trans (join_len _) ?_
        rw [sumL_app, List.length_append]
        omega
      refine ⟨_, rfl, rfl, _, rfl, iteEq (fun _ => ?_) (fun _ => ?_)⟩
      · refine ⟨⟨_, rfl⟩, _, rfl, _, rfl, _, rfl, l, _, rfl, SqL.of hl, fun p np => ?_⟩
        rw [cutV_strs]
        have s3 : Same H2 (upd H2 p (.lst ((cutL L none (some wh)).map V.str))) := same_upd np
        refine ⟨_, rfl, _, rfl, l, _, _, _, rfl, rfl, SqL.of (s3 _ _ hl), hlw, (by show 1 ≤ sizeLine; decide), fun o no => ?_⟩
        have s4 := s3.trans (same_upd no (o := .lst [.str lw]))
        refine ⟨p, o, _, _, rfl, rfl, (same_upd no) _ _ upd_same, upd_same, million0 (by rw [List.length_map]; show (cutL L none (some wh)).length + 1 ≤ 1000000; omega), fun d nd => ?_⟩
        have s5 := s4.trans (same_upd nd (o := .lst ((cutL L none (some wh)).map V.str ++ [.str lw])))
        refine ⟨_, rfl, _, rfl, _, rfl, l, _, rfl, SqL.of (s5 _ _ hl), fun c nc => ?_⟩
        rw [cutV_strs]
        refine ⟨d, c, _, _, rfl, rfl, (same_upd nc) _ _ upd_same, upd_same, million0 (by rw [List.length_append, List.length_map, List.length_map]; show (cutL L none (some wh)).length + 1 + _ ≤ 1000000; omega), fun e ne => ?_⟩
        rw [show ((cutL L none (some wh)).map V.str ++ [V.str lw] ++ (cutL L (some wh) none).map V.str) = (cutL L none (some wh) ++ [lw] ++ cutL L (some wh) none).map V.str from by rw [List.map_append, List.map_append]; rfl]
        refine ⟨_, e, _, rfl, rfl, .inl (SqL.of upd_same), join_fits (by rw [sumL_app, sumL_app, sumL_one, List.length_append, List.length_append, List.length_singleton]; omega), ((ss.trans s5).trans (same_upd nc)).trans (same_upd ne), _, _, _, _, _, _, _, rfl, fin ?_⟩
        refine Nat.le_trans (join_len _) ?_
        rw [sumL_app, sumL_app, sumL_one, List.length_append, List.length_append, List.length_singleton]
        omega
      refine ⟨_, rfl, rfl, _, rfl, iteEq (fun _ => ?_) (fun _ => ?_)⟩
      · refine ⟨⟨_, rfl⟩, _, rfl, _, rfl, _, rfl, l, _, rfl, SqL.of hl, fun p np => ?_⟩
        rw [cutV_strs]
        have s3 : Same H2 (upd H2 p (.lst ((cutL L none (some wh)).map V.str))) := same_upd np
        have lo : (" OTHER" : Str).length = 6 := by decide +kernel
        have lo2 : (lw ++ (" OTHER" : Str)).length ≤ z.length + 6 := by rw [len_app]; omega
        refine ⟨_, rfl, _, rfl, l, _, _, _, rfl, rfl, SqL.of (s3 _ _ hl), hlw, _, _, rfl, rfl, million0 (by omega), (by show 1 ≤ sizeLine; decide), fun o no => ?_⟩
        have s4 := s3.trans (same_upd no (o := .lst [.str (lw ++ (" OTHER" : Str))]))
        refine ⟨p, o, _, _, rfl, rfl, (same_upd no) _ _ upd_same, upd_same, million0 (by rw [List.length_map]; show (cutL L none (some wh)).length + 1 ≤ 1000000; omega), fun d nd => ?_⟩
        have s5 := s4.trans (same_upd nd (o := .lst ((cutL L none (some wh)).map V.str ++ [.str (lw ++ (" OTHER" : Str))])))
        refine ⟨_, rfl, _, rfl, _, _, rfl, rfl, _, rfl, l, _, rfl, SqL.of (s5 _ _ hl), fun c nc => ?_⟩
        rw [cutV_strs]
        refine ⟨d, c, _, _, rfl, rfl, (same_upd nc) _ _ upd_same, upd_same, million0 (by rw [List.length_append, List.length_map, List.length_map]; show (cutL L none (some wh)).length + 1 + _ ≤ 1000000; omega), fun e ne => ?_⟩
        rw [show ((cutL L none (some wh)).map V.str ++ [V.str (lw ++ (" OTHER" : Str))] ++ (cutL L (some (wh + 1)) none).map V.str) = (cutL L none (some wh) ++ [lw ++ (" OTHER" : Str)] ++ cutL L (some (wh + 1)) none).map V.str from by rw [List.map_append, List.map_append]; rfl]
        refine ⟨_, e, _, rfl, rfl, .inl (SqL.of upd_same), join_fits (by rw [sumL_app, sumL_app, sumL_one, List.length_append, List.length_append, List.length_singleton]; omega), ((ss.trans s5).trans (same_upd nc)).trans (same_upd ne), _, _, _, _, _, _, _, rfl, fin ?_⟩
        refine Nat.le_trans (join_len _) ?_
        rw [sumL_app, sumL_app, sumL_one, List.length_append, List.length_append, List.length_singleton]
        omega
      exact ⟨_, rfl, _, rfl, _, rfl, z, rfl, hzl, ss, _, _, _, _, _, _, _, rfl, fin (by omega)⟩
    · rintro σ H' ⟨s', z, v2, v3, v4, v5, v6, v7, rfl, hz⟩
      exact ⟨_, rfl, q _ _ (Nat.le_trans hz (bnd_hi (by omega))) s'⟩
end
end Ld

set_option Elab.async false
set_option linter.all false
set_option maxRecDepth 100000
set_option maxHeartbeats 4000000
namespace Ld
open PySem PySem.Spec PyProof.Rows L2 Le TL
section
variable {P : Program} {w : World} {K : PySem.W.Frag} {mg : Str → Option Value} {base : Heap}
/-! ### _law_is_symbol -/
theorem scLs : FnScope ["word", "is_name_v", "small", "c"] ["word", "is_name_v"] (defScope sLSym) := ⟨rfl, rfl, rfl, by decide +kernel, rfl, by decide +kernel, by decide +kernel⟩
def spLSym : Sp := fun vs H Q _ => ∃ (z : Str) (b : Bool), vs = [.str z, .bl b] ∧ z.length ≤ sizeLine ∧ ∀ H2, Same H H2 → Q (.bl (if b = true then nameB z else symB z)) H2
def sgn (c : Nat) : V := .str ⟨#[c]⟩
theorem up_low : Txt.upper lowL = bigL := by decide +kernel
theorem name_low (z : Str) : nameB z = (sizeB z && decide (outs (tl z) (tl lowL) = [])) := word_low z
theorem kind_big (z : Str) : kindB z = ((sizeB z && decide (outs (tl z) (tl bigL) = [])) && !decide (z = "OTHER")) := by
  unfold kindB
  rw [word_big]
theorem len_zero {α : Type} (l : List α) (f : α → V) : decide (V.int (((l.map f).length : Nat) : Int) = V.int 0) = decide (l = []) := by
  rw [Bool.eq_iff_iff, decide_eq_true_eq, decide_eq_true_eq, List.length_map]
  constructor
  · intro h
    have h2 : ((l.length : Nat) : Int) = 0 := V.int.inj h
    exact List.eq_nil_of_length_eq_zero (by omega)
  · intro h
    rw [h]
    rfl
theorem ok_lsym {f : Addr} {fd : FuncData} (F : Fun K "_law_is_symbol" "_law_is_symbol" sLSym f fd) (ml : mg "len" = none) : FnOk P w K mg base CX0 1 f fd ["word", "is_name_v"] spLSym := by
  refine F.ok scLs (fun vs H Q E h => ?_) (fun cdv A outer s H vs Q E hr h => ?_)
  · obtain ⟨z, b, rfl, _⟩ := h
    rfl
  · obtain ⟨z, b, rfl, hz, q⟩ := h
    refine ⟨_, pss_cons (ps_set (i := 2) scLs.nd rfl (.inr rfl) pe_str)
      (pss_cons (ps_if (pt_not (pt_chain op_le op_le pe_int (pe_callB call_len_str (by rfl) ml PySem.boot_len (pa_cons (pv 0) pa_nil)) pe_int)) (pss_one (ps_ret pe_bl)) pss_nil)
      (pss_cons (ps_if (pt_cmpR op_eq (pe_callB call_len_seq (by rfl) ml PySem.boot_len (pa_cons (pe_lc (own := [("c", 3)]) (g := gName 3) rfl scLs.nd (pi_str (pv 0)) (blkOk_by (N := ["word", "is_name_v", "small", "c"]) (sc := defScope sLSym) (by decide +kernel))
          (fun _ _ _ _ _ => pg_name (i := 3) scLs.nd rfl (Or.inl rfl)) (fun _ _ _ _ _ => pts_one (pt_cmpR op_notIn_sign (pv 3) (pv 2) rfl)) (fun _ _ _ _ _ => pv 3)) pa_nil)) pe_int (nomark _)) (pss_one (ps_ret pe_bl)) pss_nil)
      (pss_one (ps_ret (pe_and (pe_not (pv 1)) (pe_and (pe_cmpR op_ne (pv 0) pe_str (nomark _)) (pe_one (pe_cmpR op_eq (pe_callB call_len_seq (by rfl) ml PySem.boot_len (pa_cons (pe_lc (own := [("c", 3)]) (g := gName 3) rfl scLs.nd (pi_str (pv 0)) (blkOk_by (N := ["word", "is_name_v", "small", "c"]) (sc := defScope sLSym) (by decide +kernel))
          (fun _ _ _ _ _ => pg_name (i := 3) scLs.nd rfl (Or.inl rfl)) (fun _ _ _ _ _ => pts_one (pt_cmpR op_notIn_sign (pv 3) (pe_upper (pv 2)) rfl)) (fun _ _ _ _ _ => pv 3)) pa_nil)) pe_int (nomark _))))))))), ?_⟩
    have no : sizeB z = false → nameB z = false ∧ symB z = false := fun h => by
      have e1 : nameB z = false := by rw [name_low, h]; rfl
      refine ⟨e1, ?_⟩
      unfold symB
      rw [e1, kind_big, h]
      rfl
    have ret : ∀ {x : Bool} {H2 : Hp}, Same H H2 → (if b = true then nameB z else symB z) = x → Q (.bl x) H2 := fun {x H2} s e => by rw [← e]; exact q H2 s
    have ez : z.cps.toList.take z.cps.size = z.cps.toList := List.take_of_length_le (by simp)
    have szd : sizeB z = (decide (1 ≤ (z.length : Int)) && decide ((z.length : Int) ≤ 12)) := rfl
    have out : sizeB z = false → Q (.bl false) H := fun h => ret (Same.refl H) (by rw [(no h).1, (no h).2]; cases b <;> rfl)
    refine ⟨_, rfl, z, rfl, hz, _, _, rfl, rfl, _, rfl, ite2 (fun c1 => ?_) (fun c1 => ?_)⟩
    rotate_left
    · refine ⟨_, rfl, iteT (out ?_)⟩
      rw [szd, Bool.eq_false_iff.mpr c1]
      rfl
    refine ⟨_, _, rfl, rfl, _, rfl, ?_⟩
    cases c2 : decide ((z.length : Int) ≤ 12) with
    | false =>
      refine iteT (out ?_)
      rw [szd, c2, Bool.and_false]
    | true =>
      have sz : sizeB z = true := by rw [szd, c1, c2]; rfl
      refine iteF ?_
      refine ⟨_, rfl, z, rfl, fun D hD => lc_it walk_str (fun i H' => H' = upd H D (.lst ((outs (z.cps.toList.take i) lowL.cps.toList).map sgn))) rfl (fun _ _ _ _ => True.intro) ?_ ?_⟩
      · rintro i x H1 H' hi rfl ⟨rfl, cc, hc, rfl⟩
        have hc' : z.cps.toList[i]? = some cc := by rw [Array.getElem?_toList]; exact hc
        have em := outs_more (l := lowL.cps.toList) hc'
        refine ⟨rfl, _, rfl, _, rfl, cc, lowL, rfl, rfl, _, rfl, ite2 (fun c3 => ?_) (fun c3 => ?_)⟩
        · have c4 : ¬ cc ∈ lowL.cps.toList := by simpa using c3
          rw [if_neg c4] at em
          refine ⟨_, rfl, _, upd_same, ?_, ?_⟩
          · rw [List.length_map]
            have h1 := outs_len (z.cps.toList.take i) lowL.cps.toList
            have h2 : (z.cps.toList.take i).length ≤ i := List.length_take_le _ _
            have h3 : i < sizeLine := Nat.lt_of_lt_of_le hi hz
            omega
          · rw [em, upd_upd, List.map_append]
            rfl
        · have c4 : cc ∈ lowL.cps.toList := by simpa using c3
          rw [if_pos c4, List.append_nil] at em
          rw [em]
      · rintro H' rfl
        rw [ez]
        refine ⟨_, _, rfl, .inl (SqL.of upd_same), rfl, _, rfl, ?_⟩
        rw [len_zero]
        have nl : nameB z = decide (outs (tl z) (tl lowL) = []) := by rw [name_low, sz, Bool.true_and]
        by_cases e0 : outs z.cps.toList lowL.cps.toList = []
        · have nt : nameB z = true := by rw [nl]; exact decide_eq_true e0
          have st : symB z = true := by unfold symB; rw [nt, Bool.or_true]
          rw [decide_eq_true e0]
          refine iteT (ret (same_upd hD) ?_)
          rw [nt, st]
          cases b <;> rfl
        · have nf : nameB z = false := by rw [nl]; exact decide_eq_false e0
          rw [decide_eq_false e0]
          refine iteF ⟨_, rfl, _, rfl, ?_⟩
          cases b with
          | true =>
            refine ⟨_, rfl, iteF (ret (same_upd hD) ?_)⟩
            rw [nf]
            rfl
          | false =>
            have se : symB z = kindB z := by unfold symB; rw [nf, Bool.or_false]
            refine ⟨_, rfl, iteT ⟨_, rfl, rfl, _, rfl, ?_⟩⟩
            by_cases eo : z = "OTHER"
            · have : (!decide (V.str z = V.str "OTHER")) = false := by rw [eo]; simp
              rw [this]
              refine iteF (ret (same_upd hD) ?_)
              show symB z = false
              rw [se, kind_big, eo]
              simp
            · have : (!decide (V.str z = V.str "OTHER")) = true := by
                rw [str_dec, decide_eq_false eo]
                rfl
              rw [this]
              have hS : Same H (upd H D (.lst ((outs z.cps.toList lowL.cps.toList).map sgn))) := same_upd hD
              generalize upd H D (.lst ((outs z.cps.toList lowL.cps.toList).map sgn)) = H2 at hS
              refine iteT ⟨_, rfl, z, rfl, fun D2 hD2 => lc_it walk_str (fun i H' => H' = upd H2 D2 (.lst ((outs (z.cps.toList.take i) bigL.cps.toList).map sgn))) rfl (fun _ _ _ _ => True.intro) ?_ ?_⟩
              · rintro i x H1 H' hi rfl ⟨rfl, cc, hc, rfl⟩
                have hc' : z.cps.toList[i]? = some cc := by rw [Array.getElem?_toList]; exact hc
                have em := outs_more (l := bigL.cps.toList) hc'
                refine ⟨rfl, _, rfl, _, rfl, ⟨_, rfl⟩, lowL, rfl, rfl, (by decide +kernel), ?_⟩
                rw [up_low]
                refine ⟨cc, bigL, rfl, rfl, _, rfl, ite2 (fun c3 => ?_) (fun c3 => ?_)⟩
                · have c4 : ¬ cc ∈ bigL.cps.toList := by simpa using c3
                  rw [if_neg c4] at em
                  refine ⟨_, rfl, _, upd_same, ?_, ?_⟩
                  · rw [List.length_map]
                    have h1 := outs_len (z.cps.toList.take i) bigL.cps.toList
                    have h2 : (z.cps.toList.take i).length ≤ i := List.length_take_le _ _
                    have h3 : i < sizeLine := Nat.lt_of_lt_of_le hi hz
                    omega
                  · rw [em, upd_upd, List.map_append]
                    rfl
                · have c4 : cc ∈ bigL.cps.toList := by simpa using c3
                  rw [if_pos c4, List.append_nil] at em
                  rw [em]
              · rintro H' rfl
                rw [ez]
                refine ⟨_, _, rfl, .inl (SqL.of upd_same), rfl, ?_⟩
                rw [len_zero]
                refine ret (hS.trans (same_upd hD2)) ?_
                show symB z = _
                rw [se, kind_big, sz, decide_eq_false eo]
                simp
end
end Ld

set_option Elab.async false
set_option linter.all false
set_option maxRecDepth 100000
set_option maxHeartbeats 4000000
namespace Ld
open PySem PySem.Spec PyProof.Rows L2 Le TL
/-! ### the first word: its last sign and what stands ahead of it -/
theorem cut_end {w : Str} {b : List Nat} {c : Nat} (h : tl w = b ++ [c]) : tl (cutS w (some (-1)) none) = [c] ∧ tl (cutS w none (some (-1))) = b := by
  have hl : w.length = b.length + 1 := by rw [len_tl, h, List.length_append, List.length_singleton]
  have e1 : HT.sIx w.length 0 (some (-1)) = b.length := by
    unfold HT.sIx
    simp only
    rw [if_pos (by decide), hl]
    omega
  have e2 : HT.sIx w.length w.length (some (-1)) = b.length := by
    unfold HT.sIx
    simp only
    rw [if_pos (by decide), hl]
    omega
  have e3 : HT.sIx w.length w.length none = b.length + 1 := by
    unfold HT.sIx
    simp only
    exact hl
  have e4 : HT.sIx w.length 0 none = 0 := by
    unfold HT.sIx
    rfl
  constructor
  · show ((tl w).drop (HT.sIx w.length 0 (some (-1)))).take (HT.sIx w.length w.length none - HT.sIx w.length 0 (some (-1))) = [c]
    rw [e1, e3, h, List.drop_left, Nat.add_sub_cancel_left]
    rfl
  · show ((tl w).drop (HT.sIx w.length 0 none)).take (HT.sIx w.length w.length (some (-1)) - HT.sIx w.length 0 none) = b
    rw [e4, e2, h, Nat.sub_zero, List.drop_zero, List.take_left]
theorem cut_colon (w : Str) : cutS w (some (-1)) none = ":" ↔ tl w = tl (cutS w none (some (-1))) ++ [58] := by
  constructor
  · intro h
    rcases List.eq_nil_or_concat (tl w) with e | ⟨b, c, e⟩
    · have e2 : tl (cutS w (some (-1)) none) = [] := by
        show ((tl w).drop _).take _ = []
        rw [e]
        simp
      rw [h, colon_tl] at e2
      cases e2
    · have e' : tl w = b ++ [c] := by rw [e]; simp
      obtain ⟨h1, h2⟩ := cut_end e'
      rw [h, colon_tl] at h1
      have : c = 58 := by
        injection h1 with z
        exact z.symm
      rw [h2, e', this]
  · intro h
    exact tl_inj (by rw [(cut_end h).1, colon_tl])
theorem law_rule (l : Str) : ∃ w0 ws, spS l = w0 :: ws ∧ ruleOf l = if (cutS w0 (some (-1)) none = ":" ∧ nameB (cutS w0 none (some (-1))) = true ∧ ws.length ≤ 6 ∧ ws.all symB = true) then some (cutS w0 none (some (-1)), ws) else none := by
  obtain ⟨w0, ws, es, h⟩ := line_eq l
  refine ⟨w0, ws, es, ?_⟩
  rcases h with ⟨h0, hn⟩ | ⟨n, h0, h1, h2, h3, h4⟩
  · rw [h0, if_neg]
    rintro ⟨c1, c2, c3, c4⟩
    exact hn ⟨_, (cut_colon w0).mp c1, c2, c3, c4⟩
  · have e : n = cutS w0 none (some (-1)) := tl_inj (cut_end h1).2.symm
    subst e
    rw [h0, if_pos ⟨(cut_colon w0).mpr h1, h2, h3, h4⟩]
theorem rdGo_ok : ∀ (ls : List Str) (k : Nat) (G : List Rule), (∀ r ∈ G, GoodR r) → RdOk (rdGo k G ls)
  | [], _, _, g => g
  | l :: ls, k, G, g => by
    unfold rdGo
    cases e : ruleOf l with
    | none => exact True.intro
    | some r =>
      simp only
      by_cases m : r ∈ G
      · rw [if_pos m]
        exact True.intro
      · rw [if_neg m]
        by_cases n : 24 ≤ k
        · rw [if_pos n]
          exact True.intro
        · rw [if_neg n]
          refine rdGo_ok ls (k + 1) (G ++ [r]) fun q hq => ?_
          rcases List.mem_append.mp hq with z | z
          · exact g q z
          · rw [List.mem_singleton.mp z]
            exact rule_good e
theorem rd_ok (ls : List Str) : RdOk (rd ls) := by
  have h := rdGo_ok ls.dropLast 0 [] fun _ m => nomatch m
  unfold rd
  generalize rdGo 0 [] ls.dropLast = x at h
  cases x with
  | good G =>
    unfold rdEnd
    simp only
    split
    · exact True.intro
    · exact h
  | line _ => exact True.intro
  | taken _ => exact True.intro
  | large _ => exact True.intro
def bads (ws : List Str) : List Str := ws.filter fun s => !symB s
theorem bads_more {ws : List Str} {i : Nat} {s : Str} (h : ws[i]? = some s) : bads (ws.take (i + 1)) = bads (ws.take i) ++ (if symB s = true then [] else [s]) := by
  unfold bads
  rw [List.take_add_one, h, List.filter_append]
  congr 1
  by_cases e : symB s = true
  · simp [e]
  · simp [e]
theorem bads_none (ws : List Str) : bads ws = [] ↔ ws.all symB = true := by
  unfold bads
  rw [List.filter_eq_nil_iff, List.all_eq_true]
  constructor
  · intro h s hs
    have := h s hs
    simpa using this
  · intro h s hs
    rw [h s hs]
    simp
theorem bads_len (ws : List Str) : (bads ws).length ≤ ws.length := List.length_filter_le _ _
section
variable {P : Program} {w : World} {K : PySem.W.Frag} {mg : Str → Option Value} {base : Heap}
theorem scLr : FnScope ["text", "lines", "rules", "k", "words", "rule", "word"] ["text"] (defScope sLRead) := ⟨rfl, rfl, rfl, by decide +kernel, rfl, by decide +kernel, by decide +kernel⟩
def spLRead (K : PySem.W.Frag) : Sp := fun vs H Q _ => ∃ z : Str, vs = [.str z] ∧ z.length ≤ 900000 ∧ ∀ v H2, Same H H2 → Dp K H2 v (rdD (rd (linesOf z))) → Q v H2
theorem ok_lread {f fS : Addr} {fd fdS : FuncData} (F : Fun K "_law_read" "_law_read" sLRead f fd) (GS : FnOk P w K mg base CX0 1 fS fdS ["word", "is_name_v"] spLSym) (kS : PySem.W.keepIn K (.ref fS) = true) (bS : Binds K fdS ["word", "is_name_v"] []) (gS : mg "_law_is_symbol" = some (.ref fS))
    (mr : mg "range" = none) (ml : mg "len" = none) : FnOk P w K mg base CX0 4 f fd ["text"] (spLRead K) := by
  refine F.ok scLr (fun vs H Q E h => ?_) (fun cdv A outer s H vs Q E hr h => ?_)
  · obtain ⟨z, rfl, _⟩ := h
    rfl
  · obtain ⟨z, rfl, hz, q⟩ := h
    have hr1 := hr.mono (show 1 ≤ 3 by decide)
    refine ⟨_, pss_cons (ps_set (i := 1) scLr.nd rfl (.inl rfl) (pe_split (pv 0) pe_str))
      (pss_cons (ps_set (i := 2) scLr.nd rfl (.inl rfl) (pe_lst pa_nil))
      (pss_cons (ps_for PassesOwn.never rfl (pi_range1 rfl mr (pa_cons (pe_op op_sub (pe_callB call_len_seq (by rfl) ml PySem.boot_len (pa_cons (pv 1) pa_nil)) pe_int) pa_nil)) (pg_name (i := 3) scLr.nd rfl (.inl rfl))
        (pss_cons (ps_set (i := 4) scLr.nd rfl (.inl rfl) (pe_split (pe_ix ix_list (pv 1) (pv 3) (fun _ _ => rfl)) pe_str))
        (pss_cons (ps_if (PW.pt (pw_or (pt_cmpR op_ne (pe_slice sl_str (pe_ix ix_list (pv 4) pe_int (fun _ _ => rfl)) (po_some (pe_un un_neg pe_int)) po_none) pe_str (nomark _))
            (pw_or (pt_not (pt_val (pe_call GS hr1 (by rfl) gS kS bS .nil pass0 (pa_cons (pe_slice sl_str (pe_ix ix_list (pv 4) pe_int (fun _ _ => rfl)) po_none (po_some (pe_un un_neg pe_int))) (pa_cons pe_bl pa_nil)))))
            (pw_or1 (pt_cmpR op_gt (pe_callB call_len_seq (by rfl) ml PySem.boot_len (pa_cons (pv 4) pa_nil)) pe_int (nomark _))))))
          (pss_one (ps_ret (pe_tup (pa_cons pe_str (pa_cons (pv 3) pa_nil))))) pss_nil)
        (pss_cons (ps_if (pt_cmpR op_gt (pe_callB call_len_seq (by rfl) ml PySem.boot_len (pa_cons
            (pe_lc (own := [("word", 6)]) (g := gName 6) rfl scLr.nd (pi_list (pe_slice sl_list (pv 4) (po_some pe_int) po_none)) (blkOk_by (N := ["text", "lines", "rules", "k", "words", "rule", "word"]) (sc := defScope sLRead) (by decide +kernel)) (fun _ _ _ _ _ => pg_name (i := 6) scLr.nd rfl (Or.inl rfl))
              (fun _ _ _ _ _ => pts_one (pt_not (pt_val (pe_call GS hr1 (by rfl) gS kS bS .nil pass0 (pa_cons (pv 6) (pa_cons pe_bl pa_nil)))))) (fun _ _ _ _ _ => pv 6)) pa_nil)) pe_int (nomark _))
          (pss_one (ps_ret (pe_tup (pa_cons pe_str (pa_cons (pv 3) pa_nil))))) pss_nil)
        (pss_cons (ps_set (i := 5) scLr.nd rfl (.inl rfl) (pe_tup (pa_cons (pe_slice sl_str (pe_ix ix_list (pv 4) pe_int (fun _ _ => rfl)) po_none (po_some (pe_un un_neg pe_int))) (pa_cons (pe_slice sl_list (pv 4) (po_some pe_int) po_none) pa_nil))))
        (pss_cons (ps_if (pt_cmpR (op_inD (units65 hr)) (pv 5) (pv 2) rfl) (pss_one (ps_ret (pe_tup (pa_cons pe_str (pa_cons (pv 3) pa_nil))))) pss_nil)
        (pss_cons (ps_if (pt_cmpR op_eq (pv 3) pe_int (nomark _)) (pss_one (ps_ret (pe_tup (pa_cons pe_str (pa_cons (pv 3) pa_nil))))) pss_nil)
        (pss_one (ps_expr (pe_bm PySem.F.plainAttrs_list PySem.F.slot_list_append PySem.F.type_list_append mt_append (pv 2) (pa_cons (pv 5) pa_nil)))))))))))
      (pss_cons (ps_if (PW.pt (pw_or (pt_cmpR op_ne (pe_ix ix_list (pv 1) (pe_un un_neg pe_int) (fun _ _ => rfl)) pe_str (nomark _)) (pw_or1 (pt_cmpR op_eq (pe_callB call_len_seq (by rfl) ml PySem.boot_len (pa_cons (pv 2) pa_nil)) pe_int (nomark _)))))
        (pss_one (ps_ret (pe_tup (pa_cons pe_str (pa_cons (pe_op op_sub (pe_callB call_len_seq (by rfl) ml PySem.boot_len (pa_cons (pv 1) pa_nil)) pe_int) pa_nil))))) pss_nil)
      (pss_one (ps_ret (pe_tup (pa_cons pe_str (pa_cons (pv 2) pa_nil)))))))), ?_⟩
    obtain ⟨L, u, eL⟩ : ∃ L u, linesOf z = L ++ [u] := ⟨_, _, (List.dropLast_concat_getLast (linesOf_ne z)).symm⟩
    have eRd : rd (linesOf z) = rdEnd L.length u (rdGo 0 [] L) := by
      rw [eL]
      unfold rd
      rw [List.dropLast_concat, List.getLast?_concat]
      rfl
    have lenL : ∀ x ∈ L, x.length ≤ 900000 := fun x hx => by
      have := lines_len (x := z) (p := x) (by rw [eL]; exact List.mem_append_left _ hx)
      omega
    have cntL : L.length ≤ 900001 := by
      have := lines_count z
      rw [eL, List.length_append, List.length_singleton] at this
      omega
    have eS : (Txt.split z "\n").map V.str = (L ++ [u]).map V.str := by rw [show Txt.split z "\n" = L ++ [u] from eL]
    refine ⟨_, rfl, ⟨_, rfl⟩, z, _, rfl, rfl, by decide +kernel, million (by omega), fun l nl => ?_⟩
    rw [eS]
    have s1 : Same H (upd H l (.lst ((L ++ [u]).map V.str))) := same_upd nl
    have hl1 : upd H l (.lst ((L ++ [u]).map V.str)) l = some (.lst ((L ++ [u]).map V.str)) := upd_same
    generalize upd H l (.lst ((L ++ [u]).map V.str)) = H1 at s1 hl1
    refine ⟨Nat.zero_le _, fun rl nrl => ?_⟩
    have sb : Same H1 (upd H1 rl (.lst [])) := same_upd nrl
    have ej : (((L ++ [u]).map V.str).length : Int) - 1 = (L.length : Int) := by
      rw [List.length_map, List.length_append, List.length_singleton]
      omega
    refine ⟨_, rfl, l, _, rfl, .inl (SqL.of (sb _ _ hl1)), _, _, rfl, rfl, _, rfl, by rw [ej]; omega, by rw [ej]; omega, ?_⟩
    rw [ej]
    refine for_range (lo := 0) (n := L.length) (fun i σ H' => ∃ v3 v4 v5 v6 vs G, σ = [some (.str z), some (.ref l), some (.ref rl), v3, v4, v5, v6] ∧ Same H1 H' ∧ H' rl = some (.lst vs) ∧
      GrA (News (upd H1 rl (.lst [])) H') vs G ∧ (∀ r ∈ G, GoodR r) ∧ G.length = i ∧ i ≤ 24 ∧ rdGo 0 [] L = rdGo i G (L.drop i)) ⟨none, none, none, none, [], [], rfl, sb, upd_same, True.intro, (fun _ m => nomatch m), rfl, Nat.zero_le _, rfl⟩ ?_ ?_
    · rintro i σ H' hi ⟨v3, v4, v5, v6, vs, G, rfl, s', hrl, gr, good, len, i24, hrd⟩
      rw [Int.zero_add]
      obtain ⟨line, hline⟩ : ∃ line, L[i]? = some line := ⟨_, List.getElem?_eq_getElem hi⟩
      rw [drop_get hline] at hrd
      have lline := lenL line (List.mem_of_getElem? hline)
      have gline : ((L ++ [u]).map V.str)[i]? = some (V.str line) := by
        rw [List.getElem?_map, List.getElem?_append_left hi, hline]
        rfl
      obtain ⟨w0, ws, es, er⟩ := law_rule line
      have lw0 : w0.length ≤ 900000 := Nat.le_trans (spS_len (x := line) (by rw [es]; exact List.mem_cons_self)) lline
      have lws : ∀ s ∈ ws, s.length ≤ 900000 := fun s hs => Nat.le_trans (spS_len (x := line) (by rw [es]; exact List.mem_cons_of_mem _ hs)) lline
      have lnm := cutS_length w0 none (some (-1))
      have domb : ∀ b, H' b = none → upd H1 rl (.lst []) b = none := fun b hb => by
        have nb : b ≠ rl := fun z => by rw [z, hrl] at hb; cases hb
        rw [upd_ne nb]
        exact s'.free hb
      have ret : ∀ {H3 : Hp} {t : Addr} {nm : Str}, Same H' H3 → H3 t = none → rdD (rd (linesOf z)) = .tuple [.str nm, .int i] → Q (.ref t) (upd H3 t (.tup [.str nm, .int i])) := fun {H3 t nm} s3 n3 e => by
        refine q _ _ (((s1.trans s').trans s3).trans (same_upd n3)) ?_
        rw [e]
        exact .tup (SqT.of upd_same) (.cons (.str _) (.cons (.int _) .nil))
      have bad : ruleOf line = none → rdD (rd (linesOf z)) = .tuple [.str "line", .int i] := fun e => by
        have : rdGo 0 [] L = .line i := by rw [hrd]; unfold rdGo; rw [e]
        rw [eRd, this]
        rfl
      refine ⟨_, rfl, _, rfl, l, _, _, _, rfl, rfl, SqL.of (s' _ _ hl1), at_of (j := i) rfl gline, ⟨_, rfl⟩, line, _, rfl, rfl, by decide +kernel, million (by omega), fun wl nw => ?_⟩
      rw [show Txt.split line " " = w0 :: ws from es]
      have s2 : Same H' (upd H' wl (.lst ((w0 :: ws).map V.str))) := same_upd nw
      have hw2 : upd H' wl (.lst ((w0 :: ws).map V.str)) wl = some (.lst (.str w0 :: ws.map V.str)) := upd_same
      generalize upd H' wl (.lst ((w0 :: ws).map V.str)) = H2 at s2 hw2
      refine ⟨_, rfl, wl, _, _, _, rfl, rfl, SqL.of hw2, at_of (j := 0) rfl rfl, _, rfl, _, rfl, w0, rfl, million0 (by omega), rfl, _, rfl, iteStrN (fun nc => ?_) (fun ec => ?_)⟩
      · refine ⟨_, rfl, (by show 2 ≤ sizeLine; decide), fun t nt => ret s2 nt (bad ?_)⟩
        rw [er, if_neg]
        exact fun x => nc x.1
      refine ⟨_, rfl, wl, _, _, _, rfl, rfl, SqL.of hw2, at_of (j := 0) rfl rfl, _, rfl, _, rfl, w0, rfl, million0 (by omega), _, true, rfl, million0 (by omega), fun H3 s3 => ⟨_, rfl, ?_⟩⟩
      have s3' := s2.trans s3
      cases cn : nameB (cutS w0 none (some (-1))) with
      | false =>
        refine iteT ⟨_, rfl, (by show 2 ≤ sizeLine; decide), fun t nt => ret s3' nt (bad ?_)⟩
        rw [er, if_neg]
        intro x
        rw [cn] at x
        exact Bool.false_ne_true x.2.1
      | true =>
        refine iteF ⟨_, rfl, wl, _, rfl, .inl (SqL.of (s3 _ _ hw2)), _, _, rfl, rfl, _, rfl, ite2 (fun c7 => ?_) (fun c7 => ?_)⟩
        · refine ⟨_, rfl, (by show 2 ≤ sizeLine; decide), fun t nt => ret s3' nt (bad ?_)⟩
          have c8 : (7 : Int) < ((V.str w0 :: ws.map V.str).length : Int) := of_decide_eq_true c7
          rw [List.length_cons, List.length_map] at c8
          rw [er, if_neg]
          intro x
          have := x.2.2.1
          omega
        have c8 : ¬ (7 : Int) < ((V.str w0 :: ws.map V.str).length : Int) := fun x => c7 (decide_eq_true x)
        rw [List.length_cons, List.length_map] at c8
        have c6 : ws.length ≤ 6 := by omega
        refine ⟨_, rfl, _, rfl, wl, _, rfl, SqL.of (s3 _ _ hw2), fun m nm => ?_⟩
        rw [cutV_tail]
        have s4 : Same H3 (upd H3 m (.lst (ws.map V.str))) := same_upd nm
        have hm4 : upd H3 m (.lst (ws.map V.str)) m = some (.lst (ws.map V.str)) := upd_same
        generalize upd H3 m (.lst (ws.map V.str)) = H4 at s4 hm4
        refine ⟨m, rfl, ⟨_, SqL.of hm4⟩, fun D hD => lc_list (a := m) (xs := ws.map V.str) (fun j H5 => Same H4 H5 ∧ H5 D = some (.lst ((bads (ws.take j)).map V.str))) ⟨same_upd hD, upd_same⟩ (fun j H5 _ ⟨s5, _⟩ => SqL.of (s5 _ _ hm4)) ?_ ?_⟩
        · rintro j x H5 hx ⟨s5, hd5⟩
          obtain ⟨sy, hsy, rfl⟩ : ∃ sy, ws[j]? = some sy ∧ x = V.str sy := by
            rw [List.getElem?_map] at hx
            cases e : ws[j]? with
            | none =>
              rw [e] at hx
              cases hx
            | some sy =>
              rw [e] at hx
              exact ⟨sy, rfl, (Option.some.inj hx).symm⟩
          have lsy := lws sy (List.mem_of_getElem? hsy)
          have em := bads_more hsy
          refine ⟨rfl, _, rfl, sy, false, rfl, million0 (by omega), fun H6 s6 => ⟨_, rfl, ?_⟩⟩
          cases cy : symB sy with
          | true =>
            rw [cy, if_pos rfl, List.append_nil] at em
            refine iteF ⟨s5.trans s6, ?_⟩
            rw [em]
            exact s6 _ _ hd5
          | false =>
            rw [cy, if_neg Bool.false_ne_true] at em
            refine iteT ⟨_, rfl, _, s6 _ _ hd5, ?_, same_put (s5.trans s6) hD, ?_⟩
            · rw [List.length_map]
              have h1 := bads_len (ws.take j)
              have h2 : (ws.take j).length ≤ ws.length := List.length_take_le' _ _
              exact Nat.lt_of_le_of_lt (by omega : (bads (ws.take j)).length ≤ 6) (by decide)
            · rw [upd_same, em, List.map_append]
              rfl
        · rintro H5 ⟨s5, hd5⟩
          rw [List.length_map, List.take_length] at hd5
          have s35 := s4.trans s5
          have sH5 := s3'.trans s35
          refine ⟨_, _, rfl, .inl (SqL.of hd5), _, _, rfl, rfl, _, rfl, ite2 (fun cb => ?_) (fun cb => ?_)⟩
          · have cb2 : (0 : Int) < (((bads ws).map V.str).length : Int) := of_decide_eq_true cb
            rw [List.length_map] at cb2
            refine ⟨_, rfl, (by show 2 ≤ sizeLine; decide), fun t nt => ret sH5 nt (bad ?_)⟩
            rw [er, if_neg]
            intro x
            rw [(bads_none ws).mpr x.2.2.2] at cb2
            exact absurd cb2 (by decide)
          have cb2 : ¬ (0 : Int) < (((bads ws).map V.str).length : Int) := fun x => cb (decide_eq_true x)
          rw [List.length_map] at cb2
          have call : ws.all symB = true := (bads_none ws).mp (List.eq_nil_of_length_eq_zero (by omega))
          have er2 : ruleOf line = some (cutS w0 none (some (-1)), ws) := by rw [er, if_pos ⟨ec, cn, c6, call⟩]
          have gr1 := rule_good er2
          refine ⟨_, rfl, wl, _, _, _, rfl, rfl, SqL.of (s35 _ _ (s3 _ _ hw2)), at_of (j := 0) rfl rfl, _, rfl, _, rfl, w0, rfl, million0 (by omega), _, rfl, _, rfl, wl, _, rfl, SqL.of (s35 _ _ (s3 _ _ hw2)), fun m2 nm2 => ?_⟩
          rw [cutV_tail]
          refine ⟨(by show 2 ≤ sizeLine; decide), fun t nt => ?_⟩
          have s6 : Same H5 (upd H5 m2 (.lst (ws.map V.str))) := same_upd nm2
          have nt5 : H5 t = none := s6.free nt
          have s7 := s6.trans (same_upd nt (o := .tup [.str (cutS w0 none (some (-1))), .ref m2]))
          have ht7 : upd (upd H5 m2 (.lst (ws.map V.str))) t (.tup [.str (cutS w0 none (some (-1))), .ref m2]) t = some (.tup [.str (cutS w0 none (some (-1))), .ref m2]) := upd_same
          have hm7 : upd (upd H5 m2 (.lst (ws.map V.str))) t (.tup [.str (cutS w0 none (some (-1))), .ref m2]) m2 = some (.lst (ws.map V.str)) := by
            rw [upd_ne (ne_of_none upd_same nt)]
            exact upd_same
          generalize upd (upd H5 m2 (.lst (ws.map V.str))) t (.tup [.str (cutS w0 none (some (-1))), .ref m2]) = H7 at s7 ht7 hm7
          have sH7 := sH5.trans s7
          have ra : RuleA (News (upd H1 rl (.lst [])) H7) (.ref t) (cutS w0 none (some (-1)), ws) := ⟨t, m2, rfl, by rw [news_of (domb t (sH5.free nt5))]; exact ht7, by rw [news_of (domb m2 (sH5.free nm2))]; exact hm7⟩
          have gr7 : GrA (News (upd H1 rl (.lst [])) H7) vs G := gr.up (News.up (Up.of_same sH7))
          have hrl7 := sH7 _ _ hrl
          have gd : Dp K H7 (.ref rl) (.list (G.map ruleD)) := (show GraA H7 rl G from ⟨vs, hrl7, gr7.up (Up.of_same news_same)⟩).dp
          refine ⟨_, rfl, _, rfl, ruleD (cutS w0 none (some (-1)), ws), G.map ruleD, (ra.up (Up.of_same news_same)).dp, gd, rule_shaped gr1, gD_shaped good, _, rfl, ?_⟩
          rw [ruleD_in]
          by_cases mem : (cutS w0 none (some (-1)), ws) ∈ G
          · refine iteTd mem ⟨_, rfl, (by show 2 ≤ sizeLine; decide), fun t2 nt2 => ret sH7 nt2 ?_⟩
            have : rdGo 0 [] L = .taken i := by rw [hrd]; unfold rdGo; rw [er2]; simp only; rw [if_pos mem]
            rw [eRd, this]
            rfl
          · refine iteFd mem ⟨_, rfl, rfl, _, rfl, iteEq (fun e24 => ?_) (fun n24 => ?_)⟩
            · refine ⟨_, rfl, (by show 2 ≤ sizeLine; decide), fun t2 nt2 => ret sH7 nt2 ?_⟩
              have : rdGo 0 [] L = .large i := by rw [hrd]; unfold rdGo; rw [er2]; simp only; rw [if_neg mem, if_pos (by omega)]
              rw [eRd, this]
              rfl
            · have l24 : ¬ 24 ≤ i := by omega
              refine ⟨_, rfl, .inl ⟨rfl, _, SqL.of hrl7⟩, _, rfl, rl, _, _, rfl, rfl, hrl7, ?_, _, _, _, _, vs ++ [.ref t], G ++ [(cutS w0 none (some (-1)), ws)], rfl, same_put (s'.trans sH7) nrl, upd_same, ?_, fun r hr2 => ?_, ?_, by omega, ?_⟩
              · rw [gr.len]
                exact Nat.lt_of_le_of_lt (by omega : G.length ≤ 24) (by decide)
              · rw [News.put (upd_same (H := H1) (a := rl) (o := .lst []))]
                exact gr7.snoc ra
              · rcases List.mem_append.mp hr2 with x | x
                · exact good r x
                · rw [List.mem_singleton.mp x]
                  exact gr1
              · rw [List.length_append, List.length_singleton, len]
              · rw [hrd, rdGo, er2]
                simp only
                rw [if_neg mem, if_neg l24]
    · rintro σ H' ⟨v3, v4, v5, v6, vs, G, rfl, s', hrl, gr, good, len, i24, hrd⟩
      rw [List.drop_length] at hrd
      have qg : rdGo 0 [] L = .good G := by rw [hrd]; unfold rdGo; rfl
      rw [eRd, qg] at q
      unfold rdEnd at q
      simp only at q
      have emap : (L ++ [u]).map V.str = L.map V.str ++ [V.str u] := by rw [List.map_append]; rfl
      have last : atI ((L ++ [u]).map V.str) (-1) = some (V.str u) := by
        rw [emap]
        exact atI_last _ _
      have wrong : ∀ {t : Addr}, (u ≠ "" ∨ L.length = 0) → H' t = none → Q (.ref t) (upd H' t (.tup [.str "line", .int ((((L ++ [u]).map V.str).length : Int) - 1)])) := fun {t} c nt => by
        rw [ej]
        refine q _ _ ((s1.trans s').trans (same_upd nt)) ?_
        rw [if_pos c]
        exact .tup (SqT.of upd_same) (.cons (.str _) (.cons (.int _) .nil))
      refine ⟨_, rfl, _, rfl, l, _, _, _, rfl, rfl, SqL.of (s' _ _ hl1), last, rfl, _, rfl, iteStrN (fun nu => ?_) (fun eu => ?_)⟩
      · exact ⟨_, rfl, l, _, rfl, .inl (SqL.of (s' _ _ hl1)), _, _, rfl, rfl, (by show 2 ≤ sizeLine; decide), fun t nt => wrong (.inl nu) nt⟩
      · refine ⟨_, rfl, rl, _, rfl, .inl (SqL.of hrl), rfl, _, rfl, iteEq (fun e0 => ?_) (fun n0 => ?_)⟩
        · have e0' : L.length = 0 := by
            rw [gr.len, len] at e0
            omega
          exact ⟨_, rfl, l, _, rfl, .inl (SqL.of (s' _ _ hl1)), _, _, rfl, rfl, (by show 2 ≤ sizeLine; decide), fun t nt => wrong (.inr e0') nt⟩
        · have n0' : L.length ≠ 0 := fun x => n0 (by rw [gr.len, len, x]; rfl)
          refine ⟨_, rfl, (by show 2 ≤ sizeLine; decide), fun t nt => q _ _ ((s1.trans s').trans (same_upd nt)) ?_⟩
          rw [if_neg (by rintro (x | x); exact x eu; exact n0' x)]
          have gd : GraA (upd H' t (.tup [.str "grammar", .ref rl])) rl G := ⟨vs, (same_upd nt) _ _ hrl, (gr.up (Up.of_same news_same)).up (Up.of_same (same_upd nt))⟩
          exact .tup (SqT.of upd_same) (.cons (.str _) (.cons gd.dp .nil))
end
end Ld

set_option Elab.async false
set_option linter.all false
set_option maxRecDepth 100000
set_option maxHeartbeats 4000000
namespace Ld
open PySem PySem.Spec PyProof.Rows L2 Le TL Lt
section
variable {P : Program} {w : World} {K : PySem.W.Frag} {mg : Str → Option Value} {base : Heap}
theorem scTd : FnScope ["text", "e"] ["text"] (defScope sTold) := ⟨rfl, rfl, rfl, by decide +kernel, rfl, by decide +kernel, by decide +kernel⟩
def spTold (K : PySem.W.Frag) (T1 T2 : Addr) : Sp := fun vs H Q _ => ∃ z : Str, vs = [.str z] ∧ z.length ≤ 900000 ∧ Tb T1 T2 H ∧ ∀ v H2, Up H H2 → Tb T1 T2 H2 → Dp K H2 v (rdD (rd (linesOf z))) → Q v H2
/-- which clause takes which error -/
structure Takers (K : PySem.W.Frag) (cB cT cL : Addr) : Prop where
  bb : PySem.W.exmOne K (.ref cB) (.ref cB) = some true
  tb : PySem.W.exmOne K (.ref cT) (.ref cB) = some false
  tt : PySem.W.exmOne K (.ref cT) (.ref cT) = some true
  lb : PySem.W.exmOne K (.ref cL) (.ref cB) = some false
  lt : PySem.W.exmOne K (.ref cL) (.ref cT) = some false
  ll : PySem.W.exmOne K (.ref cL) (.ref cL) = some true
theorem xf_of {C fI : Addr} (T : ErrC K C fI) : XfC K C := ⟨T.exc.hg, T.exc.hk, T.exc.hs, T.exc.hd⟩
theorem ok_told {f fR fI T1 T2 cM cB cT cL : Addr} {fd fdR : FuncData} (F : Fun K "_law_told" "_law_told" sTold f fd)
    (GR : FnOk P w K mg base (L2.CX P w) 7 fR fdR ["text"] (spRead T1 T2 cB cT cL)) (kR : PySem.W.keepIn K (.ref fR) = true) (bR : Binds K fdR ["text"] []) (gR : mg "read_grammar" = some (.ref fR))
    (EB : ErrC K cB fI) (ET : ErrC K cT fI) (EL : ErrC K cL fI) (gB : mg "BadLine" = some (.ref cB)) (gT : mg "TakenRule" = some (.ref cT)) (gL : mg "TooLarge" = some (.ref cL)) (gM : mg "MendError" = some (.ref cM)) (TK : Takers K cB cT cL) :
    FnOk P w K mg base CX0 8 f fd ["text"] (spTold K T1 T2) := by
  refine F.ok scTd (fun vs H Q E h => ?_) (fun cdv A outer s H vs Q E hr h => ?_)
  · obtain ⟨z, rfl, _⟩ := h
    rfl
  · obtain ⟨z, rfl, hz, tb, q⟩ := h
    refine ⟨_, pss_one (ps_try_cls rfl rfl scTd.nd takes0 (fun W pn xe tk _ => pss_one (ps_ret (pe_tup (pa_cons pe_str (pa_cons (pe_callS GR hr rfl gR kR bR (fun σ => passAt tk σ) (pa_cons (pv 0) pa_nil)) pa_nil)))))
      (.cons (nm := some "e") (o := some 1) ⟨rfl, by decide, .inl gB⟩ ⟨rfl, rfl⟩ (fun a oe cls d pn hz hf => pss_one (ps_ret (pe_tup (pa_cons pe_str (pa_cons (pe_xf (xf_of EB) EB.noAt hz hf (pv 1)) pa_nil)))))
      (.cons (nm := some "e") (o := some 1) ⟨rfl, by decide, .inl gT⟩ ⟨rfl, rfl⟩ (fun a oe cls d pn hz hf => pss_one (ps_ret (pe_tup (pa_cons pe_str (pa_cons (pe_xf (xf_of ET) ET.noAt hz hf (pv 1)) pa_nil)))))
      (.cons (nm := some "e") (o := some 1) ⟨rfl, by decide, .inl gL⟩ ⟨rfl, rfl⟩ (fun a oe cls d pn hz hf => pss_one (ps_ret (pe_tup (pa_cons pe_str (pa_cons (pe_xf (xf_of EL) EL.noAt hz hf (pv 1)) pa_nil)))))
      (.cons (nm := none) (o := none) ⟨rfl, by decide, .inl gM⟩ True.intro (fun a oe cls d pn hz hf => pss_one (ps_ret (pe_tup (pa_cons pe_str (pa_cons pe_int pa_nil)))))
      .nil))))), ?_⟩
    refine ⟨_, rfl, z, rfl, hz, tb, ?_⟩
    generalize rd (linesOf z) = x at q ⊢
    have fin : ∀ {H2 : Hp} {t : Addr} {nm : Str} {k : Int}, Up H H2 → Tb T1 T2 H2 → H2 t = none → rdD x = .tuple [.str nm, .int k] → Q (.ref t) (upd H2 t (.tup [.str nm, .int k])) := fun {H2 t nm k} u2 t2 nt e => by
      refine q _ _ (u2.trans (Up.put H2 nt)) (t2.new nt) ?_
      rw [e]
      exact .tup (SqT.of upd_same) (.cons (.str _) (.cons (.int _) .nil))
    cases x with
    | line k =>
      intro d H2 u2 t2 hd
      refine ⟨true, TK.bb, fun _ a na => ?_, fun q => nomatch q⟩
      exact ⟨_, rfl, rfl, rfl, d, _, .int k, rfl, hd, rfl, (by show 2 ≤ sizeLine; decide), fun t nt => fin u2 t2 nt rfl⟩
    | taken k =>
      intro d H2 u2 t2 hd
      refine ⟨false, TK.tb, (fun q => nomatch q), fun _ => ⟨true, TK.tt, fun _ a na => ?_, fun q => nomatch q⟩⟩
      exact ⟨_, rfl, rfl, rfl, d, _, .int k, rfl, hd, rfl, (by show 2 ≤ sizeLine; decide), fun t nt => fin u2 t2 nt rfl⟩
    | large k =>
      intro d H2 u2 t2 hd
      refine ⟨false, TK.lb, (fun q => nomatch q), fun _ => ⟨false, TK.lt, (fun q => nomatch q), fun _ => ⟨true, TK.ll, fun _ a na => ?_, fun q => nomatch q⟩⟩⟩
      exact ⟨_, rfl, rfl, rfl, d, _, .int k, rfl, hd, rfl, (by show 2 ≤ sizeLine; decide), fun t nt => fin u2 t2 nt rfl⟩
    | good G =>
      intro p H2 u2 t2 hG
      refine ⟨(by show 2 ≤ sizeLine; decide), fun t nt => q _ _ (u2.trans (Up.put H2 nt)) (t2.new nt) ?_⟩
      exact .tup (SqT.of upd_same) (.cons (.str _) (.cons ((hG.up (Up.of_same news_same)).up (Up.put H2 nt)).dp .nil))
end
end Ld

set_option Elab.async false
set_option linter.all false
set_option maxRecDepth 100000
set_option maxHeartbeats 4000000
namespace Ld
open PySem PySem.Spec PyProof.Rows L2 Le TL Lt
mutual
theorem dp_same {K : PySem.W.Frag} {A B : Hp} (s : Same A B) : ∀ (d : PyData) (v : V), Dp K A v d → Dp K B v d
  | .none, _, h => by
    cases h
    exact .non
  | .bool _, _, h => by
    cases h
    exact .bl _
  | .int _, _, h => by
    cases h
    exact .int _
  | .str _, _, h => by
    cases h
    exact .str _
  | .list ds, _, h => by
    cases h with
    | lst h1 h2 => exact .lst (s.seq h1) (dps_same s ds _ h2)
  | .tuple ds, _, h => by
    cases h with
    | tup h1 h2 => exact .tup ((Up.of_same s).seqT h1) (dps_same s ds _ h2)
  | .dict _, _, h => by cases h
theorem dps_same {K : PySem.W.Frag} {A B : Hp} (s : Same A B) : ∀ (ds : List PyData) (vs : List V), DpAll K A vs ds → DpAll K B vs ds
  | [], _, h => by
    cases h
    exact .nil
  | d :: ds, _, h => by
    cases h with
    | cons h1 h2 => exact .cons (dp_same s d _ h1) (dps_same s ds _ h2)
end
theorem fold_names : ∀ (G : List Rule) (ns : List Str), (∀ n ∈ ns, nameB n = true) → (∀ r ∈ G, GoodR r) → ∀ n ∈ G.foldl nmStep ns, nameB n = true
  | [], _, h, _ => h
  | r :: G, ns, h, g => by
    refine fold_names G (nmStep ns r) (fun n hn => ?_) fun q hq => g q (List.mem_cons_of_mem _ hq)
    unfold nmStep at hn
    split at hn
    · exact h n hn
    · rcases List.mem_append.mp hn with z | z
      · exact h n z
      · rw [List.mem_singleton.mp z]
        exact (g r List.mem_cons_self).1
def nsD (ns : List Str) : PyData := .list (ns.map PyData.str)
theorem ns_shaped {ns : List Str} (h : ∀ n ∈ ns, nameB n = true) : SeqAt.shaped (nsD ns) = true := shaped_mk (by
  unfold nsD
  rw [PyData.canLay0]
  exact strs_lay fun n hn => strOk_sym (by unfold symB; rw [h n hn, Bool.or_true])) (by
  have := strs_depth ns
  unfold nsD
  simp only [PyData.depth]
  omega)
section
variable {P : Program} {w : World} {K : PySem.W.Frag} {mg : Str → Option Value} {base : Heap}
theorem scL : FnScope ["script", "draws", "grammar", "name", "symbols", "kept", "text", "back", "other", "names", "told"] ["script"] (defScope sLaw) := ⟨rfl, rfl, rfl, by decide +kernel, rfl, by decide +kernel, by decide +kernel⟩
theorem units64 {k : Nat} {A : Around} (h : Room k A) : A.units + 64 < cLine := by
  have := h.un
  omega
theorem law_rest {f fP fT fLR fN T1 T2 : Addr} {fd fdP fdT fdLR fdN : FuncData}
    (GP : FnOk P w K mg base CX0 2 fP fdP ["draws", "text"] (spSpoil K)) (kP : PySem.W.keepIn K (.ref fP) = true) (bP : Binds K fdP ["draws", "text"] []) (gP : mg "_law_spoilt" = some (.ref fP))
    (GT : FnOk P w K mg base CX0 8 fT fdT ["text"] (spTold K T1 T2)) (kT : PySem.W.keepIn K (.ref fT) = true) (bT : Binds K fdT ["text"] []) (gT : mg "_law_told" = some (.ref fT))
    (GL : FnOk P w K mg base CX0 4 fLR fdLR ["text"] (spLRead K)) (kL : PySem.W.keepIn K (.ref fLR) = true) (bL : Binds K fdLR ["text"] []) (gL : mg "_law_read" = some (.ref fLR))
    (GN : FnOk P w K mg base CX0 1 fN fdN ["grammar"] spNames) (kN : PySem.W.keepIn K (.ref fN) = true) (bN : Binds K fdN ["grammar"] []) (gN : mg "names_of" = some (.ref fN))
    (mi : mg "isinstance" = none) (mli : mg "list" = none) (cdv : Value) (A : Around) (outer : List Env) (s : Shared) (H : Hp) (E : XK) (hr : Room 8 (A.deeper (envOfC "law" (defScope sLaw) s.heap.objs.size f cdv))) :
    ∃ t, PSs (cxOf CX0 P w K mg base ["script", "draws", "grammar", "name", "symbols", "kept", "text", "back", "other", "names", "told"] "law" (defScope sLaw) f cdv A outer s H E).nox ((defBody sLaw).drop 10) t ∧
      ∀ (v0 v3 v4 v7 : Option V) (o g kp : Addr) (z : Str) (ds : List Int) (G : List Rule) (H9 : Hp) (Q : VK), H9 o = some (.lst (ds.map V.int)) → GraA H9 g G → GraA H9 kp G → (∀ r ∈ G, GoodR r) → G.length ≤ 9 → z.length ≤ 4000 → Tb T1 T2 H9 → (∀ H', Q (.bl true) H') →
        t { nx := fun _ H' => Q .non H', rt := Q } [v0, some (.ref o), some (.ref g), v3, v4, some (.ref kp), some (.str z), v7, none, none, none] H9 := by
  have hr4 : Room 4 (A.deeper (envOfC "law" (defScope sLaw) s.heap.objs.size f cdv)) := hr.mono (by decide)
  have hr2 : Room 2 (A.deeper (envOfC "law" (defScope sLaw) s.heap.objs.size f cdv)) := hr.mono (by decide)
  have hr1 : Room 1 (A.deeper (envOfC "law" (defScope sLaw) s.heap.objs.size f cdv)) := hr.mono (by decide)
  refine ⟨_, (pss_cons (ps_set (i := 8) scL.nd rfl (.inl rfl) (pe_call GP hr2 (by rfl) gP kP bP .nil pass0 (pa_cons (pv 1) (pa_cons (pv 6) pa_nil))))
    (pss_cons (ps_if (pt_cmpR (op_neD (units64 hr)) (pe_call GT hr (by rfl) gT kT bT .nil pass0 (pa_cons (pv 8) pa_nil)) (pe_call GL hr4 (by rfl) gL kL bL .nil pass0 (pa_cons (pv 8) pa_nil)) (nomark _)) (pss_one (ps_ret pe_bl)) pss_nil)
    (pss_cons (ps_set (i := 9) scL.nd rfl (.inl rfl) (pe_lst pa_nil))
    (pss_cons (ps_for PassesOwn.never rfl (pi_list (pv 5)) (pg_tup rfl (pgs_cons (pg_name (i := 3) scL.nd rfl (Or.inl rfl)) (pgs_cons (pg_name (i := 4) scL.nd rfl (Or.inl rfl)) pgs_nil)))
      (pss_one (ps_if (pt_cmpR op_notIn_seq (pv 3) (pv 9) rfl) (pss_one (ps_expr (pe_bm PySem.F.plainAttrs_list PySem.F.slot_list_append PySem.F.type_list_append mt_append (pv 9) (pa_cons (pv 3) pa_nil)))) pss_nil)))
    (pss_cons (ps_set (i := 10) scL.nd rfl (.inl rfl) (pe_call GN hr1 (by rfl) gN kN bN .nil pass0 (pa_cons (pv 2) pa_nil)))
    (pss_cons (ps_if (PW.pt (pw_or (pt_not (pt_val (pe_callB call_isi (by rfl) mi (by decide +kernel) (pa_cons (pv 10) (pa_cons (pe_bltn (v := .ty "list") (by rfl) mli (by decide +kernel) rfl) pa_nil)))))
        (pw_or (pt_cmpR (op_neD (units64 hr)) (pv 10) (pv 9) (nomark _)) (pw_or1 (pt_cmpR (op_neD (units64 hr)) (pv 2) (pv 5) (nomark _)))))) (pss_one (ps_ret pe_bl)) pss_nil)
    (pss_cons (ps_expr (pe_bm PySem.F.plainAttrs_list PySem.F.slot_list_append PySem.F.type_list_append mt_append (pv 10) (pa_cons pe_str pa_nil)))
    (pss_one (ps_ret (pe_and (pe_cmpR (op_eqD (units64 hr)) (pe_call GN hr1 (by rfl) gN kN bN .nil pass0 (pa_cons (pv 2) pa_nil)) (pv 9) (nomark _))
      (pe_one (pe_cmpR (op_eqD (units64 hr)) (pe_call GT hr (by rfl) gT kT bT .nil pass0 (pa_cons pe_str pa_nil)) (pe_tup (pa_cons pe_str (pa_cons pe_int pa_nil))) (nomark _))))))))))))), ?_⟩
  intro v0 v3 v4 v7 o g kp z ds G H9 Q ho hg hk good len hz tb q
  have gsh := gD_shaped good
  refine ⟨_, rfl, _, rfl, o, ds, z, rfl, ho, hz, fun z2 HA lz2 sA => ?_⟩
  have tA : Tb T1 T2 HA := ⟨by obtain ⟨p, e, k⟩ := tb.1; exact ⟨p, sA _ _ e, k⟩, by obtain ⟨p, e, k⟩ := tb.2; exact ⟨p, sA _ _ e, k⟩⟩
  have hgA := hg.up (Up.of_same sA)
  have hkA := hk.up (Up.of_same sA)
  have dsh := rd_shaped (rd_ok (linesOf z2))
  refine ⟨_, rfl, z2, rfl, by omega, tA, fun v1 HB uB tB d1 => ?_⟩
  refine ⟨_, rfl, z2, rfl, by omega, fun v2 HC sC d2 => ?_⟩
  refine ⟨_, _, dp_same sC _ _ d1, d2, dsh, dsh, _, rfl, ?_⟩
  rw [eqv_self dsh]
  refine iteF ?_
  have uC : Up HA HC := uB.trans (Up.of_same sC)
  have tC : Tb T1 T2 HC := ⟨by obtain ⟨p, e, k⟩ := tB.1; exact ⟨p, sC _ _ e, k⟩, by obtain ⟨p, e, k⟩ := tB.2; exact ⟨p, sC _ _ e, k⟩⟩
  have hgC := hgA.up uC
  have hkC := hkA.up uC
  refine ⟨Nat.zero_le _, fun nl nnl => ?_⟩
  obtain ⟨vs, hkv, gr⟩ := hkC
  have hk1 : ∀ G2 : HO, upd HC nl G2 kp = some (.lst vs) := fun G2 => by rw [upd_ne (ne_of_none hkv nnl)]; exact hkv
  refine ⟨_, rfl, kp, rfl, ⟨_, SqL.of (hk1 _)⟩, for_list (a := kp) (xs := vs) (fun i σ H' => ∃ v3 v4, σ = [v0, some (.ref o), some (.ref g), v3, v4, some (.ref kp), some (.str z), v7, some (.str z2), some (.ref nl), none] ∧ H' = upd HC nl (.lst (((G.take i).foldl nmStep []).map V.str))) ⟨v3, v4, rfl, rfl⟩ ?_ ?_ ?_⟩
  · rintro i σ H' _ ⟨v3, v4, rfl, rfl⟩
    exact SqL.of (hk1 _)
  · rintro i x σ H' hx ⟨v3, v4, rfl, rfl⟩
    obtain ⟨r, hr2, ra⟩ := gr.get hx
    obtain ⟨tt, l, rfl, h1, h2⟩ := ra
    have h1' : upd HC nl (.lst (((G.take i).foldl nmStep []).map V.str)) tt = some (.tup [.str r.1, .ref l]) := by
      rw [upd_ne (ne_of_none h1 nnl)]
      exact h1
    have e := fold_take hr2
    have hl := fold_len (G.take i) []
    have ht : (G.take i).length ≤ 40 := Nat.le_trans (List.length_take_le' _ _) (by omega)
    generalize (G.take i).foldl nmStep [] = ns at e hl h1'
    refine ⟨tt, _, rfl, SqT.of h1', rfl, _, _, rfl, _, _, rfl, rfl, ?_⟩
    refine ⟨_, rfl, _, rfl, nl, _, rfl, .inl (SqL.of upd_same), rfl, flat_strs ns, _, rfl, ?_⟩
    show (if (!inV (V.str r.1) (ns.map V.str)) = true then _ else _)
    rw [inV_strs]
    by_cases m : r.1 ∈ ns
    · rw [decide_eq_true m]
      refine iteF ⟨_, _, rfl, ?_⟩
      rw [e]
      unfold nmStep
      rw [if_pos m]
    · rw [decide_eq_false m]
      refine iteT ⟨_, rfl, .inl ⟨rfl, _, SqL.of upd_same⟩, _, rfl, nl, _, _, rfl, rfl, upd_same, ?_, _, _, rfl, ?_⟩
      · rw [List.length_map]
        exact Nat.lt_of_le_of_lt (Nat.le_trans hl (by rw [List.length_nil]; omega : _ ≤ 40)) (by decide)
      · rw [e, upd_upd]
        unfold nmStep
        rw [if_neg m, List.map_append]
        rfl
  · rintro σ H' ⟨v3, v4, rfl, rfl⟩
    rw [gr.len, List.take_length]
    show _
    have sN : Same HC (upd HC nl (.lst ((namesOf G).map V.str))) := same_upd nnl
    have hN : upd HC nl (.lst ((namesOf G).map V.str)) nl = some (.lst ((namesOf G).map V.str)) := upd_same
    have tN : Tb T1 T2 (upd HC nl (.lst ((namesOf G).map V.str))) := tC.new nnl
    change tSeq _ _ _ _ (upd HC nl (.lst ((namesOf G).map V.str)))
    generalize upd HC nl (.lst ((namesOf G).map V.str)) = HN at sN hN tN
    have hgN := hgC.up (Up.of_same sN)
    have hkN : GraA HN kp G := ⟨vs, sN _ _ hkv, gr.up (Up.of_same sN)⟩
    have nsh : SeqAt.shaped (nsD (namesOf G)) = true := ns_shaped (fold_names G [] (fun _ m => nomatch m) good)
    have dpn : ∀ {B : Hp} {a : Addr}, B a = some (.lst ((namesOf G).map V.str)) → Dp K B (.ref a) (nsD (namesOf G)) := fun h => .lst (SqL.of h) (dp_strs _)
    refine ⟨_, rfl, g, G, rfl, hgN, by omega, fun p HD sD np hp => ?_⟩
    have hgD := hgN.up (Up.of_same sD)
    have hkD := hkN.up (Up.of_same sD)
    have tD : Tb T1 T2 HD := ⟨by obtain ⟨p, e, k⟩ := tN.1; exact ⟨p, sD _ _ e, k⟩, by obtain ⟨p, e, k⟩ := tN.2; exact ⟨p, sD _ _ e, k⟩⟩
    refine ⟨_, rfl, _, _, _, _, _, rfl, .ty "list", .base (.lst hp), kit_ty (r := true) (by decide +kernel), _, rfl, iteF ?_⟩
    refine ⟨_, rfl, _, rfl, _, _, dpn hp, dpn (sD _ _ hN), nsh, nsh, _, rfl, ?_⟩
    rw [eqv_self nsh]
    refine iteF ⟨_, rfl, _, rfl, _, _, hgD.dp, hkD.dp, gsh, gsh, _, rfl, ?_⟩
    rw [eqv_self gsh]
    refine iteF ?_
    have nlen : (namesOf G).length ≤ 9 := by
      have := fold_len G []
      unfold namesOf
      rw [List.length_nil] at this
      omega
    refine ⟨_, rfl, .inl ⟨rfl, _, SqL.of hp⟩, p, _, _, rfl, rfl, hp, ?_, ?_⟩
    · rw [List.length_map]
      exact Nat.lt_of_le_of_lt nlen (by decide)
    have uE : Up HN (upd HD p (.lst ((namesOf G).map V.str ++ [V.str "zz"]))) := (Up.of_same sD).upd np
    have tE : Tb T1 T2 (upd HD p (.lst ((namesOf G).map V.str ++ [V.str "zz"]))) := tD.lst hp
    generalize upd HD p (.lst ((namesOf G).map V.str ++ [V.str "zz"])) = HE at uE tE
    refine ⟨_, rfl, g, G, rfl, hgN.up uE, by omega, fun p2 HF sF np2 hp2 => ?_⟩
    refine ⟨_, rfl, _, _, dpn hp2, dpn (sF _ _ (uE.lst hN)), nsh, nsh, ?_⟩
    rw [eqv_self nsh]
    refine ⟨_, rfl, iteT ?_⟩
    have tF : Tb T1 T2 HF := ⟨by obtain ⟨p, e, k⟩ := tE.1; exact ⟨p, sF _ _ e, k⟩, by obtain ⟨p, e, k⟩ := tE.2; exact ⟨p, sF _ _ e, k⟩⟩
    have lsh : SeqAt.shaped (rdD (.line 0)) = true := rd_shaped (x := .line 0) True.intro
    refine ⟨"", rfl, by decide, tF, fun v5 HG uG tG d5 => ?_⟩
    rw [rd_empty] at d5
    refine ⟨(by show 2 ≤ sizeLine; decide), fun t nt => ?_⟩
    refine ⟨_, rdD (.line 0), dp_same (same_upd nt) _ _ d5, .tup (SqT.of upd_same) (.cons (.str _) (.cons (.int _) .nil)), lsh, lsh, ?_⟩
    rw [eqv_self lsh]
    exact q _
end
end Ld

set_option Elab.async false
set_option linter.all false
set_option maxRecDepth 100000
set_option maxHeartbeats 4000000
namespace Ld
open PySem PySem.Spec PyProof.Rows L2 Le TL Lt
section
variable {P : Program} {w : World} {K : PySem.W.Frag} {mg : Str → Option Value} {base : Heap}
def spLaw (K : PySem.W.Frag) (T1 T2 : Addr) : Sp := fun vs H Q _ => ∃ (a : Addr) (ns : List Int), vs = [.ref a] ∧ SqL K H a (ns.map V.int) ∧ ns.length ≤ 63 ∧ Tb T1 T2 H ∧ ∀ H', Q (.bl true) H'
theorem ok_law {f fD fG fW fWt fR fA fP fT fLR fN T1 T2 cB cT cL : Addr} {fd fdD fdG fdW fdWt fdR fdA fdP fdT fdLR fdN : FuncData} (F : Fun K "law" "law" sLaw f fd)
    (GD : FnOk P w K mg base CX0 1 fD fdD ["script"] (spDraws K)) (kD : PySem.W.keepIn K (.ref fD) = true) (bD : Binds K fdD ["script"] []) (gD : mg "_law_draws" = some (.ref fD))
    (GG : FnOk P w K mg base CX0 4 fG fdG ["draws", "k", "most"] (spGram K)) (kG : PySem.W.keepIn K (.ref fG) = true) (bG : Binds K fdG ["draws", "k", "most"] []) (gG : mg "_law_grammar" = some (.ref fG))
    (GW : FnOk P w K mg base CX0 4 fW fdW ["grammar"] spWrite) (kW : PySem.W.keepIn K (.ref fW) = true) (bW : Binds K fdW ["grammar"] []) (gW : mg "write_grammar" = some (.ref fW))
    (GU : FnOk P w K mg base CX0 1 fWt fdWt ["grammar"] spWrit) (kU : PySem.W.keepIn K (.ref fWt) = true) (bU : Binds K fdWt ["grammar"] []) (gU : mg "_law_written" = some (.ref fWt))
    (GR : FnOk P w K mg base (L2.CX P w) 7 fR fdR ["text"] (spRead T1 T2 cB cT cL)) (kR : PySem.W.keepIn K (.ref fR) = true) (bR : Binds K fdR ["text"] []) (gR : mg "read_grammar" = some (.ref fR))
    (GA : FnOk P w K mg base CX0 1 fA fdA ["draws", "k", "many"] (spAt K)) (kA : PySem.W.keepIn K (.ref fA) = true) (bA : Binds K fdA ["draws", "k", "many"] []) (gA : mg "_law_at" = some (.ref fA))
    (GP : FnOk P w K mg base CX0 2 fP fdP ["draws", "text"] (spSpoil K)) (kP : PySem.W.keepIn K (.ref fP) = true) (bP : Binds K fdP ["draws", "text"] []) (gP : mg "_law_spoilt" = some (.ref fP))
    (GT : FnOk P w K mg base CX0 8 fT fdT ["text"] (spTold K T1 T2)) (kT : PySem.W.keepIn K (.ref fT) = true) (bT : Binds K fdT ["text"] []) (gT : mg "_law_told" = some (.ref fT))
    (GL : FnOk P w K mg base CX0 4 fLR fdLR ["text"] (spLRead K)) (kL : PySem.W.keepIn K (.ref fLR) = true) (bL : Binds K fdLR ["text"] []) (gL : mg "_law_read" = some (.ref fLR))
    (GN : FnOk P w K mg base CX0 1 fN fdN ["grammar"] spNames) (kN : PySem.W.keepIn K (.ref fN) = true) (bN : Binds K fdN ["grammar"] []) (gN : mg "names_of" = some (.ref fN))
    (mi : mg "isinstance" = none) (mli : mg "list" = none) (ms : mg "str" = none) : FnOk P w K mg base CX0 9 f fd ["script"] (spLaw K T1 T2) := by
  refine F.ok scL (fun vs H Q E h => ?_) (fun cdv A outer s H vs Q E hr h => ?_)
  · obtain ⟨a, ns, rfl, _⟩ := h
    rfl
  · obtain ⟨a, ns, rfl, hS, hlen, tb, q⟩ := h
    have hr7 : Room 7 (A.deeper (envOfC "law" (defScope sLaw) s.heap.objs.size f cdv)) := hr.mono (by decide)
    have hr4 : Room 4 (A.deeper (envOfC "law" (defScope sLaw) s.heap.objs.size f cdv)) := hr.mono (by decide)
    have hr1 : Room 1 (A.deeper (envOfC "law" (defScope sLaw) s.heap.objs.size f cdv)) := hr.mono (by decide)
    obtain ⟨tR, pR, qR⟩ := law_rest (P := P) (w := w) (base := base) (f := f) (fd := fd) GP kP bP gP GT kT bT gT GL kL bL gL GN kN bN gN mi mli cdv A outer s H E hr
    refine ⟨_, pss_cons (ps_set (i := 1) scL.nd rfl (.inl rfl) (pe_call GD hr1 (by rfl) gD kD bD .nil pass0 (pa_cons (pv 0) pa_nil)))
      (pss_cons (ps_set (i := 2) scL.nd rfl (.inl rfl) (pe_call GG hr4 (by rfl) gG kG bG .nil pass0 (pa_cons (pv 1) (pa_cons pe_int (pa_cons pe_int pa_nil)))))
      (pss_cons (ps_setLc (i := 5) (own := [("name", 3), ("symbols", 4)]) (g := gTup K 2 (gCons (gName 3) (gCons (gName 4) gNil))) (by rfl) scL.nd rfl rfl (sw_true rfl rfl rfl (by decide +kernel)) (pi_list (pv 2)) (blkOk_by (N := ["script", "draws", "grammar", "name", "symbols", "kept", "text", "back", "other", "names", "told"]) (sc := defScope sLaw) (by decide +kernel))
        (fun _ _ _ _ _ => pg_tup rfl (pgs_cons (pg_name (i := 3) scL.nd rfl (Or.inl rfl)) (pgs_cons (pg_name (i := 4) scL.nd rfl (Or.inl rfl)) pgs_nil))) (fun _ _ _ _ _ => pts_nil)
        (fun _ _ _ _ _ => pe_tup (pa_cons (pv 3) (pa_cons (pe_callTy (r := fun xs H Q => ∃ p ys, xs = [.ref p] ∧ (SqL K H p ys ∨ SqT K H p ys) ∧ ∀ l, H l = none → Q (.ref l) (upd H l (.lst ys))) call_list_of (by rfl) mli (by decide +kernel) (pa_cons (pv 4) pa_nil)) pa_nil))))
      (pss_cons (ps_set (i := 6) scL.nd rfl (.inl rfl) (pe_call GW hr4 (by rfl) gW kW bW .nil pass0 (pa_cons (pv 2) pa_nil)))
      (pss_cons (ps_if (PW.pt (pw_or (pt_not (pt_val (pe_callB call_isi (by rfl) mi (by decide +kernel) (pa_cons (pv 6) (pa_cons (pe_bltn (v := .ty "str") (by rfl) ms (by decide +kernel) rfl) pa_nil)))))
          (pw_or (pt_cmpR op_ne (pv 6) (pe_call GU hr1 (by rfl) gU kU bU .nil pass0 (pa_cons (pv 5) pa_nil)) (nomark _)) (pw_or1 (pt_cmpR (op_neD (units64 hr)) (pv 2) (pv 5) (nomark _)))))) (pss_one (ps_ret pe_bl)) pss_nil)
      (pss_cons (ps_set (i := 7) scL.nd rfl (.inl rfl) (pe_call GR hr7 (by rfl) gR kR bR .nil passL (pa_cons (pv 6) pa_nil)))
      (pss_cons (ps_if (PW.pt (pw_or (pt_not (pt_val (pe_callB call_isi (by rfl) mi (by decide +kernel) (pa_cons (pv 7) (pa_cons (pe_bltn (v := .ty "list") (by rfl) mli (by decide +kernel) rfl) pa_nil)))))
          (pw_or1 (pt_cmpR (op_neD (units64 hr)) (pv 7) (pv 5) (nomark _))))) (pss_one (ps_ret pe_bl)) pss_nil)
      (pss_cons (ps_expr (pe_bm PySem.F.plainAttrs_list PySem.F.slot_list_append PySem.F.type_list_append mt_append (pe_ix ix_tup (pe_ix ix_list (pv 7) pe_int (fun _ _ => rfl)) pe_int (fun _ _ => rfl)) (pa_cons pe_str pa_nil)))
      (pss_cons (ps_if (pt_cmpR (op_neD (units64 hr)) (pe_call GR hr7 (by rfl) gR kR bR .nil passL (pa_cons (pv 6) pa_nil)) (pv 5) (nomark _)) (pss_one (ps_ret pe_bl)) pss_nil)
      (pss_cons (ps_if (pt_cmpR op_eq (pe_call GA hr1 (by rfl) gA kA bA .nil pass0 (pa_cons (pv 1) (pa_cons pe_int (pa_cons pe_int pa_nil)))) pe_int (nomark _))
        (pss_one (ps_set (i := 6) scL.nd rfl (.inl rfl) (pe_call GU hr1 (by rfl) gU kU bU .nil pass0 (pa_cons (pe_call GG hr4 (by rfl) gG kG bG .nil pass0 (pa_cons (pv 1) (pa_cons pe_int (pa_cons pe_int pa_nil)))) pa_nil)))) pss_nil)
      pR))))))))), ?_⟩
    have tsame : ∀ {B C : Hp}, Tb T1 T2 B → Same B C → Tb T1 T2 C := fun {B C} t u => ⟨by obtain ⟨p, e, k⟩ := t.1; exact ⟨p, u _ _ e, k⟩, by obtain ⟨p, e, k⟩ := t.2; exact ⟨p, u _ _ e, k⟩⟩
    refine ⟨_, rfl, a, ns, rfl, hS, hlen, fun o no => ?_⟩
    have ho1 : upd H o (.lst ((drawsOf ns).map V.int)) o = some (.lst ((drawsOf ns).map V.int)) := upd_same
    have t1 : Tb T1 T2 (upd H o (.lst ((drawsOf ns).map V.int))) := tb.new no
    refine ⟨_, rfl, o, drawsOf ns, 10, 9, rfl, ho1, by decide, by decide, fun g H2 G s2 gg hG => ?_⟩
    obtain ⟨good, nd, n0, len⟩ := gg
    have gsh := gD_shaped good
    have t2 := tsame t1 s2
    have ho2 := s2 _ _ ho1
    have hg2 : GraA H2 g G := hG.up (Up.of_same news_same)
    obtain ⟨vs, hgv, gr⟩ := id hg2
    refine ⟨_, rfl, g, rfl, ⟨_, SqL.of hgv⟩, fun D hD => lc_list (a := g) (xs := vs) (fun i H' => Same H2 H' ∧ ∃ ws, H' D = some (.lst ws) ∧ GrA (News (upd H2 D (.lst [])) H') ws (G.take i)) ⟨same_upd hD, [], upd_same, True.intro⟩ (fun i H' _ ⟨s', _⟩ => SqL.of (s' _ _ hgv)) ?_ ?_⟩
    · rintro i x H' hx ⟨s', ws, hd, gr'⟩
      obtain ⟨r, hr2, ra⟩ := gr.get hx
      obtain ⟨tt, l, rfl, h1, h2⟩ := ra.up (Up.of_same s')
      have domb : ∀ b, H' b = none → upd H2 D (.lst []) b = none := fun b hb => by
        have nb : b ≠ D := fun z => by rw [z, hd] at hb; cases hb
        rw [upd_ne nb]
        exact s'.free hb
      have lw : ws.length ≤ 9 := by
        rw [gr'.len]
        exact Nat.le_trans (List.length_take_le' _ _) len
      refine ⟨tt, _, rfl, SqT.of h1, rfl, _, _, rfl, _, _, rfl, rfl, rfl, _, rfl, _, rfl, l, _, rfl, .inl (SqL.of h2), fun l2 nl2 => ⟨(by show 2 ≤ sizeLine; decide), fun t nt => ?_⟩⟩
      have sx : Same H' (upd H' l2 (.lst (r.2.map V.str))) := same_upd nl2
      have sy := sx.trans (same_upd nt (o := .tup [.str r.1, .ref l2]))
      have ht : upd (upd H' l2 (.lst (r.2.map V.str))) t (.tup [.str r.1, .ref l2]) t = some (.tup [.str r.1, .ref l2]) := upd_same
      have hl : upd (upd H' l2 (.lst (r.2.map V.str))) t (.tup [.str r.1, .ref l2]) l2 = some (.lst (r.2.map V.str)) := by
        rw [upd_ne (ne_of_none upd_same nt)]
        exact upd_same
      have nt0 : H' t = none := sx.free nt
      generalize upd (upd H' l2 (.lst (r.2.map V.str))) t (.tup [.str r.1, .ref l2]) = H4 at sy ht hl
      refine ⟨ws, sy _ _ hd, Nat.lt_of_le_of_lt lw (by decide), same_put (s'.trans sy) hD, ws ++ [.ref t], upd_same, ?_⟩
      have et : G.take (i + 1) = G.take i ++ [r] := by
        rw [List.take_add_one, hr2]
        rfl
      rw [News.put (upd_same (H := H2) (a := D) (o := .lst [])), et]
      exact (gr'.up (News.up (Up.of_same sy))).snoc ⟨t, l2, rfl, by rw [news_of (domb t nt0)]; exact ht, by rw [news_of (domb l2 nl2)]; exact hl⟩
    · rintro H3 ⟨s3, ws, hd, gr'⟩
      rw [gr.len, List.take_length] at gr'
      have t3 := tsame t2 s3
      have hk3 : GraA H3 D G := ⟨ws, hd, gr'.up (Up.of_same news_same)⟩
      have hg3 : GraA H3 g G := hg2.up (Up.of_same s3)
      have lenS : (writeS G).length ≤ 4000 := by
        have := writeS_len good
        have := Nat.mul_le_mul_right 92 len
        omega
      refine ⟨_, rfl, g, G, rfl, hg3, good, by omega, fun H4 u4 tt4 => ?_⟩
      have t4 := tt4 _ _ t3
      have hk4 := hk3.up u4
      refine ⟨_, rfl, _, _, _, _, _, rfl, .ty "str", .base (.str _), kit_ty (r := true) (by decide +kernel), _, rfl, iteF ?_⟩
      refine ⟨_, rfl, _, rfl, D, G, rfl, hk4, good, by omega, fun H5 s5 => ⟨rfl, _, rfl, iteStrN (fun ne => absurd rfl ne) (fun _ => ?_)⟩⟩
      have u35 : Up H3 H5 := u4.trans (Up.of_same s5)
      have t5 := tsame t4 s5
      have hg5 := hg3.up u35
      have hk5 := hk3.up u35
      have ho5 := u35.lst (s3 _ _ ho2)
      refine ⟨_, rfl, _, rfl, _, _, hg5.dp, hk5.dp, gsh, gsh, _, rfl, ?_⟩
      rw [eqv_self gsh]
      have back := rd_back good nd n0 (by omega)
      refine iteF ⟨_, rfl, writeS G, rfl, by omega, t5, ?_⟩
      rw [back]
      intro p H6 u6 t6 hb
      have hb6 : GraA H6 p G := hb.up (Up.of_same news_same)
      have hk6 := hk5.up u6
      obtain ⟨bv, hbv, bgr⟩ := hb
      have hbv6 := news_same _ _ hbv
      refine ⟨_, rfl, _, _, _, _, _, rfl, .ty "list", .base (.lst hbv6), kit_ty (r := true) (by decide +kernel), _, rfl, iteF ?_⟩
      refine ⟨_, rfl, _, rfl, _, _, hb6.dp, hk6.dp, gsh, gsh, _, rfl, ?_⟩
      rw [eqv_self gsh]
      refine iteF ?_
      obtain ⟨r0, G0, eG⟩ : ∃ r0 G0, G = r0 :: G0 := by
        cases G with
        | nil => exact absurd rfl n0
        | cons r0 G0 => exact ⟨r0, G0, rfl⟩
      rw [eG] at bgr
      cases bv with
      | nil => exact bgr.elim
      | cons b0 bv =>
      obtain ⟨t0, l0, rfl, h1, h2⟩ := bgr.1
      have nl0 := (news_at h2).1
      have h2' := (news_at h2).2
      have g0 := good r0 (by rw [eG]; exact List.mem_cons_self)
      refine ⟨_, rfl, p, _, _, _, rfl, rfl, SqL.of hbv6, at_of (j := 0) rfl rfl, t0, _, _, _, rfl, rfl, SqT.of (news_same _ _ h1), at_of (j := 1) rfl rfl, .inl ⟨rfl, _, SqL.of h2'⟩, l0, _, _, rfl, rfl, h2', ?_, ?_⟩
      · rw [List.length_map]
        exact Nat.lt_of_le_of_lt g0.2.1 (by decide)
      have u7 : Up H5 (upd H6 l0 (.lst (r0.2.map V.str ++ [V.str "A"]))) := u6.upd nl0
      have t7 : Tb T1 T2 (upd H6 l0 (.lst (r0.2.map V.str ++ [V.str "A"]))) := t6.lst h2'
      refine ⟨_, rfl, writeS G, rfl, by omega, t7, ?_⟩
      rw [back]
      intro p2 H8 u8 t8 hb2
      have u58 := u7.trans u8
      have hk8 := hk5.up u58
      have hg8 := hg5.up u58
      have ho8 := u58.lst ho5
      refine ⟨_, rfl, _, _, (hb2.up (Up.of_same news_same)).dp, hk8.dp, gsh, gsh, _, rfl, ?_⟩
      rw [eqv_self gsh]
      refine iteF ⟨_, rfl, o, drawsOf ns, 9, 16, rfl, SqL.of ho8, by decide, by decide, rfl, _, rfl, iteEq (fun _ => ?_) (fun _ => ?_)⟩
      · refine ⟨_, rfl, o, drawsOf ns, 10, 40, rfl, ho8, by decide, by decide, fun g2 H9 G2 s9 gg2 hG2 => ?_⟩
        have good2 := gg2.1
        have len2 := gg2.2.2.2
        refine ⟨g2, G2, rfl, hG2.up (Up.of_same news_same), good2, len2, fun HX sX => ?_⟩
        have sz := s9.trans sX
        have lz : (writeS G2).length ≤ 4000 := by
          have := writeS_len good2
          have := Nat.mul_le_mul_right 92 len2
          omega
        exact qR _ _ _ _ o g D (writeS G2) (drawsOf ns) G HX Q (sz _ _ ho8) (hg8.up (Up.of_same sz)) (hk8.up (Up.of_same sz)) good len lz (tsame t8 sz) q
      · exact qR _ _ _ _ o g D (writeS G) (drawsOf ns) G H8 Q ho8 hg8 hk8 good len lenS t8 q
end
end Ld

set_option Elab.async false
set_option linter.all false
set_option maxRecDepth 100000
set_option maxHeartbeats 4000000

namespace Ld
open PySem PySem.Spec PyProof.Rows L2 Le TL Lt
/-! ### the end: tables of the defs' code objects, told by their names -/
theorem walk_ofTT {l : PySem.W.OpenLaw} {n k : Nat} {q : Program} {loose : List Str} {XP : (Str → Option Value) → Heap → Prop} {YP : World → Heap → Prop} {d : PySem.DefRec} {K : Params → PySem.W.Frag} {CX : World → CXT} {x : Str}
    (hn : l.most = some n) (hn2 : n ≤ sizeLine) (hdf : d.params.defaults = []) (hr : Room k callerA) (hY : ∀ (w : World) (h : Heap), YP w h → (K w.params).In h)
    (F : ∀ (w : World) (mg : Str → Option Value) (fa : Addr) (h : Heap), YP w h → (K w.params).In h → h.Ns mainGlobals mg → mg d.name = some (.ref fa) →
      (∀ (y : Str) (d' : PySem.DefRec) (c T : Addr), (recsOf q).find? (fun e => e.name == y) = some d' → PySem.W.tabIn (K w.params) y = some (c, T) → PySem.W.CodeHd h c T ∧ h.get? T = some { cls := .none, data := .fields #[] }) → LamX.LawAtS l w (K w.params) (CX w) k n x mg fa h)
    (hCX : ∀ (w : World) (H : Hp) (s : Shared) (e : Value) (s' : Shared), CX w [] H s (fun _ _ _ => False) e s' → False) :
    PySem.W.WalkO q loose XP YP l.row.toRowW d [] (fun f vs => PySem.call f vs) := by
  refine Att.attach_callB hn hdf fun w s₀ s₁ mg mb fa o pm cd doc a vs ns G Y ho hd hcd hmg hobj hints hlen hbits hg => ?_
  have KX := hY w _ Y
  obtain ⟨fd, cs, sp, hT, nT, C, hb, hsp, hF⟩ := F w mg fa _ Y KX G.T.g hmg fun y d' c T hr ht => PySem.W.tab_of G.T KX hr ht
  exact LamX.law_callTs KX G.T.g G.T.b G.T.builtins G.T.nolimit hg hT nT C G.T.bmain hobj hints (Nat.le_trans hlen hn2) hr hF hb (fun H hH hS => hsp H a ns hlen hbits hH hS) fun H e s' => hCX w H s₁ e s'
theorem tab_mk {K : PySem.W.Frag} {x : Str} {f c T : Addr} {oc ec : Value} {od dd : Option Addr} {fd : FuncData} {sl sl2 : Array (Option Value)} {vs : Array Value} (a : PySem.W.nsIn K mainGlobals x = some (some (.ref f))) (l : K.lookup f = some ⟨oc, od, .func fd, sl⟩) (hc : fd.code = .ref c)
    (lc : K.lookup c = some ⟨ec, dd, .fields vs, sl2⟩) (hv : vs[11]? = some (.ref T)) : PySem.W.tabIn K x = some (c, T) := by
  unfold PySem.W.tabIn
  rw [a]
  simp only
  rw [l]
  simp only
  rw [hc]
  simp only
  rw [lc]
  simp only
  rw [hv]
def clsOk (K : PySem.W.Frag) (C fI : Addr) (cs : List (Addr × Nat)) (bit : Nat → Bool) : Bool :=
  PySem.W.findIn K (.ref C) "__setattr__" == some (some (.builtin "object.__setattr__")) && (PySem.W.subIn K (.ref C) (.type "BaseException") == some true && (PySem.W.typeIn K (.ref C) == some (.type "type") && (PySem.W.keepIn K (.ref C) &&
  (PySem.W.findIn K (.ref C) "__getattribute__" == some (some (.builtin "BaseException.__getattribute__")) && (PySem.W.findIn K (.ref C) "__getattr__" == some none && (PySem.W.hasDictIn K C && (PySem.W.findIn K (.ref C) "__class__" == some (some (.builtin "object.__class__")) &&
  (PySem.W.specialIn K (.builtin "object.__class__") "__get__" == some (some (.builtin "getset_descriptor.__get__")) && (PySem.W.takesIn K (.builtin "object.__class__") == some true && (PySem.W.mroIn K C (.type "object") == some true && (PySem.W.findIn K (.ref C) "__init__" == some (some (.ref fI)) &&
  (PySem.W.typeIn K (.ref fI) == some (.type "function") && (PySem.W.findIn K (.ref C) "at" == some none && cs.all fun c => PySem.W.kitOne K (.ref C) (.ref c.1) == some (bit c.2))))))))))))))
theorem cls_err {K : PySem.W.Frag} {C fI : Addr} {cs : List (Addr × Nat)} {bit : Nat → Bool} {nm q : Str} {N : Addr} {bs bm : List Value} {sn : List Str} {sub : List Value} {ab : Bool} {col : Option Bool} {dd : Option Addr} {m0 m1 m2 m3 m5 : Option Value}
    (h : clsOk K C fI cs bit = true) (xL : K.lookup C = some (excClassObj nm q C N bs bm true sn sub ab col dd m0 m1 m2 m3 m5 "ValueError.__new__")) (hb : PySem.HandSPX.refsVE bm = true) :
    ErrC K C fI ∧ ∀ c ∈ cs, PySem.W.kitOne K (.ref C) (.ref c.1) = some (bit c.2) := by
  unfold clsOk at h
  simp only [Bool.and_eq_true, beq_iff_eq, List.all_eq_true] at h
  obtain ⟨h1, h2, h3, h4, h5, h6, h7, h8, h9, h10, h11, h12, h13, h14, h15⟩ := h
  exact ⟨⟨⟨⟨nm, q, N, bs, bm, sn, sub, ab, col, dd, m0, m1, m2, m3, m5, xL, hb⟩, h1, h2, h3, h4⟩, ⟨h5, h6, h2, h7, h8, h9, h10, h11⟩, h12, h13, h14⟩, h15⟩

theorem all_mk {l : PySem.W.OpenLaw} {w : World} {K : PySem.W.Frag} {h : Heap} {mg : Str → Option Value} {fa c1 T1 c2 T2 fI cM cB cT cL fkd fnm fwd fwr fln frd fnx fru fsy fno fdr fat fmx fgr fwt fsp fls flr ftd flw : Addr} (X : K.In h) (G : h.Ns mainGlobals mg) (hfa : mg "law" = some (.ref fa))
    (htab1 : ∀ (c T : Addr), PySem.W.tabIn K "_is_word" = some (c, T) → PySem.W.CodeHd h c T ∧ h.get? T = some { cls := .none, data := .fields #[] })
    (htab2 : ∀ (c T : Addr), PySem.W.tabIn K "_rule_of" = some (c, T) → PySem.W.CodeHd h c T ∧ h.get? T = some { cls := .none, data := .fields #[] })
    {odkd ankd odnm annm odwd anwd odwr anwr odln anln odrd anrd odnx annx odru anru odsy ansy odno anno oddr andr odat anat odmx anmx odgr angr odwt anwt odsp ansp odls anls odlr anlr odtd antd odlw anlw odI anI : Option Addr}
    {slkd slnm slwd slwr slln slrd slnx slru slsy slno sldr slat slmx slgr slwt slsp slls sllr sltd sllw slI : Array (Option Value)}
    {ockd kVkd dckd pmkd ctkd cdkd ocnm kVnm dcnm pmnm ctnm cdnm ocwd kVwd dcwd pmwd ctwd ocwr kVwr dcwr pmwr ctwr cdwr ocln kVln dcln pmln ctln cdln ocrd kVrd dcrd pmrd ctrd cdrd ocnx kVnx dcnx pmnx ctnx cdnx ocru kVru dcru pmru ctru ocsy kVsy dcsy pmsy ctsy cdsy ocno kVno dcno pmno ctno cdno ocdr kVdr dcdr pmdr ctdr cddr ocat kVat dcat pmat ctat cdat ocmx kVmx dcmx pmmx ctmx cdmx ocgr kVgr dcgr pmgr ctgr cdgr ocwt kVwt dcwt pmwt ctwt cdwt ocsp kVsp dcsp pmsp ctsp cdsp ocls kVls dcls pmls ctls cdls oclr kVlr dclr pmlr ctlr cdlr octd kVtd dctd pmtd cttd cdtd oclw kVlw dclw pmlw ctlw cdlw ocI kVI dcI pmI ctI cdI : Value}
    {nmB qB : Str} {NB : Addr} {bsB bmB : List Value} {snB : List Str} {subB : List Value} {abB : Bool} {colB : Option Bool} {ddB : Option Addr} {m0B m1B m2B m3B m5B : Option Value}
    {nmT qT : Str} {NT : Addr} {bsT bmT : List Value} {snT : List Str} {subT : List Value} {abT : Bool} {colT : Option Bool} {ddT : Option Addr} {m0T m1T m2T m3T m5T : Option Value}
    {nmL qL : Str} {NL : Addr} {bsL bmL : List Value} {snL : List Str} {subL : List Value} {abL : Bool} {colL : Option Bool} {ddL : Option Addr} {m0L m1L m2L m3L m5L : Option Value}
    (akd : PySem.W.nsIn K mainGlobals "is_kind" = some (some (.ref fkd)))
    (lkd : K.lookup fkd = some ⟨ockd, odkd, .func (PySem.W.fnOf "is_kind" "is_kind" (defArgs sKind) (defBody sKind) (defScope sKind) .none kVkd dckd pmkd ankd cdkd ctkd), slkd⟩)
    (ckd : PySem.W.codeIn K cdkd "is_kind" = true)
    (kkd : PySem.W.keepIn K (.ref fkd) = true)
    (anm : PySem.W.nsIn K mainGlobals "is_name" = some (some (.ref fnm)))
    (lnm : K.lookup fnm = some ⟨ocnm, odnm, .func (PySem.W.fnOf "is_name" "is_name" (defArgs sName) (defBody sName) (defScope sName) .none kVnm dcnm pmnm annm cdnm ctnm), slnm⟩)
    (cnm : PySem.W.codeIn K cdnm "is_name" = true)
    (knm : PySem.W.keepIn K (.ref fnm) = true)
    (awd : PySem.W.nsIn K mainGlobals "_is_word" = some (some (.ref fwd)))
    (lwd : K.lookup fwd = some ⟨ocwd, odwd, .func (PySem.W.fnOf "_is_word" "_is_word" (defArgs sWord) (defBody sWord) (defScope sWord) .none kVwd dcwd pmwd anwd (.ref c1) ctwd), slwd⟩)
    (cwd : PySem.W.codeIn K (.ref c1) "_is_word" = true)
    (kwd : PySem.W.keepIn K (.ref fwd) = true)
    {ecwd : Value} {dc_wd : Option Addr} {vcwd : Array Value} {scwd : Array (Option Value)}
    (lcwd : K.lookup c1 = some ⟨ecwd, dc_wd, .fields vcwd, scwd⟩)
    (hvwd : vcwd[11]? = some (.ref T1))
    (nTwd : K.lookup T1 = none)
    (awr : PySem.W.nsIn K mainGlobals "write_grammar" = some (some (.ref fwr)))
    (lwr : K.lookup fwr = some ⟨ocwr, odwr, .func (PySem.W.fnOf "write_grammar" "write_grammar" (defArgs sWrite) (defBody sWrite) (defScope sWrite) .none kVwr dcwr pmwr anwr cdwr ctwr), slwr⟩)
    (cwr : PySem.W.codeIn K cdwr "write_grammar" = true)
    (kwr : PySem.W.keepIn K (.ref fwr) = true)
    (aln : PySem.W.nsIn K mainGlobals "_line_of" = some (some (.ref fln)))
    (lln : K.lookup fln = some ⟨ocln, odln, .func (PySem.W.fnOf "_line_of" "_line_of" (defArgs sLine) (defBody sLine) (defScope sLine) .none kVln dcln pmln anln cdln ctln), slln⟩)
    (cln : PySem.W.codeIn K cdln "_line_of" = true)
    (kln : PySem.W.keepIn K (.ref fln) = true)
    (ard : PySem.W.nsIn K mainGlobals "read_grammar" = some (some (.ref frd)))
    (lrd : K.lookup frd = some ⟨ocrd, odrd, .func (PySem.W.fnOf "read_grammar" "read_grammar" (defArgs sRead) (defBody sRead) (defScope sRead) .none kVrd dcrd pmrd anrd cdrd ctrd), slrd⟩)
    (crd : PySem.W.codeIn K cdrd "read_grammar" = true)
    (krd : PySem.W.keepIn K (.ref frd) = true)
    (anx : PySem.W.nsIn K mainGlobals "_next_rule" = some (some (.ref fnx)))
    (lnx : K.lookup fnx = some ⟨ocnx, odnx, .func (PySem.W.fnOf "_next_rule" "_next_rule" (defArgs sNext) (defBody sNext) (defScope sNext) .none kVnx dcnx pmnx annx cdnx ctnx), slnx⟩)
    (cnx : PySem.W.codeIn K cdnx "_next_rule" = true)
    (knx : PySem.W.keepIn K (.ref fnx) = true)
    (aru : PySem.W.nsIn K mainGlobals "_rule_of" = some (some (.ref fru)))
    (lru : K.lookup fru = some ⟨ocru, odru, .func (PySem.W.fnOf "_rule_of" "_rule_of" (defArgs sRule) (defBody sRule) (defScope sRule) .none kVru dcru pmru anru (.ref c2) ctru), slru⟩)
    (cru : PySem.W.codeIn K (.ref c2) "_rule_of" = true)
    (kru : PySem.W.keepIn K (.ref fru) = true)
    {ecru : Value} {dc_ru : Option Addr} {vcru : Array Value} {scru : Array (Option Value)}
    (lcru : K.lookup c2 = some ⟨ecru, dc_ru, .fields vcru, scru⟩)
    (hvru : vcru[11]? = some (.ref T2))
    (nTru : K.lookup T2 = none)
    (asy : PySem.W.nsIn K mainGlobals "_is_symbol" = some (some (.ref fsy)))
    (lsy : K.lookup fsy = some ⟨ocsy, odsy, .func (PySem.W.fnOf "_is_symbol" "_is_symbol" (defArgs sSym) (defBody sSym) (defScope sSym) .none kVsy dcsy pmsy ansy cdsy ctsy), slsy⟩)
    (csy : PySem.W.codeIn K cdsy "_is_symbol" = true)
    (ksy : PySem.W.keepIn K (.ref fsy) = true)
    (ano : PySem.W.nsIn K mainGlobals "names_of" = some (some (.ref fno)))
    (lno : K.lookup fno = some ⟨ocno, odno, .func (PySem.W.fnOf "names_of" "names_of" (defArgs sNames) (defBody sNames) (defScope sNames) .none kVno dcno pmno anno cdno ctno), slno⟩)
    (cno : PySem.W.codeIn K cdno "names_of" = true)
    (kno : PySem.W.keepIn K (.ref fno) = true)
    (adr : PySem.W.nsIn K mainGlobals "_law_draws" = some (some (.ref fdr)))
    (ldr : K.lookup fdr = some ⟨ocdr, oddr, .func (PySem.W.fnOf "_law_draws" "_law_draws" (defArgs sDraws) (defBody sDraws) (defScope sDraws) .none kVdr dcdr pmdr andr cddr ctdr), sldr⟩)
    (cdr : PySem.W.codeIn K cddr "_law_draws" = true)
    (kdr : PySem.W.keepIn K (.ref fdr) = true)
    (aat : PySem.W.nsIn K mainGlobals "_law_at" = some (some (.ref fat)))
    (lat : K.lookup fat = some ⟨ocat, odat, .func (PySem.W.fnOf "_law_at" "_law_at" (defArgs sAt) (defBody sAt) (defScope sAt) .none kVat dcat pmat anat cdat ctat), slat⟩)
    (cat : PySem.W.codeIn K cdat "_law_at" = true)
    (kat : PySem.W.keepIn K (.ref fat) = true)
    (amx : PySem.W.nsIn K mainGlobals "_law_mix" = some (some (.ref fmx)))
    (lmx : K.lookup fmx = some ⟨ocmx, odmx, .func (PySem.W.fnOf "_law_mix" "_law_mix" (defArgs sMix) (defBody sMix) (defScope sMix) .none kVmx dcmx pmmx anmx cdmx ctmx), slmx⟩)
    (cmx : PySem.W.codeIn K cdmx "_law_mix" = true)
    (kmx : PySem.W.keepIn K (.ref fmx) = true)
    (agr : PySem.W.nsIn K mainGlobals "_law_grammar" = some (some (.ref fgr)))
    (lgr : K.lookup fgr = some ⟨ocgr, odgr, .func (PySem.W.fnOf "_law_grammar" "_law_grammar" (defArgs sGram) (defBody sGram) (defScope sGram) .none kVgr dcgr pmgr angr cdgr ctgr), slgr⟩)
    (cgr : PySem.W.codeIn K cdgr "_law_grammar" = true)
    (kgr : PySem.W.keepIn K (.ref fgr) = true)
    (awt : PySem.W.nsIn K mainGlobals "_law_written" = some (some (.ref fwt)))
    (lwt : K.lookup fwt = some ⟨ocwt, odwt, .func (PySem.W.fnOf "_law_written" "_law_written" (defArgs sWrit) (defBody sWrit) (defScope sWrit) .none kVwt dcwt pmwt anwt cdwt ctwt), slwt⟩)
    (cwt : PySem.W.codeIn K cdwt "_law_written" = true)
    (kwt : PySem.W.keepIn K (.ref fwt) = true)
    (asp : PySem.W.nsIn K mainGlobals "_law_spoilt" = some (some (.ref fsp)))
    (lsp : K.lookup fsp = some ⟨ocsp, odsp, .func (PySem.W.fnOf "_law_spoilt" "_law_spoilt" (defArgs sSpoil) (defBody sSpoil) (defScope sSpoil) .none kVsp dcsp pmsp ansp cdsp ctsp), slsp⟩)
    (csp : PySem.W.codeIn K cdsp "_law_spoilt" = true)
    (ksp : PySem.W.keepIn K (.ref fsp) = true)
    (als : PySem.W.nsIn K mainGlobals "_law_is_symbol" = some (some (.ref fls)))
    (lls : K.lookup fls = some ⟨ocls, odls, .func (PySem.W.fnOf "_law_is_symbol" "_law_is_symbol" (defArgs sLSym) (defBody sLSym) (defScope sLSym) .none kVls dcls pmls anls cdls ctls), slls⟩)
    (cls : PySem.W.codeIn K cdls "_law_is_symbol" = true)
    (kls : PySem.W.keepIn K (.ref fls) = true)
    (alr : PySem.W.nsIn K mainGlobals "_law_read" = some (some (.ref flr)))
    (llr : K.lookup flr = some ⟨oclr, odlr, .func (PySem.W.fnOf "_law_read" "_law_read" (defArgs sLRead) (defBody sLRead) (defScope sLRead) .none kVlr dclr pmlr anlr cdlr ctlr), sllr⟩)
    (clr : PySem.W.codeIn K cdlr "_law_read" = true)
    (klr : PySem.W.keepIn K (.ref flr) = true)
    (atd : PySem.W.nsIn K mainGlobals "_law_told" = some (some (.ref ftd)))
    (ltd : K.lookup ftd = some ⟨octd, odtd, .func (PySem.W.fnOf "_law_told" "_law_told" (defArgs sTold) (defBody sTold) (defScope sTold) .none kVtd dctd pmtd antd cdtd cttd), sltd⟩)
    (ctd : PySem.W.codeIn K cdtd "_law_told" = true)
    (ktd : PySem.W.keepIn K (.ref ftd) = true)
    (alw : PySem.W.nsIn K mainGlobals "law" = some (some (.ref flw)))
    (llw : K.lookup flw = some ⟨oclw, odlw, .func (PySem.W.fnOf "law" "law" (defArgs sLaw) (defBody sLaw) (defScope sLaw) .none kVlw dclw pmlw anlw cdlw ctlw), sllw⟩)
    (clw : PySem.W.codeIn K cdlw "law" = true)
    (klw : PySem.W.keepIn K (.ref flw) = true)
    (aM : PySem.W.nsIn K mainGlobals "MendError" = some (some (.ref cM)))
    (gB : PySem.W.nsIn K mainGlobals "BadLine" = some (some (.ref cB)))
    (xB : K.lookup cB = some (excClassObj nmB qB cB NB bsB bmB true snB subB abB colB ddB m0B m1B m2B m3B m5B "ValueError.__new__"))
    (bB : PySem.HandSPX.refsVE bmB = true)
    (gT : PySem.W.nsIn K mainGlobals "TakenRule" = some (some (.ref cT)))
    (xT : K.lookup cT = some (excClassObj nmT qT cT NT bsT bmT true snT subT abT colT ddT m0T m1T m2T m3T m5T "ValueError.__new__"))
    (bT : PySem.HandSPX.refsVE bmT = true)
    (gL : PySem.W.nsIn K mainGlobals "TooLarge" = some (some (.ref cL)))
    (xL : K.lookup cL = some (excClassObj nmL qL cL NL bsL bmL true snL subL abL colL ddL m0L m1L m2L m3L m5L "ValueError.__new__"))
    (bL : PySem.HandSPX.refsVE bmL = true)
    (i0 : PySem.W.findIn K (.ref cB) "__init__" = some (some (.ref fI)))
    (oB : clsOk K cB fI [] (fun _ => false) = true)
    (oT : clsOk K cT fI [] (fun _ => false) = true)
    (oL : clsOk K cL fI [] (fun _ => false) = true)
    (lI : K.lookup fI = some ⟨ocI, odI, .func (PySem.W.fnOf "__init__" "MendError.__init__" (defArgs sInit) (defBody sInit) (defScope sInit) .none kVI dcI pmI anI cdI ctI), slI⟩)
    (eI : PySem.W.codeIn K cdI "MendError.__init__" = true)
    (kI : PySem.W.keepIn K (.ref fI) = true)
    (e1 : PySem.W.exmOne K (.ref cB) (.ref cB) = some true)
    (e2 : PySem.W.exmOne K (.ref cT) (.ref cB) = some false)
    (e3 : PySem.W.exmOne K (.ref cT) (.ref cT) = some true)
    (e4 : PySem.W.exmOne K (.ref cL) (.ref cB) = some false)
    (e5 : PySem.W.exmOne K (.ref cL) (.ref cT) = some false)
    (e6 : PySem.W.exmOne K (.ref cL) (.ref cL) = some true)
    {tk1 tk2 tk3 : Tok}
    (v1 : PySem.W.nsIn K mainGlobals "MOST_LETTERS" = some (some (.int 12 tk1)))
    (v2 : PySem.W.nsIn K mainGlobals "MOST_SYMBOLS" = some (some (.int 6 tk2)))
    (v3 : PySem.W.nsIn K mainGlobals "MOST_RULES" = some (some (.int 24 tk3)))
    (z_len : PySem.W.nsIn K mainGlobals "len" = some none)
    (z_all : PySem.W.nsIn K mainGlobals "all" = some none)
    (z_range : PySem.W.nsIn K mainGlobals "range" = some none)
    (z_min : PySem.W.nsIn K mainGlobals "min" = some none)
    (z_abs : PySem.W.nsIn K mainGlobals "abs" = some none)
    (z_int : PySem.W.nsIn K mainGlobals "int" = some none)
    (z_isinstance : PySem.W.nsIn K mainGlobals "isinstance" = some none)
    (z_list : PySem.W.nsIn K mainGlobals "list" = some none)
    (z_str : PySem.W.nsIn K mainGlobals "str" = some none)
    (z_enumerate : PySem.W.nsIn K mainGlobals "enumerate" = some none)
    : LamX.LawAtS l w K CX0 9 63 "script" mg fa h := by
  obtain ⟨hC1, hT1⟩ := htab1 c1 T1 (tab_mk awd lwd rfl lcwd hvwd)
  obtain ⟨hC2, hT2⟩ := htab2 c2 T2 (tab_mk aru lru rfl lcru hvru)
  have e := hfa.symm.trans (PySem.W.mg_of X G alw)
  cases e
  have m := fun {x : Str} (z : PySem.W.nsIn K mainGlobals x = some none) => PySem.W.mg_none_of X G z
  have Fkd := fun_mk (st := sKind) lkd ckd kkd
  have Fnm := fun_mk (st := sName) lnm cnm knm
  have Fwd := fun_mk (st := sWord) lwd cwd kwd
  have Fwr := fun_mk (st := sWrite) lwr cwr kwr
  have Fln := fun_mk (st := sLine) lln cln kln
  have Frd := fun_mk (st := sRead) lrd crd krd
  have Fnx := fun_mk (st := sNext) lnx cnx knx
  have Fru := fun_mk (st := sRule) lru cru kru
  have Fsy := fun_mk (st := sSym) lsy csy ksy
  have Fno := fun_mk (st := sNames) lno cno kno
  have Fdr := fun_mk (st := sDraws) ldr cdr kdr
  have Fat := fun_mk (st := sAt) lat cat kat
  have Fmx := fun_mk (st := sMix) lmx cmx kmx
  have Fgr := fun_mk (st := sGram) lgr cgr kgr
  have Fwt := fun_mk (st := sWrit) lwt cwt kwt
  have Fsp := fun_mk (st := sSpoil) lsp csp ksp
  have Fls := fun_mk (st := sLSym) lls cls kls
  have Flr := fun_mk (st := sLRead) llr clr klr
  have Ftd := fun_mk (st := sTold) ltd ctd ktd
  have Flw := fun_mk (st := sLaw) llw clw klw
  have FI := fun_mk (st := sInit) lI eI kI
  have bkd := Fkd.binds (ps := ["text"]) fun _ _ _ _ _ _ us hl => match us, hl with | [_], _ => rfl
  have bnm := Fnm.binds (ps := ["text"]) fun _ _ _ _ _ _ us hl => match us, hl with | [_], _ => rfl
  have bwd := Fwd.binds (ps := ["text", "first", "last"]) fun _ _ _ _ _ _ us hl => match us, hl with | [_, _, _], _ => rfl
  have bwr := Fwr.binds (ps := ["grammar"]) fun _ _ _ _ _ _ us hl => match us, hl with | [_], _ => rfl
  have bln := Fln.binds (ps := ["name", "symbols"]) fun _ _ _ _ _ _ us hl => match us, hl with | [_, _], _ => rfl
  have brd := Frd.binds (ps := ["text"]) fun _ _ _ _ _ _ us hl => match us, hl with | [_], _ => rfl
  have bnx := Fnx.binds (ps := ["before", "number", "line"]) fun _ _ _ _ _ _ us hl => match us, hl with | [_, _, _], _ => rfl
  have bru := Fru.binds (ps := ["line"]) fun _ _ _ _ _ _ us hl => match us, hl with | [_], _ => rfl
  have bsy := Fsy.binds (ps := ["text"]) fun _ _ _ _ _ _ us hl => match us, hl with | [_], _ => rfl
  have bno := Fno.binds (ps := ["grammar"]) fun _ _ _ _ _ _ us hl => match us, hl with | [_], _ => rfl
  have bdr := Fdr.binds (ps := ["script"]) fun _ _ _ _ _ _ us hl => match us, hl with | [_], _ => rfl
  have bat := Fat.binds (ps := ["draws", "k", "many"]) fun _ _ _ _ _ _ us hl => match us, hl with | [_, _, _], _ => rfl
  have bmx := Fmx.binds (ps := ["draws", "k", "many"]) fun _ _ _ _ _ _ us hl => match us, hl with | [_, _, _], _ => rfl
  have bgr := Fgr.binds (ps := ["draws", "k", "most"]) fun _ _ _ _ _ _ us hl => match us, hl with | [_, _, _], _ => rfl
  have bwt := Fwt.binds (ps := ["grammar"]) fun _ _ _ _ _ _ us hl => match us, hl with | [_], _ => rfl
  have bsp := Fsp.binds (ps := ["draws", "text"]) fun _ _ _ _ _ _ us hl => match us, hl with | [_, _], _ => rfl
  have bls := Fls.binds (ps := ["word", "is_name_v"]) fun _ _ _ _ _ _ us hl => match us, hl with | [_, _], _ => rfl
  have blr := Flr.binds (ps := ["text"]) fun _ _ _ _ _ _ us hl => match us, hl with | [_], _ => rfl
  have btd := Ftd.binds (ps := ["text"]) fun _ _ _ _ _ _ us hl => match us, hl with | [_], _ => rfl
  have blw := Flw.binds (ps := ["script"]) fun _ _ _ _ _ _ us hl => match us, hl with | [_], _ => rfl
  have bI := FI.binds (ps := ["self", "at"]) fun _ _ _ _ _ _ us hl => match us, hl with | [_, _], _ => rfl
  obtain ⟨EB, _⟩ := cls_err oB xB bB
  obtain ⟨ET, _⟩ := cls_err oT xT bT
  obtain ⟨EL, _⟩ := cls_err oL xL bL
  refine ⟨PySem.W.fnOf "law" "law" (defArgs sLaw) (defBody sLaw) (defScope sLaw) .none kVlw dclw pmlw anlw cdlw ctlw, [(c1, T1), (c2, T2)], spLaw K T1 T2, fun p hp => ?_, fun p hp => ?_, fun p hp => ?_, fun s v => .of_eq rfl, fun H a ns hl _ hH hS => ⟨a, ns, rfl, hS, hl, ⟨⟨#[], hH (c1, T1) (by simp), True.intro⟩, ⟨#[], hH (c2, T2) (by simp), True.intro⟩⟩, fun _ => rfl⟩, fun base hK hN hTB => ?_⟩
  · rcases List.mem_cons.mp hp with rfl | hp
    · exact hT1
    · obtain rfl := List.mem_singleton.mp hp
      exact hT2
  · rcases List.mem_cons.mp hp with rfl | hp
    · exact nTwd
    · obtain rfl := List.mem_singleton.mp hp
      exact nTru
  · rcases List.mem_cons.mp hp with rfl | hp
    · exact hC1
    · obtain rfl := List.mem_singleton.mp hp
      exact hC2
  · have tb1 := hTB (c1, T1) (by simp)
    have TB1 : GxR.TabB base mg c1 T1 := ⟨tb1.code, tb1.bm, tb1.gP⟩
    have tb2 := hTB (c2, T2) (by simp)
    have TB2 : GxR.TabB base mg c2 T2 := ⟨tb2.code, tb2.bm, tb2.gP⟩
    have g := fun {x : Str} {v : Value} (z : PySem.W.nsIn K mainGlobals x = some (some v)) => PySem.W.mg_of X G z
    have Gwd : FnOk l.prog w K mg base CX0 1 fwd _ ["text", "first", "last"] (spWord T1) := ok_word (k := 0) Fwd rfl TB1 (m z_len) (m z_all) (g v1)
    have Gkd := ok_kind (k := 0) Fkd Fwd Gwd bwd (g awd)
    have Gnm := ok_name (k := 0) Fnm Fwd Gwd bwd (g awd)
    have Gsy := ok_sym (k := 0) (T2 := T2) Fsy Gkd kkd bkd (g akd) Gnm knm bnm (g anm)
    have Gru := ok_rule Fru rfl TB2 Gnm knm bnm (g anm) Gsy ksy bsy (g asy) (m z_len) (m z_all) (g v2)
    have GI : FnOk l.prog w K mg base CX0 1 fI _ ["self", "at"] (spInit K) := ok_init (k := 0) FI
    have Gnx := ok_next Fnx Gru kru bru (g aru) GI bI EB ET EL (g gB) (g gT) (g gL) (g v3)
    have Grd := ok_read Frd Gnx knx bnx (g anx) GI bI EB (g gB) (m z_len) (m z_enumerate)
    have Gln : FnOk l.prog w K mg base CX0 1 fln _ ["name", "symbols"] spLine := ok_line Fln
    have Gat : FnOk l.prog w K mg base CX0 1 fat _ ["draws", "k", "many"] (spAt K) := ok_at (k := 0) Fat (m z_len) (m z_int)
    have Gmx : FnOk l.prog w K mg base CX0 1 fmx _ ["draws", "k", "many"] (spMix K) := ok_mix Fmx (m z_len) (m z_int)
    have Gls : FnOk l.prog w K mg base CX0 1 fls _ ["word", "is_name_v"] spLSym := ok_lsym Fls (m z_len)
    have Gtd := ok_told Ftd Grd krd brd (g ard) EB ET EL (g gB) (g gT) (g gL) (g aM) ⟨e1, e2, e3, e4, e5, e6⟩
    exact ok_law Flw (ok_draws (k := 0) Fdr (m z_range) (m z_min) (m z_len) (m z_abs) (m z_int)) kdr bdr (g adr)
      (ok_gram Fgr Gmx kmx bmx (g amx) (m z_range)) kgr bgr (g agr)
      (ok_write Fwr Gln kln bln (g aln)) kwr bwr (g awr)
      (ok_writ Fwt) kwt bwt (g awt)
      Grd krd brd (g ard) Gat kat bat (g aat)
      (ok_spoil Fsp Gat kat bat (g aat) (m z_range) (m z_len)) ksp bsp (g asp)
      Gtd ktd btd (g atd)
      (ok_lread Flr Gls kls bls (g als) (m z_range) (m z_len)) klr blr (g alr)
      (ok_names Fno) kno bno (g ano) (m z_isinstance) (m z_list) (m z_str)
end Ld

open PySem PySem.W PyProof.Rows
set_option maxRecDepth 100000 in
set_option maxHeartbeats 0 in
theorem PySem.Challenge.cw_leastmend_k01_texts_of_grammars_holds : PySem.Challenge.rw_leastmend_k01_texts_of_grammars.Holds := by
  w_on; o_law; k_head; (case hw => w_witness2)
  k_fill
  refine Ld.walk_ofTT (l := PySem.Challenge.rw_leastmend_k01_texts_of_grammars) (n := 63) (k := 9) (x := "script") (CX := fun _ => L2.CX0) rfl (by decide) rfl ⟨rfl, by decide, by decide⟩ (fun w h Y => PySem.W.kIn_of Y) ?F (fun _ _ _ _ _ h => h)
  case F =>
    intro w mg fa h Y KX G hmg htab
    refine' Ld.all_mk KX G hmg (fun c T => htab "_is_word" _ c T (by rfl)) (fun c T => htab "_rule_of" _ c T (by rfl)) ?akd ?lkd ?ckd ?kkd ?anm ?lnm ?cnm ?knm ?awd ?lwd ?cwd ?kwd ?lcwd ?hvwd ?nTwd ?awr ?lwr ?cwr ?kwr ?aln ?lln ?cln ?kln ?ard ?lrd ?crd ?krd ?anx ?lnx ?cnx ?knx ?aru ?lru ?cru ?kru ?lcru ?hvru ?nTru ?asy ?lsy ?csy ?ksy ?ano ?lno ?cno ?kno ?adr ?ldr ?cdr ?kdr ?aat ?lat ?cat ?kat ?amx ?lmx ?cmx ?kmx ?agr ?lgr ?cgr ?kgr ?awt ?lwt ?cwt ?kwt ?asp ?lsp ?csp ?ksp ?als ?lls ?cls ?kls ?alr ?llr ?clr ?klr ?atd ?ltd ?ctd ?ktd ?alw ?llw ?clw ?klw ?aM ?gB ?xB ?bB ?gT ?xT ?bT ?gL ?xL ?bL ?i0 ?oB ?oT ?oL ?lI ?eI ?kI ?e1 ?e2 ?e3 ?e4 ?e5 ?e6 ?v1 ?v2 ?v3 ?z_len ?z_all ?z_range ?z_min ?z_abs ?z_int ?z_isinstance ?z_list ?z_str ?z_enumerate
    (case akd => k_is)
    (case lkd => k_is)
    (case ckd => k_is)
    (case kkd => k_is)
    (case anm => k_is)
    (case lnm => k_is)
    (case cnm => k_is)
    (case knm => k_is)
    (case awd => k_is)
    (case lwd => k_is)
    (case cwd => k_is)
    (case kwd => k_is)
    (case lcwd => k_is)
    (case hvwd => rfl)
    (case nTwd => first | kernel_rfl | rfl)
    (case awr => k_is)
    (case lwr => k_is)
    (case cwr => k_is)
    (case kwr => k_is)
    (case aln => k_is)
    (case lln => k_is)
    (case cln => k_is)
    (case kln => k_is)
    (case ard => k_is)
    (case lrd => k_is)
    (case crd => k_is)
    (case krd => k_is)
    (case anx => k_is)
    (case lnx => k_is)
    (case cnx => k_is)
    (case knx => k_is)
    (case aru => k_is)
    (case lru => k_is)
    (case cru => k_is)
    (case kru => k_is)
    (case lcru => k_is)
    (case hvru => rfl)
    (case nTru => first | kernel_rfl | rfl)
    (case asy => k_is)
    (case lsy => k_is)
    (case csy => k_is)
    (case ksy => k_is)
    (case ano => k_is)
    (case lno => k_is)
    (case cno => k_is)
    (case kno => k_is)
    (case adr => k_is)
    (case ldr => k_is)
    (case cdr => k_is)
    (case kdr => k_is)
    (case aat => k_is)
    (case lat => k_is)
    (case cat => k_is)
    (case kat => k_is)
    (case amx => k_is)
    (case lmx => k_is)
    (case cmx => k_is)
    (case kmx => k_is)
    (case agr => k_is)
    (case lgr => k_is)
    (case cgr => k_is)
    (case kgr => k_is)
    (case awt => k_is)
    (case lwt => k_is)
    (case cwt => k_is)
    (case kwt => k_is)
    (case asp => k_is)
    (case lsp => k_is)
    (case csp => k_is)
    (case ksp => k_is)
    (case als => k_is)
    (case lls => k_is)
    (case cls => k_is)
    (case kls => k_is)
    (case alr => k_is)
    (case llr => k_is)
    (case clr => k_is)
    (case klr => k_is)
    (case atd => k_is)
    (case ltd => k_is)
    (case ctd => k_is)
    (case ktd => k_is)
    (case alw => k_is)
    (case llw => k_is)
    (case clw => k_is)
    (case klw => k_is)
    (case aM => k_is)
    (case gB => k_is)
    (case xB => k_is)
    (case bB => decide +kernel)
    (case gT => k_is)
    (case xT => k_is)
    (case bT => decide +kernel)
    (case gL => k_is)
    (case xL => k_is)
    (case bL => decide +kernel)
    (case i0 => k_is)
    (case oB => kernel_rfl)
    (case oT => kernel_rfl)
    (case oL => kernel_rfl)
    (case lI => k_is)
    (case eI => k_is)
    (case kI => k_is)
    (case e1 => first | k_is | kernel_rfl)
    (case e2 => first | k_is | kernel_rfl)
    (case e3 => first | k_is | kernel_rfl)
    (case e4 => first | k_is | kernel_rfl)
    (case e5 => first | k_is | kernel_rfl)
    (case e6 => first | k_is | kernel_rfl)
    (case v1 => k_is)
    (case v2 => k_is)
    (case v3 => k_is)
    (case z_len => k_is)
    (case z_all => k_is)
    (case z_range => k_is)
    (case z_min => k_is)
    (case z_abs => k_is)
    (case z_int => k_is)
    (case z_isinstance => k_is)
    (case z_list => k_is)
    (case z_str => k_is)
    (case z_enumerate => k_is)
