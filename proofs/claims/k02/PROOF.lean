import PyProof.Rows.All
import Wide.All
import OpenK.AllK
import Wide.FinOn
import HandS.ForMost
import HandS.AnyAll
import HandS.Walk
import HandS.IsInst
import HandS.EndTab
import HandS.Deep
import HandS.GenOver
import HandS.GenList
import HandS.ForExc
import HandS.ExcInit
import HandS.ExcIs
import HandS.TryMany
import PyProof.ReprRoads
import KE.LtData
import HandS.StrMore
import HandS.DictComp
import HandS.ExcField
import HandS.CallSlots
import HandS.DeepEq
import HandS.DictEq
import PyProof.Rows.StrReprFit
import HandS.WordsDict
import PySem.Challenge.RW_leastmend_k02_sound_grammars
set_option Elab.async false
set_option linter.all false
set_option maxRecDepth 100000
set_option maxHeartbeats 4000000
/-! all(test for x in e): any thing that is walked, any test that leaves the heap's objects as they stand; the test may read what the def holds. -/
namespace Gc
open PySem PySem.Spec PyProof.Rows L2 GxR
/-- the code object of the inner block, found in the table or made and entered there: one end for both -/
theorem code_either {M : Model} {A : Around} {E : Value → Shared → Prop} {s : Shared} {env : Env} {c P : Addr} {ps : Array Value} {gp : Pos} {qn : Str} {scope : Scope} {Q : Value → Shared → Prop}
    (hc : env.code = .ref c) (C : PySem.W.CodeHd s.heap c P) (tab : s.heap.get? P = some { cls := .none, data := .fields ps }) (ok : TriplesOk ps.toList)
    (go : ∀ (code : Value) (h3 : Heap) (tk : Nat) (more : Array Value), Heap.ExtBut P s.heap h3 → s.heap.objs.size ≤ h3.objs.size → h3.get? P = some { cls := .none, data := .fields (ps ++ more) } → TriplesOk (ps ++ more).toList → Q code { s with heap := h3, toks := tk }) :
    wpAny M A (genexprCode env gp qn scope) Q E s := by
  cases found : codeAmong gp ps.toList with
  | some cv =>
    have q := go cv s.heap s.toks #[] (Heap.ExtBut.refl _ _) (Nat.le_refl _) (by rw [Array.append_empty]; exact tab) (by rw [Array.append_empty]; exact ok)
    exact wpAny_genexprCode_hit hc (C.code tab ok) found q
  | none =>
    refine wpAny_genexprCodeX hc (C.code tab ok) (C.tab tab) found fun c' h3 tk ext big small made _ entered _ => ?_
    obtain ⟨_, _, _, _, _, _, _, _, _, _, _, _, _, _, _, _, _, _, _, ok3, _⟩ := made
    exact go (.ref c') h3 tk _ ext (Nat.le_of_lt (Nat.lt_of_le_of_lt big small)) entered.2 ok3
/-- what is walked: xv in the heap h1 gives n items, the i-th under Pf i; its iterator is the next new object; it reads nothing of the table at P -/
def SrcOk (prog : Program) (w : World) (h1 : Heap) (P : Addr) (xv : Value) (n : Nat) (Pf : Nat → Value → Prop) : Prop :=
  ∃ fp : List Addr, (∀ b ∈ fp, b ≤ h1.objs.size) ∧ P ∉ fp ∧
    ∀ (A : Around) (E : Value → Shared → Prop) (s : Shared) (Q : Value → Shared → Prop), s.heap = h1 →
      (∀ (o : Obj) (St : Nat → Heap → Prop), (∀ A' : Around, A'.handled = none → Walks prog w A' h1.objs.size fp [h1.objs.size] n Pf St) → St 0 (h1.push o) → Q (.ref h1.objs.size) { s with heap := h1.push o }) → wpAny (model prog w) A (pyIter xv) Q E s
/-- the environment in which the inner block runs -/
abbrev blkEnv (X : Cx) (scope : Scope) (C : Addr) (code : Value) : Env := genEnv scope (cloFrom X.env.cells scope.names []) C code builtinsNs X.env
/-- the test: of an item under Pf i it gives pb i, wherever all that stood in h1 (but the table at P) stands -/
def EltG (X : Cx) (scope : Scope) (x : Str) (elt : Expr) (P : Addr) (h1 : Heap) (Pf : Nat → Value → Prop) (pb : Nat → Bool) : Prop :=
  ∀ (C : Addr) (code : Value) (A' : Around) (E' : Value → Shared → Prop) (i : Nat) (v : Value) (s₂ : Shared) (m₂ : Str → Option Value), A'.handled = none → A'.depth ≤ X.A.depth + 1 → A'.units ≤ X.A.units + 8 → Pf i v →
    (∀ b o, b ≠ P → h1.get? b = some o → s₂.heap.get? b = some o) → s₂.heap.Ns C m₂ → m₂ x = some v →
    wpAny (model X.prog X.w) A' (eval elt (blkEnv X scope C code)) (fun y s₃ => y = .bool (pb i) ∧ Keeps s₂ s₃) E' s₂
/-- the block's own scope, over the def's scope sc -/
structure GenSc (sc scope : Scope) (x : Str) : Prop where
  kind : scope.kind = .function
  co : scope.isCoroutine = false
  cell : ∀ y ∈ scope.names, y.2 ≠ .cell
  dot : scope.names.lookup (".0" : Str) = some NameKind.local
  loc : scope.names.lookup x = some .local
  free : ∀ y ∈ scope.names, y.2 = .free → sc.names.lookup y.1 = some .cell
section
variable {X : Cx}
/-- all(test for x in e) -/
def tAllG (X : Cx) (scope : Scope) (x : Str) (elt : Expr) (P : Addr) (te : TE) : TE := fun σ H Q => te σ H fun v H1 => ∃ (n : Nat) (Pf : Nat → Value → Prop) (pb : Nat → Bool),
  (∀ (pins : List (Addr × Obj)) (s1 : Shared) (xv : Value), Inv X pins σ H1 s1 → RelV v xv → SrcOk X.prog X.w s1.heap P xv n Pf ∧ EltG X scope x elt P s1.heap Pf pb) ∧ TabG H1 P ∧ ∀ H2, Tabbed P H1 H2 → Q (.bl ((List.range n).all pb)) H2
theorem pe_allG {c P : Addr} {elt iter : Expr} {x : Str} {px p pos gpos : Pos} {scope : Scope} {te : TE} {k : Nat}
    (hr : Room k X.A) (hg : Gl X "all") (hm : X.mg "all" = none) (hb : bootBuiltins "all" = some (.builtin "all")) (TB : TabB X.base X.mg c P) (hcode : X.env.code = .ref c) (S : GenSc X.env.scope scope x) (hi : PE X iter te)
    (hs : ∀ v, genFold iter X.env v = pure v)
    (he : starEach [.GeneratorExp elt [⟨.Name x px, iter, [], 0⟩] scope gpos] X.env = (false, eval (.GeneratorExp elt [⟨.Name x px, iter, [], 0⟩] scope gpos) X.env) :: starEach [] X.env := by rfl) :
    PE X (.Call (.Name "all" p) [.GeneratorExp elt [⟨.Name x px, iter, [], 0⟩] scope gpos] [] pos) (tAllG X scope x elt P te) := by
  refine ⟨fun pins s σ H Q I h => ?_⟩
  have has : ∀ y ∈ scope.names, y.2 = .free → ∃ a, X.env.cells.lookup y.1 = some a := fun y hy e => I.ok.has _ (.inl (S.free y hy e))
  refine wpAny_Call_Name_kw (ld_blt I hg hm hb ?_)
  refine PyProof.Rows.callWith_builtin1 ?_ he (by rfl)
  rw [he]
  show wpAny _ _ (spliced (_ :: backTo pos (starEach [] X.env))) _ _ _
  refine Calls.spliced_cons ?_
  refine wpAny_GeneratorExp_walksQD hr.hd S.co (closure_ok has) S.cell S.dot S.loc S.kind (by have := hr.dp; omega) ?_ hs
  refine thn (hi.run pins s σ H _ I h) fun xv s1 hv => ?_
  obtain ⟨v, H1, J, rv, n, Pf, pb, sem, ⟨ps, hP, trip⟩, fin⟩ := hv
  obtain ⟨⟨fp, below, apart, begins⟩, test⟩ := sem pins s1 xv J rv
  refine begins _ _ s1 _ rfl fun o St W at0 => ⟨J.nolimit.push o, ?_⟩
  have tab1 : s1.heap.get? P = some { cls := .none, data := .fields ps } := J.hok P _ hP
  have tabLt : P < s1.heap.objs.size := Heap.lt_size tab1
  have tab2 := Heap.get?_push_of_some o tab1
  have big2 : (s1.heap.push o).objs.size = s1.heap.objs.size + 1 := Heap.size_push ..
  refine code_either hcode (TB.code.keeps fun b u e => Heap.get?_push_of_some _ (J.bk b u e)) tab2 trip fun code h3 tk more ext big tab3 trip3 => ?_
  -- what stood in s1 stands in h3, the table grown
  have stands : ∀ b u, b ≠ P → s1.heap.get? b = some u → h3.get? b = some u := fun b u ne e => ext b u ne (Heap.get?_push_of_some _ e)
  obtain ⟨statLt, statNe⟩ : cStatics < s1.heap.objs.size ∧ cStatics ≠ P := by
    obtain ⟨mc, ns, _⟩ := J.nolimit
    refine ⟨ns.lt, fun z => ?_⟩
    obtain ⟨o1, es, ep, ho, hd, _⟩ := ns
    rw [z, tab1] at ho
    cases ho
    cases hd
  obtain ⟨bm, ob, b1, b2, b3, b4, b5, b6, b7, b8⟩ := TB.bm
  have globs : h3.Ns X.env.globals X.mg := by
    rw [J.ok.glob]
    exact ((J.mod.glob.keeps J.bk).push o).extBut ext TB.gP
  refine wpAny_builtinsFor globs b1 b2 (stands _ _ b4 (J.bk _ _ b5)) b6 b7 b8 ?_
  have newLt : s1.heap.objs.size < h3.objs.size := by
    have big' : (s1.heap.push o).objs.size ≤ h3.objs.size := big
    omega
  refine ⟨s1.heap.objs.size, fp, [s1.heap.objs.size], n, Pf, St, (fun _ => true), (fun i y => y = .bool (pb i)), rfl, W, ?_, fun b hb => ?_, (J.nolimit.push o).extBut ext statNe, fun z => ?_, fun href up => ?_, ?_⟩
  · exact (W X.A hr.hd).frame _ _ _ at0 fun b hb u e => ext b u (fun z => apart (by rw [← z]; exact hb)) e
  · exact Nat.lt_of_le_of_lt (below b hb) newLt
  · exact Nat.ne_of_lt statLt (List.mem_singleton.mp z)
  · refine ⟨fun A' E' i v s₂ m₂ _ _ _ _ _ _ _ => ?_, fun A' E' i v s₂ m₂ h1 h2 h3' hv _ hn hx old => ?_⟩
    · rw [List.forIn_nil]
      exact wpAny_pure ⟨rfl, keeps_refl _⟩
    · refine test _ _ A' E' i v s₂ m₂ h1 h2 h3' hv (fun b u ne e => ?_) hn hx
      have lt := Heap.lt_size e
      refine old b (List.mem_range.mpr (Nat.lt_trans lt newLt)) (fun z => ?_) u (up _ _ (stands b u ne e))
      exact Nat.ne_of_lt lt (List.mem_singleton.mp z)
  · intro g h5 tk5 gs bare gBig gLast up5 WG atG
    rw [GxR.passing_true, List.length_range] at WG
    refine Calls.spliced_nil (call_all_walkS (WG.in4_1.self 0 _ _ _ atG ⟨g, _, _, _, n, _, _, pb, rfl, WG.in4_1, atG, fun j y sj Qj Ej item q => ?_, fun s' mv => ?_⟩))
    · obtain ⟨i, at_, rfl⟩ := item
      obtain ⟨_, ij⟩ := List.getElem?_eq_some_iff.mp at_
      rw [List.getElem_range] at ij
      rw [← ij]
      exact wpAny_truthy_bool q
    · -- behind the walk: the table has grown, all else stands
      have off : ∀ b u, s1.heap.get? b = some u → b ∉ h3.objs.size :: [s1.heap.objs.size] := fun b u e hb => by
        have lt := Heap.lt_size e
        rcases List.mem_cons.mp hb with z | z
        · exact Nat.lt_irrefl _ (Nat.lt_trans (by rw [← z]; exact lt) newLt)
        · exact Nat.ne_of_lt lt (List.mem_singleton.mp z)
      have K := inv_tab (more := more) (h' := s'.heap) (g' := s'.gens) (d' := s'.drawn) (t' := s'.toks) J hP (fun b u ne e => mv.heap b u (off b u e) (up5 b u (stands b u ne e)))
        (mv.heap P _ (off P _ tab1) (up5 P _ tab3)) (AllBare.movedS (J.bare.push bare) mv)
      rw [sh_eta s1 s' mv.os] at K
      exact ⟨.bl _, _, K, rfl, fin _ ⟨⟨ps ++ more, upd_same, trip3⟩, fun b ne => upd_ne ne⟩⟩
end
/-! ### captured names -/
theorem mem_of_lookup {α : Type} {n : Str} {c : α} : ∀ {l : List (Str × α)}, l.lookup n = some c → (n, c) ∈ l
  | (k, v) :: r, h => by
    rw [List.lookup_cons] at h
    by_cases e : n = k
    · have e' : (n == k) = true := by rw [e]; simp
      rw [e'] at h
      cases h
      rw [e]
      exact List.mem_cons_self
    · rw [beq_eq_false_iff_ne.mpr e] at h
      exact List.mem_cons_of_mem _ (mem_of_lookup h)
theorem cap_lookup {cells : List (Str × Addr)} {names : List (Str × NameKind)} {n : Str} {c : Addr} (hm : (n, NameKind.free) ∈ names) (hc : cells.lookup n = some c) : (cloFrom cells names []).lookup n = some c := by
  obtain ⟨d, hd⟩ := mem_lookup (cloFrom_has (acc := []) (cells := cells) hm)
  rcases cloFrom_mem (mem_of_lookup hd) with z | ⟨_, z⟩
  · cases z
  · rw [hd, z, hc]
    rfl
section
variable {X : Cx} {pins : List (Addr × Obj)} {σ : L2.St} {H : Hp} {s : Shared}
/-- the def's name y, captured, in slot i: what the block reads of it, wherever all that stood stands -/
theorem captured {scope : Scope} {y : Str} {i : Nat} {v : V} {P : Addr} {ps : Array Value} (I : Inv X pins σ H s) (hP : H P = some (.tbl ps)) (hc : X.env.scope.names.lookup y = some .cell) (hf : (y, NameKind.free) ∈ scope.names) (hN : X.N[i]? = some y) (hv : σ[i]? = some (some v)) :
    ∃ a u, (cloFrom X.env.cells scope.names []).lookup y = some a ∧ RelV v u ∧ ∀ h : Heap, (∀ b o, b ≠ P → s.heap.get? b = some o → h.get? b = some o) → h.IsCell a (some u) := by
  obtain ⟨m, _, hl⟩ := I.loc
  obtain ⟨u, ru, l⟩ := hl i y v hN hv (.inr (.inl hc))
  rcases l with ⟨k, _⟩ | ⟨_, a, ha, o, ho, hd⟩
  · have k' : X.env.scope.names.lookup y = some NameKind.local := k
    rw [hc] at k'
    cases k'
  · refine ⟨a, u, cap_lookup hf ha, ru, fun h up => ⟨o, up a o (fun z => ?_) ho, hd⟩⟩
    have t : s.heap.get? P = some { cls := .none, data := .fields ps } := I.hok P _ hP
    rw [z, t] at ho
    cases ho
    cases hd
/-- a text, sign by sign -/
theorem src_str {P : Addr} {ps : Array Value} {z : Str} {t : Tok} (I : Inv X pins σ H s) (hP : H P = some (.tbl ps)) : SrcOk X.prog X.w s.heap P (.str z t) z.cps.size (SignAt z) := by
  have tab : s.heap.get? P = some { cls := .none, data := .fields ps } := I.hok P _ hP
  refine ⟨[s.heap.objs.size], fun b hb => Nat.le_of_eq (List.mem_singleton.mp hb), fun hb => ?_, fun A E s2 Q e q => ?_⟩
  · exact Nat.ne_of_lt (Heap.lt_size tab) (List.mem_singleton.mp hb)
  · obtain ⟨h2, g2, d2, t2, o2⟩ := s2
    obtain rfl : h2 = s.heap := e
    exact wpAny_pyIter_str fun o St W at0 => q o St W at0
theorem walks_weaker {prog : Program} {w : World} {A : Around} {I : Addr} {fp wr : List Addr} {n : Nat} {Pf Pg : Nat → Value → Prop} {St : Nat → Heap → Prop} (W : Walks prog w A I fp wr n Pf St) (f : ∀ i v, Pf i v → Pg i v) : Walks prog w A I fp wr n Pg St :=
  ⟨W.sub, W.frame, fun i s Q E hi st q => W.item i s Q E hi st fun v h' tk y => q v h' tk (f i v y), W.done, W.self⟩
/-- a list -/
theorem src_lst {P l : Addr} {ps : Array Value} {xs : List V} (I : Inv X pins σ H s) (hP : H P = some (.tbl ps)) (hl : SqL X.K H l xs) : SrcOk X.prog X.w s.heap P (.ref l) xs.length (fun i v => ∃ x, xs[i]? = some x ∧ RelV x v) := by
  have tab : s.heap.get? P = some { cls := .none, data := .fields ps } := I.hok P _ hP
  obtain ⟨its, rv, pl, _⟩ := I.list hl
  have lst := pl.isList
  have len : its.toArray.size = xs.length := by rw [List.size_toArray, rv.length]
  have lt : l < s.heap.objs.size := by
    obtain ⟨_, e, _⟩ := _root_.id lst
    exact Heap.lt_size e
  refine ⟨[s.heap.objs.size, l], fun b hb => ?_, fun hb => ?_, fun A E s2 Q e q => ?_⟩
  rotate_left 2
  · obtain ⟨h2, g2, d2, t2, o2⟩ := s2
    obtain rfl : h2 = s.heap := e
    refine wpAny_pyIter_list lst (q _ (fun i h => h.IsListIter s.heap.objs.size l i ∧ h.IsList l its.toArray) (fun A' hA => ?_) ⟨⟨_, Heap.get?_push_size _ rfl, rfl, rfl⟩, lst.push _⟩)
    have W := Walks.list (prog := X.prog) (w := X.w) hA s.heap.objs.size l (Nat.ne_of_lt lt) its.toArray
    rw [len] at W
    refine walks_weaker W fun i v e => ?_
    have e' : its[i]? = some v := by simpa using e
    have hi : i < its.length := (List.getElem?_eq_some_iff.mp e').1
    have hi2 : i < xs.length := by rw [rv.length]; exact hi
    obtain ⟨u, hu, ru⟩ := rv.get (List.getElem?_eq_getElem hi2)
    rw [e'] at hu
    cases hu
    exact ⟨xs[i], List.getElem?_eq_getElem hi2, ru⟩
  · rcases List.mem_cons.mp hb with z | z
    · exact Nat.le_of_eq z
    · rw [List.mem_singleton.mp z]
      exact Nat.le_of_lt lt
  · rcases List.mem_cons.mp hb with z | z
    · exact Nat.ne_of_lt (Heap.lt_size tab) z
    · have z' := List.mem_singleton.mp z
      obtain ⟨o1, e1, _, _, d1⟩ := _root_.id lst
      rw [← z', tab] at e1
      cases e1
      cases d1
end
/-! ### «lo <= x <= hi», lo and hi captured texts -/
def between (lo hi : Str) (c : Nat) : Bool := !(decide ([c] < lo.cps.toList)) && !(decide (hi.cps.toList < [c]))
theorem elt_between {X : Cx} {pins : List (Addr × Obj)} {σ : L2.St} {H : Hp} {s : Shared} {scope : Scope} {x lo hi : Str} {z zl zh : Str} {P : Addr} {ps : Array Value} {i j : Nat} {p1 p2 p3 p4 : Pos} (I : Inv X pins σ H s) (hP : H P = some (.tbl ps))
    (hk : scope.kind = .function) (hl : scope.names.lookup x = some .local) (h1 : scope.names.lookup lo = some .free) (h2 : scope.names.lookup hi = some .free)
    (c1 : X.env.scope.names.lookup lo = some .cell) (c2 : X.env.scope.names.lookup hi = some .cell) (n1 : X.N[i]? = some lo) (n2 : X.N[j]? = some hi) (v1 : σ[i]? = some (some (.str zl))) (v2 : σ[j]? = some (some (.str zh)))
    (d0 : (x == ("__debug__" : Str)) = false := by decide) (d1 : (lo == ("__debug__" : Str)) = false := by decide) (d2 : (hi == ("__debug__" : Str)) = false := by decide) (e1 : (lo == ("__classdict__" : Str)) = false := by decide) (e2 : (hi == ("__classdict__" : Str)) = false := by decide) :
    EltG X scope x (.Compare (.Name lo p1) [.LtE, .LtE] [.Name x p2, .Name hi p3] p4) P s.heap (SignAt z) (fun k => between zl zh (z.cps.getD k 0)) := by
  obtain ⟨a, u, la, ru, ca⟩ := captured (scope := scope) I hP c1 (mem_of_lookup h1) n1 v1
  obtain ⟨b, v, lb, rv, cb⟩ := captured (scope := scope) I hP c2 (mem_of_lookup h2) n2 v2
  obtain ⟨ta, rfl⟩ := ru
  obtain ⟨tb, rfl⟩ := rv
  intro C code A' E' k item s₂ m₂ _ _ _ sign old ns hx
  obtain ⟨cc, tc, hcc, rfl⟩ := sign
  have gd : z.cps.getD k 0 = cc := by
    rw [Array.getD_eq_getD_getElem?, hcc]
    rfl
  refine Compare_chain ?_ (by with_unfolding_all rfl)
  refine wpAny_Name (wpAny_loadName_free hk (show scope.names.lookup lo = some .free from h1) la (ca _ old) ?_ e1) d1
  refine chain_link (wpAny_Name (wpAny_loadName_local hk (show scope.names.lookup x = some .local from hl) ns hx ?_) d0)
  refine PySem.P.le_str (wpAny_truthy_bool ?_)
  show (if (!decide (([cc] : List Nat) < zl.cps.toList)) = true then _ else _)
  by_cases q : ([cc] : List Nat) < zl.cps.toList
  · rw [decide_eq_true q]
    refine ite_ff ⟨?_, keeps_refl _⟩
    show _ = Value.bool (between zl zh (z.cps.getD k 0))
    rw [gd]
    unfold between
    rw [decide_eq_true q]
    rfl
  · rw [decide_eq_false q]
    refine ite_tt (chain_last ?_)
    refine wpAny_Name (wpAny_loadName_free hk (show scope.names.lookup hi = some .free from h2) lb (cb _ old) ?_ e2) d2
    refine PySem.P.le_str ⟨?_, keeps_refl _⟩
    show _ = Value.bool (between zl zh (z.cps.getD k 0))
    rw [gd]
    unfold between
    rw [decide_eq_false q]
    rfl
theorem range_all (z : Array Nat) (p : Nat → Bool) : (List.range z.size).all (fun k => p (z.getD k 0)) = z.toList.all p := by
  rw [Bool.eq_iff_iff, List.all_eq_true, List.all_eq_true]
  constructor
  · intro h b hb
    obtain ⟨j, hj, e⟩ := List.getElem_of_mem hb
    have hj' : j < z.size := by simpa using hj
    have q := h j (List.mem_range.mpr hj')
    rw [Array.getD_eq_getD_getElem?, Array.getElem?_eq_getElem hj'] at q
    rw [← e]
    simpa using q
  · intro h j hj
    have hj' := List.mem_range.mp hj
    rw [Array.getD_eq_getD_getElem?, Array.getElem?_eq_getElem hj']
    exact h _ (by simp)
end Gc

set_option Elab.async false
set_option linter.all false
set_option maxRecDepth 100000
set_option maxHeartbeats 4000000
namespace Ld
open PySem PySem.Spec PyProof.Rows L2
/-! ### the draws: mathematics -/
def dstep (p : Int × List Int) : Int × List Int := if p.1 > 0 then (p.1 / 65536, p.2 ++ [p.1 % 65536]) else p
def diter : Nat → Int × List Int → Int × List Int
  | 0, p => p
  | n + 1, p => dstep (diter n p)
def dabs (x : Int) : Int := if x < 0 then -x else x
def dmix1 (k r : Int) : Int := (r * 48271 + (k + 1) * 69621) % 2147483647
def dmix2 (k r : Int) : Int := (dmix1 k r * 16807 + 11 * k + 5) % 2147483629
def dcell (k x : Int) (ds : List Int) : List Int :=
  if (10 : Int) ^ (18 : Int).toNat ≤ dabs x then (diter 60 (dabs x, ds)).2
  else ds ++ [dmix2 k (dabs x) % 65536] ++ [dmix2 k (dabs x) / 65536 % 32768]
def drawsN (ns : List Int) : Nat → List Int
  | 0 => []
  | i + 1 => dcell (i : Nat) (ns.getD i 0) (drawsN ns i)
def drawsOf (ns : List Int) : List Int := drawsN ns ns.length
def DOk (ds : List Int) : Prop := ∀ x ∈ ds, 0 ≤ x ∧ x < 65536
theorem DOk.app {ds : List Int} {x : Int} (h : DOk ds) (h0 : 0 ≤ x) (h1 : x < 65536) : DOk (ds ++ [x]) := fun y hy => by
  rcases List.mem_append.mp hy with z | z
  · exact h y z
  · rw [List.mem_singleton.mp z]
    exact ⟨h0, h1⟩
theorem dstep_ok {p : Int × List Int} (h : DOk p.2) : DOk (dstep p).2 := by
  unfold dstep
  split
  · exact h.app (Int.emod_nonneg _ (by decide)) (Int.emod_lt_of_pos _ (by decide))
  · exact h
theorem dstep_len (p : Int × List Int) : (dstep p).2.length ≤ p.2.length + 1 := by
  unfold dstep
  split
  · show (p.2 ++ [p.1 % 65536]).length ≤ _
    rw [List.length_append, List.length_singleton]
    exact Nat.le_refl _
  · omega
theorem diter_ok {p : Int × List Int} (h : DOk p.2) : ∀ n, DOk (diter n p).2
  | 0 => h
  | n + 1 => dstep_ok (diter_ok h n)
theorem diter_len (p : Int × List Int) : ∀ n, (diter n p).2.length ≤ p.2.length + n
  | 0 => Nat.le_refl _
  | n + 1 => by
    have := dstep_len (diter n p)
    have := diter_len p n
    show (dstep (diter n p)).2.length ≤ _
    omega
theorem dcell_ok {k x : Int} {ds : List Int} (h : DOk ds) : DOk (dcell k x ds) := by
  unfold dcell
  split
  · exact diter_ok (p := (dabs x, ds)) h 60
  · have h1 : DOk (ds ++ [dmix2 k (dabs x) % 65536]) := h.app (Int.emod_nonneg _ (by decide)) (Int.emod_lt_of_pos _ (by decide))
    refine h1.app (Int.emod_nonneg _ (by decide)) ?_
    have : dmix2 k (dabs x) / 65536 % 32768 < 32768 := Int.emod_lt_of_pos _ (by decide)
    omega
theorem dcell_len (k x : Int) (ds : List Int) : (dcell k x ds).length ≤ ds.length + 60 := by
  unfold dcell
  split
  · exact diter_len (dabs x, ds) 60
  · simp only [List.length_append, List.length_singleton]
    omega
theorem drawsN_ok (ns : List Int) : ∀ n, DOk (drawsN ns n)
  | 0 => fun _ h => nomatch h
  | n + 1 => dcell_ok (drawsN_ok ns n)
theorem drawsN_len (ns : List Int) : ∀ n, (drawsN ns n).length ≤ 60 * n
  | 0 => Nat.le_refl _
  | n + 1 => by
    have := dcell_len (n : Nat) (ns.getD n 0) (drawsN ns n)
    have := drawsN_len ns n
    show (dcell _ _ _).length ≤ _
    omega
theorem drawsOf_len {ns : List Int} (h : ns.length ≤ 63) : (drawsOf ns).length ≤ 3780 := by
  have := drawsN_len ns ns.length
  unfold drawsOf
  omega
/-- a draw below many -/
def atD (ds : List Int) (k many : Int) : Int := if k < (ds.length : Int) then ds.getD k.toNat 0 % many else 0
theorem atD_lo (ds : List Int) (k : Int) {many : Int} (h : 0 < many) : 0 ≤ atD ds k many := by
  unfold atD
  split
  · exact Int.emod_nonneg _ (by omega)
  · exact Int.le_refl _
theorem atD_hi (ds : List Int) (k : Int) {many : Int} (h : 0 < many) : atD ds k many < many := by
  unfold atD
  split
  · exact Int.emod_lt_of_pos _ h
  · exact h
theorem getI {ns : List Int} {i : Nat} (h : i < ns.length) : (ns.map V.int)[i]? = some (V.int (ns.getD i 0)) := by
  rw [List.getElem?_map, List.getElem?_eq_getElem h, List.getD_eq_getElem?_getD, List.getElem?_eq_getElem h]
  rfl
theorem same_upd {H : Hp} {p : Addr} {o : HO} (h : H p = none) : Same H (upd H p o) := fun b x e => by
  rw [upd_ne (ne_of_none e h)]
  exact e
theorem small4000 {n : Nat} (h : n ≤ 4000) : n < sizeLine := Nat.lt_of_le_of_lt h (by decide)
end Ld

set_option Elab.async false
set_option linter.all false
set_option maxRecDepth 100000
set_option maxHeartbeats 4000000
/-! Reading a line, two ways: over codes alone. -/
namespace Ld
open PySem PySem.Spec PyProof.Rows L2 TL
/-! ### words (as in the law of words) -/
def wordB (z lo hi : Str) : Bool := decide (1 ≤ (z.length : Int)) && (decide ((z.length : Int) ≤ 12) && z.cps.toList.all (Gc.between lo hi))
def kindB (z : Str) : Bool := wordB z "A" "Z" && !decide (z = "OTHER")
def nameB (z : Str) : Bool := wordB z "a" "z"
def symB (z : Str) : Bool := kindB z || nameB z
theorem lt_one (a b : Nat) : (([a] : List Nat) < [b]) ↔ a < b := by
  simp [List.cons_lt_cons_iff]
theorem name_codes {z : Str} (h : nameB z = true) : ∀ c ∈ tl z, 97 ≤ c ∧ c ≤ 122 := by
  intro c hc
  unfold nameB wordB at h
  rw [Bool.and_eq_true, Bool.and_eq_true] at h
  have q := List.all_eq_true.mp h.2.2 c hc
  unfold Gc.between at q
  rw [show ("a" : Str).cps.toList = [97] from by decide +kernel, show ("z" : Str).cps.toList = [122] from by decide +kernel] at q
  simp only [Bool.and_eq_true, Bool.not_eq_true', decide_eq_false_iff_not, lt_one] at q
  omega
theorem name_no {z : Str} (h : nameB z = true) {c : Nat} (hc : c < 97) : c ∉ tl z := fun m => by
  have := name_codes h c m
  omega
abbrev Rule := Str × List Str
/-- the text's parts at a space, at a newline -/
theorem colon_tl : tl (":" : Str) = [58] := by decide +kernel
theorem space_tl : tl (" " : Str) = [32] := by decide +kernel
theorem nl_tl : tl ("\n" : Str) = [10] := by decide +kernel
theorem kind_space (x : Str) : ¬ Builtin.Str.strKind x < Builtin.Str.strKind (" " : Str) := kind_ok (by decide +kernel)
theorem kind_nl (x : Str) : ¬ Builtin.Str.strKind x < Builtin.Str.strKind ("\n" : Str) := kind_ok (by decide +kernel)
def spS (x : Str) : List Str := Txt.split x " "
theorem spS_tl (x : Str) : (spS x).map tl = spl [32] 0 [] (tl x) := by
  have h := split_spl x " " (by rw [space_tl]; simp) (kind_space x)
  rw [space_tl] at h
  exact h
theorem cut_first (s : Nat) : ∀ L : List Nat, s ∉ L ∨ ∃ p r, L = p ++ s :: r ∧ s ∉ p
  | [] => .inl (by simp)
  | c :: L => by
    by_cases e : c = s
    · exact .inr ⟨[], L, by rw [e]; rfl, by simp⟩
    · rcases cut_first s L with h | ⟨p, r, h1, h2⟩
      · exact .inl fun m => (List.mem_cons.mp m).elim (fun z => e z.symm) h
      · exact .inr ⟨c :: p, r, by rw [h1]; rfl, fun m => (List.mem_cons.mp m).elim (fun z => e z.symm) h2⟩
theorem spl_no {s : Nat} {p : List Nat} (h : s ∉ p) : spl [s] 0 [] p = [p] := by
  have := spl_last1 (S := []) (acc := []) h
  rw [this]
  rfl
theorem spl_at1 {s : Nat} {p r : List Nat} (h : s ∉ p) : spl [s] 0 [] (p ++ s :: r) = p :: spl [s] 0 [] r := by
  have := spl_part1 (S := []) (acc := []) (rest := r) h
  exact this
/-- split never gives the empty list; its head -/
theorem spl_ne (s : Nat) (L : List Nat) : ∃ p r, spl [s] 0 [] L = p :: r ∧ s ∉ p ∧ ∀ c ∈ p, c ∈ L := by
  rcases cut_first s L with h | ⟨p, r, rfl, h⟩
  · exact ⟨L, [], spl_no h, h, fun _ z => z⟩
  · exact ⟨p, _, spl_at1 h, h, fun c z => List.mem_append_left _ z⟩
/-! ### the program's way -/
def ruleOf (l : Str) : Option Rule :=
  if nameB (Txt.partition l ":").1 = true ∧ (Txt.partition l ":").2.1 ≠ Str.empty ∧ (spS (Txt.partition l ":").2.2).head? = some Str.empty ∧ (spS (Txt.partition l ":").2.2).tail.length ≤ 6 ∧ (spS (Txt.partition l ":").2.2).tail.all symB = true
  then some ((Txt.partition l ":").1, (spS (Txt.partition l ":").2.2).tail) else none
/-- the law's way; b0: the first word without its last sign -/
def endsColon (w : Str) : Prop := ∃ b : List Nat, tl w = b ++ [58]
def lawLine (l : Str) (w0 : Str) (ws : List Str) : Option Rule → Prop := fun o =>
  (o = none ∧ ¬ ∃ n : Str, tl w0 = tl n ++ [58] ∧ nameB n = true ∧ ws.length ≤ 6 ∧ ws.all symB = true) ∨
  ∃ n : Str, o = some (n, ws) ∧ tl w0 = tl n ++ [58] ∧ nameB n = true ∧ ws.length ≤ 6 ∧ ws.all symB = true
theorem str_of (l : List Nat) : ∃ z : Str, tl z = l := ⟨⟨l.toArray⟩, rfl⟩
theorem tl_inj {x y : Str} (h : tl x = tl y) : x = y := ext_tl h
theorem line_eq (l : Str) : ∃ w0 ws, spS l = w0 :: ws ∧ lawLine l w0 ws (ruleOf l) := by
  have hs := spS_tl l
  rcases cut_first 58 (tl l) with h | ⟨A, R, hL, hA⟩
  · -- no colon
    obtain ⟨p, r, e, _, sub⟩ := spl_ne 32 (tl l)
    rw [e] at hs
    cases hsl : spS l with
    | nil => rw [hsl] at hs; cases hs
    | cons w0 ws =>
      rw [hsl, List.map_cons] at hs
      injection hs with h1 h2
      refine ⟨w0, ws, rfl, .inl ⟨?_, ?_⟩⟩
      · unfold ruleOf
        rw [partition_none colon_tl h]
        rw [if_neg (fun z => z.2.1 rfl)]
      · rintro ⟨n, hn, _⟩
        refine h (sub 58 ?_)
        rw [← h1, hn]
        exact List.mem_append_right _ (List.mem_singleton.mpr rfl)
  · obtain ⟨a, ha⟩ := str_of A
    obtain ⟨r, hr⟩ := str_of R
    have el : l = a ++ (":" : Str) ++ r := tl_inj (by rw [tl_append, tl_append, ha, hr, colon_tl, hL]; simp)
    have ep : Txt.partition l ":" = (a, (":" : Str), r) := by
      rw [el]
      exact partition_app colon_tl (by rw [ha]; exact hA)
    have rr := spS_tl r
    rw [hr] at rr
    by_cases h32 : 32 ∈ A
    · -- a space ahead of the colon: no name
      obtain ⟨p, q, hp, np⟩ : ∃ p q, A = p ++ 32 :: q ∧ 32 ∉ p := by
        rcases cut_first 32 A with z | z
        · exact absurd h32 z
        · exact z
      rw [hL, hp, List.append_assoc, List.cons_append, spl_at1 np] at hs
      cases hsl : spS l with
      | nil => rw [hsl] at hs; cases hs
      | cons w0 ws =>
        rw [hsl, List.map_cons] at hs
        injection hs with h1 h2
        refine ⟨w0, ws, rfl, .inl ⟨?_, ?_⟩⟩
        · unfold ruleOf
          rw [ep, if_neg]
          intro z
          exact name_no z.1 (by decide : 32 < 97) (by rw [ha]; exact h32)
        · rintro ⟨n, hn, _⟩
          refine hA ?_
          rw [hp]
          refine List.mem_append_left _ ?_
          rw [← h1, hn]
          exact List.mem_append_right _ (List.mem_singleton.mpr rfl)
    · have h32' : 32 ∉ A ++ [58] := fun z => (List.mem_append.mp z).elim h32 fun z => by simp at z
      cases R with
      | nil =>
        rw [hL, spl_no h32'] at hs
        rw [spl_no (by simp)] at rr
        cases hsl : spS l with
        | nil => rw [hsl] at hs; cases hs
        | cons w0 ws =>
          rw [hsl, List.map_cons] at hs
          injection hs with h1 h2
          have ews : ws = [] := List.map_eq_nil_iff.mp h2
          subst ews
          cases hsr : spS r with
          | nil => rw [hsr] at rr; cases rr
          | cons v0 vs =>
            rw [hsr, List.map_cons] at rr
            injection rr with g1 g2
            have evs : vs = [] := List.map_eq_nil_iff.mp g2
            subst evs
            have ev0 : v0 = Str.empty := tl_inj g1
            refine ⟨w0, [], rfl, ?_⟩
            by_cases hn : nameB a = true
            · refine .inr ⟨a, ?_, by rw [h1, ha], hn, by decide, rfl⟩
              unfold ruleOf
              rw [ep]
              simp only [hsr]
              rw [if_pos ⟨hn, by decide +kernel, by rw [ev0]; rfl, Nat.zero_le _, rfl⟩]
              rfl
            · refine .inl ⟨?_, ?_⟩
              · unfold ruleOf
                rw [ep, if_neg fun z => hn z.1]
              · rintro ⟨n, hn2, hn3, _⟩
                have : n = a := tl_inj (by
                  rw [h1] at hn2
                  rw [ha]
                  exact (List.append_cancel_right hn2).symm)
                rw [this] at hn3
                exact hn hn3
      | cons c R' =>
        by_cases hc : c = 32
        · subst hc
          have e2 : tl l = (A ++ [58]) ++ 32 :: R' := by rw [hL]; simp
          rw [e2, spl_at1 h32'] at hs
          have e3 : spl [32] 0 [] (32 :: R') = [] :: spl [32] 0 [] R' := spl_at1 (p := []) (by simp)
          rw [e3] at rr
          cases hsl : spS l with
          | nil => rw [hsl] at hs; cases hs
          | cons w0 ws =>
            rw [hsl, List.map_cons] at hs
            injection hs with h1 h2
            cases hsr : spS r with
            | nil => rw [hsr] at rr; cases rr
            | cons v0 vs =>
              rw [hsr, List.map_cons] at rr
              injection rr with g1 g2
              have evs : vs = ws := map_tl_inj (g2.trans h2.symm)
              subst evs
              have ev0 : v0 = Str.empty := tl_inj g1
              refine ⟨w0, vs, rfl, ?_⟩
              by_cases hn : nameB a = true ∧ vs.length ≤ 6 ∧ vs.all symB = true
              · refine .inr ⟨a, ?_, by rw [h1, ha], hn⟩
                unfold ruleOf
                rw [ep]
                simp only [hsr]
                rw [if_pos ⟨hn.1, by decide +kernel, by rw [ev0]; rfl, hn.2.1, hn.2.2⟩]
                rfl
              · refine .inl ⟨?_, ?_⟩
                · unfold ruleOf
                  rw [ep]
                  simp only [hsr]
                  rw [if_neg fun z => hn ⟨z.1, z.2.2.2.1, z.2.2.2.2⟩]
                · rintro ⟨n, hn2, hn3, hn4⟩
                  have : n = a := tl_inj (by
                    rw [h1] at hn2
                    rw [ha]
                    exact (List.append_cancel_right hn2).symm)
                  rw [this] at hn3
                  exact hn ⟨hn3, hn4⟩
        · -- a sign right behind the colon
          have e2 : tl l = (A ++ [58]) ++ c :: R' := by rw [hL]; simp
          have first : ∀ (pp : List Nat), 32 ∉ pp → ∃ q t, spl [32] 0 [] (pp ++ c :: R') = (pp ++ c :: q) :: t := by
            intro pp hpp
            rcases cut_first 32 (c :: R') with z | ⟨p, q, hp, np⟩
            · refine ⟨R', [], spl_no fun m => ?_⟩
              rcases List.mem_append.mp m with m | m
              · exact hpp m
              · exact z m
            · cases p with
              | nil =>
                injection hp with x1 x2
                exact absurd x1 hc
              | cons d p' =>
                injection hp with x1 x2
                subst x1
                refine ⟨p', spl [32] 0 [] q, ?_⟩
                rw [x2]
                have n2 : 32 ∉ pp ++ c :: p' := fun m => (List.mem_append.mp m).elim hpp np
                have := spl_at1 (r := q) n2
                rw [List.append_assoc] at this
                exact this
          obtain ⟨q1, t1, f1⟩ := first (A ++ [58]) h32'
          obtain ⟨q2, t2, f2⟩ := first [] (by simp)
          rw [e2, f1] at hs
          rw [List.nil_append] at f2
          rw [f2, List.nil_append] at rr
          cases hsl : spS l with
          | nil => rw [hsl] at hs; cases hs
          | cons w0 ws =>
            rw [hsl, List.map_cons] at hs
            injection hs with h1 h2
            cases hsr : spS r with
            | nil => rw [hsr] at rr; cases rr
            | cons v0 vs =>
              rw [hsr, List.map_cons] at rr
              injection rr with g1 g2
              refine ⟨w0, ws, rfl, .inl ⟨?_, ?_⟩⟩
              · unfold ruleOf
                rw [ep]
                simp only [hsr]
                rw [if_neg]
                intro z
                have z3 := z.2.2.1
                rw [List.head?_cons] at z3
                have z4 : v0 = Str.empty := Option.some.inj z3
                rw [z4] at g1
                cases g1
              · rintro ⟨n, hn2, hn3, _⟩
                rw [h1] at hn2
                -- the name would hold the colon
                refine name_no hn3 (by decide : 58 < 97) ?_
                have e4 : tl n = (A ++ [58] ++ c :: q1).dropLast := by
                  rw [hn2, List.dropLast_concat]
                rw [e4, List.dropLast_append_of_ne_nil (by simp)]
                exact List.mem_append_left _ (List.mem_append_right _ (List.mem_singleton.mpr rfl))
end Ld

set_option Elab.async false
set_option linter.all false
set_option maxRecDepth 100000
set_option maxHeartbeats 4000000
/-! Grammars as texts, read and written: over codes alone; and as data that is compared. -/
namespace Ld
open PySem PySem.Spec PyProof.Rows L2 TL
/-! ### a word's signs, two ways -/
def bigL : Str := "ABCDEFGHIJKLMNOPQRSTUVWXYZ"
def lowL : Str := "abcdefghijklmnopqrstuvwxyz"
theorem bigL_codes : bigL.cps.toList = [65, 66, 67, 68, 69, 70, 71, 72, 73, 74, 75, 76, 77, 78, 79, 80, 81, 82, 83, 84, 85, 86, 87, 88, 89, 90] := by decide +kernel
theorem lowL_codes : lowL.cps.toList = [97, 98, 99, 100, 101, 102, 103, 104, 105, 106, 107, 108, 109, 110, 111, 112, 113, 114, 115, 116, 117, 118, 119, 120, 121, 122] := by decide +kernel
theorem between_big (c : Nat) : Gc.between "A" "Z" c = decide (c ∈ bigL.cps.toList) := by
  unfold Gc.between
  rw [show ("A" : Str).cps.toList = [65] from by decide +kernel, show ("Z" : Str).cps.toList = [90] from by decide +kernel, bigL_codes]
  rw [Bool.eq_iff_iff]
  simp only [Bool.and_eq_true, Bool.not_eq_true', decide_eq_false_iff_not, decide_eq_true_eq, lt_one, List.mem_cons, List.not_mem_nil, or_false]
  omega
theorem between_low (c : Nat) : Gc.between "a" "z" c = decide (c ∈ lowL.cps.toList) := by
  unfold Gc.between
  rw [show ("a" : Str).cps.toList = [97] from by decide +kernel, show ("z" : Str).cps.toList = [122] from by decide +kernel, lowL_codes]
  rw [Bool.eq_iff_iff]
  simp only [Bool.and_eq_true, Bool.not_eq_true', decide_eq_false_iff_not, decide_eq_true_eq, lt_one, List.mem_cons, List.not_mem_nil, or_false]
  omega
def outs (z l : List Nat) : List Nat := z.filter fun c => !decide (c ∈ l)
theorem outs_more {z l : List Nat} {i c : Nat} (h : z[i]? = some c) : outs (z.take (i + 1)) l = outs (z.take i) l ++ (if c ∈ l then [] else [c]) := by
  unfold outs
  rw [List.take_add_one, h, List.filter_append]
  congr 1
  by_cases e : c ∈ l
  · simp [e]
  · simp [e]
theorem outs_len (z l : List Nat) : (outs z l).length ≤ z.length := List.length_filter_le _ _
theorem all_outs (l m : List Nat) (p : Nat → Bool) (hp : ∀ c, p c = decide (c ∈ m)) : l.all p = decide (outs l m = []) := by
  rw [Bool.eq_iff_iff, List.all_eq_true, decide_eq_true_eq]
  unfold outs
  rw [List.filter_eq_nil_iff]
  constructor
  · intro h c hc
    have h2 := h c hc
    rw [hp] at h2
    rw [h2]
    simp
  · intro h c hc
    have h2 := h c hc
    rw [hp]
    simpa using h2
def sizeB (z : Str) : Bool := decide (1 ≤ (z.length : Int)) && decide ((z.length : Int) ≤ 12)
theorem word_big (z : Str) : wordB z "A" "Z" = (sizeB z && decide (outs (tl z) (tl bigL) = [])) := by
  unfold wordB sizeB
  rw [all_outs _ bigL.cps.toList _ between_big, Bool.and_assoc]
theorem word_low (z : Str) : wordB z "a" "z" = (sizeB z && decide (outs (tl z) (tl lowL) = [])) := by
  unfold wordB sizeB
  rw [all_outs _ lowL.cps.toList _ between_low, Bool.and_assoc]
/-! ### lines and texts -/
def lineT (r : Rule) : List Nat := tl r.1 ++ 58 :: r.2.flatMap (fun s => 32 :: tl s)
def writeT (G : List Rule) : List Nat := G.flatMap (fun r => lineT r ++ [10])
def lineS (r : Rule) : Str := r.1 ++ (":" : Str) ++ Txt.join "" (r.2.map (fun s => (" " : Str) ++ s)) ++ ("\n" : Str)
def writeS (G : List Rule) : Str := Txt.join "" (G.map lineS)
theorem nil_tl : tl ("" : Str) = [] := by decide +kernel
theorem joinL_nil : ∀ l : List (List Nat), joinL [] l = l.flatten
  | [] => rfl
  | [p] => by simp [joinL]
  | p :: q :: r => by
    show p ++ ([] ++ joinL [] (q :: r)) = _
    rw [joinL_nil (q :: r)]
    simp
theorem join0_tl (parts : List Str) : tl (Txt.join "" parts) = parts.flatMap tl := by
  rw [join_eq, tl_join, nil_tl, joinL_nil, List.flatMap_def]
theorem lineS_tl (r : Rule) : tl (lineS r) = lineT r ++ [10] := by
  unfold lineS lineT
  rw [tl_append, tl_append, tl_append, join0_tl, colon_tl, nl_tl, List.flatMap_map]
  have : (fun s : Str => tl ((" " : Str) ++ s)) = fun s => 32 :: tl s := by
    funext s
    rw [tl_append, space_tl]
    rfl
  rw [this]
  simp
theorem writeS_tl (G : List Rule) : tl (writeS G) = writeT G := by
  unfold writeS writeT
  rw [join0_tl, List.flatMap_map]
  congr 1
  funext r
  exact lineS_tl r
theorem joinL_space : ∀ (l : List (List Nat)) (p : List Nat), joinL [32] (p :: l) = p ++ l.flatMap (fun s => 32 :: s)
  | [], p => by simp [joinL]
  | q :: r, p => by
    show p ++ ([32] ++ joinL [32] (q :: r)) = _
    rw [joinL_space r q]
    simp
theorem law_line (r : Rule) : Txt.join " " ((r.1 ++ (":" : Str)) :: r.2) ++ ("\n" : Str) = lineS r := by
  refine tl_inj ?_
  rw [tl_append, join_eq, tl_join, List.map_cons, space_tl, joinL_space, lineS_tl, tl_append, colon_tl, nl_tl, List.flatMap_map]
  unfold lineT
  simp
theorem writeS_nil : writeS [] = ("" : Str) := by decide +kernel
theorem writeS_snoc (G : List Rule) (r : Rule) : writeS (G ++ [r]) = writeS G ++ Txt.join " " ((r.1 ++ (":" : Str)) :: r.2) ++ ("\n" : Str) := by
  refine tl_inj ?_
  have e := law_line r
  have e2 := congrArg tl e
  rw [tl_append, lineS_tl] at e2
  rw [writeS_tl, tl_append, tl_append, writeS_tl, List.append_assoc, e2]
  unfold writeT
  simp
/-! ### the reading -/
def GoodR (r : Rule) : Prop := nameB r.1 = true ∧ r.2.length ≤ 6 ∧ r.2.all symB = true
theorem kind_codes {z : Str} (h : kindB z = true) : ∀ c ∈ tl z, 65 ≤ c ∧ c ≤ 90 := by
  intro c hc
  unfold kindB wordB at h
  rw [Bool.and_eq_true, Bool.and_eq_true, Bool.and_eq_true] at h
  have q := List.all_eq_true.mp h.1.2.2 c hc
  unfold Gc.between at q
  rw [show ("A" : Str).cps.toList = [65] from by decide +kernel, show ("Z" : Str).cps.toList = [90] from by decide +kernel] at q
  simp only [Bool.and_eq_true, Bool.not_eq_true', decide_eq_false_iff_not, lt_one] at q
  omega
theorem sym_codes {z : Str} (h : symB z = true) : ∀ c ∈ tl z, 65 ≤ c ∧ c ≤ 122 := by
  intro c hc
  unfold symB at h
  rw [Bool.or_eq_true] at h
  rcases h with h | h
  · have := kind_codes h c hc
    omega
  · have := name_codes h c hc
    omega
theorem spl_syms : ∀ (ss : List (List Nat)), (∀ p ∈ ss, 32 ∉ p) → spl [32] 0 [] (ss.flatMap fun s => 32 :: s) = [] :: ss
  | [], _ => spl_no (p := []) (fun m => nomatch m)
  | q :: r, h => by
    have e : ((q :: r).flatMap fun s => 32 :: s) = [] ++ 32 :: joinL [32] (q :: r) := by
      rw [joinL_space]
      simp
    rw [e, spl_at1 (by simp), spl_join (by simp) h]
theorem rule_back {l : Str} {r : Rule} (h : tl l = lineT r) (g : GoodR r) : ruleOf l = some r := by
  obtain ⟨rest, hr⟩ := str_of (r.2.flatMap fun s => 32 :: tl s)
  have el : l = r.1 ++ (":" : Str) ++ rest := tl_inj (by rw [h, tl_append, tl_append, hr, colon_tl]; unfold lineT; simp)
  have ep : Txt.partition l ":" = (r.1, (":" : Str), rest) := by
    rw [el]
    exact partition_app colon_tl (name_no g.1 (by decide))
  have es : spS rest = Str.empty :: r.2 := by
    refine map_tl_inj ?_
    rw [spS_tl, hr, List.map_cons]
    have := spl_syms (r.2.map tl) fun p hp => by
      obtain ⟨s, hs, rfl⟩ := List.mem_map.mp hp
      intro z
      have := sym_codes (List.all_eq_true.mp g.2.2 s hs) 32 z
      omega
    rw [List.flatMap_map] at this
    rw [this]
    rfl
  unfold ruleOf
  rw [ep]
  simp only [es]
  rw [if_pos ⟨g.1, by decide +kernel, rfl, g.2.1, g.2.2⟩]
  rfl
theorem rule_good {l : Str} {r : Rule} (h : ruleOf l = some r) : GoodR r := by
  unfold ruleOf at h
  split at h
  · rename_i c
    obtain rfl := Option.some.inj h
    exact ⟨c.1, c.2.2.2.1, c.2.2.2.2⟩
  · cases h
inductive Rd
  | line (k : Nat)
  | taken (k : Nat)
  | large (k : Nat)
  | good (G : List Rule)
def rdGo : Nat → List Rule → List Str → Rd
  | _, G, [] => .good G
  | k, G, l :: ls => match ruleOf l with
    | none => .line k
    | some r => if r ∈ G then .taken k else if 24 ≤ k then .large k else rdGo (k + 1) (G ++ [r]) ls
def rdEnd (n : Nat) (u : Str) : Rd → Rd
  | .good G => if u ≠ "" ∨ n = 0 then .line n else .good G
  | x => x
/-- what reading a text gives: of its parts at newlines, the last one apart -/
def rd (ls : List Str) : Rd := rdEnd ls.dropLast.length (ls.getLast?.getD "") (rdGo 0 [] ls.dropLast)
def linesOf (x : Str) : List Str := Txt.split x "\n"
theorem linesOf_tl (x : Str) : (linesOf x).map tl = spl [10] 0 [] (tl x) := by
  have h := split_spl x "\n" (by rw [nl_tl]; simp) (kind_nl x)
  rw [nl_tl] at h
  exact h
theorem linesOf_ne (x : Str) : linesOf x ≠ [] := fun e => by
  have h := linesOf_tl x
  obtain ⟨p, r, q, _⟩ := spl_ne 10 (tl x)
  rw [e, q] at h
  cases h
theorem spl_lines : ∀ G : List Rule, (∀ r ∈ G, 10 ∉ lineT r) → spl [10] 0 [] (writeT G) = G.map lineT ++ [[]]
  | [], _ => spl_no (p := []) (fun m => nomatch m)
  | r :: G, h => by
    have e : writeT (r :: G) = lineT r ++ 10 :: writeT G := by
      unfold writeT
      simp
    rw [e, spl_at1 (h r List.mem_cons_self), spl_lines G fun q hq => h q (List.mem_cons_of_mem _ hq)]
    rfl
theorem line_no10 {r : Rule} (g : GoodR r) : 10 ∉ lineT r := by
  intro m
  unfold lineT at m
  rcases List.mem_append.mp m with m | m
  · exact name_no g.1 (by decide) m
  · rcases List.mem_cons.mp m with m | m
    · cases m
    · obtain ⟨s, hs, q⟩ := List.mem_flatMap.mp m
      rcases List.mem_cons.mp q with q | q
      · cases q
      · have := sym_codes (List.all_eq_true.mp g.2.2 s hs) 10 q
        omega
def lineO (r : Rule) : Str := ⟨(lineT r).toArray⟩
theorem lines_back {x : Str} {G : List Rule} (h : tl x = writeT G) (g : ∀ r ∈ G, GoodR r) : linesOf x = G.map lineO ++ [("" : Str)] := by
  refine map_tl_inj ?_
  rw [linesOf_tl, h, spl_lines G fun r hr => line_no10 (g r hr), List.map_append, List.map_map]
  rfl
theorem rdGo_back : ∀ (G A : List Rule), (∀ r ∈ G, GoodR r) → (A ++ G).Nodup → A.length + G.length ≤ 24 → rdGo A.length A (G.map lineO) = .good (A ++ G)
  | [], A, _, _, _ => by
    rw [List.append_nil]
    rfl
  | r :: G, A, g, nd, h => by
    rw [List.map_cons]
    unfold rdGo
    rw [rule_back (l := lineO r) (r := r) rfl (g r List.mem_cons_self)]
    have h2 : r ∉ A := fun m => by
      rw [List.nodup_append] at nd
      exact nd.2.2 r m r List.mem_cons_self rfl
    have h3 : A.length + G.length + 1 ≤ 24 := by
      rw [List.length_cons] at h
      omega
    simp only
    rw [if_neg h2, if_neg (by omega)]
    have e : A ++ r :: G = (A ++ [r]) ++ G := by simp
    have l : A.length + 1 = (A ++ [r]).length := by simp
    rw [e, l]
    refine rdGo_back G (A ++ [r]) (fun q hq => g q (List.mem_cons_of_mem _ hq)) (by rw [← e]; exact nd) ?_
    rw [← l]
    omega
/-- THE READ-BACK -/
theorem rd_back {G : List Rule} (g : ∀ r ∈ G, GoodR r) (nd : G.Nodup) (n0 : G ≠ []) (h : G.length ≤ 24) : rd (linesOf (writeS G)) = .good G := by
  rw [lines_back (writeS_tl G) g]
  unfold rd
  rw [List.dropLast_concat, List.getLast?_concat]
  have := rdGo_back G [] g nd (by simpa using h)
  rw [List.length_nil, List.nil_append] at this
  rw [this]
  unfold rdEnd
  simp only
  rw [if_neg]
  rintro (z | z)
  · exact z rfl
  · rw [List.length_map] at z
    exact n0 (List.eq_nil_of_length_eq_zero z)
theorem rd_empty : rd (linesOf "") = .line 0 := by
  have e : linesOf "" = [("" : Str)] := by
    refine map_tl_inj ?_
    rw [linesOf_tl, nil_tl, spl_no (by simp)]
    rfl
  rw [e]
  unfold rd rdEnd rdGo
  simp
/-! ### lengths of parts -/
theorem spl_bound (s : Nat) : ∀ (n : Nat) (L : List Nat), L.length ≤ n → ∀ p ∈ spl [s] 0 [] L, p.length ≤ L.length
  | n, L, h => by
    rcases cut_first s L with c | ⟨p, r, rfl, c⟩
    · rw [spl_no c]
      intro q hq
      rw [List.mem_singleton.mp hq]
      exact Nat.le_refl _
    · rw [spl_at1 c]
      intro q hq
      rw [List.length_append, List.length_cons] at h ⊢
      rcases List.mem_cons.mp hq with z | z
      · rw [z]
        omega
      · cases n with
        | zero => omega
        | succ m =>
          have := spl_bound s m r (by omega) q z
          omega
theorem spl_count (s : Nat) : ∀ (n : Nat) (L : List Nat), L.length ≤ n → (spl [s] 0 [] L).length ≤ L.length + 1
  | n, L, h => by
    rcases cut_first s L with c | ⟨p, r, rfl, c⟩
    · rw [spl_no c]
      show 1 ≤ _
      omega
    · rw [spl_at1 c]
      rw [List.length_append, List.length_cons] at h ⊢
      cases n with
      | zero => omega
      | succ m =>
        have := spl_count s m r (by omega)
        rw [List.length_cons]
        omega
theorem map_len {l : List Str} {p : Str} (h : p ∈ l) {n : Nat} (b : ∀ q ∈ l.map tl, q.length ≤ n) : p.length ≤ n := by
  rw [len_tl]
  exact b _ (List.mem_map.mpr ⟨p, h, rfl⟩)
theorem spS_len {x p : Str} (h : p ∈ spS x) : p.length ≤ x.length := map_len h (by rw [spS_tl, len_tl]; exact spl_bound 32 _ _ (Nat.le_refl _))
theorem lines_len {x p : Str} (h : p ∈ linesOf x) : p.length ≤ x.length := map_len h (by rw [linesOf_tl, len_tl]; exact spl_bound 10 _ _ (Nat.le_refl _))
theorem spS_count (x : Str) : (spS x).length ≤ x.length + 1 := by
  have := spl_count 32 _ (tl x) (Nat.le_refl _)
  rw [← spS_tl, List.length_map, ← len_tl] at this
  exact this
theorem lines_count (x : Str) : (linesOf x).length ≤ x.length + 1 := by
  have := spl_count 10 _ (tl x) (Nat.le_refl _)
  rw [← linesOf_tl, List.length_map, ← len_tl] at this
  exact this
theorem spS_cons (x : Str) : ∃ w ws, spS x = w :: ws := by
  cases h : spS x with
  | cons w ws => exact ⟨w, ws, rfl⟩
  | nil =>
    obtain ⟨p, r, e, _⟩ := spl_ne 32 (tl x)
    have := spS_tl x
    rw [h, e] at this
    cases this
theorem part_len (z : Str) : (Txt.partition z ":").1.length ≤ z.length ∧ (Txt.partition z ":").2.2.length ≤ z.length := by
  rcases cut_first 58 (tl z) with h | ⟨A, R, hL, hA⟩
  · rw [partition_none colon_tl h]
    exact ⟨Nat.le_refl _, Nat.zero_le _⟩
  · obtain ⟨a, ha⟩ := str_of A
    obtain ⟨r, hr⟩ := str_of R
    have el : z = a ++ (":" : Str) ++ r := tl_inj (by rw [tl_append, tl_append, ha, hr, colon_tl, hL]; simp)
    have ep : Txt.partition z ":" = (a, (":" : Str), r) := by
      rw [el]
      exact partition_app colon_tl (by rw [ha]; exact hA)
    rw [ep, len_tl z, hL, List.length_append, List.length_cons, len_tl a, len_tl r, ha, hr]
    omega
theorem cutV_tail (x : V) (xs : List V) : cutV (x :: xs) (some 1) none = xs := by
  unfold cutV HT.sIx
  simp only [List.length_cons]
  have e : min (1 : Int).toNat (xs.length + 1) = 1 := by
    have : (1 : Int).toNat = 1 := rfl
    omega
  rw [if_neg (by decide)]
  rw [e]
  simp
/-! ### as data -/
def ruleD (r : Rule) : PyData := .tuple [.str r.1, .list (r.2.map PyData.str)]
def gD (G : List Rule) : PyData := .list (G.map ruleD)
theorem strs_eqv : ∀ xs ys : List Str, PyData.eqvAll (xs.map PyData.str) (ys.map PyData.str) = decide (xs = ys)
  | [], [] => by simp [PyData.eqvAll]
  | [], _ :: _ => by simp [PyData.eqvAll]
  | _ :: _, [] => by simp [PyData.eqvAll]
  | x :: xs, y :: ys => by
    rw [List.map_cons, List.map_cons, PyData.eqvAll, strs_eqv xs ys, PyData.eqv, Bool.eq_iff_iff]
    simp
theorem ruleD_eqv (r q : Rule) : PyData.eqv (ruleD r) (ruleD q) = decide (r = q) := by
  obtain ⟨a, s⟩ := r
  obtain ⟨b, t⟩ := q
  unfold ruleD
  rw [PyData.eqv, PyData.eqvAll, PyData.eqvAll, PyData.eqvAll, PyData.eqv, PyData.eqv, strs_eqv, Bool.eq_iff_iff]
  simp
theorem ruleD_in (G : List Rule) (r : Rule) : ((G.map ruleD).any fun z => PyData.eqv z (ruleD r)) = decide (r ∈ G) := by
  rw [Bool.eq_iff_iff, List.any_eq_true, decide_eq_true_eq]
  constructor
  · rintro ⟨z, hz, e⟩
    obtain ⟨q, hq, rfl⟩ := List.mem_map.mp hz
    rw [ruleD_eqv, decide_eq_true_eq] at e
    rw [← e]
    exact hq
  · intro h
    exact ⟨ruleD r, List.mem_map.mpr ⟨r, h, rfl⟩, by rw [ruleD_eqv]; simp⟩
theorem strOk_sym {z : Str} (h : symB z = true) : PyData.strOk z = true := by
  unfold PyData.strOk
  rw [Array.all_eq_true']
  intro c hc
  have := sym_codes h c (by simpa using hc)
  exact decide_eq_true (by omega)
theorem strs_lay : ∀ {ss : List Str}, (∀ s ∈ ss, PyData.strOk s = true) → PyData.canLayAll0 (ss.map PyData.str) = true
  | [], _ => by simp [PyData.canLayAll0]
  | s :: ss, h => by
    rw [List.map_cons, PyData.canLayAll0, PyData.canLay0, h s List.mem_cons_self, strs_lay fun z hz => h z (List.mem_cons_of_mem _ hz)]
    rfl
theorem strs_depth : ∀ ss : List Str, PyData.depthAll (ss.map PyData.str) ≤ 0
  | [] => by simp [PyData.depthAll]
  | s :: ss => by
    have := strs_depth ss
    simp only [List.map_cons, PyData.depthAll, PyData.depth]
    omega
theorem rule_lay {r : Rule} (g : GoodR r) : (ruleD r).canLay0 = true := by
  have h1 : PyData.strOk r.1 = true := strOk_sym (by unfold symB; rw [g.1, Bool.or_true])
  have h2 := strs_lay (ss := r.2) fun s hs => strOk_sym (List.all_eq_true.mp g.2.2 s hs)
  simp [ruleD, PyData.canLay0, PyData.canLayAll0, h1, h2]
theorem rule_depth (r : Rule) : (ruleD r).depth ≤ 2 := by
  have h := strs_depth r.2
  simp only [ruleD, PyData.depth, PyData.depthAll]
  omega
theorem rules_lay : ∀ {G : List Rule}, (∀ r ∈ G, GoodR r) → PyData.canLayAll0 (G.map ruleD) = true
  | [], _ => by simp [PyData.canLayAll0]
  | r :: G, g => by
    rw [List.map_cons, PyData.canLayAll0, rule_lay (g r List.mem_cons_self), rules_lay fun q hq => g q (List.mem_cons_of_mem _ hq)]
    rfl
theorem rules_depth : ∀ G : List Rule, PyData.depthAll (G.map ruleD) ≤ 2
  | [] => by simp [PyData.depthAll]
  | r :: G => by
    have h1 := rules_depth G
    have h2 := rule_depth r
    simp only [List.map_cons, PyData.depthAll]
    omega
theorem shaped_mk {d : PyData} (h1 : d.canLay0 = true) (h2 : d.depth ≤ 64) : SeqAt.shaped d = true := by
  unfold SeqAt.shaped
  rw [h1, decide_eq_true h2]
  rfl
theorem rule_shaped {r : Rule} (g : GoodR r) : SeqAt.shaped (ruleD r) = true := shaped_mk (rule_lay g) (by have := rule_depth r; omega)
theorem gD_shaped {G : List Rule} (g : ∀ r ∈ G, GoodR r) : SeqAt.shaped (gD G) = true := shaped_mk (by unfold gD; rw [PyData.canLay0]; exact rules_lay g) (by
  have := rules_depth G
  unfold gD
  simp only [PyData.depth]
  omega)
theorem eqv_self {d : PyData} (h : SeqAt.shaped d = true) : PyData.eqv d d = true := SeqAt.eqv_refl d (SeqAt.canLay_of_shaped h)
/-! ### what a reading gives, as data -/
def rdD : Rd → PyData
  | .line k => .tuple [.str "line", .int k]
  | .taken k => .tuple [.str "taken", .int k]
  | .large k => .tuple [.str "large", .int k]
  | .good G => .tuple [.str "grammar", gD G]
def RdOk : Rd → Prop
  | .good G => ∀ r ∈ G, GoodR r
  | _ => True
theorem rd_shaped {x : Rd} (h : RdOk x) : SeqAt.shaped (rdD x) = true := by
  cases x with
  | line k => exact shaped_mk (by simp [rdD, PyData.canLay0, PyData.canLayAll0]; decide +kernel) (by simp [rdD, PyData.depth, PyData.depthAll])
  | taken k => exact shaped_mk (by simp [rdD, PyData.canLay0, PyData.canLayAll0]; decide +kernel) (by simp [rdD, PyData.depth, PyData.depthAll])
  | large k => exact shaped_mk (by simp [rdD, PyData.canLay0, PyData.canLayAll0]; decide +kernel) (by simp [rdD, PyData.depth, PyData.depthAll])
  | good G =>
    have h1 : (gD G).canLay0 = true := SeqAt.canLay_of_shaped (gD_shaped h)
    have h2 : (gD G).depth ≤ 64 - 1 := by
      have := rules_depth G
      unfold gD
      simp only [PyData.depth]
      omega
    refine shaped_mk ?_ ?_
    · simp only [rdD, PyData.canLay0, PyData.canLayAll0, h1, Bool.and_true]
      decide +kernel
    · simp only [rdD, PyData.depth, PyData.depthAll]
      omega
end Ld

set_option Elab.async false
set_option linter.all false
set_option maxRecDepth 100000
set_option maxHeartbeats 4000000
/-! What stands stands, tables may grow; grammars in the heap. -/
namespace Ld
open PySem PySem.Spec PyProof.Rows L2 TL
/-- what stood stands, but that tables stay tables -/
def Up (H H2 : Hp) : Prop := ∀ b o, H b = some o → H2 b = some o ∨ ∃ ps qs, o = .tbl ps ∧ H2 b = some (.tbl qs)
theorem Up.refl (H : Hp) : Up H H := fun _ _ h => .inl h
theorem Up.trans {A B C : Hp} (u : Up A B) (v : Up B C) : Up A C := fun b o h => by
  rcases u b o h with e | ⟨ps, qs, rfl, e⟩
  · exact v b o e
  · rcases v b _ e with e2 | ⟨_, q2, _, e2⟩
    · exact .inr ⟨ps, qs, rfl, e2⟩
    · exact .inr ⟨ps, q2, rfl, e2⟩
theorem Up.dom {A B : Hp} (u : Up A B) {b : Addr} (h : B b = none) : A b = none := by
  cases e : A b with
  | none => rfl
  | some o =>
    rcases u b o e with e2 | ⟨_, _, _, e2⟩
    · rw [h] at e2; cases e2
    · rw [h] at e2; cases e2
theorem Up.lst {A B : Hp} (u : Up A B) {a : Addr} {xs : List V} (h : A a = some (.lst xs)) : B a = some (.lst xs) := by
  rcases u a _ h with e | ⟨_, _, z, _⟩
  · exact e
  · cases z
theorem Up.tup {A B : Hp} (u : Up A B) {a : Addr} {xs : List V} (h : A a = some (.tup xs)) : B a = some (.tup xs) := by
  rcases u a _ h with e | ⟨_, _, z, _⟩
  · exact e
  · cases z
theorem Up.xd {A B : Hp} (u : Up A B) {a : Addr} {fs : List (Str × V)} (h : A a = some (.xd fs)) : B a = some (.xd fs) := by
  rcases u a _ h with e | ⟨_, _, z, _⟩
  · exact e
  · cases z
theorem Up.seq {K : PySem.W.Frag} {A B : Hp} (u : Up A B) {a : Addr} {xs : List V} (h : SqL K A a xs) : SqL K B a xs := by
  rcases h with h | h
  · left
    rcases h with h | ⟨o, h⟩
    · exact .inl (u.lst h)
    · right
      refine ⟨o, ?_⟩
      rcases u a _ h with e | ⟨_, _, z, _⟩
      · exact e
      · cases z
  · exact .inr h
theorem Up.seqT {K : PySem.W.Frag} {A B : Hp} (u : Up A B) {a : Addr} {xs : List V} (h : SqT K A a xs) : SqT K B a xs := by
  rcases h with h | h
  · left
    rcases h with h | ⟨o, h⟩
    · exact .inl (u.tup h)
    · right
      refine ⟨o, ?_⟩
      rcases u a _ h with e | ⟨_, _, z, _⟩
      · exact e
      · cases z
  · exact .inr h
theorem Up.of_same {A B : Hp} (h : Same A B) : Up A B := fun b o e => .inl (h b o e)
theorem Up.upd {A B : Hp} (u : Up A B) {p : Addr} {o : HO} (n : A p = none) : Up A (upd B p o) := fun b x e => by
  have ne : b ≠ p := fun z => by rw [z, n] at e; cases e
  rw [upd_ne ne]
  exact u b x e
theorem Up.put (A : Hp) {p : Addr} {o : HO} (n : A p = none) : Up A (L2.upd A p o) := (Up.refl A).upd n
theorem Up.tabbed {A B : Hp} {T : Addr} (t : GxR.TabG A T) (h : GxR.Tabbed T A B) : Up A B := fun b o e => by
  by_cases z : b = T
  · subst z
    obtain ⟨ps, e1, _⟩ := t
    obtain ⟨qs, e2, _⟩ := h.1
    rw [e1] at e
    cases e
    exact .inr ⟨ps, qs, rfl, e2⟩
  · rw [← h.2 b z] at e
    exact .inl e
/-- the two tables -/
def Tb (T1 T2 : Addr) (H : Hp) : Prop := GxR.TabG H T1 ∧ GxR.TabG H T2
theorem tabG_upd {H : Hp} {T p : Addr} {o : HO} (h : GxR.TabG H T) (n : p ≠ T) : GxR.TabG (upd H p o) T := by
  obtain ⟨ps, e, t⟩ := h
  exact ⟨ps, by rw [upd_ne (Ne.symm n)]; exact e, t⟩
theorem tabG_new {H : Hp} {T p : Addr} {o : HO} (h : GxR.TabG H T) (n : H p = none) : GxR.TabG (upd H p o) T := tabG_upd h fun z => by
  obtain ⟨ps, e, _⟩ := h
  rw [z, e] at n
  cases n
theorem tabG_in {H : Hp} {T p : Addr} {o u : HO} (h : GxR.TabG H T) (n : H p = some u) (k : ∀ ps, u ≠ .tbl ps) : GxR.TabG (upd H p o) T := tabG_upd h fun z => by
  obtain ⟨ps, e, _⟩ := h
  rw [z, e] at n
  cases n
  exact k _ rfl
theorem Tb.new {T1 T2 : Addr} {H : Hp} (t : Tb T1 T2 H) {p : Addr} {o : HO} (n : H p = none) : Tb T1 T2 (upd H p o) := ⟨tabG_new t.1 n, tabG_new t.2 n⟩
theorem Tb.lst {T1 T2 : Addr} {H : Hp} (t : Tb T1 T2 H) {p : Addr} {o : HO} {xs : List V} (n : H p = some (.lst xs)) : Tb T1 T2 (upd H p o) := ⟨tabG_in t.1 n (fun _ z => by cases z), tabG_in t.2 n fun _ z => by cases z⟩
theorem tabbed_other {H H2 : Hp} {T T2 : Addr} (t : GxR.TabG H T2) (h : GxR.Tabbed T H H2) : GxR.TabG H2 T2 := by
  by_cases z : T2 = T
  · rw [z]
    exact h.1
  · obtain ⟨ps, e, k⟩ := t
    exact ⟨ps, by rw [h.2 T2 z]; exact e, k⟩
theorem Tb.on1 {T1 T2 : Addr} {H H2 : Hp} (t : Tb T1 T2 H) (h : GxR.Tabbed T1 H H2) : Tb T1 T2 H2 := ⟨h.1, tabbed_other t.2 h⟩
theorem Tb.on2 {T1 T2 : Addr} {H H2 : Hp} (t : Tb T1 T2 H) (h : GxR.Tabbed T2 H H2) : Tb T1 T2 H2 := ⟨tabbed_other t.1 h, h.1⟩
/-! ### what is new -/
def News (A B : Hp) : Hp := fun a => match A a with
  | none => B a
  | some _ => none
theorem news_of {A B : Hp} {a : Addr} (h : A a = none) : News A B a = B a := by
  unfold News
  rw [h]
theorem news_at {A B : Hp} {a : Addr} {o : HO} (h : News A B a = some o) : A a = none ∧ B a = some o := by
  unfold News at h
  cases e : A a with
  | none =>
    rw [e] at h
    exact ⟨rfl, h⟩
  | some _ =>
    rw [e] at h
    cases h
theorem news_same {A B : Hp} : Same (News A B) B := fun _ _ h => (news_at h).2
theorem News.up {A B C : Hp} (u : Up B C) : Up (News A B) (News A C) := fun b o h => by
  obtain ⟨n, e⟩ := news_at h
  rw [news_of n]
  exact u b o e
theorem News.less {A A2 B : Hp} (d : ∀ b, A2 b = none → A b = none) : Same (News A2 B) (News A B) := fun b o h => by
  obtain ⟨n, e⟩ := news_at h
  rw [news_of (d b n)]
  exact e
theorem News.put {A B : Hp} {p : Addr} {o u : HO} (h : A p = some u) : News A (upd B p o) = News A B := by
  funext b
  unfold News
  cases e : A b with
  | some _ => rfl
  | none =>
    have : b ≠ p := fun z => by rw [z, h] at e; cases e
    simp only
    rw [upd_ne this]
/-! ### rules and grammars in the heap -/
def RuleA (H : Hp) (v : V) (r : Rule) : Prop := ∃ t l, v = .ref t ∧ H t = some (.tup [.str r.1, .ref l]) ∧ H l = some (.lst (r.2.map V.str))
theorem RuleA.up {A B : Hp} (u : Up A B) {v : V} {r : Rule} (h : RuleA A v r) : RuleA B v r := by
  obtain ⟨t, l, e, h1, h2⟩ := h
  exact ⟨t, l, e, u.tup h1, u.lst h2⟩
def GrA (H : Hp) : List V → List Rule → Prop
  | [], [] => True
  | v :: vs, r :: G => RuleA H v r ∧ GrA H vs G
  | _, _ => False
theorem GrA.up {A B : Hp} (u : Up A B) : ∀ {vs : List V} {G : List Rule}, GrA A vs G → GrA B vs G
  | [], [], _ => True.intro
  | _ :: _, _ :: _, h => ⟨h.1.up u, h.2.up u⟩
  | [], _ :: _, h => h.elim
  | _ :: _, [], h => h.elim
theorem GrA.len {A : Hp} : ∀ {vs : List V} {G : List Rule}, GrA A vs G → vs.length = G.length
  | [], [], _ => rfl
  | _ :: _, _ :: _, h => by rw [List.length_cons, List.length_cons, h.2.len]
  | [], _ :: _, h => h.elim
  | _ :: _, [], h => h.elim
theorem GrA.get {A : Hp} : ∀ {vs : List V} {G : List Rule} {i : Nat} {v : V}, GrA A vs G → vs[i]? = some v → ∃ r, G[i]? = some r ∧ RuleA A v r
  | _ :: _, r :: _, 0, _, h, e => by
    cases e
    exact ⟨r, rfl, h.1⟩
  | _ :: _, _ :: _, i + 1, _, h, e => h.2.get (i := i) e
  | [], _, _, _, _, e => by cases e
  | _ :: _, [], _, _, h, _ => h.elim
theorem GrA.snoc {A : Hp} : ∀ {vs : List V} {G : List Rule} {v : V} {r : Rule}, GrA A vs G → RuleA A v r → GrA A (vs ++ [v]) (G ++ [r])
  | [], [], _, _, _, q => ⟨q, True.intro⟩
  | _ :: _, _ :: _, _, _, h, q => ⟨h.1, h.2.snoc q⟩
  | [], _ :: _, _, _, h, _ => h.elim
  | _ :: _, [], _, _, h, _ => h.elim
def GraA (H : Hp) (g : Addr) (G : List Rule) : Prop := ∃ vs, H g = some (.lst vs) ∧ GrA H vs G
theorem GraA.up {A B : Hp} (u : Up A B) {g : Addr} {G : List Rule} (h : GraA A g G) : GraA B g G := by
  obtain ⟨vs, e, q⟩ := h
  exact ⟨vs, u.lst e, q.up u⟩
theorem dp_strs {K : PySem.W.Frag} {H : Hp} : ∀ xs : List Str, DpAll K H (xs.map V.str) (xs.map PyData.str)
  | [] => .nil
  | x :: xs => .cons (.str x) (dp_strs xs)
theorem RuleA.dp {K : PySem.W.Frag} {H : Hp} {v : V} {r : Rule} (h : RuleA H v r) : Dp K H v (ruleD r) := by
  obtain ⟨t, l, rfl, h1, h2⟩ := h
  exact .tup (SqT.of h1) (.cons (.str _) (.cons (.lst (SqL.of h2) (dp_strs _)) .nil))
theorem GrA.dp {K : PySem.W.Frag} {H : Hp} : ∀ {vs : List V} {G : List Rule}, GrA H vs G → DpAll K H vs (G.map ruleD)
  | [], [], _ => .nil
  | _ :: _, _ :: _, h => .cons h.1.dp h.2.dp
  | [], _ :: _, h => h.elim
  | _ :: _, [], h => h.elim
theorem GraA.dp {K : PySem.W.Frag} {H : Hp} {g : Addr} {G : List Rule} (h : GraA H g G) : Dp K H (.ref g) (gD G) := by
  obtain ⟨vs, e, q⟩ := h
  exact .lst (SqL.of e) q.dp
/-- grammars that a law hands in -/
def GoodG (most : Nat) (G : List Rule) : Prop := (∀ r ∈ G, GoodR r) ∧ G.Nodup ∧ G ≠ [] ∧ G.length ≤ most
end Ld

set_option Elab.async false
set_option linter.all false
set_option maxRecDepth 100000
set_option maxHeartbeats 4000000
/-! A generator expression whose element may call defs (and make generators of its own): first over states alone. -/
namespace Gn
open PySem PySem.Spec PyProof.Rows L2
section
variable {prog : Program} {w : World} {A : Around} {elt iter : Expr} {x : Str} {px pos : Pos} {scope : Scope} {it : Addr} {cenv : Env} {n : Nat} {J : Nat → Shared → Prop} {Fn : Shared → Prop} {pb : Nat → Bool}
/-- the code of the block's turn -/
abbrev turnCode (elt iter : Expr) (x : Str) (px pos : Pos) (scope : Scope) (it : Addr) (cenv : Env) : Code := .compLoop (.GeneratorExp elt [⟨.Name x px, iter, [], 0⟩] scope pos) 0 (.ref it) .none cenv
abbrev startCode (elt iter : Expr) (x : Str) (px pos : Pos) (scope : Scope) (it : Addr) (cenv : Env) : Code := .compStart (.GeneratorExp elt [⟨.Name x px, iter, [], 0⟩] scope pos) 0 (.ref it) .none cenv
/-- J i: the i-th turn is about to begin; it holds whatever the table of generators, as long as none is to be cleaned up -/
structure Core (prog : Program) (w : World) (A : Around) (elt iter : Expr) (x : Str) (px pos : Pos) (scope : Scope) (it : Addr) (cenv : Env) (n : Nat) (J : Nat → Shared → Prop) (Fn : Shared → Prop) (pb : Nat → Bool) : Prop where
  co : cenv.scope.isCoroutine = false
  any : ∀ i s g' t', J i s → AllBare g' → J i { s with gens := g', toks := t' }
  bare : ∀ i s, J i s → AllBare s.gens
  self : ∀ (B : Around) (s : Shared) (Q : Value → Shared → Prop) (E : Value → Shared → Prop), J 0 s → Q (.ref it) s → wpAny (model prog w) B (pyIter (.ref it)) Q E s
  done : ∀ s, J n s → wpAny (model prog w) (A.over (turnCode elt iter x px pos scope it cenv) []) (pyNext (.ref it)) (fun r s' => r = none ∧ Fn s') (fun _ _ => False) s
  turn : ∀ i s, i < n → J i s → wpAny (model prog w) (A.over (turnCode elt iter x px pos scope it cenv) []) (pyNext (.ref it)) (fun r s1 => ∃ u, r = some u ∧
    wpAny (model prog w) (A.over (turnCode elt iter x px pos scope it cenv) []) (letOwnedTupleGo (.Name x px) (.ref it) u) (fun _ s0 =>
      wpAny (model prog w) (A.over (turnCode elt iter x px pos scope it cenv) []) (assign (.Name x px) cenv u) (fun _ s2 =>
        wpAny (model prog w) (A.over (turnCode elt iter x px pos scope it cenv) []) (eval elt cenv) (fun y s3 => y = .bool (pb i) ∧ J (i + 1) s3) (fun _ _ => False) s2) (fun _ _ => False) s0) (fun _ _ => False) s1) (fun _ _ => False) s
def endJ (Fn : Shared → Prop) : GenEnd := fun m s₀ r s₁ => r = .ok .next ∧ (m = 0 ∧ Fn s₁)
def outJ (n : Nat) (J : Nat → Shared → Prop) (pb : Nat → Bool) : Protocol := fun m s₀ v s kap => v = .bool (pb (n - 1 - m)) ∧ m < n ∧ J (n - m) s ∧ ∀ s'', J (n - m) s'' → kap (.send .none) s''
theorem seg_turns (C : Core prog w A elt iter x px pos scope it cenv n J Fn pb) : ∀ (k i : Nat) (s₀ s : Shared), n - i = k → i ≤ n → J i s →
    Seg (model prog w) A (endJ Fn) (outJ n J pb) k s₀ (turnCode elt iter x px pos scope it cenv) ((model prog w).den (turnCode elt iter x px pos scope it cenv)) [] s := by
  intro k
  induction k with
  | zero =>
    intro i s₀ s hk hi hJ
    obtain rfl : i = n := by omega
    show Seg _ A _ _ _ s₀ _ ((compTurn (.GeneratorExp elt [⟨.Name x px, iter, [], 0⟩] scope pos) 0 (.ref it) .none cenv).onRaise (leaving cenv)) [] s
    rw [compTurn_gen, Sem.onRaise_eq_wrap]
    refine seg_bind_wrap (wpAny_standAt ?_)
    refine seg_bind_wrap (wpAny_mono (C.done s hJ) (fun r s' hr => ?_) fun _ _ z => False.elim z)
    obtain ⟨rfl, hJ'⟩ := hr
    exact seg_end (.ok .next) ⟨rfl, rfl, hJ'⟩
  | succ k ih =>
    intro i s₀ s hk hi hJ
    have lt : i < n := by omega
    show Seg _ A _ _ _ s₀ _ ((compTurn (.GeneratorExp elt [⟨.Name x px, iter, [], 0⟩] scope pos) 0 (.ref it) .none cenv).onRaise (leaving cenv)) [] s
    rw [compTurn_gen, Sem.onRaise_eq_wrap]
    refine seg_bind_wrap (wpAny_standAt ?_)
    refine seg_bind_wrap (wpAny_mono (C.turn i s lt hJ) (fun r s1 hr => ?_) fun _ _ z => False.elim z)
    obtain ⟨u, rfl, h1⟩ := hr
    refine seg_bind_wrap (wpAny_mono h1 (fun _ s0 h0 => ?_) fun _ _ z => False.elim z)
    refine seg_bind_wrap (wpAny_mono h0 (fun _ s2 h2 => ?_) fun _ _ z => False.elim z)
    refine seg_bind_wrap ?_
    rw [List.forIn_nil]
    refine wpAny_pure ?_
    simp only [if_true]
    have out : ∀ v, yieldOut cenv v = yieldValue v := fun v => by simp only [yieldOut, C.co, Bool.false_eq_true, if_false]
    simp only [out]
    rw [Sem.bind_eq_wrap', Sem.bind_eq_wrap', Sem.wrap_wrap, Sem.wrap_wrap]
    refine seg_wrap (wpAny_mono h2 (fun y s3 h3 => ?_) fun _ _ z => False.elim z)
    obtain ⟨rfl, hJ3⟩ := h3
    have e1 : n - 1 - k = i := by omega
    have e2 : n - k = i + 1 := by omega
    refine seg_at (seg_yield rfl rfl rfl ⟨by show _ = Value.bool (pb (n - 1 - k)); rw [e1], by show k < n; omega, by show J (n - k) s3; rw [e2]; exact hJ3, fun s'' h'' => ?_⟩)
    have h4 : J (i + 1) s'' := by rw [← e2]; exact h''
    exact seg_again rfl (ih (i + 1) s'' s'' (by omega) lt h4)
theorem seg_begins (C : Core prog w A elt iter x px pos scope it cenv n J Fn pb) (s₀ s : Shared) (hJ : J 0 s) :
    Seg (model prog w) A (endJ Fn) (outJ n J pb) n s₀ (startCode elt iter x px pos scope it cenv) ((model prog w).den (startCode elt iter x px pos scope it cenv)) [] s := by
  have loop := seg_turns C n 0 s₀ s (Nat.sub_zero _) (Nat.zero_le _) hJ
  show Seg _ A _ _ _ s₀ _ ((compStart (.GeneratorExp elt [⟨.Name x px, iter, [], 0⟩] scope pos) 0 (.ref it) .none cenv).onRaise (leaving cenv)) [] s
  unfold compStart
  rw [Sem.onRaise_eq_wrap]
  show Seg _ A _ _ _ s₀ _ ((ask >>= _).wrap _ _ _ _) [] s
  refine seg_bind_wrap (wpAny_askSetting ?_)
  split
  · exact seg_again rfl loop
  · first
      | exact seg_bind_wrap (wpAny_rule (seg_bind_wrap (wpAny_standAt (seg_bind_wrap (C.self _ s _ _ hJ (seg_again rfl loop))))))
      | (refine seg_bind_wrap (wpAny_rule ?_); show Seg _ A _ _ _ s₀ _ ((standAt iter.pos >>= _).wrap _ _ _ _) [] s; exact seg_bind_wrap (wpAny_standAt (seg_bind_wrap (C.self _ s _ _ hJ (seg_again rfl loop)))))
/-- the generator a, number g, sleeps ahead of its i-th turn -/
def Asleep (prog : Program) (w : World) (B : Around) (a : Addr) (g : Nat) (n : Nat) (J : Nat → Shared → Prop) (Fn : Shared → Prop) (pb : Nat → Bool) (i : Nat) (s : Shared) : Prop :=
  J i s ∧ ∃ gs, s.gens[g]? = some gs ∧ ∀ s'', J i s'' → gs.Goes (model prog w) B (endJ Fn) (outJ n J pb) (n - i) (.send .none) s''
/-- what the consumer asks of J: the generator's object stands, there is no lid -/
structure Held (a : Addr) (g : Nat) (J : Nat → Shared → Prop) (Fn : Shared → Prop) : Prop where
  gen : ∀ i s, J i s → s.heap.IsGen a g
  lim : ∀ i s, J i s → s.heap.NoLimit
  any : ∀ i s g' t', J i s → AllBare g' → J i { s with gens := g', toks := t' }
  bare : ∀ i s, J i s → AllBare s.gens
  /-- behind the end: the making of StopIteration leaves all as it stands -/
  more : ∀ s h', Fn s → (∀ b o, s.heap.get? b = some o → h'.get? b = some o) → Fn { s with heap := h' }
  anyF : ∀ s g', Fn s → AllBare g' → Fn { s with gens := g' }
  bareF : ∀ s, Fn s → AllBare s.gens
  fin : ∀ i s, J i s → Fn s
theorem set_bare {s : Shared} {g : Nat} {y : GenState} (h : AllBare s.gens) (hy : y.bare = true) : AllBare (s.setGen g y).gens := allBare_setGen h hy
theorem all_turns {a : Addr} {g : Nat} {R : Result → Shared → Prop} (D : Held a g J Fn) (hh : A.handled = none) (hroom : A.depth < recursionLimit) : ∀ (k i : Nat) (s : Shared), n - i = k → i ≤ n → Asleep prog w A.in1.in1 a g n J Fn pb i s →
    (∀ s', Fn s' → R (.ok (.ret (.bool (((List.range n).drop i).all pb)))) s') → codeAny (model prog w) A (.builtin "all.loop" ⟨[.ref a], []⟩) R s := by
  intro k
  induction k with
  | zero =>
    intro i s hk hi hA hR
    obtain rfl : i = n := by omega
    obtain ⟨hJ, gs, hgs, goes⟩ := hA
    rw [Nat.sub_self] at goes
    refine codeAny_builtin F.entry_all_loop ?_
    rw [Around.under_plainId F.plain_all_loop _]
    show wpAny _ A.in1 (pyNext (.ref a) >>= _) _ _ s
    refine wpAny_bind (wpAny_pyNext_genexpQ (A := A.in1) (P := fun m s₀ s₁ => m = 0 ∧ Fn s₁) hh (D.lim i s hJ) hroom (D.gen i s hJ) hgs (goes _ (D.any i s _ s.toks hJ (set_bare (D.bare i s hJ) rfl))) (fun v s₁ gs' hb hv => ?_) (fun s₁ hp h' up => ?_))
    · exact False.elim (hv.2.2.2 _ hv.2.2.1)
    · refine wpAny_bind (wpAny_rule (wpAny_pure ?_))
      have last := hR _ (D.more _ h' (D.anyF s₁ (s₁.setGen g .finished).gens hp.2 (set_bare (D.bareF s₁ hp.2) rfl)) up)
      rw [List.drop_of_length_le (by simp)] at last
      exact last
  | succ k ih =>
    intro i s hk hi hA hR
    obtain ⟨hJ, gs, hgs, goes⟩ := hA
    have lt : i < n := by omega
    have cut : (List.range n).drop i = i :: (List.range n).drop (i + 1) := by
      rw [List.drop_eq_getElem_cons (by simpa using lt)]
      simp
    have gl : g < s.gens.size := (Array.getElem?_eq_some_iff.mp hgs).1
    rw [hk] at goes
    refine codeAny_builtin F.entry_all_loop ?_
    rw [Around.under_plainId F.plain_all_loop _]
    show wpAny _ A.in1 (pyNext (.ref a) >>= _) _ _ s
    refine wpAny_bind (GenW.wpAny_gsz (n := g + 1) gl (wpAny_pyNext_genexpQ (A := A.in1) (P := fun m s₀ s₁ => m = 0 ∧ Fn s₁) hh (D.lim i s hJ) hroom (D.gen i s hJ) hgs (goes _ (D.any i s _ s.toks hJ (set_bare (D.bare i s hJ) rfl))) (fun v s₁ gs' hb hv => ?_) (fun s₁ hp h' up => ?_)))
    · obtain ⟨ev, hm, hJ1, kap⟩ := hv
      intro big
      have e1 : n - 1 - (k + 1 - 1) = i := by omega
      have e2 : n - (k + 1 - 1) = i + 1 := by omega
      rw [e1] at ev
      rw [e2] at hJ1 kap
      subst ev
      have hJ2 : J (i + 1) (s₁.setGen g gs') := D.any (i + 1) s₁ (s₁.setGen g gs').gens s₁.toks hJ1 (set_bare (D.bare _ _ hJ1) hb)
      refine wpAny_bind (wpAny_holding (wpAny_truthy_bool ?_))
      refine wpAny_bind (wpAny_letGo ?_)
      cases hp : pb i with
      | true =>
        simp only [if_true]
        refine wpAny_pure ⟨plainId_quiet F.plain_all_loop _, ih (i + 1) _ (by omega) lt ⟨hJ2, gs', ?_, ?_⟩ fun s' hj => ?_⟩
        · have q : (s₁.setGen g gs').gens.size = s₁.gens.size := GenW.setGen_size _ _ _
          have big' : g + 1 ≤ (s₁.setGen g gs').gens.size := big
          exact setGen_at (by omega)
        · intro s'' h''
          have e3 : n - (i + 1) = k := by omega
          rw [e3]
          exact kap s'' h''
        · have last := hR s' hj
          rw [cut, List.all_cons, hp, Bool.true_and] at last
          exact last
      | false =>
        simp only [Bool.false_eq_true, if_false]
        refine wpAny_bind (wpAny_rule (wpAny_pure ?_))
        have last := hR _ (D.fin (i + 1) _ hJ2)
        rw [cut, List.all_cons, hp, Bool.false_and] at last
        exact last
    · exact absurd hp.1 (Nat.succ_ne_zero k)
end
end Gn

set_option Elab.async false
set_option linter.all false
set_option maxRecDepth 100000
set_option maxHeartbeats 4000000
/-! .. then with the layer's own words: the element is any expression of the block. -/
namespace Gn
open PySem PySem.Spec PyProof.Rows L2
/-- the environment, the context of the inner block; it began at s with H -/
abbrev blkEnv (X : Cx) (scope : Scope) (C : Addr) (code : Value) : Env := genEnv scope (cloFrom X.env.cells scope.names []) C code builtinsNs X.env
abbrev gblk (X : Cx) (B : Around) (s : Shared) (H : Hp) (scope : Scope) (C : Addr) (code : Value) (fp : List Addr) : Cx :=
  { X with A := B, s_0 := s, H_0 := H, env := blkEnv X scope C code, outer := X.stack, stack := blkEnv X scope C code :: X.stack, ex := fp, fn := fun _ => false, calm := true, pn := [], xe := fun _ _ => False }
section
variable {X : Cx} {pins : List (Addr × Obj)} {σ : L2.St} {H : Hp} {s : Shared}
theorem blk_start {scope : Scope} {own : List (Str × Nat)} {fp : List Addr} {B : Around} {code : Value} {h5 : Heap} {g5 : Array GenState} {t5 : Nat} {m : Str → Option Value} (I : Inv X pins σ H s) (hN : X.N.Nodup) (ok : BlkOk X.N X.env.scope scope own) (noCell : ∀ y ∈ scope.names, y.2 ≠ .cell)
    (hfp : ∀ b ∈ fp, FpOk X pins H b ∧ b < s.heap.objs.size) (kp : ∀ b o, s.heap.get? b = some o → h5.get? b = some o) (ns : h5.Ns s.heap.objs.size m) (bare : AllBare g5) (hh : B.handled = none) (fr : B.frames = some (blkEnv X scope s.heap.objs.size code :: X.stack)) :
    Inv (gblk X B s H scope s.heap.objs.size code fp) [] (wipe σ (own.map (·.2))) H { s with heap := h5, gens := g5, toks := t5 } := by
  have has : ∀ y ∈ scope.names, y.2 = .free → ∃ c, X.env.cells.lookup y.1 = some c := fun y hy e => by
    rcases ok.free y hy e with k | k
    · exact I.ok.has _ (.inl k)
    · exact I.ok.has _ (.inr k)
  have mem : ∀ {y c}, (cloFrom X.env.cells scope.names []).lookup y = some c → X.env.cells.lookup y = some c ∧ c < s.heap.objs.size := fun {y c} e => by
    rcases cloFrom_mem (Gc.mem_of_lookup e) with z | ⟨z, rfl⟩
    · cases z
    · obtain ⟨c, hc⟩ := has _ z rfl
      rw [hc]
      obtain ⟨u, q⟩ := I.cell _ _ hc
      exact ⟨rfl, q.lt⟩
  have free_of : ∀ {y : Str}, (scope.names.lookup y = some NameKind.cell ∨ scope.names.lookup y = some NameKind.free) → (y, NameKind.free) ∈ scope.names := fun {y} hy => by
    rcases hy with e | e
    · exact absurd rfl (noCell _ (Gc.mem_of_lookup e))
    · exact Gc.mem_of_lookup e
  have okB : (gblk X B s H scope s.heap.objs.size code fp).Ok := by
    refine ⟨I.ok.mod, ok.kind, I.ok.glob, rfl, Nat.le_refl _, fun y z c e1 e2 => I.ok.inj y z c (mem e1).1 (mem e2).1, fun y hy => ?_, fun y c z _ => Bool.noConfusion z, fun _ => hh, fr, .inr ⟨rfl, rfl⟩, fun b hb => ⟨Nat.ne_of_lt (hfp b hb).2, fun y c e z => ?_⟩, I.bs, Nat.le_trans I.ok.bsz I.sz,
      fun b o e hb => ?_, fun b hb z => ?_, I.stack, I.stkFree⟩
    · obtain ⟨d, hd⟩ := mem_lookup (cloFrom_has (acc := []) (cells := X.env.cells) (free_of hy))
      exact ⟨d, hd⟩
    · exact (hfp b hb).1.2.2.2.2.1 y c (mem e).1 z
    · rcases (hfp b hb).1.2.2.2.1 with z | z
      · exact I.ok.noex b o e z
      · exact absurd (Nat.lt_of_lt_of_le (Heap.lt_size e) (Nat.le_trans I.ok.bsz z)) (Nat.lt_irrefl _)
    · rcases List.mem_cons.mp (I.stkSub b z) with z | z
      · exact (hfp b hb).1.2.1 z
      · exact (hfp b hb).1.2.2.1 z
  refine ⟨okB, rfl, bare, Un.kept kp, ⟨m, ns, fun i y v e1 e2 e3 => ?_⟩, fun y c e => ?_, I.hok.fresh (Nat.le_refl _), fun y c e => I.freeC y c (mem e).1, fun p hp => absurd (show p ∈ ([] : List (Addr × Obj)) ++ [] from hp) (by simp), I.hok.kept kp, by rw [wipe_length]; exact I.len⟩
  · obtain ⟨e2', out⟩ := wipe_some e2
    have vis : scope.names.lookup y = some .local ∨ scope.names.lookup y = some .cell ∨ scope.names.lookup y = some .free := e3
    have isFree : scope.names.lookup y = some .free := by
      have own_no : ∀ k : NameKind, scope.names.lookup y = some k → (k = .local ∨ k = .cell) → False := fun k e hk => by
        rcases ok.own _ (Gc.mem_of_lookup e) hk with z | z
        · obtain ⟨p, hp, py⟩ := List.mem_map.mp z
          have q := ok.ix p hp
          rw [show p.1 = y from py] at q
          exact out (List.mem_map.mpr ⟨p, hp, nd_ix hN q e1⟩)
        · exact z (List.mem_of_getElem? e1)
      rcases vis with e | e | e
      · exact (own_no _ e (.inl rfl)).elim
      · exact (own_no _ e (.inr rfl)).elim
      · exact e
    have inner : (y, NameKind.free) ∈ scope.names := Gc.mem_of_lookup isFree
    obtain ⟨m0, _, hl⟩ := I.loc
    have visX : Vis X.env.scope y := (ok.free _ inner rfl).elim (fun k => .inr (.inl k)) fun k => .inr (.inr k)
    obtain ⟨u, r, q⟩ := hl i y v e1 e2' visX
    refine ⟨u, r, .inr ⟨.inr isFree, ?_⟩⟩
    rcases q with ⟨k, _⟩ | ⟨_, c, hc, z⟩
    · have k : X.env.scope.names.lookup y = some .local := k
      rcases ok.free _ inner rfl with k' | k' <;> rw [show X.env.scope.names.lookup y = _ from k'] at k <;> cases k
    · exact ⟨c, Gc.cap_lookup inner hc, z.keeps kp⟩
  · obtain ⟨u, z⟩ := I.cell y c (mem e).1
    exact ⟨u, z.keeps kp⟩
theorem inv_regen {Y : Cx} {pn : List (Addr × Obj)} {τ : L2.St} {H' : Hp} {s' : Shared} (I : Inv Y pn τ H' s') (g : Array GenState) (t : Nat) (hb : AllBare g) : Inv Y pn τ H' { s' with gens := g, toks := t } :=
  ⟨I.ok, I.os, hb, I.base, I.loc, I.cell, I.free, I.freeC, I.pin, I.hok, I.len⟩
/-- all(elt for x in iter): x's slot ix; the def's table may grow first; W by the turn and the heap -/
def tAllN (P : Addr) (wi : TI) (ix : Nat) (te : TE) : TE := fun σ H Q => wi σ H fun J H1 => GxR.TabG H1 P ∧ ∀ H2, GxR.Tabbed P H1 H2 → ∃ (n : Nat) (pb : Nat → Bool) (W : Nat → Hp → Prop), W 0 H2 ∧
  (∀ i H3, i < n → W i H3 → J.go i H3 ∧ ∀ x H4, J.yld i H3 x H4 → te ((wipe σ [ix]).set ix (some x)) H4 fun y H5 => y = .bl (pb i) ∧ W (i + 1) H5) ∧ (∀ H3, W n H3 → J.stop n H3) ∧ ∀ i H3, W i H3 → Q (.bl ((List.range n).all pb)) H3
theorem pe_allN {c P : Addr} {elt iter : Expr} {x : Str} {px p pos gpos : Pos} {scope : Scope} {wi : TI} {te : TE} {k ix : Nat}
    (hr : Room (k + 1) X.A) (hg : Gl X "all") (hm : X.mg "all" = none) (hb : bootBuiltins "all" = some (.builtin "all")) (TB : GxR.TabB X.base X.mg c P) (hcode : X.env.code = .ref c) (hN : X.N.Nodup) (S : Gc.GenSc X.env.scope scope x) (ok : BlkOk X.N X.env.scope scope [(x, ix)]) (hx : X.N[ix]? = some x)
    (hi : PI X (.Name x px) iter wi) (hel : ∀ (B : Around) (s : Shared) (H : Hp) (C : Addr) (code : Value) (fp : List Addr), Room k B → PE (gblk X B s H scope C code fp) elt te) (hs : ∀ v, genFold iter X.env v = pure v)
    (he : starEach [.GeneratorExp elt [⟨.Name x px, iter, [], 0⟩] scope gpos] X.env = (false, eval (.GeneratorExp elt [⟨.Name x px, iter, [], 0⟩] scope gpos) X.env) :: starEach [] X.env := by rfl) :
    PE X (.Call (.Name "all" p) [.GeneratorExp elt [⟨.Name x px, iter, [], 0⟩] scope gpos] [] pos) (tAllN P wi ix te) := by
  refine ⟨fun pins s σ H Q I h => ?_⟩
  have has : ∀ y ∈ scope.names, y.2 = .free → ∃ a, X.env.cells.lookup y.1 = some a := fun y hy e => I.ok.has _ (.inl (S.free y hy e))
  refine wpAny_Call_Name_kw (ld_blt I hg hm hb ?_)
  refine PyProof.Rows.callWith_builtin1 ?_ he (by rfl)
  rw [he]
  show wpAny _ _ (spliced (_ :: backTo pos (starEach [] X.env))) _ _ _
  refine Calls.spliced_cons ?_
  refine wpAny_GeneratorExp_make S.co (closure_ok has) S.cell S.dot S.kind (by have := hr.dp; omega) ?_ hs
  refine thn (hi.run pins s σ H _ I h) fun xv s1 h1 => thn h1 fun itv s2 h2 => ?_
  obtain ⟨it, fp, tn, J, H1, rfl, I1, T, st, ffp, ⟨ps, hP, trip⟩, want⟩ := h2
  have tab1 : s2.heap.get? P = some { cls := .none, data := .fields ps } := I1.hok P _ hP
  refine ⟨I1.nolimit, Gc.code_either hcode (TB.code.keeps fun b u e => I1.bk b u e) tab1 trip fun code h3 tk more ext big tab3 trip3 => ?_⟩
  have I2 := GxR.inv_tab (more := more) (h' := h3) (g' := s2.gens) (d' := s2.drawn) (t' := tk) I1 hP ext tab3 I1.bare
  have grown : GxR.Tabbed P H1 (upd H1 P (.tbl (ps ++ more))) := ⟨⟨_, upd_same, trip3⟩, fun b ne => upd_ne ne⟩
  obtain ⟨n, pb, W, w0, step, stop, fin⟩ := want _ grown
  have nP : ∀ b ∈ fp, b ≠ P := fun b hb z => by
    have q := (ffp b hb).1
    rw [z, hP] at q
    cases q
  have fH2 : ∀ b ∈ fp, FpOk X pins (upd H1 P (.tbl (ps ++ more))) b := fun b hb => ⟨by rw [upd_ne (nP b hb)]; exact (ffp b hb).1, (ffp b hb).2⟩
  generalize hH2 : upd H1 P (.tbl (ps ++ more)) = H2 at I2 w0 fH2
  generalize hs3 : ({ s2 with heap := h3, gens := s2.gens, drawn := s2.drawn, toks := tk } : Shared) = s3 at I2
  have eh3 : s3.heap = h3 := by rw [← hs3]
  have st3 : tn 0 s3.heap := T.keep _ _ _ st fun b hb o e => by rw [eh3]; exact ext b o (nP b hb) e
  obtain ⟨bm, ob, b1, b2, b3, b4, b5, b6, b7, b8⟩ := TB.bm
  refine wpAny_builtinsFor (m := X.mg) (by rw [I2.ok.glob]; exact I2.mod.glob.keeps I2.bk) b1 b2 (I2.bk _ _ b5) b6 b7 b8 ?_
  intro h4 ns same
  have sz4 : h4.objs.size = s3.heap.objs.size + 1 := by rw [same.1, Heap.size_push]
  have up4 : ∀ b o, s3.heap.get? b = some o → h4.get? b = some o := fun b o e => same.extBut b o (Nat.ne_of_lt (Heap.lt_size e)) (Heap.get?_push_of_some _ e)
  generalize hgo : ({ cls := .type "generator", data := .fields #[.int s3.gens.size 0, .str "<genexpr>" (s3.toks + 1), .str (X.env.qual ++ "<genexpr>") (s3.toks + 1 + 1)] } : Obj) = go
  have isGen : ∀ h : Heap, h.get? h4.objs.size = some go → h.IsGen h4.objs.size s3.gens.size := fun h e => by
    subst hgo
    exact ⟨_, _, _, e, rfl, rfl, rfl⟩
  have new4 : (h4.push go).get? h4.objs.size = some go := by
    subst hgo
    exact Heap.get?_push_size _ rfl
  have offStack : ∀ b, s3.heap.objs.size ≤ b → b ∉ frs X.stack := fun b hb z => by
    rcases List.mem_cons.mp (I2.stkSub b z) with q | q
    · rw [q] at hb
      exact absurd (Nat.lt_of_lt_of_le I2.lt hb) (Nat.lt_irrefl _)
    · exact I2.nofs hb q
  have up5 : ∀ b o, s3.heap.get? b = some o → (h4.push go).get? b = some o := fun b o e => Heap.get?_push_of_some _ (up4 b o e)
  let B : Around := X.A.in1.in1.over (turnCode elt iter x px gpos scope it (blkEnv X scope s3.heap.objs.size code)) []
  have hhB : B.handled = none := hr.hd
  have frB : B.frames = some (blkEnv X scope s3.heap.objs.size code :: X.stack) := by
    have q : X.A.frames = some X.stack := I2.ok.frames
    show pushEnvs [blkEnv X scope s3.heap.objs.size code] X.A.frames = _
    rw [q]
    rfl
  have roomB : Room k B := ⟨hhB, by have := hr.dp; show X.A.depth + 0 + 1 + 3 * k + 5 < _; omega, by have := hr.un; show X.A.units + 1 + 1 + 0 + 3 + 16 * k + 200 < _; omega⟩
  have lt3 : ∀ b ∈ fp, b < s3.heap.objs.size := fun b hb => by
    obtain ⟨o, e, _⟩ := T.obj _ _ st3 b hb
    exact Heap.lt_size e
  have start := blk_start (B := B) (code := code) (h5 := h4.push go) (g5 := s3.gens.push (.fresh (startCode elt iter x px gpos scope it (blkEnv X scope s3.heap.objs.size code)))) (t5 := s3.toks + 1 + 1 + 1) (own := [(x, ix)]) (fp := fp) I2 hN ok S.cell (fun b hb => ⟨fH2 b hb, lt3 b hb⟩) up5 (ns.push go) (I2.bare.push rfl) hhB frB
  have w1 : wipe σ ([(x, ix)].map (·.2)) = wipe σ [ix] := rfl
  rw [w1] at start
  generalize hY : gblk X B s3 H2 scope s3.heap.objs.size code fp = Y at start
  have a_ne : h4.objs.size ≠ s3.heap.objs.size := by omega
  have pinned : ∀ {τ : L2.St} {H' : Hp} {s' : Shared}, Inv Y [] τ H' s' → s'.heap.get? h4.objs.size = some go → H' h4.objs.size = none → Inv Y [(h4.objs.size, go)] τ H' s' := fun {τ H' s'} K e e2 => K.pins_of fun q hq => by
    obtain rfl := List.mem_singleton.mp hq
    refine ⟨e, e2, by rw [← hY]; exact a_ne, by rw [← hY]; exact offStack _ (by rw [sz4]; exact Nat.le_succ _), fun v z => ?_⟩
    rw [← hgo] at z
    cases z
  have Ypn : Y.pn = [] := by rw [← hY]
  have Yfp : ∀ {H' : Hp}, (∀ b ∈ fp, H' b = none) → ∀ b ∈ fp, FpOk Y [(h4.objs.size, go)] H' b := fun {H'} hn b hb => by
    have okY := start.ok
    have hex : b ∈ Y.ex := by rw [← hY]; exact hb
    refine ⟨hn b hb, (okY.exf b hex).1, okY.exfs b hex, .inl hex, fun y c e => (okY.exf b hex).2 y c e, fun q hq => ?_⟩
    rw [Ypn, List.nil_append] at hq
    obtain rfl := List.mem_singleton.mp hq
    intro z
    have l := lt3 b hb
    have e : b = s3.heap.objs.size + 1 := (show h4.objs.size = b from z).symm.trans sz4
    rw [e] at l
    exact absurd l (Nat.not_lt.mpr (Nat.le_succ _))
  have st5 : tn 0 (h4.push go) := T.keep _ _ _ st3 fun b _ o e => up5 b o e
  have start2 := pinned start new4 (by
    have q := start.hok.fresh (a := h4.objs.size)
    exact I2.hok.fresh (by rw [sz4]; exact Nat.le_succ _))
  -- the i-th turn is about to begin
  let Js : Nat → Shared → Prop := fun i s' => ∃ H', Inv Y [(h4.objs.size, go)] (wipe σ [ix]) H' s' ∧ tn i s'.heap ∧ (∀ b ∈ fp, H' b = none) ∧ W i H'
  let Fs : Shared → Prop := fun s' => ∃ i H', Inv Y [(h4.objs.size, go)] (wipe σ [ix]) H' s' ∧ W i H'
  have held : Held h4.objs.size s3.gens.size Js Fs := {
    gen := fun i s' ⟨H', K, _⟩ => isGen _ (K.pin (h4.objs.size, go) (List.mem_append_right _ (List.mem_singleton.mpr rfl))).1
    lim := fun i s' ⟨H', K, _⟩ => K.nolimit
    any := fun i s' g' t' ⟨H', K, a1, a2, a3⟩ hb => ⟨H', inv_regen K g' t' hb, a1, a2, a3⟩
    bare := fun i s' ⟨H', K, _⟩ => K.bare
    more := fun s' h' ⟨i, H', K, a3⟩ up => ⟨i, H', K.kept (t' := s'.toks) up, a3⟩
    anyF := fun s' g' ⟨i, H', K, a3⟩ hb => ⟨i, H', inv_regen K g' s'.toks hb, a3⟩
    bareF := fun s' ⟨_, H', K, _⟩ => K.bare
    fin := fun i s' ⟨H', K, _, _, a3⟩ => ⟨i, H', K, a3⟩ }
  have progs : Y.prog = X.prog ∧ Y.w = X.w ∧ Y.K = X.K ∧ Y.calm = true ∧ Y.A = B ∧ Y.N = X.N ∧ Y.xe = fun _ _ => False := by
    rw [← hY]
    exact ⟨rfl, rfl, rfl, rfl, rfl, rfl, rfl⟩
  obtain ⟨y1, y2, y3, y4, y5, y6, y7⟩ := progs
  have pe := hel B s3 H2 s3.heap.objs.size code fp roomB
  rw [hY] at pe
  have pg : PG Y (.Name x px) (gName ix) := by
    rw [← hY]
    exact pg_name hN hx (.inl S.loc) (.inr S.loc)
  have envY : Y.env = blkEnv X scope s3.heap.objs.size code := by rw [← hY]
  have core : Core X.prog X.w X.A.in1.in1 elt iter x px gpos scope it (blkEnv X scope s3.heap.objs.size code) n Js Fs pb := {
    co := S.co
    any := held.any
    bare := held.bare
    self := fun B' s' Q' E' ⟨H', K, a1, _⟩ q => T.self B' 0 s' Q' E' a1 q
    done := fun s' ⟨H', K, a1, a2, a3⟩ => by
      have td := T.done Y y1 y2 y3 y4 n [(h4.objs.size, go)] s' _ H' (fun _ _ => False) K (Yfp a2) a1 (stop H' a3)
      rw [y5] at td
      exact thn td fun r s'' ⟨hr, K2⟩ => ⟨hr, n, H', K2, a3⟩
    turn := fun i s' lt ⟨H', K, a1, a2, a3⟩ => by
      obtain ⟨go_, item⟩ := step i H' lt a3
      have ti := T.item Y y1 y2 y3 y4 i [(h4.objs.size, go)] s' _ H' (fun _ _ => False) K (Yfp a2) a1 go_
      rw [y5] at ti
      refine thn ti fun r s6 ⟨u, hr, h6⟩ => ⟨u, hr, ?_⟩
      refine thn h6 fun _ s7 ⟨xv, H7, K7, r7, q7, st7, n7⟩ => ?_
      have K7' := K7.pinned (Yfp n7) (T.obj _ _ st7)
      have pa := pg.run _ s7 _ H7 xv u (fun σ' H' => σ' = (wipe σ [ix]).set ix (some xv) ∧ H' = H7) K7' r7 ⟨rfl, rfl⟩
      rw [y1, y2, y5, y7, envY] at pa
      refine thn pa fun _ s8 ⟨σ8, H8, K8, e8, e8'⟩ => ?_
      subst e8 e8'
      have pv_ := pe.run _ s8 _ H8 _ K8 (item xv H8 q7)
      rw [y1, y2, y5, y7, envY] at pv_
      refine thn pv_ fun y s9 ⟨v, H9, K9, rv, ev, w9⟩ => ?_
      subst ev
      have pin' : ∀ b ∈ fp, ∀ o, s7.heap.get? b = some o → s9.heap.get? b = some o ∧ H9 b = none := fun b hb o e =>
        let z := K9.pin (b, o) (List.mem_append_right _ (List.mem_append_right _ (mem_pinsAt hb e)))
        ⟨z.1, z.2.1⟩
      refine ⟨rv, H9, (K9.unpinned (pins := [(h4.objs.size, go)])).weak ?_ fun j v e => ?_, T.keep _ _ _ st7 fun b hb o e => (pin' b hb o e).1, fun b hb => ?_, w9⟩
      · rw [List.length_set]
      · obtain ⟨_, out⟩ := wipe_some e
        rw [List.getElem?_set_ne (fun z => out (by rw [z]; exact List.mem_singleton.mpr rfl))]
        exact e
      · obtain ⟨o, e, _⟩ := T.obj _ _ st7 b hb
        exact (pin' b hb o e).2 }
  -- the call of all
  refine Calls.spliced_nil ?_
  refine call_function_tree F.kind_all F.plain_all F.entry_all (F.args_all1 _) ?_
  unfold Builtin.«all»
  refine wpAny_bind (m := oneArg "all" _) (wpAny_pure ?_)
  refine wpAny_bind (wpAny_pyIter_gen (isGen _ new4) ?_)
  have hs' : Asleep X.prog X.w X.A.in1.in1 h4.objs.size s3.gens.size n Js Fs pb 0 { s3 with heap := h4.push go, gens := s3.gens.push (.fresh (startCode elt iter x px gpos scope it (blkEnv X scope s3.heap.objs.size code))), toks := s3.toks + 1 + 1 + 1 } :=
    ⟨⟨H2, start2, st5, fun b hb => (fH2 b hb).1, w0⟩, _, Array.getElem?_push_size .., fun s'' h'' => ⟨rfl, seg_begins core s'' s'' h''⟩⟩
  refine wpAny_pure ⟨plainId_quiet F.plain_all_loop _, all_turns held hr.hd (by have := hr.dp; omega) n 0 _ rfl (Nat.zero_le _) hs' fun s' hF => ?_⟩
  obtain ⟨i, H', K, wi'⟩ := hF
  have back : Inv X pins σ H' s' := by
    have b0 : Un (frs X.stack) fp H2 H' s3.heap s'.heap := by
      have q := K.base
      rw [← hY] at q
      exact q
    have o0 : s'.os = s3.os := by
      have q := K.os
      rw [← hY] at q
      exact q
    have k0 : HOk X.prog X.w H' s'.heap := by
      have q := K.hok
      rw [← hY] at q
      exact q
    exact I2.call' (ch := fp) o0 b0 k0 K.bare fun b hb => ⟨(fH2 b hb).2.2.2.1, (fH2 b hb).2.1, (fH2 b hb).2.2.2.2.1, (fH2 b hb).2.2.2.2.2⟩
  exact ⟨.bl _, H', back, rfl, fin i H' wi'⟩
end
end Gn

set_option Elab.async false
set_option linter.all false
set_option maxRecDepth 100000
set_option maxHeartbeats 4000000
/-! Errors of own classes as values: made by a call, their field read, isinstance asked. -/
namespace PySem.W
open PySem PySem.Spec PySem.Calls PyProof.Rows
section
variable {prog : Program} {w : World} {A : Around} {E : Value → Shared → Prop} {s : Shared} {K : Frag} {x D : Addr} {ox : Obj} {od : Option Obj}
/-- its class, where the error has a dict of its own -/
theorem ask_class {Q : Option Value → Shared → Prop} (lead : findIn K (.ref D) "__getattribute__" = some (some (.builtin "BaseException.__getattribute__"))) (noGet : findIn K (.ref D) "__getattr__" = some none) (below : subIn K (.ref D) (.type "BaseException") = some true)
    (found : findObj K D od "__class__" = some (.bind (.builtin "getset_descriptor.__get__") (.builtin "object.__class__"))) (top : mroIn K D (.type "object") = some true) (Y : K.In s.heap) (J : InstAt s.heap x ox D od) (done : Q (some (.ref D)) { s with toks := s.toks + 1 }) :
    wpAny (model prog w) A (getAttr? (.ref x) "__class__") Q E s := by
  obtain ⟨hp, g, d, t, os⟩ := s
  have its := J.type (M := model prog w)
  have other : (Value.builtin "BaseException.__getattribute__" == Value.builtin "object.__getattribute__") = false := by decide +kernel
  have plain : (onTheHeap (Value.ref D) && Value.builtin "BaseException.__getattribute__" == Value.builtin "object.__getattribute__") = false := by rw [other, Bool.and_false]
  unfold getAttr? getAttrBy? getAttrBy
  refine wpAny_bind (wpAny_mkText (wpAny_bind (wpAny_attempt (wpAny_holding (wpAny_bind (its.at (wpAny_bind ((looks_findIn Y lead).at ?_))))))))
  show wpAny _ _ (ite ((onTheHeap (Value.ref D) && Value.builtin "BaseException.__getattribute__" == Value.builtin "object.__getattribute__") = true) _ _) _ _ _
  rw [plain, if_neg Bool.false_ne_true]
  unfold getAttrByItsOwn hookBefore
  refine wpAny_bind ?_
  rw [if_pos (show onTheHeap (Value.ref D) = true from rfl)]
  refine (looks_findIn Y noGet).at (wpAny_bind (wpAny_attempt (wpAny_holding ?_)))
  unfold callGetattribute
  rw [show (false && onTheHeap (Value.builtin "BaseException.__getattribute__")) = false from rfl, if_neg Bool.false_ne_true]
  unfold boundAndCalled
  rw [PySem.F.excAttr_ValueError.ga.bind (.ref x)]
  refine wpAny_bind (wpAny_pure ?_)
  show wpAny _ _ (call (.builtin "BaseException.__getattribute__") [.ref x, .str "__class__" t]) _ _ _
  refine wpAny_call (codeAny_call_builtin PySem.F.excAttr_ValueError.ga.plain PySem.F.entry_bexc_ga ?_)
  refine @check_slot (model prog w) _ _ ⟨hp, g, d, t + 1, os⟩ "BaseException.__getattribute__" "BaseException" "__getattribute__" (.ref x) [.str "__class__" t] [] _ (by decide +kernel) (by decide +kernel) (its.andThen (looks_subIn Y below)) (PySem.F.args_bexc_ga (.ref x) (.str "__class__" t)) ?_
  unfold Builtin.«object.__getattribute__»
  refine wpAny_bind (wpAny_of_eq (a := ((Value.ref x : Value), [Value.str "__class__" t])) (by first | rfl | (simp only [slotArgs]; rfl)) ?_)
  refine wpAny_bind (wpAny_pure (wpAny_bind (its.at (wpAny_bind ((looks_find Y J found).at ?_)))))
  show wpAny _ _ (holding [Value.builtin "object.__class__"] (call (.builtin "getset_descriptor.__get__") [.builtin "object.__class__", .ref x, .ref D]) >>= ret) _ _ _
  refine wpAny_bind (wpAny_holding (wpAny_call (class_get (s := ⟨hp, g, d, t + 1, os⟩) (ox := ox) (od := od) Y J top (wpAny_pure ?_))))
  show wpAny _ _ (handedOut (.ref D)) _ _ _
  rw [handedOut_of (v := .ref D) rfl]
  first
    | exact wpAny_pure (wpAny_pure done)
    | exact wpAny_pure done
    | exact wpAny_pure (wpAny_bind (wpAny_pure (wpAny_pure done)))
theorem cls_there (have_ : hasDictIn K D = true) : ∃ c d cd sl, K.lookup D = some ⟨c, d, .cls cd, sl⟩ := by
  obtain ⟨cd, hc, _⟩ := any_some have_
  unfold clsIn at hc
  split at hc
  · rename_i c d cd' sl ho
    exact ⟨c, d, cd', sl, ho⟩
  · cases hc
end
end PySem.W
namespace PySem.W
open PySem PySem.Spec PySem.Calls PyProof.Rows
theorem kit_err {K : Frag} {x D : Addr} {ox od : Obj} (lead : findIn K (.ref D) "__getattribute__" = some (some (.builtin "BaseException.__getattribute__"))) (noGet : findIn K (.ref D) "__getattr__" = some none) (below : subIn K (.ref D) (.type "BaseException") = some true) (have_ : hasDictIn K D = true)
    (found : findObj K D (some od) "__class__" = some (.bind (.builtin "getset_descriptor.__get__") (.builtin "object.__class__"))) (top : mroIn K D (.type "object") = some true) : KitX K (.ref x) (.ref D) (fun h => InstAt h x ox D (some od)) := by
  obtain ⟨c, d, cd, sl, at_⟩ := cls_there have_
  refine ⟨fun _ _ _ J => J.type, fun _ _ Y _ => ?_, fun h tp dd its n sl Y e => ?_, fun Y J q => ask_class lead noGet below found top Y J q⟩
  · intro A' Q' E' s' up q
    unfold isType loadHead
    exact wpAny_bind (wpAny_loadPart (up _ _ (Y _ _ at_)) (wpAny_pure q))
  · refine Bool.eq_false_iff.mpr fun q => ?_
    have same : D = tp := Value.ref.inj (beq_iff_eq.mp q)
    rw [← same] at e
    have two := (Y _ _ at_).symm.trans e
    cases two
end PySem.W
namespace Le
open PySem PySem.Spec PyProof.Rows L2
/-- what the written part says of an error's class, for its making, its field «at», and isinstance -/
structure ErrC (K : PySem.W.Frag) (C fI : Addr) : Prop where
  oex : OexC K C
  exc : ExcC K C
  ini : PySem.W.findIn K (.ref C) "__init__" = some (some (.ref fI))
  tyI : PySem.W.typeIn K (.ref fI) = some (.type "function")
  noAt : PySem.W.findIn K (.ref C) "at" = some none
/-- at a: an error of the class at C, made of the integer n -/
def ErrAt (H : Hp) (a C d : Addr) (n : Int) : Prop := H a = some (exo a C (some d)) ∧ H d = some (exd d [(("at" : Str), V.int n)])
def spInit (K : PySem.W.Frag) : Sp := fun vs H Q _ => ∃ (a C fI : Addr) (n : Int), vs = [.ref a, .int n] ∧ ErrC K C fI ∧ H a = some (exo a C none) ∧
  ∀ d, H d = none → d ≠ a → Q .non (upd (upd H d (exd d [(("at" : Str), V.int n)])) a (exo a C (some d)))
section
variable {X : Cx}
/-- C(e, ..) as a value, C's __init__ keeping sp -/
def tErr (C : Addr) (sp : Sp) (ta : TA) : TE := fun σ H Q => ta σ H fun vs H1 => vs.length ≤ 1000 ∧ ∀ a, H1 a = none → sp (.ref a :: (vs ++ [])) (upd H1 a (exo a C none)) (fun v H2 => v = .non ∧ Q (.ref a) H2) (fun _ _ _ => False)
theorem pe_err {e : Expr} {es : List Expr} {ta : TA} {CX : CXT} {x : Str} {C fI : Addr} {k : Nat} {fd : FuncData} {ps : List Str} {sp : Sp} {p pos : Pos} (T : ErrC X.K C fI) (G : FnOk X.prog X.w X.K X.mg X.base CX k fI fd ps sp) (hr : Room (k + 1) X.A) (hb : Binds X.K fd ps []) (hx : Passes CX X (fun _ _ _ => False)) (hg : Gl X x) (hm : X.mg x = some (.ref C)) (ha : PA X (e :: es) ta)
    (hdb : (x == ("__debug__" : Str)) = false := by decide) (he : starEach (e :: es) X.env = (false, eval e X.env) :: starEach es X.env := by rfl) (hpl : (backTo pos (starEach es X.env)).any (·.1) = false := by rfl) : PE X (.Call (.Name x p) (e :: es) [] pos) (tErr C sp ta) := by
  refine ⟨fun pins s σ H Q I h => ?_⟩
  obtain ⟨nm, q, N, bs, bm, sn, sub, ab, col, dd, k0, k1, k2, k3, k5, obj, base⟩ := T.oex.cls
  refine wpAny_Call_Name_kw (ld_glob I hg hm ?_ hdb)
  refine PySem.W.callWith_K (h₀ := X.base) I.ok.mod.kin T.oex.kC (thn (ha.run pos pins s σ H _ I h) fun us s1 got => ?_) he hpl
  obtain ⟨vs, H1, J, rel, few, want⟩ := got
  refine ⟨J.kIn, ?_⟩
  obtain ⟨hp, g, dr, tk, os⟩ := s1
  have next : hp.objs.size ≤ hp.objs.size + 1 := Nat.le_succ _
  have promise := want _ (J.hok.fresh next)
  have J2 : Inv X pins σ (upd H1 (hp.objs.size + 1) (exo (hp.objs.size + 1) C none)) ⟨(hp.push (PySem.W.kdv_tup us)).push (PySem.HandSPX.excO C hp.objs.size), g, dr, tk, os⟩ :=
    J.laid (t' := tk) (fun b o e => Heap.get?_push_of_some _ (Heap.get?_push_of_some _ e)) next (exo_ok (show Heap.get? _ (hp.objs.size + 1) = some (PySem.HandSPX.excO C hp.objs.size) by heap_get))
  have rel2 : Vals (V.ref (hp.objs.size + 1) :: (vs ++ [])) (Value.ref (hp.objs.size + 1) :: (us ++ [])) := .cons rfl (rel.append .nil)
  have count : (Value.ref (hp.objs.size + 1) :: us ++ []).length = ps.length := by
    have e := rel2.length
    rw [G.len _ _ _ _ promise] at e
    exact e.symm
  have room : us.length ≤ sizeLine := by
    rw [← Paired.length rel, sizeLine_eq]
    omega
  show wpAny _ _ (call (.ref C) us) _ _ _
  refine wpAny_call (PySem.HandSPX.call_own F.excBase_ValueError (fun Y => PySem.HandSPX.refsVE_contains Y bm base) (J.kIn _ _ obj) (PySem.W.looks_findIn J.kIn T.ini) (fun self => PySem.W.bind_fn J.kIn self T.tyI) room
    (codeAny_mono (G.run _ X.stack _ _ ⟨Value.ref (hp.objs.size + 1) :: us, []⟩ (Value.ref (hp.objs.size + 1) :: (us ++ [])) _ _ (fun _ _ _ => False) (hr.make C us []) (J2.env0.make C us []) (by have z := hb _ (Value.ref (hp.objs.size + 1) :: us) J2.kIn count; rw [List.cons_append] at z; exact z) rel2 promise) fun r s' left => ?_))
  cases r with
  | error er => exact hx pins σ _ _ er s' J2 left
  | ok fl =>
    cases fl with
    | ret u =>
      obtain ⟨v, H2, os2, bare2, un2, ok2, rv, isNon, q2⟩ := left
      subst isNon
      exact ⟨rv, .ref (hp.objs.size + 1), H2, J2.call' (ch := []) os2 un2 ok2 bare2 (fun b z => absurd z (by simp)), rfl, q2⟩
    | next => exact False.elim left
    | brk => exact False.elim left
    | cont => exact False.elim left
/-- e.at, e an error -/
def tAt (K : PySem.W.Frag) (te : TE) : TE := fun σ H Q => te σ H fun x H1 => ∃ (a C d fI : Addr) (n : Int), x = .ref a ∧ ErrC K C fI ∧ ErrAt H1 a C d n ∧ Q (.int n) H1
theorem inst_of {pins : List (Addr × Obj)} {σ : L2.St} {H : Hp} {s : Shared} {a C d : Addr} {n : Int} (I : Inv X pins σ H s) (h : ErrAt H a C d n) : ∃ (ox od : Obj) (mA : Str → Option Value), PySem.W.InstAt s.heap a ox C (some od) ∧ (∀ f : Str, PySem.W.lookIn f od = some (mA f)) ∧ ∀ f : Str, RelO ([(("at" : Str), V.int n)].lookup f) (mA f) := by
  obtain ⟨t1, ho⟩ := exo_at I.hok h.1
  obtain ⟨mA, ns, rel⟩ := exd_at I.hok h.2
  obtain ⟨od, hd, hl⟩ := lookIn_ns ns
  exact ⟨_, od, mA, ⟨ho, rfl, rfl, hd⟩, hl, rel⟩
theorem pe_at {e : Expr} {te : TE} {pos : Pos} (he : PE X e te) (hb : attributeBase e "at" X.env (eval e X.env) = eval e X.env := by rfl) : PE X (.Attribute e "at" pos) (tAt X.K te) := by
  refine ⟨fun pins s σ H Q I h => ?_⟩
  refine attr_of hb (thn (he.run pins s σ H _ I h) fun u s1 got => ?_)
  obtain ⟨x, H1, J, rx, a, C, d, fI, n, rfl, T, at_, q⟩ := got
  obtain rfl : u = Value.ref a := rx
  obtain ⟨ox, od, mA, inst, look, rel⟩ := inst_of J at_
  have l : List.lookup ("at" : Str) [(("at" : Str), V.int n)] = some (V.int n) := by simp [List.lookup]
  obtain ⟨v, hv, rv⟩ := RelO.some_of (v := V.int n) (o := mA "at") (by rw [← l]; exact rel "at")
  exact HandSPX.exc_get J.kIn inst T.exc.hg T.exc.hk T.exc.hs (PySem.W.findObj_own T.exc.hd T.noAt rfl (by rw [look, hv])) (handed_of rv) ⟨.int n, H1, J.tok _, rv, q⟩
/-- isinstance(e, c), e an error -/
def rIsErr (K : PySem.W.Frag) : List V → Hp → VK → Prop := fun xs H Q => ∃ (a C d fI : Addr) (n : Int) (c : V) (cv : Value) (b : Bool), xs = [.ref a, c] ∧ ClsV c cv ∧ ErrC K C fI ∧ ErrAt H a C d n ∧ PySem.W.kitOne K (.ref C) cv = some b ∧ Q (.bl b) H
theorem call_isErr : CallR X (.builtin "isinstance") (rIsErr X.K) := by
  intro pins s σ H xs us Q I r h
  obtain ⟨a, C, d, fI, n, c, cv, b, rfl, cl, T, at_, kit, q⟩ := h
  obtain ⟨u1, u2, rfl, r1, r2⟩ := vals2 r
  obtain rfl := cl.eq r2
  obtain rfl : u1 = Value.ref a := r1
  obtain ⟨ox, od, mA, inst, _, _⟩ := inst_of I at_
  have there : (PySem.W.clsIn X.K C).isSome = true := by
    obtain ⟨cd, hc, _⟩ := PySem.W.any_some T.exc.hd
    rw [hc]
    rfl
  exact PySem.W.kia_one (PySem.W.kit_err T.exc.hg T.exc.hk T.exc.hs T.exc.hd (PySem.W.findObj_data there T.exc.ha T.exc.hn T.exc.ht) T.exc.hm) I.kIn inst kit (fun z => nomatch z) fun tk => ⟨.bl b, H, I.tok tk, rfl, q⟩
end
end Le

set_option Elab.async false
set_option linter.all false
set_option maxRecDepth 100000
set_option maxHeartbeats 4000000
/-! try with several except clauses, each with or without a name. -/
namespace Lt
open PySem PySem.Spec PyProof.Rows L2
/-- one clause: the class, the slot of its name if it has one, what its suite asks -/
abbrev Cl := Value × Option Nat × (Addr → Value → Option Addr → TS)
/-- the ends of a suite: the name's slot is emptied -/
def emptied (D : Ends) (o : Option Nat) : Ends := match o with
  | none => D
  | some i => { nx := fun σ' H' => D.nx (σ'.set i none) H', rt := D.rt, bk := fun σ' H' => D.bk (σ'.set i none) H', ct := fun σ' H' => D.ct (σ'.set i none) H' }
def named (o : Option Nat) (a : Addr) (σ : L2.St) : L2.St := match o with
  | none => σ
  | some i => σ.set i (some (.ref a))
/-- the wish of the clauses, one after the other -/
def wCls (K : PySem.W.Frag) (Wo : WX) (D : Ends) : List Cl → WX
  | [] => Wo
  | q :: r => fun cls d σ H => ∃ b, PySem.W.exmOne K cls q.1 = some b ∧ (b = true → ∀ a, H a = none → q.2.2 a cls d (emptied D q.2.1) (named q.2.1 a σ) H) ∧ (b = false → wCls K Wo D r cls d σ H)
/-- the clause's name is a local in slot i, or there is none -/
def NameAt (X : Cx) : Option Str → Option Nat → Prop
  | none, none => True
  | some n, some i => X.N[i]? = some n ∧ X.env.kindOf n = some .local
  | _, _ => False
inductive ClsOk (X : Cx) : List ExceptHandler → List Cl → Prop
  | nil : ClsOk X [] []
  | cons {x : Str} {nm : Option Str} {c : Value} {o : Option Nat} {ts : Addr → Value → Option Addr → TS} {b₀ : Stmt} {suite : List Stmt} {np pos' : Pos} {hds : List ExceptHandler} {l : List Cl} (hc : Names X x c) (hn : NameAt X nm o)
      (hsu : ∀ (a : Addr) (oe : Obj) (cls : Value) (d : Option Addr) (pn : List (Addr × Obj)), Zc cls d oe → (∃ vs, oe.data = .fields vs) → PSs (X.suite a ((a, oe) :: pn)) (b₀ :: suite) (ts a cls d)) (r : ClsOk X hds l) :
      ClsOk X (.ExceptHandler (some (.Name x np)) nm (b₀ :: suite) pos' :: hds) ((c, o, ts) :: l)
section
variable {X : Cx} {pins : List (Addr × Obj)} {D : Ends} {Wo : WX}
/-- the clauses are asked -/
theorem asks (tk : Takes X Wo) (hs : X.stack = X.env :: X.outer) (hf : X.env.frame = some X.env.locals) (hN : X.N.Nodup) {B : Heap} {s' : Shared} {h3 : Heap} {a : Addr} {σ : L2.St} {H : Hp} {cls : Value} {d : Option Addr}
    (J3 : ∀ h4, HandSPX.FlyingZ B (X.env :: X.outer) a (Zc cls d) h4 → h3.UpToSlots h4 → Inv X pins σ H { s' with heap := h4 })
    (out : ∀ h4, HandSPX.HeldZ B (X.env :: X.outer) a (Zc cls d) X.env.locals h4 → h3.UpToSlots h4 → Wo cls d σ H → XE X Wo (.ref a) { s' with heap := h4 })
    (fl : HandSPX.FlyingZ B (X.env :: X.outer) a (Zc cls d) h3) (na : H a = none) {hds : List ExceptHandler} {l : List Cl} (ok : ClsOk X hds l) (want : wCls X.K Wo D l cls d σ H) :
    wpAny (model X.prog X.w) X.A (handleBy (.ref a) X.env hds) (SP X pins D) X.xe { s' with heap := h3 } := by
  have I3 := J3 h3 fl (Heap.UpToSlots.refl _)
  have frame : ∀ {h : Heap} {o : Obj} {vs : Array Value}, h.FunFrames B (X.env :: X.outer) → h.get? a = some o → o.data = .fields vs → a ∉ frs (X.env :: X.outer) := by
    intro h o vs ff e dd hm
    obtain ⟨_, o2, e2, out2⟩ := ff.mem hm
    rw [e] at e2
    cases e2
    exact out2 _ dd
  obtain ⟨oe3, vs3, he3, hz3, hd3⟩ := fl.there
  have nfr := frame fl.2.2.1 he3 hd3
  have nL : a ≠ X.env.locals := fun z => nfr (List.mem_filterMap.mpr ⟨X.env, List.mem_cons_self, by rw [hf, z]⟩)
  have nF : a ∉ X.fs := by
    intro hm
    obtain ⟨e, he, q⟩ := List.mem_filterMap.mp hm
    exact nfr (List.mem_filterMap.mpr ⟨e, List.mem_cons_of_mem _ he, q⟩)
  have S3 := I3.suite he3 hd3 na nL nF
  have LT : PySem.W.Looks (model X.prog X.w) h3 (typeOf (.ref a)) cls := fun A Q E s k q => wpAny_typeOf_ref (k _ _ he3) (by rw [hz3.1]; exact q)
  induction ok with
  | nil =>
    refine wpAny_handleBy_nil ?_
    obtain ⟨k1, k2, k3, oe, vs, T, oT, ts2, he, hz, hd, h1, hr⟩ := id fl
    unfold PySem.passOn
    refine wpAny_bind (wpAny_field he hd h1 ?_)
    rw [if_neg (show ¬ ((Value.ref T == Value.none) = true) from by simp)]
    have fin : wpAny (model X.prog X.w) X.A (setFlight (.ref a) X.env.frame) (fun _ s4 => wpAny (model X.prog X.w) X.A (throw (.ref a) : Sem Flow) (SP X pins D) X.xe s4) X.xe { s' with heap := h3 } := by
      rw [hf]
      exact HandSPX.setFlight_upZ fl fun h4 hh4 up4 => wpAny_throw (tk _ _ (out h4 hh4 up4 want))
    first
      | exact wpAny_bind (wpAny_pure (wpAny_bind fin))
      | exact wpAny_bind fin
  | @cons x nm c o ts b₀ suite np pos' hds2 l2 hc hn hsu r ih =>
    obtain ⟨b, hb1, yes, no⟩ := want
    refine wpAny_handleBy_cons (codeAny_handlers_test ?_) (by intro q; cases q)
    have LM := PySem.W.exm_one (M := model X.prog X.w) (I3.kIn) LT hb1
    have test : ∀ {Q E : Value → Shared → Prop}, Q c { s' with heap := h3 } → wpAny (model X.prog X.w) (X.A.mark (some (.ref a))) (eval (.Name x np) X.env) Q E { s' with heap := h3 } := by
      intro Q E q
      obtain ⟨hg, hdbg, hm | ⟨hm, hv, hnn⟩⟩ := hc
      · exact ld_glob (X := X.suite a ((a, oe3) :: (X.pn ++ pins))) S3 hg hm q hdbg
      · exact ld_blt (X := X.suite a ((a, oe3) :: (X.pn ++ pins))) S3 hg hm hv q hnn hdbg
    refine test (LM.here ?_)
    cases b with
    | false => exact ih (no rfl)
    | true =>
      have want2 := yes rfl a na
      cases nm with
      | none =>
        cases o with
        | some i => exact hn.elim
        | none =>
          refine codeAny_handlers_suite (HandSPX.lands_againZ fl fun h4 fl4 up4 => ?_)
          obtain ⟨oe4, vs4, he4, hz4, hd4⟩ := fl4.there
          have S4 := (J3 h4 fl4 up4).suite he4 hd4 na nL nF
          refine wpAny_mono ((hsu a oe4 cls d (X.pn ++ pins) hz4 ⟨_, hd4⟩).run [] _ _ H _ S4 want2) (fun f s6 hsp => ?_) (fun _ _ z => False.elim z)
          cases f
          all_goals
            first
              | (obtain ⟨σ6, H6, S6, q6⟩ := hsp; exact ⟨_, _, S6.unsuite I3.ok, q6⟩)
              | (obtain ⟨v6, σ6, H6, S6, r6, q6⟩ := hsp; exact ⟨_, _, _, S6.unsuite I3.ok, r6, q6⟩)
      | some n =>
        cases o with
        | none => exact hn.elim
        | some i =>
          obtain ⟨hi, hln⟩ := hn
          refine codeAny_handlers_suite_as (HandSPX.lands_againZ fl fun h4 fl4 up4 => ?_)
          obtain ⟨oe4, vs4, he4, hz4, hd4⟩ := fl4.there
          have S4 := (J3 h4 fl4 up4).suite he4 hd4 na nL nF
          refine store_ok (X := X.suite a ((a, oe4) :: (X.pn ++ pins))) (v := .ref a) S4 hN hi (.inl hln) rfl (fun s5 S5 => ?_) (.inr hln)
          refine wpAny_mono ((hsu a oe4 cls d (X.pn ++ pins) hz4 ⟨_, hd4⟩).run [] s5 _ H _ S5 want2) (fun f s6 hsp => ?_) (fun _ _ z => False.elim z)
          cases f
          all_goals
            first
              | (obtain ⟨σ6, H6, S6, q6⟩ := hsp; exact gone_ok (S6.unsuite I3.ok) hN hi hln fun s7 J7 => ⟨_, _, J7, q6⟩)
              | (obtain ⟨v6, σ6, H6, S6, r6, q6⟩ := hsp; exact gone_ok (S6.unsuite I3.ok) hN hi hln fun s7 J7 => ⟨_, _, _, J7, r6, q6⟩)
theorem ps_try_cls {body : List Stmt} {h₀ : ExceptHandler} {hds : List ExceptHandler} {l : List Cl} {pos : Pos} {tb : WX → TS} (hs : X.stack = X.env :: X.outer) (hf : X.env.frame = some X.env.locals) (hN : X.N.Nodup) (tk : Takes X Wo)
    (hb : ∀ (W : WX) (pn : List (Addr × Obj)) (xe : Value → Shared → Prop), Takes (X.tr pn xe) W → PassesOwn (model X.prog X.w) X.A X.env xe → PSs (X.tr pn xe) body (tb W))
    (hh : ClsOk X (h₀ :: hds) l) : PS X (.Try body (h₀ :: hds) [] [] pos) (fun D σ H => tb (wCls X.K Wo D l) D σ H) := by
  refine ⟨fun pins s σ H D I h => ?_⟩
  have ok := I.ok
  have hfr : X.A.frames = some (X.env :: X.outer) := ok.frames.trans (congrArg some hs)
  refine wpAny_Try_except (wpAny_mono ((hb (wCls X.K Wo D l) (X.pn ++ pins) (fun e s₁ => wpAny (model X.prog X.w) X.A (noteFrame e X.env) (fun _ s₂ => wpAny (model X.prog X.w) X.A (setFlight e none)
    (fun _ s₃ => wpAny (model X.prog X.w) X.A (handleBy e X.env (h₀ :: hds)) (SP X pins D) X.xe s₃) X.xe s₂) X.xe s₁) (fun u s' xx => ?_) PassesOwn.looking).run [] s σ H D (I.toTry _) h) (fun f s1 hsp => ?_) (fun e s1 he => he))
  · obtain ⟨a, B, sI, pins', σ', H', cls, d, rfl, J', nb, up, sky, na, os, ag, w⟩ := xx
    have J : Inv X pins σ' H' sI := J'.ofTry ok
    refine Sky.land (s := s') (E₁ := X.xe) Zc.steady hfr hf (hs ▸ sky) fun h3 fl3 up3 => ?_
    refine asks tk hs hf hN (B := B) (fun h4 fl4 up4 => J.landed nb fl4.1 ((up.trans up3).trans up4) os ag) (fun h4 hh4 up4 wo => ?_) fl3 na hh w
    exact ⟨a, B, sI, pins, σ', H', cls, d, rfl, J, nb, (up.trans up3).trans up4, .inr (.inr (hs.symm ▸ hh4)), na, os, ag, wo⟩
  · cases f
    case next =>
      obtain ⟨σ', H', J', q⟩ := hsp
      exact wpAny_execs_nil ⟨σ', H', J'.ofTry ok, q⟩
    case ret u =>
      obtain ⟨v, σ', H', J', r, q⟩ := hsp
      exact ⟨v, σ', H', J'.ofTry ok, r, q⟩
    all_goals
      obtain ⟨σ', H', J', q⟩ := hsp
      exact ⟨σ', H', J'.ofTry ok, q⟩
end
end Lt

set_option Elab.async false
set_option linter.all false
set_option maxRecDepth 100000
set_option maxHeartbeats 4000000
/-! repr of data, where nothing is being shown already; a law that is called where nothing is being shown. -/
namespace Lg
open PySem PySem.Spec PyProof.Rows L2 LamX GxR
/-- repr of data at any depth -/
def rRepr (K : PySem.W.Frag) : List V → Hp → VK → Prop := fun xs H Q => ∃ (a : Addr) (d : PyData), xs = [.ref a] ∧ Dp K H (.ref a) d ∧ d.showable = true ∧ SeqAt.shaped d = true ∧ d.shown.length ≤ sizeLine ∧ Q (.str d.shown) H
theorem call_repr {X : Cx} (hg : X.A.guards = some []) (hu : X.A.units + 66 < cLine) : CallR X (.builtin "repr") (rRepr X.K) := by
  intro pins s σ H xs us Q I r h
  obtain ⟨a, d, rfl, hd, show_, shp, sz, q⟩ := h
  obtain ⟨u, rfl, rx⟩ := vals1 r
  obtain rfl : u = Value.ref a := rx
  obtain ⟨as, r1⟩ := Dp.reads I d _ _ hd rfl
  have dep := SeqAt.depth_of_shaped shp
  refine repr_of_reads' r1 show_ (PyData.noDict_hsm (PyData.hasDict_of_canLay d (SeqAt.canLay_of_shaped shp))) hg (by omega) (fun _ _ e => e) (fun h2 v tk up => ?_) sz
  exact ⟨.str _, H, I.kept up, ⟨v, rfl⟩, q⟩
/-- the def at fa keeps sp where it is called by no def at all -/
structure Top (P : Program) (w : World) (K : PySem.W.Frag) (mg : Str → Option Value) (base : Heap) (CX : CXT) (fa : Addr) (fd : FuncData) (ps : List Str) (sp : Sp) : Prop where
  len : ∀ vs H Q E, sp vs H Q E → vs.length = ps.length
  run : ∀ (s : Shared) (H : Hp) (args : Args) (us : List Value) (vs : List V) (Q : VK) (E : XK), Env0 P w K mg base callerA [] s H → BindsTo s fd args (ps.zip us) → Vals vs us → sp vs H Q E →
    codeAny (model P w) callerA (.call (.ref fa) args) (CR CX [] P w H s Q E) s
section
variable {P : Program} {w : World} {K : PySem.W.Frag} {mg : Str → Option Value} {base : Heap}
theorem top_ok {x qual : Str} {st : Stmt} {f : Addr} {fd : FuncData} {N ps : List Str} {k : Nat} {sp : Sp} (F : Fun K x qual st f fd) (S : FnScope N ps (defScope st)) (room : Room (k + 1) callerA) (len : ∀ vs H Q E, sp vs H Q E → vs.length = ps.length)
    (hbody : ∀ (cdv : Value) (s : Shared) (H : Hp) (vs : List V) (Q : VK) (E : XK), Room k (callerA.deeper (envOfC qual (defScope st) s.heap.objs.size f cdv)) → sp vs H Q E →
      ∃ t, PSs (cxOf CX0 P w K mg base N qual (defScope st) f cdv callerA [] s H E).nox (defBody st) t ∧ t { nx := fun _ H' => Q .non H', rt := Q } (start N vs) H) : Top P w K mg base CX0 f fd ps sp := by
  obtain ⟨oc, od, kV, doc, pm, an, cdv, ct, osl, rfl, lk, code⟩ := F.ex
  refine ⟨len, fun s H args us vs Q E e0 bind rel want => ?_⟩
  have count := len _ _ _ _ want
  have inK : K.In s.heap := e0.mod.kin.keeps fun b o e => (e0.bs b o e).1
  have lim : s.heap.NoLimit := e0.mod.nolimit.keeps fun b o e => (e0.bs b o e).1
  have kinds : ∀ y ∈ ps.zip us, (defScope st).names.lookup y.1 = some .local ∨ ((defScope st).names.lookup y.1 = some .cell ∧ ((cellsFrom (s.heap.objs.size + 1) (defScope st).names []).lookup y.1).isSome = true) := by
    rintro ⟨n, v⟩ hy
    exact (S.par n (List.of_mem_zip hy).1).imp_right fun q => ⟨q, PySem.W.cellsFrom_some _ _ _ (.inl q)⟩
  refine codeAny_call_function room.depth (inK _ _ lk) rfl S.co S.gen rfl (PySem.W.codeRec_of inK code) (bind _ _ _ _ ?_)
  refine wpAny_newFunctionEnv_cells S.kind kinds fun env made s1 x => ?_
  subst made
  refine ⟨lim.keeps x.toInCall.keep, codeAny_func ?_⟩
  obtain ⟨t, body, reads⟩ := hbody cdv s H vs Q E (room.deeper _) want
  have I : Inv (cxOf CX0 P w K mg base N qual (defScope st) f cdv callerA [] s H E) [] (start N vs) H s1 := inv_start S room.hd e0 count rel x
  refine wpAny_mono (body.nox.run [] s1 (start N vs) H _ I reads) (fun fl s2 ends => ?_) fun e s2 z => z
  cases fl with
  | brk =>
    obtain ⟨_, _, _, z⟩ := ends
    exact False.elim z
  | cont =>
    obtain ⟨_, _, _, z⟩ := ends
    exact False.elim z
  | next =>
    obtain ⟨σ2, H2, J, q⟩ := ends
    exact ⟨V.non, H2, J.os, J.bare, J.base, J.hok, rfl, q⟩
  | ret u =>
    obtain ⟨v, σ2, H2, J, rv, q⟩ := ends
    exact ⟨v, H2, J.os, J.bare, J.base, J.hok, rv, q⟩
/-- an object that is no table's and no list's is as it is where tables and the script are hidden -/
theorem top_call {cs : List (Addr × Addr)} {fd : FuncData} {x : Str} {sp : Sp} {t1 : Shared} {mb : Str → Option Value} {vals : List Value} {nums : List Int} {fa a : Addr} (inK : K.In t1.heap) (top : t1.heap.Ns mainGlobals mg) (blt : t1.heap.Ns builtinsNs mb) (sameB : ∀ x : Str, x ≠ "__name__" → mb x = bootBuiltins x)
    (lim : t1.heap.NoLimit) (noGens : t1.gens = #[]) (tabs : ∀ p ∈ cs, t1.heap.get? p.2 = some { cls := .none, data := .fields #[] }) (tabsK : ∀ p ∈ cs, K.lookup p.2 = none) (codes : ∀ p ∈ cs, PySem.W.CodeHd t1.heap p.1 p.2)
    (modB : ∃ (bm : Addr) (ob : Obj), mg "__builtins__" = some (.ref bm) ∧ bm ≠ builtinsNs ∧ t1.heap.get? bm = some ob ∧ ob.cls = .type "module" ∧ ob.dict = some builtinsNs ∧ ob.data = .plain)
    (script : t1.heap.get? a = some { cls := .type "list", data := .seq vals.toArray }) (areInts : IntsAre vals nums) (fits : nums.length ≤ sizeLine)
    (F : ∀ base : Heap, K.In base → base.Ns mainGlobals mg → (∀ p ∈ cs, LamX.TabB base mg p.1 p.2) → Top P w K mg base CX0 fa fd [x] sp) (bind : ∀ (s : Shared) (u : Value), BindsTo s fd ⟨[u], []⟩ [(x, u)])
    (want : ∀ H : Hp, (∀ p ∈ cs, H p.2 = some (.tbl #[])) → SqL K H a (nums.map V.int) → sp [.ref a] H (fun v _ => v = .bl true) fun _ _ _ => False) :
    codeAny (model P w) callerA (.call (.ref fa) ⟨[.ref a], []⟩) (fun r s' => r = .ok (.ret (.bool true)) ∧ OldK t1.heap s'.heap ∧ s'.os = t1.os ∧ AllBare s'.gens) t1 := by
  have rel := vals_ints areInts
  have lenV := areInts.length
  let Tm := cs.map (·.2)
  let lst : Obj := { cls := .type "list", data := .seq vals.toArray }
  have memT : ∀ p ∈ cs, p.2 ∈ Tm := fun p hp => List.mem_map.mpr ⟨p, hp, rfl⟩
  have isT : ∀ b ∈ Tm, ∃ p ∈ cs, p.2 = b ∧ t1.heap.get? b = some { cls := .none, data := .fields #[] } := fun b mem => by
    obtain ⟨p, hp, rfl⟩ := List.mem_map.mp mem
    exact ⟨p, hp, rfl, tabs p hp⟩
  have aT : a ∉ Tm := fun mem => by
    obtain ⟨_, _, _, e⟩ := isT a mem
    have := (congrArg Obj.data (Option.some.inj (script.symm.trans e)))
    cases this
  -- the tables, and the script unless it is written: nothing else is tracked
  obtain ⟨H, hT, hS, cases_⟩ : ∃ H : Hp, (∀ p ∈ cs, H p.2 = some (.tbl #[])) ∧ SqL K H a (nums.map V.int) ∧ ∀ b u, H b = some u → (b ∈ Tm ∧ u = .tbl #[]) ∨ (b = a ∧ K.lookup a = none ∧ u = .frz lst (.lst (nums.map V.int))) := by
    cases at_ : K.lookup a with
    | some o =>
      have e := inK a o at_
      rw [script] at e
      cases e
      refine ⟨fun b => if b ∈ Tm then some (.tbl #[]) else none, fun p hp => if_pos (memT p hp), .inr ⟨_, vals.toArray, _, at_, rfl, rfl, rfl, by rw [List.size_toArray, lenV]; exact fits, by simpa using rel⟩, fun b u z => ?_⟩
      by_cases mem : b ∈ Tm
      · exact .inl ⟨mem, (Option.some.inj ((if_pos mem).symm.trans z)).symm⟩
      · cases (if_neg mem).symm.trans z
    | none =>
      refine ⟨fun b => if b ∈ Tm then some (.tbl #[]) else if b = a then some (.frz lst (.lst (nums.map V.int))) else none, fun p hp => if_pos (memT p hp), .inl (.inr ⟨lst, (if_neg aT).trans (if_pos rfl)⟩), fun b u z => ?_⟩
      by_cases mem : b ∈ Tm
      · exact .inl ⟨mem, (Option.some.inj ((if_pos mem).symm.trans z)).symm⟩
      · have z2 := (if_neg mem).symm.trans z
        by_cases e : b = a
        · exact .inr ⟨e, rfl, (Option.some.inj ((if_pos e).symm.trans z2)).symm⟩
        · cases (if_neg e).symm.trans z2
  have off : ∀ {b : Addr} {o : Obj}, t1.heap.get? b = some o → o.data ≠ .fields #[] → (b = a → K.lookup a = none → False) → H b = none := fun {b o} e d n => by
    cases q : H b with
    | none => rfl
    | some u =>
      rcases cases_ b u q with ⟨mem, _⟩ | ⟨e2, k, _⟩
      · obtain ⟨_, _, _, e3⟩ := isT b mem
        rw [e3] at e
        cases e
        exact (d rfl).elim
      · exact (n e2 k).elim
  have offD : ∀ {b : Addr} {o : Obj}, t1.heap.get? b = some o → o.data ≠ .fields #[] → o.data ≠ .seq vals.toArray → H b = none := fun {b o} e d1 d2 => off e d1 fun e2 _ => by
    rw [e2, script] at e
    cases e
    exact d2 rfl
  have ok : HOk P w H t1.heap := fun b u z => by
    rcases cases_ b u z with ⟨mem, rfl⟩ | ⟨rfl, _, rfl⟩
    · obtain ⟨_, _, _, e⟩ := isT b mem
      exact e
    · exact ⟨script, by rw [List.length_map]; exact fits, vals, _, rel, script⟩
  have nsB : ∀ {b : Addr} {m : Str → Option Value}, t1.heap.Ns b m → (hidT t1.heap H).Ns b m := fun {b m} ⟨o, es, ep, e, d, r⟩ => by
    refine ⟨o, es, ep, hidT_get e (offD e ?_ ?_), d, r⟩
    · rw [d]
      intro z
      cases z
    · rw [d]
      intro z
      cases z
  have inB : K.In (hidT t1.heap H) := fun b o e => by
    refine hidT_get (inK b o e) ?_
    cases q : H b with
    | none => rfl
    | some u =>
      rcases cases_ b u q with ⟨mem, _⟩ | ⟨e2, k, _⟩
      · obtain ⟨p, hp, e3, _⟩ := isT b mem
        rw [← e3, tabsK p hp] at e
        cases e
      · rw [e2, k] at e
        cases e
  have tabB : ∀ p ∈ cs, LamX.TabB (hidT t1.heap H) mg p.1 p.2 := fun p hp => by
    obtain ⟨og, eg, epg, atG, dG, _⟩ := id top
    have tp := tabs p hp
    refine ⟨?_, ?_, fun z => ?_⟩
    · obtain ⟨o, us, file, tf, flags, tg, inF, text, tt, e1, r1, r2, r3, r4, r5, r6, r7, r8, ne⟩ := codes p hp
      refine ⟨o, us, file, tf, flags, tg, inF, text, tt, hidT_get e1 (offD e1 ?_ ?_), r1, r2, r3, r4, r5, r6, r7, r8, ne⟩
      · rw [r2]
        intro z
        cases z
        simp at r3
      · rw [r2]
        intro z
        cases z
    · obtain ⟨bm, ob, b1, b2, b3, b4, b5, b6⟩ := modB
      refine ⟨bm, ob, b1, b2, fun q => ?_, fun q => ?_, hidT_get b3 (offD b3 (by rw [b6]; intro z; cases z) (by rw [b6]; intro z; cases z)), b4, b5, b6⟩
      · rw [q, atG] at b3
        cases b3
        rw [dG] at b6
        cases b6
      · rw [q, tp] at b3
        cases b3
        cases b6
    · rw [z, tp] at atG
      cases atG
      cases dG
  have env0 : Env0 P w K mg (hidT t1.heap H) callerA [] t1 H := ⟨rfl, ⟨inB, nsB top, ⟨mb, nsB blt, sameB⟩, let ⟨mc, h1, h2⟩ := lim; ⟨mc, nsB h1, h2⟩⟩, fun b o e => of_hidT e, Nat.le_of_eq (hidT_size _ _), trivial, fun b hb => (List.not_mem_nil hb).elim, ok, .of_eq noGens⟩
  refine codeAny_mono ((F _ inB (nsB top) tabB).run t1 H ⟨[.ref a], []⟩ [.ref a] [.ref a] _ _ env0 (bind t1 (.ref a)) (.cons rfl .nil) (want H hT hS)) fun r s2 left => ?_
  cases r with
  | error e => exact (show False from left).elim
  | ok fl =>
    cases fl with
    | next => exact (show False from left).elim
    | brk => exact (show False from left).elim
    | cont => exact (show False from left).elim
    | ret u =>
      obtain ⟨v, H2, os2, bare2, un, ok2, ru, isTrue_⟩ := left
      obtain rfl : v = .bl true := isTrue_
      obtain rfl : u = Value.bool true := ru
      have grown : ∀ p ∈ cs, ∃ more : Array Value, s2.heap.get? p.2 = some { cls := .none, data := .fields more } := fun p hp => by
        obtain ⟨more, z⟩ := un.tbls p.2 #[] (hT p hp)
        exact ⟨_, ok2 p.2 _ z⟩
      have kept : ∀ b o, b ∉ Tm → t1.heap.get? b = some o → s2.heap.get? b = some o := fun b o out e => by
        cases q : H b with
        | none => exact un.keep b o e q (fun z => (List.not_mem_nil z).elim) (fun z => (List.not_mem_nil z).elim)
        | some u =>
          rcases cases_ b u q with ⟨mem, _⟩ | ⟨_, _, rfl⟩
          · exact (out mem).elim
          · obtain ⟨e1, _⟩ := ok b _ q
            obtain ⟨e2, _⟩ := ok2 b _ (un.frzs b _ _ q)
            rw [e] at e1
            cases e1
            exact e2
      refine ⟨rfl, ⟨fun b o e => ?_, fun b o e => ?_⟩, os2, bare2⟩
      · by_cases mem : b ∈ Tm
        · obtain ⟨p, hp, rfl, at_⟩ := isT b mem
          obtain ⟨more, hm⟩ := grown p hp
          rw [at_] at e
          cases e
          exact .inr (.inl ⟨((codes p hp).tab at_).isCodeTable, rfl, #[], more, rfl, by rw [Array.empty_append]; exact hm⟩)
        · exact .inl (kept b o mem e)
      · by_cases mem : b ∈ Tm
        · obtain ⟨p, hp, rfl, _⟩ := isT b mem
          obtain ⟨more, hm⟩ := grown p hp
          exact ⟨_, hm⟩
        · exact ⟨o, kept b o mem e⟩
end
/-- what is known of the law's promise at the head's heap -/
def LawTop (l : PySem.W.OpenLaw) (w : World) (K : PySem.W.Frag) (n : Nat) (x : Str) (mg : Str → Option Value) (fa : Addr) (h : Heap) : Prop :=
  ∃ (fd : FuncData) (cs : List (Addr × Addr)) (sp : Sp), (∀ p ∈ cs, PySem.W.CodeHd h p.1 p.2 ∧ h.get? p.2 = some { cls := .none, data := .fields #[] } ∧ K.lookup p.2 = none) ∧ (∀ (s : Shared) (u : Value), BindsTo s fd ⟨[u], []⟩ [(x, u)]) ∧
    (∀ (H : Hp) (a : Addr) (ns : List Int), ns.length ≤ n → (∀ p ∈ cs, H p.2 = some (.tbl #[])) → SqL K H a (ns.map V.int) → sp [.ref a] H (fun v _ => v = .bl true) fun _ _ _ => False) ∧
    ∀ base : Heap, K.In base → base.Ns mainGlobals mg → (∀ p ∈ cs, LamX.TabB base mg p.1 p.2) → Top l.prog w K mg base CX0 fa fd [x] sp
theorem walk_top {l : PySem.W.OpenLaw} {n : Nat} {q : Program} {loose : List Str} {XP : (Str → Option Value) → Heap → Prop} {YP : World → Heap → Prop} {d : PySem.DefRec} {K : Params → PySem.W.Frag} {x : Str}
    (most : l.most = some n) (fits : n ≤ sizeLine) (plain : d.params.defaults = []) (hY : ∀ (w : World) (h : Heap), YP w h → (K w.params).In h)
    (F : ∀ (w : World) (mg : Str → Option Value) (fa : Addr) (h : Heap), YP w h → (K w.params).In h → h.Ns mainGlobals mg → mg d.name = some (.ref fa) →
      (∀ (y : Str) (d' : PySem.DefRec) (c T : Addr), (recsOf q).find? (fun e => e.name == y) = some d' → PySem.W.tabIn (K w.params) y = some (c, T) → PySem.W.CodeHd h c T ∧ h.get? T = some { cls := .none, data := .fields #[] }) → LawTop l w (K w.params) n x mg fa h) :
    PySem.W.WalkO q loose XP YP l.row.toRowW d [] (fun f vs => PySem.call f vs) := by
  refine Att.attach_callB most plain fun w s₀ s1 mg mb fa o pm cd doc a vs ns G Y ho hd hcd hmg hobj hints hlen hbits hg => ?_
  have inK := hY w _ Y
  obtain ⟨fd, cs, sp, tabs, bind, want, prom⟩ := F w mg fa _ Y inK G.T.g hmg fun y d' c T found at_ => PySem.W.tab_of G.T inK found at_
  exact top_call inK G.T.g G.T.b G.T.builtins G.T.nolimit hg (fun p hp => (tabs p hp).2.1) (fun p hp => (tabs p hp).2.2) (fun p hp => (tabs p hp).1) G.T.bmain hobj hints (Nat.le_trans hlen fits) prom bind fun H hH hS => want H a ns hlen hH hS
end Lg

set_option Elab.async false
set_option linter.all false
set_option maxRecDepth 100000
set_option maxHeartbeats 4000000
/-! What names derive, reach, and their least rows: no program here. -/
namespace Ld
open PySem PySem.Spec PyProof.Rows L2 TL
def N4 : List Str := ["a", "bb", "s", "list"]
def K3 : List Str := ["A", "BB", "NUMBER"]
def GoodW (r : Rule) : Prop := r.1 ∈ N4 ∧ r.2.length ≤ 6 ∧ ∀ s ∈ r.2, s ∈ N4 ∨ s ∈ K3
theorem n4_name : N4.all nameB = true := by decide +kernel
theorem k3_sym : K3.all symB = true := by decide +kernel
theorem n4_sym : N4.all symB = true := by decide +kernel
theorem k3_not : ∀ s ∈ K3, s ∉ N4 := by decide +kernel
theorem GoodW.good {r : Rule} (h : GoodW r) : GoodR r := ⟨List.all_eq_true.mp n4_name _ h.1, h.2.1, List.all_eq_true.mpr fun s hs => (h.2.2 s hs).elim (fun z => List.all_eq_true.mp n4_sym _ z) fun z => List.all_eq_true.mp k3_sym _ z⟩
/-! ### counting -/
theorem nodup_le {α : Type} [DecidableEq α] : ∀ {l m : List α}, l.Nodup → (∀ x ∈ l, x ∈ m) → l.length ≤ m.length
  | [], _, _, _ => Nat.zero_le _
  | x :: l, m, nd, h => by
    have hx := h x List.mem_cons_self
    have h2 := nodup_le (l := l) (m := m.erase x) (List.nodup_cons.mp nd).2 fun y hy => by
      have ne : y ≠ x := fun e => (List.nodup_cons.mp nd).1 (e ▸ hy)
      exact (List.mem_erase_of_ne ne).mpr (h y (List.mem_cons_of_mem _ hy))
    have h3 := List.length_erase_of_mem hx
    have h4 := List.length_pos_of_mem hx
    rw [List.length_cons]
    omega
/-- the rules whose names are in D -/
def rulesIn (G : List Rule) (D : List Str) : Nat := (G.filter fun r => decide (r.1 ∈ D)).length
theorem rulesIn_le (G : List Rule) (D : List Str) : rulesIn G D ≤ G.length := List.length_filter_le _ _
theorem rulesIn_mono {G : List Rule} {D D2 : List Str} (h : ∀ n ∈ D, n ∈ D2) : rulesIn G D ≤ rulesIn G D2 := by
  unfold rulesIn
  induction G with
  | nil => exact Nat.le_refl _
  | cons r G ih =>
    rw [List.filter_cons, List.filter_cons]
    by_cases c : r.1 ∈ D
    · rw [if_pos (decide_eq_true c), if_pos (decide_eq_true (h _ c)), List.length_cons, List.length_cons]
      omega
    · rw [if_neg (fun z => c (of_decide_eq_true z))]
      split
      · rw [List.length_cons]
        omega
      · exact ih
theorem rulesIn_lt {G : List Rule} {D D2 : List Str} (h : ∀ n ∈ D, n ∈ D2) {q : Rule} (hq : q ∈ G) (n1 : q.1 ∉ D) (n2 : q.1 ∈ D2) : rulesIn G D < rulesIn G D2 := by
  unfold rulesIn
  induction G with
  | nil => cases hq
  | cons r G ih =>
    have mono := rulesIn_mono (G := G) h
    unfold rulesIn at mono
    rw [List.filter_cons, List.filter_cons]
    rcases List.mem_cons.mp hq with e | m
    · subst e
      rw [if_neg (fun z => n1 (of_decide_eq_true z)), if_pos (decide_eq_true n2), List.length_cons]
      omega
    · have := ih m
      by_cases c : r.1 ∈ D
      · rw [if_pos (decide_eq_true c), if_pos (decide_eq_true (h _ c)), List.length_cons, List.length_cons]
        omega
      · rw [if_neg (fun z => c (of_decide_eq_true z))]
        split
        · rw [List.length_cons]
          omega
        · exact this
/-! ### what derives, what is reached -/
inductive Der (G : List Rule) : Str → Prop
  | mk {n : Str} {ss : List Str} (h : (n, ss) ∈ G) (k : ∀ s ∈ ss, s ∈ N4 → Der G s) : Der G n
def ClosedD (G : List Rule) (D : List Str) : Prop := ∀ r ∈ G, (∀ s ∈ r.2, s ∈ N4 → s ∈ D) → r.1 ∈ D
theorem der_in {G : List Rule} {D : List Str} (c : ClosedD G D) {n : Str} (h : Der G n) : n ∈ D := by
  induction h with
  | mk h k ih => exact c _ h fun s hs hn => ih s hs hn
inductive Rea (G : List Rule) (n0 : Str) : Str → Prop
  | start : Rea G n0 n0
  | step {n s : Str} {ss : List Str} (h : Rea G n0 n) (r : (n, ss) ∈ G) (m : s ∈ ss) (k : s ∈ N4) : Rea G n0 s
def ClosedR (G : List Rule) (D : List Str) : Prop := ∀ r ∈ G, r.1 ∈ D → ∀ s ∈ r.2, s ∈ N4 → s ∈ D
theorem rea_in {G : List Rule} {n0 : Str} {D : List Str} (h0 : n0 ∈ D) (c : ClosedR G D) {n : Str} (h : Rea G n0 n) : n ∈ D := by
  induction h with
  | start => exact h0
  | step h r m k ih => exact c _ r ih _ m k
/-! ### rows of kinds, by number -/
def dig (s : Str) : Nat := if s = "A" then 1 else if s = "BB" then 2 else 3
theorem dig_lo (s : Str) : 1 ≤ dig s := by
  unfold dig
  split
  · decide
  · split <;> decide
theorem dig_hi (s : Str) : dig s ≤ 3 := by
  unfold dig
  split
  · decide
  · split <;> decide
def val : List Str → Nat
  | [] => 0
  | x :: a => dig x * 4 ^ a.length + val a
theorem val_hi : ∀ a : List Str, val a < 4 ^ a.length
  | [] => by decide
  | x :: a => by
    have h1 := val_hi a
    have h2 := dig_hi x
    have h3 : dig x * 4 ^ a.length ≤ 3 * 4 ^ a.length := Nat.mul_le_mul_right _ h2
    show dig x * 4 ^ a.length + val a < 4 ^ (a.length + 1)
    rw [Nat.pow_succ]
    omega
theorem val_lo : ∀ a : List Str, 4 ^ a.length ≤ 3 * val a + 1
  | [] => by decide
  | x :: a => by
    have h1 := val_lo a
    have h2 := dig_lo x
    have h3 : 1 * 4 ^ a.length ≤ dig x * 4 ^ a.length := Nat.mul_le_mul_right _ h2
    show 4 ^ (a.length + 1) ≤ 3 * (dig x * 4 ^ a.length + val a) + 1
    rw [Nat.pow_succ]
    omega
theorem val_len {a b : List Str} (h : val a ≤ val b) : a.length ≤ b.length := by
  refine Nat.le_of_not_lt fun lt => ?_
  have h1 := val_lo a
  have h2 := val_hi b
  have h3 : 4 ^ (b.length + 1) ≤ 4 ^ a.length := Nat.pow_le_pow_right (by decide) lt
  rw [Nat.pow_succ] at h3
  omega
theorem val_app : ∀ a b : List Str, val (a ++ b) = val a * 4 ^ b.length + val b
  | [], b => by simp [val]
  | x :: a, b => by
    show dig x * 4 ^ (a ++ b).length + val (a ++ b) = (dig x * 4 ^ a.length + val a) * 4 ^ b.length + val b
    rw [val_app a b, List.length_append, Nat.pow_add, Nat.add_mul, Nat.mul_assoc]
    omega
theorem val_mono_l {a a2 : List Str} (b : List Str) (h : val a ≤ val a2) : val (a ++ b) ≤ val (a2 ++ b) := by
  rw [val_app, val_app]
  have := Nat.mul_le_mul_right (4 ^ b.length) h
  omega
theorem val_mono_r (a : List Str) {b b2 : List Str} (h : val b ≤ val b2) : val (a ++ b) ≤ val (a ++ b2) := by
  rw [val_app, val_app]
  have hl := Nat.pow_le_pow_right (show 0 < 4 by decide) (val_len h)
  have := Nat.mul_le_mul_left (val a) hl
  omega
theorem val_lt_l {a a2 : List Str} (b : List Str) (h : val a < val a2) : val (a ++ b) < val (a2 ++ b) := by
  rw [val_app, val_app]
  have h0 : 0 < 4 ^ b.length := Nat.pow_pos (by decide)
  have := Nat.mul_lt_mul_of_pos_right h h0
  omega
theorem val_lt_r (a : List Str) {b b2 : List Str} (h : val b < val b2) : val (a ++ b) < val (a ++ b2) := by
  rw [val_app, val_app]
  have hl := Nat.pow_le_pow_right (show 0 < 4 by decide) (val_len (Nat.le_of_lt h))
  have := Nat.mul_le_mul_left (val a) hl
  omega
def KR (r : List Str) : Prop := ∀ k ∈ r, k ∈ K3
theorem dig_inj : ∀ x ∈ K3, ∀ y ∈ K3, dig x = dig y → x = y := by decide +kernel
theorem dig_lt : ∀ x ∈ K3, ∀ y ∈ K3, (x.cps.toList < y.cps.toList ↔ dig x < dig y) := by decide +kernel
theorem val_head {x y : Str} {a b : List Str} (hl : a.length = b.length) : (val (x :: a) < val (y :: b) ↔ dig x < dig y ∨ (dig x = dig y ∧ val a < val b)) := by
  have h1 := val_hi a
  have h2 := val_hi b
  show dig x * 4 ^ a.length + val a < dig y * 4 ^ b.length + val b ↔ _
  rw [← hl] at h2 ⊢
  generalize 4 ^ a.length = p at h1 h2
  constructor
  · intro h
    rcases Nat.lt_trichotomy (dig x) (dig y) with c | c | c
    · exact .inl c
    · refine .inr ⟨c, ?_⟩
      rw [c] at h
      omega
    · have : (dig y + 1) * p ≤ dig x * p := Nat.mul_le_mul_right _ c
      rw [Nat.add_mul] at this
      omega
  · rintro (c | ⟨c, d⟩)
    · have : (dig x + 1) * p ≤ dig y * p := Nat.mul_le_mul_right _ c
      rw [Nat.add_mul] at this
      omega
    · rw [c]
      omega
theorem val_inj : ∀ {a b : List Str}, KR a → KR b → val a = val b → a = b
  | [], [], _, _, _ => rfl
  | [], y :: b, _, _, h => by
    have := val_len (Nat.le_of_eq h.symm)
    simp at this
  | x :: a, [], _, _, h => by
    have := val_len (Nat.le_of_eq h)
    simp at this
  | x :: a, y :: b, ka, kb, h => by
    have l1 := val_len (Nat.le_of_eq h)
    have l2 := val_len (Nat.le_of_eq h.symm)
    have hl : a.length = b.length := by
      rw [List.length_cons, List.length_cons] at l1 l2
      omega
    have n1 : ¬ val (x :: a) < val (y :: b) := by omega
    have n2 : ¬ val (y :: b) < val (x :: a) := by omega
    rw [val_head hl] at n1
    rw [val_head hl.symm] at n2
    have hd : dig x = dig y := by
      rcases Nat.lt_trichotomy (dig x) (dig y) with c | c | c
      · exact (n1 (.inl c)).elim
      · exact c
      · exact (n2 (.inl c)).elim
    have ht : val a = val b := by
      rcases Nat.lt_trichotomy (val a) (val b) with c | c | c
      · exact (n1 (.inr ⟨hd, c⟩)).elim
      · exact c
      · exact (n2 (.inr ⟨hd.symm, c⟩)).elim
    have e1 := dig_inj x (ka x List.mem_cons_self) y (kb y List.mem_cons_self) hd
    have e2 := val_inj (fun k hk => ka k (List.mem_cons_of_mem _ hk)) (fun k hk => kb k (List.mem_cons_of_mem _ hk)) ht
    rw [e1, e2]
/-! ### the order of (length, row) -/
open PySem.W in
theorem rows_alike : ∀ a b : List Str, alikeAll (a.map PyData.str) (b.map PyData.str) = true
  | [], _ => by simp [alikeAll]
  | _ :: _, [] => by simp [alikeAll]
  | x :: a, y :: b => by
    rw [List.map_cons, List.map_cons, alikeAll, rows_alike a b]
    simp [alike]
open PySem.W in
theorem rows_lt : ∀ {a b : List Str}, KR a → KR b → a.length = b.length → lexLt itemOrd (keyToksAll (a.map PyData.str)) (keyToksAll (b.map PyData.str)) = decide (val a < val b)
  | [], [], _, _, _ => by decide +kernel
  | [], _ :: _, _, _, h => by simp at h
  | _ :: _, [], _, _, h => by simp at h
  | x :: a, y :: b, ka, kb, h => by
    have hl : a.length = b.length := by simpa using h
    have kx := ka x List.mem_cons_self
    have ky := kb y List.mem_cons_self
    have al : alike (.str x) (.str y) = true := by simp [alike]
    rw [List.map_cons, List.map_cons]
    by_cases e : x = y
    · have ev : PyData.eqv (.str x) (.str y) = true := by simp [PyData.eqv, e]
      rw [dataLt_all_yes al ev, rows_lt (fun k hk => ka k (List.mem_cons_of_mem _ hk)) (fun k hk => kb k (List.mem_cons_of_mem _ hk)) hl, Bool.eq_iff_iff, decide_eq_true_eq, decide_eq_true_eq, val_head hl, e]
      constructor
      · exact fun z => .inr ⟨rfl, z⟩
      · rintro (z | z)
        · omega
        · exact z.2
    · have ev : PyData.eqv (.str x) (.str y) = false := by simp [PyData.eqv, e]
      rw [dataLt_all_no al ev, dataLt_str, Bool.eq_iff_iff, decide_eq_true_eq, decide_eq_true_eq, dig_lt x kx y ky, val_head hl]
      constructor
      · exact fun z => .inl z
      · rintro (z | z)
        · exact z
        · exact (e (dig_inj x kx y ky z.1)).elim
def pairD (a : List Str) : PyData := .tuple [.int a.length, .list (a.map PyData.str)]
open PySem.W in
theorem pair_alike (a b : List Str) : alike (pairD a) (pairD b) = true := by
  unfold pairD
  simp [alike, alikeAll, rows_alike]
open PySem.W in
theorem pair_lt {a b : List Str} (ka : KR a) (kb : KR b) : dataLt (pairD a) (pairD b) = decide (val a < val b) := by
  unfold pairD
  rw [dataLt_tuple]
  have al : alike (.int a.length) (.int b.length) = true := by simp [alike]
  by_cases e : a.length = b.length
  · have ev : PyData.eqv (.int a.length) (.int b.length) = true := by simp [PyData.eqv, e]
    have al2 : alike (.list (a.map PyData.str)) (.list (b.map PyData.str)) = true := by rw [alike]; exact rows_alike a b
    rw [dataLt_all_yes al ev]
    by_cases e2 : a = b
    · have ev2 : PyData.eqv (.list (a.map PyData.str)) (.list (b.map PyData.str)) = true := by rw [PyData.eqv, strs_eqv, e2]; simp
      rw [dataLt_all_yes al2 ev2, e2]
      have : ¬ val b < val b := by omega
      rw [decide_eq_false this]
      decide +kernel
    · have ev2 : PyData.eqv (.list (a.map PyData.str)) (.list (b.map PyData.str)) = false := by rw [PyData.eqv, strs_eqv, decide_eq_false e2]
      rw [dataLt_all_no al2 ev2, dataLt_list]
      exact rows_lt ka kb e
  · have ev : PyData.eqv (.int a.length) (.int b.length) = false := by
      rw [PyData.eqv]
      exact beq_eq_false_iff_ne.mpr fun z => e (by omega)
    rw [dataLt_all_no al ev, dataLt_int, Bool.eq_iff_iff, decide_eq_true_eq, decide_eq_true_eq]
    constructor
    · intro z
      refine Nat.lt_of_not_le fun le => ?_
      have := val_len le
      omega
    · intro z
      have := val_len (Nat.le_of_lt z)
      omega
end Ld

set_option Elab.async false
set_option linter.all false
set_option maxRecDepth 100000
set_option maxHeartbeats 4000000
/-! The least rows of names, found in two ways. -/
namespace Ld
open PySem PySem.Spec PyProof.Rows L2 TL
abbrev RM := Str → Option (List Str)
def joinM (M : RM) : List Str → Option (List Str)
  | [] => some []
  | s :: ss => match (if s ∈ N4 then M s else some [s]), joinM M ss with
    | some p, some r => some (p ++ r)
    | _, _ => none
inductive Dv (G : List Rule) : Str ⊕ List Str → List Str → Prop
  | rule {n : Str} {ss r : List Str} (h : (n, ss) ∈ G) (d : Dv G (.inr ss) r) : Dv G (.inl n) r
  | nil : Dv G (.inr []) []
  | kind {s : Str} {ss r : List Str} (h : s ∉ N4) (d : Dv G (.inr ss) r) : Dv G (.inr (s :: ss)) ([s] ++ r)
  | name {s : Str} {ss p r : List Str} (h : s ∈ N4) (e : Dv G (.inl s) p) (d : Dv G (.inr ss) r) : Dv G (.inr (s :: ss)) (p ++ r)
section
variable {G : List Rule} {M : RM}
def SoundM (G : List Rule) (M : RM) : Prop := ∀ n r, M n = some r → Dv G (.inl n) r ∧ r.length ≤ 60
def ClosedM (G : List Rule) (M : RM) : Prop := ∀ n ss, (n, ss) ∈ G → ∀ J, joinM M ss = some J → J.length ≤ 60 → ∃ r, M n = some r ∧ val r ≤ val J
def LeastM (G : List Rule) (M : RM) : Prop := SoundM G M ∧ ∀ n r, Dv G (.inl n) r → r.length ≤ 60 → ∃ r2, M n = some r2 ∧ val r2 ≤ val r
theorem joinM_cons {s : Str} {ss J : List Str} (h : joinM M (s :: ss) = some J) : ∃ p r, (if s ∈ N4 then M s else some [s]) = some p ∧ joinM M ss = some r ∧ J = p ++ r := by
  rw [joinM] at h
  cases e1 : (if s ∈ N4 then M s else some [s]) with
  | none =>
    rw [e1] at h
    cases h
  | some p =>
    rw [e1] at h
    cases e2 : joinM M ss with
    | none =>
      rw [e2] at h
      cases h
    | some r =>
      rw [e2] at h
      exact ⟨p, r, rfl, rfl, (Option.some.inj h).symm⟩
theorem joinM_mk {s : Str} {ss p r : List Str} (h1 : (if s ∈ N4 then M s else some [s]) = some p) (h2 : joinM M ss = some r) : joinM M (s :: ss) = some (p ++ r) := by
  rw [joinM, h1, h2]
theorem joinM_dv (sd : SoundM G M) : ∀ {ss J : List Str}, joinM M ss = some J → Dv G (.inr ss) J
  | [], J, h => by
    cases h
    exact .nil
  | s :: ss, J, h => by
    obtain ⟨p, r, h1, h2, rfl⟩ := joinM_cons h
    have d := joinM_dv sd h2
    by_cases m : s ∈ N4
    · rw [if_pos m] at h1
      exact .name m (sd _ _ h1).1 d
    · rw [if_neg m] at h1
      cases h1
      exact .kind m d
theorem closed_least (c : ClosedM G M) {x : Str ⊕ List Str} {r : List Str} (h : Dv G x r) : r.length ≤ 60 → match x with
    | .inl n => ∃ r2, M n = some r2 ∧ val r2 ≤ val r
    | .inr ss => ∃ J, joinM M ss = some J ∧ val J ≤ val r := by
  induction h with
  | rule h d ih =>
    intro l
    obtain ⟨J, e, v⟩ := ih l
    obtain ⟨r2, e2, v2⟩ := c _ _ h J e (Nat.le_trans (val_len v) l)
    exact ⟨r2, e2, Nat.le_trans v2 v⟩
  | nil => exact fun _ => ⟨[], rfl, Nat.le_refl _⟩
  | kind h d ih =>
    intro l
    rw [List.length_append] at l
    obtain ⟨J, e, v⟩ := ih (by omega)
    exact ⟨_, joinM_mk (if_neg h) e, val_mono_r _ v⟩
  | name h e d ih1 ih2 =>
    intro l
    rw [List.length_append] at l
    obtain ⟨p2, e1, v1⟩ := ih1 (by omega)
    obtain ⟨J, e2, v2⟩ := ih2 (by omega)
    exact ⟨_, joinM_mk ((if_pos h).trans e1) e2, Nat.le_trans (val_mono_r _ v2) (val_mono_l _ v1)⟩
theorem least_closed (sd : SoundM G M) (c : ClosedM G M) : LeastM G M := ⟨sd, fun _ _ d l => closed_least c d l⟩
theorem dv_kr (g : ∀ r ∈ G, GoodW r) {x : Str ⊕ List Str} {r : List Str} (h : Dv G x r) : match x with
    | .inl _ => KR r
    | .inr ss => (∀ s ∈ ss, s ∈ N4 ∨ s ∈ K3) → KR r := by
  induction h with
  | rule h d ih => exact ih (g _ h).2.2
  | nil => exact fun _ _ m => nomatch m
  | kind h d ih =>
    intro k x m
    rcases List.mem_append.mp m with z | z
    · rw [List.mem_singleton.mp z]
      exact (k _ List.mem_cons_self).elim (fun q => (h q).elim) fun q => q
    · exact ih (fun s hs => k s (List.mem_cons_of_mem _ hs)) x z
  | name h e d ih1 ih2 =>
    intro k x m
    rcases List.mem_append.mp m with z | z
    · exact ih1 x z
    · exact ih2 (fun s hs => k s (List.mem_cons_of_mem _ hs)) x z
theorem least_unique (g : ∀ r ∈ G, GoodW r) {M2 : RM} (h1 : LeastM G M) (h2 : LeastM G M2) (n : Str) : M n = M2 n := by
  have one : ∀ {A B : RM}, LeastM G A → LeastM G B → ∀ r, A n = some r → B n = some r := fun {A B} a b r e => by
    obtain ⟨d, l⟩ := a.1 n r e
    obtain ⟨r2, e2, v2⟩ := b.2 n r d l
    obtain ⟨d2, l2⟩ := b.1 n r2 e2
    obtain ⟨r3, e3, v3⟩ := a.2 n r2 d2 l2
    rw [e] at e3
    cases e3
    rw [e2, val_inj (dv_kr g d2) (dv_kr g d) (Nat.le_antisymm v2 v3)]
  cases e : M n with
  | some r => exact (one h1 h2 r e).symm
  | none =>
    cases e2 : M2 n with
    | none => rfl
    | some r =>
      have := one h2 h1 r e2
      rw [e] at this
      cases this
/-! ### the law's way: turn by turn -/
def upB (M : RM) (n : Str) (best : Option (List Str)) (q : Rule) : Option (List Str) :=
  if q.1 = n then match joinM M q.2 with
    | none => best
    | some J => match best with
      | none => some J
      | some b => if val J < val b then some J else some b
  else best
def lawB (G : List Rule) (M : RM) (n : Str) : Option (List Str) := G.foldl (upB M n) (M n)
def short (o : Option (List Str)) : Option (List Str) := match o with
  | none => none
  | some b => if b.length ≤ 60 then some b else none
def lawStep (G : List Rule) (M : RM) : RM := fun n => if n ∈ G.map (·.1) then short (lawB G M n) else none
def lawIter (G : List Rule) : Nat → RM
  | 0 => fun _ => none
  | t + 1 => lawStep G (lawIter G t)
theorem upB_le {n : Str} {best : Option (List Str)} {q : Rule} {r : List Str} (h : ∃ b, best = some b ∧ val b ≤ val r) : ∃ b, upB M n best q = some b ∧ val b ≤ val r := by
  obtain ⟨b, rfl, v⟩ := h
  unfold upB
  split
  · split
    · exact ⟨b, rfl, v⟩
    · simp only
      split
      · rename_i J _ lt
        exact ⟨J, rfl, by omega⟩
      · exact ⟨b, rfl, v⟩
  · exact ⟨b, rfl, v⟩
theorem fold_le {n : Str} {r : List Str} : ∀ (L : List Rule) (best : Option (List Str)), (∃ b, best = some b ∧ val b ≤ val r) → ∃ b, L.foldl (upB M n) best = some b ∧ val b ≤ val r
  | [], _, h => h
  | q :: L, best, h => fold_le L (upB M n best q) (upB_le h)
theorem upB_join {n : Str} {best : Option (List Str)} {ss J : List Str} (h : joinM M ss = some J) : ∃ b, upB M n best (n, ss) = some b ∧ val b ≤ val J := by
  unfold upB
  rw [if_pos rfl]
  simp only [h]
  cases best with
  | none => exact ⟨J, rfl, Nat.le_refl _⟩
  | some b =>
    simp only
    split
    · exact ⟨J, rfl, Nat.le_refl _⟩
    · exact ⟨b, rfl, by omega⟩
theorem fold_join {n : Str} {ss J : List Str} (h : joinM M ss = some J) : ∀ (L : List Rule) (best : Option (List Str)), (n, ss) ∈ L → ∃ b, L.foldl (upB M n) best = some b ∧ val b ≤ val J
  | q :: L, best, m => by
    rcases List.mem_cons.mp m with e | m2
    · rw [← e]
      exact fold_le L _ (upB_join h)
    · exact fold_join h L (upB M n best q) m2
theorem fold_from {n : Str} {b : List Str} : ∀ (L : List Rule) (best : Option (List Str)), L.foldl (upB M n) best = some b → best = some b ∨ ∃ ss, (n, ss) ∈ L ∧ joinM M ss = some b
  | [], _, h => .inl h
  | q :: L, best, h => by
    rcases fold_from L (upB M n best q) h with e | ⟨ss, m, e⟩
    · unfold upB at e
      split at e
      · rename_i en
        cases ej : joinM M q.2 with
        | none =>
          rw [ej] at e
          exact .inl e
        | some J =>
          rw [ej] at e
          simp only at e
          have mem : (n, q.2) ∈ q :: L := by rw [← en]; exact List.mem_cons_self
          cases best with
          | none =>
            simp only at e
            exact .inr ⟨q.2, mem, by rw [ej, e]⟩
          | some b0 =>
            simp only at e
            split at e
            · exact .inr ⟨q.2, mem, by rw [ej, e]⟩
            · exact .inl e
      · exact .inl e
    · exact .inr ⟨ss, List.mem_cons_of_mem _ m, e⟩
theorem step_sound (sd : SoundM G M) : SoundM G (lawStep G M) := by
  intro n r h
  unfold lawStep at h
  split at h
  · unfold short at h
    cases e : lawB G M n with
    | none =>
      rw [e] at h
      cases h
    | some b =>
      rw [e] at h
      simp only at h
      split at h
      · rename_i l
        cases h
        rcases fold_from G (M n) e with z | ⟨ss, m, z⟩
        · exact sd n _ z
        · exact ⟨.rule m (joinM_dv sd z), l⟩
      · cases h
  · cases h
theorem iter_sound (G : List Rule) : ∀ t, SoundM G (lawIter G t)
  | 0 => fun _ _ h => by cases h
  | t + 1 => step_sound (iter_sound G t)
def isBest (G : List Rule) (n : Str) (r : List Str) : Prop := Dv G (.inl n) r ∧ r.length ≤ 60 ∧ ∀ r2, Dv G (.inl n) r2 → r2.length ≤ 60 → val r ≤ val r2
def HasB (G : List Rule) (M : RM) (n : Str) : Prop := ∃ r, M n = some r ∧ isBest G n r
theorem best_there {n : Str} : ∀ (k : Nat) (r : List Str), val r ≤ k → Dv G (.inl n) r → r.length ≤ 60 → ∃ r0, isBest G n r0
  | k, r, h, d, l => by
    by_cases c : ∃ r2, Dv G (.inl n) r2 ∧ r2.length ≤ 60 ∧ val r2 < val r
    · obtain ⟨r2, d2, l2, v2⟩ := c
      cases k with
      | zero => omega
      | succ k => exact best_there k r2 (by omega) d2 l2
    · exact ⟨r, d, l, fun r2 d2 l2 => Nat.le_of_not_lt fun z => c ⟨r2, d2, l2, z⟩⟩
theorem step_gets {n : Str} {r : List Str} (hn : n ∈ G.map (·.1)) (l : r.length ≤ 60) (h : ∃ b, lawB G M n = some b ∧ val b ≤ val r) : ∃ b, lawStep G M n = some b ∧ val b ≤ val r := by
  obtain ⟨b, e, v⟩ := h
  refine ⟨b, ?_, v⟩
  unfold lawStep
  rw [if_pos hn, e]
  unfold short
  simp only
  rw [if_pos (Nat.le_trans (val_len v) l)]
theorem best_keep (sd : SoundM G M) {n : Str} {r b : List Str} (hb : isBest G n r) (e : lawStep G M n = some b) (v : val b ≤ val r) : HasB G (lawStep G M) n := by
  obtain ⟨d, l⟩ := step_sound sd n b e
  exact ⟨b, e, d, l, fun r2 d2 l2 => Nat.le_trans v (hb.2.2 r2 d2 l2)⟩
theorem dv_name {n : Str} {r : List Str} (d : Dv G (.inl n) r) : n ∈ G.map (·.1) := by
  cases d with
  | rule h _ => exact List.mem_map.mpr ⟨_, h, rfl⟩
theorem step_keep (sd : SoundM G M) {n : Str} (h : HasB G M n) : HasB G (lawStep G M) n := by
  obtain ⟨r, e, hb⟩ := h
  obtain ⟨b, e2, v⟩ := step_gets (M := M) (dv_name hb.1) hb.2.1 (fold_le G (M n) ⟨r, e, Nat.le_refl _⟩)
  exact best_keep sd hb e2 v
theorem progress (g : ∀ r ∈ G, GoodW r) (sd : SoundM G M) {x : Str ⊕ List Str} {r : List Str} (h : Dv G x r) : match x with
    | .inl n => isBest G n r → ¬ HasB G M n → ∃ m ∈ N4, ¬ HasB G M m ∧ HasB G (lawStep G M) m
    | .inr ss => (∀ s ∈ ss, s ∈ N4 ∨ s ∈ K3) → r.length ≤ 60 → (∀ r2, Dv G (.inr ss) r2 → r2.length ≤ 60 → val r ≤ val r2) → (∃ m ∈ N4, ¬ HasB G M m ∧ HasB G (lawStep G M) m) ∨ joinM M ss = some r := by
  induction h with
  | @rule n ss r h d ih =>
    intro hb no
    rcases ih (g _ h).2.2 hb.2.1 (fun r2 d2 l2 => hb.2.2 r2 (.rule h d2) l2) with z | z
    · exact z
    · obtain ⟨b, e2, v⟩ := step_gets (M := M) (dv_name hb.1) hb.2.1 (fold_join z G (M n) h)
      exact ⟨n, (g _ h).1, no, best_keep sd hb e2 v⟩
  | nil => exact fun _ _ _ => .inr rfl
  | @kind s ss r h d ih =>
    intro k l least
    rw [List.length_append] at l
    have tail : ∀ r2, Dv G (.inr ss) r2 → r2.length ≤ 60 → val r ≤ val r2 := fun r2 d2 l2 => Nat.le_of_not_lt fun lt => by
      have h1 := least _ (.kind h d2) (by rw [List.length_append]; have := val_len (Nat.le_of_lt lt); omega)
      have h2 := val_lt_r [s] lt
      omega
    rcases ih (fun x hx => k x (List.mem_cons_of_mem _ hx)) (by omega) tail with z | z
    · exact .inl z
    · exact .inr (joinM_mk (if_neg h) z)
  | @name s ss p r h e d ih1 ih2 =>
    intro k l least
    rw [List.length_append] at l
    have pb : isBest G s p := ⟨e, by omega, fun p2 d2 l2 => Nat.le_of_not_lt fun lt => by
      have := least _ (.name h d2 d) (by rw [List.length_append]; have := val_len (Nat.le_of_lt lt); omega)
      have := val_lt_l r lt
      omega⟩
    by_cases c : HasB G M s
    · have tail : ∀ r2, Dv G (.inr ss) r2 → r2.length ≤ 60 → val r ≤ val r2 := fun r2 d2 l2 => Nat.le_of_not_lt fun lt => by
        have h1 := least _ (.name h e d2) (by rw [List.length_append]; have := val_len (Nat.le_of_lt lt); omega)
        have h2 := val_lt_r p lt
        omega
      rcases ih2 (fun x hx => k x (List.mem_cons_of_mem _ hx)) (by omega) tail with z | z
      · exact .inl z
      · obtain ⟨p2, e2, b2⟩ := c
        have v1 := pb.2.2 p2 b2.1 b2.2.1
        have v2 := b2.2.2 p pb.1 pb.2.1
        have : p2 = p := val_inj (dv_kr g b2.1) (dv_kr g e) (Nat.le_antisymm v2 v1)
        rw [this] at e2
        exact .inr (joinM_mk ((if_pos h).trans e2) z)
    · exact .inl (ih1 pb c)
open Classical in
noncomputable def cB (G : List Rule) (M : RM) : Nat := (N4.filter fun n => decide (HasB G M n)).length
open Classical in
theorem filter_lt {p q : Str → Prop} (h : ∀ n, p n → q n) {L : List Str} {m : Str} (hm : m ∈ L) (n1 : ¬ p m) (n2 : q m) : (L.filter fun n => decide (p n)).length < (L.filter fun n => decide (q n)).length := by
  have mono : ∀ L : List Str, (L.filter fun n => decide (p n)).length ≤ (L.filter fun n => decide (q n)).length := by
    intro L
    induction L with
    | nil => exact Nat.le_refl _
    | cons x L ih =>
      rw [List.filter_cons, List.filter_cons]
      by_cases c : p x
      · rw [if_pos (decide_eq_true c), if_pos (decide_eq_true (h x c)), List.length_cons, List.length_cons]
        omega
      · rw [if_neg (fun z => c (of_decide_eq_true z))]
        split
        · rw [List.length_cons]
          omega
        · exact ih
  induction L with
  | nil => cases hm
  | cons x L ih =>
    have mo := mono L
    rw [List.filter_cons, List.filter_cons]
    rcases List.mem_cons.mp hm with e | m2
    · subst e
      rw [if_neg (fun z => n1 (of_decide_eq_true z)), if_pos (decide_eq_true n2), List.length_cons]
      omega
    · have := ih m2
      by_cases c : p x
      · rw [if_pos (decide_eq_true c), if_pos (decide_eq_true (h x c)), List.length_cons, List.length_cons]
        omega
      · rw [if_neg (fun z => c (of_decide_eq_true z))]
        split
        · rw [List.length_cons]
          omega
        · exact this
def AllB (G : List Rule) (M : RM) : Prop := ∀ n r, isBest G n r → HasB G M n
theorem iter_all (g : ∀ r ∈ G, GoodW r) : ∀ t, AllB G (lawIter G t) ∨ t ≤ cB G (lawIter G t)
  | 0 => .inr (Nat.zero_le _)
  | t + 1 => by
    have sd := iter_sound G t
    rcases iter_all g t with a | c
    · exact .inl fun n r hb => step_keep sd (a n r hb)
    · by_cases a : AllB G (lawIter G t)
      · exact .inl fun n r hb => step_keep sd (a n r hb)
      · obtain ⟨n, r, hb, no⟩ : ∃ n r, isBest G n r ∧ ¬ HasB G (lawIter G t) n := by
          refine Classical.byContradiction fun z => a fun n r hb => Classical.byContradiction fun no => z ⟨n, r, hb, no⟩
        obtain ⟨m, hm, n1, n2⟩ := progress g sd hb.1 hb no
        have := filter_lt (p := HasB G (lawIter G t)) (q := HasB G (lawStep G (lawIter G t))) (fun k hk => step_keep sd hk) hm n1 n2
        refine .inr ?_
        unfold cB at c ⊢
        exact Nat.lt_of_le_of_lt c this
/-- THE LAW'S ROWS ARE THE LEAST -/
theorem iter_least (g : ∀ r ∈ G, GoodW r) : LeastM G (lawIter G 20) := by
  refine ⟨iter_sound G 20, fun n r d l => ?_⟩
  obtain ⟨r0, hb⟩ := best_there (val r) r (Nat.le_refl _) d l
  rcases iter_all g 20 with a | c
  · obtain ⟨r2, e, b2⟩ := a n r0 hb
    exact ⟨r2, e, b2.2.2 r d l⟩
  · have : cB G (lawIter G 20) ≤ 4 := by
      unfold cB
      exact List.length_filter_le _ _
    omega
/-! ### the program's way: bettering -/
def costOf (o : Option (List Str)) : Nat := match o with
  | none => 4 ^ 61
  | some r => val r
def cost (M : RM) : Nat := costOf (M "a") + costOf (M "bb") + costOf (M "s") + costOf (M "list")
def putM (M : RM) (n : Str) (J : List Str) : RM := fun m => if m = n then some J else M m
theorem cost_lt {n : Str} {J : List Str} (hn : n ∈ N4) (h : val J < costOf (M n)) : cost (putM M n J) < cost M := by
  have at_ : costOf (putM M n J n) = val J := by
    unfold putM
    rw [if_pos rfl]
    rfl
  have off : ∀ m, m ≠ n → costOf (putM M n J m) = costOf (M m) := fun m e => by
    unfold putM
    rw [if_neg e]
  have d1 : ("a" : Str) ≠ "bb" := by decide +kernel
  have d2 : ("a" : Str) ≠ "s" := by decide +kernel
  have d3 : ("a" : Str) ≠ "list" := by decide +kernel
  have d4 : ("bb" : Str) ≠ "s" := by decide +kernel
  have d5 : ("bb" : Str) ≠ "list" := by decide +kernel
  have d6 : ("s" : Str) ≠ "list" := by decide +kernel
  unfold cost
  unfold N4 at hn
  simp only [List.mem_cons, List.not_mem_nil, or_false] at hn
  rcases hn with e | e | e | e <;> subst e
  · have a2 := off _ d1.symm
    have a3 := off _ d2.symm
    have a4 := off _ d3.symm
    omega
  · have a1 := off _ d1
    have a3 := off _ d4.symm
    have a4 := off _ d5.symm
    omega
  · have a1 := off _ d2
    have a2 := off _ d4
    have a4 := off _ d6.symm
    omega
  · have a1 := off _ d3
    have a2 := off _ d5
    have a3 := off _ d6
    omega
theorem short_cost {J : List Str} (l : J.length ≤ 60) : val J < 4 ^ 61 := by
  have := val_hi J
  have := Nat.pow_le_pow_right (show 0 < 4 by decide) (show J.length ≤ 61 by omega)
  omega
theorem put_sound (sd : SoundM G M) {n : Str} {ss J : List Str} (h : (n, ss) ∈ G) (e : joinM M ss = some J) (l : J.length ≤ 60) : SoundM G (putM M n J) := by
  intro m r z
  unfold putM at z
  split at z
  · rename_i em
    cases z
    rw [em]
    exact ⟨.rule h (joinM_dv sd e), l⟩
  · exact sd m r z
end
end Ld

set_option Elab.async false
set_option linter.all false
set_option maxRecDepth 100000
set_option maxHeartbeats 4000000
namespace Ld
open PySem PySem.Spec PyProof.Rows L2 Le TL Lt Lg
def topS (i : Nat) : Stmt := PySem.Challenge.pw_leastmend_k02_sound_grammars.main.body.getD i (.Pass ⟨0, 0, 0, 0⟩)
abbrev sInit : Stmt := inClass (topS 1) 0
abbrev sNames : Stmt := topS 6
abbrev sCheck : Stmt := topS 9
abbrev sChSy : Stmt := topS 10
abbrev sDeriv : Stmt := topS 11
abbrev sAlone : Stmt := topS 12
abbrev sShort : Stmt := topS 13
abbrev sJoin : Stmt := topS 14
abbrev sIsSh : Stmt := topS 15
abbrev sReach : Stmt := topS 16
abbrev sSymOf : Stmt := topS 17
abbrev sDraws : Stmt := topS 19
abbrev sAt : Stmt := topS 20
abbrev sMix : Stmt := topS 22
abbrev sGram : Stmt := topS 23
abbrev sInput : Stmt := topS 24
abbrev sLDer : Stmt := topS 25
abbrev sLReach : Stmt := topS 26
abbrev sLFault : Stmt := topS 27
abbrev sLTold : Stmt := topS 28
abbrev sLBest : Stmt := topS 29
abbrev sLRows : Stmt := topS 30
abbrev sLaw : Stmt := topS 31
section
variable {P : Program} {w : World} {K : PySem.W.Frag} {mg : Str → Option Value} {base : Heap}
/-! ### the law's own draws -/
theorem scDr : FnScope ["script", "draws", "k", "rest", "turn", "mixed"] ["script"] (defScope sDraws) := ⟨rfl, rfl, rfl, by decide +kernel, rfl, by decide +kernel, by decide +kernel⟩
/-- a new list of the draws; what stood stands -/
def spDraws (K : PySem.W.Frag) : Sp := fun vs H Q _ => ∃ (a : Addr) (ns : List Int), vs = [.ref a] ∧ SqL K H a (ns.map V.int) ∧ ns.length ≤ 63 ∧
  ∀ p, H p = none → Q (.ref p) (upd H p (.lst ((drawsOf ns).map V.int)))
theorem ok_draws {f : Addr} {fd : FuncData} {k : Nat} (F : Fun K "_law_draws" "_law_draws" sDraws f fd) (mr : mg "range" = none) (mm : mg "min" = none) (ml : mg "len" = none) (ma : mg "abs" = none) (mi : mg "int" = none) :
    FnOk P w K mg base CX0 (k + 1) f fd ["script"] (spDraws K) := by
  refine F.ok scDr (fun vs H Q E h => ?_) (fun cdv A outer s H vs Q E hr h => ?_)
  · obtain ⟨a, ns, rfl, _⟩ := h
    rfl
  · obtain ⟨a, ns, rfl, hS, hlen, q⟩ := h
    refine ⟨_, pss_cons (ps_set (i := 1) scDr.nd rfl (.inl rfl) (pe_lst pa_nil))
      (pss_cons (ps_for PassesOwn.never rfl (pi_range1 rfl mr (pa_cons (pe_callB (call_min2 rfl) (by rfl) mm (by decide +kernel) (pa_cons pe_int (pa_cons (pe_callB call_len_seq (by rfl) ml PySem.boot_len (pa_cons (pv 0) pa_nil)) pa_nil))) pa_nil))
          (pg_name (i := 2) scDr.nd rfl (.inl rfl))
        (pss_cons (ps_set (i := 3) scDr.nd rfl (.inl rfl) (pe_callB call_abs (by rfl) ma (by decide +kernel) (pa_cons (pe_ix ix_list (pv 0) (pv 2) (fun _ _ => rfl)) pa_nil)))
        (pss_one (ps_if (pt_cmpR op_ge (pv 3) (pe_op op_pow pe_int pe_int) (nomark _))
          (pss_one (ps_for PassesOwn.never rfl (pi_range1 rfl mr (pa_cons pe_int pa_nil)) (pg_name (i := 4) scDr.nd rfl (.inl rfl))
            (pss_one (ps_if (pt_cmpR op_gt (pv 3) pe_int (nomark _))
              (pss_cons (ps_expr (pe_bm PySem.F.plainAttrs_list PySem.F.slot_list_append PySem.F.type_list_append mt_append (pv 1) (pa_cons (pe_op op_mod (pe_callTy call_int1 (by rfl) mi (by decide +kernel) (pa_cons (pv 3) pa_nil)) pe_int) pa_nil)))
              (pss_one (ps_set (i := 3) scDr.nd rfl (.inl rfl) (pe_op op_fdiv (pv 3) pe_int)))) pss_nil))))
          (pss_cons (ps_set (i := 5) scDr.nd rfl (.inl rfl) (pe_op op_mod (pe_callTy call_int1 (by rfl) mi (by decide +kernel) (pa_cons (pe_op op_add (pe_op op_mul (pv 3) pe_int) (pe_op op_mul (pe_op op_add (pv 2) pe_int) pe_int)) pa_nil)) pe_int))
          (pss_cons (ps_set (i := 5) scDr.nd rfl (.inl rfl) (pe_op op_mod (pe_callTy call_int1 (by rfl) mi (by decide +kernel) (pa_cons (pe_op op_add (pe_op op_add (pe_op op_mul (pv 5) pe_int) (pe_op op_mul pe_int (pv 2))) pe_int) pa_nil)) pe_int))
          (pss_cons (ps_expr (pe_bm PySem.F.plainAttrs_list PySem.F.slot_list_append PySem.F.type_list_append mt_append (pv 1) (pa_cons (pe_op op_mod (pe_callTy call_int1 (by rfl) mi (by decide +kernel) (pa_cons (pv 5) pa_nil)) pe_int) pa_nil)))
          (pss_one (ps_expr (pe_bm PySem.F.plainAttrs_list PySem.F.slot_list_append PySem.F.type_list_append mt_append (pv 1) (pa_cons (pe_op op_mod (pe_callTy call_int1 (by rfl) mi (by decide +kernel) (pa_cons (pe_op op_fdiv (pv 5) pe_int) pa_nil)) pe_int) pa_nil)))))))))))
      (pss_one (ps_ret (pv 1)))), ?_⟩
    -- draws = []
    refine ⟨Nat.zero_le _, fun o no => ?_⟩
    have s1 : Same H (upd H o (.lst [])) := same_upd no
    have nao : ∀ G : HO, SqL K (upd H o G) a (ns.map V.int) := fun G => (same_upd no).seq hS
    have hi62 : (ns.length : Int) < 2 ^ 62 := by omega
    -- range(min(63, len(script)))
    have ej : (if ((ns.map V.int).length : Int) < 63 then ((ns.map V.int).length : Int) else 63) = (ns.length : Int) := by
      rw [List.length_map]
      split <;> omega
    refine ⟨.ref a, rfl, a, ns.map V.int, rfl, .inl (s1.seq hS), 63, _, rfl, _, rfl, by rw [ej]; omega, by rw [ej]; omega, ?_⟩
    rw [ej]
    refine for_range (lo := 0) (n := ns.length) (fun i σ H' => ∃ v2 v3 v4 v5, σ = [some (.ref a), some (.ref o), v2, v3, v4, v5] ∧ H' = upd H o (.lst ((drawsN ns i).map V.int))) ⟨none, none, none, none, rfl, rfl⟩ ?_ ?_
    · rintro i σ H' hi ⟨v2, v3, v4, v5, rfl, rfl⟩
      have gi := getI hi
      have hSi := nao (.lst ((drawsN ns i).map V.int))
      have hl := drawsN_len ns i
      -- rest = abs(script[k])
      refine ⟨.ref a, rfl, _, rfl, a, _, _, _, rfl, rfl, hSi, at_of (j := i) (by omega) gi, ns.getD i 0, rfl, ?_⟩
      rw [Int.zero_add]
      refine ⟨_, rfl, _, _, rfl, rfl, ⟨by decide, by decide, by decide⟩, _, _, rfl, rfl, _, rfl, ite2 (fun c => ?_) (fun c => ?_)⟩
      · -- the digits
        have c1 : (10 : Int) ^ (18 : Int).toNat ≤ dabs (ns.getD i 0) := of_decide_eq_true c
        have e1 : drawsN ns (i + 1) = (diter 60 (dabs (ns.getD i 0), drawsN ns i)).2 := if_pos c1
        refine ⟨60, rfl, by decide, by decide, for_range (lo := 0) (n := 60) (fun j σ H' => ∃ v4, σ = [some (.ref a), some (.ref o), some (.int i), some (.int (diter j (dabs (ns.getD i 0), drawsN ns i)).1), v4, v5] ∧ H' = upd H o (.lst ((diter j (dabs (ns.getD i 0), drawsN ns i)).2.map V.int)))
          ⟨v4, rfl, rfl⟩ ?_ ?_⟩
        · rintro j σ H' hj ⟨w4, rfl, rfl⟩
          have hl2 := diter_len (dabs (ns.getD i 0), drawsN ns i) j
          generalize hp : diter j (dabs (ns.getD i 0), drawsN ns i) = p at hl2
          have e2 : diter (j + 1) (dabs (ns.getD i 0), drawsN ns i) = dstep p := by rw [← hp]; rfl
          refine ⟨_, rfl, _, _, rfl, rfl, _, rfl, ite2 (fun c2 => ?_) (fun c2 => ?_)⟩
          · have e3 : dstep p = (p.1 / 65536, p.2 ++ [p.1 % 65536]) := if_pos (of_decide_eq_true c2)
            refine ⟨.ref o, rfl, .inl ⟨rfl, _, SqL.of upd_same⟩, _, rfl, .inl ⟨_, rfl, _, _, rfl, rfl, (by show (0 : Int) < 65536; decide), o, _, _, rfl, rfl, upd_same, ?_, _, rfl, _, _, rfl, rfl, ⟨by decide, by decide⟩, some (.int (0 + j)), ?_, ?_⟩⟩
            · rw [List.length_map]
              refine small4000 ?_
              have hl3 : (drawsN ns i).length ≤ 60 * i := hl
              have hl4 : p.2.length ≤ (drawsN ns i).length + j := hl2
              omega
            · rw [e2, e3]
              rfl
            · rw [e2, e3, upd_upd, List.map_append]
              rfl
          · have e3 : dstep p = p := if_neg fun z => c2 (decide_eq_true z)
            refine ⟨some (.int (0 + j)), ?_, ?_⟩
            · rw [e2, e3]
              rfl
            · rw [e2, e3]
        · rintro σ H' ⟨w4, rfl, rfl⟩
          exact ⟨_, _, _, _, rfl, by rw [e1]⟩
      · -- two mixed numbers
        have e1 : drawsN ns (i + 1) = drawsN ns i ++ [dmix2 i (dabs (ns.getD i 0)) % 65536] ++ [dmix2 i (dabs (ns.getD i 0)) / 65536 % 32768] := if_neg fun z => c (decide_eq_true z)
        refine ⟨_, rfl, _, _, rfl, rfl, .inr ⟨by decide, by decide⟩, _, rfl, _, _, rfl, rfl, _, _, rfl, rfl, .inr ⟨by decide, by decide⟩, _, _, rfl, rfl, .inl ⟨_, rfl, _, _, rfl, rfl, (by show (0 : Int) < 2147483647; decide), ?_⟩⟩
        refine ⟨_, rfl, _, _, rfl, rfl, .inr ⟨by decide, by decide⟩, _, rfl, _, _, rfl, rfl, .inl ⟨by decide, by decide⟩, _, _, rfl, rfl, _, _, rfl, rfl, .inl ⟨_, rfl, _, _, rfl, rfl, (by show (0 : Int) < 2147483629; decide), ?_⟩⟩
        refine ⟨.ref o, rfl, .inl ⟨rfl, _, SqL.of upd_same⟩, _, rfl, .inl ⟨_, rfl, _, _, rfl, rfl, (by show (0 : Int) < 65536; decide), o, _, _, rfl, rfl, upd_same, ?_, ?_⟩⟩
        · rw [List.length_map]
          exact small4000 (by omega)
        refine ⟨.ref o, rfl, .inl ⟨rfl, _, SqL.of upd_same⟩, _, rfl, _, _, rfl, rfl, ⟨by decide, by decide⟩, .inl ⟨_, rfl, _, _, rfl, rfl, (by show (0 : Int) < 32768; decide), o, _, _, rfl, rfl, upd_same, ?_, ?_⟩⟩
        · rw [List.length_append, List.length_map]
          exact small4000 (by show (drawsN ns i).length + 1 ≤ 4000; omega)
        refine ⟨_, _, _, _, rfl, ?_⟩
        rw [e1, upd_upd, upd_upd, List.map_append, List.map_append]
        rfl
    · rintro σ H' ⟨v2, v3, v4, v5, rfl, rfl⟩
      exact ⟨.ref o, rfl, q o no⟩
/-! ### a draw below many -/
theorem scAt : FnScope ["draws", "k", "many"] ["draws", "k", "many"] (defScope sAt) := ⟨rfl, rfl, rfl, by decide +kernel, rfl, by decide +kernel, by decide +kernel⟩
def spAt (K : PySem.W.Frag) : Sp := fun vs H Q _ => ∃ (a : Addr) (ds : List Int) (k many : Int), vs = [.ref a, .int k, .int many] ∧ SqL K H a (ds.map V.int) ∧ 0 ≤ k ∧ 0 < many ∧ Q (.int (atD ds k many)) H
theorem ok_at {f : Addr} {fd : FuncData} {k : Nat} (F : Fun K "_law_at" "_law_at" sAt f fd) (ml : mg "len" = none) (mi : mg "int" = none) :
    FnOk P w K mg base CX0 (k + 1) f fd ["draws", "k", "many"] (spAt K) := by
  refine F.ok scAt (fun vs H Q E h => ?_) (fun cdv A outer s H vs Q E hr h => ?_)
  · obtain ⟨a, ds, k, many, rfl, _⟩ := h
    rfl
  · obtain ⟨a, ds, k, many, rfl, hS, h0, hm, q⟩ := h
    refine ⟨_, pss_cons (ps_if (pt_cmpR op_lt (pv 1) (pe_callB call_len_seq (by rfl) ml PySem.boot_len (pa_cons (pv 0) pa_nil)) (nomark _))
        (pss_one (ps_ret (pe_op op_mod (pe_callTy call_int1 (by rfl) mi (by decide +kernel) (pa_cons (pe_ix ix_list (pv 0) (pv 1) (fun _ _ => rfl)) pa_nil)) (pv 2)))) pss_nil)
      (pss_one (ps_ret pe_int)), ?_⟩
    refine ⟨_, rfl, _, rfl, a, _, rfl, .inl hS, _, _, rfl, rfl, _, rfl, ite2 (fun c => ?_) (fun c => ?_)⟩
    · have c1 : k < ((ds.map V.int).length : Int) := of_decide_eq_true c
      rw [List.length_map] at c1
      have gi := getI (ns := ds) (i := k.toNat) (by omega)
      refine ⟨_, rfl, _, rfl, a, _, _, _, rfl, rfl, hS, at_of (j := k.toNat) (by omega) gi, .inl ⟨_, rfl, _, rfl, _, _, rfl, rfl, hm, ?_⟩⟩
      have e : atD ds k many = ds.getD k.toNat 0 % many := if_pos c1
      show Q (.int (ds.getD k.toNat 0 % many)) H
      rw [← e]
      exact q
    · have c1 : ¬ k < ((ds.map V.int).length : Int) := fun z => c (decide_eq_true z)
      rw [List.length_map] at c1
      have e : atD ds k many = 0 := if_neg c1
      show Q (.int 0) H
      rw [← e]
      exact q
/-! ### words of letters -/
/-- as Fun.ok, the def's code told -/
theorem okT {x qual : Str} {st : Stmt} {f c : Addr} {fd : FuncData} {N ps : List Str} {k : Nat} {sp : Sp} (F : Fun K x qual st f fd) (hc : fd.code = .ref c) (S : FnScope N ps (defScope st)) (len : ∀ vs H Q E, sp vs H Q E → vs.length = ps.length)
    (hbody : ∀ (A : Around) (outer : List Env) (s : Shared) (H : Hp) (vs : List V) (Q : VK) (E : XK), Room k (A.deeper (envOfC qual (defScope st) s.heap.objs.size f (.ref c))) → sp vs H Q E →
      ∃ t, PSs (cxOf CX0 P w K mg base N qual (defScope st) f (.ref c) A outer s H E).nox (defBody st) t ∧ t { nx := fun _ H' => Q .non H', rt := Q } (start N vs) H) : FnOk P w K mg base CX0 (k + 1) f fd ps sp := by
  obtain ⟨oc, od, kV, doc, pm, an, cdv, ct, osl, rfl, lk, hcd⟩ := F.ex
  have e : cdv = .ref c := hc
  subst e
  refine fn_of lk hcd S len fun A outer s H vs Q E hr hsp => ?_
  obtain ⟨t, h, q⟩ := hbody A outer s H vs Q E hr hsp
  exact ⟨t, h.nox, q⟩
/-! ### MendError.__init__ -/
theorem scI : FnScope ["self", "at"] ["self", "at"] (defScope sInit) := ⟨rfl, rfl, rfl, by decide +kernel, rfl, by decide +kernel, by decide +kernel⟩
theorem ok_init {f : Addr} {fd : FuncData} {k : Nat} (F : Fun K "__init__" "MendError.__init__" sInit f fd) : FnOk P w K mg base CX0 (k + 1) f fd ["self", "at"] (spInit K) := by
  refine F.ok scI (fun vs H Q E h => ?_) (fun cdv A outer s H vs Q E hr h => ?_)
  · obtain ⟨a, C, fI, n, rfl, _⟩ := h
    rfl
  · obtain ⟨a, C, fI, n, rfl, T, ea, q⟩ := h
    refine ⟨_, pss_one (ps_ost (pv 0) (pv 1)), ?_⟩
    exact ⟨_, rfl, _, rfl, a, C, rfl, T.oex, T.noAt, .inl ⟨ea, fun d nd ne => q d nd ne⟩⟩
theorem made_err {C fI : Addr} {n : Int} {i : Nat} {σ : L2.St} {H : Hp} {Q : VK} (T : ErrC K C fI) (hv : σ[i]? = some (some (.int n))) (want : ∀ (a d : Addr) (H' : Hp), Same H H' → ErrAt H' a C d n → Q (.ref a) H') : tErr C (spInit K) (tCons (tVar i) tNil) σ H Q := by
  refine ⟨_, hv, by show 1 ≤ 1000; decide, fun a na => ⟨a, C, fI, n, rfl, T, upd_same, fun d nd ne => ⟨rfl, want a d _ (fun b o e => ?_) ⟨upd_same, ?_⟩⟩⟩⟩
  · have nb : b ≠ a := ne_of_none e na
    have nd' : H d = none := by
      rw [upd_ne ne] at nd
      exact nd
    rw [upd_ne nb, upd_ne (ne_of_none e nd'), upd_ne nb]
    exact e
  · rw [upd_ne ne, upd_same]
theorem million {n : Nat} (h : n ≤ 1000000) : n + 2 ≤ sizeLine := Nat.le_trans (Nat.add_le_add_right h 2) (by decide)
theorem million0 {n : Nat} (h : n ≤ 1000000) : n ≤ sizeLine := Nat.le_trans h (by decide)
theorem iteStr {x y : Str} {A B : Prop} (h1 : x = y → A) (h2 : x ≠ y → B) : if decide (V.str x = V.str y) = true then A else B := by
  by_cases e : x = y
  · subst e
    rw [decide_eq_true rfl]
    exact iteT (h1 rfl)
  · rw [decide_eq_false (fun z => e (V.str.inj z))]
    exact iteF (h2 e)
theorem iteStrN {x y : Str} {A B : Prop} (h1 : x ≠ y → A) (h2 : x = y → B) : if (!decide (V.str x = V.str y)) = true then A else B := by
  by_cases e : x = y
  · subst e
    rw [decide_eq_true rfl]
    exact iteF (h2 rfl)
  · rw [decide_eq_false (fun z => e (V.str.inj z))]
    exact iteT (h1 e)
/-! ### an error that leaves -/
def Thrown (T1 T2 C : Addr) (n : Int) (H : Hp) (E : XK) : Prop := ∀ d H2, Up H H2 → Tb T1 T2 H2 → H2 d = some (.xd [(("at" : Str), V.int n)]) → E (.ref C) (some d) H2
theorem Thrown.later {T1 T2 C : Addr} {n : Int} {H H2 : Hp} {E : XK} (h : Thrown T1 T2 C n H E) (u : Up H H2) : Thrown T1 T2 C n H2 E := fun d H3 u3 => h d H3 (u.trans u3)
theorem threw {T1 T2 C fI : Addr} {n : Int} {H1 : Hp} {Q : XK} (T : ErrC K C fI) (tb : Tb T1 T2 H1) (want : Thrown T1 T2 C n H1 Q) : ∀ a, H1 a = none → spInit K (.ref a :: ([.int n] ++ [])) (upd H1 a (exo a C none))
    (fun v H2 => v = .non ∧ ∃ (d : Addr) (fs : List (Str × V)), H2 a = some (exo a C (some d)) ∧ H2 d = some (exd d fs) ∧ H1 d = none ∧ Q (.ref C) (some d) (upd (del H2 a) d (.xd fs))) (fun _ _ _ => False) := by
  intro a na
  refine ⟨a, C, fI, n, rfl, T, upd_same, fun d nd ne => ⟨rfl, d, [(("at" : Str), V.int n)], upd_same, ?_, ?_, ?_⟩⟩
  · rw [upd_ne ne]
    exact upd_same
  · rw [upd_ne ne] at nd
    exact nd
  · have nd1 : H1 d = none := by
      rw [upd_ne ne] at nd
      exact nd
    have e : upd (del (upd (upd (upd H1 a (exo a C none)) d (exd d [(("at" : Str), V.int n)])) a (exo a C (some d))) a) d (.xd [(("at" : Str), V.int n)]) = upd H1 d (.xd [(("at" : Str), V.int n)]) := by
      funext b
      by_cases hb : b = d
      · subst hb
        rw [upd_same, upd_same]
      · rw [upd_ne hb, upd_ne hb]
        by_cases ha : b = a
        · subst ha
          rw [del_same, na]
        · rw [del_ne ha, upd_ne ha, upd_ne hb, upd_ne ha]
    rw [e]
    exact want d _ (Up.put H1 nd1) (tb.new nd1) upd_same
/-! ### _next_rule -/
theorem units65 {k : Nat} {A : Around} (h : Room k A) : A.units + 65 < cLine := by
  have := h.un
  omega
theorem iteFd {p : Prop} [Decidable p] {A B : Prop} (h : ¬ p) (b : B) : if decide p = true then A else B := by
  rw [decide_eq_false h]
  exact iteF b
theorem iteTd {p : Prop} [Decidable p] {A B : Prop} (h : p) (a : A) : if decide p = true then A else B := by
  rw [decide_eq_true h]
  exact iteT a
theorem ruleA_ne {H : Hp} {v : V} {r : Rule} (h : RuleA H v r) : v ≠ V.non := by
  obtain ⟨t, l, rfl, _⟩ := h
  intro z
  cases z
theorem take_snoc {α β : Type} (f : α → β) {xs : List α} {i : Nat} {x : α} (h : xs[i]? = some x) : (xs.take (i + 1)).map f = (xs.take i).map f ++ [f x] := by
  rw [List.take_add_one, h, List.map_append]
  rfl
/-! ### names_of -/
theorem scNm : FnScope ["grammar", "names", "name", "symbols"] ["grammar"] (defScope sNames) := ⟨rfl, rfl, rfl, by decide +kernel, rfl, by decide +kernel, by decide +kernel⟩
def nmStep (ns : List Str) (r : Rule) : List Str := if r.1 ∈ ns then ns else ns ++ [r.1]
def namesOf (G : List Rule) : List Str := G.foldl nmStep []
theorem inV_strs (n : Str) (ns : List Str) : inV (V.str n) (ns.map V.str) = decide (n ∈ ns) := by
  unfold inV
  rw [Bool.eq_iff_iff, List.any_eq_true, decide_eq_true_eq]
  constructor
  · rintro ⟨y, hy, e⟩
    obtain ⟨m, hm, rfl⟩ := List.mem_map.mp hy
    have : m = n := by simpa [eqV] using e
    rw [← this]
    exact hm
  · intro h
    exact ⟨V.str n, List.mem_map.mpr ⟨n, h, rfl⟩, by simp [eqV]⟩
theorem flat_strs (ns : List Str) : (ns.map V.str).all flatV = true := by
  rw [List.all_eq_true]
  intro x hx
  obtain ⟨m, _, rfl⟩ := List.mem_map.mp hx
  rfl
theorem fold_len : ∀ (G : List Rule) (ns : List Str), (G.foldl nmStep ns).length ≤ ns.length + G.length
  | [], ns => by simp
  | r :: G, ns => by
    have := fold_len G (nmStep ns r)
    have h2 : (nmStep ns r).length ≤ ns.length + 1 := by
      unfold nmStep
      split
      · omega
      · simp
    rw [List.foldl_cons, List.length_cons]
    omega
theorem fold_take {G : List Rule} {i : Nat} {r : Rule} (h : G[i]? = some r) : (G.take (i + 1)).foldl nmStep [] = nmStep ((G.take i).foldl nmStep []) r := by
  rw [List.take_add_one, h, List.foldl_append]
  rfl
def spNames : Sp := fun vs H Q _ => ∃ (g : Addr) (G : List Rule), vs = [.ref g] ∧ GraA H g G ∧ G.length ≤ 40 ∧ ∀ p H2, Same H H2 → H p = none → H2 p = some (.lst ((namesOf G).map V.str)) → Q (.ref p) H2
theorem ok_names {f : Addr} {fd : FuncData} (F : Fun K "names_of" "names_of" sNames f fd) : FnOk P w K mg base CX0 1 f fd ["grammar"] spNames := by
  refine F.ok scNm (fun vs H Q E h => ?_) (fun cdv A outer s H vs Q E hr h => ?_)
  · obtain ⟨g, G, rfl, _⟩ := h
    rfl
  · obtain ⟨g, G, rfl, hG, hlen, q⟩ := h
    refine ⟨_, pss_cons (ps_set (i := 1) scNm.nd rfl (.inl rfl) (pe_lst pa_nil))
      (pss_cons (ps_for PassesOwn.never rfl (pi_list (pv 0)) (pg_tup rfl (pgs_cons (pg_name (i := 2) scNm.nd rfl (Or.inl rfl)) (pgs_cons (pg_name (i := 3) scNm.nd rfl (Or.inl rfl)) pgs_nil)))
        (pss_one (ps_if (pt_cmpR op_notIn_seq (pv 2) (pv 1) rfl) (pss_one (ps_expr (pe_bm PySem.F.plainAttrs_list PySem.F.slot_list_append PySem.F.type_list_append mt_append (pv 1) (pa_cons (pv 2) pa_nil)))) pss_nil)))
      (pss_one (ps_ret (pv 1)))), ?_⟩
    obtain ⟨vs, hg, gr⟩ := hG
    refine ⟨Nat.zero_le _, fun p np => ?_⟩
    have hg1 : ∀ G2 : HO, upd H p G2 g = some (.lst vs) := fun G2 => by rw [upd_ne (ne_of_none hg np)]; exact hg
    refine ⟨_, rfl, g, rfl, ⟨_, SqL.of (hg1 _)⟩, for_list (a := g) (xs := vs) (fun i σ H' => ∃ v2 v3, σ = [some (.ref g), some (.ref p), v2, v3] ∧ H' = upd H p (.lst (((G.take i).foldl nmStep []).map V.str))) ⟨none, none, rfl, rfl⟩ ?_ ?_ ?_⟩
    · rintro i σ H' _ ⟨v2, v3, rfl, rfl⟩
      exact SqL.of (hg1 _)
    · rintro i x σ H' hx ⟨v2, v3, rfl, rfl⟩
      obtain ⟨r, hr2, ra⟩ := gr.get hx
      obtain ⟨tt, l, rfl, h1, h2⟩ := ra
      have h1' : upd H p (.lst (((G.take i).foldl nmStep []).map V.str)) tt = some (.tup [.str r.1, .ref l]) := by
        rw [upd_ne (ne_of_none h1 np)]
        exact h1
      have e := fold_take hr2
      have hl := fold_len (G.take i) []
      have ht : (G.take i).length ≤ 40 := Nat.le_trans (List.length_take_le' _ _) hlen
      generalize (G.take i).foldl nmStep [] = ns at e hl h1'
      refine ⟨tt, _, rfl, SqT.of h1', rfl, _, _, rfl, _, _, rfl, rfl, ?_⟩
      refine ⟨_, rfl, _, rfl, p, _, rfl, .inl (SqL.of upd_same), rfl, flat_strs ns, _, rfl, ?_⟩
      show (if (!inV (V.str r.1) (ns.map V.str)) = true then _ else _)
      rw [inV_strs]
      by_cases m : r.1 ∈ ns
      · rw [decide_eq_true m]
        refine iteF ⟨_, _, rfl, ?_⟩
        rw [e]
        unfold nmStep
        rw [if_pos m]
      · rw [decide_eq_false m]
        refine iteT ⟨_, rfl, .inl ⟨rfl, _, SqL.of upd_same⟩, _, rfl, p, _, _, rfl, rfl, upd_same, ?_, _, _, rfl, ?_⟩
        · rw [List.length_map]
          exact Nat.lt_of_le_of_lt (Nat.le_trans hl (by rw [List.length_nil]; omega : _ ≤ 40)) (by decide)
        · rw [e, upd_upd]
          unfold nmStep
          rw [if_neg m, List.map_append]
          rfl
    · rintro σ H' ⟨v2, v3, rfl, rfl⟩
      refine ⟨_, rfl, q p _ (same_upd np) np ?_⟩
      rw [gr.len, List.take_length]
      exact upd_same
/-! ### _law_mix -/
theorem scMx : FnScope ["draws", "k", "many", "value"] ["draws", "k", "many"] (defScope sMix) := ⟨rfl, rfl, rfl, by decide +kernel, rfl, by decide +kernel, by decide +kernel⟩
def spMix (K : PySem.W.Frag) : Sp := fun vs H Q _ => ∃ (a : Addr) (ds : List Int) (k many : Int), vs = [.ref a, .int k, .int many] ∧ SqL K H a (ds.map V.int) ∧ 0 < many ∧ ∀ v, 0 ≤ v → v < many → Q (.int v) H
theorem ok_mix {f : Addr} {fd : FuncData} (F : Fun K "_law_mix" "_law_mix" sMix f fd) (ml : mg "len" = none) (mi : mg "int" = none) : FnOk P w K mg base CX0 1 f fd ["draws", "k", "many"] (spMix K) := by
  refine F.ok scMx (fun vs H Q E h => ?_) (fun cdv A outer s H vs Q E hr h => ?_)
  · obtain ⟨a, ds, k, many, rfl, _⟩ := h
    rfl
  · obtain ⟨a, ds, k, many, rfl, hS, hm, q⟩ := h
    refine ⟨_, pss_cons (ps_set (i := 3) scMx.nd rfl (.inl rfl) pe_int)
      (pss_cons (ps_if (pt_cmpR op_gt (pe_callB call_len_seq (by rfl) ml PySem.boot_len (pa_cons (pv 0) pa_nil)) pe_int (nomark _))
        (pss_one (ps_set (i := 3) scMx.nd rfl (.inl rfl) (pe_ix ix_list (pv 0) (pe_op op_mod (pe_callTy call_int1 (by rfl) mi (by decide +kernel) (pa_cons (pv 1) pa_nil)) (pe_callB call_len_seq (by rfl) ml PySem.boot_len (pa_cons (pv 0) pa_nil))) (fun _ _ => rfl)))) pss_nil)
      (pss_cons (ps_if (pt_cmpR op_lt (pv 1) (pe_callB call_len_seq (by rfl) ml PySem.boot_len (pa_cons (pv 0) pa_nil)) (nomark _))
        (pss_one (ps_ret (pe_op op_mod (pe_callTy call_int1 (by rfl) mi (by decide +kernel) (pa_cons (pv 3) pa_nil)) (pv 2)))) pss_nil)
      (pss_one (ps_ret (pe_op op_mod (pe_callTy call_int1 (by rfl) mi (by decide +kernel) (pa_cons (pe_op op_fdiv (pe_callTy call_int1 (by rfl) mi (by decide +kernel) (pa_cons (pe_op op_add (pe_op op_mul (pv 3) pe_int) (pe_op op_mul (pv 1) pe_int)) pa_nil)) pe_int) pa_nil)) (pv 2)))))), ?_⟩
    have fin : ∀ x : Int, Q (.int (x % many)) H := fun x => q _ (Int.emod_nonneg _ (by omega)) (Int.emod_lt_of_pos _ hm)
    refine ⟨_, rfl, a, _, rfl, .inl hS, _, _, rfl, rfl, _, rfl, ite2 (fun c => ?_) (fun c => ?_)⟩
    · have c1 : (0 : Int) < ((ds.map V.int).length : Int) := of_decide_eq_true c
      have lo := Int.emod_nonneg k (b := ((ds.map V.int).length : Int)) (by omega)
      have hi := Int.emod_lt_of_pos k c1
      have gi := getI (ns := ds) (i := (k % ((ds.map V.int).length : Int)).toNat) (by rw [List.length_map] at *; omega)
      refine ⟨_, rfl, _, rfl, .inl ⟨_, rfl, _, rfl, a, _, rfl, .inl hS, _, _, rfl, rfl, c1, a, _, _, _, rfl, rfl, hS, at_of (j := (k % ((ds.map V.int).length : Int)).toNat) (by omega) gi, ?_⟩⟩
      refine ⟨_, rfl, _, rfl, a, _, rfl, .inl hS, _, _, rfl, rfl, _, rfl, ite2 (fun c => ?_) (fun c => ?_)⟩
      · exact ⟨_, rfl, .inl ⟨_, rfl, _, rfl, _, _, rfl, rfl, hm, fin _⟩⟩
      · exact ⟨_, rfl, _, _, rfl, rfl, .inr ⟨by decide, by decide⟩, _, rfl, _, _, rfl, rfl, .inr ⟨by decide, by decide⟩, _, _, rfl, rfl, .inl ⟨_, rfl, _, _, rfl, rfl, ⟨by decide, by decide⟩, .inl ⟨_, rfl, _, rfl, _, _, rfl, rfl, hm, fin _⟩⟩⟩
    · refine ⟨_, rfl, _, rfl, a, _, rfl, .inl hS, _, _, rfl, rfl, _, rfl, ite2 (fun c => ?_) (fun c => ?_)⟩
      · exact ⟨_, rfl, .inl ⟨_, rfl, _, rfl, _, _, rfl, rfl, hm, fin _⟩⟩
      · exact ⟨_, rfl, _, _, rfl, rfl, .inr ⟨by decide, by decide⟩, _, rfl, _, _, rfl, rfl, .inr ⟨by decide, by decide⟩, _, _, rfl, rfl, .inl ⟨_, rfl, _, _, rfl, rfl, ⟨by decide, by decide⟩, .inl ⟨_, rfl, _, rfl, _, _, rfl, rfl, hm, fin _⟩⟩⟩
theorem atI_ok {α : Type} {xs : List α} {v : Int} (h0 : 0 ≤ v) (h1 : v < (xs.length : Int)) : ∃ c, atI xs v = some c := by
  have e : v = ((v.toNat : Nat) : Int) := by omega
  have hl : v.toNat < xs.length := by omega
  obtain ⟨c, hc⟩ : ∃ c, xs[v.toNat]? = some c := ⟨_, List.getElem?_eq_getElem hl⟩
  refine ⟨c, ?_⟩
  rw [e]
  exact atI_nat hc
theorem iteEq {i j : Int} {A B : Prop} (h1 : i = j → A) (h2 : i ≠ j → B) : if decide (V.int i = V.int j) = true then A else B := by
  by_cases e : i = j
  · subst e
    rw [decide_eq_true rfl]
    exact iteT (h1 rfl)
  · rw [decide_eq_false (fun z => e (V.int.inj z))]
    exact iteF (h2 e)
theorem str_dec (x y : Str) : decide (V.str x = V.str y) = decide (x = y) := by
  by_cases e : x = y
  · subst e; simp
  · rw [decide_eq_false e]
    exact decide_eq_false fun z => e (V.str.inj z)
theorem units64 {k : Nat} {A : Around} (h : Room k A) : A.units + 64 < cLine := by
  have := h.un
  omega
/-! ### _law_grammar -/
theorem scGr : FnScope ["draws", "k", "most", "words", "rules", "n", "at", "name", "size", "rule", "j"] ["draws", "k", "most"] (defScope sGram) := ⟨rfl, rfl, rfl, by decide +kernel, rfl, by decide +kernel, by decide +kernel⟩
def wordsL : List Str := ["a", "bb", "s", "list", "A", "BB", "NUMBER", "a", "bb", "A"]
theorem words_sym : ∀ s ∈ wordsL, s ∈ N4 ∨ s ∈ K3 := by decide +kernel
theorem words_name : ∀ s ∈ wordsL.take 4, s ∈ N4 := by decide +kernel
def GoodGW (most : Nat) (G : List Rule) : Prop := (∀ r ∈ G, GoodW r) ∧ G ≠ [] ∧ G.length ≤ most
theorem pick_word {v : Int} (h0 : 0 ≤ v) (h1 : v < 10) : ∃ s, (wordsL.map V.str)[v.toNat]? = some (V.str s) ∧ (s ∈ N4 ∨ s ∈ K3) ∧ (v < 4 → s ∈ N4) := by
  have e : v.toNat < wordsL.length := by
    show v.toNat < 10
    omega
  refine ⟨wordsL[v.toNat], by rw [List.getElem?_map, List.getElem?_eq_getElem e]; rfl, words_sym _ (List.getElem_mem e), fun h4 => ?_⟩
  refine words_name _ ?_
  have e2 : v.toNat < (wordsL.take 4).length := by
    show v.toNat < 4
    omega
  have e3 : wordsL[v.toNat] = (wordsL.take 4)[v.toNat] := by rw [List.getElem_take]
  rw [e3]
  exact List.getElem_mem e2
theorem pick_size {v : Int} (h0 : 0 ≤ v) (h1 : v < 4) : ∃ c : Int, ([V.int 3, V.int 3, V.int 4, V.int 7] : List V)[v.toNat]? = some (V.int c) ∧ 0 < c ∧ c ≤ 7 := by
  have e : v.toNat = 0 ∨ v.toNat = 1 ∨ v.toNat = 2 ∨ v.toNat = 3 := by omega
  rcases e with e | e | e | e <;> rw [e]
  · exact ⟨3, rfl, by decide, by decide⟩
  · exact ⟨3, rfl, by decide, by decide⟩
  · exact ⟨4, rfl, by decide, by decide⟩
  · exact ⟨7, rfl, by decide, by decide⟩
theorem same_put {A B : Hp} (u : Same A B) {p : Addr} {o : HO} (n : A p = none) : Same A (upd B p o) := fun b x e => by
  rw [upd_ne (ne_of_none e n)]
  exact u b x e
def spGram (K : PySem.W.Frag) : Sp := fun vs H Q _ => ∃ (a : Addr) (ds : List Int) (k : Int) (most : Nat), vs = [.ref a, .int k, .int most] ∧ H a = some (.lst (ds.map V.int)) ∧ 0 < most ∧ most ≤ 40 ∧
  ∀ g H2 G, Same H H2 → GoodGW most G → GraA (News H H2) g G → Q (.ref g) H2
theorem ok_gram {f fM : Addr} {fd fdM : FuncData} (F : Fun K "_law_grammar" "_law_grammar" sGram f fd) (GM : FnOk P w K mg base CX0 1 fM fdM ["draws", "k", "many"] (spMix K)) (kM : PySem.W.keepIn K (.ref fM) = true) (bM : Binds K fdM ["draws", "k", "many"] []) (gM : mg "_law_mix" = some (.ref fM))
    (mr : mg "range" = none) : FnOk P w K mg base CX0 4 f fd ["draws", "k", "most"] (spGram K) := by
  refine F.ok scGr (fun vs H Q E h => ?_) (fun cdv A outer s H vs Q E hr h => ?_)
  · obtain ⟨a, ds, k, most, rfl, _⟩ := h
    rfl
  · obtain ⟨a, ds, k, most, rfl, ha, m0, m40, q⟩ := h
    have hr1 := hr.mono (show 1 ≤ 3 by decide)
    refine ⟨_, pss_cons (ps_set (i := 3) scGr.nd rfl (.inr rfl) (pe_lst (pa_cons pe_str (pa_cons pe_str (pa_cons pe_str (pa_cons pe_str (pa_cons pe_str (pa_cons pe_str (pa_cons pe_str (pa_cons pe_str (pa_cons pe_str (pa_cons pe_str pa_nil))))))))))))
      (pss_cons (ps_set (i := 4) scGr.nd rfl (.inl rfl) (pe_lst pa_nil))
      (pss_cons (ps_for PassesOwn.never rfl (pi_range1 rfl mr (pa_cons (pe_op op_add pe_int (pe_call GM hr1 (by rfl) gM kM bM .nil pass0 (pa_cons (pv 0) (pa_cons (pv 1) (pa_cons (pv 2) pa_nil))))) pa_nil)) (pg_name (i := 5) scGr.nd rfl (.inl rfl))
        (pss_cons (ps_set (i := 6) scGr.nd rfl (.inr rfl) (pe_op op_add (pe_op op_add (pv 1) pe_int) (pe_op op_mul pe_int (pv 5))))
        (pss_cons (ps_set (i := 7) scGr.nd rfl (.inl rfl) (pe_ix ix_list (pv 3) (pe_call GM hr1 (by rfl) gM kM bM .nil pass0 (pa_cons (pv 0) (pa_cons (pv 6) (pa_cons pe_int pa_nil)))) (fun _ _ => rfl)))
        (pss_cons (ps_set (i := 8) scGr.nd rfl (.inl rfl) (pe_call GM hr1 (by rfl) gM kM bM .nil pass0 (pa_cons (pv 0) (pa_cons (pe_op op_add (pv 6) pe_int) (pa_cons
            (pe_ix ix_list (pe_lst (pa_cons pe_int (pa_cons pe_int (pa_cons pe_int (pa_cons pe_int pa_nil))))) (pe_call GM hr1 (by rfl) gM kM bM .nil pass0 (pa_cons (pv 0) (pa_cons (pe_op op_add (pv 6) pe_int) (pa_cons pe_int pa_nil)))) (fun _ _ => rfl)) pa_nil)))))
        (pss_cons (ps_set (i := 9) scGr.nd rfl (.inl rfl) (pe_tup (pa_cons (pv 7) (pa_cons
            (pe_lc (own := [("j", 10)]) (g := gName 10) rfl scGr.nd (pi_range1 rfl mr (pa_cons (pv 8) pa_nil)) (blkOk_by (N := ["draws", "k", "most", "words", "rules", "n", "at", "name", "size", "rule", "j"]) (sc := defScope sGram) (by decide +kernel)) (fun _ _ _ _ _ => pg_name (i := 10) scGr.nd rfl (Or.inl rfl)) (fun _ _ _ _ _ => pts_nil)
              (fun _ _ _ _ _ => pe_ix (r := rIxL K) ix_list (pv 3) (pe_call GM hr1 (by rfl) gM kM bM .nil pass0 (pa_cons (pv 0) (pa_cons (pe_op op_add (pe_op op_add (pv 6) pe_int) (pv 10)) (pa_cons pe_int pa_nil)))) (fun _ _ => rfl))) pa_nil))))
        (pss_one (ps_if (pt_cmpR (op_notInD (units65 hr)) (pv 9) (pv 4) rfl) (pss_one (ps_expr (pe_bm PySem.F.plainAttrs_list PySem.F.slot_list_append PySem.F.type_list_append mt_append (pv 4) (pa_cons (pv 9) pa_nil)))) pss_nil)))))))
      (pss_one (ps_ret (pv 4))))), ?_⟩
    refine ⟨(by show 10 ≤ sizeLine; decide), fun wd nwd => ⟨Nat.zero_le _, fun rl nrl => ?_⟩⟩
    have s1 : Same H (upd H wd (.lst (wordsL.map V.str))) := same_upd nwd
    have hw1 : upd H wd (.lst (wordsL.map V.str)) wd = some (.lst (wordsL.map V.str)) := upd_same
    have nrl1 : upd H wd (.lst (wordsL.map V.str)) rl = none := nrl
    show _
    generalize hH1 : upd H wd (.lst (wordsL.map V.str)) = H1 at s1 hw1 nrl1
    have hH1' : upd H wd (.lst [V.str "a", V.str "bb", V.str "s", V.str "list", V.str "A", V.str "BB", V.str "NUMBER", V.str "a", V.str "bb", V.str "A"]) = H1 := hH1
    have nrl0 : H rl = none := s1.free nrl1
    have ha1 := s1 _ _ ha
    have hab : ∀ {B : Hp}, Same H1 B → SqL K B a (ds.map V.int) := fun u => SqL.of (u _ _ ha1)
    have sb : Same H1 (upd H1 rl (.lst [])) := same_upd nrl1
    simp only [hH1']
    refine ⟨_, rfl, _, rfl, _, rfl, a, ds, k, most, rfl, hab sb, by omega, fun v v0 v1 => ?_⟩
    refine ⟨_, _, rfl, rfl, _, rfl, by omega, by omega, for_range (lo := 0) (n := (1 + v).toNat) (fun i σ H' => ∃ v5 v6 v7 v8 v9 v10 vs G, σ = [some (.ref a), some (.int k), some (.int most), some (.ref wd), some (.ref rl), v5, v6, v7, v8, v9, v10] ∧ Same H1 H' ∧ H' rl = some (.lst vs) ∧
      GrA (News (upd H1 rl (.lst [])) H') vs G ∧ (∀ r ∈ G, GoodW r) ∧ G.Nodup ∧ G.length ≤ i ∧ (i = 0 ∨ G ≠ [])) ⟨none, none, none, none, none, none, [], [], rfl, sb, upd_same, True.intro, (fun _ m => nomatch m), List.nodup_nil, Nat.le_refl _, .inl rfl⟩ ?_ ?_⟩
    · rintro i σ H' hi ⟨v5, v6, v7, v8, v9, v10, vs, G, rfl, s', hrl, gr, good, nd, gl, gn⟩
      have domb : ∀ b, H' b = none → upd H1 rl (.lst []) b = none := fun b hb => by
        have nb : b ≠ rl := fun z => by rw [z, hrl] at hb; cases hb
        rw [upd_ne nb]
        exact s'.free hb
      refine ⟨_, rfl, _, _, rfl, rfl, _, rfl, _, _, rfl, rfl, .inl ⟨by decide, by decide⟩, _, _, rfl, rfl, ?_⟩
      refine ⟨_, rfl, _, rfl, _, rfl, a, ds, _, _, rfl, hab s', (by decide : (0 : Int) < 4), fun x x0 x1 => ?_⟩
      obtain ⟨nm, gnm, _, nmB⟩ := pick_word x0 (by omega)
      refine ⟨wd, _, _, _, rfl, rfl, SqL.of (s' _ _ hw1), at_of (j := x.toNat) (by omega) gnm, ?_⟩
      refine ⟨_, rfl, _, rfl, _, _, rfl, rfl, (by show 4 ≤ sizeLine; decide), fun qq nq => ?_⟩
      have sq : Same H' (upd H' qq (.lst [.int 3, .int 3, .int 4, .int 7])) := same_upd nq
      have hq : upd H' qq (.lst [.int 3, .int 3, .int 4, .int 7]) qq = some (.lst [.int 3, .int 3, .int 4, .int 7]) := upd_same
      generalize upd H' qq (.lst [.int 3, .int 3, .int 4, .int 7]) = H2 at sq hq
      have s2 := s'.trans sq
      refine ⟨_, rfl, _, rfl, _, _, rfl, rfl, a, ds, _, _, rfl, hab s2, (by decide : (0 : Int) < 4), fun y y0 y1 => ?_⟩
      obtain ⟨c, gc, c0, c7⟩ := pick_size y0 y1
      refine ⟨qq, _, _, _, rfl, rfl, SqL.of hq, at_of (j := y.toNat) (by omega) gc, ?_⟩
      refine ⟨a, ds, _, _, rfl, hab s2, c0, fun size z0 z1 => ?_⟩
      refine ⟨_, rfl, _, rfl, size, rfl, by omega, by omega, fun D hD => lc_range (lo := 0) (n := size.toNat) (fun j H'' => ∃ ss : List Str, ss.length = j ∧ (∀ s ∈ ss, s ∈ N4 ∨ s ∈ K3) ∧ H'' = upd H2 D (.lst (ss.map V.str))) ⟨[], rfl, (fun _ m => nomatch m), rfl⟩ ?_ ?_⟩
      · rintro j H'' hj ⟨ss, hss, hsy, rfl⟩
        refine ⟨rfl, _, rfl, _, rfl, _, rfl, _, _, rfl, rfl, _, rfl, _, _, rfl, rfl, a, ds, _, _, rfl, hab (s2.trans (same_upd hD)), (by decide : (0 : Int) < 10), fun p p0 p1 => ?_⟩
        obtain ⟨sy, gsy, syB, _⟩ := pick_word p0 p1
        refine ⟨wd, _, _, _, rfl, rfl, SqL.of ((s2.trans (same_upd hD)) _ _ hw1), at_of (j := p.toNat) (by omega) gsy, _, upd_same, ?_, ss ++ [sy], ?_, fun s hs => ?_, ?_⟩
        · rw [List.length_map, hss]
          exact Nat.lt_of_lt_of_le (by omega : j < 7) (by decide)
        · rw [List.length_append, List.length_singleton, hss]
        · rcases List.mem_append.mp hs with m | m
          · exact hsy s m
          · rw [List.mem_singleton.mp m]
            exact syB
        · rw [upd_upd, List.map_append]
          rfl
      · rintro H'' ⟨ss, hss, hsy, rfl⟩
        refine ⟨(by show 2 ≤ sizeLine; decide), fun t nt => ?_⟩
        have gr1 : GoodW (nm, ss) := ⟨nmB x1, by show ss.length ≤ 6; omega, hsy⟩
        have s3 : Same H' (upd H2 D (.lst (ss.map V.str))) := sq.trans (same_upd hD)
        have s4 : Same H' (upd (upd H2 D (.lst (ss.map V.str))) t (.tup [.str nm, .ref D])) := s3.trans (same_upd nt)
        have ht : upd (upd H2 D (.lst (ss.map V.str))) t (.tup [.str nm, .ref D]) t = some (.tup [.str nm, .ref D]) := upd_same
        have hDv : upd (upd H2 D (.lst (ss.map V.str))) t (.tup [.str nm, .ref D]) D = some (.lst (ss.map V.str)) := by
          rw [upd_ne (ne_of_none upd_same nt)]
          exact upd_same
        have nt0 : H' t = none := s3.free nt
        have nD0 : H' D = none := sq.free hD
        generalize upd (upd H2 D (.lst (ss.map V.str))) t (.tup [.str nm, .ref D]) = H4 at s4 ht hDv
        have ra : RuleA (News (upd H1 rl (.lst [])) H4) (.ref t) (nm, ss) := ⟨t, D, rfl, by rw [news_of (domb t nt0)]; exact ht, by rw [news_of (domb D nD0)]; exact hDv⟩
        have gr4 : GrA (News (upd H1 rl (.lst [])) H4) vs G := gr.up (News.up (Up.of_same s4))
        have hrl4 := s4 _ _ hrl
        have gd : Dp K H4 (.ref rl) (.list (G.map ruleD)) := (show GraA H4 rl G from ⟨vs, hrl4, gr4.up (Up.of_same news_same)⟩).dp
        refine ⟨_, rfl, _, rfl, ruleD (nm, ss), G.map ruleD, (ra.up (Up.of_same news_same)).dp, gd, rule_shaped gr1.good, gD_shaped (fun r h => (good r h).good), _, rfl, ?_⟩
        rw [ruleD_in]
        by_cases m : (nm, ss) ∈ G
        · rw [decide_eq_true m]
          refine iteF ⟨_, _, _, _, _, _, vs, G, rfl, s'.trans s4, hrl4, gr4, good, nd, by omega, .inr fun z => ?_⟩
          rw [z] at m
          cases m
        · rw [decide_eq_false m]
          refine iteT ⟨_, rfl, .inl ⟨rfl, _, SqL.of hrl4⟩, _, rfl, rl, _, _, rfl, rfl, hrl4, ?_, _, _, _, _, _, _, vs ++ [.ref t], G ++ [(nm, ss)], rfl, same_put (s'.trans s4) nrl1, upd_same, ?_, fun r hr2 => ?_, ?_, ?_, .inr ?_⟩
          · rw [gr.len]
            exact Nat.lt_of_le_of_lt (by omega : G.length ≤ 40) (by decide)
          · rw [News.put (upd_same (H := H1) (a := rl) (o := .lst []))]
            exact gr4.snoc ra
          · rcases List.mem_append.mp hr2 with z | z
            · exact good r z
            · rw [List.mem_singleton.mp z]
              exact gr1
          · rw [List.nodup_append]
            refine ⟨nd, by simp, fun p hp p2 hp2 e => ?_⟩
            rw [List.mem_singleton.mp hp2] at e
            rw [e] at hp
            exact m hp
          · rw [List.length_append, List.length_singleton]
            omega
          · simp
    · rintro σ H' ⟨v5, v6, v7, v8, v9, v10, vs, G, rfl, s', hrl, gr, good, nd, gl, gn⟩
      refine ⟨_, rfl, q rl H' G (s1.trans s') ⟨good, ?_, by omega⟩ ⟨vs, by rw [news_of nrl0]; exact hrl, gr.up (Up.of_same (News.less fun b hb => ?_))⟩⟩
      · rcases gn with z | z
        · omega
        · exact z
      · have nb : b ≠ rl := fun z => by rw [z, upd_same] at hb; cases hb
        rw [upd_ne nb] at hb
        exact s1.free hb
end
mutual
theorem dp_same {K : PySem.W.Frag} {A B : Hp} (s : Same A B) : ∀ (d : PyData) (v : V), Dp K A v d → Dp K B v d
  | .none, _, h => by
    cases h
    exact .non
  | .bool _, _, h => by
    cases h
    exact .bl _
  | .int _, _, h => by
    cases h
    exact .int _
  | .str _, _, h => by
    cases h
    exact .str _
  | .list ds, _, h => by
    cases h with
    | lst h1 h2 => exact .lst (s.seq h1) (dps_same s ds _ h2)
  | .tuple ds, _, h => by
    cases h with
    | tup h1 h2 => exact .tup ((Up.of_same s).seqT h1) (dps_same s ds _ h2)
  | .dict _, _, h => by cases h
theorem dps_same {K : PySem.W.Frag} {A B : Hp} (s : Same A B) : ∀ (ds : List PyData) (vs : List V), DpAll K A vs ds → DpAll K B vs ds
  | [], _, h => by
    cases h
    exact .nil
  | d :: ds, _, h => by
    cases h with
    | cons h1 h2 => exact .cons (dp_same s d _ h1) (dps_same s ds _ h2)
end
end Ld

set_option Elab.async false
set_option linter.all false
set_option maxRecDepth 100000
set_option maxHeartbeats 4000000
namespace Ld
open PySem PySem.Spec PyProof.Rows L2 Le TL Lt Lg
/-! ### the order of the four names -/
def rk (s : Str) : Nat := if s = "a" then 0 else if s = "bb" then 1 else if s = "list" then 2 else 3
theorem rk_inj : ∀ x ∈ N4, ∀ y ∈ N4, rk x = rk y → x = y := by decide +kernel
theorem rk_le : ∀ x ∈ N4, ∀ y ∈ N4, (!ltCps y.cps.toList x.cps.toList) = true → rk x ≤ rk y := by decide +kernel
theorem inc_unique : ∀ {l m : List Str}, l.Pairwise (fun a b => rk a < rk b) → m.Pairwise (fun a b => rk a < rk b) → (∀ x, x ∈ l ↔ x ∈ m) → l = m
  | [], [], _, _, _ => rfl
  | [], y :: m, _, _, h => by
    have := (h y).mpr List.mem_cons_self
    cases this
  | x :: l, [], _, _, h => by
    have := (h x).mp List.mem_cons_self
    cases this
  | x :: l, y :: m, hl, hm, h => by
    have e : x = y := by
      rcases List.mem_cons.mp ((h x).mp List.mem_cons_self) with e | a
      · exact e
      · rcases List.mem_cons.mp ((h y).mpr List.mem_cons_self) with e | b
        · exact e.symm
        · have := (List.pairwise_cons.mp hl).1 y b
          have := (List.pairwise_cons.mp hm).1 x a
          omega
    subst e
    have nl : x ∉ l := fun z => by
      have := (List.pairwise_cons.mp hl).1 x z
      omega
    have nm : x ∉ m := fun z => by
      have := (List.pairwise_cons.mp hm).1 x z
      omega
    rw [inc_unique (List.pairwise_cons.mp hl).2 (List.pairwise_cons.mp hm).2 fun z => ?_]
    constructor
    · intro q
      rcases List.mem_cons.mp ((h z).mp (List.mem_cons_of_mem _ q)) with e | a
      · exact (nl (e ▸ q)).elim
      · exact a
    · intro q
      rcases List.mem_cons.mp ((h z).mpr (List.mem_cons_of_mem _ q)) with e | a
      · exact (nm (e ▸ q)).elim
      · exact a
theorem up_of_sorted : ∀ {l : List Str}, (∀ x ∈ l, x ∈ N4) → sortedS l = true → l.Pairwise fun a b => rk a ≤ rk b
  | [], _, _ => .nil
  | [x], _, _ => List.pairwise_singleton _ _
  | x :: y :: l, hn, h => by
    have h2 : (!ltCps y.cps.toList x.cps.toList && risingS y l) = true := h
    rw [Bool.and_eq_true] at h2
    have t := up_of_sorted (l := y :: l) (fun z hz => hn z (List.mem_cons_of_mem _ hz)) h2.2
    have xy := rk_le x (hn x List.mem_cons_self) y (hn y (List.mem_cons_of_mem _ List.mem_cons_self)) h2.1
    refine List.pairwise_cons.mpr ⟨fun z hz => ?_, t⟩
    rcases List.mem_cons.mp hz with e | m
    · rw [e]
      exact xy
    · have := (List.pairwise_cons.mp t).1 z m
      omega
theorem inc_of {l : List Str} (hn : ∀ x ∈ l, x ∈ N4) (nd : l.Nodup) (h : sortedS l = true) : l.Pairwise fun a b => rk a < rk b := by
  have u := up_of_sorted hn h
  clear h
  induction l with
  | nil => exact .nil
  | cons x l ih =>
    have c := List.nodup_cons.mp nd
    have p := List.pairwise_cons.mp u
    refine List.pairwise_cons.mpr ⟨fun y hy => ?_, ih (fun z hz => hn z (List.mem_cons_of_mem _ hz)) c.2 p.2⟩
    have h1 := p.1 y hy
    have h2 : rk x ≠ rk y := fun e => c.1 (rk_inj x (hn x List.mem_cons_self) y (hn y (List.mem_cons_of_mem _ hy)) e ▸ hy)
    omega
theorem up_N : ∀ s ∈ N4, Txt.isupper s = false ∧ Txt.islower s = true := by decide +kernel
theorem up_K : ∀ s ∈ K3, Txt.isupper s = true ∧ Txt.islower s = false := by decide +kernel
theorem upper_is {s : Str} (h : s ∈ N4 ∨ s ∈ K3) : Txt.isupper s = !decide (s ∈ N4) := by
  rcases h with h | h
  · rw [(up_N s h).1, decide_eq_true h]
    rfl
  · rw [(up_K s h).1, decide_eq_false (k3_not s h)]
    rfl
theorem lower_is {s : Str} (h : s ∈ N4 ∨ s ∈ K3) : Txt.islower s = decide (s ∈ N4) := by
  rcases h with h | h
  · rw [(up_N s h).2, decide_eq_true h]
  · rw [(up_K s h).2, decide_eq_false (k3_not s h)]
def symsOf (G : List Rule) (n : Str) : List Str := (G.filter fun r => decide (r.1 = n)).flatMap (·.2)
theorem symsOf_in {G : List Rule} {n : Str} {r : Rule} (h : r ∈ G) (e : r.1 = n) {s : Str} (m : s ∈ r.2) : s ∈ symsOf G n := List.mem_flatMap.mpr ⟨r, List.mem_filter.mpr ⟨h, decide_eq_true e⟩, m⟩
theorem symsOf_from {G : List Rule} {n s : Str} (h : s ∈ symsOf G n) : ∃ r ∈ G, r.1 = n ∧ s ∈ r.2 := by
  obtain ⟨r, hr, m⟩ := List.mem_flatMap.mp h
  obtain ⟨h1, h2⟩ := List.mem_filter.mp hr
  exact ⟨r, h1, of_decide_eq_true h2, m⟩
theorem symsOf_more {G : List Rule} {n : Str} {i : Nat} {r : Rule} (h : G[i]? = some r) : symsOf (G.take (i + 1)) n = symsOf (G.take i) n ++ (if r.1 = n then r.2 else []) := by
  unfold symsOf
  rw [List.take_add_one, h, List.filter_append, List.flatMap_append]
  congr 1
  by_cases e : r.1 = n
  · simp [e]
  · simp [e]
theorem symsOf_len {n : Str} : ∀ {G : List Rule}, (∀ r ∈ G, GoodW r) → (symsOf G n).length ≤ G.length * 6
  | [], _ => Nat.zero_le _
  | r :: G, g => by
    have ih := symsOf_len (n := n) (G := G) fun q hq => g q (List.mem_cons_of_mem _ hq)
    have h6 := (g r List.mem_cons_self).2.1
    have e : symsOf (r :: G) n = (if r.1 = n then r.2 else []) ++ symsOf G n := by
      unfold symsOf
      rw [List.filter_cons]
      by_cases e : r.1 = n
      · simp [e]
      · simp [e]
    rw [e, List.length_append, List.length_cons, Nat.succ_mul]
    split
    · omega
    · rw [List.length_nil]
      omega
section
variable {P : Program} {w : World} {K : PySem.W.Frag} {mg : Str → Option Value} {base : Heap}
theorem scAn : FnScope ["symbol"] ["symbol"] (defScope sAlone) := ⟨rfl, rfl, rfl, by decide +kernel, rfl, by decide +kernel, by decide +kernel⟩
def spAlone : Sp := fun vs H Q _ => ∃ z : Str, vs = [.str z] ∧ (z ∈ N4 ∨ z ∈ K3) ∧ Q (.bl (!decide (z ∈ N4))) H
theorem ok_alone {f : Addr} {fd : FuncData} (F : Fun K "_stands_alone" "_stands_alone" sAlone f fd) : FnOk P w K mg base CX0 1 f fd ["symbol"] spAlone := by
  refine F.ok scAn (fun vs H Q E h => ?_) (fun cdv A outer s H vs Q E hr h => ?_)
  · obtain ⟨z, rfl, _⟩ := h
    rfl
  · obtain ⟨z, rfl, hz, q⟩ := h
    refine ⟨_, pss_one (ps_ret (pe_m0 PySem.F.slot_str_isupper PySem.F.type_str_isupper mt_isupper (pv 0))), ?_⟩
    refine ⟨_, rfl, ⟨_, rfl⟩, z, rfl, rfl, trivial, ?_⟩
    rw [upper_is hz]
    exact q
theorem scSo : FnScope ["grammar", "name", "owner", "symbols", "symbol"] ["grammar", "name"] (defScope sSymOf) := ⟨rfl, rfl, rfl, by decide +kernel, rfl, by decide +kernel, by decide +kernel⟩
def spSymOf : Sp := fun vs H Q _ => ∃ (g : Addr) (G : List Rule) (n : Str), vs = [.ref g, .str n] ∧ GraA H g G ∧ (∀ r ∈ G, GoodW r) ∧ G.length ≤ 12 ∧ ∀ p H2, Same H H2 → H p = none → H2 p = some (.lst ((symsOf G n).map V.str)) → Q (.ref p) H2
theorem ok_symof {f : Addr} {fd : FuncData} (F : Fun K "_symbols_of" "_symbols_of" sSymOf f fd) : FnOk P w K mg base CX0 1 f fd ["grammar", "name"] spSymOf := by
  refine F.ok scSo (fun vs H Q E h => ?_) (fun cdv A outer s H vs Q E hr h => ?_)
  · obtain ⟨g, G, n, rfl, _⟩ := h
    rfl
  · obtain ⟨g, G, n, rfl, hG, good, hlen, q⟩ := h
    refine ⟨_, pss_one (ps_ret (pe_lc2 (own := [("owner", 2), ("symbols", 3), ("symbol", 4)]) (vs1 := [4]) (g := gTup K 2 (gCons (gName 2) (gCons (gName 3) gNil))) (g1 := gName 4) rfl scSo.nd (pi_list (pv 0))
      (blkOk_by (N := ["grammar", "name", "owner", "symbols", "symbol"]) (sc := defScope sSymOf) (by decide +kernel)) (by decide)
      (fun _ _ _ _ _ => pg_tup rfl (pgs_cons (pg_name (i := 2) scSo.nd rfl (Or.inl rfl)) (pgs_cons (pg_name (i := 3) scSo.nd rfl (Or.inl rfl)) pgs_nil))) (fun _ _ _ _ _ => pts_one (pt_cmpR op_eq (pv 2) (pv 1) (nomark _)))
      (wi1 := iList K (tVar 3)) (fun _ _ _ _ _ => pi_list (pv 3)) (fun _ _ _ _ _ => pg_name (i := 4) scSo.nd rfl (Or.inl rfl)) (fun _ _ _ _ _ => pts_nil) (fun _ _ _ _ _ => pv 4))), ?_⟩
    obtain ⟨vs, hg, gr⟩ := hG
    refine ⟨_, rfl, g, rfl, ⟨_, SqL.of hg⟩, fun D hD => ?_⟩
    have hg1 : ∀ u : HO, upd H D u g = some (.lst vs) := fun u => by rw [upd_ne (ne_of_none hg hD)]; exact hg
    have lenS := symsOf_len (n := n) good
    refine ⟨fun i m H' => m = vs.length - i ∧ i ≤ vs.length ∧ H' = upd H D (.lst ((symsOf (G.take i) n).map V.str)), ⟨vs.length, rfl, Nat.zero_le _, rfl⟩, ?_⟩
    rintro i m H' ⟨rfl, hi, rfl⟩
    by_cases lt : i < vs.length
    · refine .inr ⟨walk_list.goes i _ lt (SqL.of (K := K) (hg1 _)), fun H2 => H2 = upd H D (.lst ((symsOf (G.take (i + 1)) n).map V.str)), fun H2 e => ⟨vs.length - (i + 1), by omega, rfl, lt, e⟩, fun x H2 y => ?_⟩
      obtain ⟨rfl, hx⟩ := walk_list.yields i _ x H2 lt (SqL.of (K := K) (hg1 _)) y
      obtain ⟨r, hr2, ra⟩ := gr.get hx
      obtain ⟨tt, l, rfl, h1, h2⟩ := ra
      have h1' : ∀ u : HO, upd H D u tt = some (.tup [.str r.1, .ref l]) := fun u => by rw [upd_ne (ne_of_none h1 hD)]; exact h1
      have h2' : ∀ u : HO, upd H D u l = some (.lst (r.2.map V.str)) := fun u => by rw [upd_ne (ne_of_none h2 hD)]; exact h2
      have more := symsOf_more (n := n) hr2
      have g6 := (good r (List.mem_of_getElem? hr2)).2.1
      have li : (symsOf (G.take i) n).length ≤ 72 := by
        have := symsOf_len (n := n) (G := G.take i) fun q hq => good q (List.mem_of_mem_take hq)
        have h3 : (G.take i).length ≤ 12 := Nat.le_trans (List.length_take_le' _ _) hlen
        omega
      refine ⟨tt, _, rfl, SqT.of (h1' _), rfl, _, _, rfl, _, _, rfl, rfl, rfl, _, rfl, _, rfl, rfl, _, rfl, iteStr (fun e => ?_) (fun ne => ?_)⟩
      · rw [if_pos e] at more
        refine ⟨_, rfl, l, rfl, ⟨_, SqL.of (h2' _)⟩, fun j k H3 => k = r.2.length - j ∧ j ≤ r.2.length ∧ H3 = upd H D (.lst ((symsOf (G.take i) n ++ r.2.take j).map V.str)), ⟨r.2.length, rfl, Nat.zero_le _, by rw [List.take_zero, List.append_nil]⟩, ?_⟩
        rintro j k H3 ⟨rfl, hj, rfl⟩
        by_cases lj : j < r.2.length
        · have lj' : j < (r.2.map V.str).length := by rw [List.length_map]; exact lj
          refine .inr ⟨walk_list.goes j _ lj' (SqL.of (K := K) (h2' _)), fun H4 => H4 = upd H D (.lst ((symsOf (G.take i) n ++ r.2.take (j + 1)).map V.str)), fun H4 e4 => ⟨r.2.length - (j + 1), by omega, rfl, lj, e4⟩, fun x2 H4 y2 => ?_⟩
          obtain ⟨rfl, hx2⟩ := walk_list.yields j _ x2 H4 lj' (SqL.of (K := K) (h2' _)) y2
          rw [List.getElem?_map, List.getElem?_eq_getElem lj] at hx2
          obtain rfl := (Option.some.inj hx2).symm
          refine ⟨rfl, _, rfl, _, upd_same, ?_, ?_⟩
          · rw [List.length_map, List.length_append]
            have := List.length_take_le' j r.2
            exact Nat.lt_of_le_of_lt (by omega : _ ≤ 78) (by decide)
          · rw [upd_upd, List.take_add_one, List.getElem?_eq_getElem lj, ← List.append_assoc, List.map_append (l₂ := (some r.2[j]).toList)]
            rfl
        · have ej : j = r.2.length := by omega
          subst ej
          refine .inl ⟨?_, ?_⟩
          · have := walk_list.stops _ (SqL.of (h2' (.lst ((symsOf (G.take i) n ++ r.2.take r.2.length).map V.str))) : SqL K _ l (r.2.map V.str))
            rw [List.length_map] at this
            exact this
          · rw [more, List.take_length]
      · rw [if_neg ne, List.append_nil] at more
        rw [more]
    · have e : i = vs.length := by omega
      subst e
      refine .inl ⟨walk_list.stops _ (SqL.of (K := K) (hg1 _)), ?_⟩
      rw [gr.len, List.take_length]
      exact q D _ (same_upd hD) hD upd_same
end
end Ld

set_option Elab.async false
set_option linter.all false
set_option maxRecDepth 100000
set_option maxHeartbeats 4000000
namespace Ld
open PySem PySem.Spec PyProof.Rows L2 Le TL Lt Lg
/-- the state of the search: R reached, W waiting -/
structure RInv (G : List Rule) (n0 : Str) (R W : List Str) : Prop where
  nd : R.Nodup
  n4 : ∀ n ∈ R, n ∈ N4
  rea : ∀ n ∈ R, Rea G n0 n
  st : n0 ∈ R
  sub : ∀ n ∈ W, n ∈ R
  wn : W.Nodup
  cl : ∀ r ∈ G, r.1 ∈ R → r.1 ∉ W → ∀ s ∈ r.2, s ∈ N4 → s ∈ R
theorem RInv.len {G : List Rule} {n0 : Str} {R W : List Str} (h : RInv G n0 R W) : R.length ≤ 4 := nodup_le h.nd h.n4
/-- one name's symbols are being looked at: A new, those of S up to j done -/
structure RMid (G : List Rule) (n0 n : Str) (R W1 S A : List Str) (j : Nat) : Prop where
  nd : (R ++ A).Nodup
  n4 : ∀ m ∈ A, m ∈ N4
  rea : ∀ m ∈ A, Rea G n0 m
  done : ∀ s ∈ S.take j, s ∈ N4 → s ∈ R ++ A
section
variable {P : Program} {w : World} {K : PySem.W.Frag} {mg : Str → Option Value} {base : Heap}
theorem scRe : FnScope ["grammar", "start", "reached", "waiting", "name", "symbol"] ["grammar"] (defScope sReach) := ⟨rfl, rfl, rfl, by decide +kernel, rfl, by decide +kernel, by decide +kernel⟩
def spReach : Sp := fun vs H Q _ => ∃ (g : Addr) (G : List Rule) (r0 : Rule) (G' : List Rule), vs = [.ref g] ∧ G = r0 :: G' ∧ GraA H g G ∧ (∀ r ∈ G, GoodW r) ∧ G.length ≤ 12 ∧
  ∀ p H2 (L : List Str), Same H H2 → H p = none → H2 p = some (.lst (L.map V.str)) → L.Pairwise (fun a b => rk a < rk b) → (∀ n ∈ L, n ∈ N4) → (∀ n, n ∈ L ↔ Rea G r0.1 n) → Q (.ref p) H2
theorem ok_reach {f fS fA : Addr} {fd fdS fdA : FuncData} (F : Fun K "reached_names" "reached_names" sReach f fd)
    (GS : FnOk P w K mg base CX0 1 fS fdS ["grammar", "name"] spSymOf) (kS : PySem.W.keepIn K (.ref fS) = true) (bS : Binds K fdS ["grammar", "name"] []) (gS : mg "_symbols_of" = some (.ref fS))
    (GA : FnOk P w K mg base CX0 1 fA fdA ["symbol"] spAlone) (kA : PySem.W.keepIn K (.ref fA) = true) (bA : Binds K fdA ["symbol"] []) (gA : mg "_stands_alone" = some (.ref fA))
    (ms : mg "sorted" = none) : FnOk P w K mg base CX0 2 f fd ["grammar"] spReach := by
  refine F.ok scRe (fun vs H Q E h => ?_) (fun cdv A outer s H vs Q E hr h => ?_)
  · obtain ⟨g, G, r0, G', rfl, _⟩ := h
    rfl
  · obtain ⟨g, G, r0, G', rfl, eG, hG, good, hlen, q⟩ := h
    refine ⟨_, pss_cons (ps_set (i := 1) scRe.nd rfl (.inl rfl) (pe_ix ix_tup (pe_ix ix_list (pv 0) pe_int (fun _ _ => rfl)) pe_int (fun _ _ => rfl)))
      (pss_cons (ps_set (i := 2) scRe.nd rfl (.inl rfl) (pe_lst (pa_cons (pv 1) pa_nil)))
      (pss_cons (ps_set (i := 3) scRe.nd rfl (.inl rfl) (pe_lst (pa_cons (pv 1) pa_nil)))
      (pss_cons (ps_while PassesOwn.never (pt_truth (pv 3) (by intro _; rfl))
        (pss_cons (ps_set (i := 4) scRe.nd rfl (.inl rfl) (pe_bm0 PySem.F.plainAttrs_list PySem.F.slot_list_pop PySem.F.type_list_pop mt_pop (pv 3)))
        (pss_one (ps_for PassesOwn.never rfl (pi_list (pe_call GS hr (by rfl) gS kS bS .nil pass0 (pa_cons (pv 0) (pa_cons (pv 4) pa_nil)))) (pg_name (i := 5) scRe.nd rfl (.inl rfl))
          (pss_one (ps_if (PW.pt (pw_and (pt_not (pt_val (pe_call GA hr (by rfl) gA kA bA .nil pass0 (pa_cons (pv 5) pa_nil)))) (pw_and1 (pt_cmpR op_notIn_seq (pv 5) (pv 2) rfl))))
            (pss_cons (ps_expr (pe_bm PySem.F.plainAttrs_list PySem.F.slot_list_append PySem.F.type_list_append mt_append (pv 2) (pa_cons (pv 5) pa_nil)))
            (pss_one (ps_expr (pe_bm PySem.F.plainAttrs_list PySem.F.slot_list_append PySem.F.type_list_append mt_append (pv 3) (pa_cons (pv 5) pa_nil))))) pss_nil))))))
      (pss_one (ps_ret (pe_callB cr_sortedS (by rfl) ms (by decide +kernel) (pa_cons (pv 2) pa_nil))))))), ?_⟩
    obtain ⟨vs, hg, gr⟩ := id hG
    have l0 : G[0]? = some r0 := by rw [eG]; rfl
    obtain ⟨v0, hv0, t0, l00, rfl, h1, h2⟩ : ∃ v0, vs[0]? = some v0 ∧ RuleA H v0 r0 := by
      cases vs with
      | nil => rw [eG] at gr; exact gr.elim
      | cons v0 vs => rw [eG] at gr; exact ⟨v0, rfl, gr.1⟩
    have r0m : r0 ∈ G := by rw [eG]; exact List.mem_cons_self
    have n04 := (good r0 r0m).1
    generalize en : r0.1 = n0 at h1 n04 q
    refine ⟨_, rfl, g, _, _, _, rfl, rfl, SqL.of hg, at_of (j := 0) rfl hv0, t0, _, _, _, rfl, rfl, SqT.of h1, at_of (j := 0) rfl rfl, ?_⟩
    refine ⟨_, rfl, (by show 1 ≤ sizeLine; decide), fun rl nrl => ⟨_, rfl, (by show 1 ≤ sizeLine; decide), fun wl nwl => ?_⟩⟩
    have s1 : Same H (upd H rl (.lst [.str n0])) := same_upd nrl
    have s2 := s1.trans (same_upd nwl (o := .lst [.str n0]))
    have hrl : upd (upd H rl (.lst [.str n0])) wl (.lst [.str n0]) rl = some (.lst [.str n0]) := by
      rw [upd_ne (ne_of_none upd_same nwl)]
      exact upd_same
    have nrw : rl ≠ wl := ne_of_none (upd_same (H := H) (a := rl) (o := .lst [.str n0])) nwl
    have nwl0 : H wl = none := s1.free nwl
    refine ⟨fun m σ H' => ∃ v4 v5 R W, σ = [some (.ref g), some (.str n0), some (.ref rl), some (.ref wl), v4, v5] ∧ Same H H' ∧ H' rl = some (.lst (R.map V.str)) ∧ H' wl = some (.lst (W.map V.str)) ∧ RInv G n0 R W ∧ m = 2 * (4 - R.length) + W.length,
      ⟨_, none, none, [n0], [n0], rfl, s2, hrl, upd_same, ⟨by simp, fun n hn => by rw [List.mem_singleton.mp hn]; exact n04, fun n hn => by rw [List.mem_singleton.mp hn]; exact .start, List.mem_singleton.mpr rfl, fun n hn => hn, by simp, fun r _ hr1 hr2 => (hr2 hr1).elim⟩, rfl⟩, ?_⟩
    rintro m σ H' ⟨v4, v5, R, W, rfl, s', hr', hw', inv, rfl⟩
    refine ⟨_, rfl, _, .inl ⟨_, SqL.of hw', rfl⟩, ?_⟩
    rcases List.eq_nil_or_concat W with eW | ⟨W1, n, eW⟩
    · subst eW
      refine iteF ?_
      refine ⟨_, rfl, rl, R, rfl, SqL.of hr', by have := inv.len; omega, fun ys p perm srt np => ?_⟩
      have n4y : ∀ x ∈ ys, x ∈ N4 := fun x hx => inv.n4 x (perm.mem_iff.mp hx)
      refine q p _ ys (s'.trans (same_upd np)) (s'.free np) upd_same (inc_of n4y (perm.nodup_iff.mpr inv.nd) srt) n4y fun x => ?_
      rw [perm.mem_iff]
      exact ⟨fun hx => inv.rea x hx, fun hx => rea_in inv.st (fun r hr1 hr2 => inv.cl r hr1 hr2 (fun z => nomatch z)) hx⟩
    · have eW' : W = W1 ++ [n] := by rw [eW]; simp
      subst eW'
      have ne : ((W1 ++ [n]).map V.str).isEmpty = false := by simp
      rw [ne]
      refine iteT ⟨fun σ2 H2 => ∃ m2, m2 < 2 * (4 - R.length) + (W1 ++ [n]).length ∧ ∃ v4 v5 R W, σ2 = [some (.ref g), some (.str n0), some (.ref rl), some (.ref wl), v4, v5] ∧ Same H H2 ∧ H2 rl = some (.lst (R.map V.str)) ∧ H2 wl = some (.lst (W.map V.str)) ∧ RInv G n0 R W ∧ m2 = 2 * (4 - R.length) + W.length, fun _ _ z => z, ?_⟩
      have em : (W1 ++ [n]).map V.str = W1.map V.str ++ [V.str n] := by rw [List.map_append]; rfl
      rw [em] at hw'
      refine ⟨_, rfl, .inl ⟨rfl, _, SqL.of hw'⟩, wl, _, .str n, rfl, rfl, hw', ?_, ?_⟩
      · rw [List.length_append, List.length_singleton, Nat.add_sub_cancel, List.getElem?_append_right (Nat.le_refl _), Nat.sub_self]
        rfl
      rw [List.dropLast_concat]
      have s3 : Same H (upd H' wl (.lst (W1.map V.str))) := same_put s' nwl0
      have hr3 : upd H' wl (.lst (W1.map V.str)) rl = some (.lst (R.map V.str)) := by rw [upd_ne nrw]; exact hr'
      have hw3 : upd H' wl (.lst (W1.map V.str)) wl = some (.lst (W1.map V.str)) := upd_same
      generalize upd H' wl (.lst (W1.map V.str)) = H3 at s3 hr3 hw3
      refine ⟨_, rfl, _, rfl, g, G, n, rfl, hG.up (Up.of_same s3), good, hlen, fun p H4 s4 np hp => ?_⟩
      have s04 := s3.trans s4
      have npr : rl ≠ p := ne_of_none hr3 np
      have npw : wl ≠ p := ne_of_none hw3 np
      have lenR := inv.len
      have w1nd : W1.Nodup := (List.nodup_append.mp inv.wn).1
      refine ⟨p, rfl, ⟨_, SqL.of hp⟩, for_list (a := p) (xs := (symsOf G n).map V.str) (fun j σ H5 => ∃ v5 A, σ = [some (.ref g), some (.str n0), some (.ref rl), some (.ref wl), some (.str n), v5] ∧ Same H H5 ∧ H5 p = some (.lst ((symsOf G n).map V.str)) ∧ H5 rl = some (.lst ((R ++ A).map V.str)) ∧ H5 wl = some (.lst ((W1 ++ A).map V.str)) ∧ RMid G n0 n R W1 (symsOf G n) A j)
        ⟨v5, [], rfl, s04, hp, by rw [List.append_nil]; exact s4 _ _ hr3, by rw [List.append_nil]; exact s4 _ _ hw3, ⟨by rw [List.append_nil]; exact inv.nd, (fun _ z => nomatch z), (fun _ z => nomatch z), fun s hs => by rw [List.take_zero] at hs; cases hs⟩⟩ (fun j σ H5 _ ⟨_, _, _, _, h, _⟩ => SqL.of h) ?_ ?_⟩
      · rintro j x σ H5 hx ⟨v5, A, rfl, s5, hp5, hr5, hw5, mid⟩
        obtain ⟨sy, hsy, rfl⟩ : ∃ sy, (symsOf G n)[j]? = some sy ∧ x = V.str sy := by
          rw [List.getElem?_map] at hx
          cases e : (symsOf G n)[j]? with
          | none =>
            rw [e] at hx
            cases hx
          | some sy =>
            rw [e] at hx
            exact ⟨sy, rfl, (Option.some.inj hx).symm⟩
        obtain ⟨r, hr1, rn, ms⟩ := symsOf_from (List.mem_of_getElem? hsy)
        have kind := (good r hr1).2.2 sy ms
        have take : (symsOf G n).take (j + 1) = (symsOf G n).take j ++ [sy] := by rw [List.take_add_one, hsy]; rfl
        have keep : (sy ∈ N4 → sy ∈ R ++ A) → RMid G n0 n R W1 (symsOf G n) A (j + 1) := fun k => ⟨mid.nd, mid.n4, mid.rea, fun s hs hn => by
          rw [take] at hs
          rcases List.mem_append.mp hs with z | z
          · exact mid.done s z hn
          · rw [List.mem_singleton.mp z] at hn ⊢
            exact k hn⟩
        refine ⟨_, rfl, sy, rfl, kind, _, rfl, ?_⟩
        by_cases hn : sy ∈ N4
        · rw [decide_eq_true hn]
          refine iteT ⟨_, rfl, _, rfl, rl, _, rfl, .inl (SqL.of hr5), rfl, flat_strs _, _, rfl, ?_⟩
          show (if (!inV (V.str sy) ((R ++ A).map V.str)) = true then _ else _)
          rw [inV_strs]
          by_cases m : sy ∈ R ++ A
          · rw [decide_eq_true m]
            exact iteF ⟨_, A, rfl, s5, hp5, hr5, hw5, keep fun _ => m⟩
          · rw [decide_eq_false m]
            have nd2 : (R ++ (A ++ [sy])).Nodup := by
              rw [← List.append_assoc, List.nodup_append]
              refine ⟨mid.nd, by simp, fun a ha b hb e => ?_⟩
              rw [List.mem_singleton.mp hb] at e
              rw [e] at ha
              exact m ha
            have all4 : ∀ x ∈ R ++ (A ++ [sy]), x ∈ N4 := fun x hx => by
              rcases List.mem_append.mp hx with z | z
              · exact inv.n4 x z
              · rcases List.mem_append.mp z with z | z
                · exact mid.n4 x z
                · rw [List.mem_singleton.mp z]
                  exact hn
            have tot : (R ++ (A ++ [sy])).length ≤ 4 := nodup_le nd2 all4
            rw [List.length_append, List.length_append, List.length_singleton] at tot
            have wl5 : upd H5 rl (.lst ((R ++ A).map V.str ++ [V.str sy])) wl = some (.lst ((W1 ++ A).map V.str)) := by rw [upd_ne (Ne.symm nrw)]; exact hw5
            have lenW : ((W1 ++ A).map V.str).length < sizeLine := by
              have z : W1.length ≤ R.length := nodup_le w1nd fun u hu => inv.sub u (List.mem_append_left _ hu)
              rw [List.length_map, List.length_append]
              exact Nat.lt_of_le_of_lt (by omega : _ ≤ 4) (by decide)
            refine iteT ⟨_, rfl, .inl ⟨rfl, _, SqL.of hr5⟩, _, rfl, rl, _, _, rfl, rfl, hr5, ?_, _, rfl, .inl ⟨rfl, _, SqL.of wl5⟩, _, rfl, wl, _, _, rfl, rfl, wl5, lenW, _, A ++ [sy], rfl, same_put (same_put s5 nrl) nwl0, ?_, ?_, ?_, ⟨nd2, fun x hx => all4 x (List.mem_append_right _ hx), fun x hx => ?_, fun s hs hsn => ?_⟩⟩
            · rw [List.length_map, List.length_append]
              exact Nat.lt_of_le_of_lt (by omega : _ ≤ 4) (by decide)
            · rw [upd_ne (Ne.symm npw), upd_ne (Ne.symm npr)]
              exact hp5
            · rw [upd_ne nrw, upd_same, ← List.append_assoc, List.map_append (l₁ := R ++ A)]
              rfl
            · rw [upd_same, ← List.append_assoc, List.map_append (l₁ := W1 ++ A)]
              rfl
            · rcases List.mem_append.mp hx with z | z
              · exact mid.rea x z
              · rw [List.mem_singleton.mp z]
                exact .step (inv.rea n (inv.sub n (List.mem_append_right _ (List.mem_singleton.mpr rfl)))) (by rw [← rn]; exact hr1) ms hn
            · rw [take] at hs
              rw [← List.append_assoc]
              rcases List.mem_append.mp hs with z | z
              · exact List.mem_append_left _ (mid.done s z hsn)
              · rw [List.mem_singleton.mp z]
                exact List.mem_append_right _ (List.mem_singleton.mpr rfl)
        · rw [decide_eq_false hn]
          exact iteF ⟨_, A, rfl, s5, hp5, hr5, hw5, keep fun z => (hn z).elim⟩
      · rintro σ H5 ⟨v5, A, rfl, s5, hp5, hr5, hw5, mid⟩
        rw [List.length_map] at mid
        have all4 : ∀ x ∈ R ++ A, x ∈ N4 := fun x hx => (List.mem_append.mp hx).elim (fun z => inv.n4 x z) fun z => mid.n4 x z
        have tot : (R ++ A).length ≤ 4 := nodup_le mid.nd all4
        rw [List.length_append] at tot
        refine ⟨_, ?_, _, _, R ++ A, W1 ++ A, rfl, s5, hr5, hw5, ⟨mid.nd, all4, fun x hx => (List.mem_append.mp hx).elim (fun z => inv.rea x z) fun z => mid.rea x z, List.mem_append_left _ inv.st, fun x hx => ?_, ?_, fun r hr1 hr2 hr3 s hs hsn => ?_⟩, rfl⟩
        · rw [List.length_append, List.length_append, List.length_append, List.length_singleton]
          omega
        · rcases List.mem_append.mp hx with z | z
          · exact List.mem_append_left _ (inv.sub x (List.mem_append_left _ z))
          · exact List.mem_append_right _ z
        · have parts := List.nodup_append.mp mid.nd
          exact List.nodup_append.mpr ⟨w1nd, parts.2.1, fun a ha b hb => parts.2.2 a (inv.sub a (List.mem_append_left _ ha)) b hb⟩
        · have nA : r.1 ∉ A := fun z => hr3 (List.mem_append_right _ z)
          have nW : r.1 ∉ W1 := fun z => hr3 (List.mem_append_left _ z)
          have inR : r.1 ∈ R := (List.mem_append.mp hr2).elim id fun z => (nA z).elim
          by_cases e : r.1 = n
          · refine mid.done s ?_ hsn
            rw [List.take_length]
            exact symsOf_in hr1 e hs
          · refine List.mem_append_left _ (inv.cl r hr1 inR (fun z => ?_) s hs hsn)
            rcases List.mem_append.mp z with z | z
            · exact nW z
            · exact e (List.mem_singleton.mp z)
end
end Ld

set_option Elab.async false
set_option linter.all false
set_option maxRecDepth 100000
set_option maxHeartbeats 4000000
namespace Ld
open PySem PySem.Spec PyProof.Rows L2 Le TL Lt Lg
/-! ### the first rule with a fault -/
def fb (p : Rule → Bool) : Nat → List Rule → Option Nat
  | _, [] => none
  | k, r :: G => if p r = true then some k else fb p (k + 1) G
theorem name_in {G : List Rule} : ∀ {ns : List Str} {n : Str}, n ∈ G.foldl nmStep ns ↔ n ∈ ns ∨ n ∈ G.map (·.1) := by
  induction G with
  | nil => simp
  | cons r G ih =>
    intro ns n
    rw [List.foldl_cons, ih, List.map_cons, List.mem_cons]
    unfold nmStep
    by_cases m : r.1 ∈ ns
    · rw [if_pos m]
      constructor
      · rintro (h | h)
        · exact .inl h
        · exact .inr (.inr h)
      · rintro (h | h | h)
        · exact .inl h
        · exact .inl (h ▸ m)
        · exact .inr h
    · rw [if_neg m, List.mem_append, List.mem_singleton]
      constructor
      · rintro ((h | h) | h)
        · exact .inl h
        · exact .inr (.inl h)
        · exact .inr (.inr h)
      · rintro (h | h | h)
        · exact .inl (.inl h)
        · exact .inl (.inr h)
        · exact .inr h
def p1 (G : List Rule) (ks : List Str) (r : Rule) : Bool := !(r.2.all fun s => decide (s ∈ ks) || decide (s ∈ G.map (·.1)))
noncomputable def p2 (G : List Rule) (r : Rule) : Bool := !(@decide (Der G r.1) (Classical.propDecidable _))
noncomputable def p3 (G : List Rule) (n0 : Str) (r : Rule) : Bool := !(@decide (Rea G n0 r.1) (Classical.propDecidable _))
theorem all_getD (p : Str → Bool) (ss : List Str) : ((List.range ss.length).all fun i => p (ss.getD i "")) = ss.all p := by
  rw [Bool.eq_iff_iff, List.all_eq_true, List.all_eq_true]
  constructor
  · intro h s hs
    obtain ⟨j, hj, e⟩ := List.getElem_of_mem hs
    have q := h j (List.mem_range.mpr hj)
    rw [List.getD_eq_getElem?_getD, List.getElem?_eq_getElem hj] at q
    rw [← e]
    exact q
  · intro h j hj
    have hj' := List.mem_range.mp hj
    rw [List.getD_eq_getElem?_getD, List.getElem?_eq_getElem hj']
    exact h _ (List.getElem_mem hj')
section
variable {P : Program} {w : World} {K : PySem.W.Frag} {mg : Str → Option Value} {base : Heap}
theorem drop_get2 {α : Type} {L : List α} {i : Nat} {x : α} (h : L[i]? = some x) : L.drop i = x :: L.drop (i + 1) := by
  obtain ⟨hi, e⟩ := List.getElem?_eq_some_iff.mp h
  rw [← e]
  exact List.drop_eq_getElem_cons hi
/-- a def that raises, its code told -/
theorem okTX {x qual : Str} {st : Stmt} {f c : Addr} {fd : FuncData} {N ps : List Str} {k : Nat} {sp : Sp} (F : Fun K x qual st f fd) (hc : fd.code = .ref c) (S : FnScope N ps (defScope st)) (len : ∀ vs H Q E, sp vs H Q E → vs.length = ps.length)
    (hbody : ∀ (A : Around) (outer : List Env) (s : Shared) (H : Hp) (vs : List V) (Q : VK) (E : XK), Room k (A.deeper (envOfC qual (defScope st) s.heap.objs.size f (.ref c))) → sp vs H Q E →
      ∃ t, PSs (cxOf (L2.CX P w) P w K mg base N qual (defScope st) f (.ref c) A outer s H E) (defBody st) t ∧ t { nx := fun _ H' => Q .non H', rt := Q } (start N vs) H) : FnOk P w K mg base (L2.CX P w) (k + 1) f fd ps sp := by
  obtain ⟨oc, od, kV, doc, pm, an, cdv, ct, osl, rfl, lk, hcd⟩ := F.ex
  have e : cdv = .ref c := hc
  subst e
  exact fn_of lk hcd S len fun A outer s H vs Q E hr hsp => hbody A outer s H vs Q E hr hsp
theorem scCs : FnScope ["grammar", "known", "number", "name", "symbols", "symbol"] ["grammar", "known"] (defScope sChSy) := ⟨rfl, rfl, rfl, by decide +kernel, rfl, by decide +kernel, by decide +kernel⟩
theorem csScope : Gc.GenSc (defScope sChSy) (({ kind := ScopeKind.function, names := [(Str.ofString ".0", NameKind.local), (Str.ofString "symbol", NameKind.local), (Str.ofString "known", NameKind.free)], isGenerator := true, isCoroutine := false, more := [] } : Scope)) "symbol" :=
  ⟨rfl, rfl, by decide +kernel, rfl, rfl, by decide +kernel⟩
def spChSy (T1 T2 cU : Addr) : Sp := fun vs H Q E => ∃ (g kn : Addr) (G : List Rule) (ks : List Str), vs = [.ref g, .ref kn] ∧ GraA H g G ∧ (∀ r ∈ G, GoodW r) ∧ G.length ≤ 12 ∧ H kn = some (.lst (ks.map V.str)) ∧ Tb T1 T2 H ∧
  (∀ k, fb (fun r => !(r.2.all fun s => decide (s ∈ ks))) 0 G = some k → Thrown T1 T2 cU k H E) ∧ (fb (fun r => !(r.2.all fun s => decide (s ∈ ks))) 0 G = none → ∀ H2, Up H H2 → Tb T1 T2 H2 → Q .non H2)
theorem ok_chsy {f c fI T1 T2 cU : Addr} {fd fdI : FuncData} (F : Fun K "_check_symbols" "_check_symbols" sChSy f fd) (hc : fd.code = .ref c) (TB : GxR.TabB base mg c T1)
    (GI : FnOk P w K mg base CX0 1 fI fdI ["self", "at"] (spInit K)) (bI : Binds K fdI ["self", "at"] []) (EU : ErrC K cU fI) (gU : mg "UnknownSymbol" = some (.ref cU)) (me : mg "enumerate" = none) (ma : mg "all" = none) :
    FnOk P w K mg base (L2.CX P w) 3 f fd ["grammar", "known"] (spChSy T1 T2 cU) := by
  refine okTX (k := 2) F hc scCs (fun vs H Q E h => ?_) (fun A outer s H vs Q E hr h => ?_)
  · obtain ⟨g, kn, G, ks, rfl, _⟩ := h
    rfl
  · obtain ⟨g, kn, G, ks, rfl, hG, good, hlen, hk, tb, bad, fine⟩ := h
    refine ⟨_, pss_one (ps_for (passes_of rfl) rfl (pi_enum (by rfl) me (pa_cons (pv 0) pa_nil)) (pg_tup rfl (pgs_cons (pg_name (i := 2) scCs.nd rfl (.inl rfl)) (pgs_cons (pg_tup rfl (pgs_cons (pg_name (i := 3) scCs.nd rfl (.inl rfl)) (pgs_cons (pg_name (i := 4) scCs.nd rfl (.inl rfl)) pgs_nil))) pgs_nil)))
      (pss_one (ps_if (pt_not (pt_val (Gn.pe_allN (te := tOp (rIn K false) (tVar 5) (tVar 1)) (k := 0) (ix := 5) (hr.mono (by decide)) (by rfl) ma (by decide +kernel) TB rfl scCs.nd csScope (blkOk_by (own := [("symbol", 5)]) (N := ["grammar", "known", "number", "name", "symbols", "symbol"]) (sc := defScope sChSy) (by decide +kernel)) rfl (pi_list (pv 4))
          (fun B s H C code fp hB => pe_cmpR op_in_seq (pv 5) (pv 1) rfl) (fun _ => rfl))))
        (pss_one (ps_raise rfl (takes_of rfl rfl rfl rfl) (pmk_oex EU.oex EU.ini EU.tyI GI hr bI .nil pass0 rfl gU (pa_cons (pv 2) pa_nil)))) pss_nil))), ?_⟩
    obtain ⟨vs, hg, gr⟩ := hG
    refine ⟨_, rfl, g, _, rfl, SqL.of hg, for_it walk_enum (fun i σ H' => ∃ v2 v3 v4 v5, σ = [some (.ref g), some (.ref kn), v2, v3, v4, v5] ∧ Up H H' ∧ Tb T1 T2 H' ∧ fb (fun r => !(r.2.all fun s => decide (s ∈ ks))) 0 G = fb (fun r => !(r.2.all fun s => decide (s ∈ ks))) i (G.drop i)) ⟨none, none, none, none, rfl, Up.refl H, tb, rfl⟩ (fun i σ H' _ ⟨_, _, _, _, _, u, _⟩ => SqL.of (u.lst hg)) ?_ ?_⟩
    · rintro i x σ H' H'' hi ⟨v2, v3, v4, v5, rfl, u, t, efb⟩ ⟨T, x1, y, rfl, nT, rfl, hx, hy⟩
      cases hx
      have hy : vs[i]? = some y := hy
      obtain ⟨r, hr2, ra⟩ := gr.get hy
      rw [drop_get2 hr2] at efb
      obtain ⟨tt, l, rfl, h1, h2⟩ := ra.up u
      have uT : Up H' (upd H' T (.tup [.int (i : Nat), .ref tt])) := Up.put H' nT
      have hT : upd H' T (.tup [.int (i : Nat), .ref tt]) T = some (.tup [.int (i : Nat), .ref tt]) := upd_same
      have tT : Tb T1 T2 (upd H' T (.tup [.int (i : Nat), .ref tt])) := t.new nT
      generalize upd H' T (.tup [.int (i : Nat), .ref tt]) = H3 at uT hT tT
      have u3 := u.trans uT
      refine ⟨T, _, rfl, SqT.of hT, rfl, _, _, rfl, _, _, rfl, ⟨tt, _, rfl, SqT.of (uT.tup h1), rfl, _, _, rfl, _, _, rfl, rfl, rfl, ?_⟩⟩
      have hl3 := uT.lst h2
      refine ⟨_, rfl, l, rfl, ⟨_, SqL.of hl3⟩, tT.1, fun H5 h5 => ⟨r.2.length, fun i => (fun s => decide (s ∈ ks)) (r.2.getD i ""), fun _ H' => Up H3 H' ∧ Tb T1 T2 H', ⟨Up.tabbed tT.1 h5, tT.on1 h5⟩, ?_, ?_, ?_⟩⟩
      · rintro j H6 hj ⟨ui, ti⟩
        have st : SqL K H6 l (r.2.map V.str) := SqL.of (ui.lst hl3)
        refine ⟨walk_list.goes j H6 (by rw [List.length_map]; exact hj) st, fun x H2 y => ?_⟩
        obtain ⟨rfl, hx⟩ := walk_list.yields j H6 x H2 (by rw [List.length_map]; exact hj) st y
        have ex : x = V.str (r.2.getD j "") := by
          rw [List.getElem?_map, List.getElem?_eq_getElem hj] at hx
          rw [List.getD_eq_getElem?_getD, List.getElem?_eq_getElem hj]
          exact (Option.some.inj hx).symm
        refine ⟨_, by rw [ex]; rfl, _, rfl, kn, _, rfl, .inl (SqL.of (ui.lst (u3.lst hk))), rfl, flat_strs ks, ?_, ui, ti⟩
        show V.bl (inV (V.str (r.2.getD j "")) (ks.map V.str)) = _
        rw [inV_strs]
      · rintro H6 ⟨ui, ti⟩
        have := walk_list.stops H6 (SqL.of (ui.lst hl3) : SqL K H6 l (r.2.map V.str))
        rw [List.length_map] at this
        exact this
      · rintro j H6 ⟨ui, ti⟩
        rw [all_getD (fun s => decide (s ∈ ks))]
        refine ⟨_, rfl, ?_⟩
        have e : fb (fun r => !(r.2.all fun s => decide (s ∈ ks))) i (r :: G.drop (i + 1)) = if (!(r.2.all fun s => decide (s ∈ ks))) = true then some i else fb (fun r => !(r.2.all fun s => decide (s ∈ ks))) (i + 1) (G.drop (i + 1)) := rfl
        rw [e] at efb
        cases ca : r.2.all fun s => decide (s ∈ ks) with
        | false =>
          rw [ca] at efb
          exact iteT ⟨_, rfl, (by show 1 ≤ 1000; decide), threw EU ti ((bad i efb).later (u3.trans ui))⟩
        | true =>
          rw [ca] at efb
          exact iteF ⟨_, _, _, _, rfl, u3.trans ui, ti, efb⟩
    · rintro σ H' ⟨v2, v3, v4, v5, rfl, u, t, efb⟩
      rw [gr.len, List.drop_length] at efb
      exact fine efb H' u t
end
end Ld

set_option Elab.async false
set_option linter.all false
set_option maxRecDepth 100000
set_option maxHeartbeats 4000000
namespace Ld
open PySem PySem.Spec PyProof.Rows L2 Le TL Lt Lg
section
variable {P : Program} {w : World} {K : PySem.W.Frag} {mg : Str → Option Value} {base : Heap}
theorem scDe : FnScope ["grammar", "grown", "name", "symbols", "deriving", "word"] ["grammar"] (defScope sDeriv) := ⟨rfl, rfl, rfl, by decide +kernel, rfl, by decide +kernel, by decide +kernel⟩
theorem deScope : Gc.GenSc (defScope sDeriv) (({ kind := ScopeKind.function, names := [(Str.ofString ".0", NameKind.local), (Str.ofString "word", NameKind.local), (Str.ofString "deriving", NameKind.free), (Str.ofString "_stands_alone", NameKind.globalImplicit)], isGenerator := true, isCoroutine := false, more := [] } : Scope)) "word" :=
  ⟨rfl, rfl, by decide +kernel, rfl, rfl, by decide +kernel⟩
def readyB (D : List Str) (s : Str) : Bool := !decide (s ∈ N4) || decide (s ∈ D)
theorem ready_iff {D ss : List Str} : ss.all (readyB D) = true ↔ ∀ s ∈ ss, s ∈ N4 → s ∈ D := by
  rw [List.all_eq_true]
  constructor
  · intro h s hs hn
    have := h s hs
    unfold readyB at this
    rw [decide_eq_true hn] at this
    simpa using this
  · intro h s hs
    unfold readyB
    by_cases hn : s ∈ N4
    · rw [decide_eq_true (h s hs hn), Bool.or_true]
    · rw [decide_eq_false hn]
      rfl
def spDeriv (T1 T2 : Addr) : Sp := fun vs H Q _ => ∃ (g : Addr) (G : List Rule), vs = [.ref g] ∧ GraA H g G ∧ (∀ r ∈ G, GoodW r) ∧ G.length ≤ 12 ∧ Tb T1 T2 H ∧
  ∀ p H2 (D : List Str), Up H H2 → Tb T1 T2 H2 → H p = none → H2 p = some (.lst (D.map V.str)) → (∀ n, n ∈ D ↔ Der G n) → Q (.ref p) H2
theorem ok_deriv {f c fA T1 T2 : Addr} {fd fdA : FuncData} (F : Fun K "_deriving_names" "_deriving_names" sDeriv f fd) (hc : fd.code = .ref c) (TB : GxR.TabB base mg c T2)
    (GA : FnOk P w K mg base CX0 1 fA fdA ["symbol"] spAlone) (kA : PySem.W.keepIn K (.ref fA) = true) (bA : Binds K fdA ["symbol"] []) (gA : mg "_stands_alone" = some (.ref fA)) (ma : mg "all" = none) :
    FnOk P w K mg base CX0 3 f fd ["grammar"] (spDeriv T1 T2) := by
  refine okT (k := 2) F hc scDe (fun vs H Q E h => ?_) (fun A outer s H vs Q E hr h => ?_)
  · obtain ⟨g, G, rfl, _⟩ := h
    rfl
  · obtain ⟨g, G, rfl, hG, good, hlen, tb, q⟩ := h
    refine ⟨_, pss_cons (ps_set (i := 4) scDe.nd rfl (.inr rfl) (pe_lst pa_nil))
      (pss_cons (ps_set (i := 1) scDe.nd rfl (.inl rfl) pe_bl)
      (pss_cons (ps_while PassesOwn.never (pt_val (pv 1))
        (pss_cons (ps_set (i := 1) scDe.nd rfl (.inl rfl) pe_bl)
        (pss_one (ps_for PassesOwn.never rfl (pi_list (pv 0)) (pg_tup rfl (pgs_cons (pg_name (i := 2) scDe.nd rfl (Or.inl rfl)) (pgs_cons (pg_name (i := 3) scDe.nd rfl (Or.inl rfl)) pgs_nil)))
          (pss_one (ps_if (PW.pt (pw_and (pt_cmpR op_notIn_seq (pv 2) (pv 4) rfl) (pw_and1 (pt_val (Gn.pe_allN (te := tOrV (tCall spAlone [] E0 (tCons (tVar 5) tNil)) (tOp (rIn K false) (tVar 5) (tVar 4))) (k := 1) (ix := 5) hr (by rfl) ma (by decide +kernel) TB rfl scDe.nd deScope
              (blkOk_by (own := [("word", 5)]) (N := ["grammar", "grown", "name", "symbols", "deriving", "word"]) (sc := defScope sDeriv) (by decide +kernel)) rfl (pi_list (pv 3))
              (fun B s H C code fp hB => pe_or (pe_call GA hB (by rfl) gA kA bA .nil pass0 (pa_cons (pv 5) pa_nil)) (pe_one (pe_cmpR op_in_seq (pv 5) (pv 4) rfl))) (fun _ => rfl))))))
            (pss_cons (ps_expr (pe_bm PySem.F.plainAttrs_list PySem.F.slot_list_append PySem.F.type_list_append mt_append (pv 4) (pa_cons (pv 2) pa_nil)))
            (pss_one (ps_set (i := 1) scDe.nd rfl (.inl rfl) pe_bl))) pss_nil))))))
      (pss_one (ps_ret (pv 4))))), ?_⟩
    obtain ⟨vs, hg, gr⟩ := id hG
    refine ⟨Nat.zero_le _, fun dl ndl => ?_⟩
    have ma_ : ∀ (b : Bool), (if b = true then 1 else 0 : Nat) ≤ 1 := fun b => by cases b <;> decide
    refine ⟨fun m σ H' => ∃ (b : Bool) (v2 v3 v5 : Option V) (D : List Str), σ = [some (.ref g), some (.bl b), v2, v3, some (.ref dl), v5] ∧ Up H H' ∧ Tb T1 T2 H' ∧ H' dl = some (.lst (D.map V.str)) ∧ D.Nodup ∧ (∀ n ∈ D, n ∈ N4) ∧ (∀ n ∈ D, Der G n) ∧ (b = false → ClosedD G D) ∧ m = (if b = true then 1 else 0) + 2 * (4 - D.length),
      ⟨_, true, none, none, none, [], rfl, Up.put H ndl, tb.new ndl, upd_same, List.nodup_nil, (fun _ z => nomatch z), (fun _ z => nomatch z), (fun z => nomatch z), rfl⟩, ?_⟩
    rintro m σ H1 ⟨b, v2, v3, v5, D, rfl, u1, t1, hd1, nd, n4, der, cl, rfl⟩
    refine ⟨_, rfl, _, rfl, ?_⟩
    cases b with
    | false =>
      refine iteF ⟨_, rfl, q dl H1 D u1 t1 ndl hd1 fun n => ⟨fun h => der n h, fun h => der_in (cl rfl) h⟩⟩
    | true =>
      refine iteT ⟨fun σ2 H2 => ∃ m2, m2 < (if true = true then 1 else 0) + 2 * (4 - D.length) ∧ ∃ (b : Bool) (v2 v3 v5 : Option V) (D : List Str), σ2 = [some (.ref g), some (.bl b), v2, v3, some (.ref dl), v5] ∧ Up H H2 ∧ Tb T1 T2 H2 ∧ H2 dl = some (.lst (D.map V.str)) ∧ D.Nodup ∧ (∀ n ∈ D, n ∈ N4) ∧ (∀ n ∈ D, Der G n) ∧ (b = false → ClosedD G D) ∧ m2 = (if b = true then 1 else 0) + 2 * (4 - D.length), fun _ _ z => z, ?_⟩
      refine ⟨_, rfl, g, rfl, ⟨_, SqL.of (u1.lst hg)⟩, for_list (a := g) (xs := vs) (fun i σ H2 => ∃ b v2 v3 v5 E', σ = [some (.ref g), some (.bl b), v2, v3, some (.ref dl), v5] ∧ Up H H2 ∧ Tb T1 T2 H2 ∧ H2 dl = some (.lst (E'.map V.str)) ∧ E'.Nodup ∧ (∀ n ∈ E', n ∈ N4) ∧ (∀ n ∈ E', Der G n) ∧
          (b = false → E' = D ∧ ∀ r ∈ G.take i, (∀ s ∈ r.2, s ∈ N4 → s ∈ D) → r.1 ∈ D) ∧ (b = true → D.length < E'.length))
        ⟨false, v2, v3, v5, D, rfl, u1, t1, hd1, nd, n4, der, fun _ => ⟨rfl, fun r hr => by rw [List.take_zero] at hr; cases hr⟩, fun z => nomatch z⟩ (fun i σ H2 _ ⟨_, _, _, _, _, _, u, _⟩ => SqL.of (u.lst hg)) ?_ ?_⟩
      · rintro i x σ H2 hx ⟨b, v2, v3, v5, D2, rfl, u2, t2, hd2, nd2, n42, der2, same, more⟩
        obtain ⟨r, hr2, ra⟩ := gr.get hx
        have rm := List.mem_of_getElem? hr2
        have gw := good r rm
        obtain ⟨tt, l, rfl, h1, h2⟩ := ra.up u2
        have et : G.take (i + 1) = G.take i ++ [r] := by rw [List.take_add_one, hr2]; rfl
        have keep : ∀ {H9 : Hp} {w2 w3 w5 : Option V}, Up H H9 → Tb T1 T2 H9 → H9 dl = some (.lst (D2.map V.str)) → (b = false → (∀ s ∈ r.2, s ∈ N4 → s ∈ D) → r.1 ∈ D) → ∃ b' v2 v3 v5 E', [some (V.ref g), some (.bl b), w2, w3, some (.ref dl), w5] = [some (.ref g), some (.bl b'), v2, v3, some (.ref dl), v5] ∧ Up H H9 ∧ Tb T1 T2 H9 ∧ H9 dl = some (.lst (E'.map V.str)) ∧ E'.Nodup ∧ (∀ n ∈ E', n ∈ N4) ∧ (∀ n ∈ E', Der G n) ∧
          (b' = false → E' = D ∧ ∀ r ∈ G.take (i + 1), (∀ s ∈ r.2, s ∈ N4 → s ∈ D) → r.1 ∈ D) ∧ (b' = true → D.length < E'.length) := fun {H9 w2 w3 w5} u9 t9 hd9 k =>
          ⟨b, w2, w3, w5, D2, rfl, u9, t9, hd9, nd2, n42, der2, fun e => ⟨(same e).1, fun r' hr' => by
            rw [et] at hr'
            rcases List.mem_append.mp hr' with z | z
            · exact (same e).2 r' z
            · rw [List.mem_singleton.mp z]
              exact k e⟩, more⟩
        refine ⟨tt, _, rfl, SqT.of h1, rfl, _, _, rfl, _, _, rfl, rfl, ?_⟩
        refine ⟨_, rfl, _, rfl, dl, _, rfl, .inl (SqL.of hd2), rfl, flat_strs D2, _, rfl, ?_⟩
        show (if (!inV (V.str r.1) (D2.map V.str)) = true then _ else _)
        rw [inV_strs]
        by_cases m : r.1 ∈ D2
        · rw [decide_eq_true m]
          exact iteF (keep u2 t2 hd2 fun e _ => by rw [← (same e).1]; exact m)
        · rw [decide_eq_false m]
          refine iteT ⟨_, rfl, l, rfl, ⟨_, SqL.of h2⟩, t2.2, fun H5 h5 => ⟨r.2.length, fun i => readyB D2 (r.2.getD i ""), fun _ H' => Up H2 H' ∧ Tb T1 T2 H', ⟨Up.tabbed t2.2 h5, t2.on2 h5⟩, ?_, ?_, ?_⟩⟩
          · rintro j H6 hj ⟨ui, ti⟩
            have st : SqL K H6 l (r.2.map V.str) := SqL.of (ui.lst h2)
            refine ⟨walk_list.goes j H6 (by rw [List.length_map]; exact hj) st, fun x H7 y => ?_⟩
            obtain ⟨rfl, hx⟩ := walk_list.yields j H6 x H7 (by rw [List.length_map]; exact hj) st y
            have ex : x = V.str (r.2.getD j "") := by
              rw [List.getElem?_map, List.getElem?_eq_getElem hj] at hx
              rw [List.getD_eq_getElem?_getD, List.getElem?_eq_getElem hj]
              exact (Option.some.inj hx).symm
            have mem : r.2.getD j "" ∈ r.2 := by
              rw [List.getD_eq_getElem?_getD, List.getElem?_eq_getElem hj]
              exact List.getElem_mem hj
            obtain ⟨sy, esy⟩ : ∃ sy, sy = r.2.getD j "" := ⟨_, rfl⟩
            rw [← esy] at ex mem
            refine ⟨_, by rw [ex]; rfl, sy, rfl, gw.2.2 sy mem, _, rfl, ?_⟩
            by_cases hn : sy ∈ N4
            · rw [decide_eq_true hn]
              refine iteF ⟨_, by rw [ex]; rfl, _, rfl, dl, _, rfl, .inl (SqL.of (ui.lst hd2)), rfl, flat_strs D2, ?_, ui, ti⟩
              show V.bl (inV (V.str sy) (D2.map V.str)) = V.bl (readyB D2 (r.2.getD j ""))
              rw [inV_strs, ← esy]
              unfold readyB
              rw [decide_eq_true hn]
              rfl
            · rw [decide_eq_false hn]
              refine iteT ⟨?_, ui, ti⟩
              show V.bl true = V.bl (readyB D2 (r.2.getD j ""))
              rw [← esy]
              unfold readyB
              rw [decide_eq_false hn]
              rfl
          · rintro H6 ⟨ui, ti⟩
            have := walk_list.stops H6 (SqL.of (ui.lst h2) : SqL K H6 l (r.2.map V.str))
            rw [List.length_map] at this
            exact this
          · rintro j H6 ⟨ui, ti⟩
            rw [all_getD (readyB D2)]
            refine ⟨_, rfl, ?_⟩
            have u6 := u2.trans ui
            have hd6 := ui.lst hd2
            cases ca : r.2.all (readyB D2) with
            | false =>
              refine iteF (keep u6 ti hd6 fun e k => ?_)
              rw [(same e).1] at ca
              have := ready_iff.mpr k
              rw [ca] at this
              cases this
            | true =>
              have rdy := ready_iff.mp ca
              have nd3 : (D2 ++ [r.1]).Nodup := by
                rw [List.nodup_append]
                refine ⟨nd2, by simp, fun p hp p2 hp2 e => ?_⟩
                rw [List.mem_singleton.mp hp2] at e
                rw [e] at hp
                exact m hp
              have all4 : ∀ n ∈ D2 ++ [r.1], n ∈ N4 := fun n hn => by
                rcases List.mem_append.mp hn with z | z
                · exact n42 n z
                · rw [List.mem_singleton.mp z]
                  exact gw.1
              have tot : (D2 ++ [r.1]).length ≤ 4 := nodup_le nd3 all4
              rw [List.length_append, List.length_singleton] at tot
              have dlen : D.length ≤ D2.length := by
                cases b with
                | false => exact Nat.le_of_eq (by rw [(same rfl).1])
                | true => exact Nat.le_of_lt (more rfl)
              refine iteT ⟨_, rfl, .inl ⟨rfl, _, SqL.of hd6⟩, _, rfl, dl, _, _, rfl, rfl, hd6, ?_, true, _, _, _, D2 ++ [r.1], rfl, u6.upd ndl, ti.lst hd6, ?_, nd3, all4, fun n hn => ?_, (fun z => nomatch z), fun _ => ?_⟩
              · rw [List.length_map]
                exact Nat.lt_of_le_of_lt (by omega : D2.length ≤ 4) (by decide)
              · rw [upd_same, List.map_append]
                rfl
              · rcases List.mem_append.mp hn with z | z
                · exact der2 n z
                · rw [List.mem_singleton.mp z]
                  exact .mk (ss := r.2) rm fun s hs hsn => der2 s (rdy s hs hsn)
              · rw [List.length_append, List.length_singleton]
                omega
      · rintro σ H2 ⟨b, v2, v3, v5, D2, rfl, u2, t2, hd2, nd2, n42, der2, same, more⟩
        rw [gr.len, List.take_length] at same
        have tot : D2.length ≤ 4 := nodup_le nd2 n42
        refine ⟨_, ?_, b, v2, v3, v5, D2, rfl, u2, t2, hd2, nd2, n42, der2, fun e => ?_, rfl⟩
        · cases b with
          | false =>
            rw [(same rfl).1]
            show 0 + 2 * (4 - D.length) < 1 + 2 * (4 - D.length)
            omega
          | true =>
            have := more rfl
            show 1 + 2 * (4 - D2.length) < 1 + 2 * (4 - D.length)
            omega
        · obtain ⟨e2, k⟩ := same e
          rw [e2]
          exact k
end
end Ld

set_option Elab.async false
set_option linter.all false
set_option maxRecDepth 100000
set_option maxHeartbeats 4000000
namespace Ld
open PySem PySem.Spec PyProof.Rows L2 Le TL Lt Lg
theorem fb_cons (p : Rule → Bool) (k : Nat) (r : Rule) (G : List Rule) : fb p k (r :: G) = if p r = true then some k else fb p (k + 1) G := rfl
theorem p2_of {G : List Rule} {D : List Str} (der : ∀ n, n ∈ D ↔ Der G n) (r : Rule) : p2 G r = !decide (r.1 ∈ D) := by
  unfold p2
  by_cases m : r.1 ∈ D
  · rw [decide_eq_true m, @decide_eq_true _ (Classical.propDecidable _) ((der _).mp m)]
  · rw [decide_eq_false m, @decide_eq_false _ (Classical.propDecidable _) (fun z => m ((der _).mpr z))]
theorem p3_of {G : List Rule} {n0 : Str} {D : List Str} (der : ∀ n, n ∈ D ↔ Rea G n0 n) (r : Rule) : p3 G n0 r = !decide (r.1 ∈ D) := by
  unfold p3
  by_cases m : r.1 ∈ D
  · rw [decide_eq_true m, @decide_eq_true _ (Classical.propDecidable _) ((der _).mp m)]
  · rw [decide_eq_false m, @decide_eq_false _ (Classical.propDecidable _) (fun z => m ((der _).mpr z))]
theorem known_p1 (G : List Rule) (ks : List Str) : (fun r : Rule => !(r.2.all fun s => decide (s ∈ ks ++ namesOf G))) = p1 G ks := by
  funext r
  unfold p1
  congr 2
  funext s
  have : s ∈ namesOf G ↔ s ∈ G.map (·.1) := by
    unfold namesOf
    rw [name_in]
    simp
  rw [Bool.eq_iff_iff, Bool.or_eq_true, decide_eq_true_eq, decide_eq_true_eq, decide_eq_true_eq, List.mem_append, this]
section
variable {P : Program} {w : World} {K : PySem.W.Frag} {mg : Str → Option Value} {base : Heap}
theorem scCk : FnScope ["grammar", "kinds", "deriving", "number", "name", "symbols", "reached"] ["grammar", "kinds"] (defScope sCheck) := ⟨rfl, rfl, rfl, by decide +kernel, rfl, by decide +kernel, by decide +kernel⟩
def spCheck (T1 T2 cU cN cR : Addr) : Sp := fun vs H Q E => ∃ (g kd : Addr) (G : List Rule) (r0 : Rule) (G' : List Rule) (ks : List Str), vs = [.ref g, .ref kd] ∧ G = r0 :: G' ∧ GraA H g G ∧ (∀ r ∈ G, GoodW r) ∧ G.length ≤ 12 ∧ H kd = some (.lst (ks.map V.str)) ∧ ks.length ≤ 10 ∧ Tb T1 T2 H ∧
  (∀ k, fb (p1 G ks) 0 G = some k → Thrown T1 T2 cU k H E) ∧ (fb (p1 G ks) 0 G = none → ∀ k, fb (p2 G) 0 G = some k → Thrown T1 T2 cN k H E) ∧ (fb (p1 G ks) 0 G = none → fb (p2 G) 0 G = none → ∀ k, fb (p3 G r0.1) 0 G = some k → Thrown T1 T2 cR k H E) ∧
  (fb (p1 G ks) 0 G = none → fb (p2 G) 0 G = none → fb (p3 G r0.1) 0 G = none → ∀ H2, Up H H2 → Tb T1 T2 H2 → Q .non H2)
theorem ok_check {f fC fN fD fRe fI T1 T2 cU cN cR : Addr} {fd fdC fdN fdD fdRe fdI : FuncData} (F : Fun K "check_grammar" "check_grammar" sCheck f fd)
    (GC : FnOk P w K mg base (L2.CX P w) 3 fC fdC ["grammar", "known"] (spChSy T1 T2 cU)) (kC : PySem.W.keepIn K (.ref fC) = true) (bC : Binds K fdC ["grammar", "known"] []) (gC : mg "_check_symbols" = some (.ref fC))
    (GN : FnOk P w K mg base CX0 1 fN fdN ["grammar"] spNames) (kN : PySem.W.keepIn K (.ref fN) = true) (bN : Binds K fdN ["grammar"] []) (gN : mg "names_of" = some (.ref fN))
    (GD : FnOk P w K mg base CX0 3 fD fdD ["grammar"] (spDeriv T1 T2)) (kD : PySem.W.keepIn K (.ref fD) = true) (bD : Binds K fdD ["grammar"] []) (gD : mg "_deriving_names" = some (.ref fD))
    (GR : FnOk P w K mg base CX0 2 fRe fdRe ["grammar"] spReach) (kR : PySem.W.keepIn K (.ref fRe) = true) (bR : Binds K fdRe ["grammar"] []) (gR : mg "reached_names" = some (.ref fRe))
    (GI : FnOk P w K mg base CX0 1 fI fdI ["self", "at"] (spInit K)) (bI : Binds K fdI ["self", "at"] []) (EN : ErrC K cN fI) (ER : ErrC K cR fI) (gNo : mg "NoRow" = some (.ref cN)) (gRe : mg "NotReached" = some (.ref cR))
    (me : mg "enumerate" = none) (mli : mg "list" = none) :
    FnOk P w K mg base (L2.CX P w) 4 f fd ["grammar", "kinds"] (spCheck T1 T2 cU cN cR) := by
  refine F.okX scCk (fun vs H Q E h => ?_) (fun cdv A outer s H vs Q E hr h => ?_)
  · obtain ⟨g, kd, G, r0, G', ks, rfl, _⟩ := h
    rfl
  · obtain ⟨g, kd, G, r0, G', ks, rfl, eG, hG, good, hlen, hkd, klen, tb, bad1, bad2, bad3, fine⟩ := h
    refine ⟨_, pss_cons (ps_expr (pe_call GC hr (by rfl) gC kC bC .nil (passes_call (takes_of rfl rfl rfl rfl) fun _ _ _ _ h => h) (pa_cons (pv 0) (pa_cons (pe_op op_cat (pe_callTy call_list_of (by rfl) mli (by decide +kernel) (pa_cons (pv 1) pa_nil)) (pe_call GN (hr.mono (by decide)) (by rfl) gN kN bN .nil pass0 (pa_cons (pv 0) pa_nil))) pa_nil))))
      (pss_cons (ps_set (i := 2) scCk.nd rfl (.inl rfl) (pe_call GD hr (by rfl) gD kD bD .nil pass0 (pa_cons (pv 0) pa_nil)))
      (pss_cons (ps_for (passes_of rfl) rfl (pi_enum (by rfl) me (pa_cons (pv 0) pa_nil)) (pg_tup rfl (pgs_cons (pg_name (i := 3) scCk.nd rfl (.inl rfl)) (pgs_cons (pg_tup rfl (pgs_cons (pg_name (i := 4) scCk.nd rfl (.inl rfl)) (pgs_cons (pg_name (i := 5) scCk.nd rfl (.inl rfl)) pgs_nil))) pgs_nil)))
        (pss_one (ps_if (pt_cmpR op_notIn_seq (pv 4) (pv 2) rfl) (pss_one (ps_raise rfl (takes_of rfl rfl rfl rfl) (pmk_oex EN.oex EN.ini EN.tyI GI (hr.mono (by decide)) bI .nil pass0 rfl gNo (pa_cons (pv 3) pa_nil)))) pss_nil)))
      (pss_cons (ps_set (i := 6) scCk.nd rfl (.inl rfl) (pe_call GR (hr.mono (by decide)) (by rfl) gR kR bR .nil pass0 (pa_cons (pv 0) pa_nil)))
      (pss_one (ps_for (passes_of rfl) rfl (pi_enum (by rfl) me (pa_cons (pv 0) pa_nil)) (pg_tup rfl (pgs_cons (pg_name (i := 3) scCk.nd rfl (.inl rfl)) (pgs_cons (pg_tup rfl (pgs_cons (pg_name (i := 4) scCk.nd rfl (.inl rfl)) (pgs_cons (pg_name (i := 5) scCk.nd rfl (.inl rfl)) pgs_nil))) pgs_nil)))
        (pss_one (ps_if (pt_cmpR op_notIn_seq (pv 4) (pv 6) rfl) (pss_one (ps_raise rfl (takes_of rfl rfl rfl rfl) (pmk_oex ER.oex ER.ini ER.tyI GI (hr.mono (by decide)) bI .nil pass0 rfl gRe (pa_cons (pv 3) pa_nil)))) pss_nil))))))), ?_⟩
    refine ⟨_, rfl, _, rfl, kd, _, rfl, .inl (SqL.of hkd), fun kl nkl => ?_⟩
    have s1 : Same H (upd H kl (.lst (ks.map V.str))) := same_upd nkl
    have hk1 : upd H kl (.lst (ks.map V.str)) kl = some (.lst (ks.map V.str)) := upd_same
    have t1 : Tb T1 T2 (upd H kl (.lst (ks.map V.str))) := tb.new nkl
    generalize upd H kl (.lst (ks.map V.str)) = H1 at s1 hk1 t1
    refine ⟨_, rfl, g, G, rfl, hG.up (Up.of_same s1), by omega, fun nl H2 s2 nnl hn => ?_⟩
    have nlen : (namesOf G).length ≤ 12 := by
      have := fold_len G []
      unfold namesOf
      rw [List.length_nil] at this
      omega
    have s02 := s1.trans s2
    have t2 : Tb T1 T2 H2 := ⟨by obtain ⟨p, e, k⟩ := t1.1; exact ⟨p, s2 _ _ e, k⟩, by obtain ⟨p, e, k⟩ := t1.2; exact ⟨p, s2 _ _ e, k⟩⟩
    refine ⟨kl, nl, _, _, rfl, rfl, s2 _ _ hk1, hn, million0 (by rw [List.length_map, List.length_map]; omega), fun c nc => ?_⟩
    rw [← List.map_append]
    have s3 : Same H (upd H2 c (.lst ((ks ++ namesOf G).map V.str))) := s02.trans (same_upd nc)
    have t3 : Tb T1 T2 (upd H2 c (.lst ((ks ++ namesOf G).map V.str))) := t2.new nc
    refine ⟨g, c, G, ks ++ namesOf G, rfl, hG.up (Up.of_same s3), good, hlen, upd_same, t3, fun k e => ?_, fun e H4 u4 t4 => ?_⟩
    · rw [known_p1] at e
      exact (bad1 k e).later (Up.of_same s3)
    rw [known_p1] at e
    have u04 := (Up.of_same s3).trans u4
    refine ⟨_, rfl, g, G, rfl, hG.up u04, good, hlen, t4, fun dl H5 D u5 t5 ndl hd der => ?_⟩
    have u05 := u04.trans u5
    obtain ⟨vs, hg, gr⟩ := id hG
    have ep2 := p2_of der
    refine ⟨_, rfl, g, _, rfl, SqL.of (u05.lst hg), for_it walk_enum (fun i σ H' => ∃ v3 v4 v5, σ = [some (.ref g), some (.ref kd), some (.ref dl), v3, v4, v5, none] ∧ Up H5 H' ∧ Tb T1 T2 H' ∧ fb (p2 G) 0 G = fb (p2 G) i (G.drop i)) ⟨none, none, none, rfl, Up.refl H5, t5, rfl⟩ (fun i σ H' _ ⟨_, _, _, _, u, _⟩ => SqL.of (u.lst (u05.lst hg))) ?_ ?_⟩
    · rintro i x σ H' H'' hi ⟨v3, v4, v5, rfl, u, t, efb⟩ ⟨T, x1, y, rfl, nT, rfl, hx, hy⟩
      cases hx
      have hy : vs[i]? = some y := hy
      obtain ⟨r, hr2, ra⟩ := gr.get hy
      rw [drop_get2 hr2, fb_cons, ep2] at efb
      obtain ⟨tt, l, rfl, h1, h2⟩ := ra.up (u05.trans u)
      have uT : Up H' (upd H' T (.tup [.int (i : Nat), .ref tt])) := Up.put H' nT
      have hT : upd H' T (.tup [.int (i : Nat), .ref tt]) T = some (.tup [.int (i : Nat), .ref tt]) := upd_same
      have tT : Tb T1 T2 (upd H' T (.tup [.int (i : Nat), .ref tt])) := t.new nT
      generalize upd H' T (.tup [.int (i : Nat), .ref tt]) = H7 at uT hT tT
      have u57 := u.trans uT
      refine ⟨T, _, rfl, SqT.of hT, rfl, _, _, rfl, _, _, rfl, ⟨tt, _, rfl, SqT.of (uT.tup h1), rfl, _, _, rfl, _, _, rfl, rfl, rfl, ?_⟩⟩
      refine ⟨_, rfl, _, rfl, dl, _, rfl, .inl (SqL.of (u57.lst hd)), rfl, flat_strs D, _, rfl, ?_⟩
      show (if (!inV (V.str r.1) (D.map V.str)) = true then _ else _)
      rw [inV_strs]
      by_cases m : r.1 ∈ D
      · rw [decide_eq_true m] at efb ⊢
        exact iteF ⟨_, _, _, rfl, u57, tT, efb⟩
      · rw [decide_eq_false m] at efb ⊢
        exact iteT ⟨_, rfl, (by show 1 ≤ 1000; decide), threw EN tT ((bad2 e i efb).later (u05.trans u57))⟩
    · rintro σ H' ⟨v3, v4, v5, rfl, u, t, efb⟩
      rw [gr.len, List.drop_length] at efb
      have e2 : fb (p2 G) 0 G = none := efb
      have u06 := u05.trans u
      refine ⟨_, rfl, g, G, r0, G', rfl, eG, hG.up u06, good, hlen, fun rl H8 L s8 nrl hrl inc n4 rea => ?_⟩
      have u08 := u06.trans (Up.of_same s8)
      have t8 : Tb T1 T2 H8 := ⟨by obtain ⟨p, e, k⟩ := t.1; exact ⟨p, s8 _ _ e, k⟩, by obtain ⟨p, e, k⟩ := t.2; exact ⟨p, s8 _ _ e, k⟩⟩
      have ep3 := p3_of rea
      refine ⟨_, rfl, g, _, rfl, SqL.of (u08.lst hg), for_it walk_enum (fun i σ H' => ∃ v3 v4 v5, σ = [some (.ref g), some (.ref kd), some (.ref dl), v3, v4, v5, some (.ref rl)] ∧ Up H8 H' ∧ Tb T1 T2 H' ∧ fb (p3 G r0.1) 0 G = fb (p3 G r0.1) i (G.drop i)) ⟨v3, v4, v5, rfl, Up.refl H8, t8, rfl⟩ (fun i σ H' _ ⟨_, _, _, _, u, _⟩ => SqL.of (u.lst (u08.lst hg))) ?_ ?_⟩
      · rintro i x σ H' H'' hi ⟨v3, v4, v5, rfl, u, t, efb⟩ ⟨T, x1, y, rfl, nT, rfl, hx, hy⟩
        cases hx
        have hy : vs[i]? = some y := hy
        obtain ⟨r, hr2, ra⟩ := gr.get hy
        rw [drop_get2 hr2, fb_cons, ep3] at efb
        obtain ⟨tt, l, rfl, h1, h2⟩ := ra.up (u08.trans u)
        have uT : Up H' (upd H' T (.tup [.int (i : Nat), .ref tt])) := Up.put H' nT
        have hT : upd H' T (.tup [.int (i : Nat), .ref tt]) T = some (.tup [.int (i : Nat), .ref tt]) := upd_same
        have tT : Tb T1 T2 (upd H' T (.tup [.int (i : Nat), .ref tt])) := t.new nT
        generalize upd H' T (.tup [.int (i : Nat), .ref tt]) = H9 at uT hT tT
        have u89 := u.trans uT
        refine ⟨T, _, rfl, SqT.of hT, rfl, _, _, rfl, _, _, rfl, ⟨tt, _, rfl, SqT.of (uT.tup h1), rfl, _, _, rfl, _, _, rfl, rfl, rfl, ?_⟩⟩
        refine ⟨_, rfl, _, rfl, rl, _, rfl, .inl (SqL.of (u89.lst hrl)), rfl, flat_strs L, _, rfl, ?_⟩
        show (if (!inV (V.str r.1) (L.map V.str)) = true then _ else _)
        rw [inV_strs]
        by_cases m : r.1 ∈ L
        · rw [decide_eq_true m] at efb ⊢
          exact iteF ⟨_, _, _, rfl, u89, tT, efb⟩
        · rw [decide_eq_false m] at efb ⊢
          exact iteT ⟨_, rfl, (by show 1 ≤ 1000; decide), threw ER tT ((bad3 e e2 i efb).later (u08.trans u89))⟩
      · rintro σ H' ⟨v3, v4, v5, rfl, u, t, efb⟩
        rw [gr.len, List.drop_length] at efb
        exact fine e e2 efb H' (u08.trans u) t
end
end Ld

set_option Elab.async false
set_option linter.all false
set_option maxRecDepth 100000
set_option maxHeartbeats 4000000
namespace Ld
open PySem PySem.Spec PyProof.Rows L2 Le TL Lt Lg
/-! ### x < y of data -/
def rLtD (K : PySem.W.Frag) : R2 := fun x y H Q => ∃ d e, Dp K H x d ∧ Dp K H y e ∧ PySem.W.alike d e = true ∧ d ≠ .none ∧ d.depth ≤ 64 ∧ Q (.bl (PySem.W.dataLt d e)) H
theorem op_ltD {X : Cx} (hu : X.A.units + 65 < cLine) : OpR X (compareOp .Lt) (rLtD X.K) := by
  intro pins s σ H x y v u Q I rx ry h
  obtain ⟨d, e, hd, he, al, nn, dep, q⟩ := h
  obtain ⟨as, r1⟩ := Dp.reads I d x v hd rx
  obtain ⟨bs, r2⟩ := Dp.reads I e y u he ry
  have : min d.depth e.depth ≤ d.depth := Nat.min_le_left _ _
  exact PySem.W.rcLt_alike d e X.A s v u as bs r1 r2 al nn (by omega) X.prog X.w X.xe _ ⟨.bl _, H, I, rfl, q⟩
/-! ### a dict of rows -/
def RowV (H : Hp) (o : Option V) (m : Option (List Str)) : Prop := match m with
  | none => o = none
  | some r => ∃ a, o = some (.ref a) ∧ H a = some (.lst (r.map V.str))
theorem RowV.same {A B : Hp} (s : Same A B) {o : Option V} {m : Option (List Str)} (h : RowV A o m) : RowV B o m := by
  cases m with
  | none => exact h
  | some r =>
    obtain ⟨a, e, l⟩ := h
    exact ⟨a, e, s _ _ l⟩
structure RowsK (H : Hp) (kvs : List (Key × V)) (M : RM) : Prop where
  nd : (kvs.map (·.1)).Nodup
  ks : ∀ p ∈ kvs, ∃ n ∈ N4, p.1 = Sum.inr n
  at_ : ∀ n, RowV H (valV kvs (Sum.inr n)) (M n)
theorem RowsK.same {A B : Hp} (s : Same A B) {kvs : List (Key × V)} {M : RM} (h : RowsK A kvs M) : RowsK B kvs M := ⟨h.nd, h.ks, fun n => (h.at_ n).same s⟩
theorem putK_keys (kvs : List (Key × V)) (k : Key) (v : V) : (putK kvs k v).map (·.1) = kvs.map (·.1) ∨ (k ∉ kvs.map (·.1) ∧ (putK kvs k v).map (·.1) = kvs.map (·.1) ++ [k]) := by
  unfold putK
  by_cases m : (kvs.any fun kv => decide (kv.1 = k)) = true
  · rw [if_pos m, List.map_map]
    refine .inl (List.map_congr_left fun p _ => ?_)
    show (if p.1 = k then (p.1, v) else p).1 = p.1
    split <;> rfl
  · rw [if_neg m, List.map_append]
    refine .inr ⟨fun z => ?_, rfl⟩
    obtain ⟨p, hp, q⟩ := List.mem_map.mp z
    exact m (List.any_eq_true.mpr ⟨p, hp, decide_eq_true q⟩)
theorem RowsK.put {H : Hp} {kvs : List (Key × V)} {M : RM} (h : RowsK H kvs M) {n : Str} (hn : n ∈ N4) {a : Addr} {J : List Str} (hl : H a = some (.lst (J.map V.str))) : RowsK H (putK kvs (Sum.inr n) (.ref a)) (putM M n J) := by
  refine ⟨?_, fun p hp => ?_, fun m => ?_⟩
  · rcases putK_keys kvs (Sum.inr n) (V.ref a) with e | ⟨out, e⟩
    · rw [e]
      exact h.nd
    · rw [e, List.nodup_append]
      refine ⟨h.nd, by simp, fun x hx y hy e2 => ?_⟩
      rw [List.mem_singleton.mp hy] at e2
      exact out (e2 ▸ hx)
  · have hk : p.1 ∈ (putK kvs (Sum.inr n) (V.ref a)).map (·.1) := List.mem_map.mpr ⟨p, hp, rfl⟩
    have old : p.1 ∈ kvs.map (·.1) → ∃ m ∈ N4, p.1 = Sum.inr m := fun z => by
      obtain ⟨q, hq, e⟩ := List.mem_map.mp z
      obtain ⟨m, hm, e2⟩ := h.ks q hq
      exact ⟨m, hm, e.symm.trans e2⟩
    rcases putK_keys kvs (Sum.inr n) (V.ref a) with e | ⟨out, e⟩
    · rw [e] at hk
      exact old hk
    · rw [e] at hk
      rcases List.mem_append.mp hk with z | z
      · exact old z
      · exact ⟨n, hn, List.mem_singleton.mp z⟩
  · rw [valV_put]
    unfold putM
    by_cases e : m = n
    · rw [if_pos e, if_pos (by rw [e])]
      exact ⟨a, rfl, hl⟩
    · rw [if_neg e, if_neg (fun z => e (Sum.inr.inj z))]
      exact h.at_ m
theorem RowsK.len {H : Hp} {kvs : List (Key × V)} {M : RM} (h : RowsK H kvs M) : kvs.length ≤ 4 := by
  have := nodup_le (m := N4.map (Sum.inr : Str → Key)) h.nd fun k hk => by
    obtain ⟨p, hp, e⟩ := List.mem_map.mp hk
    obtain ⟨n, hn, e2⟩ := h.ks p hp
    rw [← e, e2]
    exact List.mem_map.mpr ⟨n, hn, rfl⟩
  rw [List.length_map, List.length_map] at this
  exact this
theorem RowsK.nil (H : Hp) : RowsK H [] (fun _ => none) := ⟨List.nodup_nil, (fun _ z => nomatch z), fun _ => rfl⟩
theorem joinM_none {M : RM} : ∀ {ss : List Str} {s : Str}, s ∈ ss → s ∈ N4 → M s = none → joinM M ss = none
  | x :: ss, s, m, h4, e => by
    rw [joinM]
    rcases List.mem_cons.mp m with z | z
    · subst z
      rw [if_pos h4, e]
    · rw [joinM_none z h4 e]
      cases (if x ∈ N4 then M x else some [x]) <;> rfl
theorem joinM_snoc {M : RM} {s : Str} {p : List Str} (h : (if s ∈ N4 then M s else some [s]) = some p) : ∀ {ss J : List Str}, joinM M ss = some J → joinM M (ss ++ [s]) = some (J ++ p)
  | [], J, e => by
    cases e
    have := joinM_mk (M := M) (ss := []) h rfl
    rw [List.append_nil] at this
    exact this
  | x :: ss, J, e => by
    obtain ⟨q, r, h1, h2, rfl⟩ := joinM_cons e
    rw [List.cons_append, List.append_assoc]
    exact joinM_mk h1 (joinM_snoc h h2)
section
variable {P : Program} {w : World} {K : PySem.W.Frag} {mg : Str → Option Value} {base : Heap}
theorem units1 {k : Nat} {A : Around} (h : Room k A) : A.units + 1 < cLine := by
  have := h.un
  omega
theorem scJo : FnScope ["symbols", "rows", "joined", "symbol"] ["symbols", "rows"] (defScope sJoin) := ⟨rfl, rfl, rfl, by decide +kernel, rfl, by decide +kernel, by decide +kernel⟩
def spJoin : Sp := fun vs H Q _ => ∃ (l d : Addr) (ss : List Str) (kvs : List (Key × V)) (M : RM), vs = [.ref l, .ref d] ∧ H l = some (.lst (ss.map V.str)) ∧ (∀ s ∈ ss, s ∈ N4 ∨ s ∈ K3) ∧ ss.length ≤ 6 ∧ H d = some (.dK kvs) ∧ RowsK H kvs M ∧ (∀ n r, M n = some r → r.length ≤ 60) ∧
  (joinM M ss = none → ∀ H2, Same H H2 → Q .non H2) ∧ (∀ J, joinM M ss = some J → ¬ J.length ≤ 60 → ∀ H2, Same H H2 → Q .non H2) ∧ (∀ J, joinM M ss = some J → J.length ≤ 60 → ∀ p H2, Same H H2 → H p = none → H2 p = some (.lst (J.map V.str)) → Q (.ref p) H2)
theorem ok_join {f fA : Addr} {fd fdA : FuncData} (F : Fun K "_joined_row" "_joined_row" sJoin f fd)
    (GA : FnOk P w K mg base CX0 1 fA fdA ["symbol"] spAlone) (kA : PySem.W.keepIn K (.ref fA) = true) (bA : Binds K fdA ["symbol"] []) (gA : mg "_stands_alone" = some (.ref fA)) (ml : mg "len" = none) {tk : Tok} (mL : mg "LONGEST_ROW" = some (.int 60 tk)) :
    FnOk P w K mg base CX0 2 f fd ["symbols", "rows"] spJoin := by
  refine F.ok scJo (fun vs H Q E h => ?_) (fun cdv A outer s H vs Q E hr h => ?_)
  · obtain ⟨l, d, ss, kvs, M, rfl, _⟩ := h
    rfl
  · obtain ⟨l, d, ss, kvs, M, rfl, hl, kinds, len, hd, rows, few, none_, long, good⟩ := h
    refine ⟨_, pss_cons (ps_set (i := 2) scJo.nd rfl (.inl rfl) (pe_lst pa_nil))
      (pss_cons (ps_for PassesOwn.never rfl (pi_list (pv 0)) (pg_name (i := 3) scJo.nd rfl (.inl rfl))
        (pss_one (ps_if (pt_val (pe_call GA hr (by rfl) gA kA bA .nil pass0 (pa_cons (pv 3) pa_nil))) (pss_one (ps_expr (pe_bm PySem.F.plainAttrs_list PySem.F.slot_list_append PySem.F.type_list_append mt_append (pv 2) (pa_cons (pv 3) pa_nil))))
          (pss_one (ps_if (pt_cmp (pc_din (units1 hr) (pv 3) (pv 1))) (pss_one (ps_expr (pe_bm PySem.F.plainAttrs_list PySem.F.slot_list_extend PySem.F.type_list_extend mt_extend (pv 2) (pa_cons (pe_dget (units1 hr) (pv 1) (pv 3) (fun _ _ => rfl)) pa_nil))))
            (pss_one (ps_ret pe_non)))))))
      (pss_cons (ps_if (pt_cmpR op_gt (pe_callB call_len_seq (by rfl) ml PySem.boot_len (pa_cons (pv 2) pa_nil)) (pe_glob (v := .int 60) rfl mL ⟨_, rfl⟩) (nomark _)) (pss_one (ps_ret pe_non)) pss_nil)
      (pss_one (ps_ret (pv 2))))), ?_⟩
    refine ⟨Nat.zero_le _, fun jl njl => ?_⟩
    have up : ∀ {u : HO}, Same H (upd H jl u) := same_upd njl
    refine ⟨_, rfl, l, rfl, ⟨_, SqL.of (up _ _ hl)⟩, for_list (a := l) (xs := ss.map V.str) (fun i σ H' => ∃ v3 J, σ = [some (.ref l), some (.ref d), some (.ref jl), v3] ∧ joinM M (ss.take i) = some J ∧ J.length ≤ 60 * i ∧ H' = upd H jl (.lst (J.map V.str))) ⟨none, [], rfl, rfl, Nat.le_refl _, rfl⟩ ?_ ?_ ?_⟩
    · rintro i σ H' _ ⟨v3, J, rfl, _, _, rfl⟩
      exact SqL.of (up _ _ hl)
    · rintro i x σ H' hx ⟨v3, J, rfl, ej, lj, rfl⟩
      obtain ⟨sy, hsy, rfl⟩ : ∃ sy, ss[i]? = some sy ∧ x = V.str sy := by
        rw [List.getElem?_map] at hx
        cases e : ss[i]? with
        | none =>
          rw [e] at hx
          cases hx
        | some sy =>
          rw [e] at hx
          exact ⟨sy, rfl, (Option.some.inj hx).symm⟩
      have mem := List.mem_of_getElem? hsy
      have li : i < ss.length := (List.getElem?_eq_some_iff.mp hsy).1
      have et : ss.take (i + 1) = ss.take i ++ [sy] := by rw [List.take_add_one, hsy]; rfl
      refine ⟨_, rfl, sy, rfl, kinds sy mem, _, rfl, ?_⟩
      by_cases hn : sy ∈ N4
      · rw [decide_eq_true hn]
        refine iteF ⟨_, rfl, _, rfl, d, _, rfl, DGet.k (k := Sum.inr sy) (up _ _ hd), _, rfl, ?_⟩
        have at_ := rows.at_ sy
        cases em : M sy with
        | none =>
          rw [em] at at_
          rw [show valV kvs (Sum.inr sy) = none from at_]
          exact iteF (none_ (joinM_none mem hn em) _ up)
        | some r =>
          rw [em] at at_
          obtain ⟨a, ea, hla⟩ := at_
          rw [ea]
          have lr := few sy r em
          refine iteT ⟨_, rfl, .inl ⟨rfl, _, SqL.of upd_same⟩, _, rfl, _, rfl, d, _, rfl, by have := DGet.k (k := Sum.inr sy) (up (u := .lst (J.map V.str)) _ _ hd); rw [ea] at this; exact this, jl, a, _, _, rfl, rfl, upd_same, up _ _ hla, ?_, _, J ++ r, rfl, ?_, ?_, ?_⟩
          · rw [List.length_map, List.length_map]
            exact million0 (by omega)
          · rw [et]
            exact joinM_snoc ((if_pos hn).trans em) ej
          · rw [List.length_append]
            omega
          · rw [upd_upd, List.map_append]
      · rw [decide_eq_false hn]
        refine iteT ⟨_, rfl, .inl ⟨rfl, _, SqL.of upd_same⟩, _, rfl, jl, _, _, rfl, rfl, upd_same, ?_, _, J ++ [sy], rfl, ?_, ?_, ?_⟩
        · rw [List.length_map]
          exact Nat.lt_of_le_of_lt (by omega : J.length ≤ 360) (by decide)
        · rw [et]
          exact joinM_snoc (if_neg hn) ej
        · rw [List.length_append, List.length_singleton]
          omega
        · rw [upd_upd, List.map_append]
          rfl
    · rintro σ H' ⟨v3, J, rfl, ej, lj, rfl⟩
      rw [List.length_map, List.take_length] at ej
      refine ⟨_, rfl, jl, _, rfl, .inl (SqL.of upd_same), _, _, rfl, rfl, _, rfl, ite2 (fun c => ?_) (fun c => ?_)⟩
      · have c2 : (60 : Int) < ((J.map V.str).length : Int) := of_decide_eq_true c
        rw [List.length_map] at c2
        exact long J ej (by omega) _ up
      · have c2 : ¬ (60 : Int) < ((J.map V.str).length : Int) := fun z => c (decide_eq_true z)
        rw [List.length_map] at c2
        exact ⟨_, rfl, good J ej (by omega) jl _ up njl upd_same⟩
theorem scSh : FnScope ["one", "two"] ["one", "two"] (defScope sIsSh) := ⟨rfl, rfl, rfl, by decide +kernel, rfl, by decide +kernel, by decide +kernel⟩
def spIsSh : Sp := fun vs H Q _ => ∃ (a b : Addr) (x y : List Str), vs = [.ref a, .ref b] ∧ H a = some (.lst (x.map V.str)) ∧ H b = some (.lst (y.map V.str)) ∧ KR x ∧ KR y ∧ ∀ H2, Same H H2 → Q (.bl (decide (val x < val y))) H2
theorem pair_depth (x : List Str) : (pairD x).depth ≤ 64 := by
  have h := strs_depth x
  unfold pairD
  simp only [PyData.depth, PyData.depthAll]
  omega
theorem ok_issh {f : Addr} {fd : FuncData} (F : Fun K "_is_shorter" "_is_shorter" sIsSh f fd) (ml : mg "len" = none) : FnOk P w K mg base CX0 1 f fd ["one", "two"] spIsSh := by
  refine F.ok scSh (fun vs H Q E h => ?_) (fun cdv A outer s H vs Q E hr h => ?_)
  · obtain ⟨a, b, x, y, rfl, _⟩ := h
    rfl
  · obtain ⟨a, b, x, y, rfl, ha, hb, kx, ky, q⟩ := h
    refine ⟨_, pss_one (ps_ret (pe_cmpR (op_ltD (units65 hr)) (pe_tup (pa_cons (pe_callB call_len_seq (by rfl) ml PySem.boot_len (pa_cons (pv 0) pa_nil)) (pa_cons (pv 0) pa_nil))) (pe_tup (pa_cons (pe_callB call_len_seq (by rfl) ml PySem.boot_len (pa_cons (pv 1) pa_nil)) (pa_cons (pv 1) pa_nil))) (nomark _))), ?_⟩
    refine ⟨_, rfl, a, _, rfl, .inl (SqL.of ha), _, rfl, (by show 2 ≤ sizeLine; decide), fun t1 n1 => ?_⟩
    have s1 : Same H (upd H t1 (.tup [.int ((x.map V.str).length : Nat), .ref a])) := same_upd n1
    refine ⟨_, rfl, b, _, rfl, .inl (SqL.of (s1 _ _ hb)), _, rfl, (by show 2 ≤ sizeLine; decide), fun t2 n2 => ?_⟩
    have s2 := s1.trans (same_upd n2 (o := .tup [.int ((y.map V.str).length : Nat), .ref b]))
    have e1 : ∀ {B : Hp}, B t1 = some (.tup [.int ((x.map V.str).length : Nat), .ref a]) → B a = some (.lst (x.map V.str)) → Dp K B (.ref t1) (pairD x) := fun {B} h1 h2 => by
      rw [List.length_map] at h1
      exact .tup (SqT.of h1) (.cons (.int _) (.cons (.lst (SqL.of h2) (dp_strs _)) .nil))
    have e2 : ∀ {B : Hp}, B t2 = some (.tup [.int ((y.map V.str).length : Nat), .ref b]) → B b = some (.lst (y.map V.str)) → Dp K B (.ref t2) (pairD y) := fun {B} h1 h2 => by
      rw [List.length_map] at h1
      exact .tup (SqT.of h1) (.cons (.int _) (.cons (.lst (SqL.of h2) (dp_strs _)) .nil))
    refine ⟨pairD x, pairD y, e1 ?_ (s2 _ _ ha), e2 upd_same (s2 _ _ hb), pair_alike x y, (fun z => by cases z), pair_depth x, ?_⟩
    · exact (same_upd n2) _ _ upd_same
    · rw [pair_lt kx ky]
      exact q _ s2
end
end Ld

set_option Elab.async false
set_option linter.all false
set_option maxRecDepth 100000
set_option maxHeartbeats 4000000
namespace Ld
open PySem PySem.Spec PyProof.Rows L2 Le TL Lt Lg
theorem fold_nodup : ∀ (G : List Rule) (ns : List Str), ns.Nodup → (G.foldl nmStep ns).Nodup
  | [], _, h => h
  | r :: G, ns, h => by
    refine fold_nodup G (nmStep ns r) ?_
    unfold nmStep
    split
    · exact h
    · rename_i out
      rw [List.nodup_append]
      refine ⟨h, by simp, fun x hx y hy e => ?_⟩
      rw [List.mem_singleton.mp hy] at e
      exact out (e ▸ hx)
theorem RowV.lists {A B : Hp} (s : ∀ a xs, A a = some (.lst xs) → B a = some (.lst xs)) {o : Option V} {m : Option (List Str)} (h : RowV A o m) : RowV B o m := by
  cases m with
  | none => exact h
  | some r =>
    obtain ⟨a, e, l⟩ := h
    exact ⟨a, e, s _ _ l⟩
theorem RowsK.lists {A B : Hp} (s : ∀ a xs, A a = some (.lst xs) → B a = some (.lst xs)) {kvs : List (Key × V)} {M : RM} (h : RowsK A kvs M) : RowsK B kvs M := ⟨h.nd, h.ks, fun n => (h.at_ n).lists s⟩
theorem newsSame {A B C : Hp} (s : Same B C) : Same (News A B) (News A C) := fun b o h => by
  obtain ⟨n, e⟩ := news_at h
  rw [news_of n]
  exact s b o e
theorem newsPut {A B : Hp} {d : Addr} {kvs kv2 : List (Key × V)} (hd : B d = some (.dK kvs)) : ∀ a xs, News A B a = some (.lst xs) → News A (upd B d (.dK kv2)) a = some (.lst xs) := fun a xs h => by
  obtain ⟨n, e⟩ := news_at h
  have ne : a ≠ d := fun z => by rw [z, hd] at e; cases e
  rw [news_of n, upd_ne ne]
  exact e
theorem keysN4 {kvs : List (Key × V)} (nd : (kvs.map (·.1)).Nodup) (ks : ∀ p ∈ kvs, ∃ n ∈ N4, p.1 = Sum.inr n) : kvs.length ≤ 4 := by
  have := nodup_le (m := N4.map (Sum.inr : Str → Key)) nd fun k hk => by
    obtain ⟨p, hp, e⟩ := List.mem_map.mp hk
    obtain ⟨n, hn, e2⟩ := ks p hp
    rw [← e, e2]
    exact List.mem_map.mpr ⟨n, hn, rfl⟩
  rw [List.length_map, List.length_map] at this
  exact this
theorem putKs {kvs : List (Key × V)} {n : Str} {v : V} (hn : n ∈ N4) (nd : (kvs.map (·.1)).Nodup) (ks : ∀ p ∈ kvs, ∃ n ∈ N4, p.1 = Sum.inr n) : ((putK kvs (Sum.inr n : Key) v).map (·.1)).Nodup ∧ ∀ p ∈ putK kvs (Sum.inr n : Key) v, ∃ n ∈ N4, p.1 = Sum.inr n := by
  have old : ∀ k, k ∈ kvs.map (·.1) → ∃ m ∈ N4, k = Sum.inr m := fun k z => by
    obtain ⟨q, hq, e⟩ := List.mem_map.mp z
    obtain ⟨m, hm, e2⟩ := ks q hq
    exact ⟨m, hm, e.symm.trans e2⟩
  rcases putK_keys kvs (Sum.inr n) v with e | ⟨out, e⟩
  · refine ⟨by rw [e]; exact nd, fun p hp => old _ ?_⟩
    rw [← e]
    exact List.mem_map.mpr ⟨p, hp, rfl⟩
  · refine ⟨?_, fun p hp => ?_⟩
    · rw [e, List.nodup_append]
      refine ⟨nd, by simp, fun x hx y hy e2 => ?_⟩
      rw [List.mem_singleton.mp hy] at e2
      exact out (e2 ▸ hx)
    · have hk : p.1 ∈ (putK kvs (Sum.inr n) v).map (·.1) := List.mem_map.mpr ⟨p, hp, rfl⟩
      rw [e] at hk
      rcases List.mem_append.mp hk with z | z
      · exact old _ z
      · exact ⟨n, hn, List.mem_singleton.mp z⟩
section
variable {P : Program} {w : World} {K : PySem.W.Frag} {mg : Str → Option Value} {base : Heap}
theorem scSr : FnScope ["grammar", "rows", "fallen", "name", "symbols", "row"] ["grammar"] (defScope sShort) := ⟨rfl, rfl, rfl, by decide +kernel, rfl, by decide +kernel, by decide +kernel⟩
def spShort : Sp := fun vs H Q _ => ∃ (g : Addr) (G : List Rule), vs = [.ref g] ∧ GraA H g G ∧ (∀ r ∈ G, GoodW r) ∧ G.length ≤ 12 ∧
  ∀ d H2 kvs M, Same H H2 → H d = none → H2 d = some (.dK kvs) → RowsK (News H H2) kvs M → LeastM G M → Q (.ref d) H2
theorem ok_short {f fJ fS fN : Addr} {fd fdJ fdS fdN : FuncData} (F : Fun K "shortest_rows" "shortest_rows" sShort f fd)
    (GJ : FnOk P w K mg base CX0 2 fJ fdJ ["symbols", "rows"] spJoin) (kJ : PySem.W.keepIn K (.ref fJ) = true) (bJ : Binds K fdJ ["symbols", "rows"] []) (gJ : mg "_joined_row" = some (.ref fJ))
    (GS : FnOk P w K mg base CX0 1 fS fdS ["one", "two"] spIsSh) (kS : PySem.W.keepIn K (.ref fS) = true) (bS : Binds K fdS ["one", "two"] []) (gS : mg "_is_shorter" = some (.ref fS))
    (GN : FnOk P w K mg base CX0 1 fN fdN ["grammar"] spNames) (kN : PySem.W.keepIn K (.ref fN) = true) (bN : Binds K fdN ["grammar"] []) (gN : mg "names_of" = some (.ref fN)) :
    FnOk P w K mg base CX0 3 f fd ["grammar"] spShort := by
  refine F.ok scSr (fun vs H Q E h => ?_) (fun cdv A outer s H vs Q E hr h => ?_)
  · obtain ⟨g, G, rfl, _⟩ := h
    rfl
  · obtain ⟨g, G, rfl, hG, good, hlen, q⟩ := h
    have hr1 := hr.mono (show 1 ≤ 2 by decide)
    have hu := units1 hr
    refine ⟨_, pss_cons (ps_set (i := 1) scSr.nd rfl (.inr rfl) pe_dnewK)
      (pss_cons (ps_set (i := 2) scSr.nd rfl (.inl rfl) pe_bl)
      (pss_cons (ps_while PassesOwn.never (pt_val (pv 2))
        (pss_cons (ps_set (i := 2) scSr.nd rfl (.inl rfl) pe_bl)
        (pss_one (ps_for PassesOwn.never rfl (pi_list (pv 0)) (pg_tup rfl (pgs_cons (pg_name (i := 3) scSr.nd rfl (Or.inl rfl)) (pgs_cons (pg_name (i := 4) scSr.nd rfl (Or.inl rfl)) pgs_nil)))
          (pss_cons (ps_set (i := 5) scSr.nd rfl (.inl rfl) (pe_call GJ hr (by rfl) gJ kJ bJ .nil pass0 (pa_cons (pv 4) (pa_cons (pv 1) pa_nil))))
          (pss_one (ps_if (PW.pt (pw_and (pt_cmpR op_notN (pv 5) pe_non (nomark _)) (pw_and1 (PW.pt (pw_or (pt_cmp (pc_dnotin hu (pv 3) (pv 1))) (pw_or1 (pt_val (pe_call GS hr1 (by rfl) gS kS bS .nil pass0 (pa_cons (pv 5) (pa_cons (pe_dget hu (pv 1) (pv 3) (fun _ _ => rfl)) pa_nil))))))))))
            (pss_cons (ps_dput hu (pv 1) (pv 3) (pv 5) rfl) (pss_one (ps_set (i := 2) scSr.nd rfl (.inl rfl) pe_bl))) pss_nil)))))))
      (pss_one (ps_ret (pe_dc (own := [("name", 3)]) (g := gName 3) (tk := tVar 3) (tv := tDGet (tVar 1) (tVar 3)) rfl scSr.nd (pi_list (pe_call GN hr1 (by rfl) gN kN bN .nil pass0 (pa_cons (pv 0) pa_nil))) (blkOk_by (N := ["grammar", "rows", "fallen", "name", "symbols", "row"]) (sc := defScope sShort) (by decide +kernel))
        (fun _ _ _ _ _ => pg_name (i := 3) scSr.nd rfl (Or.inl rfl)) (fun _ _ _ _ _ => pts_one (pt_cmp (pc_din hu (pv 3) (pv 1)))) (fun _ _ _ _ _ => pv 3) (fun _ _ _ _ _ => pe_dget hu (pv 1) (pv 3) (fun _ _ => rfl))))))), ?_⟩
    obtain ⟨vs, hg, gr⟩ := id hG
    refine fun dd ndd => ?_
    refine ⟨fun m σ H' => ∃ (b : Bool) (v3 v4 v5 : Option V) (kvs : List (Key × V)) (M : RM), σ = [some (.ref g), some (.ref dd), some (.bl b), v3, v4, v5] ∧ Same H H' ∧ H' dd = some (.dK kvs) ∧ RowsK (News H H') kvs M ∧ SoundM G M ∧ (b = false → ClosedM G M) ∧ m = (if b = true then 1 else 0) + 2 * cost M,
      ⟨_, true, none, none, none, [], fun _ => none, rfl, same_upd ndd, upd_same, RowsK.nil _, (fun _ _ z => by cases z), (fun z => nomatch z), rfl⟩, ?_⟩
    rintro m σ H1 ⟨b, v3, v4, v5, kvs, M, rfl, s1, hd1, rows, sd, cl, rfl⟩
    refine ⟨_, rfl, _, rfl, ?_⟩
    cases b with
    | true =>
      refine iteT ⟨fun σ2 H2 => ∃ m2, m2 < (if true = true then 1 else 0) + 2 * cost M ∧ ∃ (b : Bool) (v3 v4 v5 : Option V) (kvs : List (Key × V)) (M : RM), σ2 = [some (.ref g), some (.ref dd), some (.bl b), v3, v4, v5] ∧ Same H H2 ∧ H2 dd = some (.dK kvs) ∧ RowsK (News H H2) kvs M ∧ SoundM G M ∧ (b = false → ClosedM G M) ∧ m2 = (if b = true then 1 else 0) + 2 * cost M, fun _ _ z => z, ?_⟩
      refine ⟨_, rfl, g, rfl, ⟨_, SqL.of (s1 _ _ hg)⟩, for_list (a := g) (xs := vs) (fun i σ H2 => ∃ (b : Bool) (v3 v4 v5 : Option V) (kvs : List (Key × V)) (M2 : RM), σ = [some (.ref g), some (.ref dd), some (.bl b), v3, v4, v5] ∧ Same H H2 ∧ H2 dd = some (.dK kvs) ∧ RowsK (News H H2) kvs M2 ∧ SoundM G M2 ∧
          (b = false → M2 = M ∧ ∀ r ∈ G.take i, ∀ J, joinM M r.2 = some J → J.length ≤ 60 → ∃ r2, M r.1 = some r2 ∧ val r2 ≤ val J) ∧ (b = true → cost M2 < cost M))
        ⟨false, v3, v4, v5, kvs, M, rfl, s1, hd1, rows, sd, fun _ => ⟨rfl, fun r hr => by rw [List.take_zero] at hr; cases hr⟩, fun z => nomatch z⟩ (fun i σ H2 _ ⟨_, _, _, _, _, _, _, s, _⟩ => SqL.of (s _ _ hg)) ?_ ?_⟩
      · rintro i x σ H2 hx ⟨b, v3, v4, v5, kvs, M2, rfl, s2, hd2, rows2, sd2, same, more⟩
        obtain ⟨r, hr2, ra⟩ := gr.get hx
        have rm := List.mem_of_getElem? hr2
        have gw := good r rm
        obtain ⟨tt, l, rfl, h1, h2⟩ := ra.up (Up.of_same s2)
        have et : G.take (i + 1) = G.take i ++ [r] := by rw [List.take_add_one, hr2]; rfl
        have keep : ∀ {H9 : Hp} {w3 w4 w5 : Option V}, Same H2 H9 → (b = false → ∀ J, joinM M r.2 = some J → J.length ≤ 60 → ∃ r2, M r.1 = some r2 ∧ val r2 ≤ val J) → ∃ (b' : Bool) (v3 v4 v5 : Option V) (kvs : List (Key × V)) (M2 : RM), [some (V.ref g), some (.ref dd), some (.bl b), w3, w4, w5] = [some (.ref g), some (.ref dd), some (.bl b'), v3, v4, v5] ∧ Same H H9 ∧ H9 dd = some (.dK kvs) ∧ RowsK (News H H9) kvs M2 ∧ SoundM G M2 ∧
            (b' = false → M2 = M ∧ ∀ r ∈ G.take (i + 1), ∀ J, joinM M r.2 = some J → J.length ≤ 60 → ∃ r2, M r.1 = some r2 ∧ val r2 ≤ val J) ∧ (b' = true → cost M2 < cost M) := fun {H9 w3 w4 w5} s9 k =>
          ⟨b, w3, w4, w5, kvs, M2, rfl, s2.trans s9, s9 _ _ hd2, rows2.same (newsSame s9), sd2, fun e => ⟨(same e).1, fun r' hr' => by
            rw [et] at hr'
            rcases List.mem_append.mp hr' with z | z
            · exact (same e).2 r' z
            · rw [List.mem_singleton.mp z]
              exact k e⟩, more⟩
        refine ⟨tt, _, rfl, SqT.of h1, rfl, _, _, rfl, _, _, rfl, rfl, ?_⟩
        refine ⟨_, rfl, _, rfl, l, dd, r.2, kvs, M2, rfl, h2, gw.2.2, gw.2.1, hd2, rows2.same news_same, fun n r' e => (sd2 n r' e).2, fun ej H3 s3 => ?_, fun J ej lj H3 s3 => ?_, fun J ej lj p H3 s3 np hp => ?_⟩
        · refine ⟨_, rfl, rfl, _, rfl, iteF (keep s3 fun e J e2 _ => ?_)⟩
          rw [(same e).1] at ej
          rw [ej] at e2
          cases e2
        · refine ⟨_, rfl, rfl, _, rfl, iteF (keep s3 fun e J2 e2 l2 => ?_)⟩
          rw [(same e).1] at ej
          rw [ej] at e2
          cases e2
          exact (lj l2).elim
        · have nn : ¬ (V.ref p = V.non) := fun z => by cases z
          have hd3 := s3 _ _ hd2
          have rows3 := rows2.same (newsSame s3)
          have np0 : H p = none := s2.free np
          have dJ := joinM_dv sd2 ej
          have kJ2 : KR J := dv_kr good dJ gw.2.2
          -- the dict is bettered
          have better : ∀ {H4 : Hp} {w3 w4 w5 : Option V}, Same H3 H4 → val J < costOf (M2 r.1) → ∃ (b' : Bool) (v3 v4 v5 : Option V) (kv3 : List (Key × V)) (M3 : RM), [some (V.ref g), some (.ref dd), some (.bl true), w3, w4, w5] = [some (.ref g), some (.ref dd), some (.bl b'), v3, v4, v5] ∧ Same H (upd H4 dd (.dK (putK kvs (Sum.inr r.1) (.ref p)))) ∧ upd H4 dd (.dK (putK kvs (Sum.inr r.1) (.ref p))) dd = some (.dK kv3) ∧ RowsK (News H (upd H4 dd (.dK (putK kvs (Sum.inr r.1) (.ref p))))) kv3 M3 ∧ SoundM G M3 ∧
              (b' = false → M3 = M ∧ ∀ r ∈ G.take (i + 1), ∀ J, joinM M r.2 = some J → J.length ≤ 60 → ∃ r2, M r.1 = some r2 ∧ val r2 ≤ val J) ∧ (b' = true → cost M3 < cost M) := fun {H4 w3 w4 w5} s4 lt => by
            refine ⟨true, w3, w4, w5, putK kvs (Sum.inr r.1) (.ref p), putM M2 r.1 J, rfl, same_put ((s2.trans s3).trans s4) ndd, upd_same, ?_, put_sound sd2 (by rw [show (r.1, r.2) = r from rfl]; exact rm) ej lj, (fun z => nomatch z), fun _ => ?_⟩
            · refine ((rows3.same (newsSame s4)).lists (newsPut (s4 _ _ hd3))).put gw.1 (news_of np0 |>.trans ?_)
              have ne : p ≠ dd := fun z => by rw [z, hd3] at hp; cases hp
              rw [upd_ne ne]
              exact s4 _ _ hp
            · have c1 := cost_lt (M := M2) gw.1 lt
              cases b with
              | false => rw [(same rfl).1] at c1 ⊢; exact c1
              | true => exact Nat.lt_trans c1 (more rfl)
          have small := (rows3.len)
          refine ⟨_, rfl, rfl, _, rfl, ?_⟩
          rw [decide_eq_false nn]
          refine iteT ⟨_, rfl, _, rfl, dd, _, rfl, DGet.k (k := Sum.inr r.1) hd3, _, rfl, ?_⟩
          have at_ := rows3.at_ r.1
          cases em : M2 r.1 with
          | none =>
            rw [em] at at_
            rw [show valV kvs (Sum.inr r.1) = none from at_]
            refine iteT ⟨_, rfl, _, rfl, _, rfl, dd, _, rfl, DPut.k (k := Sum.inr r.1) hd3 (Nat.lt_of_le_of_lt small (by decide)), better (Same.refl H3) ?_⟩
            rw [em]
            exact short_cost lj
          | some r1 =>
            rw [em] at at_
            obtain ⟨a, ea, hla⟩ := at_
            have dg := DGet.k (k := Sum.inr r.1) hd3
            rw [ea] at dg ⊢
            have kr1 : KR r1 := dv_kr good (sd2 _ _ em).1
            refine iteF ⟨_, rfl, _, rfl, _, rfl, dd, .ref a, rfl, dg, p, a, J, r1, rfl, hp, news_same _ _ hla, kJ2, kr1, fun H4 s4 => ⟨_, rfl, ?_⟩⟩
            by_cases lt : val J < val r1
            · refine iteTd lt ⟨_, rfl, _, rfl, _, rfl, dd, _, rfl, DPut.k (k := Sum.inr r.1) (s4 _ _ hd3) (Nat.lt_of_le_of_lt small (by decide)), better s4 ?_⟩
              rw [em]
              exact lt
            · refine iteFd lt (keep (s3.trans s4) fun e J2 e2 l2 => ?_)
              have em2 := em
              rw [(same e).1] at ej em2
              rw [ej] at e2
              cases e2
              exact ⟨r1, em2, by omega⟩
      · rintro σ H2 ⟨b, v3, v4, v5, kvs, M2, rfl, s2, hd2, rows2, sd2, same, more⟩
        rw [gr.len, List.take_length] at same
        refine ⟨_, ?_, b, v3, v4, v5, kvs, M2, rfl, s2, hd2, rows2, sd2, fun e => ?_, rfl⟩
        · cases b with
          | false =>
            rw [(same rfl).1]
            show 0 + 2 * cost M < 1 + 2 * cost M
            omega
          | true =>
            have := more rfl
            show 1 + 2 * cost M2 < 1 + 2 * cost M
            omega
        · obtain ⟨e2, k⟩ := same e
          rw [e2]
          exact fun n ss hm J ej lj => k (n, ss) hm J ej lj
    | false =>
      have least := least_closed sd (cl rfl)
      refine iteF ?_
      refine ⟨_, rfl, g, G, rfl, hG.up (Up.of_same s1), by omega, fun nl H3 s3 nnl hn => ?_⟩
      refine ⟨nl, rfl, ⟨_, SqL.of hn⟩, fun D hD => ?_⟩
      have hd3 := s3 _ _ hd1
      have rows3 := rows.same (newsSame s3)
      have nsd : (namesOf G).Nodup := fold_nodup G [] List.nodup_nil
      have nsIn : ∀ n, n ∈ namesOf G ↔ n ∈ G.map (·.1) := fun n => by
        unfold namesOf
        rw [name_in]
        simp
      have ns4 : ∀ n ∈ namesOf G, n ∈ N4 := fun n h => by
        obtain ⟨r, hr, e⟩ := List.mem_map.mp ((nsIn n).mp h)
        rw [← e]
        exact (good r hr).1
      have nD : nl ≠ D := ne_of_none hn hD
      have dD : dd ≠ D := ne_of_none hd3 hD
      have hn' : ∀ u : HO, upd H3 D u nl = some (.lst ((namesOf G).map V.str)) := fun u => by rw [upd_ne nD]; exact hn
      have hd' : ∀ u : HO, upd H3 D u dd = some (.dK kvs) := fun u => by rw [upd_ne dD]; exact hd3
      have lenN : ((namesOf G).map V.str).length = (namesOf G).length := List.length_map ..
      refine ⟨fun i m H' => m = (namesOf G).length - i ∧ i ≤ (namesOf G).length ∧ ∃ kv2 : List (Key × V), H' = upd H3 D (.dK kv2) ∧ (kv2.map (·.1)).Nodup ∧ (∀ p ∈ kv2, ∃ n ∈ N4, p.1 = Sum.inr n) ∧ ∀ x : Str, valV kv2 (Sum.inr x) = if x ∈ (namesOf G).take i then valV kvs (Sum.inr x) else none,
        ⟨_, rfl, Nat.zero_le _, [], rfl, List.nodup_nil, (fun _ z => nomatch z), fun x => by rw [List.take_zero, if_neg (fun z => nomatch z)]; rfl⟩, ?_⟩
      rintro i m H' ⟨rfl, hi, kv2, rfl, nd2, ks2, val2⟩
      by_cases lt : i < (namesOf G).length
      · have lt' : i < ((namesOf G).map V.str).length := by rw [lenN]; exact lt
        refine .inr ⟨walk_list.goes i _ lt' (SqL.of (K := K) (hn' _)), fun H' => ∃ kv2 : List (Key × V), H' = upd H3 D (.dK kv2) ∧ (kv2.map (·.1)).Nodup ∧ (∀ p ∈ kv2, ∃ n ∈ N4, p.1 = Sum.inr n) ∧ ∀ x : Str, valV kv2 (Sum.inr x) = if x ∈ (namesOf G).take (i + 1) then valV kvs (Sum.inr x) else none, fun H2 e => ⟨(namesOf G).length - (i + 1), by omega, rfl, lt, e⟩, fun x H2 y => ?_⟩
        obtain ⟨rfl, hx⟩ := walk_list.yields i _ x H2 lt' (SqL.of (K := K) (hn' _)) y
        obtain ⟨n, hn3, rfl⟩ : ∃ n, (namesOf G)[i]? = some n ∧ x = V.str n := by
          rw [List.getElem?_map] at hx
          cases e : (namesOf G)[i]? with
          | none =>
            rw [e] at hx
            cases hx
          | some n =>
            rw [e] at hx
            exact ⟨n, rfl, (Option.some.inj hx).symm⟩
        have et : (namesOf G).take (i + 1) = (namesOf G).take i ++ [n] := by rw [List.take_add_one, hn3]; rfl
        have out : n ∉ (namesOf G).take i := fun z => by
          have := (List.take_append_drop (i + 1) (namesOf G)) ▸ nsd
          rw [et] at this
          have h2 := (List.nodup_append.mp (List.nodup_append.mp this).1).2.2 n z n (List.mem_singleton.mpr rfl)
          exact h2 rfl
        have grow : ∀ (kv3 : List (Key × V)), (∀ x : Str, valV kv3 (Sum.inr x) = if x = n then valV kvs (Sum.inr x) else valV kv2 (Sum.inr x)) → ∀ x : Str, valV kv3 (Sum.inr x) = if x ∈ (namesOf G).take (i + 1) then valV kvs (Sum.inr x) else none := fun kv3 k x => by
          rw [k x, et]
          by_cases e : x = n
          · rw [if_pos e, if_pos (by rw [e]; simp)]
          · rw [if_neg e, val2]
            by_cases m : x ∈ (namesOf G).take i
            · rw [if_pos m, if_pos (List.mem_append_left _ m)]
            · rw [if_neg m, if_neg (fun z => (List.mem_append.mp z).elim m fun z => e (List.mem_singleton.mp z))]
        refine ⟨rfl, _, rfl, _, rfl, dd, _, rfl, DGet.k (k := Sum.inr n) (hd' _), _, rfl, ?_⟩
        cases ev : valV kvs (Sum.inr n) with
        | none =>
          refine iteF ⟨kv2, rfl, nd2, ks2, grow kv2 fun x => ?_⟩
          by_cases e : x = n
          · rw [if_pos e, e, ev, val2, if_neg out]
          · rw [if_neg e]
        | some v =>
          have dg := DGet.k (k := Sum.inr n) (hd' (.dK kv2))
          rw [ev] at dg
          have kk := putKs (v := v) (ns4 n (List.mem_of_getElem? hn3)) nd2 ks2
          refine iteT ⟨_, rfl, _, rfl, _, rfl, dd, v, rfl, dg, kv2, Sum.inr n, rfl, upd_same, Nat.lt_of_le_of_lt (keysN4 nd2 ks2) (by decide), putK kv2 (Sum.inr n) v, upd_upd, kk.1, kk.2, grow _ fun x => ?_⟩
          rw [valV_put]
          by_cases e : x = n
          · rw [if_pos e, if_pos (by rw [e]), e, ev]
          · rw [if_neg e, if_neg (fun z => e (Sum.inr.inj z))]
      · have e : i = (namesOf G).length := by omega
        subst e
        have stop := walk_list.stops _ (SqL.of (hn' (.dK kv2)) : SqL K _ nl ((namesOf G).map V.str))
        rw [lenN] at stop
        refine .inl ⟨stop, ?_⟩
        rw [List.take_length] at val2
        have s13 := s1.trans s3
        refine q D _ kv2 M (s13.trans (same_upd hD)) (s13.free hD) upd_same ⟨nd2, ks2, fun x => ?_⟩ least
        rw [val2]
        have at3 := (rows3.at_ x).same (newsSame (same_upd hD (o := .dK kv2)))
        by_cases m : x ∈ namesOf G
        · rw [if_pos m]
          exact at3
        · rw [if_neg m]
          cases em : M x with
          | none => rfl
          | some r => exact (m ((nsIn x).mpr (dv_name (sd x r em).1))).elim
end
end Ld

set_option Elab.async false
set_option linter.all false
set_option maxRecDepth 100000
set_option maxHeartbeats 4000000
namespace Ld
open PySem PySem.Spec PyProof.Rows L2 Le TL Lt Lg
theorem RuleA.put {H : Hp} {g : Addr} {x : Addr} {ws : List V} {o : HO} (hg : H g = some (.lst (.ref x :: ws))) {v : V} {r : Rule} (h : RuleA H v r) : RuleA (upd H g o) v r := by
  obtain ⟨t, l, e, h1, h2⟩ := h
  refine ⟨t, l, e, ?_, ?_⟩
  · rw [upd_ne (fun z => by rw [z, hg] at h1; cases h1)]
    exact h1
  · rw [upd_ne (fun z => ?_)]
    · exact h2
    · rw [z, hg] at h2
      have := HO.lst.inj (Option.some.inj h2)
      cases hr : r.2 with
      | nil => rw [hr] at this; cases this
      | cons a b => rw [hr] at this; cases this
theorem GrA.put {H : Hp} {g : Addr} {x : Addr} {ws : List V} {o : HO} (hg : H g = some (.lst (.ref x :: ws))) : ∀ {vs : List V} {G : List Rule}, GrA H vs G → GrA (upd H g o) vs G
  | [], [], _ => True.intro
  | _ :: _, _ :: _, h => ⟨h.1.put hg, h.2.put hg⟩
  | [], _ :: _, h => h.elim
  | _ :: _, [], h => h.elim
theorem news_upd {A B : Hp} {g : Addr} {o : HO} (n : A g = none) : News A (upd B g o) = upd (News A B) g o := by
  funext b
  by_cases e : b = g
  · subst e
    rw [upd_same, news_of n, upd_same]
  · rw [upd_ne e]
    unfold News
    cases A b with
    | none =>
      simp only
      rw [upd_ne e]
    | some _ => rfl
/-- a rule is appended to a grammar that is not empty -/
theorem GraA.app {A B : Hp} {g : Addr} {G : List Rule} {vs : List V} (n : A g = none) (hg : B g = some (.lst vs)) (ne : G ≠ []) (h : GrA (News A B) vs G) {v : V} {r : Rule} (hr : RuleA (News A B) v r) : GraA (News A (upd B g (.lst (vs ++ [v])))) g (G ++ [r]) := by
  cases G with
  | nil => exact absurd rfl ne
  | cons r0 G =>
  cases vs with
  | nil => exact h.elim
  | cons v0 vs =>
  obtain ⟨t0, l0, rfl, _, _⟩ := id h.1
  have hgn : News A B g = some (.lst (.ref t0 :: vs)) := by rw [news_of n]; exact hg
  rw [news_upd n]
  exact ⟨_, upd_same, (GrA.put hgn h).snoc (hr.put hgn)⟩
theorem word_len {z lo hi : Str} (h : wordB z lo hi = true) : z.length ≤ 12 := by
  unfold wordB at h
  rw [Bool.and_eq_true, Bool.and_eq_true] at h
  have := of_decide_eq_true h.2.1
  omega
theorem name_len {z : Str} (h : nameB z = true) : z.length ≤ 12 := word_len h
section
variable {P : Program} {w : World} {K : PySem.W.Frag} {mg : Str → Option Value} {base : Heap}
theorem scIn : FnScope ["draws", "grammar", "name", "kinds", "rule"] ["draws"] (defScope sInput) := ⟨rfl, rfl, rfl, by decide +kernel, rfl, by decide +kernel, by decide +kernel⟩
def spInput : Sp := fun vs H Q _ => ∃ (a : Addr) (ds : List Int), vs = [.ref a] ∧ H a = some (.lst (ds.map V.int)) ∧
  ∀ (t g kd : Addr) (G : List Rule) (ks : List Str) (H2 : Hp), Same H H2 → H t = none → H2 t = some (.tup [.ref g, .ref kd]) → GraA (News H H2) g G → (∀ r ∈ G, GoodW r) → G ≠ [] → G.length ≤ 12 → H kd = none → H2 kd = some (.lst (ks.map V.str)) → ks.length ≤ 10 → (∀ k ∈ ks, symB k = true) → Q (.ref t) H2
theorem w1 : ∀ s ∈ (["A", "NUMBER"] : List Str), s ∈ N4 ∨ s ∈ K3 := by decide +kernel
theorem w2 : ∀ s ∈ (["s"] : List Str), s ∈ N4 ∨ s ∈ K3 := by decide +kernel
theorem w3 : ∀ s ∈ (["BB", "a"] : List Str), s ∈ N4 ∨ s ∈ K3 := by decide +kernel
theorem mk4 {v : Int} (h0 : 0 ≤ v) (h1 : v < 4) : v.toNat = 0 ∨ v.toNat = 1 ∨ v.toNat = 2 ∨ v.toNat = 3 := by omega
theorem input_rest {f fA : Addr} {fd fdA : FuncData}
    (GA : FnOk P w K mg base CX0 1 fA fdA ["draws", "k", "many"] (spAt K)) (kA : PySem.W.keepIn K (.ref fA) = true) (bA : Binds K fdA ["draws", "k", "many"] []) (gA : mg "_law_at" = some (.ref fA)) (cdv : Value) (A : Around) (outer : List Env) (s : Shared) (H : Hp) (E : XK) (hr1 : Room 1 (A.deeper (envOfC "_law_input" (defScope sInput) s.heap.objs.size f cdv))) :
    ∃ t, PSs (cxOf CX0 P w K mg base ["draws", "grammar", "name", "kinds", "rule"] "_law_input" (defScope sInput) f cdv A outer s H E).nox ((defBody sInput).drop 2) t ∧
      ∀ (v2 : Option V) (a g : Addr) (ds : List Int) (G2 : List Rule) (H2 : Hp) (Q : VK), H a = some (.lst (ds.map V.int)) → Same H H2 → GraA (News H H2) g G2 → (∀ r ∈ G2, GoodW r) → G2 ≠ [] → G2.length ≤ 12 →
        (∀ (t g kd : Addr) (G : List Rule) (ks : List Str) (H2 : Hp), Same H H2 → H t = none → H2 t = some (.tup [.ref g, .ref kd]) → GraA (News H H2) g G → (∀ r ∈ G, GoodW r) → G ≠ [] → G.length ≤ 12 → H kd = none → H2 kd = some (.lst (ks.map V.str)) → ks.length ≤ 10 → (∀ k ∈ ks, symB k = true) → Q (.ref t) H2) →
        t { nx := fun _ H' => Q .non H', rt := Q } [some (.ref a), some (.ref g), v2, none, none] H2 := by
  refine ⟨_, (pss_cons (ps_set (i := 3) scIn.nd rfl (.inl rfl) (pe_ix ix_list (pe_lst (pa_cons (pe_lst (pa_cons pe_str (pa_cons pe_str (pa_cons pe_str pa_nil)))) (pa_cons (pe_lst (pa_cons pe_str (pa_cons pe_str (pa_cons pe_str (pa_cons pe_str pa_nil))))) (pa_cons (pe_lst (pa_cons pe_str (pa_cons pe_str pa_nil))) (pa_cons (pe_lst (pa_cons pe_str (pa_cons pe_str pa_nil))) pa_nil)))))
          (pe_call GA hr1 (by rfl) gA kA bA .nil pass0 (pa_cons (pv 0) (pa_cons pe_int (pa_cons pe_int pa_nil)))) (fun _ _ => rfl)))
      (pss_one (ps_ret (pe_tup (pa_cons (pv 1) (pa_cons (pv 3) pa_nil)))))), ?_⟩
  intro v2 a g ds G2 H2 Q ha s2 hG2 good2 n2 len2 q
  refine ⟨(by show 3 ≤ sizeLine; decide), fun a1 na1 => ?_⟩
  have sa : Same H2 (upd H2 a1 (.lst [.str "A", .str "BB", .str "NUMBER"])) := same_upd na1
  have h1 : upd H2 a1 (.lst [.str "A", .str "BB", .str "NUMBER"]) a1 = some (.lst [.str "A", .str "BB", .str "NUMBER"]) := upd_same
  generalize upd H2 a1 (.lst [.str "A", .str "BB", .str "NUMBER"]) = H3 at sa h1
  refine ⟨(by show 4 ≤ sizeLine; decide), fun a2 na2 => ?_⟩
  have sb : Same H3 (upd H3 a2 (.lst [.str "A", .str "BB", .str "NUMBER", .str "Z"])) := same_upd na2
  have h2 : upd H3 a2 (.lst [.str "A", .str "BB", .str "NUMBER", .str "Z"]) a2 = some (.lst [.str "A", .str "BB", .str "NUMBER", .str "Z"]) := upd_same
  generalize upd H3 a2 (.lst [.str "A", .str "BB", .str "NUMBER", .str "Z"]) = H4 at sb h2
  refine ⟨(by show 2 ≤ sizeLine; decide), fun a3 na3 => ?_⟩
  have sc : Same H4 (upd H4 a3 (.lst [.str "A", .str "BB"])) := same_upd na3
  have h3 : upd H4 a3 (.lst [.str "A", .str "BB"]) a3 = some (.lst [.str "A", .str "BB"]) := upd_same
  generalize upd H4 a3 (.lst [.str "A", .str "BB"]) = H5 at sc h3
  refine ⟨(by show 2 ≤ sizeLine; decide), fun a4 na4 => ?_⟩
  have sd : Same H5 (upd H5 a4 (.lst [.str "NUMBER", .str "A"])) := same_upd na4
  have h4 : upd H5 a4 (.lst [.str "NUMBER", .str "A"]) a4 = some (.lst [.str "NUMBER", .str "A"]) := upd_same
  generalize upd H5 a4 (.lst [.str "NUMBER", .str "A"]) = H6 at sd h4
  refine ⟨(by show 4 ≤ sizeLine; decide), fun ol nol => ?_⟩
  have se : Same H6 (upd H6 ol (.lst [.ref a1, .ref a2, .ref a3, .ref a4])) := same_upd nol
  have h5 : upd H6 ol (.lst [.ref a1, .ref a2, .ref a3, .ref a4]) ol = some (.lst [.ref a1, .ref a2, .ref a3, .ref a4]) := upd_same
  generalize upd H6 ol (.lst [.ref a1, .ref a2, .ref a3, .ref a4]) = H7 at se h5
  have s27 : Same H2 H7 := (((sa.trans sb).trans sc).trans sd).trans se
  have s07 := s2.trans s27
  refine ⟨_, rfl, a, ds, 1, 4, rfl, SqL.of (s07 _ _ ha), by decide, by decide, ?_⟩
  have v0 := atD_lo ds 1 (many := 4) (by decide)
  have v1 := atD_hi ds 1 (many := 4) (by decide)
  generalize atD ds 1 4 = v at v0 v1
  obtain ⟨kd, ks, hi, hk, nk, lk, sk⟩ : ∃ (kd : Addr) (ks : List Str), ([V.ref a1, V.ref a2, V.ref a3, V.ref a4] : List V)[v.toNat]? = some (.ref kd) ∧ H7 kd = some (.lst (ks.map V.str)) ∧ H kd = none ∧ ks.length ≤ 10 ∧ ∀ k ∈ ks, symB k = true := by
    rcases mk4 v0 v1 with e | e | e | e <;> rw [e]
    · exact ⟨a1, ["A", "BB", "NUMBER"], rfl, se _ _ (sd _ _ (sc _ _ (sb _ _ h1))), s2.free na1, by decide, by decide +kernel⟩
    · exact ⟨a2, ["A", "BB", "NUMBER", "Z"], rfl, se _ _ (sd _ _ (sc _ _ h2)), s2.free (sa.free na2), by decide, by decide +kernel⟩
    · exact ⟨a3, ["A", "BB"], rfl, se _ _ (sd _ _ h3), s2.free (sa.free (sb.free na3)), by decide, by decide +kernel⟩
    · exact ⟨a4, ["NUMBER", "A"], rfl, se _ _ h4, s2.free (sa.free (sb.free (sc.free na4))), by decide, by decide +kernel⟩
  refine ⟨ol, _, _, _, rfl, rfl, SqL.of h5, at_of (j := v.toNat) (by omega) hi, ?_⟩
  refine ⟨_, rfl, _, rfl, (by show 2 ≤ sizeLine; decide), fun t nt => ?_⟩
  have s08 := s07.trans (same_upd nt (o := .tup [.ref g, .ref kd]))
  exact q t g kd G2 ks _ s08 (s07.free nt) upd_same ((hG2.up (News.up (Up.of_same s27))).up (News.up (Up.of_same (same_upd nt)))) good2 n2 len2 nk ((same_upd nt) _ _ hk) lk sk
theorem ok_input {f fG fA fM : Addr} {fd fdG fdA fdM : FuncData} (F : Fun K "_law_input" "_law_input" sInput f fd)
    (GG : FnOk P w K mg base CX0 4 fG fdG ["draws", "k", "most"] (spGram K)) (kG : PySem.W.keepIn K (.ref fG) = true) (bG : Binds K fdG ["draws", "k", "most"] []) (gG : mg "_law_grammar" = some (.ref fG))
    (GA : FnOk P w K mg base CX0 1 fA fdA ["draws", "k", "many"] (spAt K)) (kA : PySem.W.keepIn K (.ref fA) = true) (bA : Binds K fdA ["draws", "k", "many"] []) (gA : mg "_law_at" = some (.ref fA))
    (GM : FnOk P w K mg base CX0 1 fM fdM ["draws", "k", "many"] (spMix K)) (kM : PySem.W.keepIn K (.ref fM) = true) (bM : Binds K fdM ["draws", "k", "many"] []) (gM : mg "_law_mix" = some (.ref fM))
    (ml : mg "len" = none) : FnOk P w K mg base CX0 5 f fd ["draws"] spInput := by
  refine F.ok scIn (fun vs H Q E h => ?_) (fun cdv A outer s H vs Q E hr h => ?_)
  · obtain ⟨a, ds, rfl, _⟩ := h
    rfl
  · obtain ⟨a, ds, rfl, ha, q⟩ := h
    have hr1 := hr.mono (show 1 ≤ 4 by decide)
    obtain ⟨tR, pR, qR⟩ := input_rest (P := P) (w := w) (base := base) (f := f) (fd := fd) GA kA bA gA cdv A outer s H E hr1
    refine ⟨_, pss_cons (ps_set (i := 1) scIn.nd rfl (.inl rfl) (pe_call GG hr (by rfl) gG kG bG .nil pass0 (pa_cons (pv 0) (pa_cons pe_int (pa_cons pe_int pa_nil)))))
      (pss_cons (ps_if (pt_cmpR op_eq (pe_call GA hr1 (by rfl) gA kA bA .nil pass0 (pa_cons (pv 0) (pa_cons pe_int (pa_cons pe_int pa_nil)))) pe_int (nomark _))
        (pss_one (ps_for PassesOwn.never rfl (pi_list (pe_lst (pa_cons pe_str (pa_cons pe_str (pa_cons pe_str (pa_cons pe_str pa_nil)))))) (pg_name (i := 2) scIn.nd rfl (.inl rfl))
          (pss_one (ps_if (pt_cmpR op_notIn_seq (pv 2) (pe_lc (own := [("rule", 4)]) (g := gName 4) rfl scIn.nd (pi_list (pv 1)) (blkOk_by (N := ["draws", "grammar", "name", "kinds", "rule"]) (sc := defScope sInput) (by decide +kernel))
              (fun _ _ _ _ _ => pg_name (i := 4) scIn.nd rfl (Or.inl rfl)) (fun _ _ _ _ _ => pts_nil) (fun _ _ _ _ _ => pe_ix (r := rIxT K) ix_tup (pv 4) pe_int (fun _ _ => rfl))) rfl)
            (pss_one (ps_expr (pe_bm PySem.F.plainAttrs_list PySem.F.slot_list_append PySem.F.type_list_append mt_append (pv 1) (pa_cons (pe_tup (pa_cons (pv 2) (pa_cons
              (pe_ix ix_list (pe_lst (pa_cons (pe_lst (pa_cons pe_str (pa_cons pe_str pa_nil))) (pa_cons (pe_lst (pa_cons pe_str pa_nil)) (pa_cons (pe_lst pa_nil) (pa_cons (pe_lst (pa_cons pe_str (pa_cons pe_str pa_nil))) pa_nil)))))
                (pe_call GM hr1 (by rfl) gM kM bM .nil pass0 (pa_cons (pv 0) (pa_cons (pe_op op_add pe_int (pe_callB call_len_str (by rfl) ml PySem.boot_len (pa_cons (pv 2) pa_nil))) (pa_cons pe_int pa_nil)))) (fun _ _ => rfl)) pa_nil))) pa_nil)))) pss_nil)))) pss_nil)
      pR), ?_⟩
    refine ⟨_, rfl, a, ds, 10, 8, rfl, ha, by decide, by decide, fun g H1 G s1 gg hG => ?_⟩
    obtain ⟨good, n0, len⟩ := gg
    obtain ⟨vs, hgv, gr⟩ := hG
    have ng : H g = none := (news_at hgv).1
    -- the kinds, and the end
    refine ⟨_, rfl, a, ds, 0, 2, rfl, SqL.of (s1 _ _ ha), by decide, by decide, rfl, _, rfl, iteEq (fun _ => ?_) (fun _ => qR none a g ds G H1 Q ha s1 ⟨vs, hgv, gr⟩ good n0 (by omega) q)⟩
    refine ⟨(by show 4 ≤ sizeLine; decide), fun ll nll => ?_⟩
    have sl : Same H1 (upd H1 ll (.lst (N4.map V.str))) := same_upd nll
    have hl : upd H1 ll (.lst (N4.map V.str)) ll = some (.lst (N4.map V.str)) := upd_same
    have hgv1 := (news_at hgv).2
    have gll : ll ≠ g := fun z => by rw [z, hgv1] at nll; cases nll
    have s02 := s1.trans sl
    refine ⟨ll, rfl, ⟨_, SqL.of hl⟩, for_list (a := ll) (xs := N4.map V.str) (fun i σ H' => ∃ (v2 : Option V) (G2 : List Rule), σ = [some (.ref a), some (.ref g), v2, none, none] ∧ Same H H' ∧ H' ll = some (.lst (N4.map V.str)) ∧ GraA (News H H') g G2 ∧ (∀ r ∈ G2, GoodW r) ∧ G2 ≠ [] ∧ G2.length ≤ 8 + i)
      ⟨none, G, rfl, s02, hl, (show GraA (News H H1) g G from ⟨vs, hgv, gr⟩).up (News.up (Up.of_same sl)), good, n0, len⟩ (fun i σ H' _ ⟨_, _, _, _, h, _⟩ => SqL.of h) ?_ ?_⟩
    · rintro i x σ H3 hx ⟨v2, G2, rfl, s3, hl3, hG2, good2, n2, len2⟩
      obtain ⟨n, hn, rfl⟩ : ∃ n, N4[i]? = some n ∧ x = V.str n := by
        rw [List.getElem?_map] at hx
        cases e : N4[i]? with
        | none =>
          rw [e] at hx
          cases hx
        | some n =>
          rw [e] at hx
          exact ⟨n, rfl, (Option.some.inj hx).symm⟩
      have n4 := List.mem_of_getElem? hn
      have i4 : i < 4 := (List.getElem?_eq_some_iff.mp hn).1
      obtain ⟨ws, hgw, gr2⟩ := id hG2
      have hg3 := (news_at hgw).2
      have gr3 : GrA H3 ws G2 := gr2.up (Up.of_same news_same)
      refine ⟨_, rfl, _, rfl, g, rfl, ⟨_, SqL.of hg3⟩, fun D hD => lc_list (a := g) (xs := ws) (fun j H5 => H5 = upd H3 D (.lst ((G2.take j).map fun r => V.str r.1))) rfl ?_ ?_ ?_⟩
      · rintro j H5 _ rfl
        exact SqL.of ((same_upd hD) _ _ hg3)
      · rintro j x H5 hx rfl
        obtain ⟨r, hr2, ra⟩ := gr3.get hx
        obtain ⟨tt, l, rfl, h1, h2⟩ := ra
        refine ⟨rfl, _, rfl, tt, _, _, _, rfl, rfl, SqT.of ((same_upd hD) _ _ h1), at_of (j := 0) rfl rfl, _, upd_same, ?_, ?_⟩
        · rw [List.length_map]
          have := List.length_take_le' j G2
          exact Nat.lt_of_le_of_lt (by omega : _ ≤ 12) (by decide)
        · rw [upd_upd, take_snoc _ hr2]
      · rintro H5 rfl
        rw [gr3.len, List.take_length]
        have en : (G2.map fun r => V.str r.1) = (G2.map (·.1)).map V.str := by
          rw [List.map_map]
          rfl
        rw [en]
        have s5 : Same H3 (upd H3 D (.lst ((G2.map (·.1)).map V.str))) := same_upd hD
        have hD5 : upd H3 D (.lst ((G2.map (·.1)).map V.str)) D = some (.lst ((G2.map (·.1)).map V.str)) := upd_same
        generalize upd H3 D (.lst ((G2.map (·.1)).map V.str)) = H5 at s5 hD5
        have s05 := s3.trans s5
        have hG5 := hG2.up (News.up (Up.of_same s5))
        refine ⟨D, _, rfl, .inl (SqL.of hD5), rfl, flat_strs _, _, rfl, ?_⟩
        show (if (!inV (V.str n) ((G2.map (·.1)).map V.str)) = true then _ else _)
        rw [inV_strs]
        by_cases m : n ∈ G2.map (·.1)
        · rw [decide_eq_true m]
          exact iteF ⟨_, G2, rfl, s05, s5 _ _ hl3, hG5, good2, n2, by omega⟩
        · rw [decide_eq_false m]
          refine iteT ⟨_, rfl, .inl ⟨rfl, _, SqL.of (s5 _ _ hg3)⟩, _, rfl, (by show 2 ≤ sizeLine; decide), fun a1 na1 => ?_⟩
          have sa : Same H5 (upd H5 a1 (.lst [.str "A", .str "NUMBER"])) := same_upd na1
          have h1 : upd H5 a1 (.lst [.str "A", .str "NUMBER"]) a1 = some (.lst [.str "A", .str "NUMBER"]) := upd_same
          generalize upd H5 a1 (.lst [.str "A", .str "NUMBER"]) = H6 at sa h1
          refine ⟨(by show 1 ≤ sizeLine; decide), fun a2 na2 => ?_⟩
          have sb : Same H6 (upd H6 a2 (.lst [.str "s"])) := same_upd na2
          have h2 : upd H6 a2 (.lst [.str "s"]) a2 = some (.lst [.str "s"]) := upd_same
          generalize upd H6 a2 (.lst [.str "s"]) = H7 at sb h2
          refine ⟨(by show 0 ≤ sizeLine; decide), fun a3 na3 => ?_⟩
          have sc : Same H7 (upd H7 a3 (.lst [])) := same_upd na3
          have h3 : upd H7 a3 (.lst []) a3 = some (.lst []) := upd_same
          generalize upd H7 a3 (.lst []) = H8 at sc h3
          refine ⟨(by show 2 ≤ sizeLine; decide), fun a4 na4 => ?_⟩
          have sd : Same H8 (upd H8 a4 (.lst [.str "BB", .str "a"])) := same_upd na4
          have h4 : upd H8 a4 (.lst [.str "BB", .str "a"]) a4 = some (.lst [.str "BB", .str "a"]) := upd_same
          generalize upd H8 a4 (.lst [.str "BB", .str "a"]) = H9 at sd h4
          refine ⟨(by show 4 ≤ sizeLine; decide), fun ol nol => ?_⟩
          have se : Same H9 (upd H9 ol (.lst [.ref a1, .ref a2, .ref a3, .ref a4])) := same_upd nol
          have h5 : upd H9 ol (.lst [.ref a1, .ref a2, .ref a3, .ref a4]) ol = some (.lst [.ref a1, .ref a2, .ref a3, .ref a4]) := upd_same
          generalize upd H9 ol (.lst [.ref a1, .ref a2, .ref a3, .ref a4]) = HA at se h5
          have s5A : Same H5 HA := (((sa.trans sb).trans sc).trans sd).trans se
          have s0A := s05.trans s5A
          have ln : n.length ≤ 12 := name_len (List.all_eq_true.mp n4_name n n4)
          refine ⟨_, rfl, _, rfl, n, rfl, million0 (by omega), _, _, rfl, rfl, a, ds, _, 4, rfl, SqL.of (s0A _ _ ha), by decide, fun v v0 v1 => ?_⟩
          obtain ⟨kd, ks, hi, hk, nk, gk⟩ : ∃ (kd : Addr) (ks : List Str), ([V.ref a1, V.ref a2, V.ref a3, V.ref a4] : List V)[v.toNat]? = some (.ref kd) ∧ HA kd = some (.lst (ks.map V.str)) ∧ H kd = none ∧ GoodW (n, ks) := by
            rcases mk4 v0 v1 with e | e | e | e <;> rw [e]
            · exact ⟨a1, ["A", "NUMBER"], rfl, se _ _ (sd _ _ (sc _ _ (sb _ _ h1))), s05.free na1, n4, (by show (2 : Nat) ≤ 6; decide), w1⟩
            · exact ⟨a2, ["s"], rfl, se _ _ (sd _ _ (sc _ _ h2)), s05.free (sa.free na2), n4, (by show (1 : Nat) ≤ 6; decide), w2⟩
            · exact ⟨a3, [], rfl, se _ _ (sd _ _ h3), s05.free (sa.free (sb.free na3)), n4, (by show (0 : Nat) ≤ 6; decide), fun s hs => nomatch hs⟩
            · exact ⟨a4, ["BB", "a"], rfl, se _ _ h4, s05.free (sa.free (sb.free (sc.free na4))), n4, (by show (2 : Nat) ≤ 6; decide), w3⟩
          refine ⟨ol, _, _, _, rfl, rfl, SqL.of h5, at_of (j := v.toNat) (by omega) hi, (by show 2 ≤ sizeLine; decide), fun t nt => ?_⟩
          have sf : Same HA (upd HA t (.tup [.str n, .ref kd])) := same_upd nt
          have ht : upd HA t (.tup [.str n, .ref kd]) t = some (.tup [.str n, .ref kd]) := upd_same
          have nt0 : H t = none := s0A.free nt
          generalize upd HA t (.tup [.str n, .ref kd]) = HB at sf ht
          have s5B := s5A.trans sf
          have s3B := s5.trans s5B
          have s0B := s3.trans s3B
          have hgB := s3B _ _ hg3
          have grB : GrA (News H HB) ws G2 := gr2.up (News.up (Up.of_same s3B))
          have rB : RuleA (News H HB) (.ref t) (n, ks) := ⟨t, kd, rfl, by rw [news_of nt0]; exact ht, by rw [news_of nk]; exact sf _ _ hk⟩
          refine ⟨g, _, _, rfl, rfl, hgB, ?_, _, G2 ++ [(n, ks)], rfl, same_put s0B ng, ?_, GraA.app ng hgB n2 grB rB, fun r hr2 => ?_, ?_, ?_⟩
          · rw [gr3.len]
            exact Nat.lt_of_le_of_lt (by omega : _ ≤ 12) (by decide)
          · rw [upd_ne gll]
            exact s3B _ _ hl3
          · rcases List.mem_append.mp hr2 with z | z
            · exact good2 r z
            · rw [List.mem_singleton.mp z]
              exact gk
          · simp
          · rw [List.length_append, List.length_singleton]
            omega
    · rintro σ H3 ⟨v2, G2, rfl, s3, hl3, hG2, good2, n2, len2⟩
      exact qR v2 a g ds G2 H3 Q ha s3 hG2 good2 n2 (by have : (N4.map V.str).length = 4 := rfl; omega) q
end
end Ld

set_option Elab.async false
set_option linter.all false
set_option maxRecDepth 100000
set_option maxHeartbeats 4000000
namespace Ld
open PySem PySem.Spec PyProof.Rows L2 Le TL Lt Lg
def miss (D ss : List Str) : List Str := ss.filter fun s => decide (s ∈ N4) && !decide (s ∈ D)
theorem miss_more {D ss : List Str} {i : Nat} {s : Str} (h : ss[i]? = some s) : miss D (ss.take (i + 1)) = miss D (ss.take i) ++ (if (decide (s ∈ N4) && !decide (s ∈ D)) = true then [s] else []) := by
  unfold miss
  rw [List.take_add_one, h, List.filter_append]
  congr 1
  by_cases e : (decide (s ∈ N4) && !decide (s ∈ D)) = true
  · simp only [e]
    simp [e]
  · rw [if_neg e]
    simp [e]
theorem miss_mem {D ss : List Str} {s : Str} : s ∈ miss D ss ↔ s ∈ ss ∧ s ∈ N4 ∧ s ∉ D := by
  unfold miss
  rw [List.mem_filter, Bool.and_eq_true, decide_eq_true_eq, Bool.not_eq_true', decide_eq_false_iff_not]
theorem miss_nil {D ss : List Str} : miss D ss = [] ↔ ∀ s ∈ ss, s ∈ N4 → s ∈ D := by
  constructor
  · intro h s hs hn
    refine Classical.byContradiction fun no => ?_
    have := miss_mem.mpr ⟨hs, hn, no⟩
    rw [h] at this
    cases this
  · intro h
    refine List.eq_nil_iff_forall_not_mem.mpr fun s m => ?_
    obtain ⟨a, b, c⟩ := miss_mem.mp m
    exact c (h s a b)
theorem miss_len (D ss : List Str) : (miss D ss).length ≤ ss.length := List.length_filter_le _ _
theorem count_lt {p q : Str → Bool} (h : ∀ n, p n = true → q n = true) : ∀ {L : List Str} {m : Str}, m ∈ L → p m = false → q m = true → (L.filter p).length < (L.filter q).length := by
  have mono : ∀ L : List Str, (L.filter p).length ≤ (L.filter q).length := by
    intro L
    induction L with
    | nil => exact Nat.le_refl _
    | cons x L ih =>
      rw [List.filter_cons, List.filter_cons]
      by_cases c : p x = true
      · rw [if_pos c, if_pos (h x c), List.length_cons, List.length_cons]
        omega
      · rw [if_neg c]
        split
        · rw [List.length_cons]
          omega
        · exact ih
  intro L
  induction L with
  | nil => intro m hm; cases hm
  | cons x L ih =>
    intro m hm n1 n2
    have mo := mono L
    rw [List.filter_cons, List.filter_cons]
    rcases List.mem_cons.mp hm with e | m2
    · subst e
      rw [if_neg (by rw [n1]; exact Bool.false_ne_true), if_pos n2, List.length_cons]
      omega
    · have := ih m2 n1 n2
      by_cases c : p x = true
      · rw [if_pos c, if_pos (h x c), List.length_cons, List.length_cons]
        omega
      · rw [if_neg c]
        split
        · rw [List.length_cons]
          omega
        · exact this
def dc (F : List Str) : Nat := (N4.filter fun n => decide (n ∈ F)).length
theorem dc_le (F : List Str) : dc F ≤ 4 := List.length_filter_le _ _
theorem dc_lt {F A : List Str} {s : Str} (hs : s ∈ N4) (h1 : s ∉ F) (h2 : s ∈ A) : dc F < dc (F ++ A) := count_lt (fun n h => decide_eq_true (List.mem_append_left _ (of_decide_eq_true h))) hs (decide_eq_false h1) (decide_eq_true (List.mem_append_right _ h2))
section
variable {P : Program} {w : World} {K : PySem.W.Frag} {mg : Str → Option Value} {base : Heap}
theorem scLd : FnScope ["grammar", "found", "turn", "name", "symbols", "s"] ["grammar"] (defScope sLDer) := ⟨rfl, rfl, rfl, by decide +kernel, rfl, by decide +kernel, by decide +kernel⟩
def spLDer : Sp := fun vs H Q _ => ∃ (g : Addr) (G : List Rule), vs = [.ref g] ∧ GraA H g G ∧ (∀ r ∈ G, GoodW r) ∧ G.length ≤ 12 ∧ ∀ (p : Addr) (H2 : Hp) (D : List Str), Same H H2 → H p = none → H2 p = some (.lst (D.map V.str)) → (∀ n, n ∈ D ↔ Der G n) → Q (.ref p) H2
theorem ok_lder {f : Addr} {fd : FuncData} (F : Fun K "_law_deriving" "_law_deriving" sLDer f fd) (mr : mg "range" = none) (ml : mg "len" = none) : FnOk P w K mg base CX0 1 f fd ["grammar"] spLDer := by
  refine F.ok scLd (fun vs H Q E h => ?_) (fun cdv A outer s H vs Q E hr h => ?_)
  · obtain ⟨g, G, rfl, _⟩ := h
    rfl
  · obtain ⟨g, G, rfl, hG, good, hlen, q⟩ := h
    refine ⟨_, pss_cons (ps_set (i := 1) scLd.nd rfl (.inr rfl) (pe_lst pa_nil))
      (pss_cons (ps_for PassesOwn.never rfl (pi_range1 rfl mr (pa_cons (pe_op op_add (pe_callB call_len_seq (by rfl) ml PySem.boot_len (pa_cons (pv 0) pa_nil)) pe_int) pa_nil)) (pg_name (i := 2) scLd.nd rfl (.inl rfl))
        (pss_one (ps_for PassesOwn.never rfl (pi_list (pv 0)) (pg_tup rfl (pgs_cons (pg_name (i := 3) scLd.nd rfl (Or.inl rfl)) (pgs_cons (pg_name (i := 4) scLd.nd rfl (Or.inl rfl)) pgs_nil)))
          (pss_one (ps_if (PW.pt (pw_and (pt_cmpR op_notIn_seq (pv 3) (pv 1) rfl) (pw_and1 (pt_cmpR op_eq (pe_callB call_len_seq (by rfl) ml PySem.boot_len (pa_cons
              (pe_lc (own := [("s", 5)]) (g := gName 5) rfl scLd.nd (pi_list (pv 4)) (blkOk_by (N := ["grammar", "found", "turn", "name", "symbols", "s"]) (sc := defScope sLDer) (by decide +kernel)) (fun _ _ _ _ _ => pg_name (i := 5) scLd.nd rfl (Or.inl rfl))
                (fun _ _ _ _ _ => pts_one (t := tAnd (tB (tM0 (fun x xs H Q => ∃ a, x = .str a ∧ xs = [] ∧ True ∧ Q (.bl (Txt.islower a)) H) (tVar 5))) (tTest (tOp (rIn K true) (tVar 5) (tVar 1)))) (PW.pt (pw_and (pt_val (pe_m0 PySem.F.slot_str_islower PySem.F.type_str_islower mt_islower (pv 5))) (pw_and1 (pt_cmpR op_notIn_seq (pv 5) (pv 1) rfl))))) (fun _ _ _ _ _ => pv 5)) pa_nil)) pe_int (nomark _)))))
            (pss_one (ps_expr (pe_bm PySem.F.plainAttrs_list PySem.F.slot_list_append PySem.F.type_list_append mt_append (pv 1) (pa_cons (pv 3) pa_nil)))) pss_nil)))))
      (pss_one (ps_ret (pv 1)))), ?_⟩
    obtain ⟨vs, hg, gr⟩ := id hG
    refine ⟨Nat.zero_le _, fun fl nfl => ?_⟩
    have lenv : (vs.length : Int) + 1 = ((G.length + 1 : Nat) : Int) := by rw [gr.len]; omega
    have sf : Same H (upd H fl (.lst [])) := same_upd nfl
    refine ⟨_, rfl, g, _, rfl, .inl (SqL.of (sf _ _ hg)), _, _, rfl, rfl, _, rfl, by rw [lenv]; omega, by rw [lenv]; omega, ?_⟩
    rw [lenv]
    refine for_range (lo := 0) (n := G.length + 1) (fun t σ H' => ∃ (v2 v3 v4 : Option V) (D : List Str), σ = [some (.ref g), some (.ref fl), v2, v3, v4, none] ∧ Same H H' ∧ H' fl = some (.lst (D.map V.str)) ∧ D.Nodup ∧ (∀ n ∈ D, n ∈ N4) ∧ (∀ n ∈ D, Der G n) ∧ (ClosedD G D ∨ t ≤ rulesIn G D))
      ⟨none, none, none, [], rfl, sf, upd_same, List.nodup_nil, (fun _ z => nomatch z), (fun _ z => nomatch z), .inr (Nat.zero_le _)⟩ ?_ ?_
    · rintro t σ H1 ht ⟨v2, v3, v4, D, rfl, s1, hd1, nd, n4, der, prog⟩
      refine ⟨_, rfl, g, rfl, ⟨_, SqL.of (s1 _ _ hg)⟩, for_list (a := g) (xs := vs) (fun i σ H2 => ∃ (v2 v3 v4 : Option V) (D2 : List Str), σ = [some (.ref g), some (.ref fl), v2, v3, v4, none] ∧ Same H H2 ∧ H2 fl = some (.lst (D2.map V.str)) ∧ D2.Nodup ∧ (∀ n ∈ D2, n ∈ N4) ∧ (∀ n ∈ D2, Der G n) ∧
          ((D2 = D ∧ ∀ r ∈ G.take i, (∀ s ∈ r.2, s ∈ N4 → s ∈ D) → r.1 ∈ D) ∨ rulesIn G D < rulesIn G D2) ∧ (∀ n ∈ D, n ∈ D2) ∧ (ClosedD G D → D2 = D))
        ⟨_, v3, v4, D, rfl, s1, hd1, nd, n4, der, .inl ⟨rfl, fun r hr => by rw [List.take_zero] at hr; cases hr⟩, fun _ z => z, fun _ => rfl⟩ (fun i σ H2 _ ⟨_, _, _, _, _, s, _⟩ => SqL.of (s _ _ hg)) ?_ ?_⟩
      · rintro i x σ H2 hx ⟨v2, v3, v4, D2, rfl, s2, hd2, nd2, n42, der2, same, sub, cl2⟩
        obtain ⟨r, hr2, ra⟩ := gr.get hx
        have rm := List.mem_of_getElem? hr2
        have gw := good r rm
        obtain ⟨tt, l, rfl, h1, h2⟩ := ra.up (Up.of_same s2)
        have et : G.take (i + 1) = G.take i ++ [r] := by rw [List.take_add_one, hr2]; rfl
        have keep : ∀ {H9 : Hp} {w2 w3 w4 : Option V}, Same H2 H9 → (D2 = D → (∀ s ∈ r.2, s ∈ N4 → s ∈ D) → r.1 ∈ D) → ∃ (v2 v3 v4 : Option V) (D2 : List Str), [some (V.ref g), some (.ref fl), w2, w3, w4, none] = [some (.ref g), some (.ref fl), v2, v3, v4, none] ∧ Same H H9 ∧ H9 fl = some (.lst (D2.map V.str)) ∧ D2.Nodup ∧ (∀ n ∈ D2, n ∈ N4) ∧ (∀ n ∈ D2, Der G n) ∧
            ((D2 = D ∧ ∀ r ∈ G.take (i + 1), (∀ s ∈ r.2, s ∈ N4 → s ∈ D) → r.1 ∈ D) ∨ rulesIn G D < rulesIn G D2) ∧ (∀ n ∈ D, n ∈ D2) ∧ (ClosedD G D → D2 = D) := fun {H9 w2 w3 w4} s9 k =>
          ⟨w2, w3, w4, D2, rfl, s2.trans s9, s9 _ _ hd2, nd2, n42, der2, same.elim (fun e => .inl ⟨e.1, fun r' hr' => by
            rw [et] at hr'
            rcases List.mem_append.mp hr' with z | z
            · exact e.2 r' z
            · rw [List.mem_singleton.mp z]
              exact k e.1⟩) .inr, sub, cl2⟩
        refine ⟨tt, _, rfl, SqT.of h1, rfl, _, _, rfl, _, _, rfl, rfl, ?_⟩
        refine ⟨_, rfl, _, rfl, fl, _, rfl, .inl (SqL.of hd2), rfl, flat_strs D2, _, rfl, ?_⟩
        show (if (!inV (V.str r.1) (D2.map V.str)) = true then _ else _)
        rw [inV_strs]
        by_cases m : r.1 ∈ D2
        · rw [decide_eq_true m]
          exact iteF (keep (Same.refl H2) fun e _ => by rw [← e]; exact m)
        · rw [decide_eq_false m]
          refine iteT ⟨_, rfl, l, rfl, ⟨_, SqL.of h2⟩, fun B hB => lc_list (a := l) (xs := r.2.map V.str) (fun j H5 => H5 = upd H2 B (.lst ((miss D2 (r.2.take j)).map V.str))) rfl ?_ ?_ ?_⟩
          · rintro j H5 _ rfl
            exact SqL.of ((same_upd hB) _ _ h2)
          · rintro j x H5 hx rfl
            obtain ⟨sy, hsy, rfl⟩ : ∃ sy, r.2[j]? = some sy ∧ x = V.str sy := by
              rw [List.getElem?_map] at hx
              cases e : r.2[j]? with
              | none =>
                rw [e] at hx
                cases hx
              | some sy =>
                rw [e] at hx
                exact ⟨sy, rfl, (Option.some.inj hx).symm⟩
            have kind := gw.2.2 sy (List.mem_of_getElem? hsy)
            have em := miss_more (D := D2) hsy
            have lm : ((miss D2 (r.2.take j)).map V.str).length < sizeLine := by
              rw [List.length_map]
              have h1 := miss_len D2 (r.2.take j)
              have h2 := List.length_take_le' j r.2
              have h3 := gw.2.1
              exact Nat.lt_of_le_of_lt (by omega : _ ≤ 6) (by decide)
            refine ⟨rfl, _, rfl, ⟨_, rfl⟩, sy, rfl, rfl, trivial, _, rfl, ?_⟩
            rw [lower_is kind]
            by_cases hn : sy ∈ N4
            · rw [decide_eq_true hn] at em ⊢
              refine iteT ⟨_, rfl, _, rfl, fl, _, rfl, .inl (SqL.of ((same_upd hB) _ _ hd2)), rfl, flat_strs D2, _, rfl, ?_⟩
              show (if (!inV (V.str sy) (D2.map V.str)) = true then _ else _)
              rw [inV_strs]
              by_cases md : sy ∈ D2
              · rw [decide_eq_true md] at em ⊢
                refine iteF ?_
                rw [em]
                simp
              · rw [decide_eq_false md] at em ⊢
                refine iteT ⟨_, rfl, _, upd_same, lm, ?_⟩
                rw [upd_upd, em, List.map_append]
                rfl
            · rw [decide_eq_false hn] at em ⊢
              refine iteF ?_
              rw [em]
              simp
          · rintro H5 rfl
            rw [List.length_map, List.take_length]
            refine ⟨B, _, rfl, .inl (SqL.of upd_same), rfl, _, rfl, iteEq (fun e0 => ?_) (fun n0 => ?_)⟩
            · have em : miss D2 r.2 = [] := by
                rw [List.length_map] at e0
                exact List.eq_nil_of_length_eq_zero (by omega)
              have rdy := miss_nil.mp em
              have sB : Same H2 (upd H2 B (.lst ((miss D2 r.2).map V.str))) := same_upd hB
              have hdB := sB _ _ hd2
              have nd3 : (D2 ++ [r.1]).Nodup := by
                rw [List.nodup_append]
                refine ⟨nd2, by simp, fun p hp p2 hp2 e => ?_⟩
                rw [List.mem_singleton.mp hp2] at e
                rw [e] at hp
                exact m hp
              have all4 : ∀ n ∈ D2 ++ [r.1], n ∈ N4 := fun n hn => by
                rcases List.mem_append.mp hn with z | z
                · exact n42 n z
                · rw [List.mem_singleton.mp z]
                  exact gw.1
              have tot : (D2 ++ [r.1]).length ≤ 4 := nodup_le nd3 all4
              rw [List.length_append, List.length_singleton] at tot
              have grows : rulesIn G D2 < rulesIn G (D2 ++ [r.1]) := rulesIn_lt (fun n hn => List.mem_append_left _ hn) rm m (List.mem_append_right _ (List.mem_singleton.mpr rfl))
              have le : rulesIn G D ≤ rulesIn G D2 := rulesIn_mono sub
              refine ⟨_, rfl, .inl ⟨rfl, _, SqL.of hdB⟩, _, rfl, fl, _, _, rfl, rfl, hdB, ?_, _, _, _, D2 ++ [r.1], rfl, same_put (s2.trans sB) nfl, ?_, nd3, all4, fun n hn => ?_, .inr (Nat.lt_of_le_of_lt le grows), fun n hn => List.mem_append_left _ (sub n hn), fun c => ?_⟩
              · rw [List.length_map]
                exact Nat.lt_of_le_of_lt (by omega : D2.length ≤ 4) (by decide)
              · rw [upd_same, List.map_append]
                rfl
              · rcases List.mem_append.mp hn with z | z
                · exact der2 n z
                · rw [List.mem_singleton.mp z]
                  exact .mk (ss := r.2) rm fun s hs hsn => der2 s (rdy s hs hsn)
              · have e2 := cl2 c
                rw [e2] at m rdy
                exact (m (c r rm rdy)).elim
            · refine keep (same_upd hB) fun e k => ?_
              rw [e] at n0
              exact (n0 (by rw [miss_nil.mpr k]; rfl)).elim
      · rintro σ H2 ⟨v2, v3, v4, D2, rfl, s2, hd2, nd2, n42, der2, same, sub, cl2⟩
        refine ⟨v2, v3, v4, D2, rfl, s2, hd2, nd2, n42, der2, ?_⟩
        rcases same with ⟨e, k⟩ | lt
        · rw [gr.len, List.take_length] at k
          rw [e]
          exact .inl k
        · rcases prog with c | c
          · have e2 := cl2 c
            rw [e2] at lt
            omega
          · exact .inr (by omega)
    · rintro σ H2 ⟨v2, v3, v4, D, rfl, s2, hd2, nd, n4, der, prog⟩
      have cl : ClosedD G D := by
        rcases prog with c | c
        · exact c
        · have := rulesIn_le G D
          omega
      exact ⟨_, rfl, q fl H2 D s2 nfl hd2 fun n => ⟨fun h => der n h, fun h => der_in cl h⟩⟩
end
end Ld

set_option Elab.async false
set_option linter.all false
set_option maxRecDepth 100000
set_option maxHeartbeats 4000000
namespace Ld
open PySem PySem.Spec PyProof.Rows L2 Le TL Lt Lg
section
variable {P : Program} {w : World} {K : PySem.W.Frag} {mg : Str → Option Value} {base : Heap}
theorem scLq : FnScope ["grammar", "found", "turn", "name", "symbols", "s"] ["grammar"] (defScope sLReach) := ⟨rfl, rfl, rfl, by decide +kernel, rfl, by decide +kernel, by decide +kernel⟩
def spLReach : Sp := fun vs H Q _ => ∃ (g : Addr) (G : List Rule) (r0 : Rule) (G' : List Rule), vs = [.ref g] ∧ G = r0 :: G' ∧ GraA H g G ∧ (∀ r ∈ G, GoodW r) ∧ G.length ≤ 12 ∧
  ∀ (p : Addr) (H2 : Hp) (F : List Str), Same H H2 → H p = none → H2 p = some (.lst (F.map V.str)) → F.length ≤ 24 → (∀ n ∈ F, n ∈ N4) → (∀ n, n ∈ F ↔ Rea G r0.1 n) → Q (.ref p) H2
theorem ok_lreach {f : Addr} {fd : FuncData} (F : Fun K "_law_reached" "_law_reached" sLReach f fd) (mr : mg "range" = none) (ml : mg "len" = none) : FnOk P w K mg base CX0 1 f fd ["grammar"] spLReach := by
  refine F.ok scLq (fun vs H Q E h => ?_) (fun cdv A outer s H vs Q E hr h => ?_)
  · obtain ⟨g, G, r0, G', rfl, _⟩ := h
    rfl
  · obtain ⟨g, G, r0, G', rfl, eG, hG, good, hlen, q⟩ := h
    refine ⟨_, pss_cons (ps_set (i := 1) scLq.nd rfl (.inr rfl) (pe_lst (pa_cons (pe_ix ix_tup (pe_ix ix_list (pv 0) pe_int (fun _ _ => rfl)) pe_int (fun _ _ => rfl)) pa_nil)))
      (pss_cons (ps_for PassesOwn.never rfl (pi_range1 rfl mr (pa_cons (pe_op op_add (pe_callB call_len_seq (by rfl) ml PySem.boot_len (pa_cons (pv 0) pa_nil)) pe_int) pa_nil)) (pg_name (i := 2) scLq.nd rfl (.inl rfl))
        (pss_one (ps_for PassesOwn.never rfl (pi_list (pv 0)) (pg_tup rfl (pgs_cons (pg_name (i := 3) scLq.nd rfl (Or.inl rfl)) (pgs_cons (pg_name (i := 4) scLq.nd rfl (Or.inl rfl)) pgs_nil)))
          (pss_one (ps_if (pt_cmpR op_in_seq (pv 3) (pv 1) rfl)
            (pss_one (ps_set (i := 1) scLq.nd rfl (.inr rfl) (pe_op op_cat (pv 1)
              (pe_lc (own := [("s", 5)]) (g := gName 5) rfl scLq.nd (pi_list (pv 4)) (blkOk_by (N := ["grammar", "found", "turn", "name", "symbols", "s"]) (sc := defScope sLReach) (by decide +kernel)) (fun _ _ _ _ _ => pg_name (i := 5) scLq.nd rfl (Or.inl rfl))
                (fun _ _ _ _ _ => pts_one (t := tAnd (tB (tM0 (fun x xs H Q => ∃ a, x = .str a ∧ xs = [] ∧ True ∧ Q (.bl (Txt.islower a)) H) (tVar 5))) (tTest (tOp (rIn K true) (tVar 5) (tVar 1)))) (PW.pt (pw_and (pt_val (pe_m0 PySem.F.slot_str_islower PySem.F.type_str_islower mt_islower (pv 5))) (pw_and1 (pt_cmpR op_notIn_seq (pv 5) (pv 1) rfl))))) (fun _ _ _ _ _ => pv 5))))) pss_nil)))))
      (pss_one (ps_ret (pv 1)))), ?_⟩
    obtain ⟨vs, hg, gr⟩ := id hG
    obtain ⟨v0, hv0, t0, l00, rfl, h1, h2⟩ : ∃ v0, vs[0]? = some v0 ∧ RuleA H v0 r0 := by
      cases vs with
      | nil => rw [eG] at gr; exact gr.elim
      | cons v0 vs => rw [eG] at gr; exact ⟨v0, rfl, gr.1⟩
    have r0m : r0 ∈ G := by rw [eG]; exact List.mem_cons_self
    have n04 := (good r0 r0m).1
    have one : 1 ≤ rulesIn G [r0.1] := by
      unfold rulesIn
      rw [eG, List.filter_cons, if_pos (decide_eq_true (List.mem_singleton.mpr rfl)), List.length_cons]
      omega
    refine ⟨_, rfl, g, _, _, _, rfl, rfl, SqL.of hg, at_of (j := 0) rfl hv0, t0, _, _, _, rfl, rfl, SqT.of h1, at_of (j := 0) rfl rfl, (by show 1 ≤ sizeLine; decide), fun f0 nf0 => ?_⟩
    have sf : Same H (upd H f0 (.lst [.str r0.1])) := same_upd nf0
    have lenv : (vs.length : Int) + 1 = ((G.length + 1 : Nat) : Int) := by rw [gr.len]; omega
    have dc1 : 1 ≤ dc [r0.1] := by
      have := dc_lt (F := []) (A := [r0.1]) n04 (fun z => nomatch z) (List.mem_singleton.mpr rfl)
      rw [List.nil_append] at this
      omega
    refine ⟨_, rfl, g, _, rfl, .inl (SqL.of (sf _ _ hg)), _, _, rfl, rfl, _, rfl, by rw [lenv]; omega, by rw [lenv]; omega, ?_⟩
    rw [lenv]
    refine for_range (lo := 0) (n := G.length + 1) (fun t σ H' => ∃ (v2 v3 v4 : Option V) (fl : Addr) (F : List Str), σ = [some (.ref g), some (.ref fl), v2, v3, v4, none] ∧ Same H H' ∧ H fl = none ∧ H' fl = some (.lst (F.map V.str)) ∧ F.length ≤ 6 * dc F ∧ (∀ n ∈ F, n ∈ N4) ∧ (∀ n ∈ F, Rea G r0.1 n) ∧ r0.1 ∈ F ∧ (ClosedR G F ∨ t + 1 ≤ rulesIn G F))
      ⟨none, none, none, f0, [r0.1], rfl, sf, nf0, upd_same, by show 1 ≤ 6 * dc [r0.1]; omega, fun n hn => by rw [List.mem_singleton.mp hn]; exact n04, fun n hn => by rw [List.mem_singleton.mp hn]; exact .start, List.mem_singleton.mpr rfl, .inr one⟩ ?_ ?_
    · rintro t σ H1 ht ⟨v2, v3, v4, fl, F, rfl, s1, nfl, hf1, lf, n4, rea, st, prog⟩
      refine ⟨_, rfl, g, rfl, ⟨_, SqL.of (s1 _ _ hg)⟩, for_list (a := g) (xs := vs) (fun i σ H2 => ∃ (v2 v3 v4 : Option V) (f2 : Addr) (F2 : List Str), σ = [some (.ref g), some (.ref f2), v2, v3, v4, none] ∧ Same H H2 ∧ H f2 = none ∧ H2 f2 = some (.lst (F2.map V.str)) ∧ F2.length ≤ 6 * dc F2 ∧ (∀ n ∈ F2, n ∈ N4) ∧ (∀ n ∈ F2, Rea G r0.1 n) ∧
          (∀ n ∈ F, n ∈ F2) ∧ (∀ r ∈ G.take i, r.1 ∈ F → ∀ s ∈ r.2, s ∈ N4 → s ∈ F2) ∧ (ClosedR G F → F2 = F))
        ⟨_, v3, v4, fl, F, rfl, s1, nfl, hf1, lf, n4, rea, (fun _ z => z), (fun r hr => by rw [List.take_zero] at hr; cases hr), fun _ => rfl⟩ (fun i σ H2 _ ⟨_, _, _, _, _, _, s, _⟩ => SqL.of (s _ _ hg)) ?_ ?_⟩
      · rintro i x σ H2 hx ⟨v2, v3, v4, f2, F2, rfl, s2, nf2, hf2, lf2, n42, rea2, sub, done, cl2⟩
        obtain ⟨r, hr2, ra⟩ := gr.get hx
        have rm := List.mem_of_getElem? hr2
        have gw := good r rm
        obtain ⟨tt, l, rfl, h1, h2⟩ := ra.up (Up.of_same s2)
        have et : G.take (i + 1) = G.take i ++ [r] := by rw [List.take_add_one, hr2]; rfl
        refine ⟨tt, _, rfl, SqT.of h1, rfl, _, _, rfl, _, _, rfl, rfl, ?_⟩
        refine ⟨_, rfl, _, rfl, f2, _, rfl, .inl (SqL.of hf2), rfl, flat_strs F2, _, rfl, ?_⟩
        show (if inV (V.str r.1) (F2.map V.str) = true then _ else _)
        rw [inV_strs]
        by_cases m : r.1 ∈ F2
        · rw [decide_eq_true m]
          refine iteT ⟨_, rfl, _, rfl, l, rfl, ⟨_, SqL.of h2⟩, fun B hB => lc_list (a := l) (xs := r.2.map V.str) (fun j H5 => H5 = upd H2 B (.lst ((miss F2 (r.2.take j)).map V.str))) rfl ?_ ?_ ?_⟩
          · rintro j H5 _ rfl
            exact SqL.of ((same_upd hB) _ _ h2)
          · rintro j x H5 hx rfl
            obtain ⟨sy, hsy, rfl⟩ : ∃ sy, r.2[j]? = some sy ∧ x = V.str sy := by
              rw [List.getElem?_map] at hx
              cases e : r.2[j]? with
              | none =>
                rw [e] at hx
                cases hx
              | some sy =>
                rw [e] at hx
                exact ⟨sy, rfl, (Option.some.inj hx).symm⟩
            have kind := gw.2.2 sy (List.mem_of_getElem? hsy)
            have em := miss_more (D := F2) hsy
            have lm : ((miss F2 (r.2.take j)).map V.str).length < sizeLine := by
              rw [List.length_map]
              have h1 := miss_len F2 (r.2.take j)
              have h2 := List.length_take_le' j r.2
              have h3 := gw.2.1
              exact Nat.lt_of_le_of_lt (by omega : _ ≤ 6) (by decide)
            refine ⟨rfl, _, rfl, ⟨_, rfl⟩, sy, rfl, rfl, trivial, _, rfl, ?_⟩
            rw [lower_is kind]
            by_cases hn : sy ∈ N4
            · rw [decide_eq_true hn] at em ⊢
              refine iteT ⟨_, rfl, _, rfl, f2, _, rfl, .inl (SqL.of ((same_upd hB) _ _ hf2)), rfl, flat_strs F2, _, rfl, ?_⟩
              show (if (!inV (V.str sy) (F2.map V.str)) = true then _ else _)
              rw [inV_strs]
              by_cases md : sy ∈ F2
              · rw [decide_eq_true md] at em ⊢
                refine iteF ?_
                rw [em]
                simp
              · rw [decide_eq_false md] at em ⊢
                refine iteT ⟨_, rfl, _, upd_same, lm, ?_⟩
                rw [upd_upd, em, List.map_append]
                rfl
            · rw [decide_eq_false hn] at em ⊢
              refine iteF ?_
              rw [em]
              simp
          · rintro H5 rfl
            rw [List.length_map, List.take_length]
            have sB : Same H2 (upd H2 B (.lst ((miss F2 r.2).map V.str))) := same_upd hB
            have hfB := sB _ _ hf2
            have hBB : upd H2 B (.lst ((miss F2 r.2).map V.str)) B = some (.lst ((miss F2 r.2).map V.str)) := upd_same
            have d4 := dc_le F2
            have ml6 : (miss F2 r.2).length ≤ 6 := Nat.le_trans (miss_len _ _) gw.2.1
            refine ⟨f2, B, _, _, rfl, rfl, hfB, hBB, million0 (by rw [List.length_map, List.length_map]; omega), fun f3 nf3 => ?_⟩
            rw [← List.map_append]
            have sC := sB.trans (same_upd nf3 (o := .lst ((F2 ++ miss F2 r.2).map V.str)))
            refine ⟨_, _, _, f3, F2 ++ miss F2 r.2, rfl, s2.trans sC, (s2.trans sB).free nf3, upd_same, ?_, fun n hn => ?_, fun n hn => ?_, fun n hn => List.mem_append_left _ (sub n hn), fun r' hr' hF s hs hsn => ?_, fun c => ?_⟩
            · cases em : miss F2 r.2 with
              | nil =>
                rw [List.append_nil]
                exact lf2
              | cons s0 A =>
                obtain ⟨_, h4, h5⟩ := miss_mem.mp (show s0 ∈ miss F2 r.2 by rw [em]; exact List.mem_cons_self)
                have lt := dc_lt (A := s0 :: A) h4 h5 List.mem_cons_self
                rw [em] at ml6
                rw [List.length_append]
                omega
            · rcases List.mem_append.mp hn with z | z
              · exact n42 n z
              · exact (miss_mem.mp z).2.1
            · rcases List.mem_append.mp hn with z | z
              · exact rea2 n z
              · obtain ⟨z1, z2, _⟩ := miss_mem.mp z
                exact .step (ss := r.2) (rea2 r.1 m) rm z1 z2
            · rw [et] at hr'
              rcases List.mem_append.mp hr' with z | z
              · exact List.mem_append_left _ (done r' z hF s hs hsn)
              · rw [List.mem_singleton.mp z] at hs
                by_cases md : s ∈ F2
                · exact List.mem_append_left _ md
                · exact List.mem_append_right _ (miss_mem.mpr ⟨hs, hsn, md⟩)
            · have e2 := cl2 c
              rw [e2] at m ⊢
              have : miss F r.2 = [] := miss_nil.mpr fun s hs hsn => c r rm m s hs hsn
              rw [this, List.append_nil]
        · rw [decide_eq_false m]
          refine iteF ⟨_, _, _, f2, F2, rfl, s2, nf2, hf2, lf2, n42, rea2, sub, fun r' hr' hF s hs hsn => ?_, cl2⟩
          rw [et] at hr'
          rcases List.mem_append.mp hr' with z | z
          · exact done r' z hF s hs hsn
          · rw [List.mem_singleton.mp z] at hF
            exact (m (sub _ hF)).elim
      · rintro σ H2 ⟨v2, v3, v4, f2, F2, rfl, s2, nf2, hf2, lf2, n42, rea2, sub, done, cl2⟩
        rw [gr.len, List.take_length] at done
        refine ⟨v2, v3, v4, f2, F2, rfl, s2, nf2, hf2, lf2, n42, rea2, sub _ st, ?_⟩
        by_cases c : ClosedR G F2
        · exact .inl c
        · rcases prog with c1 | c1
          · rw [cl2 c1] at c
            exact (c c1).elim
          · obtain ⟨r, rm, rF, hno⟩ : ∃ r ∈ G, r.1 ∈ F2 ∧ ¬ ∀ s ∈ r.2, s ∈ N4 → s ∈ F2 := by
              refine Classical.byContradiction fun z => c fun r rm rF => Classical.byContradiction fun no => z ⟨r, rm, rF, no⟩
            have nF : r.1 ∉ F := fun z => hno (done r rm z)
            have := rulesIn_lt sub rm nF rF
            exact .inr (by omega)
    · rintro σ H2 ⟨v2, v3, v4, fl, F, rfl, s2, nfl, hf, lf, n4, rea, st, prog⟩
      have cl : ClosedR G F := by
        rcases prog with c | c
        · exact c
        · have := rulesIn_le G F
          omega
      have := dc_le F
      exact ⟨_, rfl, q fl H2 F s2 nfl hf (by omega) n4 fun n => ⟨fun h => rea n h, fun h => rea_in st cl h⟩⟩
end
end Ld

set_option Elab.async false
set_option linter.all false
set_option maxRecDepth 100000
set_option maxHeartbeats 4000000
namespace Ld
open PySem PySem.Spec PyProof.Rows L2 Le TL Lt Lg
noncomputable def faultOf (G : List Rule) (ks : List Str) (n0 : Str) : Option (Str × Nat) := match fb (p1 G ks) 0 G with
  | some k => some ("unknown", k)
  | none => match fb (p2 G) 0 G with
    | some k => some ("row", k)
    | none => match fb (p3 G n0) 0 G with
      | some k => some ("reached", k)
      | none => none
def faultD : Option (Str × Nat) → PyData
  | none => .none
  | some (s, k) => .tuple [.str s, .int k]
def unk (ks ns ss : List Str) : List Str := ss.filter fun s => !decide (s ∈ ks) && !decide (s ∈ ns)
theorem unk_more {ks ns ss : List Str} {i : Nat} {s : Str} (h : ss[i]? = some s) : unk ks ns (ss.take (i + 1)) = unk ks ns (ss.take i) ++ (if (!decide (s ∈ ks) && !decide (s ∈ ns)) = true then [s] else []) := by
  unfold unk
  rw [List.take_add_one, h, List.filter_append]
  congr 1
  by_cases e : (!decide (s ∈ ks) && !decide (s ∈ ns)) = true
  · simp only [e]
    simp [e]
  · rw [if_neg e]
    simp [e]
theorem unk_len (ks ns ss : List Str) : (unk ks ns ss).length ≤ ss.length := List.length_filter_le _ _
theorem unk_p1 (G : List Rule) (ks : List Str) (r : Rule) : p1 G ks r = decide (0 < (unk ks (G.map (·.1)) r.2).length) := by
  unfold p1
  rw [Bool.eq_iff_iff, Bool.not_eq_true', decide_eq_true_eq, List.length_pos_iff, ← Bool.not_eq_true, List.all_eq_true]
  unfold unk
  rw [ne_eq, List.filter_eq_nil_iff]
  constructor
  · intro h z
    refine h fun s hs => ?_
    have no := z s hs
    by_cases a : s ∈ ks
    · rw [decide_eq_true a, Bool.true_or]
    · by_cases b : s ∈ G.map (·.1)
      · rw [decide_eq_true b, Bool.or_true]
      · rw [decide_eq_false a, decide_eq_false b] at no
        exact (no rfl).elim
  · intro h z
    refine h fun s hs => ?_
    have yes := z s hs
    by_cases a : s ∈ ks
    · rw [decide_eq_true a]
      exact Bool.false_ne_true
    · by_cases b : s ∈ G.map (·.1)
      · rw [decide_eq_true b, Bool.not_true, Bool.and_false]
        exact Bool.false_ne_true
      · rw [decide_eq_false a, decide_eq_false b] at yes
        exact (Bool.false_ne_true yes).elim
section
variable {P : Program} {w : World} {K : PySem.W.Frag} {mg : Str → Option Value} {base : Heap}
theorem scLf : FnScope ["grammar", "kinds", "names", "k", "rule", "s"] ["grammar", "kinds"] (defScope sLFault) := ⟨rfl, rfl, rfl, by decide +kernel, rfl, by decide +kernel, by decide +kernel⟩
def spLFault (K : PySem.W.Frag) : Sp := fun vs H Q _ => ∃ (g kd : Addr) (G : List Rule) (r0 : Rule) (G' : List Rule) (ks : List Str), vs = [.ref g, .ref kd] ∧ G = r0 :: G' ∧ GraA H g G ∧ (∀ r ∈ G, GoodW r) ∧ G.length ≤ 12 ∧ H kd = some (.lst (ks.map V.str)) ∧
  ∀ v H2, Same H H2 → Dp K H2 v (faultD (faultOf G ks r0.1)) → Q v H2
theorem ok_lfault {f fD fR : Addr} {fd fdD fdR : FuncData} (F : Fun K "_law_fault" "_law_fault" sLFault f fd)
    (GD : FnOk P w K mg base CX0 1 fD fdD ["grammar"] spLDer) (kD : PySem.W.keepIn K (.ref fD) = true) (bD : Binds K fdD ["grammar"] []) (gD : mg "_law_deriving" = some (.ref fD))
    (GR : FnOk P w K mg base CX0 1 fR fdR ["grammar"] spLReach) (kR : PySem.W.keepIn K (.ref fR) = true) (bR : Binds K fdR ["grammar"] []) (gR : mg "_law_reached" = some (.ref fR))
    (mr : mg "range" = none) (ml : mg "len" = none) : FnOk P w K mg base CX0 2 f fd ["grammar", "kinds"] (spLFault K) := by
  refine F.ok scLf (fun vs H Q E h => ?_) (fun cdv A outer s H vs Q E hr h => ?_)
  · obtain ⟨g, kd, G, r0, G', ks, rfl, _⟩ := h
    rfl
  · obtain ⟨g, kd, G, r0, G', ks, rfl, eG, hG, good, hlen, hkd, q⟩ := h
    refine ⟨_, pss_cons (ps_set (i := 2) scLf.nd rfl (.inr rfl) (pe_lc (own := [("rule", 4)]) (g := gName 4) rfl scLf.nd (pi_list (pv 0)) (blkOk_by (N := ["grammar", "kinds", "names", "k", "rule", "s"]) (sc := defScope sLFault) (by decide +kernel))
        (fun _ _ _ _ _ => pg_name (i := 4) scLf.nd rfl (Or.inl rfl)) (fun _ _ _ _ _ => pts_nil) (fun _ _ _ _ _ => pe_ix (r := rIxT K) ix_tup (pv 4) pe_int (fun _ _ => rfl))))
      (pss_cons (ps_for PassesOwn.never rfl (pi_range1 rfl mr (pa_cons (pe_callB call_len_seq (by rfl) ml PySem.boot_len (pa_cons (pv 0) pa_nil)) pa_nil)) (pg_name (i := 3) scLf.nd rfl (.inl rfl))
        (pss_one (ps_if (pt_cmpR op_gt (pe_callB call_len_seq (by rfl) ml PySem.boot_len (pa_cons
            (pe_lc (own := [("s", 5)]) (g := gName 5) rfl scLf.nd (pi_list (pe_ix ix_tup (pe_ix ix_list (pv 0) (pv 3) (fun _ _ => rfl)) pe_int (fun _ _ => rfl))) (blkOk_by (N := ["grammar", "kinds", "names", "k", "rule", "s"]) (sc := defScope sLFault) (by decide +kernel)) (fun _ _ _ _ _ => pg_name (i := 5) scLf.nd rfl (Or.inl rfl))
              (fun _ _ _ _ _ => pts_one (t := tAnd (tTest (tOp (rIn K true) (tVar 5) (tVar 1))) (tTest (tOp (rIn K true) (tVar 5) (tVar 2)))) (PW.pt (pw_and (pt_cmpR op_notIn_seq (pv 5) (pv 1) rfl) (pw_and1 (pt_cmpR op_notIn_seq (pv 5) (pv 2) rfl))))) (fun _ _ _ _ _ => pv 5)) pa_nil)) pe_int (nomark _))
          (pss_one (ps_ret (pe_tup (pa_cons pe_str (pa_cons (pv 3) pa_nil))))) pss_nil)))
      (pss_cons (ps_for PassesOwn.never rfl (pi_range1 rfl mr (pa_cons (pe_callB call_len_seq (by rfl) ml PySem.boot_len (pa_cons (pv 0) pa_nil)) pa_nil)) (pg_name (i := 3) scLf.nd rfl (.inl rfl))
        (pss_one (ps_if (pt_cmpR op_notIn_seq (pe_ix ix_tup (pe_ix ix_list (pv 0) (pv 3) (fun _ _ => rfl)) pe_int (fun _ _ => rfl)) (pe_call GD hr (by rfl) gD kD bD .nil pass0 (pa_cons (pv 0) pa_nil)) rfl)
          (pss_one (ps_ret (pe_tup (pa_cons pe_str (pa_cons (pv 3) pa_nil))))) pss_nil)))
      (pss_cons (ps_for PassesOwn.never rfl (pi_range1 rfl mr (pa_cons (pe_callB call_len_seq (by rfl) ml PySem.boot_len (pa_cons (pv 0) pa_nil)) pa_nil)) (pg_name (i := 3) scLf.nd rfl (.inl rfl))
        (pss_one (ps_if (pt_cmpR op_notIn_seq (pe_ix ix_tup (pe_ix ix_list (pv 0) (pv 3) (fun _ _ => rfl)) pe_int (fun _ _ => rfl)) (pe_call GR hr (by rfl) gR kR bR .nil pass0 (pa_cons (pv 0) pa_nil)) rfl)
          (pss_one (ps_ret (pe_tup (pa_cons pe_str (pa_cons (pv 3) pa_nil))))) pss_nil)))
      (pss_one (ps_ret pe_non))))), ?_⟩
    obtain ⟨vs, hg, gr⟩ := id hG
    refine ⟨_, rfl, g, rfl, ⟨_, SqL.of hg⟩, fun nl hnl => lc_list (a := g) (xs := vs) (fun j H5 => H5 = upd H nl (.lst ((G.take j).map fun r => V.str r.1))) rfl ?_ ?_ ?_⟩
    · rintro j H5 _ rfl
      exact SqL.of ((same_upd hnl) _ _ hg)
    · rintro j x H5 hx rfl
      obtain ⟨r, hr2, ra⟩ := gr.get hx
      obtain ⟨tt, l, rfl, h1, h2⟩ := ra
      refine ⟨rfl, _, rfl, tt, _, _, _, rfl, rfl, SqT.of ((same_upd hnl) _ _ h1), at_of (j := 0) rfl rfl, _, upd_same, ?_, ?_⟩
      · rw [List.length_map]
        have := List.length_take_le' j G
        exact Nat.lt_of_le_of_lt (by omega : _ ≤ 12) (by decide)
      · rw [upd_upd, take_snoc _ hr2]
    · rintro H5 rfl
      rw [gr.len, List.take_length]
      have en : (G.map fun r => V.str r.1) = (G.map (·.1)).map V.str := by
        rw [List.map_map]
        rfl
      rw [en]
      have s1 : Same H (upd H nl (.lst ((G.map (·.1)).map V.str))) := same_upd hnl
      have hn1 : upd H nl (.lst ((G.map (·.1)).map V.str)) nl = some (.lst ((G.map (·.1)).map V.str)) := upd_same
      show _
      change tSeq _ _ _ _ (upd H nl (.lst ((G.map (·.1)).map V.str)))
      generalize upd H nl (.lst ((G.map (·.1)).map V.str)) = H1 at s1 hn1
      have lenv : (vs.length : Int) = ((G.length : Nat) : Int) := by rw [gr.len]
      have ret : ∀ {H3 : Hp} {t : Addr} {nm : Str} {i : Nat}, Same H H3 → H3 t = none → faultOf G ks r0.1 = some (nm, i) → Q (.ref t) (upd H3 t (.tup [.str nm, .int i])) := fun {H3 t nm i} s3 nt e => by
        refine q _ _ (s3.trans (same_upd nt)) ?_
        rw [e]
        exact .tup (SqT.of upd_same) (.cons (.str _) (.cons (.int _) .nil))
      refine ⟨_, rfl, g, _, rfl, .inl (SqL.of (s1 _ _ hg)), _, rfl, by rw [lenv]; omega, by rw [lenv]; omega, ?_⟩
      rw [lenv]
      refine for_range (lo := 0) (n := G.length) (fun i σ H' => ∃ v3 : Option V, σ = [some (.ref g), some (.ref kd), some (.ref nl), v3, none, none] ∧ Same H1 H' ∧ fb (p1 G ks) 0 G = fb (p1 G ks) i (G.drop i)) ⟨none, rfl, Same.refl H1, rfl⟩ ?_ ?_
      · rintro i σ H2 hi ⟨v3, rfl, s2, efb⟩
        rw [Int.zero_add]
        obtain ⟨r, hr2⟩ : ∃ r, G[i]? = some r := ⟨_, List.getElem?_eq_getElem hi⟩
        obtain ⟨v, hv, ra⟩ : ∃ v, vs[i]? = some v ∧ RuleA H v r := by
          obtain ⟨v, hv⟩ : ∃ v, vs[i]? = some v := ⟨_, List.getElem?_eq_getElem (by rw [gr.len]; exact hi)⟩
          obtain ⟨r', hr', ra⟩ := gr.get hv
          rw [hr2] at hr'
          cases hr'
          exact ⟨v, hv, ra⟩
        rw [drop_get2 hr2, fb_cons, unk_p1] at efb
        have s02 := s1.trans s2
        obtain ⟨tt, l, rfl, h1, h2⟩ := ra.up (Up.of_same s02)
        have g6 := (good r (List.mem_of_getElem? hr2)).2.1
        refine ⟨_, rfl, _, rfl, g, _, _, _, rfl, rfl, SqL.of (s02 _ _ hg), at_of (j := i) rfl hv, tt, _, _, _, rfl, rfl, SqT.of h1, at_of (j := 1) rfl rfl, l, rfl, ⟨_, SqL.of h2⟩, fun B hB => lc_list (a := l) (xs := r.2.map V.str) (fun j H5 => H5 = upd H2 B (.lst ((unk ks (G.map (·.1)) (r.2.take j)).map V.str))) rfl ?_ ?_ ?_⟩
        · rintro j H5 _ rfl
          exact SqL.of ((same_upd hB) _ _ h2)
        · rintro j x H5 hx rfl
          obtain ⟨sy, hsy, rfl⟩ : ∃ sy, r.2[j]? = some sy ∧ x = V.str sy := by
            rw [List.getElem?_map] at hx
            cases e : r.2[j]? with
            | none =>
              rw [e] at hx
              cases hx
            | some sy =>
              rw [e] at hx
              exact ⟨sy, rfl, (Option.some.inj hx).symm⟩
          have em := unk_more (ks := ks) (ns := G.map (·.1)) hsy
          have lm : ((unk ks (G.map (·.1)) (r.2.take j)).map V.str).length < sizeLine := by
            rw [List.length_map]
            have h1 := unk_len ks (G.map (·.1)) (r.2.take j)
            have h2 := List.length_take_le' j r.2
            exact Nat.lt_of_le_of_lt (by omega : _ ≤ 6) (by decide)
          refine ⟨rfl, _, rfl, _, rfl, kd, _, rfl, .inl (SqL.of ((same_upd hB) _ _ (s02 _ _ hkd))), rfl, flat_strs ks, _, rfl, ?_⟩
          show (if (!inV (V.str sy) (ks.map V.str)) = true then _ else _)
          rw [inV_strs]
          by_cases a : sy ∈ ks
          · rw [decide_eq_true a] at em ⊢
            refine iteF ?_
            rw [em]
            simp
          · rw [decide_eq_false a] at em ⊢
            refine iteT ⟨_, rfl, _, rfl, nl, _, rfl, .inl (SqL.of ((same_upd hB) _ _ (s2 _ _ hn1))), rfl, flat_strs _, _, rfl, ?_⟩
            show (if (!inV (V.str sy) ((G.map (·.1)).map V.str)) = true then _ else _)
            rw [inV_strs]
            by_cases b : sy ∈ G.map (·.1)
            · rw [decide_eq_true b] at em ⊢
              refine iteF ?_
              rw [em]
              simp
            · rw [decide_eq_false b] at em ⊢
              refine iteT ⟨_, rfl, _, upd_same, lm, ?_⟩
              rw [upd_upd, em, List.map_append]
              rfl
        · rintro H5 rfl
          rw [List.length_map, List.take_length]
          have sB : Same H2 (upd H2 B (.lst ((unk ks (G.map (·.1)) r.2).map V.str))) := same_upd hB
          refine ⟨B, _, rfl, .inl (SqL.of upd_same), _, _, rfl, rfl, _, rfl, ite2 (fun c => ?_) (fun c => ?_)⟩
          · have c2 : (0 : Int) < (((unk ks (G.map (·.1)) r.2).map V.str).length : Int) := of_decide_eq_true c
            rw [List.length_map] at c2
            rw [if_pos (decide_eq_true (by omega))] at efb
            exact ⟨_, rfl, (by show 2 ≤ sizeLine; decide), fun t nt => ret (s02.trans sB) nt (by unfold faultOf; rw [efb])⟩
          · have c2 : ¬ (0 : Int) < (((unk ks (G.map (·.1)) r.2).map V.str).length : Int) := fun z => c (decide_eq_true z)
            rw [List.length_map] at c2
            rw [if_neg (fun z => c2 (by have := of_decide_eq_true z; omega))] at efb
            exact ⟨_, rfl, s2.trans sB, efb⟩
      · rintro σ H2 ⟨v3, rfl, s2, efb⟩
        rw [List.drop_length] at efb
        have e1 : fb (p1 G ks) 0 G = none := efb
        have s02 := s1.trans s2
        refine ⟨_, rfl, g, _, rfl, .inl (SqL.of (s02 _ _ hg)), _, rfl, by rw [lenv]; omega, by rw [lenv]; omega, ?_⟩
        rw [lenv]
        refine for_range (lo := 0) (n := G.length) (fun i σ H' => ∃ v3 : Option V, σ = [some (.ref g), some (.ref kd), some (.ref nl), v3, none, none] ∧ Same H2 H' ∧ fb (p2 G) 0 G = fb (p2 G) i (G.drop i)) ⟨v3, rfl, Same.refl H2, rfl⟩ ?_ ?_
        · rintro i σ H3 hi ⟨v3, rfl, s3, efb2⟩
          rw [Int.zero_add]
          obtain ⟨r, hr2⟩ : ∃ r, G[i]? = some r := ⟨_, List.getElem?_eq_getElem hi⟩
          obtain ⟨v, hv⟩ : ∃ v, vs[i]? = some v := ⟨_, List.getElem?_eq_getElem (by rw [gr.len]; exact hi)⟩
          obtain ⟨r', hr', ra⟩ := gr.get hv
          rw [hr2] at hr'
          cases hr'
          have s03 := s02.trans s3
          obtain ⟨tt, l, rfl, h1, h2⟩ := ra.up (Up.of_same s03)
          refine ⟨_, rfl, _, rfl, g, _, _, _, rfl, rfl, SqL.of (s03 _ _ hg), at_of (j := i) rfl hv, tt, _, _, _, rfl, rfl, SqT.of h1, at_of (j := 0) rfl rfl, ?_⟩
          refine ⟨_, rfl, g, G, rfl, hG.up (Up.of_same s03), good, hlen, fun p H4 D s4 np hp der => ?_⟩
          rw [drop_get2 hr2, fb_cons, p2_of der] at efb2
          refine ⟨p, _, rfl, .inl (SqL.of hp), rfl, flat_strs D, _, rfl, ?_⟩
          show (if (!inV (V.str r.1) (D.map V.str)) = true then _ else _)
          rw [inV_strs]
          by_cases m : r.1 ∈ D
          · rw [decide_eq_true m] at efb2 ⊢
            exact iteF ⟨_, rfl, s3.trans s4, efb2⟩
          · rw [decide_eq_false m] at efb2 ⊢
            have e2 : fb (p2 G) 0 G = some i := efb2
            exact iteT ⟨_, rfl, (by show 2 ≤ sizeLine; decide), fun t nt => ret (s03.trans s4) nt (by unfold faultOf; rw [e1]; simp only; rw [e2])⟩
        · rintro σ H3 ⟨v3, rfl, s3, efb2⟩
          rw [List.drop_length] at efb2
          have e2 : fb (p2 G) 0 G = none := efb2
          have s03 := s02.trans s3
          refine ⟨_, rfl, g, _, rfl, .inl (SqL.of (s03 _ _ hg)), _, rfl, by rw [lenv]; omega, by rw [lenv]; omega, ?_⟩
          rw [lenv]
          refine for_range (lo := 0) (n := G.length) (fun i σ H' => ∃ v3 : Option V, σ = [some (.ref g), some (.ref kd), some (.ref nl), v3, none, none] ∧ Same H3 H' ∧ fb (p3 G r0.1) 0 G = fb (p3 G r0.1) i (G.drop i)) ⟨v3, rfl, Same.refl H3, rfl⟩ ?_ ?_
          · rintro i σ H4 hi ⟨v3, rfl, s4, efb3⟩
            rw [Int.zero_add]
            obtain ⟨r, hr2⟩ : ∃ r, G[i]? = some r := ⟨_, List.getElem?_eq_getElem hi⟩
            obtain ⟨v, hv⟩ : ∃ v, vs[i]? = some v := ⟨_, List.getElem?_eq_getElem (by rw [gr.len]; exact hi)⟩
            obtain ⟨r', hr', ra⟩ := gr.get hv
            rw [hr2] at hr'
            cases hr'
            have s04 := s03.trans s4
            obtain ⟨tt, l, rfl, h1, h2⟩ := ra.up (Up.of_same s04)
            refine ⟨_, rfl, _, rfl, g, _, _, _, rfl, rfl, SqL.of (s04 _ _ hg), at_of (j := i) rfl hv, tt, _, _, _, rfl, rfl, SqT.of h1, at_of (j := 0) rfl rfl, ?_⟩
            refine ⟨_, rfl, g, G, r0, G', rfl, eG, hG.up (Up.of_same s04), good, hlen, fun p H5 L s5 np hp lenL n4L rea => ?_⟩
            rw [drop_get2 hr2, fb_cons, p3_of rea] at efb3
            refine ⟨p, _, rfl, .inl (SqL.of hp), rfl, flat_strs L, _, rfl, ?_⟩
            show (if (!inV (V.str r.1) (L.map V.str)) = true then _ else _)
            rw [inV_strs]
            by_cases m : r.1 ∈ L
            · rw [decide_eq_true m] at efb3 ⊢
              exact iteF ⟨_, rfl, s4.trans s5, efb3⟩
            · rw [decide_eq_false m] at efb3 ⊢
              have e3 : fb (p3 G r0.1) 0 G = some i := efb3
              exact iteT ⟨_, rfl, (by show 2 ≤ sizeLine; decide), fun t nt => ret (s04.trans s5) nt (by unfold faultOf; rw [e1]; simp only; rw [e2]; simp only; rw [e3])⟩
          · rintro σ H4 ⟨v3, rfl, s4, efb3⟩
            rw [List.drop_length] at efb3
            have e3 : fb (p3 G r0.1) 0 G = none := efb3
            refine q _ _ (s03.trans s4) ?_
            have : faultOf G ks r0.1 = none := by unfold faultOf; rw [e1]; simp only; rw [e2]; simp only; rw [e3]
            rw [this]
            exact .non
theorem scLt : FnScope ["grammar", "kinds", "e"] ["grammar", "kinds"] (defScope sLTold) := ⟨rfl, rfl, rfl, by decide +kernel, rfl, by decide +kernel, by decide +kernel⟩
def spLTold (K : PySem.W.Frag) (T1 T2 : Addr) : Sp := fun vs H Q _ => ∃ (g kd : Addr) (G : List Rule) (r0 : Rule) (G' : List Rule) (ks : List Str), vs = [.ref g, .ref kd] ∧ G = r0 :: G' ∧ GraA H g G ∧ (∀ r ∈ G, GoodW r) ∧ G.length ≤ 12 ∧ H kd = some (.lst (ks.map V.str)) ∧ ks.length ≤ 10 ∧ Tb T1 T2 H ∧
  ∀ v H2, Up H H2 → Tb T1 T2 H2 → Dp K H2 v (faultD (faultOf G ks r0.1)) → Q v H2
structure Takers (K : PySem.W.Frag) (cB cT cL : Addr) : Prop where
  bb : PySem.W.exmOne K (.ref cB) (.ref cB) = some true
  tb : PySem.W.exmOne K (.ref cT) (.ref cB) = some false
  tt : PySem.W.exmOne K (.ref cT) (.ref cT) = some true
  lb : PySem.W.exmOne K (.ref cL) (.ref cB) = some false
  lt : PySem.W.exmOne K (.ref cL) (.ref cT) = some false
  ll : PySem.W.exmOne K (.ref cL) (.ref cL) = some true
theorem xf_of {C fI : Addr} (T : ErrC K C fI) : XfC K C := ⟨T.exc.hg, T.exc.hk, T.exc.hs, T.exc.hd⟩
theorem ok_ltold {f fC fI T1 T2 cM cU cN cR : Addr} {fd fdC : FuncData} (F : Fun K "_law_told" "_law_told" sLTold f fd)
    (GC : FnOk P w K mg base (L2.CX P w) 4 fC fdC ["grammar", "kinds"] (spCheck T1 T2 cU cN cR)) (kC : PySem.W.keepIn K (.ref fC) = true) (bC : Binds K fdC ["grammar", "kinds"] []) (gC : mg "check_grammar" = some (.ref fC))
    (EU : ErrC K cU fI) (EN : ErrC K cN fI) (ER : ErrC K cR fI) (gU : mg "UnknownSymbol" = some (.ref cU)) (gN : mg "NoRow" = some (.ref cN)) (gR : mg "NotReached" = some (.ref cR)) (gM : mg "MendError" = some (.ref cM)) (TK : Takers K cU cN cR) :
    FnOk P w K mg base CX0 5 f fd ["grammar", "kinds"] (spLTold K T1 T2) := by
  refine F.ok scLt (fun vs H Q E h => ?_) (fun cdv A outer s H vs Q E hr h => ?_)
  · obtain ⟨g, kd, G, r0, G', ks, rfl, _⟩ := h
    rfl
  · obtain ⟨g, kd, G, r0, G', ks, rfl, eG, hG, good, hlen, hkd, klen, tb, q⟩ := h
    refine ⟨_, pss_one (ps_try_cls rfl rfl scLt.nd takes0 (fun W pn xe tk _ => pss_one (ps_ret (pe_callS GC hr rfl gC kC bC (fun σ => passAt tk σ) (pa_cons (pv 0) (pa_cons (pv 1) pa_nil)))))
      (.cons (nm := some "e") (o := some 2) ⟨rfl, by decide, .inl gU⟩ ⟨rfl, rfl⟩ (fun a oe cls d pn hz hf => pss_one (ps_ret (pe_tup (pa_cons pe_str (pa_cons (pe_xf (xf_of EU) EU.noAt hz hf (pv 2)) pa_nil)))))
      (.cons (nm := some "e") (o := some 2) ⟨rfl, by decide, .inl gN⟩ ⟨rfl, rfl⟩ (fun a oe cls d pn hz hf => pss_one (ps_ret (pe_tup (pa_cons pe_str (pa_cons (pe_xf (xf_of EN) EN.noAt hz hf (pv 2)) pa_nil)))))
      (.cons (nm := some "e") (o := some 2) ⟨rfl, by decide, .inl gR⟩ ⟨rfl, rfl⟩ (fun a oe cls d pn hz hf => pss_one (ps_ret (pe_tup (pa_cons pe_str (pa_cons (pe_xf (xf_of ER) ER.noAt hz hf (pv 2)) pa_nil)))))
      (.cons (nm := none) (o := none) ⟨rfl, by decide, .inl gM⟩ True.intro (fun a oe cls d pn hz hf => pss_one (ps_ret (pe_tup (pa_cons pe_str (pa_cons pe_int pa_nil)))))
      .nil))))), ?_⟩
    have fin : ∀ {H2 : Hp} {t : Addr} {nm : Str} {k : Int}, Up H H2 → Tb T1 T2 H2 → H2 t = none → faultD (faultOf G ks r0.1) = .tuple [.str nm, .int k] → Q (.ref t) (upd H2 t (.tup [.str nm, .int k])) := fun {H2 t nm k} u2 t2 nt e => by
      refine q _ _ (u2.trans (Up.put H2 nt)) (t2.new nt) ?_
      rw [e]
      exact .tup (SqT.of upd_same) (.cons (.str _) (.cons (.int _) .nil))
    refine ⟨_, rfl, _, rfl, g, kd, G, r0, G', ks, rfl, eG, hG, good, hlen, hkd, klen, tb, fun k e d H2 u2 t2 hd => ?_, fun e1 k e d H2 u2 t2 hd => ?_, fun e1 e2 k e d H2 u2 t2 hd => ?_, fun e1 e2 e3 H2 u2 t2 => ?_⟩
    · refine ⟨true, TK.bb, fun _ a na => ?_, fun q => nomatch q⟩
      exact ⟨_, rfl, rfl, rfl, d, _, .int k, rfl, hd, rfl, (by show 2 ≤ sizeLine; decide), fun t nt => fin u2 t2 nt (by unfold faultOf; rw [e]; rfl)⟩
    · refine ⟨false, TK.tb, (fun q => nomatch q), fun _ => ⟨true, TK.tt, fun _ a na => ?_, fun q => nomatch q⟩⟩
      exact ⟨_, rfl, rfl, rfl, d, _, .int k, rfl, hd, rfl, (by show 2 ≤ sizeLine; decide), fun t nt => fin u2 t2 nt (by unfold faultOf; rw [e1]; simp only; rw [e]; rfl)⟩
    · refine ⟨false, TK.lb, (fun q => nomatch q), fun _ => ⟨false, TK.lt, (fun q => nomatch q), fun _ => ⟨true, TK.ll, fun _ a na => ?_, fun q => nomatch q⟩⟩⟩
      exact ⟨_, rfl, rfl, rfl, d, _, .int k, rfl, hd, rfl, (by show 2 ≤ sizeLine; decide), fun t nt => fin u2 t2 nt (by unfold faultOf; rw [e1]; simp only; rw [e2]; simp only; rw [e]; rfl)⟩
    · refine q _ _ u2 t2 ?_
      have : faultOf G ks r0.1 = none := by unfold faultOf; rw [e1]; simp only; rw [e2]; simp only; rw [e3]
      rw [this]
      exact .non
end
end Ld

set_option Elab.async false
set_option linter.all false
set_option maxRecDepth 100000
set_option maxHeartbeats 4000000
namespace Ld
open PySem PySem.Spec PyProof.Rows L2 Le TL Lt Lg
def lack (M : RM) (ss : List Str) : List Str := ss.filter fun s => decide (s ∈ N4) && (M s).isNone
theorem lack_more {M : RM} {ss : List Str} {i : Nat} {s : Str} (h : ss[i]? = some s) : lack M (ss.take (i + 1)) = lack M (ss.take i) ++ (if (decide (s ∈ N4) && (M s).isNone) = true then [s] else []) := by
  unfold lack
  rw [List.take_add_one, h, List.filter_append]
  congr 1
  by_cases e : (decide (s ∈ N4) && (M s).isNone) = true
  · simp only [e]
    simp [e]
  · rw [if_neg e]
    simp [e]
theorem lack_len (M : RM) (ss : List Str) : (lack M ss).length ≤ ss.length := List.length_filter_le _ _
theorem lack_join {M : RM} : ∀ {ss : List Str}, lack M ss = [] → ∃ J, joinM M ss = some J
  | [], _ => ⟨[], rfl⟩
  | s :: ss, h => by
    unfold lack at h
    rw [List.filter_cons] at h
    split at h
    · cases h
    · rename_i no
      obtain ⟨r, e⟩ := lack_join (M := M) (ss := ss) h
      by_cases hn : s ∈ N4
      · rw [decide_eq_true hn, Bool.true_and] at no
        cases em : M s with
        | none =>
          rw [em] at no
          exact (no rfl).elim
        | some p => exact ⟨_, joinM_mk ((if_pos hn).trans em) e⟩
      · exact ⟨_, joinM_mk (if_neg hn) e⟩
theorem lack_none {M : RM} {ss : List Str} (h : lack M ss ≠ []) : joinM M ss = none := by
  obtain ⟨s, hs⟩ := List.exists_mem_of_ne_nil _ h
  unfold lack at hs
  rw [List.mem_filter, Bool.and_eq_true, decide_eq_true_eq, Option.isNone_iff_eq_none] at hs
  exact joinM_none hs.1 hs.2.1 hs.2.2
def BestV (H : Hp) (v : V) (b : Option (List Str)) : Prop := match b with
  | none => v = .non
  | some r => ∃ a, v = .ref a ∧ H a = some (.lst (r.map V.str))
theorem BestV.same {A B : Hp} (s : Same A B) {v : V} {b : Option (List Str)} (h : BestV A v b) : BestV B v b := by
  cases b with
  | none => exact h
  | some r =>
    obtain ⟨a, e, l⟩ := h
    exact ⟨a, e, s _ _ l⟩
theorem upB_none {M : RM} {n : Str} {b : Option (List Str)} {r : Rule} (en : r.1 = n) (e : joinM M r.2 = none) : upB M n b r = b := by
  unfold upB
  rw [if_pos en]
  simp only [e]
theorem upB_first {M : RM} {n : Str} {r : Rule} {J : List Str} (en : r.1 = n) (e : joinM M r.2 = some J) : upB M n none r = some J := by
  unfold upB
  rw [if_pos en]
  simp only [e]
theorem upB_two {M : RM} {n : Str} {r : Rule} {J b : List Str} (en : r.1 = n) (e : joinM M r.2 = some J) : upB M n (some b) r = if val J < val b then some J else some b := by
  unfold upB
  rw [if_pos en]
  simp only [e]
theorem kr_fold {G : List Rule} {M : RM} {n : Str} {i : Nat} {b : List Str} (good : ∀ r ∈ G, GoodW r) (sd : SoundM G M) (h : (G.take i).foldl (upB M n) (M n) = some b) : KR b := by
  rcases fold_from (G.take i) (M n) h with z | ⟨ss, m, z⟩
  · exact dv_kr good (sd _ _ z).1
  · have m2 := List.mem_of_mem_take m
    exact dv_kr good (joinM_dv sd z) (good _ m2).2.2
theorem fold_upB {G : List Rule} {M : RM} {n : Str} {i : Nat} {r : Rule} (h : G[i]? = some r) : (G.take (i + 1)).foldl (upB M n) (M n) = upB M n ((G.take i).foldl (upB M n) (M n)) r := by
  rw [List.take_add_one, h, List.foldl_append]
  rfl
section
variable {P : Program} {w : World} {K : PySem.W.Frag} {mg : Str → Option Value} {base : Heap}
theorem scBe : FnScope ["grammar", "rows", "name", "best", "other", "symbols", "row", "symbol", "s"] ["grammar", "rows", "name"] (defScope sLBest) := ⟨rfl, rfl, rfl, by decide +kernel, rfl, by decide +kernel, by decide +kernel⟩
def spBest : Sp := fun vs H Q _ => ∃ (g d : Addr) (G : List Rule) (kvs : List (Key × V)) (M : RM) (n : Str), vs = [.ref g, .ref d, .str n] ∧ GraA H g G ∧ (∀ r ∈ G, GoodW r) ∧ G.length ≤ 12 ∧ H d = some (.dK kvs) ∧ RowsK H kvs M ∧ SoundM G M ∧
  ∀ v H2, Same H H2 → BestV H2 v (lawB G M n) → Q v H2
theorem ok_best {f : Addr} {fd : FuncData} (F : Fun K "_law_best" "_law_best" sLBest f fd) (ml : mg "len" = none) : FnOk P w K mg base CX0 1 f fd ["grammar", "rows", "name"] spBest := by
  refine F.ok scBe (fun vs H Q E h => ?_) (fun cdv A outer s H vs Q E hr h => ?_)
  · obtain ⟨g, d, G, kvs, M, n, rfl, _⟩ := h
    rfl
  · obtain ⟨g, d, G, kvs, M, n, rfl, hG, good, hlen, hd, rows, sd, q⟩ := h
    have hu := units1 hr
    refine ⟨_, pss_cons (ps_set (i := 3) scBe.nd rfl (.inl rfl) (pe_dget1 hu (pv 1) (pv 2) ⟨rfl, rfl, rfl, rfl⟩))
      (pss_cons (ps_for PassesOwn.never rfl (pi_list (pv 0)) (pg_tup rfl (pgs_cons (pg_name (i := 4) scBe.nd rfl (Or.inl rfl)) (pgs_cons (pg_name (i := 5) scBe.nd rfl (Or.inl rfl)) pgs_nil)))
        (pss_one (ps_if (PW.pt (pw_and (pt_cmpR op_eq (pv 4) (pv 2) (nomark _)) (pw_and1 (pt_cmpR op_eq (pe_callB call_len_seq (by rfl) ml PySem.boot_len (pa_cons
            (pe_lc (own := [("s", 8)]) (g := gName 8) rfl scBe.nd (pi_list (pv 5)) (blkOk_by (N := ["grammar", "rows", "name", "best", "other", "symbols", "row", "symbol", "s"]) (sc := defScope sLBest) (by decide +kernel)) (fun _ _ _ _ _ => pg_name (i := 8) scBe.nd rfl (Or.inl rfl))
              (fun _ _ _ _ _ => pts_one (t := tAnd (tB (tM0 (fun x xs H Q => ∃ a, x = .str a ∧ xs = [] ∧ True ∧ Q (.bl (Txt.islower a)) H) (tVar 8))) (tB (tDNotIn (tVar 8) (tVar 1)))) (PW.pt (pw_and (pt_val (pe_m0 PySem.F.slot_str_islower PySem.F.type_str_islower mt_islower (pv 8))) (pw_and1 (pt_cmp (pc_dnotin hu (pv 8) (pv 1))))))) (fun _ _ _ _ _ => pv 8)) pa_nil)) pe_int (nomark _)))))
          (pss_cons (ps_set (i := 6) scBe.nd rfl (.inl rfl) (pe_lst pa_nil))
          (pss_cons (ps_for PassesOwn.never rfl (pi_list (pv 5)) (pg_name (i := 7) scBe.nd rfl (.inl rfl))
            (pss_one (ps_set (i := 6) scBe.nd rfl (.inl rfl) (pe_op op_cat (pv 6) (pe_dget2 hu (pv 1) (pv 7) (pe_lst (pa_cons (pv 7) pa_nil)) ⟨rfl, rfl, rfl, rfl⟩)))))
          (pss_one (ps_if (PW.pt (pw_or (pt_cmpR op_isN (pv 3) pe_non (nomark _)) (pw_or1 (pt_cmpR (op_ltD (units65 hr)) (pe_tup (pa_cons (pe_callB call_len_seq (by rfl) ml PySem.boot_len (pa_cons (pv 6) pa_nil)) (pa_cons (pv 6) pa_nil))) (pe_tup (pa_cons (pe_callB call_len_seq (by rfl) ml PySem.boot_len (pa_cons (pv 3) pa_nil)) (pa_cons (pv 3) pa_nil))) (nomark _)))))
            (pss_one (ps_set (i := 3) scBe.nd rfl (.inl rfl) (pv 6))) pss_nil)))) pss_nil)))
      (pss_one (ps_ret (pv 3)))), ?_⟩
    obtain ⟨vs, hg, gr⟩ := id hG
    have b0 : BestV H (((valV kvs (Sum.inr n)).getD V.non)) (M n) := by
      have at_ := rows.at_ n
      cases em : M n with
      | none =>
        rw [em] at at_
        rw [show valV kvs (Sum.inr n) = none from at_]
        rfl
      | some r =>
        rw [em] at at_
        obtain ⟨a, ea, hla⟩ := at_
        rw [ea]
        exact ⟨a, rfl, hla⟩
    refine ⟨_, rfl, d, rfl, .inl ⟨kvs, .inl hd⟩, _, rfl, _, DGet.k (k := Sum.inr n) hd, ?_⟩
    refine ⟨_, rfl, g, rfl, ⟨_, SqL.of hg⟩, for_list (a := g) (xs := vs) (fun i σ H' => ∃ (v4 v5 v6 v7 : Option V) (bv : V), σ = [some (.ref g), some (.ref d), some (.str n), some bv, v4, v5, v6, v7, none] ∧ Same H H' ∧ BestV H' bv ((G.take i).foldl (upB M n) (M n)))
      ⟨none, none, none, none, _, rfl, Same.refl H, b0⟩ (fun i σ H2 _ ⟨_, _, _, _, _, _, s, _⟩ => SqL.of (s _ _ hg)) ?_ ?_⟩
    · rintro i x σ H2 hx ⟨v4, v5, v6, v7, bv, rfl, s2, best⟩
      obtain ⟨r, hr2, ra⟩ := gr.get hx
      have rm := List.mem_of_getElem? hr2
      have gw := good r rm
      obtain ⟨tt, l, rfl, h1, h2⟩ := ra.up (Up.of_same s2)
      have ef := fold_upB (M := M) (n := n) hr2
      have keep : ∀ {H9 : Hp} {w4 w5 w6 w7 : Option V}, Same H2 H9 → upB M n ((G.take i).foldl (upB M n) (M n)) r = (G.take i).foldl (upB M n) (M n) → ∃ (v4 v5 v6 v7 : Option V) (bv2 : V), [some (V.ref g), some (.ref d), some (.str n), some bv, w4, w5, w6, w7, none] = [some (.ref g), some (.ref d), some (.str n), some bv2, v4, v5, v6, v7, none] ∧ Same H H9 ∧ BestV H9 bv2 ((G.take (i + 1)).foldl (upB M n) (M n)) := fun {H9 w4 w5 w6 w7} s9 e => by
        rw [ef, e]
        exact ⟨w4, w5, w6, w7, bv, rfl, s2.trans s9, best.same s9⟩
      have set_ : ∀ {H9 : Hp} {w4 w5 w6 w7 : Option V} {p : Addr} {J : List Str}, Same H2 H9 → H9 p = some (.lst (J.map V.str)) → upB M n ((G.take i).foldl (upB M n) (M n)) r = some J → ∃ (v4 v5 v6 v7 : Option V) (bv2 : V), [some (V.ref g), some (.ref d), some (.str n), some (.ref p), w4, w5, w6, w7, none] = [some (.ref g), some (.ref d), some (.str n), some bv2, v4, v5, v6, v7, none] ∧ Same H H9 ∧ BestV H9 bv2 ((G.take (i + 1)).foldl (upB M n) (M n)) := fun {H9 w4 w5 w6 w7 p J} s9 hp e => by
        rw [ef, e]
        exact ⟨w4, w5, w6, w7, _, rfl, s2.trans s9, p, rfl, hp⟩
      refine ⟨tt, _, rfl, SqT.of h1, rfl, _, _, rfl, _, _, rfl, rfl, ?_⟩
      refine ⟨_, rfl, _, rfl, rfl, _, rfl, ?_⟩
      by_cases en : r.1 = n
      · have row2 := rows.same s2
        have hd2 := s2 _ _ hd
        refine iteTd (show V.str r.1 = V.str n from by rw [en]) ⟨_, rfl, l, rfl, ⟨_, SqL.of h2⟩, fun B hB => lc_list (a := l) (xs := r.2.map V.str) (fun j H5 => H5 = upd H2 B (.lst ((lack M (r.2.take j)).map V.str))) rfl ?_ ?_ ?_⟩
        · rintro j H5 _ rfl
          exact SqL.of ((same_upd hB) _ _ h2)
        · rintro j x H5 hx rfl
          obtain ⟨sy, hsy, rfl⟩ : ∃ sy, r.2[j]? = some sy ∧ x = V.str sy := by
            rw [List.getElem?_map] at hx
            cases e : r.2[j]? with
            | none =>
              rw [e] at hx
              cases hx
            | some sy =>
              rw [e] at hx
              exact ⟨sy, rfl, (Option.some.inj hx).symm⟩
          have kind := gw.2.2 sy (List.mem_of_getElem? hsy)
          have em := lack_more (M := M) hsy
          have lm : ((lack M (r.2.take j)).map V.str).length < sizeLine := by
            rw [List.length_map]
            have h1 := lack_len M (r.2.take j)
            have h2 := List.length_take_le' j r.2
            have h3 := gw.2.1
            exact Nat.lt_of_le_of_lt (by omega : _ ≤ 6) (by decide)
          refine ⟨rfl, _, rfl, ⟨_, rfl⟩, sy, rfl, rfl, trivial, _, rfl, ?_⟩
          rw [lower_is kind]
          by_cases hn : sy ∈ N4
          · rw [decide_eq_true hn] at em ⊢
            refine iteT ⟨_, rfl, _, rfl, d, _, rfl, DGet.k (k := Sum.inr sy) ((same_upd hB) _ _ hd2), _, rfl, ?_⟩
            have at_ := row2.at_ sy
            cases ec : M sy with
            | none =>
              rw [ec] at at_ em
              rw [show valV kvs (Sum.inr sy) = none from at_]
              refine iteT ⟨_, rfl, _, upd_same, lm, ?_⟩
              rw [upd_upd, em, List.map_append]
              rfl
            | some rr =>
              rw [ec] at at_ em
              obtain ⟨a, ea, hla⟩ := at_
              rw [ea]
              refine iteF ?_
              rw [em]
              simp
          · rw [decide_eq_false hn] at em ⊢
            refine iteF ?_
            rw [em]
            simp
        · rintro H5 rfl
          rw [List.length_map, List.take_length]
          have sB : Same H2 (upd H2 B (.lst ((lack M r.2).map V.str))) := same_upd hB
          have hBB : upd H2 B (.lst ((lack M r.2).map V.str)) B = some (.lst ((lack M r.2).map V.str)) := upd_same
          generalize upd H2 B (.lst ((lack M r.2).map V.str)) = H6 at sB hBB
          refine ⟨B, _, rfl, .inl (SqL.of hBB), rfl, _, rfl, ?_⟩
          by_cases em : lack M r.2 = []
          · obtain ⟨J0, ej0⟩ := lack_join em
            rw [em]
            refine iteTd rfl ⟨Nat.zero_le _, fun jl njl => ?_⟩
            have sJ : Same H6 (upd H6 jl (.lst [])) := same_upd njl
            refine ⟨_, rfl, l, rfl, ⟨_, SqL.of (sJ _ _ (sB _ _ h2))⟩, for_list (a := l) (xs := r.2.map V.str) (fun j σ H' => ∃ (v7 : Option V) (rl : Addr) (J : List Str), σ = [some (.ref g), some (.ref d), some (.str n), some bv, some (.str r.1), some (.ref l), some (.ref rl), v7, none] ∧ Same H6 H' ∧ H' rl = some (.lst (J.map V.str)) ∧ joinM M (r.2.take j) = some J ∧ J.length ≤ 60 * j)
              ⟨v7, jl, [], rfl, sJ, upd_same, rfl, Nat.zero_le _⟩ (fun j σ H3 _ ⟨_, _, _, _, s, _⟩ => SqL.of (s _ _ (sB _ _ h2))) ?_ ?_⟩
            · rintro j x σ H3 hx ⟨v7, rl, J, rfl, s3, hrl, ej, lj⟩
              obtain ⟨sy, hsy, rfl⟩ : ∃ sy, r.2[j]? = some sy ∧ x = V.str sy := by
                rw [List.getElem?_map] at hx
                cases e : r.2[j]? with
                | none =>
                  rw [e] at hx
                  cases hx
                | some sy =>
                  rw [e] at hx
                  exact ⟨sy, rfl, (Option.some.inj hx).symm⟩
              have mem := List.mem_of_getElem? hsy
              have li : j < r.2.length := (List.getElem?_eq_some_iff.mp hsy).1
              have g6 := gw.2.1
              have et : r.2.take (j + 1) = r.2.take j ++ [sy] := by rw [List.take_add_one, hsy]; rfl
              have hd3 := s3 _ _ (sB _ _ hd2)
              refine ⟨_, rfl, _, rfl, d, rfl, .inl ⟨_, .inl hd3⟩, _, rfl, _, rfl, (by show 1 ≤ sizeLine; decide), fun q1 nq1 => ?_⟩
              have sq : Same H3 (upd H3 q1 (.lst [V.str sy])) := same_upd nq1
              have at_ := (row2.same ((sB.trans s3).trans sq)).at_ sy
              refine ⟨_, DGet.k (k := Sum.inr sy) (sq _ _ hd3), ?_⟩
              cases ec : M sy with
              | none =>
                rw [ec] at at_
                rw [show valV kvs (Sum.inr sy) = none from at_]
                have hn : sy ∉ N4 := fun z => by
                  rw [joinM_none mem z ec] at ej0
                  cases ej0
                refine ⟨rl, q1, _, _, rfl, rfl, sq _ _ hrl, upd_same, ?_, fun p np => ?_⟩
                · rw [List.length_map]
                  exact million0 (by show J.length + 1 ≤ _; omega)
                · refine ⟨_, p, J ++ [sy], rfl, (s3.trans sq).trans (same_upd np), ?_, ?_, ?_⟩
                  · rw [upd_same, List.map_append]
                    rfl
                  · rw [et]
                    exact joinM_snoc (if_neg hn) ej
                  · rw [List.length_append, List.length_singleton]
                    omega
              | some rr =>
                rw [ec] at at_
                obtain ⟨a, ea, hla⟩ := at_
                rw [ea]
                obtain ⟨dv, lr⟩ := sd _ _ ec
                have hn : sy ∈ N4 := by
                  obtain ⟨r', hr', e⟩ := List.mem_map.mp (dv_name dv)
                  rw [← e]
                  exact (good r' hr').1
                refine ⟨rl, a, _, _, rfl, rfl, sq _ _ hrl, hla, ?_, fun p np => ?_⟩
                · rw [List.length_map, List.length_map]
                  exact million0 (by omega)
                · refine ⟨_, p, J ++ rr, rfl, (s3.trans sq).trans (same_upd np), ?_, ?_, ?_⟩
                  · rw [upd_same, List.map_append]
                  · rw [et]
                    exact joinM_snoc ((if_pos hn).trans ec) ej
                  · rw [List.length_append]
                    omega
            · rintro σ H3 ⟨v7, rl, J, rfl, s3, hrl, ej, lj⟩
              rw [List.length_map, List.take_length] at ej
              have s23 := sB.trans s3
              have kJ : KR J := dv_kr good (joinM_dv sd ej) gw.2.2
              refine ⟨_, rfl, rfl, _, rfl, ?_⟩
              cases eb : (G.take i).foldl (upB M n) (M n) with
              | none =>
                rw [eb] at best
                refine iteTd best ⟨_, rfl, set_ s23 hrl ?_⟩
                rw [eb]
                exact upB_first en ej
              | some b =>
                rw [eb] at best
                have kb := kr_fold good sd eb
                obtain ⟨a, ebv, hla⟩ := best.same s23
                refine iteFd (fun z => by rw [ebv] at z; cases z) ?_
                refine ⟨_, rfl, rl, _, rfl, .inl (SqL.of hrl), _, rfl, (by show 2 ≤ sizeLine; decide), fun t1 n1 => ?_⟩
                have s4 : Same H3 (upd H3 t1 (.tup [.int ((J.map V.str).length : Nat), .ref rl])) := same_upd n1
                refine ⟨_, rfl, a, _, by rw [ebv], .inl (SqL.of (s4 _ _ hla)), _, rfl, (by show 2 ≤ sizeLine; decide), fun t2 n2 => ?_⟩
                have s5 := s4.trans (same_upd n2 (o := .tup [.int ((b.map V.str).length : Nat), bv]))
                have e1 : ∀ {B : Hp}, B t1 = some (.tup [.int ((J.map V.str).length : Nat), .ref rl]) → B rl = some (.lst (J.map V.str)) → Dp K B (.ref t1) (pairD J) := fun {B} h1 h2 => by
                  rw [List.length_map] at h1
                  exact .tup (SqT.of h1) (.cons (.int _) (.cons (.lst (SqL.of h2) (dp_strs _)) .nil))
                have e2 : ∀ {B : Hp}, B t2 = some (.tup [.int ((b.map V.str).length : Nat), bv]) → B a = some (.lst (b.map V.str)) → Dp K B (.ref t2) (pairD b) := fun {B} h1 h2 => by
                  rw [List.length_map, ebv] at h1
                  exact .tup (SqT.of h1) (.cons (.int _) (.cons (.lst (SqL.of h2) (dp_strs _)) .nil))
                refine ⟨pairD J, pairD b, e1 ((same_upd n2) _ _ upd_same) (s5 _ _ hrl), e2 upd_same (s5 _ _ hla), pair_alike J b, (fun z => by cases z), pair_depth J, _, rfl, ?_⟩
                rw [pair_lt kJ kb]
                have s25 := s23.trans s5
                by_cases lt : val J < val b
                · refine iteTd lt ⟨_, rfl, set_ s25 (s5 _ _ hrl) ?_⟩
                  rw [eb, upB_two en ej, if_pos lt]
                · refine iteFd lt (keep s25 ?_)
                  rw [eb, upB_two en ej, if_neg lt]
          · refine iteFd ?_ (keep sB ?_)
            · intro z
              have z2 := V.int.inj z
              rw [List.length_map] at z2
              have := List.length_pos_iff.mpr em
              omega
            · exact upB_none en (lack_none em)
      · refine iteFd (show ¬ V.str r.1 = V.str n from fun z => en (V.str.inj z)) (keep (Same.refl H2) ?_)
        unfold upB
        rw [if_neg en]
    · rintro σ H2 ⟨v4, v5, v6, v7, bv, rfl, s2, best⟩
      rw [gr.len, List.take_length] at best
      exact ⟨_, rfl, q _ _ s2 best⟩
end
end Ld

set_option Elab.async false
set_option linter.all false
set_option maxRecDepth 100000
set_option maxHeartbeats 4000000
namespace Ld
open PySem PySem.Spec PyProof.Rows L2 Le TL Lt Lg
theorem putLists {A : Hp} {d : Addr} {kvs kv2 : List (Key × V)} (hd : A d = some (.dK kvs)) : ∀ a xs, A a = some (.lst xs) → upd A d (.dK kv2) a = some (.lst xs) := fun a xs h => by
  have ne : a ≠ d := fun z => by rw [z, hd] at h; cases h
  rw [upd_ne ne]
  exact h
def foundAt (G : List Rule) (M : RM) (i : Nat) : RM := fun m => if m ∈ (G.take i).map (·.1) then short (lawB G M m) else none
theorem found_0 {G : List Rule} {M : RM} : foundAt G M 0 = fun _ => none := funext fun m => by
  unfold foundAt
  rw [List.take_zero]
  exact if_neg (fun z => nomatch z)
theorem found_step {G : List Rule} {M : RM} {i : Nat} {r : Rule} (h : G[i]? = some r) (m : Str) : foundAt G M (i + 1) m = if m = r.1 then short (lawB G M r.1) else foundAt G M i m := by
  have et : (G.take (i + 1)).map (·.1) = (G.take i).map (·.1) ++ [r.1] := by rw [List.take_add_one, h, List.map_append]; rfl
  unfold foundAt
  rw [et]
  by_cases e : m = r.1
  · rw [if_pos e, if_pos (by rw [e]; simp), e]
  · rw [if_neg e]
    by_cases c : m ∈ (G.take i).map (·.1)
    · rw [if_pos c, if_pos (List.mem_append_left _ c)]
    · rw [if_neg c, if_neg (fun z => (List.mem_append.mp z).elim c fun z => e (List.mem_singleton.mp z))]
theorem found_same {G : List Rule} {M : RM} {i : Nat} {r : Rule} (h : G[i]? = some r) (e : short (lawB G M r.1) = none) : foundAt G M (i + 1) = foundAt G M i := funext fun m => by
  rw [found_step h]
  by_cases c : m = r.1
  · rw [if_pos c, e, c]
    unfold foundAt
    split
    · exact e.symm
    · rfl
  · rw [if_neg c]
theorem found_put {G : List Rule} {M : RM} {i : Nat} {r : Rule} {J : List Str} (h : G[i]? = some r) (e : short (lawB G M r.1) = some J) : foundAt G M (i + 1) = putM (foundAt G M i) r.1 J := funext fun m => by
  rw [found_step h, e]
  rfl
theorem found_all {G : List Rule} {M : RM} : foundAt G M G.length = lawStep G M := funext fun m => by
  unfold foundAt lawStep
  rw [List.take_length]
section
variable {P : Program} {w : World} {K : PySem.W.Frag} {mg : Str → Option Value} {base : Heap}
theorem scLR : FnScope ["grammar", "rows", "turn", "found", "name", "symbols", "best"] ["grammar"] (defScope sLRows) := ⟨rfl, rfl, rfl, by decide +kernel, rfl, by decide +kernel, by decide +kernel⟩
def spLRows : Sp := fun vs H Q _ => ∃ (g : Addr) (G : List Rule), vs = [.ref g] ∧ GraA H g G ∧ (∀ r ∈ G, GoodW r) ∧ G.length ≤ 12 ∧
  ∀ d H2 kvs M, Same H H2 → H d = none → H2 d = some (.dK kvs) → RowsK H2 kvs M → LeastM G M → Q (.ref d) H2
theorem ok_lrows {f fB : Addr} {fd fdB : FuncData} (F : Fun K "_law_rows" "_law_rows" sLRows f fd)
    (GB : FnOk P w K mg base CX0 1 fB fdB ["grammar", "rows", "name"] spBest) (kB : PySem.W.keepIn K (.ref fB) = true) (bB : Binds K fdB ["grammar", "rows", "name"] []) (gB : mg "_law_best" = some (.ref fB))
    (mr : mg "range" = none) (ml : mg "len" = none) : FnOk P w K mg base CX0 2 f fd ["grammar"] spLRows := by
  refine F.ok scLR (fun vs H Q E h => ?_) (fun cdv A outer s H vs Q E hr h => ?_)
  · obtain ⟨g, G, rfl, _⟩ := h
    rfl
  · obtain ⟨g, G, rfl, hG, good, hlen, q⟩ := h
    have hu := units1 hr
    refine ⟨_, pss_cons (ps_set (i := 1) scLR.nd rfl (.inl rfl) pe_dnewK)
      (pss_cons (ps_for PassesOwn.never rfl (pi_range1 rfl mr (pa_cons pe_int pa_nil)) (pg_name (i := 2) scLR.nd rfl (.inl rfl))
        (pss_cons (ps_set (i := 3) scLR.nd rfl (.inl rfl) pe_dnewK)
        (pss_cons (ps_for PassesOwn.never rfl (pi_list (pv 0)) (pg_tup rfl (pgs_cons (pg_name (i := 4) scLR.nd rfl (Or.inl rfl)) (pgs_cons (pg_name (i := 5) scLR.nd rfl (Or.inl rfl)) pgs_nil)))
          (pss_cons (ps_set (i := 6) scLR.nd rfl (.inl rfl) (pe_call GB hr (by rfl) gB kB bB .nil pass0 (pa_cons (pv 0) (pa_cons (pv 1) (pa_cons (pv 4) pa_nil)))))
          (pss_one (ps_if (PW.pt (pw_and (pt_cmpR op_notN (pv 6) pe_non (nomark _)) (pw_and1 (pt_cmpR op_le (pe_callB call_len_seq (by rfl) ml PySem.boot_len (pa_cons (pv 6) pa_nil)) pe_int (nomark _)))))
            (pss_one (ps_dput hu (pv 3) (pv 4) (pv 6) rfl)) pss_nil))))
        (pss_one (ps_set (i := 1) scLR.nd rfl (.inl rfl) (pv 3))))))
      (pss_one (ps_ret (pv 1)))), ?_⟩
    obtain ⟨vs, hg, gr⟩ := id hG
    refine fun d0 nd0 => ?_
    refine ⟨_, rfl, by decide, by decide, for_range (lo := 0) (n := 20) (fun t σ H' => ∃ (v2 v3 v4 v5 v6 : Option V) (dd : Addr) (kvs : List (Key × V)), σ = [some (.ref g), some (.ref dd), v2, v3, v4, v5, v6] ∧ Same H H' ∧ H dd = none ∧ H' dd = some (.dK kvs) ∧ RowsK H' kvs (lawIter G t))
      ⟨none, none, none, none, none, d0, [], rfl, same_upd nd0, nd0, upd_same, RowsK.nil _⟩ ?_ ?_⟩
    · rintro t σ H1 ht ⟨v2, v3, v4, v5, v6, dd, kvs, rfl, s1, ndd, hd1, rows⟩
      refine fun ff nff => ?_
      have sf : Same H1 (upd H1 ff (.dK [])) := same_upd nff
      refine ⟨_, rfl, g, rfl, ⟨_, SqL.of (sf _ _ (s1 _ _ hg))⟩, for_list (a := g) (xs := vs) (fun i σ H2 => ∃ (v2 v4 v5 v6 : Option V) (kv2 : List (Key × V)), σ = [some (.ref g), some (.ref dd), v2, some (.ref ff), v4, v5, v6] ∧ Same H1 H2 ∧ H2 ff = some (.dK kv2) ∧ RowsK H2 kv2 (foundAt G (lawIter G t) i))
        ⟨_, v4, v5, v6, [], rfl, sf, upd_same, by rw [found_0]; exact RowsK.nil _⟩ (fun i σ H2 _ ⟨_, _, _, _, _, _, s, _⟩ => SqL.of (s _ _ (s1 _ _ hg))) ?_ ?_⟩
      · rintro i x σ H2 hx ⟨v2, v4, v5, v6, kv2, rfl, s2, hf2, rows2⟩
        obtain ⟨r, hr2, ra⟩ := gr.get hx
        have rm := List.mem_of_getElem? hr2
        have gw := good r rm
        have s02 := s1.trans s2
        obtain ⟨tt, l, rfl, h1, h2⟩ := ra.up (Up.of_same s02)
        refine ⟨tt, _, rfl, SqT.of h1, rfl, _, _, rfl, _, _, rfl, rfl, ?_⟩
        refine ⟨_, rfl, _, rfl, _, rfl, g, dd, G, kvs, lawIter G t, r.1, rfl, hG.up (Up.of_same s02), good, hlen, s2 _ _ hd1, rows.same s2, iter_sound G t, fun v H3 s3 best => ?_⟩
        refine ⟨_, rfl, rfl, _, rfl, ?_⟩
        have keep : short (lawB G (lawIter G t) r.1) = none → ∃ (w2 w4 w5 w6 : Option V) (kv3 : List (Key × V)), [some (V.ref g), some (.ref dd), v2, some (.ref ff), some (.str r.1), some (.ref l), some v] = [some (V.ref g), some (.ref dd), w2, some (.ref ff), w4, w5, w6] ∧ Same H1 H3 ∧ H3 ff = some (.dK kv3) ∧ RowsK H3 kv3 (foundAt G (lawIter G t) (i + 1)) := fun e =>
          ⟨v2, _, _, _, kv2, rfl, s2.trans s3, s3 _ _ hf2, by rw [found_same hr2 e]; exact rows2.same s3⟩
        cases eb : lawB G (lawIter G t) r.1 with
        | none =>
          rw [eb] at best keep
          rw [show v = .non from best, decide_eq_true (rfl : V.non = V.non)]
          rw [show v = .non from best] at keep
          exact iteF (keep rfl)
        | some b =>
          rw [eb] at best
          obtain ⟨a, rfl, hla⟩ := best
          have nn : ¬ (V.ref a = V.non) := fun z => by cases z
          rw [decide_eq_false nn]
          refine iteT ⟨_, rfl, a, _, rfl, .inl (SqL.of hla), _, _, rfl, rfl, _, rfl, ?_⟩
          by_cases l60 : b.length ≤ 60
          · have es : short (lawB G (lawIter G t) r.1) = some b := by
              rw [eb]
              exact if_pos l60
            refine iteTd (show ((b.map V.str).length : Int) ≤ 60 by rw [List.length_map]; omega) ?_
            have small := (rows2.same s3).len
            have hf3 := s3 _ _ hf2
            refine ⟨_, rfl, _, rfl, _, rfl, ff, _, rfl, DPut.k (k := Sum.inr r.1) hf3 (Nat.lt_of_le_of_lt small (by decide)), v2, _, _, _, putK kv2 (Sum.inr r.1) (.ref a), rfl, same_put (s2.trans s3) nff, upd_same, ?_⟩
            rw [found_put hr2 es]
            have r3 := (rows2.same s3).lists (putLists (kv2 := putK kv2 (Sum.inr r.1) (.ref a)) hf3)
            exact r3.put gw.1 (putLists hf3 _ _ hla)
          · refine iteFd (fun z => ?_) (keep ?_)
            · rw [List.length_map] at z
              omega
            · rw [eb]
              exact if_neg l60
      · rintro σ H2 ⟨v2, v4, v5, v6, kv2, rfl, s2, hf2, rows2⟩
        rw [gr.len, found_all] at rows2
        exact ⟨_, rfl, v2, some (.ref ff), v4, v5, v6, ff, kv2, rfl, s1.trans s2, s1.free nff, hf2, rows2⟩
    · rintro σ H2 ⟨v2, v3, v4, v5, v6, dd, kvs, rfl, s2, ndd, hd2, rows⟩
      exact ⟨_, rfl, q dd H2 kvs _ s2 ndd hd2 rows (iter_least good)⟩
end
end Ld

set_option Elab.async false
set_option linter.all false
set_option maxRecDepth 100000
set_option maxHeartbeats 4000000
/-! a != b of two dicts that are equal, their values lists. -/
namespace PySem.W
open PySem PySem.Spec PyProof.Rows
section
variable {K : Type} [DecidableEq K] {prog : Program} {w : World} {A : Around} {E : Value → Shared → Prop} {s : Shared} {knd : KeyKind prog w K}
theorem rcP_dictsNe {a b : Addr} {ka kb : List (K × Value)} {r : Bool} {Q : Value → Shared → Prop} (ha : (a == sysModules) = false) (hb : (b == sysModules) = false)
    (da : s.heap.DictOf knd a ka) (db : s.heap.DictOf knd b kb) (hu : A.units < cLine) (hits : ka.length = kb.length → KeqHitsP prog w A.in1 s kb ka r) (h : Q (.bool (!(ka.length == kb.length && r))) s) : wpAny (model prog w) A (compareOp .NotEq (.ref a) (.ref b)) Q E s := by
  refine wpAny_richCompare_same_room (op := .NotEq) da.typeIs db.typeIs PySem.F.slot_dict_ne (wpAny_call_entry PySem.F.slot_dict_ne da.typeIs PySem.F.entry_dict_ne ?_ (PySem.F.args_dict_ne_2 _ _)) hu
  show wpAny _ _ (Builtin.Dict.dictSlotArgs "__ne__" ⟨[.ref a, .ref b], []⟩ >>= _) _ _ s
  refine wpAny_bind ?_
  unfold Builtin.Dict.dictSlotArgs
  refine wpAny_bind (wpAny_notOrdered_dict da.typeIs ?_)
  show wpAny _ _ (pure (Value.ref a, Value.ref b)) _ _ s
  refine wpAny_pure ?_
  refine wpAny_bind (wpAny_isInstance (T := "dict") db.typeIs PySem.F.sub_dict_dict ?_)
  simp only [Bool.not_true, Bool.false_eq_true, if_false]
  refine wpAny_bind (wpAny_pure (wpAny_bind (wpAny_pure ?_)))
  refine wpAny_bind (samePairsP ha hb da db hits ?_)
  refine wpAny_pure ⟨_, rfl, ?_, ?_⟩
  · exact fun x => nomatch x
  · simpa using h
end
end PySem.W
namespace Ld
open PySem PySem.Spec PyProof.Rows L2
def rNeVD (K : PySem.W.Frag) : R2 := fun x y H Q => ∃ a b ks ls n, n ≤ 60 ∧ x = .ref a ∧ y = .ref b ∧ H a = some (.dK ks) ∧ H b = some (.dK ls) ∧ ks.length = ls.length ∧ (∀ p ∈ ks, ∃ u, valV ls p.1 = some u ∧ EqV K H n p.2 u) ∧ Q (.bl false) H
theorem op_neVD {X : Cx} (hu : X.A.units + 64 < cLine) : OpR X (compareOp .NotEq) (rNeVD X.K) := by
  intro pins s σ H x y v u Q I rx ry h
  obtain ⟨a, b, ks, ls, n, hn, rfl, rfl, ea, eb, hlen, hp, q⟩ := h
  obtain rfl : v = Value.ref a := rx
  obtain rfl : u = Value.ref b := ry
  obtain ⟨_, ya, va, ra, da⟩ := (show ObjOk X.prog X.w H s.heap a (.dK ks) from I.hok a _ ea)
  obtain ⟨_, yb, vb, rb, db⟩ := (show ObjOk X.prog X.w H s.heap b (.dK ls) from I.hok b _ eb)
  have hl : va.length = vb.length := by rw [← ra.length, ← rb.length]; exact hlen
  refine PySem.W.rcP_dictsNe (knd := mixKind X.prog X.w) (r := true) ya yb da db (by omega) (fun _ => hits_run (eqV_run I n X.A.in1 (by show X.A.units + 1 + n < cLine; omega)) rb ra hp) ?_
  rw [show (!(va.length == vb.length && true)) = false from by rw [hl]; simp]
  exact ⟨.bl false, H, I, rfl, q⟩
end Ld

set_option Elab.async false
set_option linter.all false
set_option maxRecDepth 100000
set_option maxHeartbeats 4000000
/-! How long a shown grammar is. -/
namespace Ld
open PySem PySem.Spec PyProof.Rows L2
theorem textFrom_up {B : Nat} : ∀ (ts : List Str) (k : Nat) (acc : Str), (∀ t ∈ ts, t.length ≤ B) → (textFrom k acc ts).length ≤ acc.length + (B + 2) * ts.length
  | [], _, _, _ => by
    show _ ≤ _
    rw [textFrom]
    omega
  | t :: ts, k, acc, h => by
    have ih := textFrom_up ts (k + 1) (acc ++ (if k > 0 then ", " else "" : String) ++ t) fun x hx => h x (List.mem_cons_of_mem _ hx)
    have e : (acc ++ (if k > 0 then ", " else "" : String) ++ t).length ≤ acc.length + 2 + t.length := by
      rw [strLen_append, strLen_append]
      have : ((if k > 0 then ", " else "" : String) : Str).length ≤ 2 := by
        split
        · exact Nat.le_refl 2
        · exact Nat.zero_le 2
      omega
    have := h t List.mem_cons_self
    rw [textFrom, List.length_cons, Nat.mul_succ]
    omega
theorem listText_up {B : Nat} {ts : List Str} (h : ∀ t ∈ ts, t.length ≤ B) : (listText ts).length ≤ (B + 2) * ts.length + 2 := by
  unfold listText
  have := textFrom_up ts 0 "[" h
  have e1 : ((("[" : String) : Str)).length = 1 := rfl
  have e2 : ((("]" : String) : Str)).length = 1 := rfl
  rw [strLen_append]
  omega
theorem tupleText_up {x y : Str} : (tupleText [x, y]).length ≤ x.length + y.length + 6 := by
  unfold tupleText
  have := join_length_add [x, y] (by simp)
  have p : piled [x, y] = x.length + y.length + 4 := by
    simp only [piled, List.map_cons, List.map_nil, List.sum_cons, List.sum_nil]
    omega
  have e1 : ((("(" : String) : Str)).length = 1 := rfl
  have e2 : (((if ([x, y] : List Str).length == 1 then ",)" else ")" : String) : Str)).length = 1 := rfl
  rw [strLen_append, strLen_append]
  omega
theorem shownAll_map {α : Type} (f : α → PyData) : ∀ xs : List α, PyData.shownAll (xs.map f) = xs.map fun x => (f x).shown
  | [] => rfl
  | x :: xs => by
    rw [List.map_cons, PyData.shownAll, shownAll_map f xs]
    rfl
theorem showAll_map {α : Type} (f : α → PyData) (h : ∀ x, (f x).showable = true) : ∀ xs : List α, PyData.showableAll (xs.map f) = true
  | [] => rfl
  | x :: xs => by
    rw [List.map_cons, PyData.showableAll, h x, showAll_map f h xs]
    rfl
theorem str_showable (s : Str) : (PyData.str s).showable = true := rfl
theorem strs_showable (xs : List Str) : (PyData.list (xs.map PyData.str)).showable = true := by
  rw [PyData.showable]
  exact showAll_map _ str_showable xs
theorem rule_showable (r : Rule) : (ruleD r).showable = true := by
  unfold ruleD
  rw [PyData.showable, PyData.showableAll, PyData.showableAll, PyData.showableAll, strs_showable]
  rfl
theorem gD_showable (G : List Rule) : (gD G).showable = true := by
  unfold gD
  rw [PyData.showable]
  exact showAll_map _ rule_showable G
theorem pairG_showable (G : List Rule) (ks : List Str) : (PyData.tuple [gD G, .list (ks.map PyData.str)]).showable = true := by
  rw [PyData.showable, PyData.showableAll, PyData.showableAll, PyData.showableAll, gD_showable, strs_showable]
  rfl
theorem wordB_le {z lo hi : Str} (h : wordB z lo hi = true) : z.length ≤ 12 := by
  unfold wordB at h
  rw [Bool.and_eq_true, Bool.and_eq_true] at h
  have := of_decide_eq_true h.2.1
  omega
theorem sym_le {z : Str} (h : symB z = true) : z.length ≤ 12 := by
  unfold symB at h
  rcases Bool.or_eq_true _ _ |>.mp h with k | k
  · unfold kindB at k
    rw [Bool.and_eq_true] at k
    exact wordB_le k.1
  · exact wordB_le k
theorem sym_shown {z : Str} (h : symB z = true) : (PyData.str z).shown.length ≤ 122 := by
  rw [PyData.shown]
  have h1 := StrLaws.reprText_len z fun c hc => by
    have := sym_codes h c hc
    have e : (16 : Nat) ^ 8 = 4294967296 := by decide
    omega
  have := sym_le h
  omega
theorem syms_shown {ss : List Str} (h : ∀ s ∈ ss, symB s = true) (l : ss.length ≤ 10) : (PyData.list (ss.map PyData.str)).shown.length ≤ 1242 := by
  rw [PyData.shown, shownAll_map]
  have h1 := listText_up (B := 122) (ts := ss.map fun x => (PyData.str x).shown) fun t ht => by
    obtain ⟨s, hs, rfl⟩ := List.mem_map.mp ht
    exact sym_shown (h s hs)
  rw [List.length_map] at h1
  have : (122 + 2) * ss.length ≤ (122 + 2) * 10 := Nat.mul_le_mul_left _ l
  omega
theorem rule_shown {r : Rule} (g : GoodR r) : (ruleD r).shown.length ≤ 1370 := by
  unfold ruleD
  rw [PyData.shown, PyData.shownAll, PyData.shownAll, PyData.shownAll]
  have h1 := tupleText_up (x := (PyData.str r.1).shown) (y := (PyData.list (r.2.map PyData.str)).shown)
  have h2 := sym_shown (z := r.1) (by unfold symB; rw [g.1, Bool.or_true])
  have h3 := syms_shown (List.all_eq_true.mp g.2.2) (Nat.le_trans g.2.1 (by decide))
  omega
theorem gD_shown {G : List Rule} (g : ∀ r ∈ G, GoodR r) (l : G.length ≤ 12) : (gD G).shown.length ≤ 16466 := by
  unfold gD
  rw [PyData.shown, shownAll_map]
  have h1 := listText_up (B := 1370) (ts := G.map fun x => (ruleD x).shown) fun t ht => by
    obtain ⟨s, hs, rfl⟩ := List.mem_map.mp ht
    exact rule_shown (g s hs)
  rw [List.length_map] at h1
  have : (1370 + 2) * G.length ≤ (1370 + 2) * 12 := Nat.mul_le_mul_left _ l
  omega
def inD (G : List Rule) (ks : List Str) : PyData := .tuple [gD G, .list (ks.map PyData.str)]
theorem inD_showable (G : List Rule) (ks : List Str) : (inD G ks).showable = true := pairG_showable G ks
theorem inD_shown {G : List Rule} {ks : List Str} (g : ∀ r ∈ G, GoodR r) (l : G.length ≤ 12) (h : ∀ s ∈ ks, symB s = true) (l2 : ks.length ≤ 10) : (inD G ks).shown.length ≤ sizeLine := by
  unfold inD
  rw [PyData.shown, PyData.shownAll, PyData.shownAll, PyData.shownAll]
  have h1 := tupleText_up (x := (gD G).shown) (y := (PyData.list (ks.map PyData.str)).shown)
  have h2 := gD_shown g l
  have h3 := syms_shown h l2
  rw [sizeLine_eq]
  omega
theorem inD_shaped {G : List Rule} {ks : List Str} (g : ∀ r ∈ G, GoodR r) (h : ∀ s ∈ ks, symB s = true) : SeqAt.shaped (inD G ks) = true := by
  have h1 : (gD G).canLay0 = true := SeqAt.canLay_of_shaped (gD_shaped g)
  have h2 := strs_lay (ss := ks) fun s hs => strOk_sym (h s hs)
  refine shaped_mk ?_ ?_
  · simp [inD, PyData.canLay0, PyData.canLayAll0, h1, h2]
  · have h3 := rules_depth G
    have h4 := strs_depth ks
    simp only [inD, gD, PyData.depth, PyData.depthAll]
    omega
theorem faultD_shaped (o : Option (Str × Nat)) (h : ∀ s k, o = some (s, k) → PyData.strOk s = true) : SeqAt.shaped (match o with | none => PyData.none | some (s, k) => .tuple [.str s, .int k]) = true := by
  cases o with
  | none => exact shaped_mk rfl (by simp [PyData.depth])
  | some p =>
    obtain ⟨s, k⟩ := p
    refine shaped_mk ?_ (by simp [PyData.depth, PyData.depthAll])
    simp [PyData.canLay0, PyData.canLayAll0, h s k rfl]
end Ld

set_option Elab.async false
set_option linter.all false
set_option maxRecDepth 100000
set_option maxHeartbeats 4000000
namespace Ld
open PySem PySem.Spec PyProof.Rows L2 Le TL Lt Lg
theorem valV_at : ∀ {kvs : List (Key × V)} {p : Key × V}, (kvs.map (·.1)).Nodup → p ∈ kvs → valV kvs p.1 = some p.2
  | q :: r, p, nd, h => by
    rw [List.map_cons, List.nodup_cons] at nd
    rcases List.mem_cons.mp h with e | m
    · rw [e]
      exact valV_pos rfl
    · have ne : ¬ q.1 = p.1 := fun z => nd.1 (by rw [z]; exact List.mem_map.mpr ⟨p, m, rfl⟩)
      rw [valV_neg ne]
      exact valV_at nd.2 m
theorem rows_sub {A : Hp} {ks ls : List (Key × V)} {M : RM} (h1 : RowsK A ks M) (h2 : RowsK A ls M) : ∀ k ∈ ks.map (·.1), k ∈ ls.map (·.1) := fun k hk => by
  obtain ⟨p, hp, rfl⟩ := List.mem_map.mp hk
  obtain ⟨n, hn, e⟩ := h1.ks p hp
  have v1 := valV_at h1.nd hp
  rw [e] at v1 ⊢
  have a1 := h1.at_ n
  have a2 := h2.at_ n
  rw [v1] at a1
  cases em : M n with
  | none =>
    rw [em] at a1
    cases (show some p.2 = none from a1)
  | some r =>
    rw [em] at a2
    obtain ⟨a, e2, _⟩ := a2
    exact valV_in e2
theorem paired_strs {K : PySem.W.Frag} {H : Hp} : ∀ r : List Str, Paired (EqV K H 1) (r.map V.str) (r.map V.str)
  | [] => .nil
  | s :: r => .cons (.inl ⟨rfl, rfl⟩) (paired_strs r)
theorem rows_eq {K : PySem.W.Frag} {A : Hp} {ks ls : List (Key × V)} {M : RM} (h1 : RowsK A ks M) (h2 : RowsK A ls M) : ks.length = ls.length ∧ ∀ p ∈ ks, ∃ u, valV ls p.1 = some u ∧ EqV K A 2 p.2 u := by
  constructor
  · have l1 := nodup_le h1.nd (rows_sub h1 h2)
    have l2 := nodup_le h2.nd (rows_sub h2 h1)
    rw [List.length_map, List.length_map] at l1 l2
    exact Nat.le_antisymm l1 l2
  · intro p hp
    obtain ⟨n, hn, e⟩ := h1.ks p hp
    have v1 := valV_at h1.nd hp
    rw [e] at v1 ⊢
    have a1 := h1.at_ n
    have a2 := h2.at_ n
    rw [v1] at a1
    cases em : M n with
    | none =>
      rw [em] at a1
      cases (show some p.2 = none from a1)
    | some r =>
      rw [em] at a1 a2
      obtain ⟨a, e1, l1⟩ := a1
      obtain ⟨b, e2, l2⟩ := a2
      exact ⟨_, e2, .inr (.inr (.inl ⟨a, b, _, _, Option.some.inj e1, rfl, SqL.of l1, SqL.of l2, paired_strs r⟩))⟩
theorem rows_ne {K : PySem.W.Frag} {A : Hp} {G : List Rule} (good : ∀ r ∈ G, GoodW r) {d e : Addr} {ks ls : List (Key × V)} {M M2 : RM} (hd : A d = some (.dK ks)) (he : A e = some (.dK ls)) (h1 : RowsK A ks M) (h2 : RowsK A ls M2) (l1 : LeastM G M) (l2 : LeastM G M2) {Q : VK} (q : Q (.bl false) A) :
    rNeVD K (.ref d) (.ref e) A Q := by
  have em : M = M2 := funext fun n => least_unique good l1 l2 n
  subst em
  obtain ⟨x, y⟩ := rows_eq (K := K) h1 h2
  exact ⟨d, e, ks, ls, 2, by decide, rfl, rfl, hd, he, x, y, q⟩
/-! ### due: each name once -/
def dueStep (D : List Str) (y : Str) : List Str := if y ∈ D then D else D ++ [y]
theorem due_take {ys : List Str} {i : Nat} {y : Str} (h : ys[i]? = some y) : (ys.take (i + 1)).foldl dueStep [] = dueStep ((ys.take i).foldl dueStep []) y := by
  rw [List.take_add_one, h, List.foldl_append]
  rfl
theorem due_len (ys : List Str) : ∀ D : List Str, (ys.foldl dueStep D).length ≤ D.length + ys.length := by
  induction ys with
  | nil => exact fun D => Nat.le_refl _
  | cons y ys ih =>
    intro D
    have := ih (dueStep D y)
    have : (dueStep D y).length ≤ D.length + 1 := by
      unfold dueStep
      split
      · omega
      · rw [List.length_append]
        exact Nat.le_refl _
    rw [List.foldl_cons, List.length_cons]
    omega
theorem due_in (ys : List Str) : ∀ (D : List Str) (x : Str), x ∈ ys.foldl dueStep D ↔ x ∈ D ∨ x ∈ ys := by
  induction ys with
  | nil => simp
  | cons y ys ih =>
    intro D x
    rw [List.foldl_cons, ih, List.mem_cons]
    unfold dueStep
    split
    · rename_i m
      constructor
      · rintro (z | z)
        · exact .inl z
        · exact .inr (.inr z)
      · rintro (z | z | z)
        · exact .inl z
        · exact .inl (z ▸ m)
        · exact .inr z
    · rw [List.mem_append, List.mem_singleton]
      constructor
      · rintro ((z | z) | z)
        · exact .inl z
        · exact .inr (.inl z)
        · exact .inr (.inr z)
      · rintro (z | z | z)
        · exact .inl (.inl z)
        · exact .inl (.inr z)
        · exact .inr z
theorem due_inc : ∀ (ys D : List Str), (∀ x ∈ D, x ∈ N4) → (∀ x ∈ ys, x ∈ N4) → D.Pairwise (fun a b => rk a < rk b) → ys.Pairwise (fun a b => rk a ≤ rk b) → (∀ x ∈ D, ∀ y ∈ ys, rk x ≤ rk y) → (ys.foldl dueStep D).Pairwise (fun a b => rk a < rk b)
  | [], _, _, _, h, _, _ => h
  | y :: ys, D, d4, y4, h, hy, c => by
    rw [List.foldl_cons]
    rw [List.pairwise_cons] at hy
    unfold dueStep
    split
    · exact due_inc ys D d4 (fun x m => y4 x (List.mem_cons_of_mem _ m)) h hy.2 fun x m z hz => c x m z (List.mem_cons_of_mem _ hz)
    · rename_i out
      refine due_inc ys (D ++ [y]) (fun x m => ?_) (fun x m => y4 x (List.mem_cons_of_mem _ m)) ?_ hy.2 fun x m z hz => ?_
      · rcases List.mem_append.mp m with k | k
        · exact d4 x k
        · rw [List.mem_singleton.mp k]
          exact y4 y List.mem_cons_self
      · rw [List.pairwise_append]
        refine ⟨h, List.pairwise_singleton _ _, fun a ha b hb => ?_⟩
        rw [List.mem_singleton.mp hb]
        have le := c a ha y List.mem_cons_self
        refine Nat.lt_of_le_of_ne le fun e => ?_
        have := rk_inj a (d4 a ha) y (y4 y List.mem_cons_self) e
        exact out (this ▸ ha)
      · rcases List.mem_append.mp m with k | k
        · exact c x k z (List.mem_cons_of_mem _ hz)
        · rw [List.mem_singleton.mp k]
          exact hy.1 z hz
theorem due_is {F ys L : List Str} (perm : ys.Perm F) (f4 : ∀ n ∈ F, n ∈ N4) (so : sortedS ys = true) (hL : L.Pairwise (fun a b => rk a < rk b)) (iff : ∀ n, n ∈ L ↔ n ∈ F) : ys.foldl dueStep [] = L := by
  have y4 : ∀ x ∈ ys, x ∈ N4 := fun x h => f4 x (perm.mem_iff.mp h)
  refine inc_unique (due_inc ys [] (fun _ m => nomatch m) y4 .nil (up_of_sorted y4 so) fun _ m => nomatch m) hL fun x => ?_
  rw [due_in, iff, perm.mem_iff]
  simp
theorem n4_str : ∀ s ∈ N4, PyData.strOk s = true := fun s h => strOk_sym (List.all_eq_true.mp n4_sym s h)
def nsL (L : List Str) : PyData := .list (L.map PyData.str)
theorem nsL_shaped {L : List Str} (h : ∀ n ∈ L, n ∈ N4) : SeqAt.shaped (nsL L) = true := by
  have h2 := strs_lay (ss := L) fun s hs => n4_str s (h s hs)
  refine shaped_mk ?_ ?_
  · simp [nsL, PyData.canLay0, h2]
  · have h4 := strs_depth L
    simp only [nsL, PyData.depth]
    omega
theorem fault_shaped (G : List Rule) (ks : List Str) (n0 : Str) : SeqAt.shaped (faultD (faultOf G ks n0)) = true := by
  have one : ∀ (s : Str) (k : Nat), PyData.strOk s = true → SeqAt.shaped (faultD (some (s, k))) = true := fun s k h => by
    refine shaped_mk ?_ (by simp [faultD, PyData.depth, PyData.depthAll])
    simp [faultD, PyData.canLay0, PyData.canLayAll0, h]
  unfold faultOf
  split
  · exact one _ _ (by decide +kernel)
  · split
    · exact one _ _ (by decide +kernel)
    · split
      · exact one _ _ (by decide +kernel)
      · exact shaped_mk rfl (by simp [faultD, PyData.depth])
theorem units66 {k : Nat} {A : Around} (h : Room k A) : A.units + 66 < cLine := by
  have := h.un
  omega
end Ld

set_option Elab.async false
set_option linter.all false
set_option maxRecDepth 100000
set_option maxHeartbeats 4000000
namespace Ld
open PySem PySem.Spec PyProof.Rows L2 Le TL Lt Lg
theorem keys_str : ∀ {kvs : List (Key × V)}, (∀ p ∈ kvs, ∃ n ∈ N4, p.1 = Sum.inr n) → ∃ kk : List Str, kvs.map (·.1) = kk.map Sum.inr
  | [], _ => ⟨[], rfl⟩
  | p :: kvs, h => by
    obtain ⟨kk, e⟩ := keys_str (kvs := kvs) fun q hq => h q (List.mem_cons_of_mem _ hq)
    obtain ⟨n, _, e2⟩ := h p List.mem_cons_self
    exact ⟨n :: kk, by rw [List.map_cons, List.map_cons, e, e2]⟩
theorem valV_of_key {kvs : List (Key × V)} {k : Key} (h : k ∈ kvs.map (·.1)) : ∃ v, valV kvs k = some v := by
  cases e : valV kvs k with
  | some v => exact ⟨v, rfl⟩
  | none => exact (valV_not e h).elim
section
variable {P : Program} {w : World} {K : PySem.W.Frag} {mg : Str → Option Value} {base : Heap}
theorem scL : FnScope ["script", "draws", "grammar", "kinds", "kept", "told", "due", "name", "rows"] ["script"] (defScope sLaw) := ⟨rfl, rfl, rfl, by decide +kernel, rfl, by decide +kernel, by decide +kernel⟩
theorem law_rest {f fSh fLR fRe : Addr} {fdSh fdLR fdRe : FuncData}
    (GS : FnOk P w K mg base CX0 3 fSh fdSh ["grammar"] spShort) (kS : PySem.W.keepIn K (.ref fSh) = true) (bS : Binds K fdSh ["grammar"] []) (gS : mg "shortest_rows" = some (.ref fSh))
    (GL : FnOk P w K mg base CX0 2 fLR fdLR ["grammar"] spLRows) (kL : PySem.W.keepIn K (.ref fLR) = true) (bL : Binds K fdLR ["grammar"] []) (gL : mg "_law_rows" = some (.ref fLR))
    (GR : FnOk P w K mg base CX0 2 fRe fdRe ["grammar"] spReach) (kR : PySem.W.keepIn K (.ref fRe) = true) (bR : Binds K fdRe ["grammar"] []) (gR : mg "reached_names" = some (.ref fRe))
    (mi : mg "isinstance" = none) (mli : mg "list" = none) (mdi : mg "dict" = none) (mso : mg "sorted" = none) (mre : mg "repr" = none) (cdv : Value) (s : Shared) (H : Hp) (E : XK) (hr : Room 5 (callerA.deeper (envOfC "law" (defScope sLaw) s.heap.objs.size f cdv))) :
    ∃ t, PSs (cxOf CX0 P w K mg base ["script", "draws", "grammar", "kinds", "kept", "told", "due", "name", "rows"] "law" (defScope sLaw) f cdv callerA [] s H E).nox ((defBody sLaw).drop 9) t ∧
      ∀ (v0 v1 v5 v7 : Option V) (g kd dl : Addr) (G : List Rule) (r0 : Rule) (G' : List Rule) (ks D : List Str) (H9 : Hp) (Q : VK), GraA H9 g G → G = r0 :: G' → (∀ r ∈ G, GoodW r) → G.length ≤ 12 → H9 kd = some (.lst (ks.map V.str)) → ks.length ≤ 10 → (∀ k ∈ ks, symB k = true) →
        H9 dl = some (.lst (D.map V.str)) → D.Pairwise (fun a b => rk a < rk b) → (∀ n ∈ D, n ∈ N4) → (∀ n, n ∈ D ↔ Rea G r0.1 n) → (∀ H', Q (.bl true) H') →
        t { nx := fun _ H' => Q .non H', rt := Q } [v0, v1, some (.ref g), some (.ref kd), some (.str (inD G ks).shown), v5, some (.ref dl), v7, none] H9 := by
  have hr3 : Room 3 (callerA.deeper (envOfC "law" (defScope sLaw) s.heap.objs.size f cdv)) := hr.mono (by decide)
  have hr2 : Room 2 (callerA.deeper (envOfC "law" (defScope sLaw) s.heap.objs.size f cdv)) := hr.mono (by decide)
  have hu := units1 hr
  refine ⟨_, (pss_cons (ps_set (i := 8) scL.nd rfl (.inl rfl) (pe_call GS hr3 (by rfl) gS kS bS .nil pass0 (pa_cons (pv 2) pa_nil)))
    (pss_cons (ps_if (PW.pt (pw_or (pt_not (pt_val (pe_callB call_isi (by rfl) mi (by decide +kernel) (pa_cons (pv 8) (pa_cons (pe_bltn (v := .ty "dict") (by rfl) mdi (by decide +kernel) rfl) pa_nil)))))
        (pw_or1 (pt_cmpR (op_neVD (units64 hr)) (pv 8) (pe_call GL hr2 (by rfl) gL kL bL .nil pass0 (pa_cons (pv 2) pa_nil)) (nomark _))))) (pss_one (ps_ret pe_bl)) pss_nil)
    (pss_cons (ps_for PassesOwn.never rfl (pi_list (pe_callB (call_sortedD rfl) (by rfl) mso (by decide +kernel) (pa_cons (pv 8) pa_nil))) (pg_name (i := 7) scL.nd rfl (.inl rfl))
      (pss_cons (ps_if (pt_not (pt_val (pe_callB call_isi (by rfl) mi (by decide +kernel) (pa_cons (pe_dget hu (pv 8) (pv 7) (fun _ _ => rfl)) (pa_cons (pe_bltn (v := .ty "list") (by rfl) mli (by decide +kernel) rfl) pa_nil))))) (pss_one (ps_ret pe_bl)) pss_nil)
      (pss_one (ps_expr (pe_bm PySem.F.plainAttrs_list PySem.F.slot_list_append PySem.F.type_list_append mt_append (pe_dget hu (pv 8) (pv 7) (fun _ _ => rfl)) (pa_cons pe_str pa_nil))))))
    (pss_cons (ps_if (PW.pt (pw_or (pt_cmpR (op_neVD (units64 hr)) (pe_call GS hr3 (by rfl) gS kS bS .nil pass0 (pa_cons (pv 2) pa_nil)) (pe_call GL hr2 (by rfl) gL kL bL .nil pass0 (pa_cons (pv 2) pa_nil)) (nomark _))
        (pw_or1 (pt_cmpR (op_neD (units64 hr)) (pe_call GR hr2 (by rfl) gR kR bR .nil pass0 (pa_cons (pv 2) pa_nil)) (pv 6) (nomark _))))) (pss_one (ps_ret pe_bl)) pss_nil)
    (pss_one (ps_ret (pe_cmpR op_eq (pe_callB (call_repr rfl (units66 hr)) (by rfl) mre (by decide +kernel) (pa_cons (pe_tup (pa_cons (pv 2) (pa_cons (pv 3) pa_nil))) pa_nil)) (pv 4) (nomark _)))))))), ?_⟩
  intro v0 v1 v5 v7 g kd dl G r0 G' ks D H9 Q hg eG good len hk lk sk hdl incD d4 dR q
  have gw : ∀ r ∈ G, GoodR r := fun r h => (good r h).good
  refine ⟨_, rfl, g, G, rfl, hg, good, len, fun d HA kvs M sA nd hd rows least => ?_⟩
  refine ⟨_, rfl, _, _, _, _, _, rfl, .ty "dict", .base (.dK hd), kit_ty (r := true) (by decide +kernel), _, rfl, iteF ?_⟩
  have hgA := hg.up (Up.of_same sA)
  refine ⟨_, rfl, _, rfl, g, G, rfl, hgA, good, len, fun e HB ls M2 sB ne he rows2 least2 => ?_⟩
  have hdB := sB _ _ hd
  refine rows_ne good hdB he ((rows.same news_same).same sB) rows2 least least2 ⟨_, rfl, iteF ?_⟩
  obtain ⟨kk, ek⟩ := keys_str rows.ks
  have lkk : kk.length ≤ 4 := by
    have h1 := congrArg List.length ek
    have h2 := rows.len
    rw [List.length_map, List.length_map] at h1
    omega
  have hrow : ∀ n v, valV kvs (Sum.inr n) = some v → ∃ a xs, v = .ref a ∧ H9 a = none ∧ HB a = some (.lst xs) ∧ xs.length ≤ 60 := fun n v hv => by
    have at_ := rows.at_ n
    cases em : M n with
    | none =>
      rw [em] at at_
      rw [show valV kvs (Sum.inr n) = none from at_] at hv
      cases hv
    | some r =>
      rw [em] at at_
      obtain ⟨a, ea, hla⟩ := at_
      rw [ea] at hv
      obtain ⟨n1, n2⟩ := news_at hla
      exact ⟨a, _, (Option.some.inj hv).symm, n1, sB _ _ n2, by rw [List.length_map]; exact (least.1 n r em).2⟩
  refine ⟨_, rfl, d, kvs, kk, rfl, .inl hdB, ek, by omega, fun ys p perm so np => ?_⟩
  have sP : Same HB (upd HB p (.lst (ys.map V.str))) := same_upd np
  have lys : ys.length ≤ 4 := by rw [perm.length_eq]; exact lkk
  have sAB := sA.trans sB
  refine ⟨p, rfl, ⟨_, SqL.of upd_same⟩, for_list (a := p) (xs := ys.map V.str) (fun i σ H' => ∃ v7 : Option V, σ = [v0, v1, some (.ref g), some (.ref kd), some (.str (inD G ks).shown), v5, some (.ref dl), v7, some (.ref d)] ∧ Same H9 H' ∧ H' d = some (.dK kvs) ∧ H' p = some (.lst (ys.map V.str)) ∧
      ∀ n v, valV kvs (Sum.inr n) = some v → ∃ a xs, v = .ref a ∧ H9 a = none ∧ a ≠ p ∧ H' a = some (.lst xs) ∧ xs.length ≤ 60 + i)
    ⟨v7, rfl, sAB.trans sP, sP _ _ hdB, upd_same, fun n v hv => ?_⟩ (fun i σ H2 _ ⟨_, _, _, _, h, _⟩ => SqL.of h) ?_ ?_⟩
  · obtain ⟨a, xs, e1, e2, e3, e4⟩ := hrow n v hv
    exact ⟨a, xs, e1, e2, ne_of_none e3 np, sP _ _ e3, e4⟩
  · rintro i x σ H2 hx ⟨v7, rfl, s2, hd2, hp2, rw2⟩
    obtain ⟨y, hy, rfl⟩ : ∃ y, ys[i]? = some y ∧ x = V.str y := by
      rw [List.getElem?_map] at hx
      cases e : ys[i]? with
      | none =>
        rw [e] at hx
        cases hx
      | some y =>
        rw [e] at hx
        exact ⟨y, rfl, (Option.some.inj hx).symm⟩
    have li : i < ys.length := (List.getElem?_eq_some_iff.mp hy).1
    have yk : (Sum.inr y : Key) ∈ kvs.map (·.1) := by
      rw [ek]
      exact List.mem_map.mpr ⟨y, perm.mem_iff.mp (List.mem_of_getElem? hy), rfl⟩
    obtain ⟨v, hv⟩ := valV_of_key yk
    obtain ⟨a, xs, rfl, na, ap, ha, lx⟩ := rw2 y v hv
    have dg : DGet H2 d (V.str y) (some (.ref a)) := by
      have := DGet.k (k := Sum.inr y) hd2
      rw [hv] at this
      exact this
    have ad : d ≠ a := fun z => by
      rw [z, ha] at hd2
      cases hd2
    refine ⟨_, rfl, _, rfl, d, _, rfl, dg, _, _, _, _, _, rfl, .ty "list", .base (.lst ha), kit_ty (r := true) (by decide +kernel), _, rfl, iteF ?_⟩
    refine ⟨_, rfl, _, rfl, d, _, rfl, dg, .inl ⟨rfl, _, SqL.of ha⟩, a, _, _, rfl, rfl, ha, ?_, ?_⟩
    · exact Nat.lt_of_le_of_lt (by omega : _ ≤ 64) (by decide)
    · refine ⟨_, rfl, same_put s2 na, ?_, ?_, fun n v hv2 => ?_⟩
      · rw [upd_ne ad]
        exact hd2
      · rw [upd_ne (Ne.symm ap)]
        exact hp2
      · obtain ⟨b, zs, rfl, nb, bp, hb, lz⟩ := rw2 n v hv2
        by_cases ab : b = a
        · subst ab
          rw [ha] at hb
          cases hb
          refine ⟨b, _, rfl, nb, bp, upd_same, ?_⟩
          rw [List.length_append]
          show _ + 1 ≤ _
          omega
        · exact ⟨b, zs, rfl, nb, bp, by rw [upd_ne ab]; exact hb, by omega⟩
  · rintro σ H2 ⟨v7, rfl, s2, hd2, hp2, rw2⟩
    clear rw2 hp2 hd2
    refine ⟨_, rfl, g, G, rfl, hg.up (Up.of_same s2), good, len, fun d3 HC kv3 M3 sC nd3 hd3 rows3 least3 => ?_⟩
    have s3 := s2.trans sC
    refine ⟨_, rfl, g, G, rfl, hg.up (Up.of_same s3), good, len, fun e4 HD ls4 M4 sD ne4 he4 rows4 least4 => ?_⟩
    have s4 := s3.trans sD
    refine rows_ne good (sD _ _ hd3) he4 ((rows3.same news_same).same sD) rows4 least3 least4 ⟨_, rfl, iteF ?_⟩
    refine ⟨_, rfl, g, G, r0, G', rfl, eG, hg.up (Up.of_same s4), good, len, fun p5 HE L sE np5 hp5 incL l4 lR => ?_⟩
    have s5 := s4.trans sE
    have eL : L = D := inc_unique incL incD fun n => (lR n).trans (dR n).symm
    rw [eL] at hp5
    have shD := nsL_shaped d4
    refine ⟨_, rfl, nsL D, nsL D, .lst (SqL.of hp5) (dp_strs _), .lst (SqL.of (s5 _ _ hdl)) (dp_strs _), shD, shD, _, rfl, ?_⟩
    rw [eqv_self shD]
    refine iteF ?_
    refine ⟨_, rfl, _, rfl, (by show 2 ≤ sizeLine; decide), fun t nt => ?_⟩
    have s6 := s5.trans (same_upd nt (o := .tup [.ref g, .ref kd]))
    refine ⟨t, inD G ks, rfl, .tup (SqT.of upd_same) (.cons (hg.up (Up.of_same s6)).dp (.cons (.lst (SqL.of (s6 _ _ hk)) (dp_strs _)) .nil)), inD_showable G ks, inD_shaped gw sk, inD_shown gw len sk lk, ?_⟩
    refine ⟨_, rfl, rfl, ?_⟩
    rw [decide_eq_true (rfl : V.str (inD G ks).shown = _)]
    exact q _
end
end Ld

set_option Elab.async false
set_option linter.all false
set_option maxRecDepth 100000
set_option maxHeartbeats 4000000
namespace Ld
open PySem PySem.Spec PyProof.Rows L2 Le TL Lt Lg
section
variable {P : Program} {w : World} {K : PySem.W.Frag} {mg : Str → Option Value} {base : Heap}
def spLaw (K : PySem.W.Frag) (T1 T2 : Addr) : Sp := fun vs H Q _ => ∃ (a : Addr) (ns : List Int), vs = [.ref a] ∧ SqL K H a (ns.map V.int) ∧ ns.length ≤ 63 ∧ Tb T1 T2 H ∧ ∀ H', Q (.bl true) H'
theorem ok_law {f fD fI fT fF fR fQ fSh fLR T1 T2 : Addr} {fd fdD fdI fdT fdF fdR fdQ fdSh fdLR : FuncData} (F : Fun K "law" "law" sLaw f fd)
    (GD : FnOk P w K mg base CX0 1 fD fdD ["script"] (spDraws K)) (kD : PySem.W.keepIn K (.ref fD) = true) (bD : Binds K fdD ["script"] []) (gD : mg "_law_draws" = some (.ref fD))
    (GI : FnOk P w K mg base CX0 5 fI fdI ["draws"] spInput) (kI : PySem.W.keepIn K (.ref fI) = true) (bI : Binds K fdI ["draws"] []) (gI : mg "_law_input" = some (.ref fI))
    (GT : FnOk P w K mg base CX0 5 fT fdT ["grammar", "kinds"] (spLTold K T1 T2)) (kT : PySem.W.keepIn K (.ref fT) = true) (bT : Binds K fdT ["grammar", "kinds"] []) (gT : mg "_law_told" = some (.ref fT))
    (GF : FnOk P w K mg base CX0 2 fF fdF ["grammar", "kinds"] (spLFault K)) (kF : PySem.W.keepIn K (.ref fF) = true) (bF : Binds K fdF ["grammar", "kinds"] []) (gF : mg "_law_fault" = some (.ref fF))
    (GR : FnOk P w K mg base CX0 2 fR fdR ["grammar"] spReach) (kR : PySem.W.keepIn K (.ref fR) = true) (bR : Binds K fdR ["grammar"] []) (gR : mg "reached_names" = some (.ref fR))
    (GQ : FnOk P w K mg base CX0 1 fQ fdQ ["grammar"] spLReach) (kQ : PySem.W.keepIn K (.ref fQ) = true) (bQ : Binds K fdQ ["grammar"] []) (gQ : mg "_law_reached" = some (.ref fQ))
    (GS : FnOk P w K mg base CX0 3 fSh fdSh ["grammar"] spShort) (kS : PySem.W.keepIn K (.ref fSh) = true) (bS : Binds K fdSh ["grammar"] []) (gS : mg "shortest_rows" = some (.ref fSh))
    (GL : FnOk P w K mg base CX0 2 fLR fdLR ["grammar"] spLRows) (kL : PySem.W.keepIn K (.ref fLR) = true) (bL : Binds K fdLR ["grammar"] []) (gL : mg "_law_rows" = some (.ref fLR))
    (mi : mg "isinstance" = none) (mli : mg "list" = none) (mdi : mg "dict" = none) (mso : mg "sorted" = none) (mre : mg "repr" = none) : Top P w K mg base CX0 f fd ["script"] (spLaw K T1 T2) := by
  refine top_ok F scL (k := 5) ⟨rfl, by decide, by decide⟩ (fun vs H Q E h => ?_) (fun cdv s H vs Q E hr h => ?_)
  · obtain ⟨a, ns, rfl, _⟩ := h
    rfl
  · obtain ⟨a, ns, rfl, hS, hlen, tb, q⟩ := h
    have hr3 : Room 3 (callerA.deeper (envOfC "law" (defScope sLaw) s.heap.objs.size f cdv)) := hr.mono (by decide)
    have hr2 : Room 2 (callerA.deeper (envOfC "law" (defScope sLaw) s.heap.objs.size f cdv)) := hr.mono (by decide)
    have hr1 : Room 1 (callerA.deeper (envOfC "law" (defScope sLaw) s.heap.objs.size f cdv)) := hr.mono (by decide)
    obtain ⟨tR, pR, qR⟩ := law_rest (f := f) (P := P) (w := w) (base := base) GS kS bS gS GL kL bL gL GR kR bR gR mi mli mdi mso mre cdv s H E hr
    refine ⟨_, pss_cons (ps_set (i := 1) scL.nd rfl (.inl rfl) (pe_call GD hr1 (by rfl) gD kD bD .nil pass0 (pa_cons (pv 0) pa_nil)))
      (pss_cons (ps_asg (pe_call GI hr (by rfl) gI kI bI .nil pass0 (pa_cons (pv 1) pa_nil)) (pg_tup rfl (pgs_cons (pg_name (i := 2) scL.nd rfl (.inl rfl)) (pgs_cons (pg_name (i := 3) scL.nd rfl (.inl rfl)) pgs_nil))))
      (pss_cons (ps_set (i := 4) scL.nd rfl (.inl rfl) (pe_callB (call_repr rfl (units66 hr)) (by rfl) mre (by decide +kernel) (pa_cons (pe_tup (pa_cons (pv 2) (pa_cons (pv 3) pa_nil))) pa_nil)))
      (pss_cons (ps_if (pt_cmpR (op_neD (units64 hr)) (pe_call GT hr (by rfl) gT kT bT .nil pass0 (pa_cons (pv 2) (pa_cons (pv 3) pa_nil))) (pe_call GF hr2 (by rfl) gF kF bF .nil pass0 (pa_cons (pv 2) (pa_cons (pv 3) pa_nil))) (nomark _)) (pss_one (ps_ret pe_bl)) pss_nil)
      (pss_cons (ps_set (i := 5) scL.nd rfl (.inl rfl) (pe_call GR hr2 (by rfl) gR kR bR .nil pass0 (pa_cons (pv 2) pa_nil)))
      (pss_cons (ps_set (i := 6) scL.nd rfl (.inl rfl) (pe_lst pa_nil))
      (pss_cons (ps_for PassesOwn.never rfl (pi_list (pe_callB cr_sortedS (by rfl) mso (by decide +kernel) (pa_cons (pe_call GQ hr1 (by rfl) gQ kQ bQ .nil pass0 (pa_cons (pv 2) pa_nil)) pa_nil))) (pg_name (i := 7) scL.nd rfl (.inl rfl))
        (pss_one (ps_if (pt_cmpR op_notIn_seq (pv 7) (pv 6) rfl) (pss_one (ps_expr (pe_bm PySem.F.plainAttrs_list PySem.F.slot_list_append PySem.F.type_list_append mt_append (pv 6) (pa_cons (pv 7) pa_nil)))) pss_nil)))
      (pss_cons (ps_if (PW.pt (pw_or (pt_not (pt_val (pe_callB call_isi (by rfl) mi (by decide +kernel) (pa_cons (pv 5) (pa_cons (pe_bltn (v := .ty "list") (by rfl) mli (by decide +kernel) rfl) pa_nil)))))
          (pw_or1 (pt_cmpR (op_neD (units64 hr)) (pv 5) (pv 6) (nomark _))))) (pss_one (ps_ret pe_bl)) pss_nil)
      (pss_cons (ps_expr (pe_bm PySem.F.plainAttrs_list PySem.F.slot_list_append PySem.F.type_list_append mt_append (pv 5) (pa_cons pe_str pa_nil)))
      pR)))))))), ?_⟩
    have tsame : ∀ {B C : Hp}, Tb T1 T2 B → Same B C → Tb T1 T2 C := fun {B C} t u => ⟨by obtain ⟨p, e, k⟩ := t.1; exact ⟨p, u _ _ e, k⟩, by obtain ⟨p, e, k⟩ := t.2; exact ⟨p, u _ _ e, k⟩⟩
    refine ⟨_, rfl, a, ns, rfl, hS, hlen, fun o no => ?_⟩
    have ho1 : upd H o (.lst ((drawsOf ns).map V.int)) o = some (.lst ((drawsOf ns).map V.int)) := upd_same
    have t1 : Tb T1 T2 (upd H o (.lst ((drawsOf ns).map V.int))) := tb.new no
    generalize upd H o (.lst ((drawsOf ns).map V.int)) = H1 at ho1 t1
    refine ⟨_, rfl, o, drawsOf ns, rfl, ho1, fun t g kd G ks H2 s2 nt ht hG good n0 len nkd hk lk sk => ?_⟩
    have t2 := tsame t1 s2
    have hg2 : GraA H2 g G := hG.up (Up.of_same news_same)
    have gw : ∀ r ∈ G, GoodR r := fun r h => (good r h).good
    obtain ⟨r0, G', eG⟩ : ∃ r0 G', G = r0 :: G' := by
      cases G with
      | nil => exact absurd rfl n0
      | cons r0 G' => exact ⟨r0, G', rfl⟩
    refine ⟨t, _, rfl, SqT.of ht, rfl, _, _, rfl, _, _, rfl, rfl, ?_⟩
    refine ⟨_, rfl, _, rfl, (by show 2 ≤ sizeLine; decide), fun tt ntt => ?_⟩
    have s3 : Same H2 (upd H2 tt (.tup [.ref g, .ref kd])) := same_upd ntt
    refine ⟨tt, inD G ks, rfl, .tup (SqT.of upd_same) (.cons (hg2.up (Up.of_same s3)).dp (.cons (.lst (SqL.of (s3 _ _ hk)) (dp_strs _)) .nil)), inD_showable G ks, inD_shaped gw sk, inD_shown gw len sk lk, ?_⟩
    have t3 := tsame t2 s3
    generalize upd H2 tt (.tup [.ref g, .ref kd]) = H3 at s3 t3
    have hg3 := hg2.up (Up.of_same s3)
    have hk3 := s3 _ _ hk
    refine ⟨_, rfl, _, rfl, g, kd, G, r0, G', ks, rfl, eG, hg3, good, len, hk3, lk, t3, fun v1 HA uA tA dA => ?_⟩
    have hgA := hg3.up uA
    have hkA := uA.lst hk3
    refine ⟨_, rfl, _, rfl, g, kd, G, r0, G', ks, rfl, eG, hgA, good, len, hkA, fun v2 HB sB dB => ?_⟩
    have fsh := fault_shaped G ks r0.1
    refine ⟨_, _, dp_same sB _ _ dA, dB, fsh, fsh, _, rfl, ?_⟩
    rw [eqv_self fsh]
    refine iteF ?_
    have hgB := hgA.up (Up.of_same sB)
    have hkB := sB _ _ hkA
    clear dA dB hgA hkA tA uA sB hg3 hk3 t3 s3 hg2 t2 t1 ho1
    refine ⟨_, rfl, g, G, r0, G', rfl, eG, hgB, good, len, fun p HC L sC np hp incL l4 lR => ?_⟩
    have hgC := hgB.up (Up.of_same sC)
    refine ⟨Nat.zero_le _, fun dl nd => ?_⟩
    have s0 : Same HC (upd HC dl (.lst [])) := same_upd nd
    have pd : p ≠ dl := ne_of_none hp nd
    have hd0 : upd HC dl (.lst []) dl = some (.lst []) := upd_same
    generalize upd HC dl (.lst []) = HD at s0 hd0
    refine ⟨_, rfl, g, G, r0, G', rfl, eG, hgC.up (Up.of_same s0), good, len, fun pf HE F sE nf hf lenF f4 fR => ?_⟩
    have s1 := s0.trans sE
    refine ⟨pf, F, rfl, SqL.of hf, by omega, fun ys pz perm so nz => ?_⟩
    have sZ : Same HE (upd HE pz (.lst (ys.map V.str))) := same_upd nz
    have lys : ys.length ≤ 24 := by rw [perm.length_eq]; exact lenF
    have dz : dl ≠ pz := ne_of_none (sE _ _ hd0) nz
    refine ⟨pz, rfl, ⟨_, SqL.of upd_same⟩, for_list (a := pz) (xs := ys.map V.str) (fun i σ H' => ∃ v7 : Option V, σ = [some (.ref a), some (.ref o), some (.ref g), some (.ref kd), some (.str (inD G ks).shown), some (.ref p), some (.ref dl), v7, none] ∧ Same HC H' ∧ H' dl = some (.lst (((ys.take i).foldl dueStep []).map V.str)) ∧ H' pz = some (.lst (ys.map V.str)))
      ⟨none, rfl, s1.trans sZ, sZ _ _ (sE _ _ hd0), upd_same⟩ (fun i σ H' _ ⟨_, _, _, _, h⟩ => SqL.of h) ?_ ?_⟩
    · rintro i x σ H' hx ⟨v7, rfl, s', hd', hz'⟩
      obtain ⟨y, hy, rfl⟩ : ∃ y, ys[i]? = some y ∧ x = V.str y := by
        rw [List.getElem?_map] at hx
        cases e : ys[i]? with
        | none =>
          rw [e] at hx
          cases hx
        | some y =>
          rw [e] at hx
          exact ⟨y, rfl, (Option.some.inj hx).symm⟩
      have e := due_take hy
      have hl := due_len (ys.take i) []
      have ht : (ys.take i).length ≤ 24 := Nat.le_trans (List.length_take_le' _ _) lys
      generalize (ys.take i).foldl dueStep [] = D at e hl hd'
      refine ⟨_, rfl, _, rfl, dl, _, rfl, .inl (SqL.of hd'), rfl, flat_strs D, _, rfl, ?_⟩
      show (if (!inV (V.str y) (D.map V.str)) = true then _ else _)
      rw [inV_strs]
      by_cases m : y ∈ D
      · rw [decide_eq_true m]
        refine iteF ⟨_, rfl, s', ?_, hz'⟩
        rw [hd', e]
        unfold dueStep
        rw [if_pos m]
      · rw [decide_eq_false m]
        refine iteT ⟨_, rfl, .inl ⟨rfl, _, SqL.of hd'⟩, _, rfl, dl, _, _, rfl, rfl, hd', ?_, _, rfl, same_put s' nd, ?_, ?_⟩
        · rw [List.length_map]
          exact Nat.lt_of_le_of_lt (Nat.le_trans hl (by rw [List.length_nil]; omega : _ ≤ 40)) (by decide)
        · rw [e, upd_same]
          unfold dueStep
          rw [if_neg m, List.map_append]
          rfl
        · rw [upd_ne (Ne.symm dz)]
          exact hz'
    · rintro σ H' ⟨v7, rfl, s', hd', hz'⟩
      rw [List.length_map, List.take_length, due_is perm f4 so incL fun n => (lR n).trans (fR n).symm] at hd'
      have hp' := s' _ _ hp
      have sBp := sC.trans s'
      have nsh := nsL_shaped l4
      refine ⟨_, rfl, _, _, _, _, _, rfl, .ty "list", .base (.lst hp'), kit_ty (r := true) (by decide +kernel), _, rfl, iteF ?_⟩
      refine ⟨_, rfl, _, rfl, nsL L, nsL L, .lst (SqL.of hp') (dp_strs _), .lst (SqL.of hd') (dp_strs _), nsh, nsh, _, rfl, ?_⟩
      rw [eqv_self nsh]
      refine iteF ⟨_, rfl, .inl ⟨rfl, _, SqL.of hp'⟩, p, _, _, rfl, rfl, hp', ?_, ?_⟩
      · have hl := due_len ys []
        rw [due_is perm f4 so incL fun n => (lR n).trans (fR n).symm, List.length_nil] at hl
        rw [List.length_map]
        exact Nat.lt_of_le_of_lt (by omega : _ ≤ 24) (by decide)
      have s4 : Same HB (upd H' p (.lst (L.map V.str ++ [V.str "zz"]))) := same_put sBp np
      have hd4 : upd H' p (.lst (L.map V.str ++ [V.str "zz"])) dl = some (.lst (L.map V.str)) := by
        rw [upd_ne (Ne.symm pd)]
        exact hd'
      exact qR _ _ _ _ g kd dl G r0 G' ks L _ Q (hgB.up (Up.of_same s4)) eG good len (s4 _ _ hkB) lk sk hd4 incL l4 lR q
end
end Ld

set_option Elab.async false
set_option linter.all false
set_option maxRecDepth 100000
set_option maxHeartbeats 4000000

namespace Ld
open PySem PySem.Spec PyProof.Rows L2 Le TL Lt Lg
theorem tab_mk {K : PySem.W.Frag} {x : Str} {f c T : Addr} {oc ec : Value} {od dd : Option Addr} {fd : FuncData} {sl sl2 : Array (Option Value)} {vs : Array Value} (a : PySem.W.nsIn K mainGlobals x = some (some (.ref f))) (l : K.lookup f = some ⟨oc, od, .func fd, sl⟩) (hc : fd.code = .ref c)
    (lc : K.lookup c = some ⟨ec, dd, .fields vs, sl2⟩) (hv : vs[11]? = some (.ref T)) : PySem.W.tabIn K x = some (c, T) := by
  unfold PySem.W.tabIn
  rw [a]
  simp only
  rw [l]
  simp only
  rw [hc]
  simp only
  rw [lc]
  simp only
  rw [hv]
def clsOk (K : PySem.W.Frag) (C fI : Addr) (cs : List (Addr × Nat)) (bit : Nat → Bool) : Bool :=
  PySem.W.findIn K (.ref C) "__setattr__" == some (some (.builtin "object.__setattr__")) && (PySem.W.subIn K (.ref C) (.type "BaseException") == some true && (PySem.W.typeIn K (.ref C) == some (.type "type") && (PySem.W.keepIn K (.ref C) &&
  (PySem.W.findIn K (.ref C) "__getattribute__" == some (some (.builtin "BaseException.__getattribute__")) && (PySem.W.findIn K (.ref C) "__getattr__" == some none && (PySem.W.hasDictIn K C && (PySem.W.findIn K (.ref C) "__class__" == some (some (.builtin "object.__class__")) &&
  (PySem.W.specialIn K (.builtin "object.__class__") "__get__" == some (some (.builtin "getset_descriptor.__get__")) && (PySem.W.takesIn K (.builtin "object.__class__") == some true && (PySem.W.mroIn K C (.type "object") == some true && (PySem.W.findIn K (.ref C) "__init__" == some (some (.ref fI)) &&
  (PySem.W.typeIn K (.ref fI) == some (.type "function") && (PySem.W.findIn K (.ref C) "at" == some none && cs.all fun c => PySem.W.kitOne K (.ref C) (.ref c.1) == some (bit c.2))))))))))))))
theorem cls_err {K : PySem.W.Frag} {C fI : Addr} {cs : List (Addr × Nat)} {bit : Nat → Bool} {nm q : Str} {N : Addr} {bs bm : List Value} {sn : List Str} {sub : List Value} {ab : Bool} {col : Option Bool} {dd : Option Addr} {m0 m1 m2 m3 m5 : Option Value}
    (h : clsOk K C fI cs bit = true) (xL : K.lookup C = some (excClassObj nm q C N bs bm true sn sub ab col dd m0 m1 m2 m3 m5 "ValueError.__new__")) (hb : PySem.HandSPX.refsVE bm = true) :
    ErrC K C fI ∧ ∀ c ∈ cs, PySem.W.kitOne K (.ref C) (.ref c.1) = some (bit c.2) := by
  unfold clsOk at h
  simp only [Bool.and_eq_true, beq_iff_eq, List.all_eq_true] at h
  obtain ⟨h1, h2, h3, h4, h5, h6, h7, h8, h9, h10, h11, h12, h13, h14, h15⟩ := h
  exact ⟨⟨⟨⟨nm, q, N, bs, bm, sn, sub, ab, col, dd, m0, m1, m2, m3, m5, xL, hb⟩, h1, h2, h3, h4⟩, ⟨h5, h6, h2, h7, h8, h9, h10, h11⟩, h12, h13, h14⟩, h15⟩

theorem all_mk {l : PySem.W.OpenLaw} {w : World} {K : PySem.W.Frag} {h : Heap} {mg : Str → Option Value} {fa c1 T1 c2 T2 fI cM cU cN cR fno fck fcs fde fal fsh fjo fis fre fso fdr fat fmx fgr fip fld flq flf ftd fbe flr flw : Addr} (X : K.In h) (G : h.Ns mainGlobals mg) (hfa : mg "law" = some (.ref fa))
    (htab1 : ∀ (c T : Addr), PySem.W.tabIn K "_check_symbols" = some (c, T) → PySem.W.CodeHd h c T ∧ h.get? T = some { cls := .none, data := .fields #[] })
    (htab2 : ∀ (c T : Addr), PySem.W.tabIn K "_deriving_names" = some (c, T) → PySem.W.CodeHd h c T ∧ h.get? T = some { cls := .none, data := .fields #[] })
    {odno anno odck anck odcs ancs odde ande odal anal odsh ansh odjo anjo odis anis odre anre odso anso oddr andr odat anat odmx anmx odgr angr odip anip odld anld odlq anlq odlf anlf odtd antd odbe anbe odlr anlr odlw anlw odI anI : Option Addr}
    {slno slck slcs slde slal slsh sljo slis slre slso sldr slat slmx slgr slip slld sllq sllf sltd slbe sllr sllw slI : Array (Option Value)}
    {ocno kVno dcno pmno ctno cdno occk kVck dcck pmck ctck cdck occs kVcs dccs pmcs ctcs ocde kVde dcde pmde ctde ocal kVal dcal pmal ctal cdal ocsh kVsh dcsh pmsh ctsh cdsh ocjo kVjo dcjo pmjo ctjo cdjo ocis kVis dcis pmis ctis cdis ocre kVre dcre pmre ctre cdre ocso kVso dcso pmso ctso cdso ocdr kVdr dcdr pmdr ctdr cddr ocat kVat dcat pmat ctat cdat ocmx kVmx dcmx pmmx ctmx cdmx ocgr kVgr dcgr pmgr ctgr cdgr ocip kVip dcip pmip ctip cdip ocld kVld dcld pmld ctld cdld oclq kVlq dclq pmlq ctlq cdlq oclf kVlf dclf pmlf ctlf cdlf octd kVtd dctd pmtd cttd cdtd ocbe kVbe dcbe pmbe ctbe cdbe oclr kVlr dclr pmlr ctlr cdlr oclw kVlw dclw pmlw ctlw cdlw ocI kVI dcI pmI ctI cdI : Value}
    {nmU qU : Str} {NU : Addr} {bsU bmU : List Value} {snU : List Str} {subU : List Value} {abU : Bool} {colU : Option Bool} {ddU : Option Addr} {m0U m1U m2U m3U m5U : Option Value}
    {nmN qN : Str} {NN : Addr} {bsN bmN : List Value} {snN : List Str} {subN : List Value} {abN : Bool} {colN : Option Bool} {ddN : Option Addr} {m0N m1N m2N m3N m5N : Option Value}
    {nmR qR : Str} {NR : Addr} {bsR bmR : List Value} {snR : List Str} {subR : List Value} {abR : Bool} {colR : Option Bool} {ddR : Option Addr} {m0R m1R m2R m3R m5R : Option Value}
    (ano : PySem.W.nsIn K mainGlobals "names_of" = some (some (.ref fno)))
    (lno : K.lookup fno = some ⟨ocno, odno, .func (PySem.W.fnOf "names_of" "names_of" (defArgs sNames) (defBody sNames) (defScope sNames) .none kVno dcno pmno anno cdno ctno), slno⟩)
    (cno : PySem.W.codeIn K cdno "names_of" = true)
    (kno : PySem.W.keepIn K (.ref fno) = true)
    (ack : PySem.W.nsIn K mainGlobals "check_grammar" = some (some (.ref fck)))
    (lck : K.lookup fck = some ⟨occk, odck, .func (PySem.W.fnOf "check_grammar" "check_grammar" (defArgs sCheck) (defBody sCheck) (defScope sCheck) .none kVck dcck pmck anck cdck ctck), slck⟩)
    (cck : PySem.W.codeIn K cdck "check_grammar" = true)
    (kck : PySem.W.keepIn K (.ref fck) = true)
    (acs : PySem.W.nsIn K mainGlobals "_check_symbols" = some (some (.ref fcs)))
    (lcs : K.lookup fcs = some ⟨occs, odcs, .func (PySem.W.fnOf "_check_symbols" "_check_symbols" (defArgs sChSy) (defBody sChSy) (defScope sChSy) .none kVcs dccs pmcs ancs (.ref c1) ctcs), slcs⟩)
    (ccs : PySem.W.codeIn K (.ref c1) "_check_symbols" = true)
    (kcs : PySem.W.keepIn K (.ref fcs) = true)
    {eccs : Value} {dc_cs : Option Addr} {vccs : Array Value} {sccs : Array (Option Value)}
    (lccs : K.lookup c1 = some ⟨eccs, dc_cs, .fields vccs, sccs⟩)
    (hvcs : vccs[11]? = some (.ref T1))
    (nTcs : K.lookup T1 = none)
    (ade : PySem.W.nsIn K mainGlobals "_deriving_names" = some (some (.ref fde)))
    (lde : K.lookup fde = some ⟨ocde, odde, .func (PySem.W.fnOf "_deriving_names" "_deriving_names" (defArgs sDeriv) (defBody sDeriv) (defScope sDeriv) .none kVde dcde pmde ande (.ref c2) ctde), slde⟩)
    (cde : PySem.W.codeIn K (.ref c2) "_deriving_names" = true)
    (kde : PySem.W.keepIn K (.ref fde) = true)
    {ecde : Value} {dc_de : Option Addr} {vcde : Array Value} {scde : Array (Option Value)}
    (lcde : K.lookup c2 = some ⟨ecde, dc_de, .fields vcde, scde⟩)
    (hvde : vcde[11]? = some (.ref T2))
    (nTde : K.lookup T2 = none)
    (aal : PySem.W.nsIn K mainGlobals "_stands_alone" = some (some (.ref fal)))
    (lal : K.lookup fal = some ⟨ocal, odal, .func (PySem.W.fnOf "_stands_alone" "_stands_alone" (defArgs sAlone) (defBody sAlone) (defScope sAlone) .none kVal dcal pmal anal cdal ctal), slal⟩)
    (cal : PySem.W.codeIn K cdal "_stands_alone" = true)
    (kal : PySem.W.keepIn K (.ref fal) = true)
    (ash : PySem.W.nsIn K mainGlobals "shortest_rows" = some (some (.ref fsh)))
    (lsh : K.lookup fsh = some ⟨ocsh, odsh, .func (PySem.W.fnOf "shortest_rows" "shortest_rows" (defArgs sShort) (defBody sShort) (defScope sShort) .none kVsh dcsh pmsh ansh cdsh ctsh), slsh⟩)
    (csh : PySem.W.codeIn K cdsh "shortest_rows" = true)
    (ksh : PySem.W.keepIn K (.ref fsh) = true)
    (ajo : PySem.W.nsIn K mainGlobals "_joined_row" = some (some (.ref fjo)))
    (ljo : K.lookup fjo = some ⟨ocjo, odjo, .func (PySem.W.fnOf "_joined_row" "_joined_row" (defArgs sJoin) (defBody sJoin) (defScope sJoin) .none kVjo dcjo pmjo anjo cdjo ctjo), sljo⟩)
    (cjo : PySem.W.codeIn K cdjo "_joined_row" = true)
    (kjo : PySem.W.keepIn K (.ref fjo) = true)
    (ais : PySem.W.nsIn K mainGlobals "_is_shorter" = some (some (.ref fis)))
    (lis : K.lookup fis = some ⟨ocis, odis, .func (PySem.W.fnOf "_is_shorter" "_is_shorter" (defArgs sIsSh) (defBody sIsSh) (defScope sIsSh) .none kVis dcis pmis anis cdis ctis), slis⟩)
    (cis : PySem.W.codeIn K cdis "_is_shorter" = true)
    (kis : PySem.W.keepIn K (.ref fis) = true)
    (are : PySem.W.nsIn K mainGlobals "reached_names" = some (some (.ref fre)))
    (lre : K.lookup fre = some ⟨ocre, odre, .func (PySem.W.fnOf "reached_names" "reached_names" (defArgs sReach) (defBody sReach) (defScope sReach) .none kVre dcre pmre anre cdre ctre), slre⟩)
    (cre : PySem.W.codeIn K cdre "reached_names" = true)
    (kre : PySem.W.keepIn K (.ref fre) = true)
    (aso : PySem.W.nsIn K mainGlobals "_symbols_of" = some (some (.ref fso)))
    (lso : K.lookup fso = some ⟨ocso, odso, .func (PySem.W.fnOf "_symbols_of" "_symbols_of" (defArgs sSymOf) (defBody sSymOf) (defScope sSymOf) .none kVso dcso pmso anso cdso ctso), slso⟩)
    (cso : PySem.W.codeIn K cdso "_symbols_of" = true)
    (kso : PySem.W.keepIn K (.ref fso) = true)
    (adr : PySem.W.nsIn K mainGlobals "_law_draws" = some (some (.ref fdr)))
    (ldr : K.lookup fdr = some ⟨ocdr, oddr, .func (PySem.W.fnOf "_law_draws" "_law_draws" (defArgs sDraws) (defBody sDraws) (defScope sDraws) .none kVdr dcdr pmdr andr cddr ctdr), sldr⟩)
    (cdr : PySem.W.codeIn K cddr "_law_draws" = true)
    (kdr : PySem.W.keepIn K (.ref fdr) = true)
    (aat : PySem.W.nsIn K mainGlobals "_law_at" = some (some (.ref fat)))
    (lat : K.lookup fat = some ⟨ocat, odat, .func (PySem.W.fnOf "_law_at" "_law_at" (defArgs sAt) (defBody sAt) (defScope sAt) .none kVat dcat pmat anat cdat ctat), slat⟩)
    (cat : PySem.W.codeIn K cdat "_law_at" = true)
    (kat : PySem.W.keepIn K (.ref fat) = true)
    (amx : PySem.W.nsIn K mainGlobals "_law_mix" = some (some (.ref fmx)))
    (lmx : K.lookup fmx = some ⟨ocmx, odmx, .func (PySem.W.fnOf "_law_mix" "_law_mix" (defArgs sMix) (defBody sMix) (defScope sMix) .none kVmx dcmx pmmx anmx cdmx ctmx), slmx⟩)
    (cmx : PySem.W.codeIn K cdmx "_law_mix" = true)
    (kmx : PySem.W.keepIn K (.ref fmx) = true)
    (agr : PySem.W.nsIn K mainGlobals "_law_grammar" = some (some (.ref fgr)))
    (lgr : K.lookup fgr = some ⟨ocgr, odgr, .func (PySem.W.fnOf "_law_grammar" "_law_grammar" (defArgs sGram) (defBody sGram) (defScope sGram) .none kVgr dcgr pmgr angr cdgr ctgr), slgr⟩)
    (cgr : PySem.W.codeIn K cdgr "_law_grammar" = true)
    (kgr : PySem.W.keepIn K (.ref fgr) = true)
    (aip : PySem.W.nsIn K mainGlobals "_law_input" = some (some (.ref fip)))
    (lip : K.lookup fip = some ⟨ocip, odip, .func (PySem.W.fnOf "_law_input" "_law_input" (defArgs sInput) (defBody sInput) (defScope sInput) .none kVip dcip pmip anip cdip ctip), slip⟩)
    (cip : PySem.W.codeIn K cdip "_law_input" = true)
    (kip : PySem.W.keepIn K (.ref fip) = true)
    (ald : PySem.W.nsIn K mainGlobals "_law_deriving" = some (some (.ref fld)))
    (lld : K.lookup fld = some ⟨ocld, odld, .func (PySem.W.fnOf "_law_deriving" "_law_deriving" (defArgs sLDer) (defBody sLDer) (defScope sLDer) .none kVld dcld pmld anld cdld ctld), slld⟩)
    (cld : PySem.W.codeIn K cdld "_law_deriving" = true)
    (kld : PySem.W.keepIn K (.ref fld) = true)
    (alq : PySem.W.nsIn K mainGlobals "_law_reached" = some (some (.ref flq)))
    (llq : K.lookup flq = some ⟨oclq, odlq, .func (PySem.W.fnOf "_law_reached" "_law_reached" (defArgs sLReach) (defBody sLReach) (defScope sLReach) .none kVlq dclq pmlq anlq cdlq ctlq), sllq⟩)
    (clq : PySem.W.codeIn K cdlq "_law_reached" = true)
    (klq : PySem.W.keepIn K (.ref flq) = true)
    (alf : PySem.W.nsIn K mainGlobals "_law_fault" = some (some (.ref flf)))
    (llf : K.lookup flf = some ⟨oclf, odlf, .func (PySem.W.fnOf "_law_fault" "_law_fault" (defArgs sLFault) (defBody sLFault) (defScope sLFault) .none kVlf dclf pmlf anlf cdlf ctlf), sllf⟩)
    (clf : PySem.W.codeIn K cdlf "_law_fault" = true)
    (klf : PySem.W.keepIn K (.ref flf) = true)
    (atd : PySem.W.nsIn K mainGlobals "_law_told" = some (some (.ref ftd)))
    (ltd : K.lookup ftd = some ⟨octd, odtd, .func (PySem.W.fnOf "_law_told" "_law_told" (defArgs sLTold) (defBody sLTold) (defScope sLTold) .none kVtd dctd pmtd antd cdtd cttd), sltd⟩)
    (ctd : PySem.W.codeIn K cdtd "_law_told" = true)
    (ktd : PySem.W.keepIn K (.ref ftd) = true)
    (abe : PySem.W.nsIn K mainGlobals "_law_best" = some (some (.ref fbe)))
    (lbe : K.lookup fbe = some ⟨ocbe, odbe, .func (PySem.W.fnOf "_law_best" "_law_best" (defArgs sLBest) (defBody sLBest) (defScope sLBest) .none kVbe dcbe pmbe anbe cdbe ctbe), slbe⟩)
    (cbe : PySem.W.codeIn K cdbe "_law_best" = true)
    (kbe : PySem.W.keepIn K (.ref fbe) = true)
    (alr : PySem.W.nsIn K mainGlobals "_law_rows" = some (some (.ref flr)))
    (llr : K.lookup flr = some ⟨oclr, odlr, .func (PySem.W.fnOf "_law_rows" "_law_rows" (defArgs sLRows) (defBody sLRows) (defScope sLRows) .none kVlr dclr pmlr anlr cdlr ctlr), sllr⟩)
    (clr : PySem.W.codeIn K cdlr "_law_rows" = true)
    (klr : PySem.W.keepIn K (.ref flr) = true)
    (alw : PySem.W.nsIn K mainGlobals "law" = some (some (.ref flw)))
    (llw : K.lookup flw = some ⟨oclw, odlw, .func (PySem.W.fnOf "law" "law" (defArgs sLaw) (defBody sLaw) (defScope sLaw) .none kVlw dclw pmlw anlw cdlw ctlw), sllw⟩)
    (clw : PySem.W.codeIn K cdlw "law" = true)
    (klw : PySem.W.keepIn K (.ref flw) = true)
    (aM : PySem.W.nsIn K mainGlobals "MendError" = some (some (.ref cM)))
    (gU : PySem.W.nsIn K mainGlobals "UnknownSymbol" = some (some (.ref cU)))
    (xU : K.lookup cU = some (excClassObj nmU qU cU NU bsU bmU true snU subU abU colU ddU m0U m1U m2U m3U m5U "ValueError.__new__"))
    (bU : PySem.HandSPX.refsVE bmU = true)
    (gN : PySem.W.nsIn K mainGlobals "NoRow" = some (some (.ref cN)))
    (xN : K.lookup cN = some (excClassObj nmN qN cN NN bsN bmN true snN subN abN colN ddN m0N m1N m2N m3N m5N "ValueError.__new__"))
    (bN : PySem.HandSPX.refsVE bmN = true)
    (gR : PySem.W.nsIn K mainGlobals "NotReached" = some (some (.ref cR)))
    (xR : K.lookup cR = some (excClassObj nmR qR cR NR bsR bmR true snR subR abR colR ddR m0R m1R m2R m3R m5R "ValueError.__new__"))
    (bR : PySem.HandSPX.refsVE bmR = true)
    (i0 : PySem.W.findIn K (.ref cU) "__init__" = some (some (.ref fI)))
    (oU : clsOk K cU fI [] (fun _ => false) = true)
    (oN : clsOk K cN fI [] (fun _ => false) = true)
    (oR : clsOk K cR fI [] (fun _ => false) = true)
    (lI : K.lookup fI = some ⟨ocI, odI, .func (PySem.W.fnOf "__init__" "MendError.__init__" (defArgs sInit) (defBody sInit) (defScope sInit) .none kVI dcI pmI anI cdI ctI), slI⟩)
    (eI : PySem.W.codeIn K cdI "MendError.__init__" = true)
    (kI : PySem.W.keepIn K (.ref fI) = true)
    (e1 : PySem.W.exmOne K (.ref cU) (.ref cU) = some true)
    (e2 : PySem.W.exmOne K (.ref cN) (.ref cU) = some false)
    (e3 : PySem.W.exmOne K (.ref cN) (.ref cN) = some true)
    (e4 : PySem.W.exmOne K (.ref cR) (.ref cU) = some false)
    (e5 : PySem.W.exmOne K (.ref cR) (.ref cN) = some false)
    (e6 : PySem.W.exmOne K (.ref cR) (.ref cR) = some true)
    {tkv1 : Tok}
    (v1 : PySem.W.nsIn K mainGlobals "LONGEST_ROW" = some (some (.int 60 tkv1)))
    (z_len : PySem.W.nsIn K mainGlobals "len" = some none)
    (z_all : PySem.W.nsIn K mainGlobals "all" = some none)
    (z_range : PySem.W.nsIn K mainGlobals "range" = some none)
    (z_min : PySem.W.nsIn K mainGlobals "min" = some none)
    (z_abs : PySem.W.nsIn K mainGlobals "abs" = some none)
    (z_int : PySem.W.nsIn K mainGlobals "int" = some none)
    (z_isinstance : PySem.W.nsIn K mainGlobals "isinstance" = some none)
    (z_list : PySem.W.nsIn K mainGlobals "list" = some none)
    (z_dict : PySem.W.nsIn K mainGlobals "dict" = some none)
    (z_repr : PySem.W.nsIn K mainGlobals "repr" = some none)
    (z_sorted : PySem.W.nsIn K mainGlobals "sorted" = some none)
    (z_enumerate : PySem.W.nsIn K mainGlobals "enumerate" = some none)
    : LawTop l w K 63 "script" mg fa h := by
  obtain ⟨hC1, hT1⟩ := htab1 c1 T1 (tab_mk acs lcs rfl lccs hvcs)
  obtain ⟨hC2, hT2⟩ := htab2 c2 T2 (tab_mk ade lde rfl lcde hvde)
  have e := hfa.symm.trans (PySem.W.mg_of X G alw)
  cases e
  have m := fun {x : Str} (z : PySem.W.nsIn K mainGlobals x = some none) => PySem.W.mg_none_of X G z
  have Fno := fun_mk (st := sNames) lno cno kno
  have Fck := fun_mk (st := sCheck) lck cck kck
  have Fcs := fun_mk (st := sChSy) lcs ccs kcs
  have Fde := fun_mk (st := sDeriv) lde cde kde
  have Fal := fun_mk (st := sAlone) lal cal kal
  have Fsh := fun_mk (st := sShort) lsh csh ksh
  have Fjo := fun_mk (st := sJoin) ljo cjo kjo
  have Fis := fun_mk (st := sIsSh) lis cis kis
  have Fre := fun_mk (st := sReach) lre cre kre
  have Fso := fun_mk (st := sSymOf) lso cso kso
  have Fdr := fun_mk (st := sDraws) ldr cdr kdr
  have Fat := fun_mk (st := sAt) lat cat kat
  have Fmx := fun_mk (st := sMix) lmx cmx kmx
  have Fgr := fun_mk (st := sGram) lgr cgr kgr
  have Fip := fun_mk (st := sInput) lip cip kip
  have Fld := fun_mk (st := sLDer) lld cld kld
  have Flq := fun_mk (st := sLReach) llq clq klq
  have Flf := fun_mk (st := sLFault) llf clf klf
  have Ftd := fun_mk (st := sLTold) ltd ctd ktd
  have Fbe := fun_mk (st := sLBest) lbe cbe kbe
  have Flr := fun_mk (st := sLRows) llr clr klr
  have Flw := fun_mk (st := sLaw) llw clw klw
  have FI := fun_mk (st := sInit) lI eI kI
  have bno := Fno.binds (ps := ["grammar"]) fun _ _ _ _ _ _ us hl => match us, hl with | [_], _ => rfl
  have bck := Fck.binds (ps := ["grammar", "kinds"]) fun _ _ _ _ _ _ us hl => match us, hl with | [_, _], _ => rfl
  have bcs := Fcs.binds (ps := ["grammar", "known"]) fun _ _ _ _ _ _ us hl => match us, hl with | [_, _], _ => rfl
  have bde := Fde.binds (ps := ["grammar"]) fun _ _ _ _ _ _ us hl => match us, hl with | [_], _ => rfl
  have bal := Fal.binds (ps := ["symbol"]) fun _ _ _ _ _ _ us hl => match us, hl with | [_], _ => rfl
  have bsh := Fsh.binds (ps := ["grammar"]) fun _ _ _ _ _ _ us hl => match us, hl with | [_], _ => rfl
  have bjo := Fjo.binds (ps := ["symbols", "rows"]) fun _ _ _ _ _ _ us hl => match us, hl with | [_, _], _ => rfl
  have bis := Fis.binds (ps := ["one", "two"]) fun _ _ _ _ _ _ us hl => match us, hl with | [_, _], _ => rfl
  have bre := Fre.binds (ps := ["grammar"]) fun _ _ _ _ _ _ us hl => match us, hl with | [_], _ => rfl
  have bso := Fso.binds (ps := ["grammar", "name"]) fun _ _ _ _ _ _ us hl => match us, hl with | [_, _], _ => rfl
  have bdr := Fdr.binds (ps := ["script"]) fun _ _ _ _ _ _ us hl => match us, hl with | [_], _ => rfl
  have bat := Fat.binds (ps := ["draws", "k", "many"]) fun _ _ _ _ _ _ us hl => match us, hl with | [_, _, _], _ => rfl
  have bmx := Fmx.binds (ps := ["draws", "k", "many"]) fun _ _ _ _ _ _ us hl => match us, hl with | [_, _, _], _ => rfl
  have bgr := Fgr.binds (ps := ["draws", "k", "most"]) fun _ _ _ _ _ _ us hl => match us, hl with | [_, _, _], _ => rfl
  have bip := Fip.binds (ps := ["draws"]) fun _ _ _ _ _ _ us hl => match us, hl with | [_], _ => rfl
  have bld := Fld.binds (ps := ["grammar"]) fun _ _ _ _ _ _ us hl => match us, hl with | [_], _ => rfl
  have blq := Flq.binds (ps := ["grammar"]) fun _ _ _ _ _ _ us hl => match us, hl with | [_], _ => rfl
  have blf := Flf.binds (ps := ["grammar", "kinds"]) fun _ _ _ _ _ _ us hl => match us, hl with | [_, _], _ => rfl
  have btd := Ftd.binds (ps := ["grammar", "kinds"]) fun _ _ _ _ _ _ us hl => match us, hl with | [_, _], _ => rfl
  have bbe := Fbe.binds (ps := ["grammar", "rows", "name"]) fun _ _ _ _ _ _ us hl => match us, hl with | [_, _, _], _ => rfl
  have blr := Flr.binds (ps := ["grammar"]) fun _ _ _ _ _ _ us hl => match us, hl with | [_], _ => rfl
  have blw := Flw.binds (ps := ["script"]) fun _ _ _ _ _ _ us hl => match us, hl with | [_], _ => rfl
  have bI := FI.binds (ps := ["self", "at"]) fun _ _ _ _ _ _ us hl => match us, hl with | [_, _], _ => rfl
  obtain ⟨EU, _⟩ := cls_err oU xU bU
  obtain ⟨EN, _⟩ := cls_err oN xN bN
  obtain ⟨ER, _⟩ := cls_err oR xR bR
  refine ⟨PySem.W.fnOf "law" "law" (defArgs sLaw) (defBody sLaw) (defScope sLaw) .none kVlw dclw pmlw anlw cdlw ctlw, [(c1, T1), (c2, T2)], spLaw K T1 T2, fun p hp => ?_, fun s v => .of_eq rfl, fun H a ns hl hH hS => ⟨a, ns, rfl, hS, hl, ⟨⟨#[], hH (c1, T1) (by simp), True.intro⟩, ⟨#[], hH (c2, T2) (by simp), True.intro⟩⟩, fun _ => rfl⟩, fun base hK hN hTB => ?_⟩
  · rcases List.mem_cons.mp hp with rfl | hp
    · exact ⟨hC1, hT1, nTcs⟩
    · obtain rfl := List.mem_singleton.mp hp
      exact ⟨hC2, hT2, nTde⟩
  · have tb1 := hTB (c1, T1) (by simp)
    have TB1 : GxR.TabB base mg c1 T1 := ⟨tb1.code, tb1.bm, tb1.gP⟩
    have tb2 := hTB (c2, T2) (by simp)
    have TB2 : GxR.TabB base mg c2 T2 := ⟨tb2.code, tb2.bm, tb2.gP⟩
    have g := fun {x : Str} {v : Value} (z : PySem.W.nsIn K mainGlobals x = some (some v)) => PySem.W.mg_of X G z
    have GI : FnOk l.prog w K mg base CX0 1 fI _ ["self", "at"] (spInit K) := ok_init (k := 0) FI
    have Gno : FnOk l.prog w K mg base CX0 1 fno _ ["grammar"] spNames := ok_names Fno
    have Gal : FnOk l.prog w K mg base CX0 1 fal _ ["symbol"] spAlone := ok_alone Fal
    have Gso : FnOk l.prog w K mg base CX0 1 fso _ ["grammar", "name"] spSymOf := ok_symof Fso
    have Gre := ok_reach Fre Gso kso bso (g aso) Gal kal bal (g aal) (m z_sorted)
    have Gcs := ok_chsy Fcs rfl TB1 (T2 := T2) GI bI EU (g gU) (m z_enumerate) (m z_all)
    have Gde := ok_deriv Fde rfl TB2 (T1 := T1) Gal kal bal (g aal) (m z_all)
    have Gck := ok_check Fck Gcs kcs bcs (g acs) Gno kno bno (g ano) Gde kde bde (g ade) Gre kre bre (g are) GI bI EN ER (g gN) (g gR) (m z_enumerate) (m z_list)
    have Gjo := ok_join Fjo Gal kal bal (g aal) (m z_len) (g v1)
    have Gis : FnOk l.prog w K mg base CX0 1 fis _ ["one", "two"] spIsSh := ok_issh Fis (m z_len)
    have Gsh := ok_short Fsh Gjo kjo bjo (g ajo) Gis kis bis (g ais) Gno kno bno (g ano)
    have Gat : FnOk l.prog w K mg base CX0 1 fat _ ["draws", "k", "many"] (spAt K) := ok_at (k := 0) Fat (m z_len) (m z_int)
    have Gmx : FnOk l.prog w K mg base CX0 1 fmx _ ["draws", "k", "many"] (spMix K) := ok_mix Fmx (m z_len) (m z_int)
    have Ggr := ok_gram Fgr Gmx kmx bmx (g amx) (m z_range)
    have Gip := ok_input Fip Ggr kgr bgr (g agr) Gat kat bat (g aat) Gmx kmx bmx (g amx) (m z_len)
    have Gld : FnOk l.prog w K mg base CX0 1 fld _ ["grammar"] spLDer := ok_lder Fld (m z_range) (m z_len)
    have Glq : FnOk l.prog w K mg base CX0 1 flq _ ["grammar"] spLReach := ok_lreach Flq (m z_range) (m z_len)
    have Glf := ok_lfault Flf Gld kld bld (g ald) Glq klq blq (g alq) (m z_range) (m z_len)
    have Gtd := ok_ltold Ftd Gck kck bck (g ack) EU EN ER (g gU) (g gN) (g gR) (g aM) ⟨e1, e2, e3, e4, e5, e6⟩
    have Gbe : FnOk l.prog w K mg base CX0 1 fbe _ ["grammar", "rows", "name"] spBest := ok_best Fbe (m z_len)
    have Glr := ok_lrows Flr Gbe kbe bbe (g abe) (m z_range) (m z_len)
    exact ok_law Flw (ok_draws (k := 0) Fdr (m z_range) (m z_min) (m z_len) (m z_abs) (m z_int)) kdr bdr (g adr)
      Gip kip bip (g aip) Gtd ktd btd (g atd) Glf klf blf (g alf) Gre kre bre (g are) Glq klq blq (g alq) Gsh ksh bsh (g ash) Glr klr blr (g alr)
      (m z_isinstance) (m z_list) (m z_dict) (m z_sorted) (m z_repr)
end Ld

open PySem PySem.W PyProof.Rows
set_option maxRecDepth 100000 in
set_option maxHeartbeats 0 in
theorem PySem.Challenge.cw_leastmend_k02_sound_grammars_holds : PySem.Challenge.rw_leastmend_k02_sound_grammars.Holds := by
  w_on; o_law; k_head; (case hw => w_witness2)
  k_fill
  refine Lg.walk_top (l := PySem.Challenge.rw_leastmend_k02_sound_grammars) (n := 63) (x := "script") rfl (by decide) rfl (fun w h Y => PySem.W.kIn_of Y) ?F
  case F =>
    intro w mg fa h Y KX G hmg htab
    refine' Ld.all_mk KX G hmg (fun c T => htab "_check_symbols" _ c T (by rfl)) (fun c T => htab "_deriving_names" _ c T (by rfl)) ?ano ?lno ?cno ?kno ?ack ?lck ?cck ?kck ?acs ?lcs ?ccs ?kcs ?lccs ?hvcs ?nTcs ?ade ?lde ?cde ?kde ?lcde ?hvde ?nTde ?aal ?lal ?cal ?kal ?ash ?lsh ?csh ?ksh ?ajo ?ljo ?cjo ?kjo ?ais ?lis ?cis ?kis ?are ?lre ?cre ?kre ?aso ?lso ?cso ?kso ?adr ?ldr ?cdr ?kdr ?aat ?lat ?cat ?kat ?amx ?lmx ?cmx ?kmx ?agr ?lgr ?cgr ?kgr ?aip ?lip ?cip ?kip ?ald ?lld ?cld ?kld ?alq ?llq ?clq ?klq ?alf ?llf ?clf ?klf ?atd ?ltd ?ctd ?ktd ?abe ?lbe ?cbe ?kbe ?alr ?llr ?clr ?klr ?alw ?llw ?clw ?klw ?aM ?gU ?xU ?bU ?gN ?xN ?bN ?gR ?xR ?bR ?i0 ?oU ?oN ?oR ?lI ?eI ?kI ?e1 ?e2 ?e3 ?e4 ?e5 ?e6 ?v1 ?z_len ?z_all ?z_range ?z_min ?z_abs ?z_int ?z_isinstance ?z_list ?z_dict ?z_repr ?z_sorted ?z_enumerate
    (case ano => k_is)
    (case lno => k_is)
    (case cno => k_is)
    (case kno => k_is)
    (case ack => k_is)
    (case lck => k_is)
    (case cck => k_is)
    (case kck => k_is)
    (case acs => k_is)
    (case lcs => k_is)
    (case ccs => k_is)
    (case kcs => k_is)
    (case lccs => k_is)
    (case hvcs => rfl)
    (case nTcs => first | kernel_rfl | rfl)
    (case ade => k_is)
    (case lde => k_is)
    (case cde => k_is)
    (case kde => k_is)
    (case lcde => k_is)
    (case hvde => rfl)
    (case nTde => first | kernel_rfl | rfl)
    (case aal => k_is)
    (case lal => k_is)
    (case cal => k_is)
    (case kal => k_is)
    (case ash => k_is)
    (case lsh => k_is)
    (case csh => k_is)
    (case ksh => k_is)
    (case ajo => k_is)
    (case ljo => k_is)
    (case cjo => k_is)
    (case kjo => k_is)
    (case ais => k_is)
    (case lis => k_is)
    (case cis => k_is)
    (case kis => k_is)
    (case are => k_is)
    (case lre => k_is)
    (case cre => k_is)
    (case kre => k_is)
    (case aso => k_is)
    (case lso => k_is)
    (case cso => k_is)
    (case kso => k_is)
    (case adr => k_is)
    (case ldr => k_is)
    (case cdr => k_is)
    (case kdr => k_is)
    (case aat => k_is)
    (case lat => k_is)
    (case cat => k_is)
    (case kat => k_is)
    (case amx => k_is)
    (case lmx => k_is)
    (case cmx => k_is)
    (case kmx => k_is)
    (case agr => k_is)
    (case lgr => k_is)
    (case cgr => k_is)
    (case kgr => k_is)
    (case aip => k_is)
    (case lip => k_is)
    (case cip => k_is)
    (case kip => k_is)
    (case ald => k_is)
    (case lld => k_is)
    (case cld => k_is)
    (case kld => k_is)
    (case alq => k_is)
    (case llq => k_is)
    (case clq => k_is)
    (case klq => k_is)
    (case alf => k_is)
    (case llf => k_is)
    (case clf => k_is)
    (case klf => k_is)
    (case atd => k_is)
    (case ltd => k_is)
    (case ctd => k_is)
    (case ktd => k_is)
    (case abe => k_is)
    (case lbe => k_is)
    (case cbe => k_is)
    (case kbe => k_is)
    (case alr => k_is)
    (case llr => k_is)
    (case clr => k_is)
    (case klr => k_is)
    (case alw => k_is)
    (case llw => k_is)
    (case clw => k_is)
    (case klw => k_is)
    (case aM => k_is)
    (case gU => k_is)
    (case xU => k_is)
    (case bU => decide +kernel)
    (case gN => k_is)
    (case xN => k_is)
    (case bN => decide +kernel)
    (case gR => k_is)
    (case xR => k_is)
    (case bR => decide +kernel)
    (case i0 => k_is)
    (case oU => kernel_rfl)
    (case oN => kernel_rfl)
    (case oR => kernel_rfl)
    (case lI => k_is)
    (case eI => k_is)
    (case kI => k_is)
    (case e1 => first | k_is | kernel_rfl)
    (case e2 => first | k_is | kernel_rfl)
    (case e3 => first | k_is | kernel_rfl)
    (case e4 => first | k_is | kernel_rfl)
    (case e5 => first | k_is | kernel_rfl)
    (case e6 => first | k_is | kernel_rfl)
    (case v1 => k_is)
    (case z_len => k_is)
    (case z_all => k_is)
    (case z_range => k_is)
    (case z_min => k_is)
    (case z_abs => k_is)
    (case z_int => k_is)
    (case z_isinstance => k_is)
    (case z_list => k_is)
    (case z_dict => k_is)
    (case z_repr => k_is)
    (case z_sorted => k_is)
    (case z_enumerate => k_is)
