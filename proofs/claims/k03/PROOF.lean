import PyProof.Rows.All
import Wide.All
import OpenK.AllK
import Wide.FinOn
import HandS.ForMost
import HandS.AnyAll
import HandS.Walk
import HandS.IsInst
import HandS.EndTab
import HandS.Deep
import PyProof.ReprRoads
import HandS.DeepEq
import HandS.DictComp
import HandS.DictEq
import PyProof.P3Eq
import PyProof.DictFindH
import HandS.GenOver
import HandS.GenList
import HandS.SetBool
import HandS.SetKeys
import HandS.SetTxt0
import HandS.Strs
import HandS.SetTxtIn
import HandS.SetFor
import HandS.Bytes
import KE.LtData
import HandS.ForExc
import HandS.ExcInit
import HandS.ExcIs
import HandS.TryMany
import HandS.Text
import HandS.TupLe
import HandS.ExcField
import PySem.Challenge.RW_leastmend_k03_lexicons
set_option Elab.async false
set_option linter.all false
set_option maxRecDepth 100000
set_option maxHeartbeats 4000000
/-! all(test for x in e): any thing that is walked, any test that leaves the heap's objects as they stand; the test may read what the def holds. -/
namespace Gc
open PySem PySem.Spec PyProof.Rows L2 GxR
/-- the code object of the inner block, found in the table or made and entered there: one end for both -/
theorem code_either {M : Model} {A : Around} {E : Value → Shared → Prop} {s : Shared} {env : Env} {c P : Addr} {ps : Array Value} {gp : Pos} {qn : Str} {scope : Scope} {Q : Value → Shared → Prop}
    (hc : env.code = .ref c) (C : PySem.W.CodeHd s.heap c P) (tab : s.heap.get? P = some { cls := .none, data := .fields ps }) (ok : TriplesOk ps.toList)
    (go : ∀ (code : Value) (h3 : Heap) (tk : Nat) (more : Array Value), Heap.ExtBut P s.heap h3 → s.heap.objs.size ≤ h3.objs.size → h3.get? P = some { cls := .none, data := .fields (ps ++ more) } → TriplesOk (ps ++ more).toList → Q code { s with heap := h3, toks := tk }) :
    wpAny M A (genexprCode env gp qn scope) Q E s := by
  cases found : codeAmong gp ps.toList with
  | some cv =>
    have q := go cv s.heap s.toks #[] (Heap.ExtBut.refl _ _) (Nat.le_refl _) (by rw [Array.append_empty]; exact tab) (by rw [Array.append_empty]; exact ok)
    exact wpAny_genexprCode_hit hc (C.code tab ok) found q
  | none =>
    refine wpAny_genexprCodeX hc (C.code tab ok) (C.tab tab) found fun c' h3 tk ext big small made _ entered _ => ?_
    obtain ⟨_, _, _, _, _, _, _, _, _, _, _, _, _, _, _, _, _, _, _, ok3, _⟩ := made
    exact go (.ref c') h3 tk _ ext (Nat.le_of_lt (Nat.lt_of_le_of_lt big small)) entered.2 ok3
/-- what is walked: xv in the heap h1 gives n items, the i-th under Pf i; its iterator is the next new object; it reads nothing of the table at P -/
def SrcOk (prog : Program) (w : World) (h1 : Heap) (P : Addr) (xv : Value) (n : Nat) (Pf : Nat → Value → Prop) : Prop :=
  ∃ fp : List Addr, (∀ b ∈ fp, b ≤ h1.objs.size) ∧ P ∉ fp ∧
    ∀ (A : Around) (E : Value → Shared → Prop) (s : Shared) (Q : Value → Shared → Prop), s.heap = h1 →
      (∀ (o : Obj) (St : Nat → Heap → Prop), (∀ A' : Around, A'.handled = none → Walks prog w A' h1.objs.size fp [h1.objs.size] n Pf St) → St 0 (h1.push o) → Q (.ref h1.objs.size) { s with heap := h1.push o }) → wpAny (model prog w) A (pyIter xv) Q E s
/-- the environment in which the inner block runs -/
abbrev blkEnv (X : Cx) (scope : Scope) (C : Addr) (code : Value) : Env := genEnv scope (cloFrom X.env.cells scope.names []) C code builtinsNs X.env
/-- the test: of an item under Pf i it gives pb i, wherever all that stood in h1 (but the table at P) stands -/
def EltG (X : Cx) (scope : Scope) (x : Str) (elt : Expr) (P : Addr) (h1 : Heap) (Pf : Nat → Value → Prop) (pb : Nat → Bool) : Prop :=
  ∀ (C : Addr) (code : Value) (A' : Around) (E' : Value → Shared → Prop) (i : Nat) (v : Value) (s₂ : Shared) (m₂ : Str → Option Value), A'.handled = none → A'.depth ≤ X.A.depth + 1 → A'.units ≤ X.A.units + 8 → Pf i v →
    (∀ b o, b ≠ P → h1.get? b = some o → s₂.heap.get? b = some o) → s₂.heap.Ns C m₂ → m₂ x = some v →
    wpAny (model X.prog X.w) A' (eval elt (blkEnv X scope C code)) (fun y s₃ => y = .bool (pb i) ∧ Keeps s₂ s₃) E' s₂
/-- the block's own scope, over the def's scope sc -/
structure GenSc (sc scope : Scope) (x : Str) : Prop where
  kind : scope.kind = .function
  co : scope.isCoroutine = false
  cell : ∀ y ∈ scope.names, y.2 ≠ .cell
  dot : scope.names.lookup (".0" : Str) = some NameKind.local
  loc : scope.names.lookup x = some .local
  free : ∀ y ∈ scope.names, y.2 = .free → sc.names.lookup y.1 = some .cell
section
variable {X : Cx}
/-- all(test for x in e) -/
def tAllG (X : Cx) (scope : Scope) (x : Str) (elt : Expr) (P : Addr) (te : TE) : TE := fun σ H Q => te σ H fun v H1 => ∃ (n : Nat) (Pf : Nat → Value → Prop) (pb : Nat → Bool),
  (∀ (pins : List (Addr × Obj)) (s1 : Shared) (xv : Value), Inv X pins σ H1 s1 → RelV v xv → SrcOk X.prog X.w s1.heap P xv n Pf ∧ EltG X scope x elt P s1.heap Pf pb) ∧ TabG H1 P ∧ ∀ H2, Tabbed P H1 H2 → Q (.bl ((List.range n).all pb)) H2
theorem pe_allG {c P : Addr} {elt iter : Expr} {x : Str} {px p pos gpos : Pos} {scope : Scope} {te : TE} {k : Nat}
    (hr : Room k X.A) (hg : Gl X "all") (hm : X.mg "all" = none) (hb : bootBuiltins "all" = some (.builtin "all")) (TB : TabB X.base X.mg c P) (hcode : X.env.code = .ref c) (S : GenSc X.env.scope scope x) (hi : PE X iter te)
    (hs : ∀ v, genFold iter X.env v = pure v)
    (he : starEach [.GeneratorExp elt [⟨.Name x px, iter, [], 0⟩] scope gpos] X.env = (false, eval (.GeneratorExp elt [⟨.Name x px, iter, [], 0⟩] scope gpos) X.env) :: starEach [] X.env := by rfl) :
    PE X (.Call (.Name "all" p) [.GeneratorExp elt [⟨.Name x px, iter, [], 0⟩] scope gpos] [] pos) (tAllG X scope x elt P te) := by
  refine ⟨fun pins s σ H Q I h => ?_⟩
  have has : ∀ y ∈ scope.names, y.2 = .free → ∃ a, X.env.cells.lookup y.1 = some a := fun y hy e => I.ok.has _ (.inl (S.free y hy e))
  refine wpAny_Call_Name_kw (ld_blt I hg hm hb ?_)
  refine PyProof.Rows.callWith_builtin1 ?_ he (by rfl)
  rw [he]
  show wpAny _ _ (spliced (_ :: backTo pos (starEach [] X.env))) _ _ _
  refine Calls.spliced_cons ?_
  refine wpAny_GeneratorExp_walksQD hr.hd S.co (closure_ok has) S.cell S.dot S.loc S.kind (by have := hr.dp; omega) ?_ hs
  refine thn (hi.run pins s σ H _ I h) fun xv s1 hv => ?_
  obtain ⟨v, H1, J, rv, n, Pf, pb, sem, ⟨ps, hP, trip⟩, fin⟩ := hv
  obtain ⟨⟨fp, below, apart, begins⟩, test⟩ := sem pins s1 xv J rv
  refine begins _ _ s1 _ rfl fun o St W at0 => ⟨J.nolimit.push o, ?_⟩
  have tab1 : s1.heap.get? P = some { cls := .none, data := .fields ps } := J.hok P _ hP
  have tabLt : P < s1.heap.objs.size := Heap.lt_size tab1
  have tab2 := Heap.get?_push_of_some o tab1
  have big2 : (s1.heap.push o).objs.size = s1.heap.objs.size + 1 := Heap.size_push ..
  refine code_either hcode (TB.code.keeps fun b u e => Heap.get?_push_of_some _ (J.bk b u e)) tab2 trip fun code h3 tk more ext big tab3 trip3 => ?_
  -- what stood in s1 stands in h3, the table grown
  have stands : ∀ b u, b ≠ P → s1.heap.get? b = some u → h3.get? b = some u := fun b u ne e => ext b u ne (Heap.get?_push_of_some _ e)
  obtain ⟨statLt, statNe⟩ : cStatics < s1.heap.objs.size ∧ cStatics ≠ P := by
    obtain ⟨mc, ns, _⟩ := J.nolimit
    refine ⟨ns.lt, fun z => ?_⟩
    obtain ⟨o1, es, ep, ho, hd, _⟩ := ns
    rw [z, tab1] at ho
    cases ho
    cases hd
  obtain ⟨bm, ob, b1, b2, b3, b4, b5, b6, b7, b8⟩ := TB.bm
  have globs : h3.Ns X.env.globals X.mg := by
    rw [J.ok.glob]
    exact ((J.mod.glob.keeps J.bk).push o).extBut ext TB.gP
  refine wpAny_builtinsFor globs b1 b2 (stands _ _ b4 (J.bk _ _ b5)) b6 b7 b8 ?_
  have newLt : s1.heap.objs.size < h3.objs.size := by
    have big' : (s1.heap.push o).objs.size ≤ h3.objs.size := big
    omega
  refine ⟨s1.heap.objs.size, fp, [s1.heap.objs.size], n, Pf, St, (fun _ => true), (fun i y => y = .bool (pb i)), rfl, W, ?_, fun b hb => ?_, (J.nolimit.push o).extBut ext statNe, fun z => ?_, fun href up => ?_, ?_⟩
  · exact (W X.A hr.hd).frame _ _ _ at0 fun b hb u e => ext b u (fun z => apart (by rw [← z]; exact hb)) e
  · exact Nat.lt_of_le_of_lt (below b hb) newLt
  · exact Nat.ne_of_lt statLt (List.mem_singleton.mp z)
  · refine ⟨fun A' E' i v s₂ m₂ _ _ _ _ _ _ _ => ?_, fun A' E' i v s₂ m₂ h1 h2 h3' hv _ hn hx old => ?_⟩
    · rw [List.forIn_nil]
      exact wpAny_pure ⟨rfl, keeps_refl _⟩
    · refine test _ _ A' E' i v s₂ m₂ h1 h2 h3' hv (fun b u ne e => ?_) hn hx
      have lt := Heap.lt_size e
      refine old b (List.mem_range.mpr (Nat.lt_trans lt newLt)) (fun z => ?_) u (up _ _ (stands b u ne e))
      exact Nat.ne_of_lt lt (List.mem_singleton.mp z)
  · intro g h5 tk5 gs bare gBig gLast up5 WG atG
    rw [GxR.passing_true, List.length_range] at WG
    refine Calls.spliced_nil (call_all_walkS (WG.in4_1.self 0 _ _ _ atG ⟨g, _, _, _, n, _, _, pb, rfl, WG.in4_1, atG, fun j y sj Qj Ej item q => ?_, fun s' mv => ?_⟩))
    · obtain ⟨i, at_, rfl⟩ := item
      obtain ⟨_, ij⟩ := List.getElem?_eq_some_iff.mp at_
      rw [List.getElem_range] at ij
      rw [← ij]
      exact wpAny_truthy_bool q
    · -- behind the walk: the table has grown, all else stands
      have off : ∀ b u, s1.heap.get? b = some u → b ∉ h3.objs.size :: [s1.heap.objs.size] := fun b u e hb => by
        have lt := Heap.lt_size e
        rcases List.mem_cons.mp hb with z | z
        · exact Nat.lt_irrefl _ (Nat.lt_trans (by rw [← z]; exact lt) newLt)
        · exact Nat.ne_of_lt lt (List.mem_singleton.mp z)
      have K := inv_tab (more := more) (h' := s'.heap) (g' := s'.gens) (d' := s'.drawn) (t' := s'.toks) J hP (fun b u ne e => mv.heap b u (off b u e) (up5 b u (stands b u ne e)))
        (mv.heap P _ (off P _ tab1) (up5 P _ tab3)) (AllBare.movedS (J.bare.push bare) mv)
      rw [sh_eta s1 s' mv.os] at K
      exact ⟨.bl _, _, K, rfl, fin _ ⟨⟨ps ++ more, upd_same, trip3⟩, fun b ne => upd_ne ne⟩⟩
end
/-! ### captured names -/
theorem mem_of_lookup {α : Type} {n : Str} {c : α} : ∀ {l : List (Str × α)}, l.lookup n = some c → (n, c) ∈ l
  | (k, v) :: r, h => by
    rw [List.lookup_cons] at h
    by_cases e : n = k
    · have e' : (n == k) = true := by rw [e]; simp
      rw [e'] at h
      cases h
      rw [e]
      exact List.mem_cons_self
    · rw [beq_eq_false_iff_ne.mpr e] at h
      exact List.mem_cons_of_mem _ (mem_of_lookup h)
theorem cap_lookup {cells : List (Str × Addr)} {names : List (Str × NameKind)} {n : Str} {c : Addr} (hm : (n, NameKind.free) ∈ names) (hc : cells.lookup n = some c) : (cloFrom cells names []).lookup n = some c := by
  obtain ⟨d, hd⟩ := mem_lookup (cloFrom_has (acc := []) (cells := cells) hm)
  rcases cloFrom_mem (mem_of_lookup hd) with z | ⟨_, z⟩
  · cases z
  · rw [hd, z, hc]
    rfl
section
variable {X : Cx} {pins : List (Addr × Obj)} {σ : L2.St} {H : Hp} {s : Shared}
/-- the def's name y, captured, in slot i: what the block reads of it, wherever all that stood stands -/
theorem captured {scope : Scope} {y : Str} {i : Nat} {v : V} {P : Addr} {ps : Array Value} (I : Inv X pins σ H s) (hP : H P = some (.tbl ps)) (hc : X.env.scope.names.lookup y = some .cell) (hf : (y, NameKind.free) ∈ scope.names) (hN : X.N[i]? = some y) (hv : σ[i]? = some (some v)) :
    ∃ a u, (cloFrom X.env.cells scope.names []).lookup y = some a ∧ RelV v u ∧ ∀ h : Heap, (∀ b o, b ≠ P → s.heap.get? b = some o → h.get? b = some o) → h.IsCell a (some u) := by
  obtain ⟨m, _, hl⟩ := I.loc
  obtain ⟨u, ru, l⟩ := hl i y v hN hv (.inr (.inl hc))
  rcases l with ⟨k, _⟩ | ⟨_, a, ha, o, ho, hd⟩
  · have k' : X.env.scope.names.lookup y = some NameKind.local := k
    rw [hc] at k'
    cases k'
  · refine ⟨a, u, cap_lookup hf ha, ru, fun h up => ⟨o, up a o (fun z => ?_) ho, hd⟩⟩
    have t : s.heap.get? P = some { cls := .none, data := .fields ps } := I.hok P _ hP
    rw [z, t] at ho
    cases ho
    cases hd
/-- a text, sign by sign -/
theorem src_str {P : Addr} {ps : Array Value} {z : Str} {t : Tok} (I : Inv X pins σ H s) (hP : H P = some (.tbl ps)) : SrcOk X.prog X.w s.heap P (.str z t) z.cps.size (SignAt z) := by
  have tab : s.heap.get? P = some { cls := .none, data := .fields ps } := I.hok P _ hP
  refine ⟨[s.heap.objs.size], fun b hb => Nat.le_of_eq (List.mem_singleton.mp hb), fun hb => ?_, fun A E s2 Q e q => ?_⟩
  · exact Nat.ne_of_lt (Heap.lt_size tab) (List.mem_singleton.mp hb)
  · obtain ⟨h2, g2, d2, t2, o2⟩ := s2
    obtain rfl : h2 = s.heap := e
    exact wpAny_pyIter_str fun o St W at0 => q o St W at0
theorem walks_weaker {prog : Program} {w : World} {A : Around} {I : Addr} {fp wr : List Addr} {n : Nat} {Pf Pg : Nat → Value → Prop} {St : Nat → Heap → Prop} (W : Walks prog w A I fp wr n Pf St) (f : ∀ i v, Pf i v → Pg i v) : Walks prog w A I fp wr n Pg St :=
  ⟨W.sub, W.frame, fun i s Q E hi st q => W.item i s Q E hi st fun v h' tk y => q v h' tk (f i v y), W.done, W.self⟩
/-- a list -/
theorem src_lst {P l : Addr} {ps : Array Value} {xs : List V} (I : Inv X pins σ H s) (hP : H P = some (.tbl ps)) (hl : SqL X.K H l xs) : SrcOk X.prog X.w s.heap P (.ref l) xs.length (fun i v => ∃ x, xs[i]? = some x ∧ RelV x v) := by
  have tab : s.heap.get? P = some { cls := .none, data := .fields ps } := I.hok P _ hP
  obtain ⟨its, rv, pl, _⟩ := I.list hl
  have lst := pl.isList
  have len : its.toArray.size = xs.length := by rw [List.size_toArray, rv.length]
  have lt : l < s.heap.objs.size := by
    obtain ⟨_, e, _⟩ := _root_.id lst
    exact Heap.lt_size e
  refine ⟨[s.heap.objs.size, l], fun b hb => ?_, fun hb => ?_, fun A E s2 Q e q => ?_⟩
  rotate_left 2
  · obtain ⟨h2, g2, d2, t2, o2⟩ := s2
    obtain rfl : h2 = s.heap := e
    refine wpAny_pyIter_list lst (q _ (fun i h => h.IsListIter s.heap.objs.size l i ∧ h.IsList l its.toArray) (fun A' hA => ?_) ⟨⟨_, Heap.get?_push_size _ rfl, rfl, rfl⟩, lst.push _⟩)
    have W := Walks.list (prog := X.prog) (w := X.w) hA s.heap.objs.size l (Nat.ne_of_lt lt) its.toArray
    rw [len] at W
    refine walks_weaker W fun i v e => ?_
    have e' : its[i]? = some v := by simpa using e
    have hi : i < its.length := (List.getElem?_eq_some_iff.mp e').1
    have hi2 : i < xs.length := by rw [rv.length]; exact hi
    obtain ⟨u, hu, ru⟩ := rv.get (List.getElem?_eq_getElem hi2)
    rw [e'] at hu
    cases hu
    exact ⟨xs[i], List.getElem?_eq_getElem hi2, ru⟩
  · rcases List.mem_cons.mp hb with z | z
    · exact Nat.le_of_eq z
    · rw [List.mem_singleton.mp z]
      exact Nat.le_of_lt lt
  · rcases List.mem_cons.mp hb with z | z
    · exact Nat.ne_of_lt (Heap.lt_size tab) z
    · have z' := List.mem_singleton.mp z
      obtain ⟨o1, e1, _, _, d1⟩ := _root_.id lst
      rw [← z', tab] at e1
      cases e1
      cases d1
end
/-! ### «lo <= x <= hi», lo and hi captured texts -/
def between (lo hi : Str) (c : Nat) : Bool := !(decide ([c] < lo.cps.toList)) && !(decide (hi.cps.toList < [c]))
theorem elt_between {X : Cx} {pins : List (Addr × Obj)} {σ : L2.St} {H : Hp} {s : Shared} {scope : Scope} {x lo hi : Str} {z zl zh : Str} {P : Addr} {ps : Array Value} {i j : Nat} {p1 p2 p3 p4 : Pos} (I : Inv X pins σ H s) (hP : H P = some (.tbl ps))
    (hk : scope.kind = .function) (hl : scope.names.lookup x = some .local) (h1 : scope.names.lookup lo = some .free) (h2 : scope.names.lookup hi = some .free)
    (c1 : X.env.scope.names.lookup lo = some .cell) (c2 : X.env.scope.names.lookup hi = some .cell) (n1 : X.N[i]? = some lo) (n2 : X.N[j]? = some hi) (v1 : σ[i]? = some (some (.str zl))) (v2 : σ[j]? = some (some (.str zh)))
    (d0 : (x == ("__debug__" : Str)) = false := by decide) (d1 : (lo == ("__debug__" : Str)) = false := by decide) (d2 : (hi == ("__debug__" : Str)) = false := by decide) (e1 : (lo == ("__classdict__" : Str)) = false := by decide) (e2 : (hi == ("__classdict__" : Str)) = false := by decide) :
    EltG X scope x (.Compare (.Name lo p1) [.LtE, .LtE] [.Name x p2, .Name hi p3] p4) P s.heap (SignAt z) (fun k => between zl zh (z.cps.getD k 0)) := by
  obtain ⟨a, u, la, ru, ca⟩ := captured (scope := scope) I hP c1 (mem_of_lookup h1) n1 v1
  obtain ⟨b, v, lb, rv, cb⟩ := captured (scope := scope) I hP c2 (mem_of_lookup h2) n2 v2
  obtain ⟨ta, rfl⟩ := ru
  obtain ⟨tb, rfl⟩ := rv
  intro C code A' E' k item s₂ m₂ _ _ _ sign old ns hx
  obtain ⟨cc, tc, hcc, rfl⟩ := sign
  have gd : z.cps.getD k 0 = cc := by
    rw [Array.getD_eq_getD_getElem?, hcc]
    rfl
  refine Compare_chain ?_ (by with_unfolding_all rfl)
  refine wpAny_Name (wpAny_loadName_free hk (show scope.names.lookup lo = some .free from h1) la (ca _ old) ?_ e1) d1
  refine chain_link (wpAny_Name (wpAny_loadName_local hk (show scope.names.lookup x = some .local from hl) ns hx ?_) d0)
  refine PySem.P.le_str (wpAny_truthy_bool ?_)
  show (if (!decide (([cc] : List Nat) < zl.cps.toList)) = true then _ else _)
  by_cases q : ([cc] : List Nat) < zl.cps.toList
  · rw [decide_eq_true q]
    refine ite_ff ⟨?_, keeps_refl _⟩
    show _ = Value.bool (between zl zh (z.cps.getD k 0))
    rw [gd]
    unfold between
    rw [decide_eq_true q]
    rfl
  · rw [decide_eq_false q]
    refine ite_tt (chain_last ?_)
    refine wpAny_Name (wpAny_loadName_free hk (show scope.names.lookup hi = some .free from h2) lb (cb _ old) ?_ e2) d2
    refine PySem.P.le_str ⟨?_, keeps_refl _⟩
    show _ = Value.bool (between zl zh (z.cps.getD k 0))
    rw [gd]
    unfold between
    rw [decide_eq_false q]
    rfl
theorem range_all (z : Array Nat) (p : Nat → Bool) : (List.range z.size).all (fun k => p (z.getD k 0)) = z.toList.all p := by
  rw [Bool.eq_iff_iff, List.all_eq_true, List.all_eq_true]
  constructor
  · intro h b hb
    obtain ⟨j, hj, e⟩ := List.getElem_of_mem hb
    have hj' : j < z.size := by simpa using hj
    have q := h j (List.mem_range.mpr hj')
    rw [Array.getD_eq_getD_getElem?, Array.getElem?_eq_getElem hj'] at q
    rw [← e]
    simpa using q
  · intro h j hj
    have hj' := List.mem_range.mp hj
    rw [Array.getD_eq_getD_getElem?, Array.getElem?_eq_getElem hj']
    exact h _ (by simp)
end Gc

set_option Elab.async false
set_option linter.all false
set_option maxRecDepth 100000
set_option maxHeartbeats 4000000
namespace Ld
open PySem PySem.Spec PyProof.Rows L2
/-! ### the draws: mathematics -/
def dstep (p : Int × List Int) : Int × List Int := if p.1 > 0 then (p.1 / 65536, p.2 ++ [p.1 % 65536]) else p
def diter : Nat → Int × List Int → Int × List Int
  | 0, p => p
  | n + 1, p => dstep (diter n p)
def dabs (x : Int) : Int := if x < 0 then -x else x
def dmix1 (k r : Int) : Int := (r * 48271 + (k + 1) * 69621) % 2147483647
def dmix2 (k r : Int) : Int := (dmix1 k r * 16807 + 11 * k + 5) % 2147483629
def dcell (k x : Int) (ds : List Int) : List Int :=
  if (10 : Int) ^ (18 : Int).toNat ≤ dabs x then (diter 60 (dabs x, ds)).2
  else ds ++ [dmix2 k (dabs x) % 65536] ++ [dmix2 k (dabs x) / 65536 % 32768]
def drawsN (ns : List Int) : Nat → List Int
  | 0 => []
  | i + 1 => dcell (i : Nat) (ns.getD i 0) (drawsN ns i)
def drawsOf (ns : List Int) : List Int := drawsN ns ns.length
def DOk (ds : List Int) : Prop := ∀ x ∈ ds, 0 ≤ x ∧ x < 65536
theorem DOk.app {ds : List Int} {x : Int} (h : DOk ds) (h0 : 0 ≤ x) (h1 : x < 65536) : DOk (ds ++ [x]) := fun y hy => by
  rcases List.mem_append.mp hy with z | z
  · exact h y z
  · rw [List.mem_singleton.mp z]
    exact ⟨h0, h1⟩
theorem dstep_ok {p : Int × List Int} (h : DOk p.2) : DOk (dstep p).2 := by
  unfold dstep
  split
  · exact h.app (Int.emod_nonneg _ (by decide)) (Int.emod_lt_of_pos _ (by decide))
  · exact h
theorem dstep_len (p : Int × List Int) : (dstep p).2.length ≤ p.2.length + 1 := by
  unfold dstep
  split
  · show (p.2 ++ [p.1 % 65536]).length ≤ _
    rw [List.length_append, List.length_singleton]
    exact Nat.le_refl _
  · omega
theorem diter_ok {p : Int × List Int} (h : DOk p.2) : ∀ n, DOk (diter n p).2
  | 0 => h
  | n + 1 => dstep_ok (diter_ok h n)
theorem diter_len (p : Int × List Int) : ∀ n, (diter n p).2.length ≤ p.2.length + n
  | 0 => Nat.le_refl _
  | n + 1 => by
    have := dstep_len (diter n p)
    have := diter_len p n
    show (dstep (diter n p)).2.length ≤ _
    omega
theorem dcell_ok {k x : Int} {ds : List Int} (h : DOk ds) : DOk (dcell k x ds) := by
  unfold dcell
  split
  · exact diter_ok (p := (dabs x, ds)) h 60
  · have h1 : DOk (ds ++ [dmix2 k (dabs x) % 65536]) := h.app (Int.emod_nonneg _ (by decide)) (Int.emod_lt_of_pos _ (by decide))
    refine h1.app (Int.emod_nonneg _ (by decide)) ?_
    have : dmix2 k (dabs x) / 65536 % 32768 < 32768 := Int.emod_lt_of_pos _ (by decide)
    omega
theorem dcell_len (k x : Int) (ds : List Int) : (dcell k x ds).length ≤ ds.length + 60 := by
  unfold dcell
  split
  · exact diter_len (dabs x, ds) 60
  · simp only [List.length_append, List.length_singleton]
    omega
theorem drawsN_ok (ns : List Int) : ∀ n, DOk (drawsN ns n)
  | 0 => fun _ h => nomatch h
  | n + 1 => dcell_ok (drawsN_ok ns n)
theorem drawsN_len (ns : List Int) : ∀ n, (drawsN ns n).length ≤ 60 * n
  | 0 => Nat.le_refl _
  | n + 1 => by
    have := dcell_len (n : Nat) (ns.getD n 0) (drawsN ns n)
    have := drawsN_len ns n
    show (dcell _ _ _).length ≤ _
    omega
theorem drawsOf_len {ns : List Int} (h : ns.length ≤ 63) : (drawsOf ns).length ≤ 3780 := by
  have := drawsN_len ns ns.length
  unfold drawsOf
  omega
/-- a draw below many -/
def atD (ds : List Int) (k many : Int) : Int := if k < (ds.length : Int) then ds.getD k.toNat 0 % many else 0
theorem atD_lo (ds : List Int) (k : Int) {many : Int} (h : 0 < many) : 0 ≤ atD ds k many := by
  unfold atD
  split
  · exact Int.emod_nonneg _ (by omega)
  · exact Int.le_refl _
theorem atD_hi (ds : List Int) (k : Int) {many : Int} (h : 0 < many) : atD ds k many < many := by
  unfold atD
  split
  · exact Int.emod_lt_of_pos _ h
  · exact h
theorem getI {ns : List Int} {i : Nat} (h : i < ns.length) : (ns.map V.int)[i]? = some (V.int (ns.getD i 0)) := by
  rw [List.getElem?_map, List.getElem?_eq_getElem h, List.getD_eq_getElem?_getD, List.getElem?_eq_getElem h]
  rfl
theorem same_upd {H : Hp} {p : Addr} {o : HO} (h : H p = none) : Same H (upd H p o) := fun b x e => by
  rw [upd_ne (ne_of_none e h)]
  exact e
theorem small4000 {n : Nat} (h : n ≤ 4000) : n < sizeLine := Nat.lt_of_le_of_lt h (by decide)
end Ld

set_option Elab.async false
set_option linter.all false
set_option maxRecDepth 100000
set_option maxHeartbeats 4000000
/-! Reading a line, two ways: over codes alone. -/
namespace Ld
open PySem PySem.Spec PyProof.Rows L2 TL
/-! ### words (as in the law of words) -/
def wordB (z lo hi : Str) : Bool := decide (1 ≤ (z.length : Int)) && (decide ((z.length : Int) ≤ 12) && z.cps.toList.all (Gc.between lo hi))
def kindB (z : Str) : Bool := wordB z "A" "Z" && !decide (z = "OTHER")
def nameB (z : Str) : Bool := wordB z "a" "z"
def symB (z : Str) : Bool := kindB z || nameB z
theorem lt_one (a b : Nat) : (([a] : List Nat) < [b]) ↔ a < b := by
  simp [List.cons_lt_cons_iff]
theorem name_codes {z : Str} (h : nameB z = true) : ∀ c ∈ tl z, 97 ≤ c ∧ c ≤ 122 := by
  intro c hc
  unfold nameB wordB at h
  rw [Bool.and_eq_true, Bool.and_eq_true] at h
  have q := List.all_eq_true.mp h.2.2 c hc
  unfold Gc.between at q
  rw [show ("a" : Str).cps.toList = [97] from by decide +kernel, show ("z" : Str).cps.toList = [122] from by decide +kernel] at q
  simp only [Bool.and_eq_true, Bool.not_eq_true', decide_eq_false_iff_not, lt_one] at q
  omega
theorem name_no {z : Str} (h : nameB z = true) {c : Nat} (hc : c < 97) : c ∉ tl z := fun m => by
  have := name_codes h c m
  omega
abbrev Rule := Str × List Str
/-- the text's parts at a space, at a newline -/
theorem colon_tl : tl (":" : Str) = [58] := by decide +kernel
theorem space_tl : tl (" " : Str) = [32] := by decide +kernel
theorem nl_tl : tl ("\n" : Str) = [10] := by decide +kernel
theorem kind_space (x : Str) : ¬ Builtin.Str.strKind x < Builtin.Str.strKind (" " : Str) := kind_ok (by decide +kernel)
theorem kind_nl (x : Str) : ¬ Builtin.Str.strKind x < Builtin.Str.strKind ("\n" : Str) := kind_ok (by decide +kernel)
def spS (x : Str) : List Str := Txt.split x " "
theorem spS_tl (x : Str) : (spS x).map tl = spl [32] 0 [] (tl x) := by
  have h := split_spl x " " (by rw [space_tl]; simp) (kind_space x)
  rw [space_tl] at h
  exact h
theorem cut_first (s : Nat) : ∀ L : List Nat, s ∉ L ∨ ∃ p r, L = p ++ s :: r ∧ s ∉ p
  | [] => .inl (by simp)
  | c :: L => by
    by_cases e : c = s
    · exact .inr ⟨[], L, by rw [e]; rfl, by simp⟩
    · rcases cut_first s L with h | ⟨p, r, h1, h2⟩
      · exact .inl fun m => (List.mem_cons.mp m).elim (fun z => e z.symm) h
      · exact .inr ⟨c :: p, r, by rw [h1]; rfl, fun m => (List.mem_cons.mp m).elim (fun z => e z.symm) h2⟩
theorem spl_no {s : Nat} {p : List Nat} (h : s ∉ p) : spl [s] 0 [] p = [p] := by
  have := spl_last1 (S := []) (acc := []) h
  rw [this]
  rfl
theorem spl_at1 {s : Nat} {p r : List Nat} (h : s ∉ p) : spl [s] 0 [] (p ++ s :: r) = p :: spl [s] 0 [] r := by
  have := spl_part1 (S := []) (acc := []) (rest := r) h
  exact this
/-- split never gives the empty list; its head -/
theorem spl_ne (s : Nat) (L : List Nat) : ∃ p r, spl [s] 0 [] L = p :: r ∧ s ∉ p ∧ ∀ c ∈ p, c ∈ L := by
  rcases cut_first s L with h | ⟨p, r, rfl, h⟩
  · exact ⟨L, [], spl_no h, h, fun _ z => z⟩
  · exact ⟨p, _, spl_at1 h, h, fun c z => List.mem_append_left _ z⟩
/-! ### the program's way -/
def ruleOf (l : Str) : Option Rule :=
  if nameB (Txt.partition l ":").1 = true ∧ (Txt.partition l ":").2.1 ≠ Str.empty ∧ (spS (Txt.partition l ":").2.2).head? = some Str.empty ∧ (spS (Txt.partition l ":").2.2).tail.length ≤ 6 ∧ (spS (Txt.partition l ":").2.2).tail.all symB = true
  then some ((Txt.partition l ":").1, (spS (Txt.partition l ":").2.2).tail) else none
/-- the law's way; b0: the first word without its last sign -/
def endsColon (w : Str) : Prop := ∃ b : List Nat, tl w = b ++ [58]
def lawLine (l : Str) (w0 : Str) (ws : List Str) : Option Rule → Prop := fun o =>
  (o = none ∧ ¬ ∃ n : Str, tl w0 = tl n ++ [58] ∧ nameB n = true ∧ ws.length ≤ 6 ∧ ws.all symB = true) ∨
  ∃ n : Str, o = some (n, ws) ∧ tl w0 = tl n ++ [58] ∧ nameB n = true ∧ ws.length ≤ 6 ∧ ws.all symB = true
theorem str_of (l : List Nat) : ∃ z : Str, tl z = l := ⟨⟨l.toArray⟩, rfl⟩
theorem tl_inj {x y : Str} (h : tl x = tl y) : x = y := ext_tl h
theorem line_eq (l : Str) : ∃ w0 ws, spS l = w0 :: ws ∧ lawLine l w0 ws (ruleOf l) := by
  have hs := spS_tl l
  rcases cut_first 58 (tl l) with h | ⟨A, R, hL, hA⟩
  · -- no colon
    obtain ⟨p, r, e, _, sub⟩ := spl_ne 32 (tl l)
    rw [e] at hs
    cases hsl : spS l with
    | nil => rw [hsl] at hs; cases hs
    | cons w0 ws =>
      rw [hsl, List.map_cons] at hs
      injection hs with h1 h2
      refine ⟨w0, ws, rfl, .inl ⟨?_, ?_⟩⟩
      · unfold ruleOf
        rw [partition_none colon_tl h]
        rw [if_neg (fun z => z.2.1 rfl)]
      · rintro ⟨n, hn, _⟩
        refine h (sub 58 ?_)
        rw [← h1, hn]
        exact List.mem_append_right _ (List.mem_singleton.mpr rfl)
  · obtain ⟨a, ha⟩ := str_of A
    obtain ⟨r, hr⟩ := str_of R
    have el : l = a ++ (":" : Str) ++ r := tl_inj (by rw [tl_append, tl_append, ha, hr, colon_tl, hL]; simp)
    have ep : Txt.partition l ":" = (a, (":" : Str), r) := by
      rw [el]
      exact partition_app colon_tl (by rw [ha]; exact hA)
    have rr := spS_tl r
    rw [hr] at rr
    by_cases h32 : 32 ∈ A
    · -- a space ahead of the colon: no name
      obtain ⟨p, q, hp, np⟩ : ∃ p q, A = p ++ 32 :: q ∧ 32 ∉ p := by
        rcases cut_first 32 A with z | z
        · exact absurd h32 z
        · exact z
      rw [hL, hp, List.append_assoc, List.cons_append, spl_at1 np] at hs
      cases hsl : spS l with
      | nil => rw [hsl] at hs; cases hs
      | cons w0 ws =>
        rw [hsl, List.map_cons] at hs
        injection hs with h1 h2
        refine ⟨w0, ws, rfl, .inl ⟨?_, ?_⟩⟩
        · unfold ruleOf
          rw [ep, if_neg]
          intro z
          exact name_no z.1 (by decide : 32 < 97) (by rw [ha]; exact h32)
        · rintro ⟨n, hn, _⟩
          refine hA ?_
          rw [hp]
          refine List.mem_append_left _ ?_
          rw [← h1, hn]
          exact List.mem_append_right _ (List.mem_singleton.mpr rfl)
    · have h32' : 32 ∉ A ++ [58] := fun z => (List.mem_append.mp z).elim h32 fun z => by simp at z
      cases R with
      | nil =>
        rw [hL, spl_no h32'] at hs
        rw [spl_no (by simp)] at rr
        cases hsl : spS l with
        | nil => rw [hsl] at hs; cases hs
        | cons w0 ws =>
          rw [hsl, List.map_cons] at hs
          injection hs with h1 h2
          have ews : ws = [] := List.map_eq_nil_iff.mp h2
          subst ews
          cases hsr : spS r with
          | nil => rw [hsr] at rr; cases rr
          | cons v0 vs =>
            rw [hsr, List.map_cons] at rr
            injection rr with g1 g2
            have evs : vs = [] := List.map_eq_nil_iff.mp g2
            subst evs
            have ev0 : v0 = Str.empty := tl_inj g1
            refine ⟨w0, [], rfl, ?_⟩
            by_cases hn : nameB a = true
            · refine .inr ⟨a, ?_, by rw [h1, ha], hn, by decide, rfl⟩
              unfold ruleOf
              rw [ep]
              simp only [hsr]
              rw [if_pos ⟨hn, by decide +kernel, by rw [ev0]; rfl, Nat.zero_le _, rfl⟩]
              rfl
            · refine .inl ⟨?_, ?_⟩
              · unfold ruleOf
                rw [ep, if_neg fun z => hn z.1]
              · rintro ⟨n, hn2, hn3, _⟩
                have : n = a := tl_inj (by
                  rw [h1] at hn2
                  rw [ha]
                  exact (List.append_cancel_right hn2).symm)
                rw [this] at hn3
                exact hn hn3
      | cons c R' =>
        by_cases hc : c = 32
        · subst hc
          have e2 : tl l = (A ++ [58]) ++ 32 :: R' := by rw [hL]; simp
          rw [e2, spl_at1 h32'] at hs
          have e3 : spl [32] 0 [] (32 :: R') = [] :: spl [32] 0 [] R' := spl_at1 (p := []) (by simp)
          rw [e3] at rr
          cases hsl : spS l with
          | nil => rw [hsl] at hs; cases hs
          | cons w0 ws =>
            rw [hsl, List.map_cons] at hs
            injection hs with h1 h2
            cases hsr : spS r with
            | nil => rw [hsr] at rr; cases rr
            | cons v0 vs =>
              rw [hsr, List.map_cons] at rr
              injection rr with g1 g2
              have evs : vs = ws := map_tl_inj (g2.trans h2.symm)
              subst evs
              have ev0 : v0 = Str.empty := tl_inj g1
              refine ⟨w0, vs, rfl, ?_⟩
              by_cases hn : nameB a = true ∧ vs.length ≤ 6 ∧ vs.all symB = true
              · refine .inr ⟨a, ?_, by rw [h1, ha], hn⟩
                unfold ruleOf
                rw [ep]
                simp only [hsr]
                rw [if_pos ⟨hn.1, by decide +kernel, by rw [ev0]; rfl, hn.2.1, hn.2.2⟩]
                rfl
              · refine .inl ⟨?_, ?_⟩
                · unfold ruleOf
                  rw [ep]
                  simp only [hsr]
                  rw [if_neg fun z => hn ⟨z.1, z.2.2.2.1, z.2.2.2.2⟩]
                · rintro ⟨n, hn2, hn3, hn4⟩
                  have : n = a := tl_inj (by
                    rw [h1] at hn2
                    rw [ha]
                    exact (List.append_cancel_right hn2).symm)
                  rw [this] at hn3
                  exact hn ⟨hn3, hn4⟩
        · -- a sign right behind the colon
          have e2 : tl l = (A ++ [58]) ++ c :: R' := by rw [hL]; simp
          have first : ∀ (pp : List Nat), 32 ∉ pp → ∃ q t, spl [32] 0 [] (pp ++ c :: R') = (pp ++ c :: q) :: t := by
            intro pp hpp
            rcases cut_first 32 (c :: R') with z | ⟨p, q, hp, np⟩
            · refine ⟨R', [], spl_no fun m => ?_⟩
              rcases List.mem_append.mp m with m | m
              · exact hpp m
              · exact z m
            · cases p with
              | nil =>
                injection hp with x1 x2
                exact absurd x1 hc
              | cons d p' =>
                injection hp with x1 x2
                subst x1
                refine ⟨p', spl [32] 0 [] q, ?_⟩
                rw [x2]
                have n2 : 32 ∉ pp ++ c :: p' := fun m => (List.mem_append.mp m).elim hpp np
                have := spl_at1 (r := q) n2
                rw [List.append_assoc] at this
                exact this
          obtain ⟨q1, t1, f1⟩ := first (A ++ [58]) h32'
          obtain ⟨q2, t2, f2⟩ := first [] (by simp)
          rw [e2, f1] at hs
          rw [List.nil_append] at f2
          rw [f2, List.nil_append] at rr
          cases hsl : spS l with
          | nil => rw [hsl] at hs; cases hs
          | cons w0 ws =>
            rw [hsl, List.map_cons] at hs
            injection hs with h1 h2
            cases hsr : spS r with
            | nil => rw [hsr] at rr; cases rr
            | cons v0 vs =>
              rw [hsr, List.map_cons] at rr
              injection rr with g1 g2
              refine ⟨w0, ws, rfl, .inl ⟨?_, ?_⟩⟩
              · unfold ruleOf
                rw [ep]
                simp only [hsr]
                rw [if_neg]
                intro z
                have z3 := z.2.2.1
                rw [List.head?_cons] at z3
                have z4 : v0 = Str.empty := Option.some.inj z3
                rw [z4] at g1
                cases g1
              · rintro ⟨n, hn2, hn3, _⟩
                rw [h1] at hn2
                -- the name would hold the colon
                refine name_no hn3 (by decide : 58 < 97) ?_
                have e4 : tl n = (A ++ [58] ++ c :: q1).dropLast := by
                  rw [hn2, List.dropLast_concat]
                rw [e4, List.dropLast_append_of_ne_nil (by simp)]
                exact List.mem_append_left _ (List.mem_append_right _ (List.mem_singleton.mpr rfl))
end Ld

set_option Elab.async false
set_option linter.all false
set_option maxRecDepth 100000
set_option maxHeartbeats 4000000
/-! Grammars as texts, read and written: over codes alone; and as data that is compared. -/
namespace Ld
open PySem PySem.Spec PyProof.Rows L2 TL
/-! ### a word's signs, two ways -/
def bigL : Str := "ABCDEFGHIJKLMNOPQRSTUVWXYZ"
def lowL : Str := "abcdefghijklmnopqrstuvwxyz"
theorem bigL_codes : bigL.cps.toList = [65, 66, 67, 68, 69, 70, 71, 72, 73, 74, 75, 76, 77, 78, 79, 80, 81, 82, 83, 84, 85, 86, 87, 88, 89, 90] := by decide +kernel
theorem lowL_codes : lowL.cps.toList = [97, 98, 99, 100, 101, 102, 103, 104, 105, 106, 107, 108, 109, 110, 111, 112, 113, 114, 115, 116, 117, 118, 119, 120, 121, 122] := by decide +kernel
theorem between_big (c : Nat) : Gc.between "A" "Z" c = decide (c ∈ bigL.cps.toList) := by
  unfold Gc.between
  rw [show ("A" : Str).cps.toList = [65] from by decide +kernel, show ("Z" : Str).cps.toList = [90] from by decide +kernel, bigL_codes]
  rw [Bool.eq_iff_iff]
  simp only [Bool.and_eq_true, Bool.not_eq_true', decide_eq_false_iff_not, decide_eq_true_eq, lt_one, List.mem_cons, List.not_mem_nil, or_false]
  omega
theorem between_low (c : Nat) : Gc.between "a" "z" c = decide (c ∈ lowL.cps.toList) := by
  unfold Gc.between
  rw [show ("a" : Str).cps.toList = [97] from by decide +kernel, show ("z" : Str).cps.toList = [122] from by decide +kernel, lowL_codes]
  rw [Bool.eq_iff_iff]
  simp only [Bool.and_eq_true, Bool.not_eq_true', decide_eq_false_iff_not, decide_eq_true_eq, lt_one, List.mem_cons, List.not_mem_nil, or_false]
  omega
def outs (z l : List Nat) : List Nat := z.filter fun c => !decide (c ∈ l)
theorem outs_more {z l : List Nat} {i c : Nat} (h : z[i]? = some c) : outs (z.take (i + 1)) l = outs (z.take i) l ++ (if c ∈ l then [] else [c]) := by
  unfold outs
  rw [List.take_add_one, h, List.filter_append]
  congr 1
  by_cases e : c ∈ l
  · simp [e]
  · simp [e]
theorem outs_len (z l : List Nat) : (outs z l).length ≤ z.length := List.length_filter_le _ _
theorem all_outs (l m : List Nat) (p : Nat → Bool) (hp : ∀ c, p c = decide (c ∈ m)) : l.all p = decide (outs l m = []) := by
  rw [Bool.eq_iff_iff, List.all_eq_true, decide_eq_true_eq]
  unfold outs
  rw [List.filter_eq_nil_iff]
  constructor
  · intro h c hc
    have h2 := h c hc
    rw [hp] at h2
    rw [h2]
    simp
  · intro h c hc
    have h2 := h c hc
    rw [hp]
    simpa using h2
def sizeB (z : Str) : Bool := decide (1 ≤ (z.length : Int)) && decide ((z.length : Int) ≤ 12)
theorem word_big (z : Str) : wordB z "A" "Z" = (sizeB z && decide (outs (tl z) (tl bigL) = [])) := by
  unfold wordB sizeB
  rw [all_outs _ bigL.cps.toList _ between_big, Bool.and_assoc]
theorem word_low (z : Str) : wordB z "a" "z" = (sizeB z && decide (outs (tl z) (tl lowL) = [])) := by
  unfold wordB sizeB
  rw [all_outs _ lowL.cps.toList _ between_low, Bool.and_assoc]
/-! ### lines and texts -/
def lineT (r : Rule) : List Nat := tl r.1 ++ 58 :: r.2.flatMap (fun s => 32 :: tl s)
def writeT (G : List Rule) : List Nat := G.flatMap (fun r => lineT r ++ [10])
def lineS (r : Rule) : Str := r.1 ++ (":" : Str) ++ Txt.join "" (r.2.map (fun s => (" " : Str) ++ s)) ++ ("\n" : Str)
def writeS (G : List Rule) : Str := Txt.join "" (G.map lineS)
theorem nil_tl : tl ("" : Str) = [] := by decide +kernel
theorem joinL_nil : ∀ l : List (List Nat), joinL [] l = l.flatten
  | [] => rfl
  | [p] => by simp [joinL]
  | p :: q :: r => by
    show p ++ ([] ++ joinL [] (q :: r)) = _
    rw [joinL_nil (q :: r)]
    simp
theorem join0_tl (parts : List Str) : tl (Txt.join "" parts) = parts.flatMap tl := by
  rw [join_eq, tl_join, nil_tl, joinL_nil, List.flatMap_def]
theorem lineS_tl (r : Rule) : tl (lineS r) = lineT r ++ [10] := by
  unfold lineS lineT
  rw [tl_append, tl_append, tl_append, join0_tl, colon_tl, nl_tl, List.flatMap_map]
  have : (fun s : Str => tl ((" " : Str) ++ s)) = fun s => 32 :: tl s := by
    funext s
    rw [tl_append, space_tl]
    rfl
  rw [this]
  simp
theorem writeS_tl (G : List Rule) : tl (writeS G) = writeT G := by
  unfold writeS writeT
  rw [join0_tl, List.flatMap_map]
  congr 1
  funext r
  exact lineS_tl r
theorem joinL_space : ∀ (l : List (List Nat)) (p : List Nat), joinL [32] (p :: l) = p ++ l.flatMap (fun s => 32 :: s)
  | [], p => by simp [joinL]
  | q :: r, p => by
    show p ++ ([32] ++ joinL [32] (q :: r)) = _
    rw [joinL_space r q]
    simp
theorem law_line (r : Rule) : Txt.join " " ((r.1 ++ (":" : Str)) :: r.2) ++ ("\n" : Str) = lineS r := by
  refine tl_inj ?_
  rw [tl_append, join_eq, tl_join, List.map_cons, space_tl, joinL_space, lineS_tl, tl_append, colon_tl, nl_tl, List.flatMap_map]
  unfold lineT
  simp
theorem writeS_nil : writeS [] = ("" : Str) := by decide +kernel
theorem writeS_snoc (G : List Rule) (r : Rule) : writeS (G ++ [r]) = writeS G ++ Txt.join " " ((r.1 ++ (":" : Str)) :: r.2) ++ ("\n" : Str) := by
  refine tl_inj ?_
  have e := law_line r
  have e2 := congrArg tl e
  rw [tl_append, lineS_tl] at e2
  rw [writeS_tl, tl_append, tl_append, writeS_tl, List.append_assoc, e2]
  unfold writeT
  simp
/-! ### the reading -/
def GoodR (r : Rule) : Prop := nameB r.1 = true ∧ r.2.length ≤ 6 ∧ r.2.all symB = true
theorem kind_codes {z : Str} (h : kindB z = true) : ∀ c ∈ tl z, 65 ≤ c ∧ c ≤ 90 := by
  intro c hc
  unfold kindB wordB at h
  rw [Bool.and_eq_true, Bool.and_eq_true, Bool.and_eq_true] at h
  have q := List.all_eq_true.mp h.1.2.2 c hc
  unfold Gc.between at q
  rw [show ("A" : Str).cps.toList = [65] from by decide +kernel, show ("Z" : Str).cps.toList = [90] from by decide +kernel] at q
  simp only [Bool.and_eq_true, Bool.not_eq_true', decide_eq_false_iff_not, lt_one] at q
  omega
theorem sym_codes {z : Str} (h : symB z = true) : ∀ c ∈ tl z, 65 ≤ c ∧ c ≤ 122 := by
  intro c hc
  unfold symB at h
  rw [Bool.or_eq_true] at h
  rcases h with h | h
  · have := kind_codes h c hc
    omega
  · have := name_codes h c hc
    omega
theorem spl_syms : ∀ (ss : List (List Nat)), (∀ p ∈ ss, 32 ∉ p) → spl [32] 0 [] (ss.flatMap fun s => 32 :: s) = [] :: ss
  | [], _ => spl_no (p := []) (fun m => nomatch m)
  | q :: r, h => by
    have e : ((q :: r).flatMap fun s => 32 :: s) = [] ++ 32 :: joinL [32] (q :: r) := by
      rw [joinL_space]
      simp
    rw [e, spl_at1 (by simp), spl_join (by simp) h]
theorem rule_back {l : Str} {r : Rule} (h : tl l = lineT r) (g : GoodR r) : ruleOf l = some r := by
  obtain ⟨rest, hr⟩ := str_of (r.2.flatMap fun s => 32 :: tl s)
  have el : l = r.1 ++ (":" : Str) ++ rest := tl_inj (by rw [h, tl_append, tl_append, hr, colon_tl]; unfold lineT; simp)
  have ep : Txt.partition l ":" = (r.1, (":" : Str), rest) := by
    rw [el]
    exact partition_app colon_tl (name_no g.1 (by decide))
  have es : spS rest = Str.empty :: r.2 := by
    refine map_tl_inj ?_
    rw [spS_tl, hr, List.map_cons]
    have := spl_syms (r.2.map tl) fun p hp => by
      obtain ⟨s, hs, rfl⟩ := List.mem_map.mp hp
      intro z
      have := sym_codes (List.all_eq_true.mp g.2.2 s hs) 32 z
      omega
    rw [List.flatMap_map] at this
    rw [this]
    rfl
  unfold ruleOf
  rw [ep]
  simp only [es]
  rw [if_pos ⟨g.1, by decide +kernel, rfl, g.2.1, g.2.2⟩]
  rfl
theorem rule_good {l : Str} {r : Rule} (h : ruleOf l = some r) : GoodR r := by
  unfold ruleOf at h
  split at h
  · rename_i c
    obtain rfl := Option.some.inj h
    exact ⟨c.1, c.2.2.2.1, c.2.2.2.2⟩
  · cases h
inductive Rd
  | line (k : Nat)
  | taken (k : Nat)
  | large (k : Nat)
  | good (G : List Rule)
def rdGo : Nat → List Rule → List Str → Rd
  | _, G, [] => .good G
  | k, G, l :: ls => match ruleOf l with
    | none => .line k
    | some r => if r ∈ G then .taken k else if 24 ≤ k then .large k else rdGo (k + 1) (G ++ [r]) ls
def rdEnd (n : Nat) (u : Str) : Rd → Rd
  | .good G => if u ≠ "" ∨ n = 0 then .line n else .good G
  | x => x
/-- what reading a text gives: of its parts at newlines, the last one apart -/
def rd (ls : List Str) : Rd := rdEnd ls.dropLast.length (ls.getLast?.getD "") (rdGo 0 [] ls.dropLast)
def linesOf (x : Str) : List Str := Txt.split x "\n"
theorem linesOf_tl (x : Str) : (linesOf x).map tl = spl [10] 0 [] (tl x) := by
  have h := split_spl x "\n" (by rw [nl_tl]; simp) (kind_nl x)
  rw [nl_tl] at h
  exact h
theorem linesOf_ne (x : Str) : linesOf x ≠ [] := fun e => by
  have h := linesOf_tl x
  obtain ⟨p, r, q, _⟩ := spl_ne 10 (tl x)
  rw [e, q] at h
  cases h
theorem spl_lines : ∀ G : List Rule, (∀ r ∈ G, 10 ∉ lineT r) → spl [10] 0 [] (writeT G) = G.map lineT ++ [[]]
  | [], _ => spl_no (p := []) (fun m => nomatch m)
  | r :: G, h => by
    have e : writeT (r :: G) = lineT r ++ 10 :: writeT G := by
      unfold writeT
      simp
    rw [e, spl_at1 (h r List.mem_cons_self), spl_lines G fun q hq => h q (List.mem_cons_of_mem _ hq)]
    rfl
theorem line_no10 {r : Rule} (g : GoodR r) : 10 ∉ lineT r := by
  intro m
  unfold lineT at m
  rcases List.mem_append.mp m with m | m
  · exact name_no g.1 (by decide) m
  · rcases List.mem_cons.mp m with m | m
    · cases m
    · obtain ⟨s, hs, q⟩ := List.mem_flatMap.mp m
      rcases List.mem_cons.mp q with q | q
      · cases q
      · have := sym_codes (List.all_eq_true.mp g.2.2 s hs) 10 q
        omega
def lineO (r : Rule) : Str := ⟨(lineT r).toArray⟩
theorem lines_back {x : Str} {G : List Rule} (h : tl x = writeT G) (g : ∀ r ∈ G, GoodR r) : linesOf x = G.map lineO ++ [("" : Str)] := by
  refine map_tl_inj ?_
  rw [linesOf_tl, h, spl_lines G fun r hr => line_no10 (g r hr), List.map_append, List.map_map]
  rfl
theorem rdGo_back : ∀ (G A : List Rule), (∀ r ∈ G, GoodR r) → (A ++ G).Nodup → A.length + G.length ≤ 24 → rdGo A.length A (G.map lineO) = .good (A ++ G)
  | [], A, _, _, _ => by
    rw [List.append_nil]
    rfl
  | r :: G, A, g, nd, h => by
    rw [List.map_cons]
    unfold rdGo
    rw [rule_back (l := lineO r) (r := r) rfl (g r List.mem_cons_self)]
    have h2 : r ∉ A := fun m => by
      rw [List.nodup_append] at nd
      exact nd.2.2 r m r List.mem_cons_self rfl
    have h3 : A.length + G.length + 1 ≤ 24 := by
      rw [List.length_cons] at h
      omega
    simp only
    rw [if_neg h2, if_neg (by omega)]
    have e : A ++ r :: G = (A ++ [r]) ++ G := by simp
    have l : A.length + 1 = (A ++ [r]).length := by simp
    rw [e, l]
    refine rdGo_back G (A ++ [r]) (fun q hq => g q (List.mem_cons_of_mem _ hq)) (by rw [← e]; exact nd) ?_
    rw [← l]
    omega
/-- THE READ-BACK -/
theorem rd_back {G : List Rule} (g : ∀ r ∈ G, GoodR r) (nd : G.Nodup) (n0 : G ≠ []) (h : G.length ≤ 24) : rd (linesOf (writeS G)) = .good G := by
  rw [lines_back (writeS_tl G) g]
  unfold rd
  rw [List.dropLast_concat, List.getLast?_concat]
  have := rdGo_back G [] g nd (by simpa using h)
  rw [List.length_nil, List.nil_append] at this
  rw [this]
  unfold rdEnd
  simp only
  rw [if_neg]
  rintro (z | z)
  · exact z rfl
  · rw [List.length_map] at z
    exact n0 (List.eq_nil_of_length_eq_zero z)
theorem rd_empty : rd (linesOf "") = .line 0 := by
  have e : linesOf "" = [("" : Str)] := by
    refine map_tl_inj ?_
    rw [linesOf_tl, nil_tl, spl_no (by simp)]
    rfl
  rw [e]
  unfold rd rdEnd rdGo
  simp
/-! ### lengths of parts -/
theorem spl_bound (s : Nat) : ∀ (n : Nat) (L : List Nat), L.length ≤ n → ∀ p ∈ spl [s] 0 [] L, p.length ≤ L.length
  | n, L, h => by
    rcases cut_first s L with c | ⟨p, r, rfl, c⟩
    · rw [spl_no c]
      intro q hq
      rw [List.mem_singleton.mp hq]
      exact Nat.le_refl _
    · rw [spl_at1 c]
      intro q hq
      rw [List.length_append, List.length_cons] at h ⊢
      rcases List.mem_cons.mp hq with z | z
      · rw [z]
        omega
      · cases n with
        | zero => omega
        | succ m =>
          have := spl_bound s m r (by omega) q z
          omega
theorem spl_count (s : Nat) : ∀ (n : Nat) (L : List Nat), L.length ≤ n → (spl [s] 0 [] L).length ≤ L.length + 1
  | n, L, h => by
    rcases cut_first s L with c | ⟨p, r, rfl, c⟩
    · rw [spl_no c]
      show 1 ≤ _
      omega
    · rw [spl_at1 c]
      rw [List.length_append, List.length_cons] at h ⊢
      cases n with
      | zero => omega
      | succ m =>
        have := spl_count s m r (by omega)
        rw [List.length_cons]
        omega
theorem map_len {l : List Str} {p : Str} (h : p ∈ l) {n : Nat} (b : ∀ q ∈ l.map tl, q.length ≤ n) : p.length ≤ n := by
  rw [len_tl]
  exact b _ (List.mem_map.mpr ⟨p, h, rfl⟩)
theorem spS_len {x p : Str} (h : p ∈ spS x) : p.length ≤ x.length := map_len h (by rw [spS_tl, len_tl]; exact spl_bound 32 _ _ (Nat.le_refl _))
theorem lines_len {x p : Str} (h : p ∈ linesOf x) : p.length ≤ x.length := map_len h (by rw [linesOf_tl, len_tl]; exact spl_bound 10 _ _ (Nat.le_refl _))
theorem spS_count (x : Str) : (spS x).length ≤ x.length + 1 := by
  have := spl_count 32 _ (tl x) (Nat.le_refl _)
  rw [← spS_tl, List.length_map, ← len_tl] at this
  exact this
theorem lines_count (x : Str) : (linesOf x).length ≤ x.length + 1 := by
  have := spl_count 10 _ (tl x) (Nat.le_refl _)
  rw [← linesOf_tl, List.length_map, ← len_tl] at this
  exact this
theorem spS_cons (x : Str) : ∃ w ws, spS x = w :: ws := by
  cases h : spS x with
  | cons w ws => exact ⟨w, ws, rfl⟩
  | nil =>
    obtain ⟨p, r, e, _⟩ := spl_ne 32 (tl x)
    have := spS_tl x
    rw [h, e] at this
    cases this
theorem part_len (z : Str) : (Txt.partition z ":").1.length ≤ z.length ∧ (Txt.partition z ":").2.2.length ≤ z.length := by
  rcases cut_first 58 (tl z) with h | ⟨A, R, hL, hA⟩
  · rw [partition_none colon_tl h]
    exact ⟨Nat.le_refl _, Nat.zero_le _⟩
  · obtain ⟨a, ha⟩ := str_of A
    obtain ⟨r, hr⟩ := str_of R
    have el : z = a ++ (":" : Str) ++ r := tl_inj (by rw [tl_append, tl_append, ha, hr, colon_tl, hL]; simp)
    have ep : Txt.partition z ":" = (a, (":" : Str), r) := by
      rw [el]
      exact partition_app colon_tl (by rw [ha]; exact hA)
    rw [ep, len_tl z, hL, List.length_append, List.length_cons, len_tl a, len_tl r, ha, hr]
    omega
theorem cutV_tail (x : V) (xs : List V) : cutV (x :: xs) (some 1) none = xs := by
  unfold cutV HT.sIx
  simp only [List.length_cons]
  have e : min (1 : Int).toNat (xs.length + 1) = 1 := by
    have : (1 : Int).toNat = 1 := rfl
    omega
  rw [if_neg (by decide)]
  rw [e]
  simp
/-! ### as data -/
def ruleD (r : Rule) : PyData := .tuple [.str r.1, .list (r.2.map PyData.str)]
def gD (G : List Rule) : PyData := .list (G.map ruleD)
theorem strs_eqv : ∀ xs ys : List Str, PyData.eqvAll (xs.map PyData.str) (ys.map PyData.str) = decide (xs = ys)
  | [], [] => by simp [PyData.eqvAll]
  | [], _ :: _ => by simp [PyData.eqvAll]
  | _ :: _, [] => by simp [PyData.eqvAll]
  | x :: xs, y :: ys => by
    rw [List.map_cons, List.map_cons, PyData.eqvAll, strs_eqv xs ys, PyData.eqv, Bool.eq_iff_iff]
    simp
theorem ruleD_eqv (r q : Rule) : PyData.eqv (ruleD r) (ruleD q) = decide (r = q) := by
  obtain ⟨a, s⟩ := r
  obtain ⟨b, t⟩ := q
  unfold ruleD
  rw [PyData.eqv, PyData.eqvAll, PyData.eqvAll, PyData.eqvAll, PyData.eqv, PyData.eqv, strs_eqv, Bool.eq_iff_iff]
  simp
theorem ruleD_in (G : List Rule) (r : Rule) : ((G.map ruleD).any fun z => PyData.eqv z (ruleD r)) = decide (r ∈ G) := by
  rw [Bool.eq_iff_iff, List.any_eq_true, decide_eq_true_eq]
  constructor
  · rintro ⟨z, hz, e⟩
    obtain ⟨q, hq, rfl⟩ := List.mem_map.mp hz
    rw [ruleD_eqv, decide_eq_true_eq] at e
    rw [← e]
    exact hq
  · intro h
    exact ⟨ruleD r, List.mem_map.mpr ⟨r, h, rfl⟩, by rw [ruleD_eqv]; simp⟩
theorem strOk_sym {z : Str} (h : symB z = true) : PyData.strOk z = true := by
  unfold PyData.strOk
  rw [Array.all_eq_true']
  intro c hc
  have := sym_codes h c (by simpa using hc)
  exact decide_eq_true (by omega)
theorem strs_lay : ∀ {ss : List Str}, (∀ s ∈ ss, PyData.strOk s = true) → PyData.canLayAll0 (ss.map PyData.str) = true
  | [], _ => by simp [PyData.canLayAll0]
  | s :: ss, h => by
    rw [List.map_cons, PyData.canLayAll0, PyData.canLay0, h s List.mem_cons_self, strs_lay fun z hz => h z (List.mem_cons_of_mem _ hz)]
    rfl
theorem strs_depth : ∀ ss : List Str, PyData.depthAll (ss.map PyData.str) ≤ 0
  | [] => by simp [PyData.depthAll]
  | s :: ss => by
    have := strs_depth ss
    simp only [List.map_cons, PyData.depthAll, PyData.depth]
    omega
theorem rule_lay {r : Rule} (g : GoodR r) : (ruleD r).canLay0 = true := by
  have h1 : PyData.strOk r.1 = true := strOk_sym (by unfold symB; rw [g.1, Bool.or_true])
  have h2 := strs_lay (ss := r.2) fun s hs => strOk_sym (List.all_eq_true.mp g.2.2 s hs)
  simp [ruleD, PyData.canLay0, PyData.canLayAll0, h1, h2]
theorem rule_depth (r : Rule) : (ruleD r).depth ≤ 2 := by
  have h := strs_depth r.2
  simp only [ruleD, PyData.depth, PyData.depthAll]
  omega
theorem rules_lay : ∀ {G : List Rule}, (∀ r ∈ G, GoodR r) → PyData.canLayAll0 (G.map ruleD) = true
  | [], _ => by simp [PyData.canLayAll0]
  | r :: G, g => by
    rw [List.map_cons, PyData.canLayAll0, rule_lay (g r List.mem_cons_self), rules_lay fun q hq => g q (List.mem_cons_of_mem _ hq)]
    rfl
theorem rules_depth : ∀ G : List Rule, PyData.depthAll (G.map ruleD) ≤ 2
  | [] => by simp [PyData.depthAll]
  | r :: G => by
    have h1 := rules_depth G
    have h2 := rule_depth r
    simp only [List.map_cons, PyData.depthAll]
    omega
theorem shaped_mk {d : PyData} (h1 : d.canLay0 = true) (h2 : d.depth ≤ 64) : SeqAt.shaped d = true := by
  unfold SeqAt.shaped
  rw [h1, decide_eq_true h2]
  rfl
theorem rule_shaped {r : Rule} (g : GoodR r) : SeqAt.shaped (ruleD r) = true := shaped_mk (rule_lay g) (by have := rule_depth r; omega)
theorem gD_shaped {G : List Rule} (g : ∀ r ∈ G, GoodR r) : SeqAt.shaped (gD G) = true := shaped_mk (by unfold gD; rw [PyData.canLay0]; exact rules_lay g) (by
  have := rules_depth G
  unfold gD
  simp only [PyData.depth]
  omega)
theorem eqv_self {d : PyData} (h : SeqAt.shaped d = true) : PyData.eqv d d = true := SeqAt.eqv_refl d (SeqAt.canLay_of_shaped h)
/-! ### what a reading gives, as data -/
def rdD : Rd → PyData
  | .line k => .tuple [.str "line", .int k]
  | .taken k => .tuple [.str "taken", .int k]
  | .large k => .tuple [.str "large", .int k]
  | .good G => .tuple [.str "grammar", gD G]
def RdOk : Rd → Prop
  | .good G => ∀ r ∈ G, GoodR r
  | _ => True
theorem rd_shaped {x : Rd} (h : RdOk x) : SeqAt.shaped (rdD x) = true := by
  cases x with
  | line k => exact shaped_mk (by simp [rdD, PyData.canLay0, PyData.canLayAll0]; decide +kernel) (by simp [rdD, PyData.depth, PyData.depthAll])
  | taken k => exact shaped_mk (by simp [rdD, PyData.canLay0, PyData.canLayAll0]; decide +kernel) (by simp [rdD, PyData.depth, PyData.depthAll])
  | large k => exact shaped_mk (by simp [rdD, PyData.canLay0, PyData.canLayAll0]; decide +kernel) (by simp [rdD, PyData.depth, PyData.depthAll])
  | good G =>
    have h1 : (gD G).canLay0 = true := SeqAt.canLay_of_shaped (gD_shaped h)
    have h2 : (gD G).depth ≤ 64 - 1 := by
      have := rules_depth G
      unfold gD
      simp only [PyData.depth]
      omega
    refine shaped_mk ?_ ?_
    · simp only [rdD, PyData.canLay0, PyData.canLayAll0, h1, Bool.and_true]
      decide +kernel
    · simp only [rdD, PyData.depth, PyData.depthAll]
      omega
end Ld

set_option Elab.async false
set_option linter.all false
set_option maxRecDepth 100000
set_option maxHeartbeats 4000000
/-! What stands stands, tables may grow; grammars in the heap. -/
namespace Ld
open PySem PySem.Spec PyProof.Rows L2 TL
/-- what stood stands, but that tables stay tables -/
def Up (H H2 : Hp) : Prop := ∀ b o, H b = some o → H2 b = some o ∨ ∃ ps qs, o = .tbl ps ∧ H2 b = some (.tbl qs)
theorem Up.refl (H : Hp) : Up H H := fun _ _ h => .inl h
theorem Up.trans {A B C : Hp} (u : Up A B) (v : Up B C) : Up A C := fun b o h => by
  rcases u b o h with e | ⟨ps, qs, rfl, e⟩
  · exact v b o e
  · rcases v b _ e with e2 | ⟨_, q2, _, e2⟩
    · exact .inr ⟨ps, qs, rfl, e2⟩
    · exact .inr ⟨ps, q2, rfl, e2⟩
theorem Up.dom {A B : Hp} (u : Up A B) {b : Addr} (h : B b = none) : A b = none := by
  cases e : A b with
  | none => rfl
  | some o =>
    rcases u b o e with e2 | ⟨_, _, _, e2⟩
    · rw [h] at e2; cases e2
    · rw [h] at e2; cases e2
theorem Up.lst {A B : Hp} (u : Up A B) {a : Addr} {xs : List V} (h : A a = some (.lst xs)) : B a = some (.lst xs) := by
  rcases u a _ h with e | ⟨_, _, z, _⟩
  · exact e
  · cases z
theorem Up.tup {A B : Hp} (u : Up A B) {a : Addr} {xs : List V} (h : A a = some (.tup xs)) : B a = some (.tup xs) := by
  rcases u a _ h with e | ⟨_, _, z, _⟩
  · exact e
  · cases z
theorem Up.xd {A B : Hp} (u : Up A B) {a : Addr} {fs : List (Str × V)} (h : A a = some (.xd fs)) : B a = some (.xd fs) := by
  rcases u a _ h with e | ⟨_, _, z, _⟩
  · exact e
  · cases z
theorem Up.seq {K : PySem.W.Frag} {A B : Hp} (u : Up A B) {a : Addr} {xs : List V} (h : SqL K A a xs) : SqL K B a xs := by
  rcases h with h | h
  · left
    rcases h with h | ⟨o, h⟩
    · exact .inl (u.lst h)
    · right
      refine ⟨o, ?_⟩
      rcases u a _ h with e | ⟨_, _, z, _⟩
      · exact e
      · cases z
  · exact .inr h
theorem Up.seqT {K : PySem.W.Frag} {A B : Hp} (u : Up A B) {a : Addr} {xs : List V} (h : SqT K A a xs) : SqT K B a xs := by
  rcases h with h | h
  · left
    rcases h with h | ⟨o, h⟩
    · exact .inl (u.tup h)
    · right
      refine ⟨o, ?_⟩
      rcases u a _ h with e | ⟨_, _, z, _⟩
      · exact e
      · cases z
  · exact .inr h
theorem Up.of_same {A B : Hp} (h : Same A B) : Up A B := fun b o e => .inl (h b o e)
theorem Up.upd {A B : Hp} (u : Up A B) {p : Addr} {o : HO} (n : A p = none) : Up A (upd B p o) := fun b x e => by
  have ne : b ≠ p := fun z => by rw [z, n] at e; cases e
  rw [upd_ne ne]
  exact u b x e
theorem Up.put (A : Hp) {p : Addr} {o : HO} (n : A p = none) : Up A (L2.upd A p o) := (Up.refl A).upd n
theorem Up.tabbed {A B : Hp} {T : Addr} (t : GxR.TabG A T) (h : GxR.Tabbed T A B) : Up A B := fun b o e => by
  by_cases z : b = T
  · subst z
    obtain ⟨ps, e1, _⟩ := t
    obtain ⟨qs, e2, _⟩ := h.1
    rw [e1] at e
    cases e
    exact .inr ⟨ps, qs, rfl, e2⟩
  · rw [← h.2 b z] at e
    exact .inl e
/-- the two tables -/
def Tb (T1 T2 : Addr) (H : Hp) : Prop := GxR.TabG H T1 ∧ GxR.TabG H T2
theorem tabG_upd {H : Hp} {T p : Addr} {o : HO} (h : GxR.TabG H T) (n : p ≠ T) : GxR.TabG (upd H p o) T := by
  obtain ⟨ps, e, t⟩ := h
  exact ⟨ps, by rw [upd_ne (Ne.symm n)]; exact e, t⟩
theorem tabG_new {H : Hp} {T p : Addr} {o : HO} (h : GxR.TabG H T) (n : H p = none) : GxR.TabG (upd H p o) T := tabG_upd h fun z => by
  obtain ⟨ps, e, _⟩ := h
  rw [z, e] at n
  cases n
theorem tabG_in {H : Hp} {T p : Addr} {o u : HO} (h : GxR.TabG H T) (n : H p = some u) (k : ∀ ps, u ≠ .tbl ps) : GxR.TabG (upd H p o) T := tabG_upd h fun z => by
  obtain ⟨ps, e, _⟩ := h
  rw [z, e] at n
  cases n
  exact k _ rfl
theorem Tb.new {T1 T2 : Addr} {H : Hp} (t : Tb T1 T2 H) {p : Addr} {o : HO} (n : H p = none) : Tb T1 T2 (upd H p o) := ⟨tabG_new t.1 n, tabG_new t.2 n⟩
theorem Tb.lst {T1 T2 : Addr} {H : Hp} (t : Tb T1 T2 H) {p : Addr} {o : HO} {xs : List V} (n : H p = some (.lst xs)) : Tb T1 T2 (upd H p o) := ⟨tabG_in t.1 n (fun _ z => by cases z), tabG_in t.2 n fun _ z => by cases z⟩
theorem tabbed_other {H H2 : Hp} {T T2 : Addr} (t : GxR.TabG H T2) (h : GxR.Tabbed T H H2) : GxR.TabG H2 T2 := by
  by_cases z : T2 = T
  · rw [z]
    exact h.1
  · obtain ⟨ps, e, k⟩ := t
    exact ⟨ps, by rw [h.2 T2 z]; exact e, k⟩
theorem Tb.on1 {T1 T2 : Addr} {H H2 : Hp} (t : Tb T1 T2 H) (h : GxR.Tabbed T1 H H2) : Tb T1 T2 H2 := ⟨h.1, tabbed_other t.2 h⟩
theorem Tb.on2 {T1 T2 : Addr} {H H2 : Hp} (t : Tb T1 T2 H) (h : GxR.Tabbed T2 H H2) : Tb T1 T2 H2 := ⟨tabbed_other t.1 h, h.1⟩
/-! ### what is new -/
def News (A B : Hp) : Hp := fun a => match A a with
  | none => B a
  | some _ => none
theorem news_of {A B : Hp} {a : Addr} (h : A a = none) : News A B a = B a := by
  unfold News
  rw [h]
theorem news_at {A B : Hp} {a : Addr} {o : HO} (h : News A B a = some o) : A a = none ∧ B a = some o := by
  unfold News at h
  cases e : A a with
  | none =>
    rw [e] at h
    exact ⟨rfl, h⟩
  | some _ =>
    rw [e] at h
    cases h
theorem news_same {A B : Hp} : Same (News A B) B := fun _ _ h => (news_at h).2
theorem News.up {A B C : Hp} (u : Up B C) : Up (News A B) (News A C) := fun b o h => by
  obtain ⟨n, e⟩ := news_at h
  rw [news_of n]
  exact u b o e
theorem News.less {A A2 B : Hp} (d : ∀ b, A2 b = none → A b = none) : Same (News A2 B) (News A B) := fun b o h => by
  obtain ⟨n, e⟩ := news_at h
  rw [news_of (d b n)]
  exact e
theorem News.put {A B : Hp} {p : Addr} {o u : HO} (h : A p = some u) : News A (upd B p o) = News A B := by
  funext b
  unfold News
  cases e : A b with
  | some _ => rfl
  | none =>
    have : b ≠ p := fun z => by rw [z, h] at e; cases e
    simp only
    rw [upd_ne this]
/-! ### rules and grammars in the heap -/
def RuleA (H : Hp) (v : V) (r : Rule) : Prop := ∃ t l, v = .ref t ∧ H t = some (.tup [.str r.1, .ref l]) ∧ H l = some (.lst (r.2.map V.str))
theorem RuleA.up {A B : Hp} (u : Up A B) {v : V} {r : Rule} (h : RuleA A v r) : RuleA B v r := by
  obtain ⟨t, l, e, h1, h2⟩ := h
  exact ⟨t, l, e, u.tup h1, u.lst h2⟩
def GrA (H : Hp) : List V → List Rule → Prop
  | [], [] => True
  | v :: vs, r :: G => RuleA H v r ∧ GrA H vs G
  | _, _ => False
theorem GrA.up {A B : Hp} (u : Up A B) : ∀ {vs : List V} {G : List Rule}, GrA A vs G → GrA B vs G
  | [], [], _ => True.intro
  | _ :: _, _ :: _, h => ⟨h.1.up u, h.2.up u⟩
  | [], _ :: _, h => h.elim
  | _ :: _, [], h => h.elim
theorem GrA.len {A : Hp} : ∀ {vs : List V} {G : List Rule}, GrA A vs G → vs.length = G.length
  | [], [], _ => rfl
  | _ :: _, _ :: _, h => by rw [List.length_cons, List.length_cons, h.2.len]
  | [], _ :: _, h => h.elim
  | _ :: _, [], h => h.elim
theorem GrA.get {A : Hp} : ∀ {vs : List V} {G : List Rule} {i : Nat} {v : V}, GrA A vs G → vs[i]? = some v → ∃ r, G[i]? = some r ∧ RuleA A v r
  | _ :: _, r :: _, 0, _, h, e => by
    cases e
    exact ⟨r, rfl, h.1⟩
  | _ :: _, _ :: _, i + 1, _, h, e => h.2.get (i := i) e
  | [], _, _, _, _, e => by cases e
  | _ :: _, [], _, _, h, _ => h.elim
theorem GrA.snoc {A : Hp} : ∀ {vs : List V} {G : List Rule} {v : V} {r : Rule}, GrA A vs G → RuleA A v r → GrA A (vs ++ [v]) (G ++ [r])
  | [], [], _, _, _, q => ⟨q, True.intro⟩
  | _ :: _, _ :: _, _, _, h, q => ⟨h.1, h.2.snoc q⟩
  | [], _ :: _, _, _, h, _ => h.elim
  | _ :: _, [], _, _, h, _ => h.elim
def GraA (H : Hp) (g : Addr) (G : List Rule) : Prop := ∃ vs, H g = some (.lst vs) ∧ GrA H vs G
theorem GraA.up {A B : Hp} (u : Up A B) {g : Addr} {G : List Rule} (h : GraA A g G) : GraA B g G := by
  obtain ⟨vs, e, q⟩ := h
  exact ⟨vs, u.lst e, q.up u⟩
theorem dp_strs {K : PySem.W.Frag} {H : Hp} : ∀ xs : List Str, DpAll K H (xs.map V.str) (xs.map PyData.str)
  | [] => .nil
  | x :: xs => .cons (.str x) (dp_strs xs)
theorem RuleA.dp {K : PySem.W.Frag} {H : Hp} {v : V} {r : Rule} (h : RuleA H v r) : Dp K H v (ruleD r) := by
  obtain ⟨t, l, rfl, h1, h2⟩ := h
  exact .tup (SqT.of h1) (.cons (.str _) (.cons (.lst (SqL.of h2) (dp_strs _)) .nil))
theorem GrA.dp {K : PySem.W.Frag} {H : Hp} : ∀ {vs : List V} {G : List Rule}, GrA H vs G → DpAll K H vs (G.map ruleD)
  | [], [], _ => .nil
  | _ :: _, _ :: _, h => .cons h.1.dp h.2.dp
  | [], _ :: _, h => h.elim
  | _ :: _, [], h => h.elim
theorem GraA.dp {K : PySem.W.Frag} {H : Hp} {g : Addr} {G : List Rule} (h : GraA H g G) : Dp K H (.ref g) (gD G) := by
  obtain ⟨vs, e, q⟩ := h
  exact .lst (SqL.of e) q.dp
/-- grammars that a law hands in -/
def GoodG (most : Nat) (G : List Rule) : Prop := (∀ r ∈ G, GoodR r) ∧ G.Nodup ∧ G ≠ [] ∧ G.length ≤ most
end Ld

set_option Elab.async false
set_option linter.all false
set_option maxRecDepth 100000
set_option maxHeartbeats 4000000
/-! Small facts that many laws use. -/
namespace Ld
open PySem PySem.Spec PyProof.Rows L2
theorem same_put {A B : Hp} (u : Same A B) {p : Addr} {o : HO} (n : A p = none) : Same A (upd B p o) := fun b x e => by
  rw [upd_ne (ne_of_none e n)]
  exact u b x e
theorem million0 {n : Nat} (h : n ≤ 1000000) : n ≤ sizeLine := Nat.le_trans h (by decide)
theorem million1 {n : Nat} (h : n ≤ 1000000) : n < sizeLine := Nat.lt_of_le_of_lt h (by decide)
theorem str_at {ss : List Str} {j : Nat} {x : V} (h : (ss.map V.str)[j]? = some x) : ∃ s, ss[j]? = some s ∧ x = V.str s := by
  rw [List.getElem?_map] at h
  cases e : ss[j]? with
  | none =>
    rw [e] at h
    cases h
  | some s =>
    rw [e] at h
    exact ⟨s, rfl, (Option.some.inj h).symm⟩
theorem cut_map {ss : List Str} {i k : Nat} (h : k ≤ ss.length) (h2 : i ≤ k) : cutV (ss.map V.str) (some (i : Int)) (some (k : Int)) = ((ss.drop i).take (k - i)).map V.str := by
  unfold cutV
  rw [HT.sIx_nat, HT.sIx_nat, List.length_map, Nat.min_eq_left h, Nat.min_eq_left (Nat.le_trans h2 h), List.map_take, List.map_drop]
end Ld

set_option Elab.async false
set_option linter.all false
set_option maxRecDepth 100000
set_option maxHeartbeats 4000000
/-! repr of data, where nothing is being shown already; a law that is called where nothing is being shown. -/
namespace Lg
open PySem PySem.Spec PyProof.Rows L2 LamX GxR
/-- repr of data at any depth -/
def rRepr (K : PySem.W.Frag) : List V → Hp → VK → Prop := fun xs H Q => ∃ (a : Addr) (d : PyData), xs = [.ref a] ∧ Dp K H (.ref a) d ∧ d.showable = true ∧ SeqAt.shaped d = true ∧ d.shown.length ≤ sizeLine ∧ Q (.str d.shown) H
theorem call_repr {X : Cx} (hg : X.A.guards = some []) (hu : X.A.units + 66 < cLine) : CallR X (.builtin "repr") (rRepr X.K) := by
  intro pins s σ H xs us Q I r h
  obtain ⟨a, d, rfl, hd, show_, shp, sz, q⟩ := h
  obtain ⟨u, rfl, rx⟩ := vals1 r
  obtain rfl : u = Value.ref a := rx
  obtain ⟨as, r1⟩ := Dp.reads I d _ _ hd rfl
  have dep := SeqAt.depth_of_shaped shp
  refine repr_of_reads' r1 show_ (PyData.noDict_hsm (PyData.hasDict_of_canLay d (SeqAt.canLay_of_shaped shp))) hg (by omega) (fun _ _ e => e) (fun h2 v tk up => ?_) sz
  exact ⟨.str _, H, I.kept up, ⟨v, rfl⟩, q⟩
/-- the def at fa keeps sp where it is called by no def at all -/
structure Top (P : Program) (w : World) (K : PySem.W.Frag) (mg : Str → Option Value) (base : Heap) (CX : CXT) (fa : Addr) (fd : FuncData) (ps : List Str) (sp : Sp) : Prop where
  len : ∀ vs H Q E, sp vs H Q E → vs.length = ps.length
  run : ∀ (s : Shared) (H : Hp) (args : Args) (us : List Value) (vs : List V) (Q : VK) (E : XK), Env0 P w K mg base callerA [] s H → BindsTo s fd args (ps.zip us) → Vals vs us → sp vs H Q E →
    codeAny (model P w) callerA (.call (.ref fa) args) (CR CX [] P w H s Q E) s
section
variable {P : Program} {w : World} {K : PySem.W.Frag} {mg : Str → Option Value} {base : Heap}
theorem top_ok {x qual : Str} {st : Stmt} {f : Addr} {fd : FuncData} {N ps : List Str} {k : Nat} {sp : Sp} (F : Fun K x qual st f fd) (S : FnScope N ps (defScope st)) (room : Room (k + 1) callerA) (len : ∀ vs H Q E, sp vs H Q E → vs.length = ps.length)
    (hbody : ∀ (cdv : Value) (s : Shared) (H : Hp) (vs : List V) (Q : VK) (E : XK), Room k (callerA.deeper (envOfC qual (defScope st) s.heap.objs.size f cdv)) → sp vs H Q E →
      ∃ t, PSs (cxOf CX0 P w K mg base N qual (defScope st) f cdv callerA [] s H E).nox (defBody st) t ∧ t { nx := fun _ H' => Q .non H', rt := Q } (start N vs) H) : Top P w K mg base CX0 f fd ps sp := by
  obtain ⟨oc, od, kV, doc, pm, an, cdv, ct, osl, rfl, lk, code⟩ := F.ex
  refine ⟨len, fun s H args us vs Q E e0 bind rel want => ?_⟩
  have count := len _ _ _ _ want
  have inK : K.In s.heap := e0.mod.kin.keeps fun b o e => (e0.bs b o e).1
  have lim : s.heap.NoLimit := e0.mod.nolimit.keeps fun b o e => (e0.bs b o e).1
  have kinds : ∀ y ∈ ps.zip us, (defScope st).names.lookup y.1 = some .local ∨ ((defScope st).names.lookup y.1 = some .cell ∧ ((cellsFrom (s.heap.objs.size + 1) (defScope st).names []).lookup y.1).isSome = true) := by
    rintro ⟨n, v⟩ hy
    exact (S.par n (List.of_mem_zip hy).1).imp_right fun q => ⟨q, PySem.W.cellsFrom_some _ _ _ (.inl q)⟩
  refine codeAny_call_function room.depth (inK _ _ lk) rfl S.co S.gen rfl (PySem.W.codeRec_of inK code) (bind _ _ _ _ ?_)
  refine wpAny_newFunctionEnv_cells S.kind kinds fun env made s1 x => ?_
  subst made
  refine ⟨lim.keeps x.toInCall.keep, codeAny_func ?_⟩
  obtain ⟨t, body, reads⟩ := hbody cdv s H vs Q E (room.deeper _) want
  have I : Inv (cxOf CX0 P w K mg base N qual (defScope st) f cdv callerA [] s H E) [] (start N vs) H s1 := inv_start S room.hd e0 count rel x
  refine wpAny_mono (body.nox.run [] s1 (start N vs) H _ I reads) (fun fl s2 ends => ?_) fun e s2 z => z
  cases fl with
  | brk =>
    obtain ⟨_, _, _, z⟩ := ends
    exact False.elim z
  | cont =>
    obtain ⟨_, _, _, z⟩ := ends
    exact False.elim z
  | next =>
    obtain ⟨σ2, H2, J, q⟩ := ends
    exact ⟨V.non, H2, J.os, J.bare, J.base, J.hok, rfl, q⟩
  | ret u =>
    obtain ⟨v, σ2, H2, J, rv, q⟩ := ends
    exact ⟨v, H2, J.os, J.bare, J.base, J.hok, rv, q⟩
/-- an object that is no table's and no list's is as it is where tables and the script are hidden -/
theorem top_call {cs : List (Addr × Addr)} {fd : FuncData} {x : Str} {sp : Sp} {t1 : Shared} {mb : Str → Option Value} {vals : List Value} {nums : List Int} {fa a : Addr} (inK : K.In t1.heap) (top : t1.heap.Ns mainGlobals mg) (blt : t1.heap.Ns builtinsNs mb) (sameB : ∀ x : Str, x ≠ "__name__" → mb x = bootBuiltins x)
    (lim : t1.heap.NoLimit) (noGens : t1.gens = #[]) (tabs : ∀ p ∈ cs, t1.heap.get? p.2 = some { cls := .none, data := .fields #[] }) (tabsK : ∀ p ∈ cs, K.lookup p.2 = none) (codes : ∀ p ∈ cs, PySem.W.CodeHd t1.heap p.1 p.2)
    (modB : ∃ (bm : Addr) (ob : Obj), mg "__builtins__" = some (.ref bm) ∧ bm ≠ builtinsNs ∧ t1.heap.get? bm = some ob ∧ ob.cls = .type "module" ∧ ob.dict = some builtinsNs ∧ ob.data = .plain)
    (script : t1.heap.get? a = some { cls := .type "list", data := .seq vals.toArray }) (areInts : IntsAre vals nums) (fits : nums.length ≤ sizeLine)
    (F : ∀ base : Heap, K.In base → base.Ns mainGlobals mg → (∀ p ∈ cs, LamX.TabB base mg p.1 p.2) → Top P w K mg base CX0 fa fd [x] sp) (bind : ∀ (s : Shared) (u : Value), BindsTo s fd ⟨[u], []⟩ [(x, u)])
    (want : ∀ H : Hp, (∀ p ∈ cs, H p.2 = some (.tbl #[])) → SqL K H a (nums.map V.int) → sp [.ref a] H (fun v _ => v = .bl true) fun _ _ _ => False) :
    codeAny (model P w) callerA (.call (.ref fa) ⟨[.ref a], []⟩) (fun r s' => r = .ok (.ret (.bool true)) ∧ OldK t1.heap s'.heap ∧ s'.os = t1.os ∧ AllBare s'.gens) t1 := by
  have rel := vals_ints areInts
  have lenV := areInts.length
  let Tm := cs.map (·.2)
  let lst : Obj := { cls := .type "list", data := .seq vals.toArray }
  have memT : ∀ p ∈ cs, p.2 ∈ Tm := fun p hp => List.mem_map.mpr ⟨p, hp, rfl⟩
  have isT : ∀ b ∈ Tm, ∃ p ∈ cs, p.2 = b ∧ t1.heap.get? b = some { cls := .none, data := .fields #[] } := fun b mem => by
    obtain ⟨p, hp, rfl⟩ := List.mem_map.mp mem
    exact ⟨p, hp, rfl, tabs p hp⟩
  have aT : a ∉ Tm := fun mem => by
    obtain ⟨_, _, _, e⟩ := isT a mem
    have := (congrArg Obj.data (Option.some.inj (script.symm.trans e)))
    cases this
  -- the tables, and the script unless it is written: nothing else is tracked
  obtain ⟨H, hT, hS, cases_⟩ : ∃ H : Hp, (∀ p ∈ cs, H p.2 = some (.tbl #[])) ∧ SqL K H a (nums.map V.int) ∧ ∀ b u, H b = some u → (b ∈ Tm ∧ u = .tbl #[]) ∨ (b = a ∧ K.lookup a = none ∧ u = .frz lst (.lst (nums.map V.int))) := by
    cases at_ : K.lookup a with
    | some o =>
      have e := inK a o at_
      rw [script] at e
      cases e
      refine ⟨fun b => if b ∈ Tm then some (.tbl #[]) else none, fun p hp => if_pos (memT p hp), .inr ⟨_, vals.toArray, _, at_, rfl, rfl, rfl, by rw [List.size_toArray, lenV]; exact fits, by simpa using rel⟩, fun b u z => ?_⟩
      by_cases mem : b ∈ Tm
      · exact .inl ⟨mem, (Option.some.inj ((if_pos mem).symm.trans z)).symm⟩
      · cases (if_neg mem).symm.trans z
    | none =>
      refine ⟨fun b => if b ∈ Tm then some (.tbl #[]) else if b = a then some (.frz lst (.lst (nums.map V.int))) else none, fun p hp => if_pos (memT p hp), .inl (.inr ⟨lst, (if_neg aT).trans (if_pos rfl)⟩), fun b u z => ?_⟩
      by_cases mem : b ∈ Tm
      · exact .inl ⟨mem, (Option.some.inj ((if_pos mem).symm.trans z)).symm⟩
      · have z2 := (if_neg mem).symm.trans z
        by_cases e : b = a
        · exact .inr ⟨e, rfl, (Option.some.inj ((if_pos e).symm.trans z2)).symm⟩
        · cases (if_neg e).symm.trans z2
  have off : ∀ {b : Addr} {o : Obj}, t1.heap.get? b = some o → o.data ≠ .fields #[] → (b = a → K.lookup a = none → False) → H b = none := fun {b o} e d n => by
    cases q : H b with
    | none => rfl
    | some u =>
      rcases cases_ b u q with ⟨mem, _⟩ | ⟨e2, k, _⟩
      · obtain ⟨_, _, _, e3⟩ := isT b mem
        rw [e3] at e
        cases e
        exact (d rfl).elim
      · exact (n e2 k).elim
  have offD : ∀ {b : Addr} {o : Obj}, t1.heap.get? b = some o → o.data ≠ .fields #[] → o.data ≠ .seq vals.toArray → H b = none := fun {b o} e d1 d2 => off e d1 fun e2 _ => by
    rw [e2, script] at e
    cases e
    exact d2 rfl
  have ok : HOk P w H t1.heap := fun b u z => by
    rcases cases_ b u z with ⟨mem, rfl⟩ | ⟨rfl, _, rfl⟩
    · obtain ⟨_, _, _, e⟩ := isT b mem
      exact e
    · exact ⟨script, by rw [List.length_map]; exact fits, vals, _, rel, script⟩
  have nsB : ∀ {b : Addr} {m : Str → Option Value}, t1.heap.Ns b m → (hidT t1.heap H).Ns b m := fun {b m} ⟨o, es, ep, e, d, r⟩ => by
    refine ⟨o, es, ep, hidT_get e (offD e ?_ ?_), d, r⟩
    · rw [d]
      intro z
      cases z
    · rw [d]
      intro z
      cases z
  have inB : K.In (hidT t1.heap H) := fun b o e => by
    refine hidT_get (inK b o e) ?_
    cases q : H b with
    | none => rfl
    | some u =>
      rcases cases_ b u q with ⟨mem, _⟩ | ⟨e2, k, _⟩
      · obtain ⟨p, hp, e3, _⟩ := isT b mem
        rw [← e3, tabsK p hp] at e
        cases e
      · rw [e2, k] at e
        cases e
  have tabB : ∀ p ∈ cs, LamX.TabB (hidT t1.heap H) mg p.1 p.2 := fun p hp => by
    obtain ⟨og, eg, epg, atG, dG, _⟩ := id top
    have tp := tabs p hp
    refine ⟨?_, ?_, fun z => ?_⟩
    · obtain ⟨o, us, file, tf, flags, tg, inF, text, tt, e1, r1, r2, r3, r4, r5, r6, r7, r8, ne⟩ := codes p hp
      refine ⟨o, us, file, tf, flags, tg, inF, text, tt, hidT_get e1 (offD e1 ?_ ?_), r1, r2, r3, r4, r5, r6, r7, r8, ne⟩
      · rw [r2]
        intro z
        cases z
        simp at r3
      · rw [r2]
        intro z
        cases z
    · obtain ⟨bm, ob, b1, b2, b3, b4, b5, b6⟩ := modB
      refine ⟨bm, ob, b1, b2, fun q => ?_, fun q => ?_, hidT_get b3 (offD b3 (by rw [b6]; intro z; cases z) (by rw [b6]; intro z; cases z)), b4, b5, b6⟩
      · rw [q, atG] at b3
        cases b3
        rw [dG] at b6
        cases b6
      · rw [q, tp] at b3
        cases b3
        cases b6
    · rw [z, tp] at atG
      cases atG
      cases dG
  have env0 : Env0 P w K mg (hidT t1.heap H) callerA [] t1 H := ⟨rfl, ⟨inB, nsB top, ⟨mb, nsB blt, sameB⟩, let ⟨mc, h1, h2⟩ := lim; ⟨mc, nsB h1, h2⟩⟩, fun b o e => of_hidT e, Nat.le_of_eq (hidT_size _ _), trivial, fun b hb => (List.not_mem_nil hb).elim, ok, .of_eq noGens⟩
  refine codeAny_mono ((F _ inB (nsB top) tabB).run t1 H ⟨[.ref a], []⟩ [.ref a] [.ref a] _ _ env0 (bind t1 (.ref a)) (.cons rfl .nil) (want H hT hS)) fun r s2 left => ?_
  cases r with
  | error e => exact (show False from left).elim
  | ok fl =>
    cases fl with
    | next => exact (show False from left).elim
    | brk => exact (show False from left).elim
    | cont => exact (show False from left).elim
    | ret u =>
      obtain ⟨v, H2, os2, bare2, un, ok2, ru, isTrue_⟩ := left
      obtain rfl : v = .bl true := isTrue_
      obtain rfl : u = Value.bool true := ru
      have grown : ∀ p ∈ cs, ∃ more : Array Value, s2.heap.get? p.2 = some { cls := .none, data := .fields more } := fun p hp => by
        obtain ⟨more, z⟩ := un.tbls p.2 #[] (hT p hp)
        exact ⟨_, ok2 p.2 _ z⟩
      have kept : ∀ b o, b ∉ Tm → t1.heap.get? b = some o → s2.heap.get? b = some o := fun b o out e => by
        cases q : H b with
        | none => exact un.keep b o e q (fun z => (List.not_mem_nil z).elim) (fun z => (List.not_mem_nil z).elim)
        | some u =>
          rcases cases_ b u q with ⟨mem, _⟩ | ⟨_, _, rfl⟩
          · exact (out mem).elim
          · obtain ⟨e1, _⟩ := ok b _ q
            obtain ⟨e2, _⟩ := ok2 b _ (un.frzs b _ _ q)
            rw [e] at e1
            cases e1
            exact e2
      refine ⟨rfl, ⟨fun b o e => ?_, fun b o e => ?_⟩, os2, bare2⟩
      · by_cases mem : b ∈ Tm
        · obtain ⟨p, hp, rfl, at_⟩ := isT b mem
          obtain ⟨more, hm⟩ := grown p hp
          rw [at_] at e
          cases e
          exact .inr (.inl ⟨((codes p hp).tab at_).isCodeTable, rfl, #[], more, rfl, by rw [Array.empty_append]; exact hm⟩)
        · exact .inl (kept b o mem e)
      · by_cases mem : b ∈ Tm
        · obtain ⟨p, hp, rfl, _⟩ := isT b mem
          obtain ⟨more, hm⟩ := grown p hp
          exact ⟨_, hm⟩
        · exact ⟨o, kept b o mem e⟩
end
/-- what is known of the law's promise at the head's heap -/
def LawTop (l : PySem.W.OpenLaw) (w : World) (K : PySem.W.Frag) (n : Nat) (x : Str) (mg : Str → Option Value) (fa : Addr) (h : Heap) : Prop :=
  ∃ (fd : FuncData) (cs : List (Addr × Addr)) (sp : Sp), (∀ p ∈ cs, PySem.W.CodeHd h p.1 p.2 ∧ h.get? p.2 = some { cls := .none, data := .fields #[] } ∧ K.lookup p.2 = none) ∧ (∀ (s : Shared) (u : Value), BindsTo s fd ⟨[u], []⟩ [(x, u)]) ∧
    (∀ (H : Hp) (a : Addr) (ns : List Int), ns.length ≤ n → (∀ p ∈ cs, H p.2 = some (.tbl #[])) → SqL K H a (ns.map V.int) → sp [.ref a] H (fun v _ => v = .bl true) fun _ _ _ => False) ∧
    ∀ base : Heap, K.In base → base.Ns mainGlobals mg → (∀ p ∈ cs, LamX.TabB base mg p.1 p.2) → Top l.prog w K mg base CX0 fa fd [x] sp
theorem walk_top {l : PySem.W.OpenLaw} {n : Nat} {q : Program} {loose : List Str} {XP : (Str → Option Value) → Heap → Prop} {YP : World → Heap → Prop} {d : PySem.DefRec} {K : Params → PySem.W.Frag} {x : Str}
    (most : l.most = some n) (fits : n ≤ sizeLine) (plain : d.params.defaults = []) (hY : ∀ (w : World) (h : Heap), YP w h → (K w.params).In h)
    (F : ∀ (w : World) (mg : Str → Option Value) (fa : Addr) (h : Heap), YP w h → (K w.params).In h → h.Ns mainGlobals mg → mg d.name = some (.ref fa) →
      (∀ (y : Str) (d' : PySem.DefRec) (c T : Addr), (recsOf q).find? (fun e => e.name == y) = some d' → PySem.W.tabIn (K w.params) y = some (c, T) → PySem.W.CodeHd h c T ∧ h.get? T = some { cls := .none, data := .fields #[] }) → LawTop l w (K w.params) n x mg fa h) :
    PySem.W.WalkO q loose XP YP l.row.toRowW d [] (fun f vs => PySem.call f vs) := by
  refine Att.attach_callB most plain fun w s₀ s1 mg mb fa o pm cd doc a vs ns G Y ho hd hcd hmg hobj hints hlen hbits hg => ?_
  have inK := hY w _ Y
  obtain ⟨fd, cs, sp, tabs, bind, want, prom⟩ := F w mg fa _ Y inK G.T.g hmg fun y d' c T found at_ => PySem.W.tab_of G.T inK found at_
  exact top_call inK G.T.g G.T.b G.T.builtins G.T.nolimit hg (fun p hp => (tabs p hp).2.1) (fun p hp => (tabs p hp).2.2) (fun p hp => (tabs p hp).1) G.T.bmain hobj hints (Nat.le_trans hlen fits) prom bind fun H hH hS => want H a ns hlen hH hS
end Lg

set_option Elab.async false
set_option linter.all false
set_option maxRecDepth 100000
set_option maxHeartbeats 4000000
/-! a != b of two dicts that are equal, their values lists. -/
namespace PySem.W
open PySem PySem.Spec PyProof.Rows
section
variable {K : Type} [DecidableEq K] {prog : Program} {w : World} {A : Around} {E : Value → Shared → Prop} {s : Shared} {knd : KeyKind prog w K}
theorem rcP_dictsNe {a b : Addr} {ka kb : List (K × Value)} {r : Bool} {Q : Value → Shared → Prop} (ha : (a == sysModules) = false) (hb : (b == sysModules) = false)
    (da : s.heap.DictOf knd a ka) (db : s.heap.DictOf knd b kb) (hu : A.units < cLine) (hits : ka.length = kb.length → KeqHitsP prog w A.in1 s kb ka r) (h : Q (.bool (!(ka.length == kb.length && r))) s) : wpAny (model prog w) A (compareOp .NotEq (.ref a) (.ref b)) Q E s := by
  refine wpAny_richCompare_same_room (op := .NotEq) da.typeIs db.typeIs PySem.F.slot_dict_ne (wpAny_call_entry PySem.F.slot_dict_ne da.typeIs PySem.F.entry_dict_ne ?_ (PySem.F.args_dict_ne_2 _ _)) hu
  show wpAny _ _ (Builtin.Dict.dictSlotArgs "__ne__" ⟨[.ref a, .ref b], []⟩ >>= _) _ _ s
  refine wpAny_bind ?_
  unfold Builtin.Dict.dictSlotArgs
  refine wpAny_bind (wpAny_notOrdered_dict da.typeIs ?_)
  show wpAny _ _ (pure (Value.ref a, Value.ref b)) _ _ s
  refine wpAny_pure ?_
  refine wpAny_bind (wpAny_isInstance (T := "dict") db.typeIs PySem.F.sub_dict_dict ?_)
  simp only [Bool.not_true, Bool.false_eq_true, if_false]
  refine wpAny_bind (wpAny_pure (wpAny_bind (wpAny_pure ?_)))
  refine wpAny_bind (samePairsP ha hb da db hits ?_)
  refine wpAny_pure ⟨_, rfl, ?_, ?_⟩
  · exact fun x => nomatch x
  · simpa using h
end
end PySem.W
namespace Ld
open PySem PySem.Spec PyProof.Rows L2
def rNeVD (K : PySem.W.Frag) : R2 := fun x y H Q => ∃ a b ks ls n, n ≤ 60 ∧ x = .ref a ∧ y = .ref b ∧ H a = some (.dK ks) ∧ H b = some (.dK ls) ∧ ks.length = ls.length ∧ (∀ p ∈ ks, ∃ u, valV ls p.1 = some u ∧ EqV K H n p.2 u) ∧ Q (.bl false) H
theorem op_neVD {X : Cx} (hu : X.A.units + 64 < cLine) : OpR X (compareOp .NotEq) (rNeVD X.K) := by
  intro pins s σ H x y v u Q I rx ry h
  obtain ⟨a, b, ks, ls, n, hn, rfl, rfl, ea, eb, hlen, hp, q⟩ := h
  obtain rfl : v = Value.ref a := rx
  obtain rfl : u = Value.ref b := ry
  obtain ⟨_, ya, va, ra, da⟩ := (show ObjOk X.prog X.w H s.heap a (.dK ks) from I.hok a _ ea)
  obtain ⟨_, yb, vb, rb, db⟩ := (show ObjOk X.prog X.w H s.heap b (.dK ls) from I.hok b _ eb)
  have hl : va.length = vb.length := by rw [← ra.length, ← rb.length]; exact hlen
  refine PySem.W.rcP_dictsNe (knd := mixKind X.prog X.w) (r := true) ya yb da db (by omega) (fun _ => hits_run (eqV_run I n X.A.in1 (by show X.A.units + 1 + n < cLine; omega)) rb ra hp) ?_
  rw [show (!(va.length == vb.length && true)) = false from by rw [hl]; simp]
  exact ⟨.bl false, H, I, rfl, q⟩
end Ld

set_option Elab.async false
set_option linter.all false
set_option maxRecDepth 100000
set_option maxHeartbeats 4000000
/-! a == b and a != b of equal values that hold dicts with tuples for keys. -/
namespace PySem.W
open PySem PySem.Spec PyProof.Rows
section
variable {K : Type} [DecidableEq K] {prog : Program} {w : World} {A : Around} {E : Value → Shared → Prop} {s : Shared} {knd : HeapKind prog w K}
/-- each key of the one has an equal value in the other -/
inductive HitsT (prog : Program) (w : World) (A : Around) (s : Shared) (ys : List (K × Addr × Value)) : List (K × Addr × Value) → Prop
  | nil : HitsT prog w A s ys []
  | cons {x : K × Addr × Value} {p : Addr × Value} {r : List (K × Addr × Value)} : atKey ys x.1 = some p → SeqAt.EqP prog w A s x.2.2 p.2 true → HitsT prog w A s ys r → HitsT prog w A s ys (x :: r)
theorem samePairsT {nm : String} {a b : Addr} {xs ys : List (K × Addr × Value)} {Q : Bool → Shared → Prop} (hu : knd.room A) (ha : (a == sysModules) = false) (hb : (b == sysModules) = false)
    (da : s.heap.DictOfH knd a xs) (db : s.heap.DictOfH knd b ys) (len : xs.length = ys.length) (hits : HitsT prog w A s ys xs) (h : Q true s) :
    wpAny (model prog w) A (Builtin.Dict.samePairs nm a b) Q E s := by
  obtain ⟨oa, es, ep, hoa, _, hda, hea, hka, hna⟩ := da
  obtain ⟨ob, es', ep', hob, _, hdb, heb, hkb, hnb⟩ := db
  have hla := size_of_entries hea
  have hlb := size_of_entries heb
  have hsz : es.size = es'.size := by rw [hla, hlb, len]
  unfold Builtin.Dict.samePairs Builtin.Dict.showsAll
  rw [if_neg (show ¬ (a == sysModules) = true by rw [ha]; exact Bool.false_ne_true), if_neg (show ¬ (b == sysModules) = true by rw [hb]; exact Bool.false_ne_true)]
  refine wpAny_bind (wpAny_pure (wpAny_bind (wpAny_pure ?_)))
  refine wpAny_bind (wpAny_dictEntries hoa hda ?_)
  dsimp only
  refine wpAny_bind (wpAny_dictEntries hob hdb ?_)
  rw [if_neg (by rw [hsz]; simp)]
  refine wpAny_bind (wpAny_dictEpoch hoa hda ?_)
  refine wpAny_bind ?_
  rw [Std.Legacy.Range.forIn_eq_forIn_range']
  simp only [Std.Legacy.Range.size, Nat.sub_zero, Nat.add_sub_cancel, Nat.div_one]
  refine wpAny_forIn_list _
    (fun rest q s' => s' = s ∧ q = (none, ()) ∧ ∃ i, rest = List.range' i (es.size - i) ∧ i ≤ es.size ∧ HitsT prog w A s ys (xs.drop i))
    _ ?_ ?_ _ _ ⟨rfl, rfl, 0, by simp, Nat.zero_le _, hits⟩
  · rintro x rest q s' ⟨rfl, rfl, i, hr, hi, hpre⟩
    have hlt : i < es.size := by
      rcases Nat.lt_or_ge i es.size with h | h
      · exact h
      · rw [Nat.sub_eq_zero_of_le h] at hr; simp at hr
    obtain ⟨rfl, hrest⟩ : x = i ∧ rest = List.range' (i + 1) (es.size - (i + 1)) := by
      have e : es.size - i = (es.size - (i + 1)) + 1 := by omega
      rw [e, List.range'_succ] at hr
      injection hr with h1 h2
      exact ⟨h1, h2⟩
    refine wpAny_bind (wpAny_dictEntries hoa hda ?_)
    have hlt' : x < xs.length := by rw [← hla]; exact hlt
    rw [entry_at hea x, List.getElem?_eq_getElem hlt']
    obtain ⟨⟨k, c, v⟩, hkv⟩ : ∃ y, xs[x] = y := ⟨_, rfl⟩
    have hdrop : xs.drop x = (k, c, v) :: xs.drop (x + 1) := by rw [← hkv]; exact List.drop_eq_getElem_cons hlt'
    rw [hkv]
    have hin : (k, c, v) ∈ xs := by rw [← hkv]; exact List.getElem_mem hlt'
    rw [hdrop] at hpre
    cases hpre with
    | cons hat heq hrr =>
      rename_i p
      show wpAny _ _ (holding [Value.ref c, v] _ >>= _) _ _ _
      refine wpAny_bind (wpAny_holding (wpAny_bind (wpAny_dictFind_heap hu (hka _ hin) hob hdb heb hkb hnb (fun no => ?_) fun j p2 hj => ?_)))
      · rw [atKey_none_of_get no] at hat
        cases hat
      · have ep : p = p2 := Option.some.inj (hat.symm.trans (atKey_of_get hnb hj))
        subst ep
        refine wpAny_bind (wpAny_dictEntries hob hdb ?_)
        rw [entry_at heb j, hj]
        refine wpAny_holding (heq _ _ ?_)
        show wpAny _ _ (if (!true) = true then _ else _) _ _ _
        rw [if_neg (by decide)]
        refine wpAny_bind (wpAny_dictEpoch hoa hda ?_)
        rw [if_neg (by simp)]
        exact wpAny_pure ⟨rfl, rfl, x + 1, hrest, hlt, hrr⟩
  · rintro q s' ⟨rfl, rfl, i, hr, hi, hpre⟩
    exact wpAny_pure h
theorem rcP_dictsT {a b : Addr} {xs ys : List (K × Addr × Value)} {op : CmpOp} (hop : op = .Eq ∨ op = .NotEq) (hr : knd.room A.in1) (ha : (a == sysModules) = false) (hb : (b == sysModules) = false)
    (da : s.heap.DictOfH knd a xs) (db : s.heap.DictOfH knd b ys) (hu : A.units < cLine) (len : xs.length = ys.length) (hits : HitsT prog w A.in1 s ys xs) (E Q : Value → Shared → Prop) (h : Q (.bool (op == .Eq)) s) : wpAny (model prog w) A (richCompare op (.ref a) (.ref b)) Q E s := by
  rcases hop with rfl | rfl
  · refine wpAny_richCompare_same_room (op := .Eq) da.typeIs db.typeIs PySem.F.slot_dict_eq (wpAny_call_entry PySem.F.slot_dict_eq da.typeIs PySem.F.entry_dict_eq ?_ (PySem.F.args_dict_eq_2 _ _)) hu
    show wpAny _ _ (Builtin.Dict.dictSlotArgs "__eq__" ⟨[.ref a, .ref b], []⟩ >>= _) _ _ s
    refine wpAny_bind ?_
    unfold Builtin.Dict.dictSlotArgs
    refine wpAny_bind (wpAny_notOrdered_dict da.typeIs ?_)
    show wpAny _ _ (pure (Value.ref a, Value.ref b)) _ _ s
    refine wpAny_pure ?_
    refine wpAny_bind (wpAny_isInstance (T := "dict") db.typeIs PySem.F.sub_dict_dict ?_)
    simp only [Bool.not_true, Bool.false_eq_true, if_false]
    refine wpAny_bind (wpAny_pure (wpAny_bind (wpAny_pure ?_)))
    refine wpAny_bind (samePairsT hr ha hb da db len hits ?_)
    refine wpAny_pure ⟨_, rfl, ?_, ?_⟩
    · exact fun x => nomatch x
    · simpa using h
  · refine wpAny_richCompare_same_room (op := .NotEq) da.typeIs db.typeIs PySem.F.slot_dict_ne (wpAny_call_entry PySem.F.slot_dict_ne da.typeIs PySem.F.entry_dict_ne ?_ (PySem.F.args_dict_ne_2 _ _)) hu
    show wpAny _ _ (Builtin.Dict.dictSlotArgs "__ne__" ⟨[.ref a, .ref b], []⟩ >>= _) _ _ s
    refine wpAny_bind ?_
    unfold Builtin.Dict.dictSlotArgs
    refine wpAny_bind (wpAny_notOrdered_dict da.typeIs ?_)
    show wpAny _ _ (pure (Value.ref a, Value.ref b)) _ _ s
    refine wpAny_pure ?_
    refine wpAny_bind (wpAny_isInstance (T := "dict") db.typeIs PySem.F.sub_dict_dict ?_)
    simp only [Bool.not_true, Bool.false_eq_true, if_false]
    refine wpAny_bind (wpAny_pure (wpAny_bind (wpAny_pure ?_)))
    refine wpAny_bind (samePairsT hr ha hb da db len hits ?_)
    refine wpAny_pure ⟨_, rfl, ?_, ?_⟩
    · exact fun x => nomatch x
    · have e : (CmpOp.NotEq == CmpOp.Eq) = false := by decide
      rw [e] at h
      simpa using h
end
end PySem.W
namespace Ld
open PySem PySem.Spec PyProof.Rows L2
/-- equal values, of nesting below n; tuples and lists as data -/
def EqT (K : PySem.W.Frag) (H : Hp) : Nat → V → V → Prop
  | 0 => fun _ _ => False
  | n + 1 => fun x y => (x = y ∧ flatB x = true) ∨ (∃ a, x = .ref a ∧ y = .ref a) ∨ (∃ d, Dp K H x d ∧ Dp K H y d ∧ SeqAt.shaped d = true) ∨
      (∃ a b ks ls, x = .ref a ∧ y = .ref b ∧ H a = some (.dT ks) ∧ H b = some (.dT ls) ∧ ks.length = ls.length ∧ ∀ p ∈ ks, ∃ u, valV ls p.1 = some u ∧ EqT K H n p.2 u) ∨
      (∃ a b ks ls, x = .ref a ∧ y = .ref b ∧ H a = some (.dK ks) ∧ H b = some (.dK ls) ∧ ks.length = ls.length ∧ ∀ p ∈ ks, ∃ u, valV ls p.1 = some u ∧ EqT K H n p.2 u)
theorem hitsT_run {P : Program} {w : World} {A : Around} {s : Shared} {H : Hp} {F : V → V → Prop} (ih : ∀ x y v u, F x y → RelV x v → RelV y u → SeqAt.EqP P w A s v u true) {ls : List (List Key × V)} {yb : List (List Key × Addr × Value)} (rb : KT H ls yb) {ks : List (List Key × V)} {ya : List (List Key × Addr × Value)}
    (ra : KT H ks ya) : (∀ p ∈ ks, ∃ u, valV ls p.1 = some u ∧ F p.2 u) → PySem.W.HitsT P w A s yb ya := by
  unfold KT at ra
  induction ra with
  | nil => intro _; exact .nil
  | @cons p q ps qs h t k =>
    intro hp
    obtain ⟨h1, _, h2⟩ := h
    obtain ⟨u, e, f⟩ := hp p List.mem_cons_self
    have rr : RelO (some u) ((atKey yb p.1).map (·.2)) := by rw [← e]; exact rb.val p.1
    obtain ⟨y, hy, ry⟩ := rr.some_of
    obtain ⟨p2, hp2, rfl⟩ := Option.map_eq_some_iff.mp hy
    exact .cons (by rw [← h1]; exact hp2) (ih _ _ _ _ f h2 ry) (k fun p' hm => hp p' (List.mem_cons_of_mem _ hm))
section
variable {X : Cx} {pins : List (Addr × Obj)} {σ : L2.St} {H : Hp} {s : Shared}
theorem eqT_dT (I : Inv X pins σ H s) {A : Around} {F : V → V → Prop} {op : CmpOp} (hop : op = .Eq ∨ op = .NotEq) (hu : A.units + 1 < cLine) (ih : ∀ x y v u, F x y → RelV x v → RelV y u → SeqAt.EqP X.prog X.w A.in1 s v u true) {a b : Addr} {ks ls : List (List Key × V)}
    (ha : H a = some (.dT ks)) (hb : H b = some (.dT ls)) (hl : ks.length = ls.length) (hp : ∀ p ∈ ks, ∃ u, valV ls p.1 = some u ∧ F p.2 u)
    (E Q : Value → Shared → Prop) (q : Q (.bool (op == .Eq)) s) : wpAny (model X.prog X.w) A (richCompare op (.ref a) (.ref b)) Q E s := by
  obtain ⟨_, za, xa, ra, da⟩ := dt_of I.hok ha
  obtain ⟨_, zb, xb, rb, db⟩ := dt_of I.hok hb
  exact PySem.W.rcP_dictsT hop (show A.units + 1 < cLine from hu) za zb da db (by omega) (by rw [← Paired.length ra, ← Paired.length rb]; exact hl) (hitsT_run ih rb ra hp) E Q q
theorem eqT_dK (I : Inv X pins σ H s) {A : Around} {F : V → V → Prop} {op : CmpOp} (hop : op = .Eq ∨ op = .NotEq) (hu : A.units + 1 < cLine) (ih : ∀ x y v u, F x y → RelV x v → RelV y u → SeqAt.EqP X.prog X.w A.in1 s v u true) {a b : Addr} {ks ls : List (Key × V)}
    (ha : H a = some (.dK ks)) (hb : H b = some (.dK ls)) (hl : ks.length = ls.length) (hp : ∀ p ∈ ks, ∃ u, valV ls p.1 = some u ∧ F p.2 u)
    (E Q : Value → Shared → Prop) (q : Q (.bool (op == .Eq)) s) : wpAny (model X.prog X.w) A (richCompare op (.ref a) (.ref b)) Q E s := by
  obtain ⟨_, ya, va, ra, da⟩ := (show ObjOk X.prog X.w H s.heap a (.dK ks) from I.hok a _ ha)
  obtain ⟨_, yb, vb, rb, db⟩ := (show ObjOk X.prog X.w H s.heap b (.dK ls) from I.hok b _ hb)
  have hl2 : va.length = vb.length := by rw [← ra.length, ← rb.length]; exact hl
  rcases hop with rfl | rfl
  · refine PySem.W.rcP_dicts (knd := mixKind X.prog X.w) (r := true) ya yb da db (by omega) (fun _ => hits_run ih rb ra hp) E Q ?_
    rw [show (va.length == vb.length && true) = true from by rw [hl2]; simp]
    exact q
  · refine PySem.W.rcP_dictsNe (knd := mixKind X.prog X.w) (r := true) ya yb da db (by omega) (fun _ => hits_run ih rb ra hp) ?_
    rw [show (!(va.length == vb.length && true)) = false from by rw [hl2]; simp]
    exact q
theorem eqT_run (I : Inv X pins σ H s) : ∀ (n : Nat) (A : Around), A.units + n + 65 < cLine → ∀ (x y : V) (v u : Value), EqT X.K H n x y → RelV x v → RelV y u → SeqAt.EqP X.prog X.w A s v u true
  | 0, _, _, _, _, _, _, h, _, _ => (show False from h).elim
  | n + 1, A, hu, x, y, v, u, h, rx, ry => by
    have nx := eqT_run I n A.in1 (by show A.units + 1 + n + 65 < cLine; omega)
    rcases h with ⟨rfl, f⟩ | ⟨a, rfl, rfl⟩ | ⟨d, hx, hy, sh⟩ | ⟨a, b, ks, ls, rfl, rfl, ha, hb, hl, hp⟩ | ⟨a, b, ks, ls, rfl, rfl, ha, hb, hl, hp⟩
    · exact (eqAt_same rx ry f).eqP
    · cases (show v = Value.ref a from rx)
      cases (show u = Value.ref a from ry)
      exact (SeqAt.EqAt.same _).eqP
    · obtain ⟨as, r1⟩ := Dp.reads I d x v hx rx
      obtain ⟨bs, r2⟩ := Dp.reads I d y u hy ry
      have e := SeqAt.eqAt_reads d d A s v u as bs r1 r2 (SeqAt.canLay_of_shaped sh) (SeqAt.canLay_of_shaped sh) (SeqAt.room_of_shaped sh (by omega))
      rw [SeqAt.eqv_refl d (SeqAt.canLay_of_shaped sh)] at e
      exact e.eqP
    · cases (show v = Value.ref a from rx)
      cases (show u = Value.ref b from ry)
      by_cases e : a = b
      · subst e
        exact (SeqAt.EqAt.same _).eqP
      · exact SeqAt.eqP_refs e fun E Q q => eqT_dT I (.inl rfl) (by omega) nx ha hb hl hp E Q q
    · cases (show v = Value.ref a from rx)
      cases (show u = Value.ref b from ry)
      by_cases e : a = b
      · subst e
        exact (SeqAt.EqAt.same _).eqP
      · exact SeqAt.eqP_refs e fun E Q q => eqT_dK I (.inl rfl) (by omega) nx ha hb hl hp E Q q
end
/-- a == b and a != b of two dicts that are equal -/
def rEqT (K : PySem.W.Frag) (ne : Bool) : R2 := fun x y H Q => ∃ n, n ≤ 40 ∧ ((∃ a b ks ls, x = .ref a ∧ y = .ref b ∧ H a = some (.dT ks) ∧ H b = some (.dT ls) ∧ ks.length = ls.length ∧ ∀ p ∈ ks, ∃ u, valV ls p.1 = some u ∧ EqT K H n p.2 u) ∨
  (∃ a b ks ls, x = .ref a ∧ y = .ref b ∧ H a = some (.dK ks) ∧ H b = some (.dK ls) ∧ ks.length = ls.length ∧ ∀ p ∈ ks, ∃ u, valV ls p.1 = some u ∧ EqT K H n p.2 u)) ∧ Q (.bl (!ne)) H
theorem op_eqT {X : Cx} (hu : X.A.units + 120 < cLine) : OpR X (compareOp .Eq) (rEqT X.K false) := by
  intro pins s σ H x y v u Q I rx ry h
  obtain ⟨n, hn, h, q⟩ := h
  have nx := eqT_run I n X.A.in1 (by show X.A.units + 1 + n + 65 < cLine; omega)
  rcases h with ⟨a, b, ks, ls, rfl, rfl, ha, hb, hl, hp⟩ | ⟨a, b, ks, ls, rfl, rfl, ha, hb, hl, hp⟩
  · cases (show v = Value.ref a from rx)
    cases (show u = Value.ref b from ry)
    exact eqT_dT I (.inl rfl) (by omega) nx ha hb hl hp _ _ ⟨.bl true, H, I, rfl, q⟩
  · cases (show v = Value.ref a from rx)
    cases (show u = Value.ref b from ry)
    exact eqT_dK I (.inl rfl) (by omega) nx ha hb hl hp _ _ ⟨.bl true, H, I, rfl, q⟩
theorem op_neT {X : Cx} (hu : X.A.units + 120 < cLine) : OpR X (compareOp .NotEq) (rEqT X.K true) := by
  intro pins s σ H x y v u Q I rx ry h
  obtain ⟨n, hn, h, q⟩ := h
  have nx := eqT_run I n X.A.in1 (by show X.A.units + 1 + n + 65 < cLine; omega)
  rcases h with ⟨a, b, ks, ls, rfl, rfl, ha, hb, hl, hp⟩ | ⟨a, b, ks, ls, rfl, rfl, ha, hb, hl, hp⟩
  · cases (show v = Value.ref a from rx)
    cases (show u = Value.ref b from ry)
    exact eqT_dT I (.inr rfl) (by omega) nx ha hb hl hp _ _ ⟨.bl false, H, I, rfl, q⟩
  · cases (show v = Value.ref a from rx)
    cases (show u = Value.ref b from ry)
    exact eqT_dK I (.inr rfl) (by omega) nx ha hb hl hp _ _ ⟨.bl false, H, I, rfl, q⟩
end Ld

set_option Elab.async false
set_option linter.all false
set_option maxRecDepth 100000
set_option maxHeartbeats 4000000
/-! repr of data with dicts in it; a dict's keys may be tuples. -/
namespace Lr
open PySem PyProof.Rows
mutual
/-- v is the data d in h; no dict in it is the one of the modules -/
inductive RdS (h : Heap) : Value → PyData → Prop
  | plain {v : Value} {d : PyData} {as : List Addr} : Reads h v d as → d.hasDict = false → RdS h v d
  | list {a : Addr} {o : Obj} {vs : Array Value} {n : Nat} {xs : List PyData} : h.get? a = some o → o.cls = .type "list" → o.data = .seq vs n → RdSAll h vs.toList xs → RdS h (.ref a) (.list xs)
  | tuple {a : Addr} {o : Obj} {vs : Array Value} {n : Nat} {xs : List PyData} : h.get? a = some o → o.cls = .type "tuple" → o.data = .seq vs n → RdSAll h vs.toList xs → RdS h (.ref a) (.tuple xs)
  | dict {a : Addr} {o : Obj} {es : Array DictEntry} {n : Nat} {kvs : List (PyData × PyData)} : h.get? a = some o → o.cls = .type "dict" → o.data = .dict es n → (a == sysModules) = false →
      RdSAll h (es.toList.map (·.key)) (kvs.map (·.1)) → RdSAll h (es.toList.map (·.val)) (kvs.map (·.2)) → RdS h (.ref a) (.dict kvs)
inductive RdSAll (h : Heap) : List Value → List PyData → Prop
  | nil : RdSAll h [] []
  | cons {v : Value} {vs : List Value} {d : PyData} {ds : List PyData} : RdS h v d → RdSAll h vs ds → RdSAll h (v :: vs) (d :: ds)
end
mutual
theorem RdS.reads {h : Heap} : ∀ {v : Value} {d : PyData}, RdS h v d → ∃ as, Reads h v d as
  | _, _, .plain r _ => ⟨_, r⟩
  | _, _, .list h1 h2 h3 k => let ⟨_, r⟩ := RdSAll.reads k; ⟨_, .list h1 h2 h3 r⟩
  | _, _, .tuple h1 h2 h3 k => let ⟨_, r⟩ := RdSAll.reads k; ⟨_, .tuple h1 h2 h3 r⟩
  | _, _, .dict h1 h2 h3 _ k1 k2 => let ⟨_, r1⟩ := RdSAll.reads k1; let ⟨_, r2⟩ := RdSAll.reads k2; ⟨_, .dict h1 h2 h3 r1 r2⟩
theorem RdSAll.reads {h : Heap} : ∀ {vs : List Value} {ds : List PyData}, RdSAll h vs ds → ∃ as, ReadsAll h vs ds as
  | _, _, .nil => ⟨_, .nil⟩
  | _, _, .cons k r => let ⟨_, r1⟩ := RdS.reads k; let ⟨_, r2⟩ := RdSAll.reads r; ⟨_, .cons r1 r2⟩
end
section
variable {prog : Program} {w : World} {h₀ : Heap}
mutual
theorem RdS.shows : ∀ {v : Value} {d : PyData}, RdS h₀ v d → d.showable = true → d.shown.length ≤ sizeLine → ∃ bs, ReadAtMost h₀ d.depth bs ∧ ReprK prog w bs h₀ d.depth v d.shown
  | _, _, .plain r nd, sh, sz => ReprK.of_reads r sh (PyData.noDict_hsm nd) sz
  | _, _, .list (a := a) (vs := vs) (xs := xs) h1 h2 h3 k, sh, sz => by
    have sz2 : (listText (PyData.shownAll xs)).length ≤ sizeLine := by simpa only [PyData.shown] using sz
    obtain ⟨bs, b1, b2⟩ := RdSAll.shows k (by simpa [PyData.showable] using sh) fun t m => Nat.le_trans (listText_mem_le m) sz2
    obtain ⟨as, r0⟩ := RdSAll.reads k
    have r : Reads h₀ (.ref a) (.list xs) _ := .list h1 h2 h3 r0
    have deep : PyData.depthAll xs < (PyData.list xs).depth := by simp only [PyData.depth]; omega
    have out := not_mem_of_deeper r deep b1
    refine ⟨a :: bs, ReadAtMost.cons r (Nat.le_of_lt deep) b1, ?_⟩
    simp only [PyData.depth, PyData.shown]
    obtain ⟨l⟩ := vs
    cases l with
    | nil =>
      cases (show RdSAll h₀ [] xs from k)
      simp only [PyData.shownAll, listText_nil]
      exact ReprK.listEmpty h1 h2 h3
    | cons x l => exact ReprK.list h1 h2 h3 out (by simpa using b2.length_eq) fun i y e => b2.item i y (by simpa using e)
  | _, _, .tuple (a := a) (xs := xs) h1 h2 h3 k, sh, sz => by
    have sz2 : (tupleText (PyData.shownAll xs)).length ≤ sizeLine := by simpa only [PyData.shown] using sz
    obtain ⟨bs, b1, b2⟩ := RdSAll.shows k (by simpa [PyData.showable] using sh) fun t m => Nat.le_trans (tupleText_mem_le m) sz2
    obtain ⟨as, r0⟩ := RdSAll.reads k
    have r : Reads h₀ (.ref a) (.tuple xs) _ := .tuple h1 h2 h3 r0
    have deep : PyData.depthAll xs < (PyData.tuple xs).depth := by simp only [PyData.depth]; omega
    refine ⟨a :: bs, ReadAtMost.cons r (Nat.le_of_lt deep) b1, ?_⟩
    simp only [PyData.depth, PyData.shown]
    exact ReprK.tuple h1 h2 h3 (not_mem_of_deeper r deep b1) b2
  | _, _, .dict (a := a) (es := es) (kvs := kvs) h1 h2 h3 nsys k1 k2, sh, sz => by
    have sz2 : (dictText (PyData.shownKv kvs)).length ≤ sizeLine := by simpa only [PyData.shown] using sz
    obtain ⟨s1, s2⟩ := PyData.showableKv_split kvs (by simpa [PyData.showable] using sh)
    obtain ⟨bs, b1, b2⟩ := RdSAll.shows k1 s1 fun t m => let ⟨p, hp, hl⟩ := PyData.shownKv_key_le kvs t m; Nat.le_trans hl (Nat.le_trans (dictText_mem_le hp) sz2)
    obtain ⟨cs, c1, c2⟩ := RdSAll.shows k2 s2 fun t m => let ⟨p, hp, hl⟩ := PyData.shownKv_val_le kvs t m; Nat.le_trans hl (Nat.le_trans (dictText_mem_le hp) sz2)
    obtain ⟨as, r0⟩ := RdSAll.reads k1
    obtain ⟨as2, r1⟩ := RdSAll.reads k2
    have r : Reads h₀ (.ref a) (.dict kvs) _ := .dict h1 h2 h3 r0 r1
    have all : ReadAtMost h₀ (PyData.depthKv kvs) (bs ++ cs) := (b1.mono (PyData.depthAll_keys_le kvs)).append (c1.mono (PyData.depthAll_vals_le kvs))
    have deep : PyData.depthKv kvs < (PyData.dict kvs).depth := by simp only [PyData.depth]; omega
    refine ⟨a :: (bs ++ cs), ReadAtMost.cons r (Nat.le_of_lt deep) all, ?_⟩
    simp only [PyData.depth, PyData.shown, PyData.shownKv_eq]
    exact ReprK.dict h1 h2 h3 nsys (not_mem_of_deeper r deep all) (ReprEntriesK.of_two es.toList _ _
      (b2.more_le (fun b m => List.mem_append_left _ m) (PyData.depthAll_keys_le kvs)) (c2.more_le (fun b m => List.mem_append_right _ m) (PyData.depthAll_vals_le kvs)))
theorem RdSAll.shows : ∀ {vs : List Value} {ds : List PyData}, RdSAll h₀ vs ds → PyData.showableAll ds = true → (∀ t ∈ PyData.shownAll ds, t.length ≤ sizeLine) → ∃ bs, ReadAtMost h₀ (PyData.depthAll ds) bs ∧ ReprAllK prog w bs h₀ (PyData.depthAll ds) vs (PyData.shownAll ds)
  | _, _, .nil, _, _ => ⟨[], (fun _ m => nomatch m), by simp only [PyData.shownAll]; exact .nil⟩
  | _, _, .cons (d := d) (ds := ds) k r, sh, sz => by
    have sh2 : d.showable = true ∧ PyData.showableAll ds = true := by simpa [PyData.showableAll] using sh
    obtain ⟨bs, b1, b2⟩ := RdS.shows k sh2.1 (sz _ (by simp only [PyData.shownAll]; exact List.mem_cons_self ..))
    obtain ⟨cs, c1, c2⟩ := RdSAll.shows r sh2.2 fun t m => sz t (by simp only [PyData.shownAll]; exact List.mem_cons_of_mem _ m)
    have u1 : d.depth ≤ PyData.depthAll (d :: ds) := by simp only [PyData.depthAll]; omega
    have u2 : PyData.depthAll ds ≤ PyData.depthAll (d :: ds) := by simp only [PyData.depthAll]; omega
    refine ⟨bs ++ cs, (b1.mono u1).append (c1.mono u2), ?_⟩
    simp only [PyData.shownAll]
    exact .cons ((b2.more fun b m => List.mem_append_left _ m).level_le u1) (c2.more_le (fun b m => List.mem_append_right _ m) u2)
end
/-- repr of a tuple or a dict, where nothing is being shown -/
theorem repr_rdS {a : Addr} {d : PyData} {A : Around} {E : Value → Shared → Prop} {s : Shared} {Q : Value → Shared → Prop} (r : RdS s.heap (.ref a) d) (hd : d.hasDict = true) (sh : d.showable = true) (sz : d.shown.length ≤ sizeLine) (hg : A.guards = some []) (hu : A.units + (d.depth + 1) < cLine)
    (hQ : ∀ h' u tk, (∀ b o, s.heap.get? b = some o → h'.get? b = some o) → Q (.str d.shown u) { s with heap := h', toks := tk }) : wpAny (model prog w) A (call (.builtin "repr") [.ref a]) Q E s := by
  cases r with
  | plain r nd =>
    rw [nd] at hd
    cases hd
  | list h1 h2 h3 k =>
    rename_i o vs n xs
    have sz2 : (listText (PyData.shownAll xs)).length ≤ sizeLine := by simpa only [PyData.shown] using sz
    obtain ⟨bs, b1, b2⟩ := RdSAll.shows (prog := prog) (w := w) k (by simpa [PyData.showable] using sh) fun t m => Nat.le_trans (listText_mem_le m) sz2
    obtain ⟨as, r0⟩ := RdSAll.reads k
    have deep : PyData.depthAll xs < (PyData.list xs).depth := by simp only [PyData.depth]; omega
    have out := not_mem_of_deeper (.list h1 h2 h3 r0) deep b1
    simp only [PyData.depth] at hu
    simp only [PyData.shown] at hQ
    obtain ⟨l⟩ := vs
    cases l with
    | nil =>
      cases (show RdSAll s.heap [] xs from k)
      exact absurd hd (by decide)
    | cons x l =>
      exact call_repr_slot (by omega) ⟨o, h1, h2⟩ F.slot_list_repr.toG (call_list_reprK h1 h2 h3 out (by simpa using b2.length_eq) (fun i y e => b2.item i y (by simpa using e)) (A := A.in1) hg (fun b _ => Clear.nil b) (by show A.units + 1 + _ < cLine; omega) (fun _ _ e => e) (fun h' u tk up => ⟨_, _, rfl, hQ h' u tk up⟩) sz2)
  | tuple h1 h2 h3 k =>
    rename_i o vs n xs
    have sz2 : (tupleText (PyData.shownAll xs)).length ≤ sizeLine := by simpa only [PyData.shown] using sz
    obtain ⟨bs, b1, b2⟩ := RdSAll.shows (prog := prog) (w := w) k (by simpa [PyData.showable] using sh) fun t m => Nat.le_trans (tupleText_mem_le m) sz2
    obtain ⟨as, r0⟩ := RdSAll.reads k
    have deep : PyData.depthAll xs < (PyData.tuple xs).depth := by simp only [PyData.depth]; omega
    simp only [PyData.depth] at hu
    simp only [PyData.shown] at hQ
    exact call_repr_slot (by omega) ⟨o, h1, h2⟩ F.slot_tuple_repr (call_tuple_reprK h1 h2 h3 (not_mem_of_deeper (.tuple h1 h2 h3 r0) deep b1) b2 (A := A.in1) hg (fun b _ => Clear.nil b) (by show A.units + 1 + _ < cLine; omega) (fun _ _ e => e) (fun h' u tk up => ⟨_, _, rfl, hQ h' u tk up⟩) sz2)
  | dict h1 h2 h3 nsys k1 k2 =>
    rename_i o es n kvs
    have sz2 : (dictText (PyData.shownKv kvs)).length ≤ sizeLine := by simpa only [PyData.shown] using sz
    obtain ⟨s1, s2⟩ := PyData.showableKv_split kvs (by simpa [PyData.showable] using sh)
    obtain ⟨bs, b1, b2⟩ := RdSAll.shows (prog := prog) (w := w) k1 s1 fun t m => let ⟨p, hp, hl⟩ := PyData.shownKv_key_le kvs t m; Nat.le_trans hl (Nat.le_trans (dictText_mem_le hp) sz2)
    obtain ⟨cs, c1, c2⟩ := RdSAll.shows (prog := prog) (w := w) k2 s2 fun t m => let ⟨p, hp, hl⟩ := PyData.shownKv_val_le kvs t m; Nat.le_trans hl (Nat.le_trans (dictText_mem_le hp) sz2)
    obtain ⟨as, r0⟩ := RdSAll.reads k1
    obtain ⟨as2, r1⟩ := RdSAll.reads k2
    have all : ReadAtMost s.heap (PyData.depthKv kvs) (bs ++ cs) := (b1.mono (PyData.depthAll_keys_le kvs)).append (c1.mono (PyData.depthAll_vals_le kvs))
    have deep : PyData.depthKv kvs < (PyData.dict kvs).depth := by simp only [PyData.depth]; omega
    simp only [PyData.depth] at hu
    simp only [PyData.shown, PyData.shownKv_eq] at hQ
    exact call_repr_slot (by omega) ⟨o, h1, h2⟩ F.slot_dict_repr (call_dict_reprK h1 h2 h3 nsys (not_mem_of_deeper (.dict h1 h2 h3 r0 r1) deep all) (ReprEntriesK.of_two es.toList _ _
      (b2.more_le (fun b m => List.mem_append_left _ m) (PyData.depthAll_keys_le kvs)) (c2.more_le (fun b m => List.mem_append_right _ m) (PyData.depthAll_vals_le kvs))) (A := A.in1) hg (fun b _ => Clear.nil b) (by show A.units + 1 + _ < cLine; omega) (fun _ _ e => e) (fun h' u tk up => ⟨_, _, rfl, hQ h' u tk up⟩) (by rw [← PyData.shownKv_eq]; exact sz2))
end
end Lr
namespace Lr
open PySem PySem.Spec PyProof.Rows L2
/-- the data of a dict's key -/
def keyD : Key → PyData
  | .inl n => .int n
  | .inr s => .str s
mutual
/-- v is the data d, dicts among it -/
inductive Dq (K : PySem.W.Frag) (H : Hp) : V → PyData → Prop
  | dp {v : V} {d : PyData} : Dp K H v d → Dq K H v d
  | lst {a : Addr} {xs : List V} {ds : List PyData} : SqL K H a xs → DqAll K H xs ds → Dq K H (.ref a) (.list ds)
  | tup {a : Addr} {xs : List V} {ds : List PyData} : SqT K H a xs → DqAll K H xs ds → Dq K H (.ref a) (.tuple ds)
  | dT {a : Addr} {kvs : List (List Key × V)} {ds : List (PyData × PyData)} : H a = some (.dT kvs) → DqT K H kvs ds → Dq K H (.ref a) (.dict ds)
inductive DqAll (K : PySem.W.Frag) (H : Hp) : List V → List PyData → Prop
  | nil : DqAll K H [] []
  | cons {v : V} {vs : List V} {d : PyData} {ds : List PyData} : Dq K H v d → DqAll K H vs ds → DqAll K H (v :: vs) (d :: ds)
inductive DqT (K : PySem.W.Frag) (H : Hp) : List (List Key × V) → List (PyData × PyData) → Prop
  | nil : DqT K H [] []
  | cons {k : List Key} {v : V} {kvs : List (List Key × V)} {d : PyData} {ds : List (PyData × PyData)} : Dq K H v d → DqT K H kvs ds → DqT K H ((k, v) :: kvs) ((.tuple (k.map keyD), d) :: ds)
end
mutual
theorem dp_noDict {K : PySem.W.Frag} {H : Hp} : ∀ (d : PyData) (v : V), Dp K H v d → d.hasDict = false
  | .none, _, _ => rfl
  | .bool _, _, _ => rfl
  | .int _, _, _ => rfl
  | .str _, _, _ => rfl
  | .list ds, _, h => by
    cases h with
    | lst _ h2 => simpa [PyData.hasDict] using dps_noDict ds _ h2
  | .tuple ds, _, h => by
    cases h with
    | tup _ h2 => simpa [PyData.hasDict] using dps_noDict ds _ h2
  | .dict _, _, h => by cases h
theorem dps_noDict {K : PySem.W.Frag} {H : Hp} : ∀ (ds : List PyData) (vs : List V), DpAll K H vs ds → PyData.hasDictAll ds = false
  | [], _, _ => rfl
  | d :: ds, _, h => by
    cases h with
    | cons h1 h2 => simp [PyData.hasDictAll, dp_noDict d _ h1, dps_noDict ds _ h2]
end
theorem dp_keys {K : PySem.W.Frag} {H : Hp} : ∀ k : List Key, DpAll K H (k.map kV) (k.map keyD)
  | [] => .nil
  | .inl n :: k => .cons (.int n) (dp_keys k)
  | .inr s :: k => .cons (.str s) (dp_keys k)
section
variable {X : Cx} {pins : List (Addr × Obj)} {σ : L2.St} {H : Hp} {s : Shared}
theorem dp_rdS (I : Inv X pins σ H s) {v : V} {d : PyData} {u : Value} (h : Dp X.K H v d) (r : RelV v u) : RdS s.heap u d :=
  let ⟨_, z⟩ := Dp.reads I d v u h r
  .plain z (dp_noDict d v h)
mutual
theorem Dq.rdS (I : Inv X pins σ H s) : ∀ {v : V} {d : PyData} {u : Value}, Dq X.K H v d → RelV v u → RdS s.heap u d
  | _, _, _, .dp h, r => dp_rdS I h r
  | _, _, _, .lst hs ha, r => by
    cases r
    obtain ⟨its, rv, ⟨o, n, ho, hc, _, hd⟩, _⟩ := I.list hs
    exact .list ho hc hd (DqAll.rdS I ha rv)
  | _, _, _, .tup hs ha, r => by
    cases r
    obtain ⟨its, rv, ⟨o, ho, hc, n, hd⟩, _⟩ := I.tuple hs
    exact .tuple ho hc hd (DqAll.rdS I ha rv)
  | _, _, _, .dT hs ha, r => by
    cases r
    obtain ⟨_, y, xs, kt, o, es, ep, h1, h2, h3, h4, _⟩ := dt_of I.hok hs
    obtain ⟨k1, k2⟩ := DqT.rdS I ha kt
    refine .dict h1 h2.1 h3 y ?_ ?_
    · rw [h4, List.map_map]
      exact k1
    · rw [h4, List.map_map]
      exact k2
theorem DqAll.rdS (I : Inv X pins σ H s) : ∀ {vs : List V} {ds : List PyData} {us : List Value}, DqAll X.K H vs ds → Vals vs us → RdSAll s.heap us ds
  | _, _, _, .nil, r => by
    cases r
    exact .nil
  | _, _, _, .cons h t, r => by
    cases r with
    | cons r1 r2 => exact .cons (Dq.rdS I h r1) (DqAll.rdS I t r2)
theorem DqT.rdS (I : Inv X pins σ H s) : ∀ {kvs : List (List Key × V)} {ds : List (PyData × PyData)} {xs : List (List Key × Addr × Value)}, DqT X.K H kvs ds → KT H kvs xs →
    RdSAll s.heap (xs.map fun x => Value.ref x.2.1) (ds.map (·.1)) ∧ RdSAll s.heap (xs.map fun x => x.2.2) (ds.map (·.2))
  | _, _, _, .nil, r => by
    cases r
    exact ⟨.nil, .nil⟩
  | _, _, _, .cons (k := k) h t, r => by
    cases r with
    | cons r1 r2 =>
      obtain ⟨_, e, rv⟩ := r1
      obtain ⟨z1, z2⟩ := DqT.rdS I t r2
      exact ⟨.cons (dp_rdS I (.tup (SqT.of e) (dp_keys k)) rfl) z1, .cons (Dq.rdS I h rv) z2⟩
end
end
/-- repr of a tuple or a list or a dict, with dicts in it -/
def rReprQ (K : PySem.W.Frag) : List V → Hp → VK → Prop := fun xs H Q => ∃ (a : Addr) (d : PyData), xs = [.ref a] ∧ Dq K H (.ref a) d ∧ d.hasDict = true ∧ d.showable = true ∧ d.depth ≤ 60 ∧ d.shown.length ≤ sizeLine ∧ Q (.str d.shown) H
theorem call_reprQ {X : Cx} (hg : X.A.guards = some []) (hu : X.A.units + 66 < cLine) : CallR X (.builtin "repr") (rReprQ X.K) := by
  intro pins s σ H xs us Q I r h
  obtain ⟨a, d, rfl, hd, has, show_, dep, sz, q⟩ := h
  obtain ⟨u, rfl, rx⟩ := vals1 r
  obtain rfl : u = Value.ref a := rx
  exact repr_rdS (Dq.rdS I hd rfl) has show_ sz hg (by omega) fun h2 v tk up => ⟨.str _, H, I.kept up, ⟨v, rfl⟩, q⟩
/-! ### how long shown data is -/
mutual
/-- a bound of the length of what is shown -/
def wt : PyData → Nat
  | .none => 4
  | .bool _ => 5
  | .int i => (toString i : Str).length
  | .str s => (PySem.reprText s).length
  | .list xs => wtAll xs + 4
  | .tuple xs => wtAll xs + 4
  | .dict kvs => wtKv kvs + 4
def wtAll : List PyData → Nat
  | [] => 0
  | x :: xs => wt x + 2 + wtAll xs
def wtKv : List (PyData × PyData) → Nat
  | [] => 0
  | (k, v) :: r => wt k + wt v + 4 + wtKv r
end
theorem listText_piled (ts : List Str) : (listText ts).length ≤ piled ts + 4 := by
  have : ∀ (ts : List Str) (k : Nat) (acc : Str), (textFrom k acc ts).length ≤ acc.length + piled ts := by
    intro ts
    induction ts with
    | nil =>
      intro k acc
      rw [textFrom, piled_nil]
      exact Nat.le_refl _
    | cons t ts ih =>
      intro k acc
      have h1 := ih (k + 1) (acc ++ (if k > 0 then ", " else "" : String) ++ t)
      have h2 : (acc ++ (if k > 0 then ", " else "" : String) ++ t).length ≤ acc.length + 2 + t.length := by
        rw [strLen_append, strLen_append]
        have : ((if k > 0 then ", " else "" : String) : Str).length ≤ 2 := by
          split
          · exact Nat.le_refl 2
          · exact Nat.zero_le 2
        omega
      rw [textFrom, piled_cons]
      omega
  have h := this ts 0 "["
  have e1 : (("[" : String) : Str).length = 1 := rfl
  have e2 : (("]" : String) : Str).length = 1 := rfl
  unfold listText
  rw [strLen_append]
  omega
theorem joined_piled (ts : List Str) : (Str.join ", " ts).length ≤ piled ts := by
  by_cases h : ts = []
  · subst h
    exact Nat.zero_le _
  · have := join_length_add ts h
    omega
theorem tupleText_piled (ts : List Str) : (tupleText ts).length ≤ piled ts + 4 := by
  have h := joined_piled ts
  have e1 : (("(" : String) : Str).length = 1 := rfl
  have e2 : ((if ts.length == 1 then ",)" else ")" : String) : Str).length ≤ 2 := by
    split
    · exact Nat.le_refl 2
    · exact Nat.le_succ 1
  unfold tupleText
  rw [strLen_append, strLen_append]
  omega
theorem dictText_piled (ts : List Str) : (dictText ts).length ≤ piled ts + 4 := by
  have h := joined_piled ts
  have e1 : (("{" : String) : Str).length = 1 := rfl
  have e2 : (("}" : String) : Str).length = 1 := rfl
  unfold dictText
  rw [strLen_append, strLen_append]
  omega
mutual
theorem shown_wt : ∀ d : PyData, d.shown.length ≤ wt d
  | .none => by
    rw [PyData.shown, wt]
    exact Nat.le_refl _
  | .bool b => by
    rw [PyData.shown, wt]
    cases b
    · exact Nat.le_refl _
    · exact Nat.le_succ _
  | .int i => by
    rw [PyData.shown, wt]
    exact Nat.le_refl _
  | .str s => by
    rw [PyData.shown, wt]
    exact Nat.le_refl _
  | .list xs => by
    rw [PyData.shown, wt]
    have := listText_piled (PyData.shownAll xs)
    have := shownAll_wt xs
    omega
  | .tuple xs => by
    rw [PyData.shown, wt]
    have := tupleText_piled (PyData.shownAll xs)
    have := shownAll_wt xs
    omega
  | .dict kvs => by
    rw [PyData.shown, wt]
    have := dictText_piled (PyData.shownKv kvs)
    have := shownKv_wt kvs
    omega
theorem shownAll_wt : ∀ ds : List PyData, piled (PyData.shownAll ds) ≤ wtAll ds
  | [] => by
    rw [PyData.shownAll, wtAll, piled_nil]
    exact Nat.le_refl _
  | d :: ds => by
    rw [PyData.shownAll, wtAll, piled_cons]
    have := shown_wt d
    have := shownAll_wt ds
    omega
theorem shownKv_wt : ∀ ds : List (PyData × PyData), piled (PyData.shownKv ds) ≤ wtKv ds
  | [] => by
    rw [PyData.shownKv, wtKv, piled_nil]
    exact Nat.le_refl _
  | (k, v) :: ds => by
    rw [PyData.shownKv, wtKv, piled_cons]
    have := shown_wt k
    have := shown_wt v
    have := shownKv_wt ds
    have e : ((": " : String) : Str).length = 2 := rfl
    rw [strLen_append, strLen_append]
    omega
end
theorem wtAll_up {B : Nat} : ∀ {ds : List PyData}, (∀ d ∈ ds, wt d ≤ B) → wtAll ds ≤ (B + 2) * ds.length
  | [], _ => by
    rw [wtAll]
    exact Nat.zero_le _
  | d :: ds, h => by
    rw [wtAll, List.length_cons, Nat.mul_succ]
    have := h d List.mem_cons_self
    have := wtAll_up (ds := ds) fun x m => h x (List.mem_cons_of_mem _ m)
    omega
theorem wtKv_up {B : Nat} : ∀ {ds : List (PyData × PyData)}, (∀ d ∈ ds, wt d.1 + wt d.2 ≤ B) → wtKv ds ≤ (B + 4) * ds.length
  | [], _ => by
    rw [wtKv]
    exact Nat.zero_le _
  | (k, v) :: ds, h => by
    rw [wtKv, List.length_cons, Nat.mul_succ]
    have h1 : wt k + wt v ≤ B := h (k, v) List.mem_cons_self
    have := wtKv_up (ds := ds) fun x m => h x (List.mem_cons_of_mem _ m)
    omega
end Lr

set_option Elab.async false
set_option linter.all false
set_option maxRecDepth 100000
set_option maxHeartbeats 4000000
namespace Ld
open PySem PySem.Spec PyProof.Rows L2 Lg Lr
def topS (i : Nat) : Stmt := PySem.Challenge.pw_leastmend_k03_lexicons.main.body.getD i (.Pass ⟨0, 0, 0, 0⟩)
abbrev s_is_kind : Stmt := topS 5
abbrev s__is_word : Stmt := topS 6
abbrev s_is_lexicon : Stmt := topS 12
abbrev s__is_pattern : Stmt := topS 13
abbrev s__are_different_characters : Stmt := topS 14
abbrev s__are_characters : Stmt := topS 15
abbrev s__is_character : Stmt := topS 16
abbrev s_kinds_of : Stmt := topS 17
abbrev s__law_draws : Stmt := topS 19
abbrev sDraws : Stmt := topS 19
abbrev s__law_at : Stmt := topS 20
abbrev sAt : Stmt := topS 20
abbrev s__law_is_integer : Stmt := topS 21
abbrev sLInt : Stmt := topS 21
abbrev s__law_mix : Stmt := topS 22
abbrev sMix : Stmt := topS 22
abbrev s__law_lexicon : Stmt := topS 23
abbrev s__law_spoilt : Stmt := topS 24
abbrev s__law_told : Stmt := topS 25
abbrev s_law : Stmt := topS 26
abbrev sLaw : Stmt := topS 26
section
variable {P : Program} {w : World} {K : PySem.W.Frag} {mg : Str → Option Value} {base : Heap}
/-! ### the law's own draws -/
theorem scDr : FnScope ["script", "draws", "k", "rest", "turn", "mixed"] ["script"] (defScope sDraws) := ⟨rfl, rfl, rfl, by decide +kernel, rfl, by decide +kernel, by decide +kernel⟩
/-- a new list of the draws; what stood stands -/
def spDraws (K : PySem.W.Frag) : Sp := fun vs H Q _ => ∃ (a : Addr) (ns : List Int), vs = [.ref a] ∧ SqL K H a (ns.map V.int) ∧ ns.length ≤ 63 ∧
  ∀ p, H p = none → Q (.ref p) (upd H p (.lst ((drawsOf ns).map V.int)))
theorem ok_draws {f : Addr} {fd : FuncData} {k : Nat} (F : Fun K "_law_draws" "_law_draws" sDraws f fd) (mr : mg "range" = none) (mm : mg "min" = none) (ml : mg "len" = none) (ma : mg "abs" = none) (mi : mg "int" = none) :
    FnOk P w K mg base CX0 (k + 1) f fd ["script"] (spDraws K) := by
  refine F.ok scDr (fun vs H Q E h => ?_) (fun cdv A outer s H vs Q E hr h => ?_)
  · obtain ⟨a, ns, rfl, _⟩ := h
    rfl
  · obtain ⟨a, ns, rfl, hS, hlen, q⟩ := h
    refine ⟨_, pss_cons (ps_set (i := 1) scDr.nd rfl (.inl rfl) (pe_lst pa_nil))
      (pss_cons (ps_for PassesOwn.never rfl (pi_range1 rfl mr (pa_cons (pe_callB (call_min2 rfl) (by rfl) mm (by decide +kernel) (pa_cons pe_int (pa_cons (pe_callB call_len_seq (by rfl) ml PySem.boot_len (pa_cons (pv 0) pa_nil)) pa_nil))) pa_nil))
          (pg_name (i := 2) scDr.nd rfl (.inl rfl))
        (pss_cons (ps_set (i := 3) scDr.nd rfl (.inl rfl) (pe_callB call_abs (by rfl) ma (by decide +kernel) (pa_cons (pe_ix ix_list (pv 0) (pv 2) (fun _ _ => rfl)) pa_nil)))
        (pss_one (ps_if (pt_cmpR op_ge (pv 3) (pe_op op_pow pe_int pe_int) (nomark _))
          (pss_one (ps_for PassesOwn.never rfl (pi_range1 rfl mr (pa_cons pe_int pa_nil)) (pg_name (i := 4) scDr.nd rfl (.inl rfl))
            (pss_one (ps_if (pt_cmpR op_gt (pv 3) pe_int (nomark _))
              (pss_cons (ps_expr (pe_bm PySem.F.plainAttrs_list PySem.F.slot_list_append PySem.F.type_list_append mt_append (pv 1) (pa_cons (pe_op op_mod (pe_callTy call_int1 (by rfl) mi (by decide +kernel) (pa_cons (pv 3) pa_nil)) pe_int) pa_nil)))
              (pss_one (ps_set (i := 3) scDr.nd rfl (.inl rfl) (pe_op op_fdiv (pv 3) pe_int)))) pss_nil))))
          (pss_cons (ps_set (i := 5) scDr.nd rfl (.inl rfl) (pe_op op_mod (pe_callTy call_int1 (by rfl) mi (by decide +kernel) (pa_cons (pe_op op_add (pe_op op_mul (pv 3) pe_int) (pe_op op_mul (pe_op op_add (pv 2) pe_int) pe_int)) pa_nil)) pe_int))
          (pss_cons (ps_set (i := 5) scDr.nd rfl (.inl rfl) (pe_op op_mod (pe_callTy call_int1 (by rfl) mi (by decide +kernel) (pa_cons (pe_op op_add (pe_op op_add (pe_op op_mul (pv 5) pe_int) (pe_op op_mul pe_int (pv 2))) pe_int) pa_nil)) pe_int))
          (pss_cons (ps_expr (pe_bm PySem.F.plainAttrs_list PySem.F.slot_list_append PySem.F.type_list_append mt_append (pv 1) (pa_cons (pe_op op_mod (pe_callTy call_int1 (by rfl) mi (by decide +kernel) (pa_cons (pv 5) pa_nil)) pe_int) pa_nil)))
          (pss_one (ps_expr (pe_bm PySem.F.plainAttrs_list PySem.F.slot_list_append PySem.F.type_list_append mt_append (pv 1) (pa_cons (pe_op op_mod (pe_callTy call_int1 (by rfl) mi (by decide +kernel) (pa_cons (pe_op op_fdiv (pv 5) pe_int) pa_nil)) pe_int) pa_nil)))))))))))
      (pss_one (ps_ret (pv 1)))), ?_⟩
    -- draws = []
    refine ⟨Nat.zero_le _, fun o no => ?_⟩
    have s1 : Same H (upd H o (.lst [])) := same_upd no
    have nao : ∀ G : HO, SqL K (upd H o G) a (ns.map V.int) := fun G => (same_upd no).seq hS
    have hi62 : (ns.length : Int) < 2 ^ 62 := by omega
    -- range(min(63, len(script)))
    have ej : (if ((ns.map V.int).length : Int) < 63 then ((ns.map V.int).length : Int) else 63) = (ns.length : Int) := by
      rw [List.length_map]
      split <;> omega
    refine ⟨.ref a, rfl, a, ns.map V.int, rfl, .inl (s1.seq hS), 63, _, rfl, _, rfl, by rw [ej]; omega, by rw [ej]; omega, ?_⟩
    rw [ej]
    refine for_range (lo := 0) (n := ns.length) (fun i σ H' => ∃ v2 v3 v4 v5, σ = [some (.ref a), some (.ref o), v2, v3, v4, v5] ∧ H' = upd H o (.lst ((drawsN ns i).map V.int))) ⟨none, none, none, none, rfl, rfl⟩ ?_ ?_
    · rintro i σ H' hi ⟨v2, v3, v4, v5, rfl, rfl⟩
      have gi := getI hi
      have hSi := nao (.lst ((drawsN ns i).map V.int))
      have hl := drawsN_len ns i
      -- rest = abs(script[k])
      refine ⟨.ref a, rfl, _, rfl, a, _, _, _, rfl, rfl, hSi, at_of (j := i) (by omega) gi, ns.getD i 0, rfl, ?_⟩
      rw [Int.zero_add]
      refine ⟨_, rfl, _, _, rfl, rfl, ⟨by decide, by decide, by decide⟩, _, _, rfl, rfl, _, rfl, ite2 (fun c => ?_) (fun c => ?_)⟩
      · -- the digits
        have c1 : (10 : Int) ^ (18 : Int).toNat ≤ dabs (ns.getD i 0) := of_decide_eq_true c
        have e1 : drawsN ns (i + 1) = (diter 60 (dabs (ns.getD i 0), drawsN ns i)).2 := if_pos c1
        refine ⟨60, rfl, by decide, by decide, for_range (lo := 0) (n := 60) (fun j σ H' => ∃ v4, σ = [some (.ref a), some (.ref o), some (.int i), some (.int (diter j (dabs (ns.getD i 0), drawsN ns i)).1), v4, v5] ∧ H' = upd H o (.lst ((diter j (dabs (ns.getD i 0), drawsN ns i)).2.map V.int)))
          ⟨v4, rfl, rfl⟩ ?_ ?_⟩
        · rintro j σ H' hj ⟨w4, rfl, rfl⟩
          have hl2 := diter_len (dabs (ns.getD i 0), drawsN ns i) j
          generalize hp : diter j (dabs (ns.getD i 0), drawsN ns i) = p at hl2
          have e2 : diter (j + 1) (dabs (ns.getD i 0), drawsN ns i) = dstep p := by rw [← hp]; rfl
          refine ⟨_, rfl, _, _, rfl, rfl, _, rfl, ite2 (fun c2 => ?_) (fun c2 => ?_)⟩
          · have e3 : dstep p = (p.1 / 65536, p.2 ++ [p.1 % 65536]) := if_pos (of_decide_eq_true c2)
            refine ⟨.ref o, rfl, .inl ⟨rfl, _, SqL.of upd_same⟩, _, rfl, .inl ⟨_, rfl, _, _, rfl, rfl, (by show (0 : Int) < 65536; decide), o, _, _, rfl, rfl, upd_same, ?_, _, rfl, _, _, rfl, rfl, ⟨by decide, by decide⟩, some (.int (0 + j)), ?_, ?_⟩⟩
            · rw [List.length_map]
              refine small4000 ?_
              have hl3 : (drawsN ns i).length ≤ 60 * i := hl
              have hl4 : p.2.length ≤ (drawsN ns i).length + j := hl2
              omega
            · rw [e2, e3]
              rfl
            · rw [e2, e3, upd_upd, List.map_append]
              rfl
          · have e3 : dstep p = p := if_neg fun z => c2 (decide_eq_true z)
            refine ⟨some (.int (0 + j)), ?_, ?_⟩
            · rw [e2, e3]
              rfl
            · rw [e2, e3]
        · rintro σ H' ⟨w4, rfl, rfl⟩
          exact ⟨_, _, _, _, rfl, by rw [e1]⟩
      · -- two mixed numbers
        have e1 : drawsN ns (i + 1) = drawsN ns i ++ [dmix2 i (dabs (ns.getD i 0)) % 65536] ++ [dmix2 i (dabs (ns.getD i 0)) / 65536 % 32768] := if_neg fun z => c (decide_eq_true z)
        refine ⟨_, rfl, _, _, rfl, rfl, .inr ⟨by decide, by decide⟩, _, rfl, _, _, rfl, rfl, _, _, rfl, rfl, .inr ⟨by decide, by decide⟩, _, _, rfl, rfl, .inl ⟨_, rfl, _, _, rfl, rfl, (by show (0 : Int) < 2147483647; decide), ?_⟩⟩
        refine ⟨_, rfl, _, _, rfl, rfl, .inr ⟨by decide, by decide⟩, _, rfl, _, _, rfl, rfl, .inl ⟨by decide, by decide⟩, _, _, rfl, rfl, _, _, rfl, rfl, .inl ⟨_, rfl, _, _, rfl, rfl, (by show (0 : Int) < 2147483629; decide), ?_⟩⟩
        refine ⟨.ref o, rfl, .inl ⟨rfl, _, SqL.of upd_same⟩, _, rfl, .inl ⟨_, rfl, _, _, rfl, rfl, (by show (0 : Int) < 65536; decide), o, _, _, rfl, rfl, upd_same, ?_, ?_⟩⟩
        · rw [List.length_map]
          exact small4000 (by omega)
        refine ⟨.ref o, rfl, .inl ⟨rfl, _, SqL.of upd_same⟩, _, rfl, _, _, rfl, rfl, ⟨by decide, by decide⟩, .inl ⟨_, rfl, _, _, rfl, rfl, (by show (0 : Int) < 32768; decide), o, _, _, rfl, rfl, upd_same, ?_, ?_⟩⟩
        · rw [List.length_append, List.length_map]
          exact small4000 (by show (drawsN ns i).length + 1 ≤ 4000; omega)
        refine ⟨_, _, _, _, rfl, ?_⟩
        rw [e1, upd_upd, upd_upd, List.map_append, List.map_append]
        rfl
    · rintro σ H' ⟨v2, v3, v4, v5, rfl, rfl⟩
      exact ⟨.ref o, rfl, q o no⟩
/-! ### a draw below many -/
theorem scAt : FnScope ["draws", "k", "many"] ["draws", "k", "many"] (defScope sAt) := ⟨rfl, rfl, rfl, by decide +kernel, rfl, by decide +kernel, by decide +kernel⟩
def spAt (K : PySem.W.Frag) : Sp := fun vs H Q _ => ∃ (a : Addr) (ds : List Int) (k many : Int), vs = [.ref a, .int k, .int many] ∧ SqL K H a (ds.map V.int) ∧ 0 ≤ k ∧ 0 < many ∧ Q (.int (atD ds k many)) H
theorem ok_at {f : Addr} {fd : FuncData} {k : Nat} (F : Fun K "_law_at" "_law_at" sAt f fd) (ml : mg "len" = none) (mi : mg "int" = none) :
    FnOk P w K mg base CX0 (k + 1) f fd ["draws", "k", "many"] (spAt K) := by
  refine F.ok scAt (fun vs H Q E h => ?_) (fun cdv A outer s H vs Q E hr h => ?_)
  · obtain ⟨a, ds, k, many, rfl, _⟩ := h
    rfl
  · obtain ⟨a, ds, k, many, rfl, hS, h0, hm, q⟩ := h
    refine ⟨_, pss_cons (ps_if (pt_cmpR op_lt (pv 1) (pe_callB call_len_seq (by rfl) ml PySem.boot_len (pa_cons (pv 0) pa_nil)) (nomark _))
        (pss_one (ps_ret (pe_op op_mod (pe_callTy call_int1 (by rfl) mi (by decide +kernel) (pa_cons (pe_ix ix_list (pv 0) (pv 1) (fun _ _ => rfl)) pa_nil)) (pv 2)))) pss_nil)
      (pss_one (ps_ret pe_int)), ?_⟩
    refine ⟨_, rfl, _, rfl, a, _, rfl, .inl hS, _, _, rfl, rfl, _, rfl, ite2 (fun c => ?_) (fun c => ?_)⟩
    · have c1 : k < ((ds.map V.int).length : Int) := of_decide_eq_true c
      rw [List.length_map] at c1
      have gi := getI (ns := ds) (i := k.toNat) (by omega)
      refine ⟨_, rfl, _, rfl, a, _, _, _, rfl, rfl, hS, at_of (j := k.toNat) (by omega) gi, .inl ⟨_, rfl, _, rfl, _, _, rfl, rfl, hm, ?_⟩⟩
      have e : atD ds k many = ds.getD k.toNat 0 % many := if_pos c1
      show Q (.int (ds.getD k.toNat 0 % many)) H
      rw [← e]
      exact q
    · have c1 : ¬ k < ((ds.map V.int).length : Int) := fun z => c (decide_eq_true z)
      rw [List.length_map] at c1
      have e : atD ds k many = 0 := if_neg c1
      show Q (.int 0) H
      rw [← e]
      exact q
theorem units1 {k : Nat} {A : Around} (h : Room k A) : A.units + 1 < cLine := by
  have := h.un
  omega
theorem units64 {k : Nat} {A : Around} (h : Room k A) : A.units + 64 < cLine := by
  have := h.un
  omega
theorem units66 {k : Nat} {A : Around} (h : Room k A) : A.units + 66 < cLine := by
  have := h.un
  omega
theorem units120 {k : Nat} {A : Around} (h : Room k A) : A.units + 120 < cLine := by
  have := h.un
  omega
end
end Ld

set_option Elab.async false
set_option linter.all false
set_option maxRecDepth 100000
set_option maxHeartbeats 4000000
namespace Ld
open PySem PySem.Spec PyProof.Rows L2 Lg
section
variable {P : Program} {w : World} {K : PySem.W.Frag} {mg : Str → Option Value} {base : Heap}
/-! ### _law_mix -/
theorem scMx : FnScope ["draws", "k", "many", "value"] ["draws", "k", "many"] (defScope sMix) := ⟨rfl, rfl, rfl, by decide +kernel, rfl, by decide +kernel, by decide +kernel⟩
def spMix (K : PySem.W.Frag) : Sp := fun vs H Q _ => ∃ (a : Addr) (ds : List Int) (k many : Int), vs = [.ref a, .int k, .int many] ∧ SqL K H a (ds.map V.int) ∧ 0 < many ∧ ∀ v, 0 ≤ v → v < many → Q (.int v) H
theorem ok_mix {f : Addr} {fd : FuncData} (F : Fun K "_law_mix" "_law_mix" sMix f fd) (ml : mg "len" = none) (mi : mg "int" = none) : FnOk P w K mg base CX0 1 f fd ["draws", "k", "many"] (spMix K) := by
  refine F.ok scMx (fun vs H Q E h => ?_) (fun cdv A outer s H vs Q E hr h => ?_)
  · obtain ⟨a, ds, k, many, rfl, _⟩ := h
    rfl
  · obtain ⟨a, ds, k, many, rfl, hS, hm, q⟩ := h
    refine ⟨_, pss_cons (ps_set (i := 3) scMx.nd rfl (.inl rfl) pe_int)
      (pss_cons (ps_if (pt_cmpR op_gt (pe_callB call_len_seq (by rfl) ml PySem.boot_len (pa_cons (pv 0) pa_nil)) pe_int (nomark _))
        (pss_one (ps_set (i := 3) scMx.nd rfl (.inl rfl) (pe_ix ix_list (pv 0) (pe_op op_mod (pe_callTy call_int1 (by rfl) mi (by decide +kernel) (pa_cons (pv 1) pa_nil)) (pe_callB call_len_seq (by rfl) ml PySem.boot_len (pa_cons (pv 0) pa_nil))) (fun _ _ => rfl)))) pss_nil)
      (pss_cons (ps_if (pt_cmpR op_lt (pv 1) (pe_callB call_len_seq (by rfl) ml PySem.boot_len (pa_cons (pv 0) pa_nil)) (nomark _))
        (pss_one (ps_ret (pe_op op_mod (pe_callTy call_int1 (by rfl) mi (by decide +kernel) (pa_cons (pv 3) pa_nil)) (pv 2)))) pss_nil)
      (pss_one (ps_ret (pe_op op_mod (pe_callTy call_int1 (by rfl) mi (by decide +kernel) (pa_cons (pe_op op_fdiv (pe_callTy call_int1 (by rfl) mi (by decide +kernel) (pa_cons (pe_op op_add (pe_op op_mul (pv 3) pe_int) (pe_op op_mul (pv 1) pe_int)) pa_nil)) pe_int) pa_nil)) (pv 2)))))), ?_⟩
    have fin : ∀ x : Int, Q (.int (x % many)) H := fun x => q _ (Int.emod_nonneg _ (by omega)) (Int.emod_lt_of_pos _ hm)
    refine ⟨_, rfl, a, _, rfl, .inl hS, _, _, rfl, rfl, _, rfl, ite2 (fun c => ?_) (fun c => ?_)⟩
    · have c1 : (0 : Int) < ((ds.map V.int).length : Int) := of_decide_eq_true c
      have lo := Int.emod_nonneg k (b := ((ds.map V.int).length : Int)) (by omega)
      have hi := Int.emod_lt_of_pos k c1
      have gi := getI (ns := ds) (i := (k % ((ds.map V.int).length : Int)).toNat) (by rw [List.length_map] at *; omega)
      refine ⟨_, rfl, _, rfl, .inl ⟨_, rfl, _, rfl, a, _, rfl, .inl hS, _, _, rfl, rfl, c1, a, _, _, _, rfl, rfl, hS, at_of (j := (k % ((ds.map V.int).length : Int)).toNat) (by omega) gi, ?_⟩⟩
      refine ⟨_, rfl, _, rfl, a, _, rfl, .inl hS, _, _, rfl, rfl, _, rfl, ite2 (fun c => ?_) (fun c => ?_)⟩
      · exact ⟨_, rfl, .inl ⟨_, rfl, _, rfl, _, _, rfl, rfl, hm, fin _⟩⟩
      · exact ⟨_, rfl, _, _, rfl, rfl, .inr ⟨by decide, by decide⟩, _, rfl, _, _, rfl, rfl, .inr ⟨by decide, by decide⟩, _, _, rfl, rfl, .inl ⟨_, rfl, _, _, rfl, rfl, ⟨by decide, by decide⟩, .inl ⟨_, rfl, _, rfl, _, _, rfl, rfl, hm, fin _⟩⟩⟩
    · refine ⟨_, rfl, _, rfl, a, _, rfl, .inl hS, _, _, rfl, rfl, _, rfl, ite2 (fun c => ?_) (fun c => ?_)⟩
      · exact ⟨_, rfl, .inl ⟨_, rfl, _, rfl, _, _, rfl, rfl, hm, fin _⟩⟩
      · exact ⟨_, rfl, _, _, rfl, rfl, .inr ⟨by decide, by decide⟩, _, rfl, _, _, rfl, rfl, .inr ⟨by decide, by decide⟩, _, _, rfl, rfl, .inl ⟨_, rfl, _, _, rfl, rfl, ⟨by decide, by decide⟩, .inl ⟨_, rfl, _, rfl, _, _, rfl, rfl, hm, fin _⟩⟩⟩
end
end Ld

set_option Elab.async false
set_option linter.all false
set_option maxRecDepth 100000
set_option maxHeartbeats 4000000
/-! A generator expression whose element may call defs (and make generators of its own): first over states alone. -/
namespace Gn
open PySem PySem.Spec PyProof.Rows L2
section
variable {prog : Program} {w : World} {A : Around} {elt iter : Expr} {x : Str} {px pos : Pos} {scope : Scope} {it : Addr} {cenv : Env} {n : Nat} {J : Nat → Shared → Prop} {Fn : Shared → Prop} {pb : Nat → Bool}
/-- the code of the block's turn -/
abbrev turnCode (elt iter : Expr) (x : Str) (px pos : Pos) (scope : Scope) (it : Addr) (cenv : Env) : Code := .compLoop (.GeneratorExp elt [⟨.Name x px, iter, [], 0⟩] scope pos) 0 (.ref it) .none cenv
abbrev startCode (elt iter : Expr) (x : Str) (px pos : Pos) (scope : Scope) (it : Addr) (cenv : Env) : Code := .compStart (.GeneratorExp elt [⟨.Name x px, iter, [], 0⟩] scope pos) 0 (.ref it) .none cenv
/-- J i: the i-th turn is about to begin; it holds whatever the table of generators, as long as none is to be cleaned up -/
structure Core (prog : Program) (w : World) (A : Around) (elt iter : Expr) (x : Str) (px pos : Pos) (scope : Scope) (it : Addr) (cenv : Env) (n : Nat) (J : Nat → Shared → Prop) (Fn : Shared → Prop) (pb : Nat → Bool) : Prop where
  co : cenv.scope.isCoroutine = false
  any : ∀ i s g' t', J i s → AllBare g' → J i { s with gens := g', toks := t' }
  bare : ∀ i s, J i s → AllBare s.gens
  self : ∀ (B : Around) (s : Shared) (Q : Value → Shared → Prop) (E : Value → Shared → Prop), J 0 s → Q (.ref it) s → wpAny (model prog w) B (pyIter (.ref it)) Q E s
  done : ∀ s, J n s → wpAny (model prog w) (A.over (turnCode elt iter x px pos scope it cenv) []) (pyNext (.ref it)) (fun r s' => r = none ∧ Fn s') (fun _ _ => False) s
  turn : ∀ i s, i < n → J i s → wpAny (model prog w) (A.over (turnCode elt iter x px pos scope it cenv) []) (pyNext (.ref it)) (fun r s1 => ∃ u, r = some u ∧
    wpAny (model prog w) (A.over (turnCode elt iter x px pos scope it cenv) []) (letOwnedTupleGo (.Name x px) (.ref it) u) (fun _ s0 =>
      wpAny (model prog w) (A.over (turnCode elt iter x px pos scope it cenv) []) (assign (.Name x px) cenv u) (fun _ s2 =>
        wpAny (model prog w) (A.over (turnCode elt iter x px pos scope it cenv) []) (eval elt cenv) (fun y s3 => y = .bool (pb i) ∧ J (i + 1) s3) (fun _ _ => False) s2) (fun _ _ => False) s0) (fun _ _ => False) s1) (fun _ _ => False) s
def endJ (Fn : Shared → Prop) : GenEnd := fun m s₀ r s₁ => r = .ok .next ∧ (m = 0 ∧ Fn s₁)
def outJ (n : Nat) (J : Nat → Shared → Prop) (pb : Nat → Bool) : Protocol := fun m s₀ v s kap => v = .bool (pb (n - 1 - m)) ∧ m < n ∧ J (n - m) s ∧ ∀ s'', J (n - m) s'' → kap (.send .none) s''
theorem seg_turns (C : Core prog w A elt iter x px pos scope it cenv n J Fn pb) : ∀ (k i : Nat) (s₀ s : Shared), n - i = k → i ≤ n → J i s →
    Seg (model prog w) A (endJ Fn) (outJ n J pb) k s₀ (turnCode elt iter x px pos scope it cenv) ((model prog w).den (turnCode elt iter x px pos scope it cenv)) [] s := by
  intro k
  induction k with
  | zero =>
    intro i s₀ s hk hi hJ
    obtain rfl : i = n := by omega
    show Seg _ A _ _ _ s₀ _ ((compTurn (.GeneratorExp elt [⟨.Name x px, iter, [], 0⟩] scope pos) 0 (.ref it) .none cenv).onRaise (leaving cenv)) [] s
    rw [compTurn_gen, Sem.onRaise_eq_wrap]
    refine seg_bind_wrap (wpAny_standAt ?_)
    refine seg_bind_wrap (wpAny_mono (C.done s hJ) (fun r s' hr => ?_) fun _ _ z => False.elim z)
    obtain ⟨rfl, hJ'⟩ := hr
    exact seg_end (.ok .next) ⟨rfl, rfl, hJ'⟩
  | succ k ih =>
    intro i s₀ s hk hi hJ
    have lt : i < n := by omega
    show Seg _ A _ _ _ s₀ _ ((compTurn (.GeneratorExp elt [⟨.Name x px, iter, [], 0⟩] scope pos) 0 (.ref it) .none cenv).onRaise (leaving cenv)) [] s
    rw [compTurn_gen, Sem.onRaise_eq_wrap]
    refine seg_bind_wrap (wpAny_standAt ?_)
    refine seg_bind_wrap (wpAny_mono (C.turn i s lt hJ) (fun r s1 hr => ?_) fun _ _ z => False.elim z)
    obtain ⟨u, rfl, h1⟩ := hr
    refine seg_bind_wrap (wpAny_mono h1 (fun _ s0 h0 => ?_) fun _ _ z => False.elim z)
    refine seg_bind_wrap (wpAny_mono h0 (fun _ s2 h2 => ?_) fun _ _ z => False.elim z)
    refine seg_bind_wrap ?_
    rw [List.forIn_nil]
    refine wpAny_pure ?_
    simp only [if_true]
    have out : ∀ v, yieldOut cenv v = yieldValue v := fun v => by simp only [yieldOut, C.co, Bool.false_eq_true, if_false]
    simp only [out]
    rw [Sem.bind_eq_wrap', Sem.bind_eq_wrap', Sem.wrap_wrap, Sem.wrap_wrap]
    refine seg_wrap (wpAny_mono h2 (fun y s3 h3 => ?_) fun _ _ z => False.elim z)
    obtain ⟨rfl, hJ3⟩ := h3
    have e1 : n - 1 - k = i := by omega
    have e2 : n - k = i + 1 := by omega
    refine seg_at (seg_yield rfl rfl rfl ⟨by show _ = Value.bool (pb (n - 1 - k)); rw [e1], by show k < n; omega, by show J (n - k) s3; rw [e2]; exact hJ3, fun s'' h'' => ?_⟩)
    have h4 : J (i + 1) s'' := by rw [← e2]; exact h''
    exact seg_again rfl (ih (i + 1) s'' s'' (by omega) lt h4)
theorem seg_begins (C : Core prog w A elt iter x px pos scope it cenv n J Fn pb) (s₀ s : Shared) (hJ : J 0 s) :
    Seg (model prog w) A (endJ Fn) (outJ n J pb) n s₀ (startCode elt iter x px pos scope it cenv) ((model prog w).den (startCode elt iter x px pos scope it cenv)) [] s := by
  have loop := seg_turns C n 0 s₀ s (Nat.sub_zero _) (Nat.zero_le _) hJ
  show Seg _ A _ _ _ s₀ _ ((compStart (.GeneratorExp elt [⟨.Name x px, iter, [], 0⟩] scope pos) 0 (.ref it) .none cenv).onRaise (leaving cenv)) [] s
  unfold compStart
  rw [Sem.onRaise_eq_wrap]
  show Seg _ A _ _ _ s₀ _ ((ask >>= _).wrap _ _ _ _) [] s
  refine seg_bind_wrap (wpAny_askSetting ?_)
  split
  · exact seg_again rfl loop
  · first
      | exact seg_bind_wrap (wpAny_rule (seg_bind_wrap (wpAny_standAt (seg_bind_wrap (C.self _ s _ _ hJ (seg_again rfl loop))))))
      | (refine seg_bind_wrap (wpAny_rule ?_); show Seg _ A _ _ _ s₀ _ ((standAt iter.pos >>= _).wrap _ _ _ _) [] s; exact seg_bind_wrap (wpAny_standAt (seg_bind_wrap (C.self _ s _ _ hJ (seg_again rfl loop)))))
/-- the generator a, number g, sleeps ahead of its i-th turn -/
def Asleep (prog : Program) (w : World) (B : Around) (a : Addr) (g : Nat) (n : Nat) (J : Nat → Shared → Prop) (Fn : Shared → Prop) (pb : Nat → Bool) (i : Nat) (s : Shared) : Prop :=
  J i s ∧ ∃ gs, s.gens[g]? = some gs ∧ ∀ s'', J i s'' → gs.Goes (model prog w) B (endJ Fn) (outJ n J pb) (n - i) (.send .none) s''
/-- what the consumer asks of J: the generator's object stands, there is no lid -/
structure Held (a : Addr) (g : Nat) (J : Nat → Shared → Prop) (Fn : Shared → Prop) : Prop where
  gen : ∀ i s, J i s → s.heap.IsGen a g
  lim : ∀ i s, J i s → s.heap.NoLimit
  any : ∀ i s g' t', J i s → AllBare g' → J i { s with gens := g', toks := t' }
  bare : ∀ i s, J i s → AllBare s.gens
  /-- behind the end: the making of StopIteration leaves all as it stands -/
  more : ∀ s h', Fn s → (∀ b o, s.heap.get? b = some o → h'.get? b = some o) → Fn { s with heap := h' }
  anyF : ∀ s g', Fn s → AllBare g' → Fn { s with gens := g' }
  bareF : ∀ s, Fn s → AllBare s.gens
  fin : ∀ i s, J i s → Fn s
theorem set_bare {s : Shared} {g : Nat} {y : GenState} (h : AllBare s.gens) (hy : y.bare = true) : AllBare (s.setGen g y).gens := allBare_setGen h hy
theorem all_turns {a : Addr} {g : Nat} {R : Result → Shared → Prop} (D : Held a g J Fn) (hh : A.handled = none) (hroom : A.depth < recursionLimit) : ∀ (k i : Nat) (s : Shared), n - i = k → i ≤ n → Asleep prog w A.in1.in1 a g n J Fn pb i s →
    (∀ s', Fn s' → R (.ok (.ret (.bool (((List.range n).drop i).all pb)))) s') → codeAny (model prog w) A (.builtin "all.loop" ⟨[.ref a], []⟩) R s := by
  intro k
  induction k with
  | zero =>
    intro i s hk hi hA hR
    obtain rfl : i = n := by omega
    obtain ⟨hJ, gs, hgs, goes⟩ := hA
    rw [Nat.sub_self] at goes
    refine codeAny_builtin F.entry_all_loop ?_
    rw [Around.under_plainId F.plain_all_loop _]
    show wpAny _ A.in1 (pyNext (.ref a) >>= _) _ _ s
    refine wpAny_bind (wpAny_pyNext_genexpQ (A := A.in1) (P := fun m s₀ s₁ => m = 0 ∧ Fn s₁) hh (D.lim i s hJ) hroom (D.gen i s hJ) hgs (goes _ (D.any i s _ s.toks hJ (set_bare (D.bare i s hJ) rfl))) (fun v s₁ gs' hb hv => ?_) (fun s₁ hp h' up => ?_))
    · exact False.elim (hv.2.2.2 _ hv.2.2.1)
    · refine wpAny_bind (wpAny_rule (wpAny_pure ?_))
      have last := hR _ (D.more _ h' (D.anyF s₁ (s₁.setGen g .finished).gens hp.2 (set_bare (D.bareF s₁ hp.2) rfl)) up)
      rw [List.drop_of_length_le (by simp)] at last
      exact last
  | succ k ih =>
    intro i s hk hi hA hR
    obtain ⟨hJ, gs, hgs, goes⟩ := hA
    have lt : i < n := by omega
    have cut : (List.range n).drop i = i :: (List.range n).drop (i + 1) := by
      rw [List.drop_eq_getElem_cons (by simpa using lt)]
      simp
    have gl : g < s.gens.size := (Array.getElem?_eq_some_iff.mp hgs).1
    rw [hk] at goes
    refine codeAny_builtin F.entry_all_loop ?_
    rw [Around.under_plainId F.plain_all_loop _]
    show wpAny _ A.in1 (pyNext (.ref a) >>= _) _ _ s
    refine wpAny_bind (GenW.wpAny_gsz (n := g + 1) gl (wpAny_pyNext_genexpQ (A := A.in1) (P := fun m s₀ s₁ => m = 0 ∧ Fn s₁) hh (D.lim i s hJ) hroom (D.gen i s hJ) hgs (goes _ (D.any i s _ s.toks hJ (set_bare (D.bare i s hJ) rfl))) (fun v s₁ gs' hb hv => ?_) (fun s₁ hp h' up => ?_)))
    · obtain ⟨ev, hm, hJ1, kap⟩ := hv
      intro big
      have e1 : n - 1 - (k + 1 - 1) = i := by omega
      have e2 : n - (k + 1 - 1) = i + 1 := by omega
      rw [e1] at ev
      rw [e2] at hJ1 kap
      subst ev
      have hJ2 : J (i + 1) (s₁.setGen g gs') := D.any (i + 1) s₁ (s₁.setGen g gs').gens s₁.toks hJ1 (set_bare (D.bare _ _ hJ1) hb)
      refine wpAny_bind (wpAny_holding (wpAny_truthy_bool ?_))
      refine wpAny_bind (wpAny_letGo ?_)
      cases hp : pb i with
      | true =>
        simp only [if_true]
        refine wpAny_pure ⟨plainId_quiet F.plain_all_loop _, ih (i + 1) _ (by omega) lt ⟨hJ2, gs', ?_, ?_⟩ fun s' hj => ?_⟩
        · have q : (s₁.setGen g gs').gens.size = s₁.gens.size := GenW.setGen_size _ _ _
          have big' : g + 1 ≤ (s₁.setGen g gs').gens.size := big
          exact setGen_at (by omega)
        · intro s'' h''
          have e3 : n - (i + 1) = k := by omega
          rw [e3]
          exact kap s'' h''
        · have last := hR s' hj
          rw [cut, List.all_cons, hp, Bool.true_and] at last
          exact last
      | false =>
        simp only [Bool.false_eq_true, if_false]
        refine wpAny_bind (wpAny_rule (wpAny_pure ?_))
        have last := hR _ (D.fin (i + 1) _ hJ2)
        rw [cut, List.all_cons, hp, Bool.false_and] at last
        exact last
    · exact absurd hp.1 (Nat.succ_ne_zero k)
end
end Gn

set_option Elab.async false
set_option linter.all false
set_option maxRecDepth 100000
set_option maxHeartbeats 4000000
/-! .. then with the layer's own words: the element is any expression of the block. -/
namespace Gn
open PySem PySem.Spec PyProof.Rows L2
/-- the environment, the context of the inner block; it began at s with H -/
abbrev blkEnv (X : Cx) (scope : Scope) (C : Addr) (code : Value) : Env := genEnv scope (cloFrom X.env.cells scope.names []) C code builtinsNs X.env
abbrev gblk (X : Cx) (B : Around) (s : Shared) (H : Hp) (scope : Scope) (C : Addr) (code : Value) (fp : List Addr) : Cx :=
  { X with A := B, s_0 := s, H_0 := H, env := blkEnv X scope C code, outer := X.stack, stack := blkEnv X scope C code :: X.stack, ex := fp, fn := fun _ => false, calm := true, pn := [], xe := fun _ _ => False }
section
variable {X : Cx} {pins : List (Addr × Obj)} {σ : L2.St} {H : Hp} {s : Shared}
theorem blk_start {scope : Scope} {own : List (Str × Nat)} {fp : List Addr} {B : Around} {code : Value} {h5 : Heap} {g5 : Array GenState} {t5 : Nat} {m : Str → Option Value} (I : Inv X pins σ H s) (hN : X.N.Nodup) (ok : BlkOk X.N X.env.scope scope own) (noCell : ∀ y ∈ scope.names, y.2 ≠ .cell)
    (hfp : ∀ b ∈ fp, FpOk X pins H b ∧ b < s.heap.objs.size) (kp : ∀ b o, s.heap.get? b = some o → h5.get? b = some o) (ns : h5.Ns s.heap.objs.size m) (bare : AllBare g5) (hh : B.handled = none) (fr : B.frames = some (blkEnv X scope s.heap.objs.size code :: X.stack)) :
    Inv (gblk X B s H scope s.heap.objs.size code fp) [] (wipe σ (own.map (·.2))) H { s with heap := h5, gens := g5, toks := t5 } := by
  have has : ∀ y ∈ scope.names, y.2 = .free → ∃ c, X.env.cells.lookup y.1 = some c := fun y hy e => by
    rcases ok.free y hy e with k | k
    · exact I.ok.has _ (.inl k)
    · exact I.ok.has _ (.inr k)
  have mem : ∀ {y c}, (cloFrom X.env.cells scope.names []).lookup y = some c → X.env.cells.lookup y = some c ∧ c < s.heap.objs.size := fun {y c} e => by
    rcases cloFrom_mem (Gc.mem_of_lookup e) with z | ⟨z, rfl⟩
    · cases z
    · obtain ⟨c, hc⟩ := has _ z rfl
      rw [hc]
      obtain ⟨u, q⟩ := I.cell _ _ hc
      exact ⟨rfl, q.lt⟩
  have free_of : ∀ {y : Str}, (scope.names.lookup y = some NameKind.cell ∨ scope.names.lookup y = some NameKind.free) → (y, NameKind.free) ∈ scope.names := fun {y} hy => by
    rcases hy with e | e
    · exact absurd rfl (noCell _ (Gc.mem_of_lookup e))
    · exact Gc.mem_of_lookup e
  have okB : (gblk X B s H scope s.heap.objs.size code fp).Ok := by
    refine ⟨I.ok.mod, ok.kind, I.ok.glob, rfl, Nat.le_refl _, fun y z c e1 e2 => I.ok.inj y z c (mem e1).1 (mem e2).1, fun y hy => ?_, fun y c z _ => Bool.noConfusion z, fun _ => hh, fr, .inr ⟨rfl, rfl⟩, fun b hb => ⟨Nat.ne_of_lt (hfp b hb).2, fun y c e z => ?_⟩, I.bs, Nat.le_trans I.ok.bsz I.sz,
      fun b o e hb => ?_, fun b hb z => ?_, I.stack, I.stkFree⟩
    · obtain ⟨d, hd⟩ := mem_lookup (cloFrom_has (acc := []) (cells := X.env.cells) (free_of hy))
      exact ⟨d, hd⟩
    · exact (hfp b hb).1.2.2.2.2.1 y c (mem e).1 z
    · rcases (hfp b hb).1.2.2.2.1 with z | z
      · exact I.ok.noex b o e z
      · exact absurd (Nat.lt_of_lt_of_le (Heap.lt_size e) (Nat.le_trans I.ok.bsz z)) (Nat.lt_irrefl _)
    · rcases List.mem_cons.mp (I.stkSub b z) with z | z
      · exact (hfp b hb).1.2.1 z
      · exact (hfp b hb).1.2.2.1 z
  refine ⟨okB, rfl, bare, Un.kept kp, ⟨m, ns, fun i y v e1 e2 e3 => ?_⟩, fun y c e => ?_, I.hok.fresh (Nat.le_refl _), fun y c e => I.freeC y c (mem e).1, fun p hp => absurd (show p ∈ ([] : List (Addr × Obj)) ++ [] from hp) (by simp), I.hok.kept kp, by rw [wipe_length]; exact I.len⟩
  · obtain ⟨e2', out⟩ := wipe_some e2
    have vis : scope.names.lookup y = some .local ∨ scope.names.lookup y = some .cell ∨ scope.names.lookup y = some .free := e3
    have isFree : scope.names.lookup y = some .free := by
      have own_no : ∀ k : NameKind, scope.names.lookup y = some k → (k = .local ∨ k = .cell) → False := fun k e hk => by
        rcases ok.own _ (Gc.mem_of_lookup e) hk with z | z
        · obtain ⟨p, hp, py⟩ := List.mem_map.mp z
          have q := ok.ix p hp
          rw [show p.1 = y from py] at q
          exact out (List.mem_map.mpr ⟨p, hp, nd_ix hN q e1⟩)
        · exact z (List.mem_of_getElem? e1)
      rcases vis with e | e | e
      · exact (own_no _ e (.inl rfl)).elim
      · exact (own_no _ e (.inr rfl)).elim
      · exact e
    have inner : (y, NameKind.free) ∈ scope.names := Gc.mem_of_lookup isFree
    obtain ⟨m0, _, hl⟩ := I.loc
    have visX : Vis X.env.scope y := (ok.free _ inner rfl).elim (fun k => .inr (.inl k)) fun k => .inr (.inr k)
    obtain ⟨u, r, q⟩ := hl i y v e1 e2' visX
    refine ⟨u, r, .inr ⟨.inr isFree, ?_⟩⟩
    rcases q with ⟨k, _⟩ | ⟨_, c, hc, z⟩
    · have k : X.env.scope.names.lookup y = some .local := k
      rcases ok.free _ inner rfl with k' | k' <;> rw [show X.env.scope.names.lookup y = _ from k'] at k <;> cases k
    · exact ⟨c, Gc.cap_lookup inner hc, z.keeps kp⟩
  · obtain ⟨u, z⟩ := I.cell y c (mem e).1
    exact ⟨u, z.keeps kp⟩
theorem inv_regen {Y : Cx} {pn : List (Addr × Obj)} {τ : L2.St} {H' : Hp} {s' : Shared} (I : Inv Y pn τ H' s') (g : Array GenState) (t : Nat) (hb : AllBare g) : Inv Y pn τ H' { s' with gens := g, toks := t } :=
  ⟨I.ok, I.os, hb, I.base, I.loc, I.cell, I.free, I.freeC, I.pin, I.hok, I.len⟩
/-- all(elt for x in iter): x's slot ix; the def's table may grow first; W by the turn and the heap -/
def tAllN (P : Addr) (wi : TI) (ix : Nat) (te : TE) : TE := fun σ H Q => wi σ H fun J H1 => GxR.TabG H1 P ∧ ∀ H2, GxR.Tabbed P H1 H2 → ∃ (n : Nat) (pb : Nat → Bool) (W : Nat → Hp → Prop), W 0 H2 ∧
  (∀ i H3, i < n → W i H3 → J.go i H3 ∧ ∀ x H4, J.yld i H3 x H4 → te ((wipe σ [ix]).set ix (some x)) H4 fun y H5 => y = .bl (pb i) ∧ W (i + 1) H5) ∧ (∀ H3, W n H3 → J.stop n H3) ∧ ∀ i H3, W i H3 → Q (.bl ((List.range n).all pb)) H3
theorem pe_allN {c P : Addr} {elt iter : Expr} {x : Str} {px p pos gpos : Pos} {scope : Scope} {wi : TI} {te : TE} {k ix : Nat}
    (hr : Room (k + 1) X.A) (hg : Gl X "all") (hm : X.mg "all" = none) (hb : bootBuiltins "all" = some (.builtin "all")) (TB : GxR.TabB X.base X.mg c P) (hcode : X.env.code = .ref c) (hN : X.N.Nodup) (S : Gc.GenSc X.env.scope scope x) (ok : BlkOk X.N X.env.scope scope [(x, ix)]) (hx : X.N[ix]? = some x)
    (hi : PI X (.Name x px) iter wi) (hel : ∀ (B : Around) (s : Shared) (H : Hp) (C : Addr) (code : Value) (fp : List Addr), Room k B → PE (gblk X B s H scope C code fp) elt te) (hs : ∀ v, genFold iter X.env v = pure v)
    (he : starEach [.GeneratorExp elt [⟨.Name x px, iter, [], 0⟩] scope gpos] X.env = (false, eval (.GeneratorExp elt [⟨.Name x px, iter, [], 0⟩] scope gpos) X.env) :: starEach [] X.env := by rfl) :
    PE X (.Call (.Name "all" p) [.GeneratorExp elt [⟨.Name x px, iter, [], 0⟩] scope gpos] [] pos) (tAllN P wi ix te) := by
  refine ⟨fun pins s σ H Q I h => ?_⟩
  have has : ∀ y ∈ scope.names, y.2 = .free → ∃ a, X.env.cells.lookup y.1 = some a := fun y hy e => I.ok.has _ (.inl (S.free y hy e))
  refine wpAny_Call_Name_kw (ld_blt I hg hm hb ?_)
  refine PyProof.Rows.callWith_builtin1 ?_ he (by rfl)
  rw [he]
  show wpAny _ _ (spliced (_ :: backTo pos (starEach [] X.env))) _ _ _
  refine Calls.spliced_cons ?_
  refine wpAny_GeneratorExp_make S.co (closure_ok has) S.cell S.dot S.kind (by have := hr.dp; omega) ?_ hs
  refine thn (hi.run pins s σ H _ I h) fun xv s1 h1 => thn h1 fun itv s2 h2 => ?_
  obtain ⟨it, fp, tn, J, H1, rfl, I1, T, st, ffp, ⟨ps, hP, trip⟩, want⟩ := h2
  have tab1 : s2.heap.get? P = some { cls := .none, data := .fields ps } := I1.hok P _ hP
  refine ⟨I1.nolimit, Gc.code_either hcode (TB.code.keeps fun b u e => I1.bk b u e) tab1 trip fun code h3 tk more ext big tab3 trip3 => ?_⟩
  have I2 := GxR.inv_tab (more := more) (h' := h3) (g' := s2.gens) (d' := s2.drawn) (t' := tk) I1 hP ext tab3 I1.bare
  have grown : GxR.Tabbed P H1 (upd H1 P (.tbl (ps ++ more))) := ⟨⟨_, upd_same, trip3⟩, fun b ne => upd_ne ne⟩
  obtain ⟨n, pb, W, w0, step, stop, fin⟩ := want _ grown
  have nP : ∀ b ∈ fp, b ≠ P := fun b hb z => by
    have q := (ffp b hb).1
    rw [z, hP] at q
    cases q
  have fH2 : ∀ b ∈ fp, FpOk X pins (upd H1 P (.tbl (ps ++ more))) b := fun b hb => ⟨by rw [upd_ne (nP b hb)]; exact (ffp b hb).1, (ffp b hb).2⟩
  generalize hH2 : upd H1 P (.tbl (ps ++ more)) = H2 at I2 w0 fH2
  generalize hs3 : ({ s2 with heap := h3, gens := s2.gens, drawn := s2.drawn, toks := tk } : Shared) = s3 at I2
  have eh3 : s3.heap = h3 := by rw [← hs3]
  have st3 : tn 0 s3.heap := T.keep _ _ _ st fun b hb o e => by rw [eh3]; exact ext b o (nP b hb) e
  obtain ⟨bm, ob, b1, b2, b3, b4, b5, b6, b7, b8⟩ := TB.bm
  refine wpAny_builtinsFor (m := X.mg) (by rw [I2.ok.glob]; exact I2.mod.glob.keeps I2.bk) b1 b2 (I2.bk _ _ b5) b6 b7 b8 ?_
  intro h4 ns same
  have sz4 : h4.objs.size = s3.heap.objs.size + 1 := by rw [same.1, Heap.size_push]
  have up4 : ∀ b o, s3.heap.get? b = some o → h4.get? b = some o := fun b o e => same.extBut b o (Nat.ne_of_lt (Heap.lt_size e)) (Heap.get?_push_of_some _ e)
  generalize hgo : ({ cls := .type "generator", data := .fields #[.int s3.gens.size 0, .str "<genexpr>" (s3.toks + 1), .str (X.env.qual ++ "<genexpr>") (s3.toks + 1 + 1)] } : Obj) = go
  have isGen : ∀ h : Heap, h.get? h4.objs.size = some go → h.IsGen h4.objs.size s3.gens.size := fun h e => by
    subst hgo
    exact ⟨_, _, _, e, rfl, rfl, rfl⟩
  have new4 : (h4.push go).get? h4.objs.size = some go := by
    subst hgo
    exact Heap.get?_push_size _ rfl
  have offStack : ∀ b, s3.heap.objs.size ≤ b → b ∉ frs X.stack := fun b hb z => by
    rcases List.mem_cons.mp (I2.stkSub b z) with q | q
    · rw [q] at hb
      exact absurd (Nat.lt_of_lt_of_le I2.lt hb) (Nat.lt_irrefl _)
    · exact I2.nofs hb q
  have up5 : ∀ b o, s3.heap.get? b = some o → (h4.push go).get? b = some o := fun b o e => Heap.get?_push_of_some _ (up4 b o e)
  let B : Around := X.A.in1.in1.over (turnCode elt iter x px gpos scope it (blkEnv X scope s3.heap.objs.size code)) []
  have hhB : B.handled = none := hr.hd
  have frB : B.frames = some (blkEnv X scope s3.heap.objs.size code :: X.stack) := by
    have q : X.A.frames = some X.stack := I2.ok.frames
    show pushEnvs [blkEnv X scope s3.heap.objs.size code] X.A.frames = _
    rw [q]
    rfl
  have roomB : Room k B := ⟨hhB, by have := hr.dp; show X.A.depth + 0 + 1 + 3 * k + 5 < _; omega, by have := hr.un; show X.A.units + 1 + 1 + 0 + 3 + 16 * k + 200 < _; omega⟩
  have lt3 : ∀ b ∈ fp, b < s3.heap.objs.size := fun b hb => by
    obtain ⟨o, e, _⟩ := T.obj _ _ st3 b hb
    exact Heap.lt_size e
  have start := blk_start (B := B) (code := code) (h5 := h4.push go) (g5 := s3.gens.push (.fresh (startCode elt iter x px gpos scope it (blkEnv X scope s3.heap.objs.size code)))) (t5 := s3.toks + 1 + 1 + 1) (own := [(x, ix)]) (fp := fp) I2 hN ok S.cell (fun b hb => ⟨fH2 b hb, lt3 b hb⟩) up5 (ns.push go) (I2.bare.push rfl) hhB frB
  have w1 : wipe σ ([(x, ix)].map (·.2)) = wipe σ [ix] := rfl
  rw [w1] at start
  generalize hY : gblk X B s3 H2 scope s3.heap.objs.size code fp = Y at start
  have a_ne : h4.objs.size ≠ s3.heap.objs.size := by omega
  have pinned : ∀ {τ : L2.St} {H' : Hp} {s' : Shared}, Inv Y [] τ H' s' → s'.heap.get? h4.objs.size = some go → H' h4.objs.size = none → Inv Y [(h4.objs.size, go)] τ H' s' := fun {τ H' s'} K e e2 => K.pins_of fun q hq => by
    obtain rfl := List.mem_singleton.mp hq
    refine ⟨e, e2, by rw [← hY]; exact a_ne, by rw [← hY]; exact offStack _ (by rw [sz4]; exact Nat.le_succ _), fun v z => ?_⟩
    rw [← hgo] at z
    cases z
  have Ypn : Y.pn = [] := by rw [← hY]
  have Yfp : ∀ {H' : Hp}, (∀ b ∈ fp, H' b = none) → ∀ b ∈ fp, FpOk Y [(h4.objs.size, go)] H' b := fun {H'} hn b hb => by
    have okY := start.ok
    have hex : b ∈ Y.ex := by rw [← hY]; exact hb
    refine ⟨hn b hb, (okY.exf b hex).1, okY.exfs b hex, .inl hex, fun y c e => (okY.exf b hex).2 y c e, fun q hq => ?_⟩
    rw [Ypn, List.nil_append] at hq
    obtain rfl := List.mem_singleton.mp hq
    intro z
    have l := lt3 b hb
    have e : b = s3.heap.objs.size + 1 := (show h4.objs.size = b from z).symm.trans sz4
    rw [e] at l
    exact absurd l (Nat.not_lt.mpr (Nat.le_succ _))
  have st5 : tn 0 (h4.push go) := T.keep _ _ _ st3 fun b _ o e => up5 b o e
  have start2 := pinned start new4 (by
    have q := start.hok.fresh (a := h4.objs.size)
    exact I2.hok.fresh (by rw [sz4]; exact Nat.le_succ _))
  -- the i-th turn is about to begin
  let Js : Nat → Shared → Prop := fun i s' => ∃ H', Inv Y [(h4.objs.size, go)] (wipe σ [ix]) H' s' ∧ tn i s'.heap ∧ (∀ b ∈ fp, H' b = none) ∧ W i H'
  let Fs : Shared → Prop := fun s' => ∃ i H', Inv Y [(h4.objs.size, go)] (wipe σ [ix]) H' s' ∧ W i H'
  have held : Held h4.objs.size s3.gens.size Js Fs := {
    gen := fun i s' ⟨H', K, _⟩ => isGen _ (K.pin (h4.objs.size, go) (List.mem_append_right _ (List.mem_singleton.mpr rfl))).1
    lim := fun i s' ⟨H', K, _⟩ => K.nolimit
    any := fun i s' g' t' ⟨H', K, a1, a2, a3⟩ hb => ⟨H', inv_regen K g' t' hb, a1, a2, a3⟩
    bare := fun i s' ⟨H', K, _⟩ => K.bare
    more := fun s' h' ⟨i, H', K, a3⟩ up => ⟨i, H', K.kept (t' := s'.toks) up, a3⟩
    anyF := fun s' g' ⟨i, H', K, a3⟩ hb => ⟨i, H', inv_regen K g' s'.toks hb, a3⟩
    bareF := fun s' ⟨_, H', K, _⟩ => K.bare
    fin := fun i s' ⟨H', K, _, _, a3⟩ => ⟨i, H', K, a3⟩ }
  have progs : Y.prog = X.prog ∧ Y.w = X.w ∧ Y.K = X.K ∧ Y.calm = true ∧ Y.A = B ∧ Y.N = X.N ∧ Y.xe = fun _ _ => False := by
    rw [← hY]
    exact ⟨rfl, rfl, rfl, rfl, rfl, rfl, rfl⟩
  obtain ⟨y1, y2, y3, y4, y5, y6, y7⟩ := progs
  have pe := hel B s3 H2 s3.heap.objs.size code fp roomB
  rw [hY] at pe
  have pg : PG Y (.Name x px) (gName ix) := by
    rw [← hY]
    exact pg_name hN hx (.inl S.loc) (.inr S.loc)
  have envY : Y.env = blkEnv X scope s3.heap.objs.size code := by rw [← hY]
  have core : Core X.prog X.w X.A.in1.in1 elt iter x px gpos scope it (blkEnv X scope s3.heap.objs.size code) n Js Fs pb := {
    co := S.co
    any := held.any
    bare := held.bare
    self := fun B' s' Q' E' ⟨H', K, a1, _⟩ q => T.self B' 0 s' Q' E' a1 q
    done := fun s' ⟨H', K, a1, a2, a3⟩ => by
      have td := T.done Y y1 y2 y3 y4 n [(h4.objs.size, go)] s' _ H' (fun _ _ => False) K (Yfp a2) a1 (stop H' a3)
      rw [y5] at td
      exact thn td fun r s'' ⟨hr, K2⟩ => ⟨hr, n, H', K2, a3⟩
    turn := fun i s' lt ⟨H', K, a1, a2, a3⟩ => by
      obtain ⟨go_, item⟩ := step i H' lt a3
      have ti := T.item Y y1 y2 y3 y4 i [(h4.objs.size, go)] s' _ H' (fun _ _ => False) K (Yfp a2) a1 go_
      rw [y5] at ti
      refine thn ti fun r s6 ⟨u, hr, h6⟩ => ⟨u, hr, ?_⟩
      refine thn h6 fun _ s7 ⟨xv, H7, K7, r7, q7, st7, n7⟩ => ?_
      have K7' := K7.pinned (Yfp n7) (T.obj _ _ st7)
      have pa := pg.run _ s7 _ H7 xv u (fun σ' H' => σ' = (wipe σ [ix]).set ix (some xv) ∧ H' = H7) K7' r7 ⟨rfl, rfl⟩
      rw [y1, y2, y5, y7, envY] at pa
      refine thn pa fun _ s8 ⟨σ8, H8, K8, e8, e8'⟩ => ?_
      subst e8 e8'
      have pv_ := pe.run _ s8 _ H8 _ K8 (item xv H8 q7)
      rw [y1, y2, y5, y7, envY] at pv_
      refine thn pv_ fun y s9 ⟨v, H9, K9, rv, ev, w9⟩ => ?_
      subst ev
      have pin' : ∀ b ∈ fp, ∀ o, s7.heap.get? b = some o → s9.heap.get? b = some o ∧ H9 b = none := fun b hb o e =>
        let z := K9.pin (b, o) (List.mem_append_right _ (List.mem_append_right _ (mem_pinsAt hb e)))
        ⟨z.1, z.2.1⟩
      refine ⟨rv, H9, (K9.unpinned (pins := [(h4.objs.size, go)])).weak ?_ fun j v e => ?_, T.keep _ _ _ st7 fun b hb o e => (pin' b hb o e).1, fun b hb => ?_, w9⟩
      · rw [List.length_set]
      · obtain ⟨_, out⟩ := wipe_some e
        rw [List.getElem?_set_ne (fun z => out (by rw [z]; exact List.mem_singleton.mpr rfl))]
        exact e
      · obtain ⟨o, e, _⟩ := T.obj _ _ st7 b hb
        exact (pin' b hb o e).2 }
  -- the call of all
  refine Calls.spliced_nil ?_
  refine call_function_tree F.kind_all F.plain_all F.entry_all (F.args_all1 _) ?_
  unfold Builtin.«all»
  refine wpAny_bind (m := oneArg "all" _) (wpAny_pure ?_)
  refine wpAny_bind (wpAny_pyIter_gen (isGen _ new4) ?_)
  have hs' : Asleep X.prog X.w X.A.in1.in1 h4.objs.size s3.gens.size n Js Fs pb 0 { s3 with heap := h4.push go, gens := s3.gens.push (.fresh (startCode elt iter x px gpos scope it (blkEnv X scope s3.heap.objs.size code))), toks := s3.toks + 1 + 1 + 1 } :=
    ⟨⟨H2, start2, st5, fun b hb => (fH2 b hb).1, w0⟩, _, Array.getElem?_push_size .., fun s'' h'' => ⟨rfl, seg_begins core s'' s'' h''⟩⟩
  refine wpAny_pure ⟨plainId_quiet F.plain_all_loop _, all_turns held hr.hd (by have := hr.dp; omega) n 0 _ rfl (Nat.zero_le _) hs' fun s' hF => ?_⟩
  obtain ⟨i, H', K, wi'⟩ := hF
  have back : Inv X pins σ H' s' := by
    have b0 : Un (frs X.stack) fp H2 H' s3.heap s'.heap := by
      have q := K.base
      rw [← hY] at q
      exact q
    have o0 : s'.os = s3.os := by
      have q := K.os
      rw [← hY] at q
      exact q
    have k0 : HOk X.prog X.w H' s'.heap := by
      have q := K.hok
      rw [← hY] at q
      exact q
    exact I2.call' (ch := fp) o0 b0 k0 K.bare fun b hb => ⟨(fH2 b hb).2.2.2.1, (fH2 b hb).2.1, (fH2 b hb).2.2.2.2.1, (fH2 b hb).2.2.2.2.2⟩
  exact ⟨.bl _, H', back, rfl, fin i H' wi'⟩
end
end Gn

set_option Elab.async false
set_option linter.all false
set_option maxRecDepth 100000
set_option maxHeartbeats 4000000
/-! Kinds, as the program tells them. -/
namespace Ld
open PySem PySem.Spec PyProof.Rows L2
abbrev sWord : Stmt := s__is_word
abbrev sKind : Stmt := s_is_kind
section
variable {P : Program} {w : World} {K : PySem.W.Frag} {mg : Str → Option Value} {base : Heap}
/-! ### words of letters -/
/-- as Fun.ok, the def's code told -/
theorem okT {x qual : Str} {st : Stmt} {f c : Addr} {fd : FuncData} {N ps : List Str} {k : Nat} {sp : Sp} (F : Fun K x qual st f fd) (hc : fd.code = .ref c) (S : FnScope N ps (defScope st)) (len : ∀ vs H Q E, sp vs H Q E → vs.length = ps.length)
    (hbody : ∀ (A : Around) (outer : List Env) (s : Shared) (H : Hp) (vs : List V) (Q : VK) (E : XK), Room k (A.deeper (envOfC qual (defScope st) s.heap.objs.size f (.ref c))) → sp vs H Q E →
      ∃ t, PSs (cxOf CX0 P w K mg base N qual (defScope st) f (.ref c) A outer s H E).nox (defBody st) t ∧ t { nx := fun _ H' => Q .non H', rt := Q } (start N vs) H) : FnOk P w K mg base CX0 (k + 1) f fd ps sp := by
  obtain ⟨oc, od, kV, doc, pm, an, cdv, ct, osl, rfl, lk, hcd⟩ := F.ex
  have e : cdv = .ref c := hc
  subst e
  refine fn_of lk hcd S len fun A outer s H vs Q E hr hsp => ?_
  obtain ⟨t, h, q⟩ := hbody A outer s H vs Q E hr hsp
  exact ⟨t, h.nox, q⟩
theorem scW : FnScope ["text", "first", "last"] ["text", "first", "last"] (defScope sWord) := ⟨rfl, rfl, rfl, by decide +kernel, rfl, by decide +kernel, by decide +kernel⟩
def spWord (T : Addr) : Sp := fun vs H Q _ => ∃ (z lo hi : Str), vs = [.str z, .str lo, .str hi] ∧ z.length ≤ sizeLine ∧ GxR.TabG H T ∧ ∀ H2, GxR.Tabbed T H H2 → Q (.bl (wordB z lo hi)) H2
theorem wFree : ∀ y ∈ ([((".0" : Str), NameKind.local), ("letter", NameKind.local), ("first", NameKind.free), ("last", NameKind.free)] : List (Str × NameKind)), y.2 = .free → (defScope sWord).names.lookup y.1 = some .cell := by decide +kernel
theorem wCell1 : (defScope sWord).names.lookup ("first" : Str) = some NameKind.cell := by decide +kernel
theorem wCell2 : (defScope sWord).names.lookup ("last" : Str) = some NameKind.cell := by decide +kernel
theorem ok_word {f c T : Addr} {fd : FuncData} {k : Nat} (F : Fun K "_is_word" "_is_word" sWord f fd) (hc : fd.code = .ref c) (TB : GxR.TabB base mg c T) (ml : mg "len" = none) (ma : mg "all" = none) {tk : Tok} (mm : mg "MOST_LETTERS" = some (.int 12 tk)) :
    FnOk P w K mg base CX0 (k + 1) f fd ["text", "first", "last"] (spWord T) := by
  refine okT F hc scW (fun vs H Q E h => ?_) (fun A outer s H vs Q E hr h => ?_)
  · obtain ⟨z, lo, hi, rfl, _⟩ := h
    rfl
  · obtain ⟨z, lo, hi, rfl, hz, tg, q⟩ := h
    refine ⟨_, pss_one (ps_ret (pe_and (pe_chain op_le op_le pe_int (pe_callB call_len_str (by rfl) ml PySem.boot_len (pa_cons (pv 0) pa_nil)) (pe_glob (v := .int 12) rfl mm ⟨_, rfl⟩))
      (pe_one (Gc.pe_allG hr (by rfl) ma (by decide +kernel) TB rfl ⟨rfl, rfl, by decide +kernel, rfl, rfl, wFree⟩ (pv 0) (fun _ => rfl))))), ?_⟩
    refine ⟨_, rfl, z, rfl, hz, _, _, rfl, rfl, _, rfl, ite2 (fun c1 => ?_) (fun c1 => ?_)⟩
    · refine ⟨_, _, rfl, rfl, _, rfl, ite2 (fun c2 => ?_) (fun c2 => ?_)⟩
      · refine ⟨_, rfl, z.cps.size, PySem.SignAt z, fun k => Gc.between lo hi (z.cps.getD k 0), fun pins s1 xv I r => ?_, tg, fun H2 hT => ?_⟩
        · obtain ⟨t, rfl⟩ := r
          obtain ⟨ps, hP, _⟩ := tg
          exact ⟨Gc.src_str I hP, Gc.elt_between (i := 1) (j := 2) I hP rfl rfl rfl rfl wCell1 wCell2 rfl rfl rfl rfl⟩
        · have e : wordB z lo hi = z.cps.toList.all (Gc.between lo hi) := by
            unfold wordB
            rw [c1, c2]
            rfl
          have q2 := q H2 hT
          rw [e, ← Gc.range_all] at q2
          exact q2
      · have e : wordB z lo hi = false := by
          unfold wordB
          rw [Bool.eq_false_iff.mpr c2]
          simp
        have q2 := q H ⟨tg, fun _ _ => rfl⟩
        rw [e] at q2
        exact q2
    · have e : wordB z lo hi = false := by
        unfold wordB
        rw [Bool.eq_false_iff.mpr c1]
        rfl
      have q2 := q H ⟨tg, fun _ _ => rfl⟩
      rw [e] at q2
      exact ⟨_, rfl, iteF q2⟩
theorem scK : FnScope ["text"] ["text"] (defScope sKind) := ⟨rfl, rfl, rfl, by decide +kernel, rfl, by decide +kernel, by decide +kernel⟩
def spOne (T : Addr) (b : Str → Bool) : Sp := fun vs H Q _ => ∃ z : Str, vs = [.str z] ∧ z.length ≤ sizeLine ∧ GxR.TabG H T ∧ ∀ H2, GxR.Tabbed T H H2 → Q (.bl (b z)) H2
theorem str_dec (x y : Str) : decide (V.str x = V.str y) = decide (x = y) := by
  by_cases e : x = y
  · subst e; simp
  · rw [decide_eq_false e]
    exact decide_eq_false fun z => e (V.str.inj z)
theorem ok_kind {f fW T : Addr} {fd fdW : FuncData} {k : Nat} (F : Fun K "is_kind" "is_kind" sKind f fd) (FW : Fun K "_is_word" "_is_word" sWord fW fdW) (GW : FnOk P w K mg base CX0 (k + 1) fW fdW ["text", "first", "last"] (spWord T)) (bW : Binds K fdW ["text", "first", "last"] []) (gW : mg "_is_word" = some (.ref fW)) :
    FnOk P w K mg base CX0 (k + 2) f fd ["text"] (spOne T kindB) := by
  refine F.ok scK (fun vs H Q E h => ?_) (fun cdv A outer s H vs Q E hr h => ?_)
  · obtain ⟨z, rfl, _⟩ := h
    rfl
  · obtain ⟨z, rfl, hz, tg, q⟩ := h
    refine ⟨_, pss_one (ps_ret (pe_and (pe_call GW hr (by rfl) gW FW.kp bW .nil pass0 (pa_cons (pv 0) (pa_cons pe_str (pa_cons pe_str pa_nil)))) (pe_one (pe_cmpR op_ne (pv 0) pe_str (nomark _))))), ?_⟩
    refine ⟨_, rfl, z, _, _, rfl, hz, tg, fun H2 hT => ?_⟩
    have q2 := q H2 hT
    refine ⟨_, rfl, ite2 (fun c => ?_) (fun c => ?_)⟩
    · refine ⟨_, rfl, rfl, ?_⟩
      unfold kindB at q2
      rw [c, ← str_dec] at q2
      exact q2
    · unfold kindB at q2
      rw [Bool.eq_false_iff.mpr c] at q2
      exact q2
end
end Ld

set_option Elab.async false
set_option linter.all false
set_option maxRecDepth 100000
set_option maxHeartbeats 4000000
/-! LdGenN and LdGenI once more, with a target of any form (a tuple of names). -/
namespace Gt
open PySem PySem.Spec PyProof.Rows L2
open Gn (gblk blkEnv blk_start inv_regen)
section
variable {prog : Program} {w : World} {A : Around} {elt iter : Expr} {tg : Expr} {pos : Pos} {scope : Scope} {it : Addr} {cenv : Env} {n : Nat} {J : Nat → Shared → Prop} {Fn : Shared → Prop} {pb : Nat → Bool}
/-- the code of the block's turn -/
abbrev turnCode (elt iter : Expr) (tg : Expr) (pos : Pos) (scope : Scope) (it : Addr) (cenv : Env) : Code := .compLoop (.GeneratorExp elt [⟨tg, iter, [], 0⟩] scope pos) 0 (.ref it) .none cenv
abbrev startCode (elt iter : Expr) (tg : Expr) (pos : Pos) (scope : Scope) (it : Addr) (cenv : Env) : Code := .compStart (.GeneratorExp elt [⟨tg, iter, [], 0⟩] scope pos) 0 (.ref it) .none cenv
/-- J i: the i-th turn is about to begin; it holds whatever the table of generators, as long as none is to be cleaned up -/
structure Core (prog : Program) (w : World) (A : Around) (elt iter : Expr) (tg : Expr) (pos : Pos) (scope : Scope) (it : Addr) (cenv : Env) (n : Nat) (J : Nat → Shared → Prop) (Fn : Shared → Prop) (pb : Nat → Bool) : Prop where
  co : cenv.scope.isCoroutine = false
  any : ∀ i s g' t', J i s → AllBare g' → J i { s with gens := g', toks := t' }
  bare : ∀ i s, J i s → AllBare s.gens
  self : ∀ (B : Around) (s : Shared) (Q : Value → Shared → Prop) (E : Value → Shared → Prop), J 0 s → Q (.ref it) s → wpAny (model prog w) B (pyIter (.ref it)) Q E s
  done : ∀ s, J n s → wpAny (model prog w) (A.over (turnCode elt iter tg pos scope it cenv) []) (pyNext (.ref it)) (fun r s' => r = none ∧ Fn s') (fun _ _ => False) s
  turn : ∀ i s, i < n → J i s → wpAny (model prog w) (A.over (turnCode elt iter tg pos scope it cenv) []) (pyNext (.ref it)) (fun r s1 => ∃ u, r = some u ∧
    wpAny (model prog w) (A.over (turnCode elt iter tg pos scope it cenv) []) (letOwnedTupleGo tg (.ref it) u) (fun _ s0 =>
      wpAny (model prog w) (A.over (turnCode elt iter tg pos scope it cenv) []) (assign tg cenv u) (fun _ s2 =>
        wpAny (model prog w) (A.over (turnCode elt iter tg pos scope it cenv) []) (eval elt cenv) (fun y s3 => y = .bool (pb i) ∧ J (i + 1) s3) (fun _ _ => False) s2) (fun _ _ => False) s0) (fun _ _ => False) s1) (fun _ _ => False) s
def endJ (Fn : Shared → Prop) : GenEnd := fun m s₀ r s₁ => r = .ok .next ∧ (m = 0 ∧ Fn s₁)
def outJ (n : Nat) (J : Nat → Shared → Prop) (pb : Nat → Bool) : Protocol := fun m s₀ v s kap => v = .bool (pb (n - 1 - m)) ∧ m < n ∧ J (n - m) s ∧ ∀ s'', J (n - m) s'' → kap (.send .none) s''
theorem seg_turns (C : Core prog w A elt iter tg pos scope it cenv n J Fn pb) : ∀ (k i : Nat) (s₀ s : Shared), n - i = k → i ≤ n → J i s →
    Seg (model prog w) A (endJ Fn) (outJ n J pb) k s₀ (turnCode elt iter tg pos scope it cenv) ((model prog w).den (turnCode elt iter tg pos scope it cenv)) [] s := by
  intro k
  induction k with
  | zero =>
    intro i s₀ s hk hi hJ
    obtain rfl : i = n := by omega
    show Seg _ A _ _ _ s₀ _ ((compTurn (.GeneratorExp elt [⟨tg, iter, [], 0⟩] scope pos) 0 (.ref it) .none cenv).onRaise (leaving cenv)) [] s
    rw [compTurn_gen, Sem.onRaise_eq_wrap]
    refine seg_bind_wrap (wpAny_standAt ?_)
    refine seg_bind_wrap (wpAny_mono (C.done s hJ) (fun r s' hr => ?_) fun _ _ z => False.elim z)
    obtain ⟨rfl, hJ'⟩ := hr
    exact seg_end (.ok .next) ⟨rfl, rfl, hJ'⟩
  | succ k ih =>
    intro i s₀ s hk hi hJ
    have lt : i < n := by omega
    show Seg _ A _ _ _ s₀ _ ((compTurn (.GeneratorExp elt [⟨tg, iter, [], 0⟩] scope pos) 0 (.ref it) .none cenv).onRaise (leaving cenv)) [] s
    rw [compTurn_gen, Sem.onRaise_eq_wrap]
    refine seg_bind_wrap (wpAny_standAt ?_)
    refine seg_bind_wrap (wpAny_mono (C.turn i s lt hJ) (fun r s1 hr => ?_) fun _ _ z => False.elim z)
    obtain ⟨u, rfl, h1⟩ := hr
    refine seg_bind_wrap (wpAny_mono h1 (fun _ s0 h0 => ?_) fun _ _ z => False.elim z)
    refine seg_bind_wrap (wpAny_mono h0 (fun _ s2 h2 => ?_) fun _ _ z => False.elim z)
    refine seg_bind_wrap ?_
    rw [List.forIn_nil]
    refine wpAny_pure ?_
    simp only [if_true]
    have out : ∀ v, yieldOut cenv v = yieldValue v := fun v => by simp only [yieldOut, C.co, Bool.false_eq_true, if_false]
    simp only [out]
    rw [Sem.bind_eq_wrap', Sem.bind_eq_wrap', Sem.wrap_wrap, Sem.wrap_wrap]
    refine seg_wrap (wpAny_mono h2 (fun y s3 h3 => ?_) fun _ _ z => False.elim z)
    obtain ⟨rfl, hJ3⟩ := h3
    have e1 : n - 1 - k = i := by omega
    have e2 : n - k = i + 1 := by omega
    refine seg_at (seg_yield rfl rfl rfl ⟨by show _ = Value.bool (pb (n - 1 - k)); rw [e1], by show k < n; omega, by show J (n - k) s3; rw [e2]; exact hJ3, fun s'' h'' => ?_⟩)
    have h4 : J (i + 1) s'' := by rw [← e2]; exact h''
    exact seg_again rfl (ih (i + 1) s'' s'' (by omega) lt h4)
theorem seg_begins (C : Core prog w A elt iter tg pos scope it cenv n J Fn pb) (s₀ s : Shared) (hJ : J 0 s) :
    Seg (model prog w) A (endJ Fn) (outJ n J pb) n s₀ (startCode elt iter tg pos scope it cenv) ((model prog w).den (startCode elt iter tg pos scope it cenv)) [] s := by
  have loop := seg_turns C n 0 s₀ s (Nat.sub_zero _) (Nat.zero_le _) hJ
  show Seg _ A _ _ _ s₀ _ ((compStart (.GeneratorExp elt [⟨tg, iter, [], 0⟩] scope pos) 0 (.ref it) .none cenv).onRaise (leaving cenv)) [] s
  unfold compStart
  rw [Sem.onRaise_eq_wrap]
  show Seg _ A _ _ _ s₀ _ ((ask >>= _).wrap _ _ _ _) [] s
  refine seg_bind_wrap (wpAny_askSetting ?_)
  split
  · exact seg_again rfl loop
  · first
      | exact seg_bind_wrap (wpAny_rule (seg_bind_wrap (wpAny_standAt (seg_bind_wrap (C.self _ s _ _ hJ (seg_again rfl loop))))))
      | (refine seg_bind_wrap (wpAny_rule ?_); show Seg _ A _ _ _ s₀ _ ((standAt iter.pos >>= _).wrap _ _ _ _) [] s; exact seg_bind_wrap (wpAny_standAt (seg_bind_wrap (C.self _ s _ _ hJ (seg_again rfl loop)))))
/-- the generator a, number g, sleeps ahead of its i-th turn -/
def Asleep (prog : Program) (w : World) (B : Around) (a : Addr) (g : Nat) (n : Nat) (J : Nat → Shared → Prop) (Fn : Shared → Prop) (pb : Nat → Bool) (i : Nat) (s : Shared) : Prop :=
  J i s ∧ ∃ gs, s.gens[g]? = some gs ∧ ∀ s'', J i s'' → gs.Goes (model prog w) B (endJ Fn) (outJ n J pb) (n - i) (.send .none) s''
/-- what the consumer asks of J: the generator's object stands, there is no lid -/
structure Held (a : Addr) (g : Nat) (J : Nat → Shared → Prop) (Fn : Shared → Prop) : Prop where
  gen : ∀ i s, J i s → s.heap.IsGen a g
  lim : ∀ i s, J i s → s.heap.NoLimit
  any : ∀ i s g' t', J i s → AllBare g' → J i { s with gens := g', toks := t' }
  bare : ∀ i s, J i s → AllBare s.gens
  /-- behind the end: the making of StopIteration leaves all as it stands -/
  more : ∀ s h', Fn s → (∀ b o, s.heap.get? b = some o → h'.get? b = some o) → Fn { s with heap := h' }
  anyF : ∀ s g', Fn s → AllBare g' → Fn { s with gens := g' }
  bareF : ∀ s, Fn s → AllBare s.gens
  fin : ∀ i s, J i s → Fn s
theorem set_bare {s : Shared} {g : Nat} {y : GenState} (h : AllBare s.gens) (hy : y.bare = true) : AllBare (s.setGen g y).gens := allBare_setGen h hy
theorem all_turns {a : Addr} {g : Nat} {R : Result → Shared → Prop} (D : Held a g J Fn) (hh : A.handled = none) (hroom : A.depth < recursionLimit) : ∀ (k i : Nat) (s : Shared), n - i = k → i ≤ n → Asleep prog w A.in1.in1 a g n J Fn pb i s →
    (∀ s', Fn s' → R (.ok (.ret (.bool (((List.range n).drop i).all pb)))) s') → codeAny (model prog w) A (.builtin "all.loop" ⟨[.ref a], []⟩) R s := by
  intro k
  induction k with
  | zero =>
    intro i s hk hi hA hR
    obtain rfl : i = n := by omega
    obtain ⟨hJ, gs, hgs, goes⟩ := hA
    rw [Nat.sub_self] at goes
    refine codeAny_builtin F.entry_all_loop ?_
    rw [Around.under_plainId F.plain_all_loop _]
    show wpAny _ A.in1 (pyNext (.ref a) >>= _) _ _ s
    refine wpAny_bind (wpAny_pyNext_genexpQ (A := A.in1) (P := fun m s₀ s₁ => m = 0 ∧ Fn s₁) hh (D.lim i s hJ) hroom (D.gen i s hJ) hgs (goes _ (D.any i s _ s.toks hJ (set_bare (D.bare i s hJ) rfl))) (fun v s₁ gs' hb hv => ?_) (fun s₁ hp h' up => ?_))
    · exact False.elim (hv.2.2.2 _ hv.2.2.1)
    · refine wpAny_bind (wpAny_rule (wpAny_pure ?_))
      have last := hR _ (D.more _ h' (D.anyF s₁ (s₁.setGen g .finished).gens hp.2 (set_bare (D.bareF s₁ hp.2) rfl)) up)
      rw [List.drop_of_length_le (by simp)] at last
      exact last
  | succ k ih =>
    intro i s hk hi hA hR
    obtain ⟨hJ, gs, hgs, goes⟩ := hA
    have lt : i < n := by omega
    have cut : (List.range n).drop i = i :: (List.range n).drop (i + 1) := by
      rw [List.drop_eq_getElem_cons (by simpa using lt)]
      simp
    have gl : g < s.gens.size := (Array.getElem?_eq_some_iff.mp hgs).1
    rw [hk] at goes
    refine codeAny_builtin F.entry_all_loop ?_
    rw [Around.under_plainId F.plain_all_loop _]
    show wpAny _ A.in1 (pyNext (.ref a) >>= _) _ _ s
    refine wpAny_bind (GenW.wpAny_gsz (n := g + 1) gl (wpAny_pyNext_genexpQ (A := A.in1) (P := fun m s₀ s₁ => m = 0 ∧ Fn s₁) hh (D.lim i s hJ) hroom (D.gen i s hJ) hgs (goes _ (D.any i s _ s.toks hJ (set_bare (D.bare i s hJ) rfl))) (fun v s₁ gs' hb hv => ?_) (fun s₁ hp h' up => ?_)))
    · obtain ⟨ev, hm, hJ1, kap⟩ := hv
      intro big
      have e1 : n - 1 - (k + 1 - 1) = i := by omega
      have e2 : n - (k + 1 - 1) = i + 1 := by omega
      rw [e1] at ev
      rw [e2] at hJ1 kap
      subst ev
      have hJ2 : J (i + 1) (s₁.setGen g gs') := D.any (i + 1) s₁ (s₁.setGen g gs').gens s₁.toks hJ1 (set_bare (D.bare _ _ hJ1) hb)
      refine wpAny_bind (wpAny_holding (wpAny_truthy_bool ?_))
      refine wpAny_bind (wpAny_letGo ?_)
      cases hp : pb i with
      | true =>
        simp only [if_true]
        refine wpAny_pure ⟨plainId_quiet F.plain_all_loop _, ih (i + 1) _ (by omega) lt ⟨hJ2, gs', ?_, ?_⟩ fun s' hj => ?_⟩
        · have q : (s₁.setGen g gs').gens.size = s₁.gens.size := GenW.setGen_size _ _ _
          have big' : g + 1 ≤ (s₁.setGen g gs').gens.size := big
          exact setGen_at (by omega)
        · intro s'' h''
          have e3 : n - (i + 1) = k := by omega
          rw [e3]
          exact kap s'' h''
        · have last := hR s' hj
          rw [cut, List.all_cons, hp, Bool.true_and] at last
          exact last
      | false =>
        simp only [Bool.false_eq_true, if_false]
        refine wpAny_bind (wpAny_rule (wpAny_pure ?_))
        have last := hR _ (D.fin (i + 1) _ hJ2)
        rw [cut, List.all_cons, hp, Bool.false_and] at last
        exact last
    · exact absurd hp.1 (Nat.succ_ne_zero k)
end
/-- the block's own scope, over the def's scope sc -/
structure GenT (sc scope : Scope) : Prop where
  kind : scope.kind = .function
  co : scope.isCoroutine = false
  cell : ∀ y ∈ scope.names, y.2 ≠ .cell
  dot : scope.names.lookup (".0" : Str) = some NameKind.local
  free : ∀ y ∈ scope.names, y.2 = .free → sc.names.lookup y.1 = some .cell
section
variable {X : Cx} {pins : List (Addr × Obj)} {σ : L2.St} {H : Hp} {s : Shared}
/-- all(elt for x in iter): x's slot ix; the def's table may grow first; W by the turn and the heap -/
def tAllT (P : Addr) (wi : TI) (vs : List Nat) (g : TG) (te : TE) : TE := fun σ H Q => wi σ H fun J H1 => GxR.TabG H1 P ∧ ∀ H2, GxR.Tabbed P H1 H2 → ∃ (n : Nat) (pb : Nat → Bool) (W : Nat → Hp → Prop), W 0 H2 ∧
  (∀ i H3, i < n → W i H3 → J.go i H3 ∧ ∀ x H4, J.yld i H3 x H4 → g x (wipe σ vs) H4 fun σ2 H2' => wipe σ2 vs = wipe σ vs ∧ te σ2 H2' fun y H5 => y = .bl (pb i) ∧ W (i + 1) H5) ∧ (∀ H3, W n H3 → J.stop n H3) ∧ ∀ i H3, W i H3 → Q (.bl ((List.range n).all pb)) H3
theorem pe_allT {c P : Addr} {elt tg iter : Expr} {p pos gpos : Pos} {scope : Scope} {wi : TI} {g : TG} {te : TE} {k : Nat} {own : List (Str × Nat)}
    (hr : Room (k + 1) X.A) (hg : Gl X "all") (hm : X.mg "all" = none) (hb : bootBuiltins "all" = some (.builtin "all")) (TB : GxR.TabB X.base X.mg c P) (hcode : X.env.code = .ref c) (hN : X.N.Nodup) (S : GenT X.env.scope scope) (ok : BlkOk X.N X.env.scope scope own) (hpg : ∀ (B : Around) (s : Shared) (H : Hp) (C : Addr) (code : Value) (fp : List Addr), PG (gblk X B s H scope C code fp) tg g)
    (hi : PI X tg iter wi) (hel : ∀ (B : Around) (s : Shared) (H : Hp) (C : Addr) (code : Value) (fp : List Addr), Room k B → PE (gblk X B s H scope C code fp) elt te) (hs : ∀ v, genFold iter X.env v = pure v)
    (he : starEach [.GeneratorExp elt [⟨tg, iter, [], 0⟩] scope gpos] X.env = (false, eval (.GeneratorExp elt [⟨tg, iter, [], 0⟩] scope gpos) X.env) :: starEach [] X.env := by rfl) :
    PE X (.Call (.Name "all" p) [.GeneratorExp elt [⟨tg, iter, [], 0⟩] scope gpos] [] pos) (tAllT P wi (own.map (·.2)) g te) := by
  refine ⟨fun pins s σ H Q I h => ?_⟩
  have has : ∀ y ∈ scope.names, y.2 = .free → ∃ a, X.env.cells.lookup y.1 = some a := fun y hy e => I.ok.has _ (.inl (S.free y hy e))
  refine wpAny_Call_Name_kw (ld_blt I hg hm hb ?_)
  refine PyProof.Rows.callWith_builtin1 ?_ he (by rfl)
  rw [he]
  show wpAny _ _ (spliced (_ :: backTo pos (starEach [] X.env))) _ _ _
  refine Calls.spliced_cons ?_
  refine wpAny_GeneratorExp_make S.co (closure_ok has) S.cell S.dot S.kind (by have := hr.dp; omega) ?_ hs
  refine thn (hi.run pins s σ H _ I h) fun xv s1 h1 => thn h1 fun itv s2 h2 => ?_
  obtain ⟨it, fp, tn, J, H1, rfl, I1, T, st, ffp, ⟨ps, hP, trip⟩, want⟩ := h2
  have tab1 : s2.heap.get? P = some { cls := .none, data := .fields ps } := I1.hok P _ hP
  refine ⟨I1.nolimit, Gc.code_either hcode (TB.code.keeps fun b u e => I1.bk b u e) tab1 trip fun code h3 tk more ext big tab3 trip3 => ?_⟩
  have I2 := GxR.inv_tab (more := more) (h' := h3) (g' := s2.gens) (d' := s2.drawn) (t' := tk) I1 hP ext tab3 I1.bare
  have grown : GxR.Tabbed P H1 (upd H1 P (.tbl (ps ++ more))) := ⟨⟨_, upd_same, trip3⟩, fun b ne => upd_ne ne⟩
  obtain ⟨n, pb, W, w0, step, stop, fin⟩ := want _ grown
  have nP : ∀ b ∈ fp, b ≠ P := fun b hb z => by
    have q := (ffp b hb).1
    rw [z, hP] at q
    cases q
  have fH2 : ∀ b ∈ fp, FpOk X pins (upd H1 P (.tbl (ps ++ more))) b := fun b hb => ⟨by rw [upd_ne (nP b hb)]; exact (ffp b hb).1, (ffp b hb).2⟩
  generalize hH2 : upd H1 P (.tbl (ps ++ more)) = H2 at I2 w0 fH2
  generalize hs3 : ({ s2 with heap := h3, gens := s2.gens, drawn := s2.drawn, toks := tk } : Shared) = s3 at I2
  have eh3 : s3.heap = h3 := by rw [← hs3]
  have st3 : tn 0 s3.heap := T.keep _ _ _ st fun b hb o e => by rw [eh3]; exact ext b o (nP b hb) e
  obtain ⟨bm, ob, b1, b2, b3, b4, b5, b6, b7, b8⟩ := TB.bm
  refine wpAny_builtinsFor (m := X.mg) (by rw [I2.ok.glob]; exact I2.mod.glob.keeps I2.bk) b1 b2 (I2.bk _ _ b5) b6 b7 b8 ?_
  intro h4 ns same
  have sz4 : h4.objs.size = s3.heap.objs.size + 1 := by rw [same.1, Heap.size_push]
  have up4 : ∀ b o, s3.heap.get? b = some o → h4.get? b = some o := fun b o e => same.extBut b o (Nat.ne_of_lt (Heap.lt_size e)) (Heap.get?_push_of_some _ e)
  generalize hgo : ({ cls := .type "generator", data := .fields #[.int s3.gens.size 0, .str "<genexpr>" (s3.toks + 1), .str (X.env.qual ++ "<genexpr>") (s3.toks + 1 + 1)] } : Obj) = go
  have isGen : ∀ h : Heap, h.get? h4.objs.size = some go → h.IsGen h4.objs.size s3.gens.size := fun h e => by
    subst hgo
    exact ⟨_, _, _, e, rfl, rfl, rfl⟩
  have new4 : (h4.push go).get? h4.objs.size = some go := by
    subst hgo
    exact Heap.get?_push_size _ rfl
  have offStack : ∀ b, s3.heap.objs.size ≤ b → b ∉ frs X.stack := fun b hb z => by
    rcases List.mem_cons.mp (I2.stkSub b z) with q | q
    · rw [q] at hb
      exact absurd (Nat.lt_of_lt_of_le I2.lt hb) (Nat.lt_irrefl _)
    · exact I2.nofs hb q
  have up5 : ∀ b o, s3.heap.get? b = some o → (h4.push go).get? b = some o := fun b o e => Heap.get?_push_of_some _ (up4 b o e)
  let B : Around := X.A.in1.in1.over (turnCode elt iter tg gpos scope it (blkEnv X scope s3.heap.objs.size code)) []
  have hhB : B.handled = none := hr.hd
  have frB : B.frames = some (blkEnv X scope s3.heap.objs.size code :: X.stack) := by
    have q : X.A.frames = some X.stack := I2.ok.frames
    show pushEnvs [blkEnv X scope s3.heap.objs.size code] X.A.frames = _
    rw [q]
    rfl
  have roomB : Room k B := ⟨hhB, by have := hr.dp; show X.A.depth + 0 + 1 + 3 * k + 5 < _; omega, by have := hr.un; show X.A.units + 1 + 1 + 0 + 3 + 16 * k + 200 < _; omega⟩
  have lt3 : ∀ b ∈ fp, b < s3.heap.objs.size := fun b hb => by
    obtain ⟨o, e, _⟩ := T.obj _ _ st3 b hb
    exact Heap.lt_size e
  have start := blk_start (B := B) (code := code) (h5 := h4.push go) (g5 := s3.gens.push (.fresh (startCode elt iter tg gpos scope it (blkEnv X scope s3.heap.objs.size code)))) (t5 := s3.toks + 1 + 1 + 1) (own := own) (fp := fp) I2 hN ok S.cell (fun b hb => ⟨fH2 b hb, lt3 b hb⟩) up5 (ns.push go) (I2.bare.push rfl) hhB frB
  generalize own.map (·.2) = vs at start step
  generalize hY : gblk X B s3 H2 scope s3.heap.objs.size code fp = Y at start
  have a_ne : h4.objs.size ≠ s3.heap.objs.size := by omega
  have pinned : ∀ {τ : L2.St} {H' : Hp} {s' : Shared}, Inv Y [] τ H' s' → s'.heap.get? h4.objs.size = some go → H' h4.objs.size = none → Inv Y [(h4.objs.size, go)] τ H' s' := fun {τ H' s'} K e e2 => K.pins_of fun q hq => by
    obtain rfl := List.mem_singleton.mp hq
    refine ⟨e, e2, by rw [← hY]; exact a_ne, by rw [← hY]; exact offStack _ (by rw [sz4]; exact Nat.le_succ _), fun v z => ?_⟩
    rw [← hgo] at z
    cases z
  have Ypn : Y.pn = [] := by rw [← hY]
  have Yfp : ∀ {H' : Hp}, (∀ b ∈ fp, H' b = none) → ∀ b ∈ fp, FpOk Y [(h4.objs.size, go)] H' b := fun {H'} hn b hb => by
    have okY := start.ok
    have hex : b ∈ Y.ex := by rw [← hY]; exact hb
    refine ⟨hn b hb, (okY.exf b hex).1, okY.exfs b hex, .inl hex, fun y c e => (okY.exf b hex).2 y c e, fun q hq => ?_⟩
    rw [Ypn, List.nil_append] at hq
    obtain rfl := List.mem_singleton.mp hq
    intro z
    have l := lt3 b hb
    have e : b = s3.heap.objs.size + 1 := (show h4.objs.size = b from z).symm.trans sz4
    rw [e] at l
    exact absurd l (Nat.not_lt.mpr (Nat.le_succ _))
  have st5 : tn 0 (h4.push go) := T.keep _ _ _ st3 fun b _ o e => up5 b o e
  have start2 := pinned start new4 (by
    have q := start.hok.fresh (a := h4.objs.size)
    exact I2.hok.fresh (by rw [sz4]; exact Nat.le_succ _))
  -- the i-th turn is about to begin
  let Js : Nat → Shared → Prop := fun i s' => ∃ H', Inv Y [(h4.objs.size, go)] (wipe σ vs) H' s' ∧ tn i s'.heap ∧ (∀ b ∈ fp, H' b = none) ∧ W i H'
  let Fs : Shared → Prop := fun s' => ∃ i H', Inv Y [(h4.objs.size, go)] (wipe σ vs) H' s' ∧ W i H'
  have held : Held h4.objs.size s3.gens.size Js Fs := {
    gen := fun i s' ⟨H', K, _⟩ => isGen _ (K.pin (h4.objs.size, go) (List.mem_append_right _ (List.mem_singleton.mpr rfl))).1
    lim := fun i s' ⟨H', K, _⟩ => K.nolimit
    any := fun i s' g' t' ⟨H', K, a1, a2, a3⟩ hb => ⟨H', inv_regen K g' t' hb, a1, a2, a3⟩
    bare := fun i s' ⟨H', K, _⟩ => K.bare
    more := fun s' h' ⟨i, H', K, a3⟩ up => ⟨i, H', K.kept (t' := s'.toks) up, a3⟩
    anyF := fun s' g' ⟨i, H', K, a3⟩ hb => ⟨i, H', inv_regen K g' s'.toks hb, a3⟩
    bareF := fun s' ⟨_, H', K, _⟩ => K.bare
    fin := fun i s' ⟨H', K, _, _, a3⟩ => ⟨i, H', K, a3⟩ }
  have progs : Y.prog = X.prog ∧ Y.w = X.w ∧ Y.K = X.K ∧ Y.calm = true ∧ Y.A = B ∧ Y.N = X.N ∧ Y.xe = fun _ _ => False := by
    rw [← hY]
    exact ⟨rfl, rfl, rfl, rfl, rfl, rfl, rfl⟩
  obtain ⟨y1, y2, y3, y4, y5, y6, y7⟩ := progs
  have pe := hel B s3 H2 s3.heap.objs.size code fp roomB
  rw [hY] at pe
  have pg : PG Y tg g := by
    rw [← hY]
    exact hpg _ _ _ _ _ _
  have envY : Y.env = blkEnv X scope s3.heap.objs.size code := by rw [← hY]
  have core : Core X.prog X.w X.A.in1.in1 elt iter tg gpos scope it (blkEnv X scope s3.heap.objs.size code) n Js Fs pb := {
    co := S.co
    any := held.any
    bare := held.bare
    self := fun B' s' Q' E' ⟨H', K, a1, _⟩ q => T.self B' 0 s' Q' E' a1 q
    done := fun s' ⟨H', K, a1, a2, a3⟩ => by
      have td := T.done Y y1 y2 y3 y4 n [(h4.objs.size, go)] s' _ H' (fun _ _ => False) K (Yfp a2) a1 (stop H' a3)
      rw [y5] at td
      exact thn td fun r s'' ⟨hr, K2⟩ => ⟨hr, n, H', K2, a3⟩
    turn := fun i s' lt ⟨H', K, a1, a2, a3⟩ => by
      obtain ⟨go_, item⟩ := step i H' lt a3
      have ti := T.item Y y1 y2 y3 y4 i [(h4.objs.size, go)] s' _ H' (fun _ _ => False) K (Yfp a2) a1 go_
      rw [y5] at ti
      refine thn ti fun r s6 ⟨u, hr, h6⟩ => ⟨u, hr, ?_⟩
      refine thn h6 fun _ s7 ⟨xv, H7, K7, r7, q7, st7, n7⟩ => ?_
      have K7' := K7.pinned (Yfp n7) (T.obj _ _ st7)
      have pa := pg.run _ s7 _ H7 xv u _ K7' r7 (item xv H7 q7)
      rw [y1, y2, y5, y7, envY] at pa
      refine thn pa fun _ s8 ⟨σ8, H8, K8, e8, e9⟩ => ?_
      have pv_ := pe.run _ s8 _ H8 _ K8 e9
      rw [y1, y2, y5, y7, envY] at pv_
      refine thn pv_ fun y s9 ⟨v, H9, K9, rv, ev, w9⟩ => ?_
      subst ev
      have pin' : ∀ b ∈ fp, ∀ o, s7.heap.get? b = some o → s9.heap.get? b = some o ∧ H9 b = none := fun b hb o e =>
        let z := K9.pin (b, o) (List.mem_append_right _ (List.mem_append_right _ (mem_pinsAt hb e)))
        ⟨z.1, z.2.1⟩
      refine ⟨rv, H9, (K9.unpinned (pins := [(h4.objs.size, go)])).weak ?_ fun j v e => ?_, T.keep _ _ _ st7 fun b hb o e => (pin' b hb o e).1, fun b hb => ?_, w9⟩
      · rw [← wipe_length σ8 vs, e8]
      · rw [← e8] at e
        exact (wipe_some e).1
      · obtain ⟨o, e, _⟩ := T.obj _ _ st7 b hb
        exact (pin' b hb o e).2 }
  -- the call of all
  refine Calls.spliced_nil ?_
  refine call_function_tree F.kind_all F.plain_all F.entry_all (F.args_all1 _) ?_
  unfold Builtin.«all»
  refine wpAny_bind (m := oneArg "all" _) (wpAny_pure ?_)
  refine wpAny_bind (wpAny_pyIter_gen (isGen _ new4) ?_)
  have hs' : Asleep X.prog X.w X.A.in1.in1 h4.objs.size s3.gens.size n Js Fs pb 0 { s3 with heap := h4.push go, gens := s3.gens.push (.fresh (startCode elt iter tg gpos scope it (blkEnv X scope s3.heap.objs.size code))), toks := s3.toks + 1 + 1 + 1 } :=
    ⟨⟨H2, start2, st5, fun b hb => (fH2 b hb).1, w0⟩, _, Array.getElem?_push_size .., fun s'' h'' => ⟨rfl, seg_begins core s'' s'' h''⟩⟩
  refine wpAny_pure ⟨plainId_quiet F.plain_all_loop _, all_turns held hr.hd (by have := hr.dp; omega) n 0 _ rfl (Nat.zero_le _) hs' fun s' hF => ?_⟩
  obtain ⟨i, H', K, wi'⟩ := hF
  have back : Inv X pins σ H' s' := by
    have b0 : Un (frs X.stack) fp H2 H' s3.heap s'.heap := by
      have q := K.base
      rw [← hY] at q
      exact q
    have o0 : s'.os = s3.os := by
      have q := K.os
      rw [← hY] at q
      exact q
    have k0 : HOk X.prog X.w H' s'.heap := by
      have q := K.hok
      rw [← hY] at q
      exact q
    exact I2.call' (ch := fp) o0 b0 k0 K.bare fun b hb => ⟨(fH2 b hb).2.2.2.1, (fH2 b hb).2.1, (fH2 b hb).2.2.2.2.1, (fH2 b hb).2.2.2.2.2⟩
  exact ⟨.bl _, H', back, rfl, fin i H' wi'⟩
end
end Gt

set_option Elab.async false
set_option linter.all false
set_option maxRecDepth 100000
set_option maxHeartbeats 4000000
/-! Comprehensions of any kind: what is kept is handed to a step of its own (an item put into a set, a pair into a dict, an inner loop). -/
namespace Lc
open PySem PySem.Spec PyProof.Rows L2
/-- one turn of clause d of e; emit: what is done with a kept item -/
def turnOf (e : Expr) (d : Nat) (tg : Expr) (ip : Pos) (ifs : List Expr) (emit : Sem PySem.Fin → Sem PySem.Fin) (it acc : Value) (env : Env) : Sem PySem.Fin := do
  standAt ip
  match ← pyNext it with
  | none => pure (.done .next)
  | some v =>
    letOwnedTupleGo tg it v
    assign tg env v
    let mut ok := true
    for c in ifs do
      if ok then ok ← isTrue c env (eval c env)
    if ok then emit (again (.compLoop e d it acc env)) else again (.compLoop e d it acc env)
/-- a set's or a dict's comprehension -/
def OfSet (e : Expr) : Prop := (∃ elt gens sc p, e = .SetComp elt gens sc p) ∨ ∃ k v gens sc p, e = .DictComp k v gens sc p
section
variable {prog : Program} {w : World} {A : Around} {R : Result → Shared → Prop} {s : Shared} {e tg : Expr} {d : Nat} {ip : Pos} {ifs : List Expr} {emit : Sem PySem.Fin → Sem PySem.Fin} {it acc : Value} {env : Env}
/-- where nothing is raised -/
abbrev quietly {α : Type} (prog : Program) (w : World) (A : Around) (m : Sem α) (Q : α → Shared → Prop) (s : Shared) : Prop := wpAny (model prog w) A m Q (fun _ _ => False) s
theorem quiet_any {α : Type} {m : Sem α} {Q : α → Shared → Prop} {E : Value → Shared → Prop} (h : quietly prog w A m Q s) : wpAny (model prog w) A m Q E s := wpAny_mono h (fun _ _ q => q) fun _ _ z => z.elim
/-- the tests, one behind the other -/
abbrev allTests (env : Env) (ifs : List Expr) : Sem Bool := forIn ifs true fun c r => if r = true then do let ok ← isTrue c env (eval c env); pure (ForInStep.yield ok) else pure (ForInStep.yield r)
theorem loop_by (kind : OfSet e) (same : compTurn e d it acc env = turnOf e d tg ip ifs emit it acc env) (I : Nat → Shared → Prop)
    (turn : ∀ n s, I n s → quietly prog w A (pyNext it) (fun r s1 => (r = none ∧ R (.ok .next) s1) ∨ ∃ v, r = some v ∧
      quietly prog w A (letOwnedTupleGo tg it v) (fun _ s2 => quietly prog w A (assign tg env v) (fun _ s3 => quietly prog w A (allTests env ifs) (fun b s4 =>
        (b = false ∧ ∃ m, m < n ∧ I m s4) ∨ (b = true ∧ ∀ (k : Sem PySem.Fin) (R' : PySem.Fin → Shared → Prop), (∀ s5, (∃ m, m < n ∧ I m s5) → quietly prog w A k R' s5) → quietly prog w A (emit k) R' s4)) s3) s2) s1) s)
    (n : Nat) (h : I n s) : codeAny (model prog w) A (.compLoop e d it acc env) R s := by
  refine codeAny_loop (by rcases kind with ⟨_, _, _, _, rfl⟩ | ⟨_, _, _, _, _, rfl⟩ <;> rfl) I (fun k s0 hk => ?_) n h
  have den : (model prog w).den (.compLoop e d it acc env) = (compTurn e d it acc env).onRaise (fun x => do noteFrame x env; theTreesLotGoes x) := by
    rcases kind with ⟨_, _, _, _, rfl⟩ | ⟨_, _, _, _, _, rfl⟩ <;> rfl
  have un : A.under (.compLoop e d it acc env) = A := by
    rcases kind with ⟨_, _, _, _, rfl⟩ | ⟨_, _, _, _, _, rfl⟩ <;> rfl
  rw [den, un, same]
  refine wpAny_noted ?_
  unfold turnOf
  refine wpAny_bind (wpAny_standAt (wpAny_bind (thnF (turn k s0 hk) fun r s1 h1 => ?_)))
  rcases h1 with ⟨rfl, h1⟩ | ⟨v, rfl, h1⟩
  · exact wpAny_pure h1
  · refine wpAny_bind (thnF h1 fun _ s2 h2 => wpAny_bind (thnF h2 fun _ s3 h3 => wpAny_bind (thnF h3 fun b s4 h4 => ?_)))
    rcases h4 with ⟨rfl, h4⟩ | ⟨rfl, h4⟩
    · exact wpAny_pure ⟨rfl, h4⟩
    · exact thnF (h4 _ _ fun s5 h5 => wpAny_pure ⟨rfl, h5⟩) fun _ _ z => z
/-- the start of clause d -/
theorem start_by (kind : OfSet e) (sync : ((clausesOf e)[d]?).elim false (fun g => g.is_async != 0) = false) (hl : codeAny (model prog w) A (.compLoop e d it acc env) R s) (hi : quietly prog w A (pyIter it) (fun it' s' => codeAny (model prog w) A (.compLoop e d it' acc env) R s') s) :
    codeAny (model prog w) A (.compStart e d it acc env) R s := by
  have den : (model prog w).den (.compStart e d it acc env) = (compStart e d it acc env).onRaise (fun x => do noteFrame x env; standAt theWindowsPlace) := by
    rcases kind with ⟨_, _, _, _, rfl⟩ | ⟨_, _, _, _, _, rfl⟩ <;> rfl
  have un : A.under (.compStart e d it acc env) = A := by
    rcases kind with ⟨_, _, _, _, rfl⟩ | ⟨_, _, _, _, _, rfl⟩ <;> rfl
  have calm : ∀ x, (Code.compLoop e d x acc env).quiet = true := fun x => by
    rcases kind with ⟨_, _, _, _, rfl⟩ | ⟨_, _, _, _, _, rfl⟩ <;> rfl
  refine codeAny_of_tree ?_
  rw [den, un]
  refine wpAny_notedAt ?_
  unfold compStart
  rw [sync]
  simp only [Bool.false_eq_true, if_false]
  refine wpAny_bind (wpAny_askSetting (wpAny_ite ?_))
  split
  · first
      | exact wpAny_bind (wpAny_pure (wpAny_pure ⟨calm _, hl⟩))
      | exact wpAny_pure ⟨calm _, hl⟩
  · refine wpAny_bind (wpAny_rule ?_)
    cases (clausesOf e)[d]? with
    | none => exact wpAny_bind (thnF hi fun it' s' h' => wpAny_pure ⟨calm _, h'⟩)
    | some g => exact wpAny_bind (wpAny_standAt (wpAny_bind (thnF hi fun it' s' h' => wpAny_pure ⟨calm _, h'⟩)))
end
section
variable {Y : Cx}
/-- emit, from slots σ: it leaves what is known but for the slots vs; t tells what it asks of the heap -/
def EM (Y : Cx) (emit : Sem PySem.Fin → Sem PySem.Fin) (vs : List Nat) (t : L2.St → Hp → (Hp → Prop) → Prop) : Prop := ∀ (pins : List (Addr × Obj)) (s : Shared) (σ : L2.St) (H : Hp) (Q : Hp → Prop) (k : Sem PySem.Fin) (R : PySem.Fin → Shared → Prop), Inv Y pins σ H s → t σ H Q →
  (∀ s' H', Inv Y pins (wipe σ vs) H' s' → Q H' → quietly Y.prog Y.w Y.A k R s') → quietly Y.prog Y.w Y.A (emit k) R s
/-- a walk of J, by W over turn, measure and heap; behind it done -/
def Wk (g : TG) (tt : TT) (t : L2.St → Hp → (Hp → Prop) → Prop) (vs : List Nat) (J : It) (σ : L2.St) (done : Hp → Prop) (W : Nat → Nat → Hp → Prop) : Prop := ∀ i m H, W i m H →
  (J.stop i H ∧ done H) ∨ (J.go i H ∧ ∃ Nx : Hp → Prop, (∀ H', Nx H' → ∃ m', m' < m ∧ W (i + 1) m' H') ∧
    ∀ x H', J.yld i H x H' → g x (wipe σ vs) H' fun σ2 H2 => wipe σ2 vs = wipe σ vs ∧ tt σ2 H2 fun b H3 => if b = true then t σ2 H3 Nx else Nx H3)
theorem walk_run {e tg : Expr} {d : Nat} {ip : Pos} {ifs : List Expr} {emit : Sem PySem.Fin → Sem PySem.Fin} {acc : Value} {it : Addr} {fp : List Addr} {J : It} {tn : Nat → Heap → Prop} {g : TG} {tt : TT} {t : L2.St → Hp → (Hp → Prop) → Prop} {vs vs1 : List Nat} {pins : List (Addr × Obj)} {σ : L2.St} {H : Hp} {s : Shared} {done : Hp → Prop} {W : Nat → Nat → Hp → Prop} {m0 : Nat}
    (kind : OfSet e) (same : compTurn e d (.ref it) acc Y.env = turnOf e d tg ip ifs emit (.ref it) acc Y.env) (calm : Y.calm = true) (quiet : Y.xe = fun _ _ => False) (T : Turn Y.prog Y.w Y.K tg J fp it tn)
    (pg : PG Y tg g) (pt : PTs Y ifs tt) (em : EM Y emit vs1 t) (sub : ∀ i ∈ vs1, i ∈ vs) (I : Inv Y pins (wipe σ vs) H s) (st : tn 0 s.heap) (free : ∀ b ∈ fp, FpOk Y pins H b) (w0 : W 0 m0 H) (wk : Wk g tt t vs J σ done W) :
    codeAny (model Y.prog Y.w) Y.A (.compLoop e d (.ref it) acc Y.env) (fun r s' => r = .ok .next ∧ ∃ H', Inv Y pins (wipe σ vs) H' s' ∧ done H') s := by
  have later : ∀ {H' : Hp}, (∀ b ∈ fp, H' b = none) → ∀ b ∈ fp, FpOk Y pins H' b := fun no b hb => ⟨no b hb, (free b hb).2⟩
  refine loop_by kind same (fun n s' => ∃ i H', Inv Y pins (wipe σ vs) H' s' ∧ tn i s'.heap ∧ (∀ b ∈ fp, H' b = none) ∧ W i n H') ?_ m0 ⟨0, H, I, st, fun b hb => (free b hb).1, w0⟩
  rintro n s1 ⟨i, H1, I1, st1, no1, w1⟩
  rcases wk i n H1 w1 with ⟨stop, last⟩ | ⟨go, Nx, hNx, item⟩
  · exact thnF (T.done Y rfl rfl rfl calm i pins s1 _ H1 (fun _ _ => False) I1 (later no1) st1 stop) fun r s2 ⟨hr, I2⟩ => .inl ⟨hr, rfl, H1, I2, last⟩
  · refine thnF (T.item Y rfl rfl rfl calm i pins s1 _ H1 (fun _ _ => False) I1 (later no1) st1 go) fun r s2 ⟨u, hr, h2⟩ => .inr ⟨u, hr, ?_⟩
    refine thnF h2 fun _ s3 ⟨x, H3, I3, rx, yx, st3, no3⟩ => ?_
    have K3 := I3.pinned (later no3) (T.obj _ _ st3)
    have go1 := pg.run _ s3 _ H3 x u _ K3 rx (item x H3 yx)
    rw [quiet] at go1
    refine thnF go1 fun _ s4 ⟨σ4, H4, I4, e4, q4⟩ => ?_
    have go2 := pt.run _ s4 σ4 H4 _ I4 q4
    rw [quiet] at go2
    refine thnF go2 fun b s5 ⟨H5, I5, q5⟩ => ?_
    -- back at the loop's head
    have back : ∀ {τ : L2.St} {s' : Shared} {H' : Hp}, Inv Y (pins ++ pinsAt fp s3.heap) τ H' s' → τ.length = σ4.length → (∀ (j : Nat) v, (wipe σ vs)[j]? = some (some v) → τ[j]? = some (some v)) → Nx H' →
        ∃ m, m < n ∧ ∃ i H', Inv Y pins (wipe σ vs) H' s' ∧ tn i s'.heap ∧ (∀ b ∈ fp, H' b = none) ∧ W i m H' := fun {τ s' H'} K hl hk nx => by
      obtain ⟨m', lt, w'⟩ := hNx H' nx
      have held : ∀ b ∈ fp, ∀ o, s3.heap.get? b = some o → s'.heap.get? b = some o ∧ H' b = none := fun b hb o eo => by
        have z := K.pin (b, o) (List.mem_append_right _ (List.mem_append_right _ (mem_pinsAt hb eo)))
        exact ⟨z.1, z.2.1⟩
      refine ⟨m', lt, i + 1, H', K.unpinned.weak ?_ hk, T.keep _ _ _ st3 fun b hb o eo => (held b hb o eo).1, fun b hb => ?_, w'⟩
      · rw [hl, ← wipe_length σ4 vs, e4]
      · obtain ⟨o, eo, _⟩ := T.obj _ _ st3 b hb
        exact (held b hb o eo).2
    have know : ∀ (j : Nat) v, (wipe σ vs)[j]? = some (some v) → σ4[j]? = some (some v) ∧ j ∉ vs := fun j v ej => by
      rw [← e4] at ej
      exact wipe_some ej
    cases b with
    | false =>
      rw [if_neg Bool.false_ne_true] at q5
      exact .inl ⟨rfl, back I5 rfl (fun j v ej => (know j v ej).1) q5⟩
    | true =>
      rw [if_pos rfl] at q5
      refine .inr ⟨rfl, fun k R' hk => em _ s5 σ4 H5 _ k R' I5 q5 fun s6 H6 I6 nx => hk s6 (back I6 (wipe_length _ _) (fun j v ej => ?_) nx)⟩
      obtain ⟨e1, e2⟩ := know j v ej
      rw [wipe_out fun z => e2 (sub j z)]
      exact e1
end
section
variable {Y : Cx}
/-- the second clause, as the step of the first -/
def inner (e i1 : Expr) (acc : Value) (env : Env) (k : Sem PySem.Fin) : Sem PySem.Fin := do
  let x ← eval i1 env
  standAt i1.pos
  let x ← foldedSetIterable i1 env x
  let _ ← runOwn (.compStart e 1 (← holding [x] (pyIter x)) acc env) env
  k
theorem em_inner {e tg1 i1 : Expr} {ip : Pos} {ifs1 : List Expr} {emit1 : Sem PySem.Fin → Sem PySem.Fin} {acc : Value} {wi1 : TI} {g1 : TG} {tt1 : TT} {t1 : L2.St → Hp → (Hp → Prop) → Prop} {vs1 : List Nat}
    (kind : OfSet e) (sync : ((clausesOf e)[1]?).elim false (fun g => g.is_async != 0) = false) (same : ∀ it, compTurn e 1 it acc Y.env = turnOf e 1 tg1 ip ifs1 emit1 it acc Y.env) (calm : Y.calm = true) (quiet : Y.xe = fun _ _ => False)
    (pi1 : PI Y tg1 i1 wi1) (fold : ∀ x, foldedSetIterable i1 Y.env x = pure x) (pg1 : PG Y tg1 g1) (pt1 : PTs Y ifs1 tt1) (em1 : EM Y emit1 [] t1) :
    EM Y (inner e i1 acc Y.env) vs1 (fun σ H Nx => wi1 σ H fun J H1 => ∃ W : Nat → Nat → Hp → Prop, (∃ m, W 0 m H1) ∧ Wk g1 tt1 t1 vs1 J σ Nx W) := by
  intro pins s σ H Q k R I h hk
  have src := pi1.run pins s σ H _ I h
  rw [quiet] at src
  unfold inner
  refine wpAny_bind (thnF src fun x s1 h1 => ?_)
  refine wpAny_bind (wpAny_standAt (wpAny_bind (wpAny_of_eq (fold x) (wpAny_bind (wpAny_holding (thnF h1 fun itv s2 h2 => ?_))))))
  obtain ⟨it, fp, tn, J, H2, rfl, I2, T, st2, free2, W, ⟨m0, w0⟩, wk⟩ := h2
  have loop := walk_run (vs1 := []) kind (same (.ref it)) calm quiet T pg1 pt1 em1 (fun _ m => nomatch m) (I2.weak (wipe_length σ vs1) fun j v ej => (wipe_some ej).1) st2 free2 w0 wk
  have all := start_by kind sync loop (T.self Y.A 0 s2 _ (fun _ _ => False) st2 loop)
  refine wpAny_bind (wpAny_runOwn ?_)
  rw [Around.mark_none]
  refine codeAny_mono all fun r s3 h3 => ?_
  obtain ⟨rfl, H3, I3, q3⟩ := h3
  exact hk s3 H3 I3 q3
end
section
variable {X : Cx}
/-- how the new thing is made: O tells what stands at its address -/
def Mk (X : Cx) (mk : Sem Value) (O : Addr → HO) : Prop := ∀ (pins : List (Addr × Obj)) (s : Shared) (σ : L2.St) (H : Hp) (Q : Value → Shared → Prop) (E : Value → Shared → Prop), Inv X pins σ H s →
  (∀ (o : Obj), Inv X pins σ (upd H s.heap.objs.size (O s.heap.objs.size)) { s with heap := s.heap.push o } → Q (.ref s.heap.objs.size) { s with heap := s.heap.push o }) → wpAny (model X.prog X.w) X.A mk Q E s
/-- the whole: D the new thing -/
def tCmp (O : Addr → HO) (wi : TI) (g : TG) (tt : TT) (t : Addr → L2.St → Hp → (Hp → Prop) → Prop) (vs : List Nat) : TE := fun σ H Q => wi σ H fun J H1 => ∀ D, H1 D = none → ∃ W : Nat → Nat → Hp → Prop, (∃ m, W 0 m (upd H1 D (O D))) ∧ Wk g tt (t D) vs J σ (fun H' => Q (.ref D) H') W
/-- for the block of a comprehension, wherever it begins -/
abbrev InBlk (X : Cx) (scope : Scope) (p : Cx → Prop) : Prop := ∀ (s : Shared) (H : Hp) (C : Addr) (cl : List (Str × Addr)) (fp : List Addr), p (X.blk s H scope (compEnvC scope cl C X.env) fp)
theorem comp_run {e tg iter : Expr} {ip : Pos} {ifs : List Expr} {rest : List Comprehension} {scope : Scope} {own : List (Str × Nat)} {pos : Pos} {mk : Sem Value} {O : Addr → HO} {emit : Value → Env → Sem PySem.Fin → Sem PySem.Fin} {wi : TI} {g : TG} {tt : TT} {t : Addr → L2.St → Hp → (Hp → Prop) → Prop} {vs1 : List Nat}
    (kind : OfSet e) (cl : clausesOf e = ⟨tg, iter, ifs, 0⟩ :: rest) (same : ∀ it acc env, compTurn e 0 it acc env = turnOf e 0 tg ip ifs (emit acc env) it acc env) (made : Mk X mk O)
    (calm : X.calm = true) (nd : X.N.Nodup) (src : PI X tg iter wi) (ok : BlkOk X.N X.env.scope scope own) (sub : ∀ i ∈ vs1, i ∈ own.map (·.2))
    (pg : InBlk X scope fun Y => PG Y tg g) (pt : InBlk X scope fun Y => PTs Y ifs tt) (em : InBlk X scope fun Y => ∀ D, EM Y (emit (.ref D) Y.env) vs1 (t D)) (fold : ∀ x, foldedSetIterable iter X.env x = pure x)
    {pins : List (Addr × Obj)} {s : Shared} {σ : L2.St} {H : Hp} {Q : VK} (I : Inv X pins σ H s) (h : tCmp O wi g tt t (own.map (·.2)) σ H Q) :
    wpAny (model X.prog X.w) X.A (comprehension e scope X.env pos mk false (eval iter X.env)) (fun v s' => ∃ x H', Inv X pins σ H' s' ∧ RelV x v ∧ Q x H') X.xe s := by
  have caught : ∀ y ∈ scope.names, y.2 = .free → ∃ c, X.env.cells.lookup y.1 = some c := fun y hy ey => I.ok.has _ (ok.free y hy ey)
  refine wpAny_comprehension_free (use := none) cl fold (closure_ok caught) ok.kind (fun y hy ey => by rw [ok.uniq y hy, ey]) (thn (src.run pins s σ H _ I h) fun xv s1 h1 => thn h1 fun itv s2 h2 => ?_)
  obtain ⟨it, fp, tn, J, H2, rfl, I2, T, st2, free2, q⟩ := h2
  refine made pins s2 σ H2 _ _ I2 fun o I3 => newEnv_comp ?_
  generalize hD : s2.heap.objs.size = D at I3
  have noD : H2 D = none := I2.hok.fresh (Nat.le_of_eq hD)
  obtain ⟨W, ⟨m0, w0⟩, wk⟩ := q D noD
  generalize hs3 : ({ s2 with heap := s2.heap.push o } : Shared) = s3 at I3
  have heap3 : s3.heap = s2.heap.push o := by rw [← hs3]
  have stood : ∀ b u, s2.heap.get? b = some u → s3.heap.get? b = some u := fun b u eb => by rw [heap3]; exact Heap.get?_push_of_some _ eb
  generalize hH3 : upd H2 D (O D) = H3 at I3 w0
  have free3 : ∀ b ∈ fp, FpOk X pins H3 b ∧ b < s3.heap.objs.size := fun b hb => by
    obtain ⟨u, eb, _⟩ := T.obj _ _ st2 b hb
    have lt := Heap.lt_size eb
    have ne : b ≠ D := by rw [← hD]; exact Nat.ne_of_lt lt
    refine ⟨⟨?_, (free2 b hb).2⟩, by rw [heap3, Heap.size_push]; exact Nat.lt_succ_of_lt lt⟩
    rw [← hH3, upd_ne ne]
    exact (free2 b hb).1
  have I4 := block_start I3 ok nd free3
  show codeAny _ _ (.compStart e 0 (.ref it) (.ref D) (compEnvC scope (cellsFrom (s3.heap.objs.size + 1) scope.names (cloFrom X.env.cells scope.names [])) s3.heap.objs.size X.env)) (compPost (model X.prog X.w) X.A X.xe none _ (.ref D) s3.heap.objs.size) _
  have g0 := pg s3 H3 s3.heap.objs.size (cellsFrom (s3.heap.objs.size + 1) scope.names (cloFrom X.env.cells scope.names [])) fp
  have p0 := pt s3 H3 s3.heap.objs.size (cellsFrom (s3.heap.objs.size + 1) scope.names (cloFrom X.env.cells scope.names [])) fp
  have e0 := em s3 H3 s3.heap.objs.size (cellsFrom (s3.heap.objs.size + 1) scope.names (cloFrom X.env.cells scope.names [])) fp D
  generalize hce : compEnvC scope (cellsFrom (s3.heap.objs.size + 1) scope.names (cloFrom X.env.cells scope.names [])) s3.heap.objs.size X.env = ce at I4 g0 p0 e0 ⊢
  have at_ : ce.locals = s3.heap.objs.size := by subst hce; rfl
  generalize hs4 : ({ s3 with heap := pushCells (s3.heap.push { cls := .type "dict", data := .dict #[] }) scope.names } : Shared) = s4 at I4 ⊢
  have st4 : tn 0 s4.heap := T.keep _ _ _ st2 fun b _ u eb => by rw [← hs4]; exact pushCells_keeps _ _ _ _ (Heap.get?_push_of_some _ (stood b u eb))
  have free4 : ∀ b ∈ fp, FpOk (X.blk s3 H3 scope ce fp) [] H3 b := fun b hb => ⟨(free3 b hb).1.1, (I4.ok.exf b hb).1, I4.ok.exfs b hb, .inl hb, fun x c ec => (I4.ok.exf b hb).2 x c ec, fun p hp => absurd (show p ∈ ([] : List (Addr × Obj)) ++ [] from hp) (by simp)⟩
  have T4 : Turn (X.blk s3 H3 scope ce fp).prog (X.blk s3 H3 scope ce fp).w (X.blk s3 H3 scope ce fp).K tg J fp it tn := T
  have loop := walk_run (Y := X.blk s3 H3 scope ce fp) kind (same (.ref it) (.ref D) ce) calm rfl T4 g0 p0 e0 sub I4 st4 free4 w0 wk
  have all := start_by (A := X.A) kind (by rw [cl]; rfl) loop (T.self X.A 0 s4 _ (fun _ _ => False) st4 loop)
  refine codeAny_mono all fun r s5 h5 => ?_
  obtain ⟨rfl, H5, I5, last⟩ := h5
  -- back in the def
  have I6 : Inv X pins σ H5 s5 := I3.call' (ch := fp) I5.os I5.base I5.hok I5.bare fun b hb => ⟨(free3 b hb).1.2.2.2.1, (free3 b hb).1.2.1, (free3 b hb).1.2.2.2.2.1, (free3 b hb).1.2.2.2.2.2⟩
  have noC : H5 s3.heap.objs.size = none := by
    have z : H5 ce.locals = none := I5.free
    rwa [at_] at z
  obtain ⟨m, hn, _⟩ := I5.loc
  have hn : s5.heap.Ns ce.locals m := hn
  rw [at_] at hn
  refine ⟨m, hn, fun h'' sb => ?_⟩
  obtain ⟨f0, f1, f2, f3, f4, f5⟩ := I3.fpOk (Nat.le_refl _) noC
  exact ⟨.ref D, H5, I6.turned (t' := s5.toks) (fun b u hb eb => (sb.2 b hb).trans eb) f0 f1 f3 f4 f5, rfl, last⟩
end
end Lc

set_option Elab.async false
set_option linter.all false
set_option maxRecDepth 100000
set_option maxHeartbeats 4000000
/-! Sets of texts by comprehensions of one and of two clauses; dicts with tuple keys by a comprehension. -/
namespace Lc
open PySem PySem.Spec PyProof.Rows L2
section
variable {X : Cx}
def SetO (X : Cx) (D : Addr) : HO := SetK X.prog X.w D (fun _ => false) 0
theorem mk_set : Mk X (newSet (.type "set")) (SetO X) := fun pins s σ H Q E I h => PpSet.newSet_ok (h _ (I.laid (t' := s.toks) (fun b u e => Heap.get?_push_of_some _ e) (Nat.le_refl _)
  (setK_new ⟨_, #[], 0, _, Heap.get?_push_size _ rfl, ⟨rfl, rfl, rfl⟩, rfl, (fun e he => by simp at he), (fun k => by simp), (by decide), (by rfl), rfl⟩)))
/-- an item is put in -/
def tPut (X : Cx) (te : TE) (D : Addr) : L2.St → Hp → (Hp → Prop) → Prop := fun σ H Nx => te σ H fun y H1 => ∃ (k : Key) (S : Key → Bool) (n : Nat), y = kV k ∧ H1 D = some (SetK X.prog X.w D S n) ∧ n + 1 < scanBound ∧ Nx (upd H1 D (SetK X.prog X.w D (fun j => S j || decide (j = k)) (if S k = true then n else n + 1)))
def putIn (elt : Expr) (acc : Value) (env : Env) (k : Sem PySem.Fin) : Sem PySem.Fin := do
  (do let v ← eval elt env; standAt elt.pos; let _ ← call (.builtin "set.add") [acc, v])
  k
theorem em_put {Y : Cx} {elt : Expr} {te : TE} {D : Addr} (quiet : Y.xe = fun _ _ => False) (he : PE Y elt te) : EM Y (putIn elt (.ref D) Y.env) [] (tPut Y te D) := by
  intro pins s σ H Q k R I h hk
  have z := he.run pins s σ H _ I h
  rw [quiet] at z
  unfold putIn
  refine wpAny_bind (wpAny_bind (thnF z fun v s1 h1 => wpAny_bind (wpAny_standAt (wpAny_bind ?_))))
  obtain ⟨y, H1, I1, ry, ky, S, n, rfl, hD, room, q⟩ := h1
  refine call_set_add (kV_is ry) (key_scan ry) (setK_get I1 hD) room fun h' sb new => wpAny_pure (hk _ _ (I1.write (e := D) (t' := s1.toks + 1) (by rw [hD]; trivial) (.inl rfl) (fun b u hb hu => (sb.2 b hb).trans hu) ?_ (setK_new new)) q)
  obtain ⟨o, _, _, _, ho, _⟩ := id new
  exact ⟨o, ho⟩
theorem pe_set1 {elt tg iter : Expr} {ifs : List Expr} {scope : Scope} {own : List (Str × Nat)} {pos : Pos} {wi : TI} {g : TG} {tt : TT} {te : TE} (calm : X.calm = true) (nd : X.N.Nodup) (src : PI X tg iter wi) (ok : BlkOk X.N X.env.scope scope own)
    (pg : InBlk X scope fun Y => PG Y tg g) (pt : InBlk X scope fun Y => PTs Y ifs tt) (pe : InBlk X scope fun Y => PE Y elt te) (fold : ∀ x, foldedSetIterable iter X.env x = pure x := by intro _; rfl) :
    PE X (.SetComp elt [⟨tg, iter, ifs, 0⟩] scope pos) (tCmp (SetO X) wi g tt (tPut X te) (own.map (·.2))) := by
  refine ⟨fun pins s σ H Q I h => ?_⟩
  show wpAny _ _ (comprehension (.SetComp elt [⟨tg, iter, ifs, 0⟩] scope pos) scope X.env (firstIterPos [⟨tg, iter, ifs, 0⟩] pos) (newSet (.type "set")) false (eval iter X.env)) _ _ s
  exact comp_run (emit := putIn elt) (vs1 := []) (.inl ⟨_, _, _, _, rfl⟩) rfl (fun it acc env => rfl) mk_set calm nd src ok (fun _ m => nomatch m) pg pt (fun s H C cl fp D => em_put rfl (pe s H C cl fp)) fold I h
/-- two clauses; vs1: the names of the second target -/
def tPut2 (X : Cx) (wi1 : TI) (g1 : TG) (tt1 : TT) (te : TE) (vs1 : List Nat) (D : Addr) : L2.St → Hp → (Hp → Prop) → Prop := fun σ H Nx => wi1 σ H fun J H1 => ∃ W : Nat → Nat → Hp → Prop, (∃ m, W 0 m H1) ∧ Wk g1 tt1 (tPut X te D) vs1 J σ Nx W
theorem pe_set2 {elt tg iter tg1 iter1 : Expr} {ifs ifs1 : List Expr} {scope : Scope} {own : List (Str × Nat)} {vs1 : List Nat} {pos : Pos} {wi wi1 : TI} {g g1 : TG} {tt tt1 : TT} {te : TE} (calm : X.calm = true) (nd : X.N.Nodup) (src : PI X tg iter wi) (ok : BlkOk X.N X.env.scope scope own) (sub : ∀ i ∈ vs1, i ∈ own.map (·.2))
    (pg : InBlk X scope fun Y => PG Y tg g) (pt : InBlk X scope fun Y => PTs Y ifs tt) (src1 : InBlk X scope fun Y => PI Y tg1 iter1 wi1) (pg1 : InBlk X scope fun Y => PG Y tg1 g1) (pt1 : InBlk X scope fun Y => PTs Y ifs1 tt1) (pe : InBlk X scope fun Y => PE Y elt te)
    (fold : ∀ x, foldedSetIterable iter X.env x = pure x := by intro _; rfl) (fold1 : ∀ env x, foldedSetIterable iter1 env x = pure x := by intro _ _; rfl) :
    PE X (.SetComp elt [⟨tg, iter, ifs, 0⟩, ⟨tg1, iter1, ifs1, 0⟩] scope pos) (tCmp (SetO X) wi g tt (tPut2 X wi1 g1 tt1 te vs1) (own.map (·.2))) := by
  refine ⟨fun pins s σ H Q I h => ?_⟩
  show wpAny _ _ (comprehension (.SetComp elt [⟨tg, iter, ifs, 0⟩, ⟨tg1, iter1, ifs1, 0⟩] scope pos) scope X.env (firstIterPos [⟨tg, iter, ifs, 0⟩, ⟨tg1, iter1, ifs1, 0⟩] pos) (newSet (.type "set")) false (eval iter X.env)) _ _ s
  exact comp_run (emit := fun acc env => inner (.SetComp elt [⟨tg, iter, ifs, 0⟩, ⟨tg1, iter1, ifs1, 0⟩] scope pos) iter1 acc env) (.inl ⟨_, _, _, _, rfl⟩) rfl (fun it acc env => rfl) mk_set calm nd src ok sub pg pt
    (fun s H C cl fp D => em_inner (emit1 := putIn elt (.ref D) (compEnvC scope cl C X.env)) (.inl ⟨_, _, _, _, rfl⟩) rfl (fun it => rfl) calm rfl (src1 s H C cl fp) (fold1 _) (pg1 s H C cl fp) (pt1 s H C cl fp) (em_put rfl (pe s H C cl fp))) fold I h
/-! ### dicts -/
def DicO (X : Cx) (D : Addr) : HO := .dT []
theorem mk_dict : Mk X newDict (DicO X) := fun pins s σ H Q E I h => wpAny_newObj_type (h _ (I.laid (t' := s.toks) (fun b u e => Heap.get?_push_of_some _ e) (Nat.le_refl _) (dt_empty s.heap I.big)))
/-- a pair is put in, its key a new tuple -/
def tPair (tk tv : TE) (D : Addr) : L2.St → Hp → (Hp → Prop) → Prop := fun σ H Nx => tk σ H fun y H1 => tv σ H1 fun z H2 => ∃ (kvs : List (List Key × V)) (k : List Key) (b : Addr), y = .ref b ∧ H2 b = some (.tup (k.map kV)) ∧ H2 D = some (.dT kvs) ∧ kvs.length < sizeLine ∧ Nx (upd H2 D (.dT (putK kvs k z)))
def pairIn (kx vx : Expr) (acc : Value) (env : Env) (k : Sem PySem.Fin) : Sem PySem.Fin := do
  (do
    let kv ← eval kx env
    let vv ← holding [kv] (eval vx env)
    match acc with
    | .ref d => do
      standAt { kx.pos with endLine := vx.pos.endLine, endCol := vx.pos.endCol }
      holding [kv, vv] (dictSet d kv vv)
    | _ => unsupported "internal:dictcomp")
  k
theorem em_pair {Y : Cx} {kx vx : Expr} {tk tv : TE} {D : Addr} (hu : Y.A.units + 1 < cLine) (quiet : Y.xe = fun _ _ => False) (hk : PE Y kx tk) (hv : PE Y vx tv) : EM Y (pairIn kx vx (.ref D) Y.env) [] (tPair tk tv D) := by
  intro pins s σ H Q kk R I h hkk
  have z := hk.run pins s σ H _ I h
  rw [quiet] at z
  unfold pairIn
  refine wpAny_bind (wpAny_bind (thnF z fun kv s1 h1 => ?_))
  obtain ⟨y, H1, I1, ry, h2⟩ := h1
  have z2 := hv.run pins s1 σ H1 _ I1 h2
  rw [quiet] at z2
  refine wpAny_bind (wpAny_holding (thnF z2 fun vv s2 h3 => ?_))
  obtain ⟨v, H2, I2, rv, kvs, k, b, rfl, hb, hD, few, q⟩ := h3
  obtain rfl : kv = Value.ref b := ry
  refine wpAny_bind (wpAny_standAt (wpAny_holding ?_))
  obtain ⟨z, nsys, xs, rel, dd⟩ := dt_of I2.hok hD
  have hz : xs.length ≤ sizeLine := by rw [← Paired.length rel]; exact z
  have hl : (putK kvs k v).length ≤ sizeLine := by have := length_putK kvs k v; omega
  refine wpAny_dictSet_heap (hsz := hz) (by show Y.A.units < cLine; omega) (key_of I2.hok hb) dd fun h' dd' hs => ?_
  obtain ⟨o, es, ep, hq, h2, h3, h4, _, h5⟩ := dd'
  refine hkk _ _ (d_write (ob := .dT (putK kvs k v)) I2 (by rw [hD]; exact True.intro) hs ⟨o, hq⟩ ⟨hl, nsys, _, (rel.put k hb rv).keeps fun c ys ec => ?_, o, es, ep, hq, h2, h3, h4, h5⟩) q
  rw [upd_ne (ne_of ec hD (fun z => nomatch z))]
  exact ec
theorem pe_dicT {kx vx tg iter : Expr} {ifs : List Expr} {scope : Scope} {own : List (Str × Nat)} {pos : Pos} {wi : TI} {g : TG} {tt : TT} {tk tv : TE} (hu : X.A.units + 1 < cLine) (calm : X.calm = true) (nd : X.N.Nodup) (src : PI X tg iter wi) (ok : BlkOk X.N X.env.scope scope own)
    (pg : InBlk X scope fun Y => PG Y tg g) (pt : InBlk X scope fun Y => PTs Y ifs tt) (pk : InBlk X scope fun Y => PE Y kx tk) (pv : InBlk X scope fun Y => PE Y vx tv) (fold : ∀ x, foldedSetIterable iter X.env x = pure x := by intro _; rfl) :
    PE X (.DictComp kx vx [⟨tg, iter, ifs, 0⟩] scope pos) (tCmp (DicO X) wi g tt (tPair tk tv) (own.map (·.2))) := by
  refine ⟨fun pins s σ H Q I h => ?_⟩
  show wpAny _ _ (comprehension (.DictComp kx vx [⟨tg, iter, ifs, 0⟩] scope pos) scope X.env (firstIterPos [⟨tg, iter, ifs, 0⟩] pos) newDict false (eval iter X.env)) _ _ s
  exact comp_run (emit := pairIn kx vx) (vs1 := []) (.inr ⟨_, _, _, _, _, rfl⟩) rfl (fun it acc env => rfl) mk_dict calm nd src ok (fun _ m => nomatch m) pg pt (fun s H C cl fp D => em_pair hu rfl (pk s H C cl fp) (pv s H C cl fp)) fold I h
end
/-! ### walks -/
section
variable {K : PySem.W.Frag} {g : TG} {tt : TT} {t : L2.St → Hp → (Hp → Prop) → Prop} {vs : List Nat} {σ : L2.St} {done : Hp → Prop}
theorem wk_by {J : It} {n : Nat} {G : Hp → Prop} {Y : Nat → Hp → V → Hp → Prop} (w : L2.Walk J n G Y) (Pv : Nat → Hp → Prop) {H0 : Hp} (h0 : Pv 0 H0) (hG : ∀ i H, i ≤ n → Pv i H → G H)
    (hs : ∀ i x H H', i < n → Pv i H → Y i H x H' → g x (wipe σ vs) H' fun σ2 H2 => wipe σ2 vs = wipe σ vs ∧ tt σ2 H2 fun b H3 => if b = true then t σ2 H3 (Pv (i + 1)) else Pv (i + 1) H3) (hd : ∀ H, Pv n H → done H) :
    ∃ W : Nat → Nat → Hp → Prop, (∃ m, W 0 m H0) ∧ Wk g tt t vs J σ done W := by
  refine ⟨fun i m H => m = n - i ∧ i ≤ n ∧ Pv i H, ⟨n, rfl, Nat.zero_le _, h0⟩, ?_⟩
  rintro i m H ⟨rfl, hi, p⟩
  have st := hG i H hi p
  rcases Nat.lt_or_eq_of_le hi with lt | rfl
  · refine .inr ⟨w.goes i H lt st, Pv (i + 1), fun H' p' => ⟨n - (i + 1), by omega, rfl, lt, p'⟩, fun x H' y => hs i x H H' lt p (w.yields i H x H' lt st y)⟩
  · exact .inl ⟨w.stops H st, hd H p⟩
end
end Lc

set_option Elab.async false
set_option linter.all false
set_option maxRecDepth 100000
set_option maxHeartbeats 4000000
/-! Sets of texts that can be sorted, counted and walked: what is in them is a list without doubles. -/
namespace Sx
open PySem PySem.Spec PyProof.Rows L2 PpSet PySem.Froz
/-- with k, once -/
def withT (l : List Str) (k : Str) : List Str := if k ∈ l then l else k :: l
theorem withT_nodup {l : List Str} (n : l.Nodup) (k : Str) : (withT l k).Nodup := by
  unfold withT
  split
  · exact n
  · rename_i h; exact List.nodup_cons.mpr ⟨h, n⟩
theorem mem_withT {l : List Str} {k x : Str} : x ∈ withT l k ↔ x ∈ l ∨ x = k := by
  unfold withT
  split
  · rename_i h
    exact ⟨.inl, fun z => z.elim id fun e => e ▸ h⟩
  · rw [List.mem_cons]; exact Or.comm
theorem withT_len (l : List Str) (k : Str) : (withT l k).length ≤ l.length + 1 := by
  unfold withT
  split
  · exact Nat.le_succ _
  · exact Nat.le_refl _
/-- lists without doubles that lie in each other -/
theorem perm_same {α : Type} [DecidableEq α] : ∀ {l m : List α}, l.Nodup → (∀ x ∈ l, x ∈ m) → m.length ≤ l.length → l.Perm m
  | [], m, _, _, h => by
    have : m = [] := List.eq_nil_of_length_eq_zero (Nat.le_zero.mp h)
    rw [this]
  | x :: r, m, n, s, h => by
    obtain ⟨n1, n2⟩ := List.nodup_cons.mp n
    have xm := s x List.mem_cons_self
    have p := List.perm_cons_erase xm
    refine (List.Perm.cons x (perm_same n2 (fun y hy => ?_) ?_)).trans p.symm
    · have ne : y ≠ x := fun e => n1 (e ▸ hy)
      exact (List.mem_erase_of_ne ne).mpr (s y (List.mem_cons_of_mem _ hy))
    · rw [List.length_erase_of_mem xm]
      have : (x :: r).length = r.length + 1 := rfl
      omega
structure TxSet (P : Program) (w : World) (h : Heap) (a : Addr) (l : List Str) : Prop where
  held : ∃ D : SD, h.get? a = some (sObj "set" D) ∧ TxOk P w D l ∧ Ris D.2.2.place.toList ∧ (w.params.followText "set-order" = true ∨ D.2.2.led = true)
  once : l.Nodup
  room : l.length < scanBound
section
variable {P : Program} {w : World} {A : Around} {E : Value → Shared → Prop} {s : Shared} {a : Addr} {l : List Str}
theorem TxSet.there {h h' : Heap} (T : TxSet P w h a l) (k : ∀ o, h.get? a = some o → h'.get? a = some o) : TxSet P w h' a l := by
  obtain ⟨⟨D, e, r⟩, n, b⟩ := T
  exact ⟨⟨D, k _ e, r⟩, n, b⟩
theorem tail_keeps {ep : Nat} {es : Array (Int × Value)} {t : SetTable} {wd : Bool} (r : Ris t.place.toList) : Ris (tailTx ep es t wd).2.2.place.toList ∧ (tailTx ep es t wd).2.2.led = t.led := by
  unfold tailTx
  split
  · exact ⟨relayAll_ris _ _ _, relayAll_led _ _ _⟩
  · exact ⟨r, rfl⟩
theorem new_keeps {h : Int} {v : Value} {D : SD} (r : Ris D.2.2.place.toList) : Ris (addTx h v D).2.2.place.toList ∧ (addTx h v D).2.2.led = D.2.2.led := by
  have r1 := layNew_ris D.2.2 D.1 h v r
  have e1 := layNew_led D.2.2 D.1 h v
  unfold addTx
  split
  · have z := @tail_keeps D.2.1 (layNew D.2.2 D.1 h v).1 { (layNew D.2.2 D.1 h v).2.1 with plain := false } (layNew D.2.2 D.1 h v).2.2.1 r1
    exact ⟨z.1, z.2.trans e1⟩
  · have z := @tail_keeps D.2.1 (layNew D.2.2 D.1 h v).1 (layNew D.2.2 D.1 h v).2.1 (layNew D.2.2 D.1 h v).2.2.1 r1
    exact ⟨z.1, z.2.trans e1⟩
/-- what is there already -/
theorem put_old {k : Str} {u : Tok} {Q : Bool → Shared → Prop} {D : SD} (ho : s.heap.get? a = some (sObj "set" D)) (F : TxOk P w D l) (b : l.length < scanBound) (hk : k ∈ l) (q : Q false s) : wpAny (model P w) A (setAddHashed a (.str k u) (hashStr w k)) Q E s := by
  obtain ⟨es, ep, t⟩ := D
  have full : es.size < scanBound := by have z : es.size = l.length := F.sz; omega
  unfold setAddHashed setAddHashedIn
  refine wpAny_holding (wpAny_bind (wpAny_setState_of ho rfl F.fit ?_)); dsimp only
  rw [byScan_of rfl full F.el]; simp only [↓reduceIte]; unfold setAddByScan
  refine wpAny_bind (wpAny_bind (wpAny_rule (wpAny_bind (wpAny_setScan_of (knd := PySem.strKind P w) (is_str k u) ho rfl F.fit F.el ?_))))
  obtain ⟨e, he, hi⟩ := (F.mem k).mp hk
  cases c : List.findIdx? (fun e => (PySem.strKind P w).is k e.2) es.toList with
  | none =>
    have z := List.findIdx?_eq_none_iff.mp c e he
    rw [hi] at z; cases z
  | some j => exact wpAny_pure (wpAny_pure q)
theorem put_any {k : Str} {u : Tok} {Q : Bool → Shared → Prop} (T : TxSet P w s.heap a l) (b : l.length + 1 < scanBound) (q : ∀ h', Heap.SameBut a s.heap h' → TxSet P w h' a (withT l k) → ∀ c, Q c { s with heap := h' }) :
    wpAny (model P w) A (setAddHashed a (.str k u) (hashStr w k)) Q E s := by
  obtain ⟨⟨D, ho, F, r, o⟩, n, room⟩ := T
  by_cases hk : k ∈ l
  · have e : withT l k = l := if_pos hk
    rw [e] at q
    exact put_old ho F room hk (q s.heap (Heap.SameBut.refl a s.heap) ⟨⟨D, ho, F, r, o⟩, n, room⟩ false)
  · have e : withT l k = k :: l := if_neg hk
    rw [e] at q
    obtain ⟨r1, o1⟩ := new_keeps (h := hashStr w k) (v := .str k u) r
    exact add_x ho F hk b (q _ (Heap.SameBut.update s.heap a _) ⟨⟨_, get_upd _ ho rfl, add_ok u F, r1, o.imp id fun z => o1.trans z⟩, List.nodup_cons.mpr ⟨hk, n⟩, b⟩ true)
theorem fresh_t {h : Heap} {o : Obj} (e : o = { cls := .type "set", dict := none, data := .set #[] 0 (.fresh 0 0 (!w.params.followText "set-order")) }) : TxSet P w (h.push o) h.objs.size [] := by
  subst e
  refine ⟨⟨(#[], 0, .fresh 0 0 (!w.params.followText "set-order")), Heap.get?_push_size _ rfl, TxOk.nil (by rfl), List.Pairwise.nil, ?_⟩, List.nodup_nil, by decide⟩
  show _ ∨ (!w.params.followText "set-order") = true
  cases w.params.followText "set-order" <;> simp
/-- x.add(k) -/
theorem call_put {k : Str} {u : Tok} {Q : Value → Shared → Prop} (T : TxSet P w s.heap a l) (b : l.length + 1 < scanBound) (q : ∀ h', Heap.SameBut a s.heap h' → TxSet P w h' a (withT l k) → Q .none { s with heap := h', toks := s.toks + 1 }) :
    wpAny (model P w) A (call (.builtin "set.add") [.ref a, .str k u]) Q E s := by
  obtain ⟨D, ho, _⟩ := T.held
  refine wpAny_call_entry F.slot_set_add ⟨_, ho, rfl⟩ F.entry_set_add ?_ (F.args_set_add_2 _ _)
  unfold Builtin.«set.add» Builtin.Frozenset.oneOther Builtin.Frozenset.addrOf setAdd
  simp only [List.isEmpty_nil, bind_assoc]
  refine wpAny_bind (wpAny_pure ?_); try dsimp only
  refine wpAny_bind (wpAny_pure ?_); try dsimp only
  refine wpAny_bind (wpAny_holding (wpAny_bind ((PySem.strKind P w).pyHash (is_str k u) ?_)))
  refine put_any (s := { s with toks := s.toks + 1 }) T b fun h' sb T' c => ?_
  exact wpAny_pure ⟨_, rfl, q h' sb T'⟩
/-- its texts, in the order that the table has -/
theorem texts_of {D : SD} (F : TxOk P w D l) (n : l.Nodup) : (D.1.toList.map fun e => strOf e.2).Perm l ∧ ∀ e ∈ D.1.toList, ∃ x t, e.2 = Value.str x t := by
  have shape : ∀ e ∈ D.1.toList, ∃ x t, e.2 = Value.str x t := fun e he => by
    obtain ⟨⟨x, hx, _⟩, _⟩ := F.el e he
    obtain ⟨t, ht⟩ := Value.isStrOf_shape hx
    exact ⟨x, t, ht⟩
  refine ⟨(perm_same n (fun x hx => ?_) ?_).symm, shape⟩
  · obtain ⟨e, he, q⟩ := (F.mem x).mp hx
    obtain ⟨t, ht⟩ := Value.isStrOf_shape q
    exact List.mem_map.mpr ⟨e, he, by rw [ht]; rfl⟩
  · rw [List.length_map, Array.length_toList, F.sz]
    exact Nat.le_refl _
/-- sorted(x) -/
theorem call_sortT {Q : Value → Shared → Prop} (T : TxSet P w s.heap a l) (hh : A.handled = none) (few : l.length < 64)
    (q : ∀ s' p (out : Array Value) (c : Nat) (ys : List Str), (∀ b o, s.heap.get? b = some o → s'.heap.get? b = some o) → s'.gens = s.gens → s'.os = s.os → s.heap.objs.size ≤ p → s'.heap.get? p = some (seqObj "list" out c) →
      StrsAre out.toList ys → ys.Perm l → sortedS ys = true → Q (.ref p) s') : wpAny (model P w) A (call (.builtin "sorted") [.ref a]) Q E s := by
  obtain ⟨⟨⟨es, ep, t⟩, ho, F, r, o⟩, n, room⟩ := T
  have sz : es.size = l.length := F.sz
  obtain ⟨pl, shape⟩ := texts_of F n
  refine Calls.call_function_entry kind_sorted plain_sorted entry_sorted (args_sorted1 _) ?_
  unfold Builtin.«sorted»
  refine wpAny_bind (m := checkCount "sorted" 1 1 _) (wpAny_pure (wpAny_bind (collect_set (A := A.in1) hh ⟨_, ho, rfl, rfl⟩ F.fit (by show es.size < scanBound; omega) r o fun s1 vs k1 z1 g1 o1 pm => ?_)))
  have len : vs.length = l.length := by rw [pm.length_eq, List.length_map, Array.length_toList]; exact sz
  have S : StrsAre vs (vs.map strOf) := strsAre_map vs fun v hv => by
    obtain ⟨e, he, ee⟩ := List.mem_map.mp (pm.mem_iff.mp hv)
    rw [← ee]; exact shape e he
  have pv : (vs.map strOf).Perm l := by
    have z := pm.map strOf
    rw [List.map_map] at z
    exact z.trans pl
  refine wpAny_bind (wpAny_newList ?_ (by rw [len, sizeLine_eq]; omega))
  have at0 : (s1.heap.push (seqObj "list" vs.toArray 0)).get? s1.heap.objs.size = some (seqObj "list" vs.toArray 0) := Heap.get?_push_size _ rfl
  refine wpAny_bind (wpAny_holding (wpAny_call_entry slot_list_sort ⟨_, at0, rfl⟩ entry_list_sort (list_sort_treeK strKind_oneLt at0 S.keysOf (fun v₁ v₂ rest e => keyKind_strs (by rw [← e]; exact S)) (by omega) fun st' a1 a2 => ⟨_, rfl, ?_⟩) (args_list_sort _)))
  obtain ⟨ys, b1, b2, b3⟩ := sorted_out_str S a1 a2
  obtain ⟨c, hc⟩ := sortedHeap_at (vs := vs) (out := (arrOf st').map (·.2)) at0
  refine wpAny_pure ⟨_, rfl, q _ s1.heap.objs.size _ c ys (fun b u e => ?_) g1 o1 z1 hc b1 (b2.trans pv) b3⟩
  have z := k1 b u e
  have lt := Heap.lt_size z
  show (sortedHeap (s1.heap.push (seqObj "list" vs.toArray 0)) s1.heap.objs.size vs ((arrOf st').map (·.2))).get? b = some u
  rw [sortedHeap_old (Nat.ne_of_lt lt) (by rw [size_push']; exact Nat.lt_succ_of_lt lt)]
  exact Heap.get?_push_of_some _ z
/-- len(x) -/
theorem call_lenT {Q : Value → Shared → Prop} (T : TxSet P w s.heap a l) (q : ∀ t t', Q (.int l.length t) { s with toks := t' }) : wpAny (model P w) A (call (.builtin "len") [.ref a]) Q E s := by
  obtain ⟨⟨⟨es, ep, t⟩, ho, F, r, o⟩, n, room⟩ := T
  have sz : es.size = l.length := F.sz
  have big : scanBound < 2 ^ 62 := by decide
  refine call_len_set ho ⟨rfl, rfl, rfl⟩ rfl F.fit (by show (es.size : Int) < 2 ^ 63; omega) ?_
  show Q (.int (es.size : Nat) _) _
  rw [sz]
  exact q _ _
end
/-! ### in the heap of a def -/
def TxO (P : Program) (w : World) (a : Addr) (l : List Str) : HO := .ext fun h => TxSet P w h a l
section
variable {X : Cx}
theorem tx_new {w : World} {P : Program} {H : Hp} {h : Heap} {a : Addr} {l : List Str} (T : TxSet P w h a l) : ObjOk P w H h a (TxO P w a l) := by
  have ⟨⟨D, ho, _⟩, _, _⟩ := T
  exact ⟨T, ⟨_, ho⟩, fun h1 h2 p k => TxSet.there p k⟩
theorem tx_get {pins : List (Addr × Obj)} {σ : L2.St} {H : Hp} {s : Shared} {a : Addr} {l : List Str} (I : Inv X pins σ H s) (ha : H a = some (TxO X.prog X.w a l)) : TxSet X.prog X.w s.heap a l := (I.hok a _ ha).1
def TxNew (X : Cx) (D : Addr) : HO := TxO X.prog X.w D []
theorem mk_tx : Lc.Mk X (newSet (.type "set")) (TxNew X) := fun pins s σ H Q E I h => PpSet.newSet_ok (h _ (I.laid (t' := s.toks) (fun b u e => Heap.get?_push_of_some _ e) (Nat.le_refl _) (tx_new (fresh_t rfl))))
/-- a text is put in -/
def tPutT (X : Cx) (te : TE) (D : Addr) : L2.St → Hp → (Hp → Prop) → Prop := fun σ H Nx => te σ H fun y H1 => ∃ (k : Str) (l : List Str), y = .str k ∧ H1 D = some (TxO X.prog X.w D l) ∧ l.length + 1 < scanBound ∧ Nx (upd H1 D (TxO X.prog X.w D (withT l k)))
theorem em_putT {Y : Cx} {elt : Expr} {te : TE} {D : Addr} (quiet : Y.xe = fun _ _ => False) (he : PE Y elt te) : Lc.EM Y (Lc.putIn elt (.ref D) Y.env) [] (tPutT Y te D) := by
  intro pins s σ H Q k R I h hk
  have z := he.run pins s σ H _ I h
  rw [quiet] at z
  unfold Lc.putIn
  refine wpAny_bind (wpAny_bind (thnF z fun v s1 h1 => wpAny_bind (wpAny_standAt (wpAny_bind ?_))))
  obtain ⟨y, H1, I1, ry, kx, l, rfl, hD, room, q⟩ := h1
  obtain ⟨t, rfl⟩ := ry
  refine call_put (tx_get I1 hD) room fun h' sb new => wpAny_pure (hk _ _ (I1.write (e := D) (t' := s1.toks + 1) (by rw [hD]; trivial) (.inl rfl) (fun b u hb hu => (sb.2 b hb).trans hu) ?_ (tx_new new)) q)
  obtain ⟨⟨_, ho, _⟩, _⟩ := new
  exact ⟨_, ho⟩
theorem pe_setT {elt tg iter : Expr} {ifs : List Expr} {scope : Scope} {own : List (Str × Nat)} {pos : Pos} {wi : TI} {g : TG} {tt : TT} {te : TE} (calm : X.calm = true) (nd : X.N.Nodup) (src : PI X tg iter wi) (ok : BlkOk X.N X.env.scope scope own)
    (pg : Lc.InBlk X scope fun Y => PG Y tg g) (pt : Lc.InBlk X scope fun Y => PTs Y ifs tt) (pe : Lc.InBlk X scope fun Y => PE Y elt te) (fold : ∀ x, foldedSetIterable iter X.env x = pure x := by intro _; rfl) :
    PE X (.SetComp elt [⟨tg, iter, ifs, 0⟩] scope pos) (Lc.tCmp (TxNew X) wi g tt (tPutT X te) (own.map (·.2))) := by
  refine ⟨fun pins s σ H Q I h => ?_⟩
  show wpAny _ _ (comprehension (.SetComp elt [⟨tg, iter, ifs, 0⟩] scope pos) scope X.env (firstIterPos [⟨tg, iter, ifs, 0⟩] pos) (newSet (.type "set")) false (eval iter X.env)) _ _ s
  exact Lc.comp_run (emit := Lc.putIn elt) (vs1 := []) (.inl ⟨_, _, _, _, rfl⟩) rfl (fun it acc env => rfl) mk_tx calm nd src ok (fun _ m => nomatch m) pg pt (fun s H C cl fp D => em_putT rfl (pe s H C cl fp)) fold I h
/-- sorted(x), fewer than 64 texts -/
def rSortT (X : Cx) : List V → Hp → VK → Prop := fun xs H Q => ∃ (a : Addr) (l : List Str), xs = [.ref a] ∧ H a = some (TxO X.prog X.w a l) ∧ l.length < 64 ∧
  ∀ (ys : List Str) (p : Addr), ys.Perm l → sortedS ys = true → H p = none → Q (.ref p) (upd H p (.lst (ys.map V.str)))
theorem cr_sortT (calm : X.calm = true) : CallR X (.builtin "sorted") (rSortT X) := by
  intro pins s σ H xs us Q I r h
  obtain ⟨a, l, rfl, ha, few, q⟩ := h
  rw [Vals.ref1 r]
  refine call_sortT (tx_get I ha) (I.ok.hd calm) few fun s' p out c ys k g o new hg hi hp hs => ?_
  have no : H p = none := I.hok.fresh new
  have len : (ys.map V.str).length ≤ sizeLine := by rw [List.length_map, hp.length_eq, sizeLine_eq]; omega
  have J : Inv X pins σ (upd H p (.lst (ys.map V.str))) { s with heap := s'.heap, gens := s'.gens, drawn := s'.drawn, toks := s'.toks } :=
    I.call (ch := []) (Un.laid k new no) (I.hok.laid k new ⟨len, out.toList, c, vals_of_strs hi, hg⟩) (by rw [g]; exact I.bare) (fun _ z => nomatch z)
  obtain ⟨h1, h2, h3, h4, h5⟩ := s'
  cases s
  cases o
  exact ⟨.ref p, _, J, rfl, q ys p hp hs no⟩
end
end Sx

set_option Elab.async false
set_option linter.all false
set_option maxRecDepth 100000
set_option maxHeartbeats 8000000
/-! set(text): the set of a text's signs. -/
namespace Sx
open PySem PySem.Spec PyProof.Rows L2 PpSet PySem.Froz
/-- l holds the signs of cs -/
def Signs (cs : List Nat) (l : List Str) : Prop := ∀ y, y ∈ l ↔ ∃ c, c ∈ cs ∧ y = ⟨#[c]⟩
section
variable {P : Program} {w : World} {A : Around} {R : Result → Shared → Prop}
theorem text_loop {I S : Addr} {fp wr : List Addr} {x : Str} {St : Nat → Heap → Prop} (W : Walks P w A.in1 I fp wr x.cps.size (SignAt x) St) (out : S ∉ fp) (small : x.cps.size + 1 < scanBound) :
    ∀ (left i : Nat) (s : Shared) (l : List Str), x.cps.size - i = left → i ≤ x.cps.size → St i s.heap → TxSet P w s.heap S l → l.length ≤ i → Signs (x.cps.toList.take i) l →
      (∀ h' tk l', (∀ b o, b ∉ S :: wr → s.heap.get? b = some o → h'.get? b = some o) → TxSet P w h' S l' → Signs x.cps.toList l' → R (.ok (.ret .none)) { s with heap := h', toks := tk }) →
      codeAny (model P w) A (.builtin "set.update.loop" ⟨[.ref S, .ref I], []⟩) R s
  | 0, i, s, l, el, hi, st, T, few, sg, fin => by
    refine codeAny_builtin PyProof.Rows.F.entry_set_update_loop ?_
    rw [Around.under_plainId PyProof.Rows.F.plain_set_update_loop _]
    have e : i = x.cps.size := by omega
    have none : S ∉ wr := fun z => out (W.sub _ z)
    have all : x.cps.toList.take i = x.cps.toList := List.take_of_length_le (by rw [Array.length_toList]; omega)
    rw [all] at sg
    refine wpAny_bind (m := pyNext (.ref I)) (W.done s _ _ (e ▸ st) fun h' tk k => ?_)
    exact wpAny_pure (fin h' tk l (fun b o hb => k b o fun z => hb (List.mem_cons_of_mem _ z)) (T.there fun o => k S o none) sg)
  | left + 1, i, s, l, el, hi, st, T, few, sg, fin => by
    refine codeAny_builtin PyProof.Rows.F.entry_set_update_loop ?_
    rw [Around.under_plainId PyProof.Rows.F.plain_set_update_loop _]
    have lt : i < x.cps.size := by omega
    have none : S ∉ wr := fun z => out (W.sub _ z)
    refine wpAny_bind (m := pyNext (.ref I)) (W.item i s _ _ lt st fun v h1 tk hv st1 k1 => ?_)
    obtain ⟨c, t, hc, rfl⟩ := hv
    refine wpAny_bind (m := holding [Value.str ⟨#[c]⟩ t] (setAdd S (.str ⟨#[c]⟩ t))) (wpAny_holding ?_)
    unfold setAdd
    refine wpAny_holding (wpAny_bind ((PySem.strKind P w).pyHash (is_str ⟨#[c]⟩ t) ?_))
    refine put_any (s := { s with heap := h1, toks := tk + 1 }) (T.there fun o => k1 S o none) (by omega) fun h2 sb T2 _ => ?_
    have grow := withT_len l ⟨#[c]⟩
    have next : x.cps.toList.take (i + 1) = x.cps.toList.take i ++ [c] := by
      rw [List.take_add_one, Array.getElem?_toList, hc]; rfl
    refine wpAny_pure ⟨plainId_quiet PyProof.Rows.F.plain_set_update_loop _, text_loop W out small left (i + 1) _ _ (by omega) lt (W.frame _ h1 _ st1 fun b hb o e => ?_) T2 (by omega) (fun y => ?_) fun h3 tk3 l3 k3 T3 s3 => ?_⟩
    · rw [sb.2 b fun z => out (z ▸ hb)]; exact e
    · rw [mem_withT, sg y, next]
      constructor
      · rintro (⟨d, hd, e⟩ | e)
        · exact ⟨d, List.mem_append_left _ hd, e⟩
        · exact ⟨c, List.mem_append_right _ List.mem_cons_self, e⟩
      · rintro ⟨d, hd, e⟩
        rcases List.mem_append.mp hd with z | z
        · exact .inl ⟨d, z, e⟩
        · rw [List.mem_singleton] at z
          exact .inr (by rw [e, z])
    · refine fin h3 tk3 l3 (fun b o hb e => k3 b o hb ?_) T3 s3
      show h2.get? b = some o
      rw [sb.2 b fun z => hb (z ▸ List.mem_cons_self)]
      exact k1 b o (fun z => hb (List.mem_cons_of_mem _ z)) e
end
section
variable {P : Program} {w : World} {A : Around} {E : Value → Shared → Prop} {s : Shared}
theorem fill_text {x : Str} {u : Tok} {S : Addr} {Q : Unit → Shared → Prop} (hh : A.handled = none) (small : x.cps.size + 1 < scanBound) (T : TxSet P w s.heap S [])
    (q : ∀ h' tk l, (∀ b o, b ≠ S → s.heap.get? b = some o → h'.get? b = some o) → TxSet P w h' S l → Signs x.cps.toList l → Q () { s with heap := h', toks := tk }) :
    wpAny (model P w) A (Builtin.Frozenset.updateFrom "set.__init__" S (.str x u)) Q E s := by
  unfold Builtin.Frozenset.updateFrom
  refine wpAny_bind (Fz.anySet ?_)
  simp only [Bool.false_eq_true, if_false]
  refine wpAny_bind (wpAny_typeOf (typeIs_str _ _ _) ?_)
  have no : (Value.type "str" == Value.type "dict") = false := by decide
  rw [no]
  simp only [Bool.false_eq_true, if_false]
  obtain ⟨D, hD, _⟩ := T.held
  refine wpAny_bind (wpAny_pyIter_str fun o St W st => wpAny_bind (wpAny_runValue ?_))
  have lt := Heap.lt_size hD
  refine text_loop (W _ (by simp [hh])) (fun z => ?_) small _ 0 { s with heap := s.heap.push o } [] rfl (Nat.zero_le _) st (T.there fun _ e => Heap.get?_push_of_some _ e) (Nat.le_refl _) (fun y => by simp) fun h' tk l k T' sg => ?_
  · rw [List.mem_singleton] at z
    exact absurd lt (by rw [z]; exact Nat.lt_irrefl _)
  · refine wpAny_pure (q h' tk l (fun b o' hb e => k b o' (fun z => ?_) (Heap.get?_push_of_some _ e)) T' sg)
    rcases List.mem_cons.mp z with z | z
    · exact hb z
    · rw [List.mem_singleton] at z
      exact absurd (Heap.lt_size e) (by rw [z]; exact Nat.lt_irrefl _)
end
end Sx

set_option Elab.async false
set_option linter.all false
set_option maxRecDepth 100000
set_option maxHeartbeats 8000000
/-! The call of set with a text; len(set(text)). -/
namespace Sx
open PySem PySem.Spec PyProof.Rows L2 PpSet PySem.Froz
section
variable {P : Program} {w : World} {A : Around} {E : Value → Shared → Prop} {s : Shared}
theorem init_text {x : Str} {u : Tok} {S : Addr} {R : PySem.Fin → Shared → Prop} (hh : A.handled = none) (small : x.cps.size + 1 < scanBound) {led : Bool} (hD : s.heap.get? S = some { cls := .type "set", dict := none, data := .set #[] 0 (.fresh 0 0 led) }) (T : TxSet P w s.heap S [])
    (q : ∀ h' tk l, (∀ b o, b ≠ S → s.heap.get? b = some o → h'.get? b = some o) → TxSet P w h' S l → Signs x.cps.toList l → R (.done (.ret .none)) { s with heap := h', toks := tk }) :
    wpAny (model P w) A (Builtin.«set.__init__» ⟨[.ref S, .str x u], []⟩) R E s := by
  have fill := @fill_text P w A E s x u S (fun _ s' => R (.done (.ret .none)) s') hh small T q
  have ty : s.TypeIs (.ref S) "set" := ⟨_, hD, rfl⟩
  unfold Builtin.«set.__init__» noKeywords
  generalize hU : Builtin.Frozenset.updateFrom = U at fill ⊢
  wp_walk
  exact wpAny_mono fill (fun _ s' z => wpAny_pure z) fun _ _ z => z
/-- set(x) -/
theorem call_setT {x : Str} {u : Tok} {Q : Value → Shared → Prop} (hh : A.handled = none) (small : x.cps.size + 1 < scanBound)
    (q : ∀ h' tk l, (∀ b o, s.heap.get? b = some o → h'.get? b = some o) → TxSet P w h' s.heap.objs.size l → Signs x.cps.toList l → Q (.ref s.heap.objs.size) { s with heap := h', toks := tk }) :
    wpAny (model P w) A (call (.type "set") [.str x u]) Q E s := by
  obtain ⟨_, _, way⟩ := PySem.F.called_set.mro
  have f1 := PySem.F.called_set.notType
  have f2 := PySem.F.called_set.canCreate
  have f3 := PySem.F.called_set.made
  have f4 := PySem.F.called_set.sub
  have f5 := PySem.F.typeCall_set_1 (.str x u)
  have new : ∀ o : Obj, o = { cls := .type "set", dict := none, data := .set #[] 0 (.fresh 0 0 (!w.params.followText "set-order")) } → (s.heap.push o).get? s.heap.objs.size = some o := fun o e => Heap.get?_push_size _ (by rw [e] <;> rfl)
  generalize ho : ({ cls := .type "set", dict := none, data := .set #[] 0 (.fresh 0 0 (!w.params.followText "set-order")) } : Obj) = o at new
  have T := fresh_t (P := P) (w := w) (h := s.heap) ho.symm
  have hD := new o rfl
  refine wpAny_call (codeAny_of_tree ?_)
  show wpAny _ _ (callAny (.type "set") ⟨[.str x u], []⟩) _ _ s
  exact wpAny_pure ⟨Code.quiet_builtin _ (by decide +kernel), codeAny_builtin PySem.F.entry_type_call (by
    rw [Around.under_plain (weight_type_call_type "set" [.str x u] []) rfl]
    repeat (any_goals (first | assumption | wp_step))
    refine codeAny_mono (code_set_led1 (.str x u) (E := E) (Q₁ := fun v s1 => v = .ref s.heap.objs.size ∧ s1 = { s with heap := s.heap.push o }) ⟨rfl, by rw [ho]⟩) fun r s1 z => ?_
    match r, z with
    | .error e, z => exact z
    | .ok (.ret v), z =>
      obtain ⟨rfl, rfl⟩ := z
      have ty : Shared.TypeIs { s with heap := s.heap.push o } (.ref s.heap.objs.size) "set" := ⟨_, hD, by rw [← ho]⟩
      have l1 := PySem.F.called_set.init.lookup
      have l2 := PySem.F.called_set.init.bind (.ref s.heap.objs.size)
      repeat (any_goals (first | assumption | wp_step))
      refine codeAny_mono (codeAny_call_builtin (R := wants (fun v s2 => v = .none ∧ Q (.ref s.heap.objs.size) s2) E) PySem.F.called_set.init.plain PySem.F.entry_set_init (check_set_init_1 ty ?_)) fun r2 s2 z2 => ?_
      · refine init_text (by simp [hh]) small (hD.trans (by rw [← ho])) T fun h' tk l k T' sg => ⟨rfl, q h' tk l (fun b u e => k b u (Nat.ne_of_lt (Heap.lt_size e)) (Heap.get?_push_of_some _ e)) T' sg⟩
      · match r2, z2 with
        | .error e, z2 => exact z2
        | .ok (.ret v), z2 =>
          obtain ⟨rfl, z2⟩ := z2
          repeat (any_goals (first | assumption | wp_step)))⟩
end
section
variable {X : Cx}
/-- len(set(x)) -/
def tLenSetT (ta : TE) : TE := fun σ H Q => ta σ H fun x H1 => ∃ y : Str, x = .str y ∧ y.cps.size + 1 < scanBound ∧ ∀ l : List Str, l.Nodup → Signs y.cps.toList l → Q (.int l.length) H1
theorem pe_lenSetT {a : Expr} {ta : TE} {p p2 q pos : Pos} (calm : X.calm = true) (gl : Gl X "len") (ml : X.mg "len" = none) (gs : Gl X "set") (ms : X.mg "set" = none) (ha : PE X a ta)
    (na : starEach [a] X.env = (false, eval a X.env) :: starEach [] X.env := by rfl) : PE X (.Call (.Name "len" p) [.Call (.Name "set" p2) [a] [] q] [] pos) (tLenSetT ta) := by
  refine ⟨fun pins s σ H Q I h => Call_ (ld_blt I gl ml boot_len (PyProof.Rows.callWith_builtin1 (PyProof.Rows.args_cons (Call_ (ld_blt I gs ms boot_set ?_)) rfl) rfl rfl))⟩
  refine PyProof.Rows.callWith_type1 (PyProof.Rows.args_cons (thn (ha.run pins s σ H _ I h) fun v s1 h1 => PyProof.Rows.args_nil ?_) na) na rfl
  obtain ⟨x, H1, I1, r1, y, rfl, small, go⟩ := h1
  obtain ⟨t, rfl⟩ := r1
  refine call_setT (I1.ok.hd calm) small fun h' tk l k T sg => PyProof.Rows.args_nil ?_
  have I2 : Inv X pins σ H1 { s1 with heap := h', toks := tk } := I1.kept k
  exact call_lenT T fun t t' => ⟨.int l.length, H1, I2.tok t', ⟨t, rfl⟩, go l T.once sg⟩
/-- as many as the text is long: no sign twice -/
theorem signs_full {cs : List Nat} {l : List Str} (n : l.Nodup) (sg : Signs cs l) : l.length = cs.length ↔ cs.Nodup := by
  have inj : ∀ c d : Nat, (⟨#[c]⟩ : Str) = ⟨#[d]⟩ → c = d := fun c d e => by
    have z : [c] = [d] := congrArg (fun y : Str => y.cps.toList) e
    exact (List.cons.inj z).1
  have up : ∀ x ∈ l, x ∈ cs.map fun c => (⟨#[c]⟩ : Str) := fun x hx => by
    obtain ⟨c, hc, e⟩ := (sg x).mp hx
    exact List.mem_map.mpr ⟨c, hc, e.symm⟩
  have down : ∀ x ∈ cs.map (fun c => (⟨#[c]⟩ : Str)), x ∈ l := fun x hx => by
    obtain ⟨c, hc, e⟩ := List.mem_map.mp hx
    exact (sg x).mpr ⟨c, hc, e.symm⟩
  have both : (cs.map fun c => (⟨#[c]⟩ : Str)).Nodup ↔ cs.Nodup := by
    constructor
    · intro z
      exact List.Pairwise.of_map _ (fun a b h e => h (by rw [e])) z
    · intro z
      exact List.Pairwise.map _ (fun a b h e => h (inj a b e)) z
  rw [← both]
  constructor
  · intro e
    exact (perm_same n up (by rw [List.length_map]; omega)).nodup_iff.mp n
  · intro z
    have e1 := (perm_same n up ?_).length_eq
    · rw [e1, List.length_map]
    · rcases Nat.le_total (cs.map fun c => (⟨#[c]⟩ : Str)).length l.length with h | h
      · exact h
      · exact Nat.le_of_eq (perm_same z down h).length_eq
end
end Sx

set_option Elab.async false
set_option linter.all false
set_option maxRecDepth 100000
set_option maxHeartbeats 4000000
/-! Lists of values that bear lists of things; cuts of lists. -/
namespace Ld
open PySem PySem.Spec PyProof.Rows L2
def Rel2 {α : Type} (R : V → α → Prop) : List V → List α → Prop
  | [], [] => True
  | v :: vs, x :: xs => R v x ∧ Rel2 R vs xs
  | _, _ => False
section
variable {α : Type} {R S : V → α → Prop}
theorem Rel2.mono (h : ∀ v x, R v x → S v x) : ∀ {vs : List V} {xs : List α}, Rel2 R vs xs → Rel2 S vs xs
  | [], [], _ => True.intro
  | _ :: _, _ :: _, q => ⟨h _ _ q.1, Rel2.mono h q.2⟩
  | [], _ :: _, q => q.elim
  | _ :: _, [], q => q.elim
theorem Rel2.len : ∀ {vs : List V} {xs : List α}, Rel2 R vs xs → vs.length = xs.length
  | [], [], _ => rfl
  | _ :: _, _ :: _, q => by rw [List.length_cons, List.length_cons, Rel2.len q.2]
  | [], _ :: _, q => q.elim
  | _ :: _, [], q => q.elim
theorem Rel2.get : ∀ {vs : List V} {xs : List α} {i : Nat} {v : V}, Rel2 R vs xs → vs[i]? = some v → ∃ x, xs[i]? = some x ∧ R v x
  | _ :: _, x :: _, 0, _, q, e => by
    cases e
    exact ⟨x, rfl, q.1⟩
  | _ :: _, _ :: _, i + 1, _, q, e => Rel2.get (i := i) q.2 e
  | [], _, _, _, _, e => by cases e
  | _ :: _, [], _, _, q, _ => q.elim
theorem Rel2.at {vs : List V} {xs : List α} {i : Nat} {x : α} (q : Rel2 R vs xs) (e : xs[i]? = some x) : ∃ v, vs[i]? = some v ∧ R v x := by
  have hi : i < vs.length := by rw [q.len]; exact (List.getElem?_eq_some_iff.mp e).1
  obtain ⟨y, e2, r⟩ := q.get (List.getElem?_eq_getElem hi)
  rw [e] at e2
  cases e2
  exact ⟨_, List.getElem?_eq_getElem hi, r⟩
theorem Rel2.app : ∀ {vs ws : List V} {xs ys : List α}, Rel2 R vs xs → Rel2 R ws ys → Rel2 R (vs ++ ws) (xs ++ ys)
  | [], _, [], _, _, r => r
  | _ :: _, _, _ :: _, _, q, r => ⟨q.1, Rel2.app q.2 r⟩
  | [], _, _ :: _, _, q, _ => q.elim
  | _ :: _, _, [], _, q, _ => q.elim
theorem Rel2.snoc {vs : List V} {xs : List α} {v : V} {x : α} (q : Rel2 R vs xs) (r : R v x) : Rel2 R (vs ++ [v]) (xs ++ [x]) := q.app ⟨r, True.intro⟩
theorem Rel2.take : ∀ {vs : List V} {xs : List α} (n : Nat), Rel2 R vs xs → Rel2 R (vs.take n) (xs.take n)
  | _, _, 0, _ => True.intro
  | [], [], _ + 1, _ => True.intro
  | _ :: _, _ :: _, n + 1, q => ⟨q.1, Rel2.take n q.2⟩
  | [], _ :: _, _ + 1, q => q.elim
  | _ :: _, [], _ + 1, q => q.elim
theorem Rel2.drop : ∀ {vs : List V} {xs : List α} (n : Nat), Rel2 R vs xs → Rel2 R (vs.drop n) (xs.drop n)
  | _, _, 0, q => q
  | [], [], _ + 1, _ => True.intro
  | _ :: _, _ :: _, n + 1, q => Rel2.drop n q.2
  | [], _ :: _, _ + 1, q => q.elim
  | _ :: _, [], _ + 1, q => q.elim
theorem Rel2.reverse : ∀ {vs : List V} {xs : List α}, Rel2 R vs xs → Rel2 R vs.reverse xs.reverse
  | [], [], _ => True.intro
  | v :: vs, x :: xs, q => by
    rw [List.reverse_cons, List.reverse_cons]
    exact (Rel2.reverse q.2).snoc q.1
  | [], _ :: _, q => q.elim
  | _ :: _, [], q => q.elim
theorem Rel2.map {β : Type} {T : V → β → Prop} {g : α → β} (h : ∀ v x, R v x → T v (g x)) : ∀ {vs : List V} {xs : List α}, Rel2 R vs xs → Rel2 T vs (xs.map g)
  | [], [], _ => True.intro
  | _ :: _, _ :: _, q => ⟨h _ _ q.1, Rel2.map h q.2⟩
  | [], _ :: _, q => q.elim
  | _ :: _, [], q => q.elim
theorem Rel2.dp {K : PySem.W.Frag} {H : Hp} {D : α → PyData} (h : ∀ v x, R v x → Dp K H v (D x)) : ∀ {vs : List V} {xs : List α}, Rel2 R vs xs → DpAll K H vs (xs.map D)
  | [], [], _ => .nil
  | _ :: _, _ :: _, q => .cons (h _ _ q.1) (Rel2.dp h q.2)
  | [], _ :: _, q => q.elim
  | _ :: _, [], q => q.elim
end
theorem cut_from {vs : List V} {n : Nat} : cutV vs (some (n : Int)) none = vs.drop n := by
  unfold cutV
  rw [HT.sIx_nat, HT.sIx_none]
  by_cases h : n ≤ vs.length
  · rw [Nat.min_eq_left h, List.take_of_length_le (by rw [List.length_drop]; exact Nat.le_refl _)]
  · have h := Nat.le_of_lt (Nat.lt_of_not_le h)
    rw [Nat.min_eq_right h, List.drop_of_length_le h, List.drop_of_length_le (Nat.le_refl _), List.take_nil]
theorem cut_to {vs : List V} {n : Nat} : cutV vs none (some (n : Int)) = vs.take n := by
  unfold cutV
  rw [HT.sIx_nat, HT.sIx_none, Nat.sub_zero, List.drop_zero]
  by_cases h : n ≤ vs.length
  · rw [Nat.min_eq_left h]
  · have h := Nat.le_of_lt (Nat.lt_of_not_le h)
    rw [Nat.min_eq_right h, List.take_of_length_le h, List.take_of_length_le (Nat.le_refl _)]
theorem cut_mid {vs : List V} {i k : Nat} (h : k ≤ vs.length) (h2 : i ≤ k) : cutV vs (some (i : Int)) (some (k : Int)) = (vs.drop i).take (k - i) := by
  unfold cutV
  rw [HT.sIx_nat, HT.sIx_nat, Nat.min_eq_left h, Nat.min_eq_left (Nat.le_trans h2 h)]
end Ld

set_option Elab.async false
set_option linter.all false
set_option maxRecDepth 100000
set_option maxHeartbeats 4000000
/-! Prices: mathematics, and how they lie in the heap. -/
namespace Ld
open PySem PySem.Spec PyProof.Rows L2 Lr
abbrev sk (s : Str) : Key := Sum.inr s
def P3 : List Str := ["A", "BB", "C"]
def P4 : List Str := ["A", "BB", "C", "OTHER"]
structure Prc where
  put : Int
  out : Int
  chg : Int
  ex : List (List Key × V)
def exOk (k : List Key) : Prop := (∃ a ∈ P3, k = [sk "put", sk a]) ∨ (∃ a ∈ P4, k = [sk "out", sk a]) ∨ ∃ a ∈ P4, ∃ b ∈ P3, a ≠ b ∧ k = [sk "change", sk a, sk b]
structure PrcOk (Z : Prc) : Prop where
  put : 1 ≤ Z.put ∧ Z.put ≤ 1000
  out : 1 ≤ Z.out ∧ Z.out ≤ 1000
  chg : 1 ≤ Z.chg ∧ Z.chg ≤ 1000
  ex : ∀ p ∈ Z.ex, exOk p.1 ∧ ∃ i : Int, 1 ≤ i ∧ i ≤ 1000 ∧ p.2 = .int i
  nd : (Z.ex.map (·.1)).Nodup
  few : Z.ex.length ≤ 5
/-- the number at a key, or another -/
def exI (Z : Prc) (k : List Key) (d : Int) : Int := match valV Z.ex k with
  | some (.int i) => i
  | _ => d
def putP (Z : Prc) (k : Str) : Int := exI Z [sk "put", sk k] Z.put
def outP (Z : Prc) (k : Str) : Int := exI Z [sk "out", sk k] Z.out
def chgP (Z : Prc) (a b : Str) : Int := if a = b then 0 else exI Z [sk "change", sk a, sk b] Z.chg
/-- the sum of the prices of leaving out -/
def outsP (Z : Prc) (ks : List Str) : Int := (ks.map (outP Z)).sum
/-- the price of the leaf of k over the stretch from i to j -/
def leafP (Z : Prc) (row : List Str) (k : Str) (i j : Nat) : Int :=
  if i = j then putP Z k else outsP Z ((row.drop i).take (j - 1 - i)) + chgP Z (row.getD (j - 1) "") k
theorem valV_from {κ : Type} [DecidableEq κ] {kvs : List (κ × V)} {k : κ} {v : V} (h : valV kvs k = some v) : (k, v) ∈ kvs := by
  unfold valV at h
  obtain ⟨p, hp, e⟩ := Option.map_eq_some_iff.mp h
  have e1 := List.find?_some hp
  have e2 : p.1 = k := of_decide_eq_true e1
  have m := List.mem_of_find?_eq_some hp
  rw [← e, ← e2]
  exact m
theorem exI_is {Z : Prc} (ok : PrcOk Z) (k : List Key) (d : Int) : (valV Z.ex k).getD (.int d) = .int (exI Z k d) := by
  unfold exI
  cases e : valV Z.ex k with
  | none => rfl
  | some v =>
    obtain ⟨_, i, _, _, rfl⟩ := ok.ex _ (valV_from e)
    rfl
theorem exI_in {Z : Prc} (ok : PrcOk Z) (k : List Key) {d : Int} (h : 1 ≤ d ∧ d ≤ 1000) : 1 ≤ exI Z k d ∧ exI Z k d ≤ 1000 := by
  unfold exI
  cases e : valV Z.ex k with
  | none => exact h
  | some v =>
    obtain ⟨_, i, h1, h2, e2⟩ := ok.ex _ (valV_from e)
    dsimp only at e2
    rw [e2]
    exact ⟨h1, h2⟩
theorem putP_in {Z : Prc} (ok : PrcOk Z) (k : Str) : 1 ≤ putP Z k ∧ putP Z k ≤ 1000 := exI_in ok _ ok.put
theorem outP_in {Z : Prc} (ok : PrcOk Z) (k : Str) : 1 ≤ outP Z k ∧ outP Z k ≤ 1000 := exI_in ok _ ok.out
theorem chgP_in {Z : Prc} (ok : PrcOk Z) (a b : Str) : 0 ≤ chgP Z a b ∧ chgP Z a b ≤ 1000 := by
  unfold chgP
  split
  · exact ⟨by decide, by decide⟩
  · have := exI_in ok [sk "change", sk a, sk b] ok.chg
    exact ⟨by omega, this.2⟩
theorem outsP_in {Z : Prc} (ok : PrcOk Z) : ∀ ks : List Str, 0 ≤ outsP Z ks ∧ outsP Z ks ≤ 1000 * ks.length
  | [] => ⟨Int.le_refl 0, Int.le_refl 0⟩
  | k :: ks => by
    have h1 := outP_in ok k
    have h2 := outsP_in ok ks
    unfold outsP at h2 ⊢
    rw [List.map_cons, List.sum_cons, List.length_cons]
    omega
theorem leafP_in {Z : Prc} (ok : PrcOk Z) (row : List Str) (k : Str) (i j : Nat) : 0 ≤ leafP Z row k i j ∧ leafP Z row k i j ≤ 1000 * (row.length + 1) := by
  unfold leafP
  split
  · have := putP_in ok k
    omega
  · have h1 := outsP_in ok ((row.drop i).take (j - 1 - i))
    have h2 := chgP_in ok (row.getD (j - 1) "") k
    have h3 : ((row.drop i).take (j - 1 - i)).length ≤ row.length := by
      rw [List.length_take, List.length_drop]
      omega
    omega
/-- the prices Z stand at t -/
def PrA (H : Hp) (t : Addr) (Z : Prc) : Prop := ∃ d, H t = some (.tup [.int Z.put, .int Z.out, .int Z.chg, .ref d]) ∧ H d = some (.dT Z.ex)
theorem Up.dT {A B : Hp} (u : Up A B) {a : Addr} {kvs : List (List Key × V)} (h : A a = some (.dT kvs)) : B a = some (.dT kvs) := by
  rcases u a _ h with e | ⟨_, _, z, _⟩
  · exact e
  · cases z
theorem PrA.up {A B : Hp} (u : Up A B) {t : Addr} {Z : Prc} (h : PrA A t Z) : PrA B t Z := by
  obtain ⟨d, h1, h2⟩ := h
  exact ⟨d, u.tup h1, u.dT h2⟩
/-! ### prices as data -/
def vD : V → PyData
  | .int i => .int i
  | .str s => .str s
  | _ => .none
def exD (kvs : List (List Key × V)) : List (PyData × PyData) := kvs.map fun p => (.tuple (p.1.map keyD), vD p.2)
def prD (Z : Prc) : PyData := .tuple [.int Z.put, .int Z.out, .int Z.chg, .dict (exD Z.ex)]
theorem dqT_ints {K : PySem.W.Frag} {H : Hp} : ∀ {kvs : List (List Key × V)}, (∀ p ∈ kvs, ∃ i : Int, p.2 = .int i) → DqT K H kvs (exD kvs)
  | [], _ => .nil
  | (k, v) :: kvs, h => by
    obtain ⟨i, e⟩ := h (k, v) List.mem_cons_self
    dsimp only at e
    subst e
    exact .cons (.dp (.int i)) (dqT_ints fun p m => h p (List.mem_cons_of_mem _ m))
theorem PrA.dq {K : PySem.W.Frag} {H : Hp} {t : Addr} {Z : Prc} (ok : PrcOk Z) (h : PrA H t Z) : Dq K H (.ref t) (prD Z) := by
  obtain ⟨d, h1, h2⟩ := h
  exact .tup (SqT.of h1) (.cons (.dp (.int _)) (.cons (.dp (.int _)) (.cons (.dp (.int _)) (.cons (.dT h2 (dqT_ints fun p m => let ⟨_, i, _, _, e⟩ := ok.ex p m; ⟨i, e⟩)) .nil))))
theorem int_small {i : Int} (h0 : 0 ≤ i) (h1 : i ≤ 1000) : (PyData.int i).showable = true := by
  rw [PyData.showable]
  have a : i.natAbs ≤ 1000 := by omega
  refine decide_eq_true ?_
  have : i.natAbs.log2 ≤ (1000 : Nat).log2 := by
    rcases Nat.eq_zero_or_pos i.natAbs with z | z
    · rw [z]
      exact Nat.zero_le _
    · exact (Nat.le_log2 (by decide)).mpr (Nat.le_trans (Nat.log2_self_le (Nat.ne_of_gt z)) a)
  have e : (1000 : Nat).log2 ≤ 10 := by decide
  omega
theorem int_wt {i : Int} (h0 : 0 ≤ i) (h1 : i < 10 ^ 9) : wt (.int i) ≤ 9 := by
  rw [wt]
  exact toString_length_le h0 (by decide) h1
theorem keys_show : ∀ ks : List Key, (∀ k ∈ ks, ∃ s, k = sk s) → PyData.showableAll (ks.map keyD) = true
  | [], _ => rfl
  | k :: ks, h => by
    obtain ⟨s, rfl⟩ := h k List.mem_cons_self
    rw [List.map_cons, PyData.showableAll, keys_show ks fun x m => h x (List.mem_cons_of_mem _ m)]
    rfl
theorem exOk_keys {k : List Key} (h : exOk k) : ∀ x ∈ k, ∃ s, x = sk s := by
  rcases h with ⟨a, _, rfl⟩ | ⟨a, _, rfl⟩ | ⟨a, _, b, _, _, rfl⟩
  all_goals
    intro x hx
    simp only [List.mem_cons, List.not_mem_nil, or_false] at hx
    rcases hx with rfl | rfl | rfl <;> exact ⟨_, rfl⟩
theorem ex_show : ∀ {kvs : List (List Key × V)}, (∀ p ∈ kvs, exOk p.1 ∧ ∃ i : Int, 1 ≤ i ∧ i ≤ 1000 ∧ p.2 = .int i) → PyData.showableKv (exD kvs) = true
  | [], _ => rfl
  | (k, v) :: kvs, h => by
    obtain ⟨h1, i, h2, h3, e⟩ := h (k, v) List.mem_cons_self
    dsimp only at e
    subst e
    have r := ex_show (kvs := kvs) fun p m => h p (List.mem_cons_of_mem _ m)
    show PyData.showableKv ((.tuple (k.map keyD), .int i) :: exD kvs) = true
    rw [PyData.showableKv, r, int_small (by omega) h3, PyData.showable, keys_show k (exOk_keys h1)]
    rfl
theorem prD_show {Z : Prc} (ok : PrcOk Z) : (prD Z).showable = true := by
  unfold prD
  rw [PyData.showable, PyData.showableAll, PyData.showableAll, PyData.showableAll, PyData.showableAll, PyData.showableAll, int_small (by have := ok.put; omega) ok.put.2, int_small (by have := ok.out; omega) ok.out.2,
    int_small (by have := ok.chg; omega) ok.chg.2, PyData.showable, ex_show ok.ex]
  rfl
theorem keys_wt {k : List Key} (h : exOk k) : wt (.tuple (k.map keyD)) ≤ 60 := by
  have c : ∀ a ∈ P4, wt (.tuple ([sk "out", sk a].map keyD)) ≤ 60 := by decide +kernel
  have b : ∀ a ∈ P3, wt (.tuple ([sk "put", sk a].map keyD)) ≤ 60 := by decide +kernel
  have d : ∀ a ∈ P4, ∀ b ∈ P3, wt (.tuple ([sk "change", sk a, sk b].map keyD)) ≤ 60 := by decide +kernel
  rcases h with ⟨a, ha, rfl⟩ | ⟨a, ha, rfl⟩ | ⟨a, ha, e, he, _, rfl⟩
  · exact b a ha
  · exact c a ha
  · exact d a ha e he
theorem prD_wt {Z : Prc} (ok : PrcOk Z) : wt (prD Z) ≤ 500 := by
  have e0 : wt (prD Z) = wt (.int Z.put) + 2 + (wt (.int Z.out) + 2 + (wt (.int Z.chg) + 2 + (wtKv (exD Z.ex) + 4 + 2 + 0))) + 4 := by
    unfold prD
    simp only [wt, wtAll]
  have h1 := int_wt (i := Z.put) (by have := ok.put; omega) (by have := ok.put; omega)
  have h2 := int_wt (i := Z.out) (by have := ok.out; omega) (by have := ok.out; omega)
  have h3 := int_wt (i := Z.chg) (by have := ok.chg; omega) (by have := ok.chg; omega)
  have h4 := wtKv_up (B := 69) (ds := exD Z.ex) fun p m => by
    obtain ⟨q, hq, rfl⟩ := List.mem_map.mp m
    obtain ⟨k1, i, k2, k3, e⟩ := ok.ex q hq
    have a := keys_wt k1
    have b : wt (vD q.2) ≤ 9 := by
      rw [e]
      exact int_wt (by omega) (by omega)
    dsimp only
    omega
  have h5 : (exD Z.ex).length ≤ 5 := by
    unfold exD
    rw [List.length_map]
    exact ok.few
  have : (69 + 4) * (exD Z.ex).length ≤ (69 + 4) * 5 := Nat.mul_le_mul_left _ h5
  omega
end Ld

set_option Elab.async false
set_option linter.all false
set_option maxRecDepth 100000
set_option maxHeartbeats 4000000
/-! Least costs of trees over stretches: mathematics. Stretches may be known. -/
namespace Lb
open PySem Ld
abbrev Cost := Int × Int
def cle (a b : Cost) : Prop := a.1 < b.1 ∨ (a.1 = b.1 ∧ a.2 ≤ b.2)
def clt (a b : Cost) : Prop := a.1 < b.1 ∨ (a.1 = b.1 ∧ a.2 < b.2)
theorem cle_refl (a : Cost) : cle a a := .inr ⟨rfl, Int.le_refl _⟩
theorem cle_trans {a b c : Cost} (h : cle a b) (k : cle b c) : cle a c := by
  unfold cle at *
  omega
theorem cle_anti {a b : Cost} (h : cle a b) (k : cle b a) : a = b := by
  unfold cle at *
  exact Prod.ext (by omega) (by omega)
theorem cle_of_clt {a b : Cost} (h : clt a b) : cle a b := by
  unfold cle clt at *
  omega
theorem cle_or (a b : Cost) : cle a b ∨ clt b a := by
  unfold cle clt
  omega
theorem clt_not {a b : Cost} (h : clt a b) (k : cle b a) : False := by
  unfold cle clt at *
  omega
theorem clt_of {a b c : Cost} (h : cle a b) (k : clt b c) : clt a c := by
  unfold cle clt at *
  omega
theorem cle_add {a b c d : Cost} (h : cle a b) (k : cle c d) : cle (a.1 + c.1, a.2 + c.2) (b.1 + d.1, b.2 + d.2) := by
  unfold cle at *
  dsimp only
  omega
/-- the least of the costs of S; none where there is none -/
def LeastO (S : Cost → Prop) : Option Cost → Prop
  | none => ∀ c, ¬ S c
  | some c => S c ∧ ∀ d, S d → cle c d
theorem least_one {S : Cost → Prop} {a b : Option Cost} (h : LeastO S a) (k : LeastO S b) : a = b := by
  match a, b with
  | none, none => rfl
  | none, some c => exact (h c k.1).elim
  | some c, none => exact (k c h.1).elim
  | some c, some d => rw [cle_anti (h.2 d k.1) (k.2 c h.1)]
theorem LeastO.up {S : Cost → Prop} {o : Option Cost} (h : LeastO S o) {c : Cost} (m : S c) : ∃ d, o = some d ∧ cle d c := by
  match o with
  | none => exact (h c m).elim
  | some d => exact ⟨d, rfl, h.2 c m⟩
theorem LeastO.mem {S : Cost → Prop} {c : Cost} (h : LeastO S (some c)) : S c := h.1
theorem LeastO.of {S : Cost → Prop} {o : Option Cost} (h1 : ∀ c, o = some c → S c) (h2 : ∀ c, S c → ∃ d, o = some d ∧ cle d c) : LeastO S o := by
  match o with
  | none =>
    intro c m
    obtain ⟨d, e, _⟩ := h2 c m
    cases e
  | some c =>
    refine ⟨h1 c rfl, fun d m => ?_⟩
    obtain ⟨e, q, z⟩ := h2 d m
    rw [Option.some.inj q]
    exact z
theorem least1 {S : Cost → Prop} (pos : ∀ c, S c → 0 ≤ c.1 ∧ 0 ≤ c.2) : ∀ (n : Nat) (c : Cost), S c → c.1.toNat = n → ∃ d, S d ∧ ∀ x, S x → d.1 ≤ x.1 := by
  intro n
  induction n using Nat.strongRecOn with
  | _ n ih =>
    intro c hc e
    by_cases h : ∃ d, S d ∧ d.1 < c.1
    · obtain ⟨d, hd, lt⟩ := h
      have := pos d hd
      exact ih d.1.toNat (by omega) d hd rfl
    · exact ⟨c, hc, fun x hx => Int.not_lt.mp fun z => h ⟨x, hx, z⟩⟩
theorem least2 {S : Cost → Prop} (pos : ∀ c, S c → 0 ≤ c.1 ∧ 0 ≤ c.2) : ∀ (n : Nat) (c : Cost), S c → c.2.toNat = n → ∃ d, S d ∧ ∀ x, S x → d.2 ≤ x.2 := by
  intro n
  induction n using Nat.strongRecOn with
  | _ n ih =>
    intro c hc e
    by_cases h : ∃ d, S d ∧ d.2 < c.2
    · obtain ⟨d, hd, lt⟩ := h
      have := pos d hd
      exact ih d.2.toNat (by omega) d hd rfl
    · exact ⟨c, hc, fun x hx => Int.not_lt.mp fun z => h ⟨x, hx, z⟩⟩
theorem least_ex {S : Cost → Prop} (pos : ∀ c, S c → 0 ≤ c.1 ∧ 0 ≤ c.2) : ∃ o, LeastO S o := by
  by_cases h : ∃ c, S c
  · obtain ⟨c, hc⟩ := h
    obtain ⟨d, hd, le⟩ := least1 pos _ c hc rfl
    obtain ⟨e, ⟨he, e1⟩, le2⟩ := least2 (S := fun x => S x ∧ x.1 = d.1) (fun x hx => pos x hx.1) _ d ⟨hd, rfl⟩ rfl
    refine ⟨some e, he, fun x hx => ?_⟩
    have a := le x hx
    by_cases q : x.1 = d.1
    · have := le2 x ⟨hx, q⟩
      unfold cle
      omega
    · unfold cle
      omega
  · exact ⟨none, fun c hc => h ⟨c, hc⟩⟩
/-- the entries of a stretch -/
structure Ent where
  nm : Str → Option Cost
  rs : Nat → Nat → Option Cost
/-- rules, leaves' prices, which symbols are names, what is known -/
structure Pb where
  G : List Rule
  leaf : Str → Nat → Nat → Int
  isN : Str → Bool
  kn : Nat → Nat → Option Ent
mutual
/-- costs of the trees of a name over a stretch -/
inductive TreeC (B : Pb) : Str → Nat → Nat → Cost → Prop
  | known {N : Str} {i j : Nat} {e : Ent} {c : Cost} : B.kn i j = some e → e.nm N = some c → TreeC B N i j c
  | mk {N : Str} {i j r : Nat} {ss : List Str} {c : Cost} : B.kn i j = none → B.G[r]? = some (N, ss) → RestC B r 0 i j c → TreeC B N i j (c.1, c.2 + 1)
/-- costs of the parts for the symbols of a rule from a dot on -/
inductive RestC (B : Pb) : Nat → Nat → Nat → Nat → Cost → Prop
  | known {r d i j : Nat} {e : Ent} {c : Cost} : B.kn i j = some e → e.rs r d = some c → RestC B r d i j c
  | nil {r d i : Nat} {N : Str} {ss : List Str} : B.kn i i = none → B.G[r]? = some (N, ss) → d = ss.length → RestC B r d i i (0, 0)
  | leaf {r d i j e : Nat} {N k : Str} {ss : List Str} {c : Cost} : B.kn i j = none → B.G[r]? = some (N, ss) → ss[d]? = some k → B.isN k = false → i ≤ e → e ≤ j → RestC B r (d + 1) e j c → RestC B r d i j (B.leaf k i e + c.1, 1 + c.2)
  | tree {r d i j e : Nat} {N k : Str} {ss : List Str} {a c : Cost} : B.kn i j = none → B.G[r]? = some (N, ss) → ss[d]? = some k → B.isN k = true → i ≤ e → e ≤ j → TreeC B k i e a → RestC B r (d + 1) e j c → RestC B r d i j (a.1 + c.1, a.2 + c.2)
end
/-- nothing costs less than nothing -/
structure PbOk (B : Pb) : Prop where
  leaf : ∀ k i e, 0 ≤ B.leaf k i e
  kn : ∀ i j e, B.kn i j = some e → (∀ N c, e.nm N = some c → 0 ≤ c.1 ∧ 0 ≤ c.2) ∧ ∀ r d c, e.rs r d = some c → 0 ≤ c.1 ∧ 0 ≤ c.2
mutual
theorem TreeC.pos {B : Pb} (ok : PbOk B) : ∀ {N : Str} {i j : Nat} {c : Cost}, TreeC B N i j c → 0 ≤ c.1 ∧ 0 ≤ c.2
  | _, _, _, _, .known h k => (ok.kn _ _ _ h).1 _ _ k
  | _, _, _, _, .mk _ _ k => by
    have := RestC.pos ok k
    dsimp only
    omega
theorem RestC.pos {B : Pb} (ok : PbOk B) : ∀ {r d i j : Nat} {c : Cost}, RestC B r d i j c → 0 ≤ c.1 ∧ 0 ≤ c.2
  | _, _, _, _, _, .known h k => (ok.kn _ _ _ h).2 _ _ _ k
  | _, _, _, _, _, .nil _ _ _ => ⟨Int.le_refl _, Int.le_refl _⟩
  | _, _, _, _, _, .leaf (k := k) (i := i) (e := e) _ _ _ _ _ _ z => by
    have := RestC.pos ok z
    have := ok.leaf k i e
    dsimp only
    omega
  | _, _, _, _, _, .tree _ _ _ _ _ _ y z => by
    have := TreeC.pos ok y
    have := RestC.pos ok z
    dsimp only
    omega
end
/-- what the parts of a rule from a dot on cost by the entries of T -/
def CombC (B : Pb) (T : Nat → Nat → Ent) (r d i j : Nat) (c : Cost) : Prop := ∃ N ss, B.G[r]? = some (N, ss) ∧ ((d = ss.length ∧ i = j ∧ c = (0, 0)) ∨
  ∃ (k : Str) (e : Nat) (a b : Cost), ss[d]? = some k ∧ i ≤ e ∧ e ≤ j ∧ (T e j).rs r (d + 1) = some b ∧ ((B.isN k = false ∧ a = (B.leaf k i e, 1)) ∨ (B.isN k = true ∧ (T i e).nm k = some a)) ∧ c = (a.1 + b.1, a.2 + b.2))
structure SoundAt (B : Pb) (e : Ent) (i j : Nat) : Prop where
  nm : ∀ N c, e.nm N = some c → TreeC B N i j c
  rs : ∀ r d c, e.rs r d = some c → RestC B r d i j c
structure LeastAt (B : Pb) (e : Ent) (i j : Nat) : Prop where
  nm : ∀ N, LeastO (TreeC B N i j) (e.nm N)
  rs : ∀ r d, LeastO (RestC B r d i j) (e.rs r d)
theorem LeastAt.sound {B : Pb} {e : Ent} {i j : Nat} (h : LeastAt B e i j) : SoundAt B e i j := by
  refine ⟨fun N c q => ?_, fun r d c q => ?_⟩
  · have := h.nm N
    rw [q] at this
    exact this.1
  · have := h.rs r d
    rw [q] at this
    exact this.1
theorem known_least {B : Pb} {e : Ent} {i j : Nat} (h : B.kn i j = some e) : LeastAt B e i j := by
  constructor
  · intro N
    refine LeastO.of (fun c q => .known h q) fun c m => ?_
    cases m with
    | known h2 q =>
      rw [h] at h2
      rw [Option.some.inj h2]
      exact ⟨c, q, cle_refl c⟩
    | mk h2 _ _ =>
      rw [h] at h2
      cases h2
  · intro r d
    refine LeastO.of (fun c q => .known h q) fun c m => ?_
    cases m with
    | known h2 q =>
      rw [h] at h2
      rw [Option.some.inj h2]
      exact ⟨c, q, cle_refl c⟩
    | nil h2 _ _ =>
      rw [h] at h2
      cases h2
    | leaf h2 _ _ _ _ _ _ =>
      rw [h] at h2
      cases h2
    | tree h2 _ _ _ _ _ _ _ =>
      rw [h] at h2
      cases h2
/-- the table T with e at one stretch -/
def wi (T : Nat → Nat → Ent) (i j : Nat) (e : Ent) : Nat → Nat → Ent := fun a b => if a = i ∧ b = j then e else T a b
theorem wi_same {T : Nat → Nat → Ent} {i j : Nat} {e : Ent} : wi T i j e i j = e := if_pos ⟨rfl, rfl⟩
theorem wi_other {T : Nat → Nat → Ent} {i j a b : Nat} {e : Ent} (h : ¬ (a = i ∧ b = j)) : wi T i j e a b = T a b := if_neg h
section
variable {B : Pb} {T : Nat → Nat → Ent} {i j : Nat}
/-- all stretches within, but this one, are done -/
def Short (B : Pb) (T : Nat → Nat → Ent) (i j : Nat) : Prop := ∀ a b, i ≤ a → a ≤ b → b ≤ j → ¬ (a = i ∧ b = j) → LeastAt B (T a b) a b
theorem Short.sound (h : Short B T i j) {e : Ent} (s : SoundAt B e i j) {a b : Nat} (h1 : i ≤ a) (h2 : a ≤ b) (h3 : b ≤ j) : SoundAt B (wi T i j e a b) a b := by
  by_cases q : a = i ∧ b = j
  · rw [q.1, q.2, wi_same]
    exact s
  · rw [wi_other q]
    exact (h a b h1 h2 h3 q).sound
theorem comb_sound (short : Short B T i j) (hk : B.kn i j = none) {e : Ent} (s : SoundAt B e i j) {r d : Nat} {c : Cost} (h : CombC B (wi T i j e) r d i j c) : RestC B r d i j c := by
  obtain ⟨N, ss, hr, ⟨e1, e2, e3⟩ | ⟨k, f, a, b, hs, h1, h2, hb, ha, rfl⟩⟩ := h
  · subst e2
    rw [e3]
    exact .nil hk hr e1
  · have rb := (short.sound s h1 h2 (Nat.le_refl j)).rs _ _ _ hb
    rcases ha with ⟨n, rfl⟩ | ⟨n, q⟩
    · exact .leaf hk hr hs n h1 h2 rb
    · exact .tree hk hr hs n h1 h2 ((short.sound s (Nat.le_refl i) h1 h2).nm _ _ q) rb
/-- names of cost within A have their entries -/
def NB (B : Pb) (i j : Nat) (A : Cost → Prop) (e : Ent) : Prop := ∀ N c, TreeC B N i j c → A c → ∃ d, e.nm N = some d ∧ cle d c
def RB (B : Pb) (i j : Nat) (A : Cost → Prop) (e : Ent) (r d : Nat) : Prop := ∀ c, RestC B r d i j c → A (c.1, c.2 + 1) → ∃ x, e.rs r d = some x ∧ cle x c
/-- A holds what is less than something in A' -/
structure Under (A A' : Cost → Prop) : Prop where
  lt : ∀ a b, A' a → clt b a → A b
  le : ∀ a b, A' a → cle b a → A' b
theorem rest_bound (ok : PbOk B) (short : Short B T i j) (hk : B.kn i j = none) {e : Ent} {A A' : Cost → Prop} (U : Under A A') (nb : NB B i j A e) {r d : Nat} (next : RB B i j A' e r (d + 1)) {o : Option Cost} (ho : LeastO (CombC B (wi T i j e) r d i j) o) :
    ∀ c, RestC B r d i j c → A' (c.1, c.2 + 1) → ∃ x, o = some x ∧ cle x c := by
  have down : ∀ {f : Nat} {c : Cost}, i ≤ f → f ≤ j → RestC B r (d + 1) f j c → (f = i → A' (c.1, c.2 + 1)) → ∃ x, (wi T i j e f j).rs r (d + 1) = some x ∧ cle x c := fun {f c} h1 h2 z q => by
    by_cases w : f = i ∧ j = j
    · rw [w.1, wi_same]
      rw [w.1] at z
      exact next c z (q w.1)
    · rw [wi_other w]
      exact ((short f j h1 h2 (Nat.le_refl j) w).rs r (d + 1)).up z
  intro c hc ha
  cases hc with
  | known h _ =>
    rw [hk] at h
    cases h
  | nil _ hr hd => exact ho.up ⟨_, _, hr, .inl ⟨hd, rfl, rfl⟩⟩
  | leaf h0 hr hs hn h1 h2 z =>
    rename_i f N k ss c
    have p0 := ok.leaf k i f
    obtain ⟨x, ex, lx⟩ := down h1 h2 z fun _ => U.le _ _ ha (by unfold cle; dsimp only; omega)
    obtain ⟨y, ey, ly⟩ := ho.up ⟨N, ss, hr, .inr ⟨k, f, (B.leaf k i f, 1), x, hs, h1, h2, ex, .inl ⟨hn, rfl⟩, rfl⟩⟩
    exact ⟨y, ey, cle_trans ly (cle_add (cle_refl (B.leaf k i f, 1)) lx)⟩
  | tree h0 hr hs hn h1 h2 t z =>
    rename_i f N k ss a c
    have pa := TreeC.pos ok t
    have pc := RestC.pos ok z
    obtain ⟨x, ex, lx⟩ := down h1 h2 z fun _ => U.le _ _ ha (by unfold cle; dsimp only; omega)
    obtain ⟨y, ey, ly⟩ : ∃ y, (wi T i j e i f).nm k = some y ∧ cle y a := by
      by_cases w : i = i ∧ f = j
      · rw [w.2, wi_same]
        rw [w.2] at t
        exact nb k a t (U.lt _ _ ha (by unfold clt; dsimp only; omega))
      · rw [wi_other w]
        exact ((short i f (Nat.le_refl i) h1 h2 w).nm k).up t
    obtain ⟨v, ev, lv⟩ := ho.up ⟨N, ss, hr, .inr ⟨k, f, y, x, hs, h1, h2, ex, .inr ⟨hn, ey⟩, rfl⟩⟩
    exact ⟨v, ev, cle_trans lv (cle_add ly lx)⟩
end
end Lb

set_option Elab.async false
set_option linter.all false
set_option maxRecDepth 100000
set_option maxHeartbeats 4000000
/-! Entries that are bettered in rounds: when they are the least ones. -/
namespace Lb
open PySem Ld
section
variable {B : Pb} {T : Nat → Nat → Ent} {i j : Nat} {e : Ent}
mutual
theorem closedT (short : Short B T i j) (hk : B.kn i j = none) (crs : ∀ r d, LeastO (CombC B (wi T i j e) r d i j) (e.rs r d)) (cnm : ∀ r N ss c, B.G[r]? = some (N, ss) → e.rs r 0 = some c → ∃ x, e.nm N = some x ∧ cle x (c.1, c.2 + 1)) :
    ∀ {N : Str} {a b : Nat} {c : Cost}, TreeC B N a b c → i ≤ a → a ≤ b → b ≤ j → ∃ x, (wi T i j e a b).nm N = some x ∧ cle x c
  | N, a, b, c, .known h q, h1, h2, h3 => by
    by_cases w : a = i ∧ b = j
    · rw [w.1, w.2, hk] at h
      cases h
    · rw [wi_other w]
      exact ((short a b h1 h2 h3 w).nm N).up (.known h q)
  | N, a, b, _, .mk (c := c) h0 hr z, h1, h2, h3 => by
    by_cases w : a = i ∧ b = j
    · obtain ⟨x, ex, lx⟩ := closedR short hk crs cnm z h1 h2 h3
      rw [w.1, w.2, wi_same] at ex ⊢
      obtain ⟨y, ey, ly⟩ := cnm _ _ _ _ hr ex
      refine ⟨y, ey, cle_trans ly ?_⟩
      unfold cle at *
      dsimp only
      omega
    · rw [wi_other w]
      exact ((short a b h1 h2 h3 w).nm N).up (.mk h0 hr z)
theorem closedR (short : Short B T i j) (hk : B.kn i j = none) (crs : ∀ r d, LeastO (CombC B (wi T i j e) r d i j) (e.rs r d)) (cnm : ∀ r N ss c, B.G[r]? = some (N, ss) → e.rs r 0 = some c → ∃ x, e.nm N = some x ∧ cle x (c.1, c.2 + 1)) :
    ∀ {r d a b : Nat} {c : Cost}, RestC B r d a b c → i ≤ a → a ≤ b → b ≤ j → ∃ x, (wi T i j e a b).rs r d = some x ∧ cle x c
  | r, d, a, b, c, .known h q, h1, h2, h3 => by
    by_cases w : a = i ∧ b = j
    · rw [w.1, w.2, hk] at h
      cases h
    · rw [wi_other w]
      exact ((short a b h1 h2 h3 w).rs r d).up (.known h q)
  | r, d, a, _, _, .nil h0 hr hd, h1, h2, h3 => by
    by_cases w : a = i ∧ a = j
    · obtain ⟨w1, w2⟩ := w
      subst w1
      subst w2
      rw [wi_same]
      exact (crs r d).up ⟨_, _, hr, .inl ⟨hd, rfl, rfl⟩⟩
    · rw [wi_other w]
      exact ((short a a h1 h2 h3 w).rs r d).up (.nil h0 hr hd)
  | r, d, a, b, _, .leaf (e := f) (k := k) (c := c) h0 hr hs hn k1 k2 z, h1, h2, h3 => by
    by_cases w : a = i ∧ b = j
    · obtain ⟨x, ex, lx⟩ := closedR short hk crs cnm z (Nat.le_trans h1 k1) k2 h3
      obtain ⟨w1, w2⟩ := w
      subst w1
      subst w2
      rw [wi_same]
      obtain ⟨y, ey, ly⟩ := (crs r d).up ⟨_, _, hr, .inr ⟨k, f, (B.leaf k a f, 1), x, hs, k1, k2, ex, .inl ⟨hn, rfl⟩, rfl⟩⟩
      exact ⟨y, ey, cle_trans ly (cle_add (cle_refl (B.leaf k a f, 1)) lx)⟩
    · rw [wi_other w]
      exact ((short a b h1 h2 h3 w).rs r d).up (.leaf h0 hr hs hn k1 k2 z)
  | r, d, a, b, _, .tree (e := f) (k := k) (a := ca) (c := c) h0 hr hs hn k1 k2 t z, h1, h2, h3 => by
    by_cases w : a = i ∧ b = j
    · obtain ⟨x, ex, lx⟩ := closedR short hk crs cnm z (Nat.le_trans h1 k1) k2 h3
      obtain ⟨y, ey, ly⟩ := closedT short hk crs cnm t h1 k1 (Nat.le_trans k2 h3)
      obtain ⟨w1, w2⟩ := w
      subst w1
      subst w2
      rw [wi_same]
      obtain ⟨v, ev, lv⟩ := (crs r d).up ⟨_, _, hr, .inr ⟨k, f, y, x, hs, k1, k2, ex, .inr ⟨hn, ey⟩, rfl⟩⟩
      exact ⟨v, ev, cle_trans lv (cle_add ly lx)⟩
    · rw [wi_other w]
      exact ((short a b h1 h2 h3 w).rs r d).up (.tree h0 hr hs hn k1 k2 t z)
end
/-- entries that no round betters are the least ones -/
theorem closed_least (ij : i ≤ j) (short : Short B T i j) (hk : B.kn i j = none) (snd : SoundAt B e i j) (crs : ∀ r d, LeastO (CombC B (wi T i j e) r d i j) (e.rs r d))
    (cnm : ∀ r N ss c, B.G[r]? = some (N, ss) → e.rs r 0 = some c → ∃ x, e.nm N = some x ∧ cle x (c.1, c.2 + 1)) : LeastAt B e i j := by
  refine ⟨fun N => LeastO.of (snd.nm N) fun c m => ?_, fun r d => LeastO.of (snd.rs r d) fun c m => ?_⟩
  · obtain ⟨x, ex, lx⟩ := closedT short hk crs cnm m (Nat.le_refl i) ij (Nat.le_refl j)
    rw [wi_same] at ex
    exact ⟨x, ex, lx⟩
  · obtain ⟨x, ex, lx⟩ := closedR short hk crs cnm m (Nat.le_refl i) ij (Nat.le_refl j)
    rw [wi_same] at ex
    exact ⟨x, ex, lx⟩
theorem rest_in (hk : B.kn i j = none) {r d : Nat} {c : Cost} (h : RestC B r d i j c) : ∃ N ss, B.G[r]? = some (N, ss) ∧ d ≤ ss.length := by
  cases h with
  | known h _ =>
    rw [hk] at h
    cases h
  | nil _ hr hd => exact ⟨_, _, hr, Nat.le_of_eq hd⟩
  | leaf _ hr hs _ _ _ _ => exact ⟨_, _, hr, Nat.le_of_lt (List.getElem?_eq_some_iff.mp hs).1⟩
  | tree _ hr hs _ _ _ _ _ => exact ⟨_, _, hr, Nat.le_of_lt (List.getElem?_eq_some_iff.mp hs).1⟩
def setR (e : Ent) (r d : Nat) (o : Option Cost) : Ent := ⟨e.nm, fun a b => if a = r ∧ b = d then o else e.rs a b⟩
def setN (e : Ent) (N : Str) (o : Option Cost) : Ent := ⟨fun M => if M = N then o else e.nm M, e.rs⟩
/-- within a round: the rules before r, and r from the dot d on, are made -/
structure RInv (B : Pb) (i j : Nat) (e0 e : Ent) (r d : Nat) : Prop where
  snd : SoundAt B e i j
  mono : ∀ N c, e0.nm N = some c → ∃ x, e.nm N = some x ∧ cle x c
  up : ∀ A A', Under A A' → NB B i j A e0 → NB B i j A e ∧ (∀ a b, a < r → RB B i j A' e a b) ∧ (∀ b, d ≤ b → RB B i j A' e r b) ∧
    ∀ a N ss c, a < r → B.G[a]? = some (N, ss) → RestC B a 0 i j c → A' (c.1, c.2 + 1) → ∃ x, e.nm N = some x ∧ cle x (c.1, c.2 + 1)
theorem RInv.start (snd : SoundAt B e i j) {d : Nat} (out : ∀ b c, d ≤ b → ¬ RestC B 0 b i j c) : RInv B i j e e 0 d :=
  ⟨snd, fun N c h => ⟨c, h, cle_refl c⟩, fun A A' U nb => ⟨nb, fun a b h => absurd h (Nat.not_lt_zero a), fun b h c m => (out b c h m).elim, fun a N ss c h => absurd h (Nat.not_lt_zero a)⟩⟩
theorem RInv.rest (ok : PbOk B) (short : Short B T i j) (hk : B.kn i j = none) {e0 : Ent} {r d : Nat} (h : RInv B i j e0 e r (d + 1)) {o : Option Cost} (ho : LeastO (CombC B (wi T i j e) r d i j) o) : RInv B i j e0 (setR e r d o) r d := by
  refine ⟨⟨h.snd.nm, fun a b c q => ?_⟩, h.mono, fun A A' U nb => ?_⟩
  · change (if a = r ∧ b = d then o else e.rs a b) = some c at q
    split at q
    · rename_i w
      rw [w.1, w.2]
      rw [q] at ho
      exact comb_sound short hk h.snd ho.1
    · exact h.snd.rs a b c q
  · obtain ⟨u1, u2, u3, u4⟩ := h.up A A' U nb
    refine ⟨u1, fun a b lt c m ha => ?_, fun b le c m ha => ?_, u4⟩
    · obtain ⟨x, ex, lx⟩ := u2 a b lt c m ha
      refine ⟨x, ?_, lx⟩
      show (if a = r ∧ b = d then o else e.rs a b) = some x
      rw [if_neg (by omega)]
      exact ex
    · by_cases w : b = d
      · rw [w] at m ⊢
        obtain ⟨x, ex, lx⟩ := rest_bound ok short hk U u1 (u3 (d + 1) (Nat.le_refl _)) ho c m ha
        refine ⟨x, ?_, lx⟩
        show (if r = r ∧ d = d then o else e.rs r d) = some x
        rw [if_pos ⟨rfl, rfl⟩]
        exact ex
      · obtain ⟨x, ex, lx⟩ := u3 b (by omega) c m ha
        refine ⟨x, ?_, lx⟩
        show (if r = r ∧ b = d then o else e.rs r b) = some x
        rw [if_neg (by omega)]
        exact ex
/-- the name of a rule, looked at behind its rests: o is what stands at the name then -/
theorem RInv.name (hk : B.kn i j = none) {e0 : Ent} {r d : Nat} {N : Str} {ss : List Str} (h : RInv B i j e0 e r 0) (hr : B.G[r]? = some (N, ss)) {o : Option Cost} (own : ∀ c, o = some c → e.nm N = some c ∨ ∃ x, e.rs r 0 = some x ∧ c = (x.1, x.2 + 1))
    (old : ∀ c, e.nm N = some c → ∃ x, o = some x ∧ cle x c) (new : ∀ c, e.rs r 0 = some c → ∃ x, o = some x ∧ cle x (c.1, c.2 + 1)) (out : ∀ b c, d ≤ b → ¬ RestC B (r + 1) b i j c) : RInv B i j e0 (setN e N o) (r + 1) d := by
  have less : ∀ M c, e.nm M = some c → ∃ x, (setN e N o).nm M = some x ∧ cle x c := fun M c q => by
    show ∃ x, (if M = N then o else e.nm M) = some x ∧ cle x c
    by_cases w : M = N
    · rw [if_pos w]
      rw [w] at q
      exact old c q
    · rw [if_neg w]
      exact ⟨c, q, cle_refl c⟩
  have more : ∀ {M : Str} {c : Cost}, (∃ x, e.nm M = some x ∧ cle x c) → ∃ x, (setN e N o).nm M = some x ∧ cle x c := fun {M c} ⟨x, ex, lx⟩ => by
    obtain ⟨y, ey, ly⟩ := less M x ex
    exact ⟨y, ey, cle_trans ly lx⟩
  refine ⟨⟨fun M c q => ?_, h.snd.rs⟩, fun M c q => ?_, fun A A' U nb => ?_⟩
  · change (if M = N then o else e.nm M) = some c at q
    split at q
    · rename_i w
      rw [w]
      rcases own c q with z | ⟨x, ex, rfl⟩
      · exact h.snd.nm N c z
      · exact .mk hk hr (h.snd.rs r 0 x ex)
    · exact h.snd.nm M c q
  · exact more (h.mono M c q)
  · obtain ⟨u1, u2, u3, u4⟩ := h.up A A' U nb
    refine ⟨fun M c m ha => more (u1 M c m ha), fun a b lt => ?_, fun b le c m => (out b c le m).elim, fun a M ts c lt ha m hb => ?_⟩
    · rcases Nat.lt_succ_iff_lt_or_eq.mp lt with q | q
      · exact u2 a b q
      · rw [q]
        exact u3 b (Nat.zero_le b)
    · rcases Nat.lt_succ_iff_lt_or_eq.mp lt with q | q
      · exact more (u4 a M ts c q ha m hb)
      · rw [q] at ha m
        rw [hr] at ha
        obtain ⟨e1, e2⟩ := Prod.mk.inj (Option.some.inj ha)
        obtain ⟨x, ex, lx⟩ := u3 0 (Nat.le_refl 0) c m hb
        obtain ⟨y, ey, ly⟩ := new x ex
        refine ⟨y, ?_, cle_trans ly ?_⟩
        · show (if M = N then o else e.nm M) = some y
          rw [if_pos e1.symm]
          exact ey
        · unfold cle at *
          dsimp only
          omega
/-- what a whole round gives -/
structure RoundOk (B : Pb) (i j : Nat) (e0 e : Ent) : Prop where
  snd : SoundAt B e i j
  mono : ∀ N c, e0.nm N = some c → ∃ x, e.nm N = some x ∧ cle x c
  up : ∀ A A', Under A A' → NB B i j A e0 → NB B i j A' e ∧ ∀ r d, RB B i j A' e r d
theorem RInv.all (hk : B.kn i j = none) {e0 : Ent} {d : Nat} (h : RInv B i j e0 e B.G.length d) : RoundOk B i j e0 e := by
  refine ⟨h.snd, h.mono, fun A A' U nb => ?_⟩
  obtain ⟨u1, u2, u3, u4⟩ := h.up A A' U nb
  refine ⟨fun N c m ha => ?_, fun r d c m ha => ?_⟩
  · cases m with
    | known q _ =>
      rw [hk] at q
      cases q
    | mk _ hr z => exact u4 _ _ _ _ (List.getElem?_eq_some_iff.mp hr).1 hr z ha
  · obtain ⟨N, ss, hr, _⟩ := rest_in hk m
    exact u2 r d (List.getElem?_eq_some_iff.mp hr).1 c m ha
theorem countP_less {α : Type} {p q : α → Bool} : ∀ {l : List α}, (∀ x ∈ l, p x = true → q x = true) → ∀ {a : α}, a ∈ l → q a = true → p a = false → l.countP p + 1 ≤ l.countP q
  | x :: l, h, a, ha, hq, hp => by
    have le : l.countP p ≤ l.countP q := List.countP_mono_left fun y hy => h y (List.mem_cons_of_mem _ hy)
    rw [List.countP_cons, List.countP_cons]
    rcases List.mem_cons.mp ha with e | m
    · rw [← e, hp, hq]
      simp
      omega
    · have := countP_less (fun y hy => h y (List.mem_cons_of_mem _ hy)) m hq hp
      by_cases z : p x = true
      · rw [z, h x List.mem_cons_self z]
        simp
        omega
      · rw [if_neg z]
        split <;> omega
open Classical in
/-- names whose entry is not the least one yet -/
noncomputable def nfin (B : Pb) (i j : Nat) (Ns : List Str) (e : Ent) : Nat := Ns.countP fun N => !decide (LeastO (TreeC B N i j) (e.nm N))
theorem tree_in (hk : B.kn i j = none) {Ns : List Str} (cover : ∀ (r : Nat) N ss, B.G[r]? = some (N, ss) → N ∈ Ns) {N : Str} {c : Cost} (h : TreeC B N i j c) : N ∈ Ns := by
  cases h with
  | known q _ =>
    rw [hk] at q
    cases q
  | mk _ hr _ => exact cover _ _ _ hr
theorem RoundOk.final {e0 : Ent} (h : RoundOk B i j e0 e) (s0 : SoundAt B e0 i j) {N : Str} (f : LeastO (TreeC B N i j) (e0.nm N)) : LeastO (TreeC B N i j) (e.nm N) := by
  refine LeastO.of (h.snd.nm N) fun c m => ?_
  obtain ⟨x, ex, lx⟩ := f.up m
  obtain ⟨y, ey, ly⟩ := h.mono N x ex
  exact ⟨y, ey, cle_trans ly lx⟩
open Classical in
theorem RoundOk.fewer (ok : PbOk B) (hk : B.kn i j = none) {Ns : List Str} (cover : ∀ (r : Nat) N ss, B.G[r]? = some (N, ss) → N ∈ Ns) {e0 : Ent} (s0 : SoundAt B e0 i j) (h : RoundOk B i j e0 e) : nfin B i j Ns e ≤ nfin B i j Ns e0 - 1 := by
  have stay : ∀ N ∈ Ns, (!decide (LeastO (TreeC B N i j) (e.nm N))) = true → (!decide (LeastO (TreeC B N i j) (e0.nm N))) = true := fun N _ q => by
    by_cases f : LeastO (TreeC B N i j) (e0.nm N)
    · rw [decide_eq_true (h.final s0 f)] at q
      cases q
    · rw [decide_eq_false f]
      rfl
  by_cases z : ∃ N ∈ Ns, ¬ LeastO (TreeC B N i j) (e0.nm N)
  · have some_of : ∀ {N : Str}, ¬ LeastO (TreeC B N i j) (e0.nm N) → ∃ c, LeastO (TreeC B N i j) (some c) := fun {N} nf => by
      obtain ⟨o, ho⟩ := least_ex (S := TreeC B N i j) fun c m => TreeC.pos ok m
      cases o with
      | some c => exact ⟨c, ho⟩
      | none =>
        refine (nf ?_).elim
        cases q : e0.nm N with
        | none => exact ho
        | some c => exact (ho c (s0.nm N c q)).elim
    obtain ⟨o, ho⟩ := least_ex (S := fun c => ∃ N ∈ Ns, ¬ LeastO (TreeC B N i j) (e0.nm N) ∧ LeastO (TreeC B N i j) (some c)) fun c ⟨N, _, _, m⟩ => TreeC.pos ok m.1
    cases o with
    | none =>
      obtain ⟨N, hN, nf⟩ := z
      obtain ⟨c, hc⟩ := some_of nf
      exact (ho c ⟨N, hN, nf, hc⟩).elim
    | some c =>
      obtain ⟨⟨N, hN, nf, hc⟩, low⟩ := ho
      have nb : NB B i j (fun x => clt x c) e0 := fun M x m lt => by
        by_cases f : LeastO (TreeC B M i j) (e0.nm M)
        · exact f.up m
        · obtain ⟨y, hy⟩ := some_of f
          have l1 := low y ⟨M, tree_in hk cover m, f, hy⟩
          exact (clt_not lt (cle_trans l1 (hy.2 x m))).elim
      have U : Under (fun x => clt x c) (fun x => cle x c) := ⟨fun a b h1 h2 => by unfold clt cle at *; omega, fun a b h1 h2 => cle_trans h2 h1⟩
      obtain ⟨u1, _⟩ := h.up _ _ U nb
      have fin : LeastO (TreeC B N i j) (e.nm N) := LeastO.of (h.snd.nm N) fun x m => by
        obtain ⟨y, ey, ly⟩ := u1 N c hc.1 (cle_refl c)
        exact ⟨y, ey, cle_trans ly (hc.2 x m)⟩
      have := countP_less stay hN (by rw [decide_eq_false nf]; rfl) (by rw [decide_eq_true fin]; rfl)
      unfold nfin
      omega
  · have all : nfin B i j Ns e = 0 := by
      unfold nfin
      refine List.countP_eq_zero.mpr fun N hN q => ?_
      by_cases f : LeastO (TreeC B N i j) (e0.nm N)
      · rw [decide_eq_true (h.final s0 f)] at q
        cases q
      · exact z ⟨N, hN, f⟩
    omega
open Classical in
theorem RoundOk.done (hk : B.kn i j = none) {Ns : List Str} (cover : ∀ (r : Nat) N ss, B.G[r]? = some (N, ss) → N ∈ Ns) {e0 : Ent} (h : RoundOk B i j e0 e) (z : nfin B i j Ns e0 = 0) : LeastAt B e i j := by
  have fin : ∀ N ∈ Ns, LeastO (TreeC B N i j) (e0.nm N) := fun N hN => by
    unfold nfin at z
    have q := List.countP_eq_zero.mp z N hN
    by_cases f : LeastO (TreeC B N i j) (e0.nm N)
    · exact f
    · rw [decide_eq_false f] at q
      exact (q rfl).elim
  obtain ⟨u1, u2⟩ := h.up (fun _ => True) (fun _ => True) ⟨fun _ _ _ _ => trivial, fun _ _ _ _ => trivial⟩ fun N c m _ => (fin N (tree_in hk cover m)).up m
  exact ⟨fun N => LeastO.of (h.snd.nm N) fun c m => u1 N c m trivial, fun r d => LeastO.of (h.snd.rs r d) fun c m => u2 r d c m trivial⟩
/-- behind t rounds, where there are m names -/
structure Prog (B : Pb) (i j : Nat) (Ns : List Str) (t : Nat) (e : Ent) : Prop where
  snd : SoundAt B e i j
  few : nfin B i j Ns e ≤ Ns.length - t
  done : Ns.length + 1 ≤ t → LeastAt B e i j
theorem Prog.start (Ns : List Str) (snd : SoundAt B e i j) : Prog B i j Ns 0 e := by
  refine ⟨snd, ?_, fun h => absurd h (Nat.not_succ_le_zero _)⟩
  unfold nfin
  exact List.countP_le_length
theorem Prog.step (ok : PbOk B) (hk : B.kn i j = none) {Ns : List Str} (cover : ∀ (r : Nat) N ss, B.G[r]? = some (N, ss) → N ∈ Ns) {t : Nat} {e0 : Ent} (h : Prog B i j Ns t e0) (k : RoundOk B i j e0 e) : Prog B i j Ns (t + 1) e := by
  refine ⟨k.snd, ?_, fun q => k.done hk cover (Ns := Ns) ?_⟩
  · have := k.fewer ok hk cover h.snd
    have := h.few
    omega
  · have := h.few
    omega
end
end Lb

set_option Elab.async false
set_option linter.all false
set_option maxRecDepth 100000
set_option maxHeartbeats 4000000
/-! x < y of data; costs, entries and tables in the heap. -/
namespace Ld
open PySem PySem.Spec PyProof.Rows L2 Lr Lb
def rLtD (K : PySem.W.Frag) : R2 := fun x y H Q => ∃ d e, Dp K H x d ∧ Dp K H y e ∧ PySem.W.alike d e = true ∧ d ≠ .none ∧ d.depth ≤ 64 ∧ Q (.bl (PySem.W.dataLt d e)) H
theorem op_ltD {X : Cx} (hu : X.A.units + 65 < cLine) : OpR X (compareOp .Lt) (rLtD X.K) := by
  intro pins s σ H x y v u Q I rx ry h
  obtain ⟨d, e, hd, he, al, nn, dep, q⟩ := h
  obtain ⟨as, r1⟩ := Dp.reads I d x v hd rx
  obtain ⟨bs, r2⟩ := Dp.reads I e y u he ry
  have : min d.depth e.depth ≤ d.depth := Nat.min_le_left _ _
  exact PySem.W.rcLt_alike d e X.A s v u as bs r1 r2 al nn (by omega) X.prog X.w X.xe _ ⟨.bl _, H, I, rfl, q⟩
/-- a cost as data -/
def cD (c : Cost) : PyData := .tuple [.int c.1, .int c.2]
open PySem.W in
theorem cost_lt (a b : Cost) : dataLt (cD a) (cD b) = decide (a.1 < b.1 ∨ (a.1 = b.1 ∧ a.2 < b.2)) := by
  unfold cD
  rw [dataLt_tuple]
  have al : ∀ x y : Int, alike (.int x) (.int y) = true := fun x y => by simp [alike]
  by_cases e : a.1 = b.1
  · have ev : PyData.eqv (.int a.1) (.int b.1) = true := by simp [PyData.eqv, e]
    rw [dataLt_all_yes (al _ _) ev]
    by_cases e2 : a.2 = b.2
    · have ev2 : PyData.eqv (.int a.2) (.int b.2) = true := by simp [PyData.eqv, e2]
      rw [dataLt_all_yes (al _ _) ev2]
      rw [show lexLt itemOrd (keyToksAll []) (keyToksAll []) = false from by decide +kernel]
      refine (decide_eq_false ?_).symm
      omega
    · have ev2 : PyData.eqv (.int a.2) (.int b.2) = false := by simp [PyData.eqv, e2]
      rw [dataLt_all_no (al _ _) ev2, dataLt_int, Bool.eq_iff_iff, decide_eq_true_eq, decide_eq_true_eq]
      omega
  · have ev : PyData.eqv (.int a.1) (.int b.1) = false := by simp [PyData.eqv, e]
    rw [dataLt_all_no (al _ _) ev, dataLt_int, Bool.eq_iff_iff, decide_eq_true_eq, decide_eq_true_eq]
    omega
theorem cD_alike (a b : Cost) : PySem.W.alike (cD a) (cD b) = true := by simp [cD, PySem.W.alike, PySem.W.alikeAll]
theorem cD_shaped (a : Cost) : SeqAt.shaped (cD a) = true := by
  refine shaped_mk ?_ (by simp [cD, PyData.depth, PyData.depthAll])
  simp [cD, PyData.canLay0, PyData.canLayAll0]
/-- the value of a cost, or None -/
def CostV (H : Hp) (v : V) : Option Cost → Prop
  | none => v = .non
  | some c => ∃ t, v = .ref t ∧ H t = some (.tup [.int c.1, .int c.2])
theorem CostV.up {A B : Hp} (u : Up A B) {v : V} : ∀ {o : Option Cost}, CostV A v o → CostV B v o
  | none, h => h
  | some _, ⟨t, e, h⟩ => ⟨t, e, u.tup h⟩
theorem CostV.dp {K : PySem.W.Frag} {H : Hp} {v : V} {c : Cost} (h : CostV H v (some c)) : Dp K H v (cD c) := by
  obtain ⟨t, rfl, h⟩ := h
  exact .tup (SqT.of h) (.cons (.int _) (.cons (.int _) .nil))
def kN (N : Str) : List Key := [sk "name", sk N]
def kR (r d : Nat) : List Key := [sk "rest", Sum.inl (r : Int), Sum.inl (d : Int)]
def kS (i j : Nat) : List Key := [Sum.inl (i : Int), Sum.inl (j : Int)]
theorem kN_ne (N : Str) (r d : Nat) : kN N ≠ kR r d := fun h => by
  have := congrArg List.length h
  cases this
theorem kN_inj {N M : Str} (h : kN N = kN M) : N = M := by
  unfold kN at h
  simp at h
  exact h
theorem kR_inj {r d r2 d2 : Nat} (h : kR r d = kR r2 d2) : r = r2 ∧ d = d2 := by
  unfold kR at h
  simp at h
  exact ⟨Int.ofNat_inj.mp h.1, Int.ofNat_inj.mp h.2⟩
theorem kS_inj {i j a b : Nat} (h : kS i j = kS a b) : i = a ∧ j = b := by
  unfold kS at h
  simp at h
  exact ⟨Int.ofNat_inj.mp h.1, Int.ofNat_inj.mp h.2⟩
/-- the dict of a stretch's entries -/
structure EntK (H : Hp) (G : List Rule) (kvs : List (List Key × V)) (e : Ent) : Prop where
  nm : ∀ N, (∃ r ∈ G, r.1 = N) → ∃ v, valV kvs (kN N) = some v ∧ CostV H v (e.nm N)
  rs : ∀ (r d : Nat) N ss, G[r]? = some (N, ss) → d ≤ ss.length → ∃ v, valV kvs (kR r d) = some v ∧ CostV H v (e.rs r d)
  ks : ∀ p ∈ kvs, (∃ N, (∃ r ∈ G, r.1 = N) ∧ p.1 = kN N) ∨ ∃ (r d : Nat) (N : Str) (ss : List Str), G[r]? = some (N, ss) ∧ d ≤ ss.length ∧ p.1 = kR r d
  nd : (kvs.map (·.1)).Nodup
theorem EntK.up {A B : Hp} (u : Up A B) {G : List Rule} {kvs : List (List Key × V)} {e : Ent} (h : EntK A G kvs e) : EntK B G kvs e := by
  refine ⟨fun N q => ?_, fun r d N ss h1 h2 => ?_, h.ks, h.nd⟩
  · obtain ⟨v, e1, c⟩ := h.nm N q
    exact ⟨v, e1, c.up u⟩
  · obtain ⟨v, e1, c⟩ := h.rs r d N ss h1 h2
    exact ⟨v, e1, c.up u⟩
/-- the table of a row of n signs: the dict of stretches -/
structure TabK (H : Hp) (G : List Rule) (n : Nat) (F : List (List Key × V)) (T : Nat → Nat → Ent) : Prop where
  at_ : ∀ i j, i ≤ j → j ≤ n → ∃ d kvs, valV F (kS i j) = some (.ref d) ∧ H d = some (.dT kvs) ∧ EntK H G kvs (T i j)
  ks : ∀ p ∈ F, ∃ i j, i ≤ j ∧ j ≤ n ∧ p.1 = kS i j
  nd : (F.map (·.1)).Nodup
  apart : ∀ p ∈ F, ∀ q ∈ F, p.2 = q.2 → p.1 = q.1
theorem TabK.up {A B : Hp} (u : Up A B) {G : List Rule} {n : Nat} {F : List (List Key × V)} {T : Nat → Nat → Ent} (h : TabK A G n F T) : TabK B G n F T := by
  refine ⟨fun i j h1 h2 => ?_, h.ks, h.nd, h.apart⟩
  obtain ⟨d, kvs, e1, e2, e3⟩ := h.at_ i j h1 h2
  exact ⟨d, kvs, e1, u.dT e2, e3.up u⟩
theorem valV_at2 : ∀ {kvs : List (List Key × V)} {p : List Key × V}, (kvs.map (·.1)).Nodup → p ∈ kvs → valV kvs p.1 = some p.2
  | q :: r, p, nd, h => by
    rw [List.map_cons, List.nodup_cons] at nd
    rcases List.mem_cons.mp h with e | m
    · rw [e]
      exact valV_pos rfl
    · have ne : ¬ q.1 = p.1 := fun z => nd.1 (by rw [z]; exact List.mem_map.mpr ⟨p, m, rfl⟩)
      rw [valV_neg ne]
      exact valV_at2 nd.2 m
theorem nodup_le2 {α : Type} [DecidableEq α] : ∀ {l m : List α}, l.Nodup → (∀ x ∈ l, x ∈ m) → l.length ≤ m.length
  | [], _, _, _ => Nat.zero_le _
  | x :: l, m, nd, h => by
    have hx := h x List.mem_cons_self
    have h2 := nodup_le2 (l := l) (m := m.erase x) (List.nodup_cons.mp nd).2 fun y hy => by
      have ne : y ≠ x := fun e => (List.nodup_cons.mp nd).1 (e ▸ hy)
      exact (List.mem_erase_of_ne ne).mpr (h y (List.mem_cons_of_mem _ hy))
    have h3 := List.length_erase_of_mem hx
    have h4 := List.length_pos_of_mem hx
    rw [List.length_cons]
    omega
theorem key_in {kvs : List (List Key × V)} {k : List Key} {v : V} (h : valV kvs k = some v) : k ∈ kvs.map (·.1) := List.mem_map.mpr ⟨(k, v), valV_from h, rfl⟩
theorem CostV.eqT {K : PySem.W.Frag} {H : Hp} {v u : V} {o : Option Cost} (h : CostV H v o) (k : CostV H u o) : EqT K H 1 v u := by
  cases o with
  | none =>
    rw [show v = .non from h, show u = .non from k]
    exact .inl ⟨rfl, rfl⟩
  | some c => exact .inr (.inr (.inl ⟨cD c, h.dp, k.dp, cD_shaped c⟩))
/-- two dicts of the same entries are equal -/
theorem EntK.eqT {K : PySem.W.Frag} {H : Hp} {G : List Rule} {ks ls : List (List Key × V)} {e : Ent} (h : EntK H G ks e) (k : EntK H G ls e) : ks.length = ls.length ∧ ∀ p ∈ ks, ∃ u, valV ls p.1 = some u ∧ EqT K H 1 p.2 u := by
  have look : ∀ {ks ls : List (List Key × V)}, EntK H G ks e → EntK H G ls e → ∀ p ∈ ks, ∃ u, valV ls p.1 = some u ∧ EqT K H 1 p.2 u := fun {ks ls} h k p hp => by
    have v1 := valV_at2 h.nd hp
    rcases h.ks p hp with ⟨N, hN, e1⟩ | ⟨r, d, N, ss, h1, h2, e1⟩
    · obtain ⟨v, ev, cv⟩ := h.nm N hN
      obtain ⟨u, eu, cu⟩ := k.nm N hN
      rw [e1, ev] at v1
      rw [e1]
      exact ⟨u, eu, by rw [← Option.some.inj v1]; exact cv.eqT cu⟩
    · obtain ⟨v, ev, cv⟩ := h.rs r d N ss h1 h2
      obtain ⟨u, eu, cu⟩ := k.rs r d N ss h1 h2
      rw [e1, ev] at v1
      rw [e1]
      exact ⟨u, eu, by rw [← Option.some.inj v1]; exact cv.eqT cu⟩
  have sub : ∀ {ks ls : List (List Key × V)}, EntK H G ks e → EntK H G ls e → ks.length ≤ ls.length := fun {ks ls} h k => by
    have := nodup_le2 h.nd fun x hx => by
      obtain ⟨p, hp, rfl⟩ := List.mem_map.mp hx
      obtain ⟨u, eu, _⟩ := look h k p hp
      exact key_in eu
    rwa [List.length_map, List.length_map] at this
  exact ⟨Nat.le_antisymm (sub h k) (sub k h), look h k⟩
/-- two tables of the same entries are equal -/
theorem TabK.eqT {K : PySem.W.Frag} {H : Hp} {G : List Rule} {n : Nat} {F F2 : List (List Key × V)} {T : Nat → Nat → Ent} (h : TabK H G n F T) (k : TabK H G n F2 T) : F.length = F2.length ∧ ∀ p ∈ F, ∃ u, valV F2 p.1 = some u ∧ EqT K H 2 p.2 u := by
  have look : ∀ {F F2 : List (List Key × V)}, TabK H G n F T → TabK H G n F2 T → ∀ p ∈ F, ∃ u, valV F2 p.1 = some u ∧ EqT K H 2 p.2 u := fun {F F2} h k p hp => by
    have v1 := valV_at2 h.nd hp
    obtain ⟨i, j, h1, h2, e1⟩ := h.ks p hp
    obtain ⟨d, kvs, e2, e3, e4⟩ := h.at_ i j h1 h2
    obtain ⟨d2, kvs2, f2, f3, f4⟩ := k.at_ i j h1 h2
    rw [e1, e2] at v1
    rw [e1]
    obtain ⟨l, z⟩ := e4.eqT (K := K) f4
    exact ⟨_, f2, .inr (.inr (.inr (.inl ⟨d, d2, kvs, kvs2, (Option.some.inj v1).symm, rfl, e3, f3, l, z⟩)))⟩
  have sub : ∀ {F F2 : List (List Key × V)}, TabK H G n F T → TabK H G n F2 T → F.length ≤ F2.length := fun {F F2} h k => by
    have := nodup_le2 h.nd fun x hx => by
      obtain ⟨p, hp, rfl⟩ := List.mem_map.mp hx
      obtain ⟨u, eu, _⟩ := look h k p hp
      exact key_in eu
    rwa [List.length_map, List.length_map] at this
  exact ⟨Nat.le_antisymm (sub h k) (sub k h), look h k⟩
/-- where both hold the least costs, the entries agree -/
theorem ent_agree {B : Pb} {i j : Nat} {a b : Ent} (h : LeastAt B a i j) (k : LeastAt B b i j) : a = b := by
  obtain ⟨n1, r1⟩ := a
  obtain ⟨n2, r2⟩ := b
  have e1 : n1 = n2 := funext fun N => least_one (h.nm N) (k.nm N)
  have e2 : r1 = r2 := funext fun r => funext fun d => least_one (h.rs r d) (k.rs r d)
  rw [e1, e2]
end Ld

set_option Elab.async false
set_option linter.all false
set_option maxRecDepth 100000
set_option maxHeartbeats 4000000
/-! The least over the ends of a symbol. -/
namespace Ld
open PySem PySem.Spec PyProof.Rows L2 Lr Lb
/-- does a symbol begin with a small letter -/
def isLow (z : Str) : Bool := match z.cps.toList with
  | c :: _ => decide (c ∈ ("abcdefghijklmnopqrstuvwxyz" : Str).cps.toList)
  | [] => false
def pbOf (G : List Rule) (Z : Prc) (row : List Str) (kn : Nat → Nat → Option Ent) : Pb := ⟨G, leafP Z row, isLow, kn⟩
theorem pbOf_ok {G : List Rule} {Z : Prc} (ok : PrcOk Z) {row : List Str} {kn : Nat → Nat → Option Ent} (hk : ∀ i j e, kn i j = some e → (∀ N c, e.nm N = some c → 0 ≤ c.1 ∧ 0 ≤ c.2) ∧ ∀ r d c, e.rs r d = some c → 0 ≤ c.1 ∧ 0 ≤ c.2) : PbOk (pbOf G Z row kn) :=
  ⟨fun k i e => (leafP_in ok row k i e).1, hk⟩
/-- the cost of the symbol at the dot over i to e, by the entries -/
def headC (B : Pb) (T : Nat → Nat → Ent) (k : Str) (i e : Nat) : Option Cost := if B.isN k = true then (T i e).nm k else some (B.leaf k i e, 1)
/-- what the end e gives -/
def endC (B : Pb) (T : Nat → Nat → Ent) (k : Str) (r d i j e : Nat) : Option Cost := match headC B T k i e, (T e j).rs r (d + 1) with
  | some a, some b => some (a.1 + b.1, a.2 + b.2)
  | _, _ => none
/-- what the ends below lim give -/
def UpC (B : Pb) (T : Nat → Nat → Ent) (k : Str) (r d i j lim : Nat) (c : Cost) : Prop := ∃ e, i ≤ e ∧ e < lim ∧ endC B T k r d i j e = some c
theorem upC_start {B : Pb} {T : Nat → Nat → Ent} {k : Str} {r d i j : Nat} : LeastO (UpC B T k r d i j i) none := fun c ⟨e, h1, h2, _⟩ => by omega
theorem endC_is {B : Pb} {T : Nat → Nat → Ent} {k : Str} {r d i j e : Nat} {c : Cost} : endC B T k r d i j e = some c ↔ ∃ a b, (T e j).rs r (d + 1) = some b ∧ ((B.isN k = false ∧ a = (B.leaf k i e, 1)) ∨ (B.isN k = true ∧ (T i e).nm k = some a)) ∧ c = (a.1 + b.1, a.2 + b.2) := by
  unfold endC headC
  by_cases n : B.isN k = true
  · rw [if_pos n]
    cases h1 : (T i e).nm k with
    | none =>
      constructor
      · intro h
        cases h
      · rintro ⟨a, b, _, ⟨q, _⟩ | ⟨_, q⟩, _⟩
        · rw [n] at q
          cases q
        · cases q
    | some a =>
      cases h2 : (T e j).rs r (d + 1) with
      | none =>
        constructor
        · intro h
          cases h
        · rintro ⟨_, b, q, _⟩
          cases q
      | some b =>
        constructor
        · intro h
          exact ⟨a, b, rfl, .inr ⟨n, rfl⟩, (Option.some.inj h).symm⟩
        · rintro ⟨a2, b2, q1, ⟨q, _⟩ | ⟨_, q⟩, rfl⟩
          · rw [n] at q
            cases q
          · cases q
            cases q1
            rfl
  · have n2 : B.isN k = false := by
      cases q : B.isN k with
      | true => exact (n q).elim
      | false => rfl
    rw [if_neg n]
    cases h2 : (T e j).rs r (d + 1) with
    | none =>
      constructor
      · intro h
        cases h
      · rintro ⟨_, b, q, _⟩
        cases q
    | some b =>
      constructor
      · intro h
        exact ⟨_, b, rfl, .inl ⟨n2, rfl⟩, (Option.some.inj h).symm⟩
      · rintro ⟨a2, b2, q1, ⟨_, rfl⟩ | ⟨q, _⟩, rfl⟩
        · cases q1
          rfl
        · exact (n q).elim
theorem upC_end {B : Pb} {T : Nat → Nat → Ent} {k N : Str} {ss : List Str} {r d i j : Nat} (hr : B.G[r]? = some (N, ss)) (hs : ss[d]? = some k) {o : Option Cost} (h : LeastO (UpC B T k r d i j (j + 1)) o) : LeastO (CombC B T r d i j) o := by
  have iff : ∀ c, CombC B T r d i j c ↔ UpC B T k r d i j (j + 1) c := fun c => by
    constructor
    · rintro ⟨N2, s2, hr2, ⟨e1, _, _⟩ | ⟨k2, e, a, b, hs2, h1, h2, hb, ha, hc⟩⟩
      · rw [hr] at hr2
        cases hr2
        have := (List.getElem?_eq_some_iff.mp hs).1
        omega
      · rw [hr] at hr2
        cases hr2
        rw [hs] at hs2
        cases hs2
        exact ⟨e, h1, by omega, endC_is.mpr ⟨a, b, hb, ha, hc⟩⟩
    · rintro ⟨e, h1, h2, he⟩
      obtain ⟨a, b, hb, ha, hc⟩ := endC_is.mp he
      exact ⟨N, ss, hr, .inr ⟨k, e, a, b, hs, h1, by omega, hb, ha, hc⟩⟩
  have eq : CombC B T r d i j = UpC B T k r d i j (j + 1) := funext fun c => propext (iff c)
  rw [eq]
  exact h
theorem comb_full {B : Pb} {T : Nat → Nat → Ent} {N : Str} {ss : List Str} {r i j : Nat} (hr : B.G[r]? = some (N, ss)) : LeastO (CombC B T r ss.length i j) (if i = j then some (0, 0) else none) := by
  refine LeastO.of (fun c h => ?_) fun c h => ?_
  · split at h
    · rename_i e
      exact ⟨N, ss, hr, .inl ⟨rfl, e, (Option.some.inj h).symm⟩⟩
    · cases h
  · obtain ⟨N2, s2, hr2, ⟨_, e, rfl⟩ | ⟨k2, e, a, b, hs2, _⟩⟩ := h
    · rw [if_pos e]
      exact ⟨_, rfl, cle_refl _⟩
    · rw [hr] at hr2
      cases hr2
      have := (List.getElem?_eq_some_iff.mp hs2).1
      omega
/-- the better one of the two -/
def better (b x : Option Cost) : Option Cost := match b, x with
  | b, none => b
  | none, some x => some x
  | some b, some x => if x.1 < b.1 ∨ (x.1 = b.1 ∧ x.2 < b.2) then some x else some b
theorem better_least {S S2 : Cost → Prop} {b x : Option Cost} (h : LeastO S b) (iff : ∀ c, S2 c ↔ S c ∨ x = some c) : LeastO S2 (better b x) := by
  refine LeastO.of (fun c q => (iff c).mpr ?_) fun c q => ?_
  · cases x with
    | none =>
      have e : b = some c := by
        cases b <;> exact q
      left
      rw [e] at h
      exact h.1
    | some x =>
      cases b with
      | none => exact .inr q
      | some b =>
        unfold better at q
        dsimp only at q
        split at q
        · exact .inr q
        · left
          rw [← Option.some.inj q]
          exact h.1
  · rcases (iff c).mp q with s | s
    · obtain ⟨d, e, l⟩ := h.up s
      rw [e]
      cases x with
      | none => exact ⟨d, rfl, l⟩
      | some x =>
        unfold better
        dsimp only
        split
        · refine ⟨x, rfl, cle_trans ?_ l⟩
          unfold cle
          omega
        · exact ⟨d, rfl, l⟩
    · rw [s]
      cases b with
      | none => exact ⟨c, rfl, cle_refl c⟩
      | some b =>
        unfold better
        dsimp only
        split
        · exact ⟨c, rfl, cle_refl c⟩
        · refine ⟨b, rfl, ?_⟩
          unfold cle
          omega
theorem upC_step {B : Pb} {T : Nat → Nat → Ent} {k : Str} {r d i j lim : Nat} (h : i ≤ lim) {b : Option Cost} (l : LeastO (UpC B T k r d i j lim) b) : LeastO (UpC B T k r d i j (lim + 1)) (better b (endC B T k r d i j lim)) := by
  refine better_least l fun c => ?_
  constructor
  · rintro ⟨e, h1, h2, he⟩
    rcases Nat.lt_succ_iff_lt_or_eq.mp h2 with q | q
    · exact .inl ⟨e, h1, q, he⟩
    · rw [q] at he
      exact .inr he
  · rintro (⟨e, h1, h2, he⟩ | he)
    · exact ⟨e, h1, by omega, he⟩
    · exact ⟨lim, h, by omega, he⟩
end Ld

set_option Elab.async false
set_option linter.all false
set_option maxRecDepth 100000
set_option maxHeartbeats 4000000
/-! A table whose entries of one stretch are changed. -/
namespace Ld
open PySem PySem.Spec PyProof.Rows L2 Lr Lb
/-- all but d stays -/
def But (d : Addr) (A B : Hp) : Prop := ∀ b o, b ≠ d → A b = some o → B b = some o
theorem But.of_same {d : Addr} {A B : Hp} (h : Same A B) : But d A B := fun b o _ e => h b o e
theorem But.trans {d : Addr} {A B C : Hp} (h : But d A B) (k : But d B C) : But d A C := fun b o n e => k b o n (h b o n e)
theorem But.upd {d : Addr} {A B : Hp} {o : HO} (h : But d A B) : But d A (L2.upd B d o) := fun b x n e => by
  rw [upd_ne n]
  exact h b x n e
theorem But.same {d : Addr} {A B : Hp} (h : But d A B) (n : A d = none) : Same A B := fun b o e => h b o (fun z => by rw [z, n] at e; cases e) e
section
variable {A B : Hp} {d : Addr} {kd : List (List Key × V)}
theorem But.tup (h : But d A B) (hd : A d = some (.dT kd)) {a : Addr} {xs : List V} (e : A a = some (.tup xs)) : B a = some (.tup xs) := h a _ (fun z => by rw [z, hd] at e; cases e) e
theorem But.lst (h : But d A B) (hd : A d = some (.dT kd)) {a : Addr} {xs : List V} (e : A a = some (.lst xs)) : B a = some (.lst xs) := h a _ (fun z => by rw [z, hd] at e; cases e) e
theorem CostV.but (h : But d A B) (hd : A d = some (.dT kd)) {v : V} : ∀ {o : Option Cost}, CostV A v o → CostV B v o
  | none, q => q
  | some _, ⟨t, e, q⟩ => ⟨t, e, h.tup hd q⟩
theorem EntK.but (h : But d A B) (hd : A d = some (.dT kd)) {G : List Rule} {kvs : List (List Key × V)} {e : Ent} (q : EntK A G kvs e) : EntK B G kvs e := by
  refine ⟨fun N z => ?_, fun r d N ss h1 h2 => ?_, q.ks, q.nd⟩
  · obtain ⟨v, e1, c⟩ := q.nm N z
    exact ⟨v, e1, c.but h hd⟩
  · obtain ⟨v, e1, c⟩ := q.rs r d N ss h1 h2
    exact ⟨v, e1, c.but h hd⟩
theorem RuleA.but (h : But d A B) (hd : A d = some (.dT kd)) {v : V} {r : Rule} (q : RuleA A v r) : RuleA B v r := by
  obtain ⟨t, l, e, h1, h2⟩ := q
  exact ⟨t, l, e, h.tup hd h1, h.lst hd h2⟩
theorem GrA.but (h : But d A B) (hd : A d = some (.dT kd)) : ∀ {vs : List V} {G : List Rule}, GrA A vs G → GrA B vs G
  | [], [], _ => True.intro
  | v :: vs, r :: G, q => ⟨RuleA.but h hd q.1, GrA.but h hd q.2⟩
  | [], _ :: _, q => q.elim
  | _ :: _, [], q => q.elim
theorem GraA.but (h : But d A B) (hd : A d = some (.dT kd)) {g : Addr} {G : List Rule} (q : GraA A g G) : GraA B g G := by
  obtain ⟨vs, e, z⟩ := q
  exact ⟨vs, h.lst hd e, GrA.but h hd z⟩
/-- the table behind a change of the entries of one stretch -/
theorem TabK.but {G : List Rule} {n : Nat} {F : List (List Key × V)} {T : Nat → Nat → Ent} (q : TabK A G n F T) {i j : Nat} (ij : i ≤ j) (jn : j ≤ n) (hF : valV F (kS i j) = some (.ref d)) (hd : A d = some (.dT kd)) (h : But d A B)
    {kvs : List (List Key × V)} {e : Ent} (hd2 : B d = some (.dT kvs)) (he : EntK B G kvs e) : TabK B G n F (wi T i j e) := by
  refine ⟨fun a b h1 h2 => ?_, q.ks, q.nd, q.apart⟩
  by_cases w : a = i ∧ b = j
  · rw [w.1, w.2, wi_same]
    exact ⟨d, kvs, hF, hd2, he⟩
  · obtain ⟨d2, kv2, e1, e2, e3⟩ := q.at_ a b h1 h2
    rw [wi_other w]
    refine ⟨d2, kv2, e1, h d2 _ (fun z => w ?_) e2, e3.but h hd⟩
    have k1 := valV_from e1
    have k2 := valV_from hF
    have := q.apart _ k1 _ k2 (by show V.ref d2 = V.ref d; rw [z])
    exact kS_inj this
end
theorem put_mem2 {kvs : List (List Key × V)} {k : List Key} {v : V} : ∀ p ∈ putK kvs k v, p ∈ kvs ∨ p = (k, v) := fun p hp => by
  unfold putK at hp
  split at hp
  · obtain ⟨q, hq, e⟩ := List.mem_map.mp hp
    split at e
    · rename_i z
      right
      rw [← e, z]
    · left
      rw [← e]
      exact hq
  · rcases List.mem_append.mp hp with m | m
    · exact .inl m
    · exact .inr (List.mem_singleton.mp m)
theorem put_nodup2 {kvs : List (List Key × V)} {k : List Key} {v : V} (h : (kvs.map (·.1)).Nodup) : ((putK kvs k v).map (·.1)).Nodup := by
  unfold putK
  split
  · have e : (kvs.map fun kv => if kv.1 = k then (kv.1, v) else kv).map (·.1) = kvs.map (·.1) := by
      rw [List.map_map]
      refine List.map_congr_left fun q hq => ?_
      show (if q.1 = k then (q.1, v) else q).1 = q.1
      split <;> rfl
    rw [e]
    exact h
  · rename_i out
    rw [List.map_append, List.nodup_append]
    refine ⟨h, by simp, fun a ha b hb e => out ?_⟩
    rw [List.map_singleton, List.mem_singleton] at hb
    obtain ⟨q, hq, e2⟩ := List.mem_map.mp ha
    refine List.any_eq_true.mpr ⟨q, hq, decide_eq_true ?_⟩
    rw [e2, e, hb]
/-- entries with one put anew -/
theorem EntK.putR {H : Hp} {G : List Rule} {kvs : List (List Key × V)} {e : Ent} (h : EntK H G kvs e) {r d : Nat} {N : Str} {ss : List Str} (hr : G[r]? = some (N, ss)) (hd : d ≤ ss.length) {v : V} {o : Option Cost} (hv : CostV H v o) : EntK H G (putK kvs (kR r d) v) (setR e r d o) := by
  refine ⟨fun M hM => ?_, fun a b M ts h1 h2 => ?_, fun p hp => ?_, ?_⟩
  · obtain ⟨u, e1, c⟩ := h.nm M hM
    refine ⟨u, ?_, c⟩
    rw [valV_put, if_neg (kN_ne M r d)]
    exact e1
  · rw [valV_put]
    by_cases w : a = r ∧ b = d
    · rw [w.1, w.2, if_pos rfl]
      refine ⟨v, rfl, ?_⟩
      show CostV H v (if r = r ∧ d = d then o else e.rs r d)
      rw [if_pos ⟨rfl, rfl⟩]
      exact hv
    · rw [if_neg fun z => w (kR_inj z)]
      obtain ⟨u, e1, c⟩ := h.rs a b M ts h1 h2
      refine ⟨u, e1, ?_⟩
      show CostV H u (if a = r ∧ b = d then o else e.rs a b)
      rw [if_neg w]
      exact c
  · rcases put_mem2 p hp with m | rfl
    · exact h.ks p m
    · exact .inr ⟨r, d, N, ss, hr, hd, rfl⟩
  · exact put_nodup2 h.nd
theorem EntK.putN {H : Hp} {G : List Rule} {kvs : List (List Key × V)} {e : Ent} (h : EntK H G kvs e) {N : Str} (hN : ∃ r ∈ G, r.1 = N) {v : V} {o : Option Cost} (hv : CostV H v o) : EntK H G (putK kvs (kN N) v) (setN e N o) := by
  refine ⟨fun M hM => ?_, fun a b M ts h1 h2 => ?_, fun p hp => ?_, ?_⟩
  · rw [valV_put]
    by_cases w : M = N
    · rw [w, if_pos rfl]
      refine ⟨v, rfl, ?_⟩
      show CostV H v (if N = N then o else e.nm N)
      rw [if_pos rfl]
      exact hv
    · rw [if_neg fun z => w (kN_inj z)]
      obtain ⟨u, e1, c⟩ := h.nm M hM
      refine ⟨u, e1, ?_⟩
      show CostV H u (if M = N then o else e.nm M)
      rw [if_neg w]
      exact c
  · obtain ⟨u, e1, c⟩ := h.rs a b M ts h1 h2
    refine ⟨u, ?_, c⟩
    rw [valV_put, if_neg (Ne.symm (kN_ne N a b))]
    exact e1
  · rcases put_mem2 p hp with m | rfl
    · exact h.ks p m
    · exact .inl ⟨N, hN, rfl⟩
  · exact put_nodup2 h.nd
/-- None or a cost, as data -/
def oD : Option Cost → PyData
  | none => .none
  | some c => cD c
theorem CostV.oD {K : PySem.W.Frag} {H : Hp} {v : V} : ∀ {o : Option Cost}, CostV H v o → Dp K H v (oD o)
  | none, h => by
    rw [show v = .non from h]
    exact .non
  | some _, h => h.dp
theorem oD_shaped : ∀ o : Option Cost, SeqAt.shaped (oD o) = true
  | none => shaped_mk rfl (by simp [oD, PyData.depth])
  | some c => cD_shaped c
theorem oD_eqv (a b : Option Cost) : PyData.eqv (oD a) (oD b) = decide (a = b) := by
  cases a with
  | none =>
    cases b with
    | none => simp [oD, PyData.eqv]
    | some c => simp [oD, cD, PyData.eqv]
  | some a =>
    cases b with
    | none => simp [oD, cD, PyData.eqv]
    | some b =>
      rw [Bool.eq_iff_iff, decide_eq_true_eq]
      simp only [oD, cD, PyData.eqv, PyData.eqvAll, Bool.and_true, Bool.and_eq_true, Option.some.injEq]
      constructor
      · intro h
        exact Prod.ext (by simpa using h.1) (by simpa using h.2)
      · rintro rfl
        simp
/-- a round in which nothing moved so far: rules before r, and r from the dot d on -/
structure Still (B : Pb) (T : Nat → Nat → Ent) (i j : Nat) (r d : Nat) : Prop where
  rs : ∀ a b N ss, B.G[a]? = some (N, ss) → b ≤ ss.length → (a < r ∨ (a = r ∧ d ≤ b)) → LeastO (CombC B T a b i j) ((T i j).rs a b)
  nm : ∀ (a : Nat) N ss c, B.G[a]? = some (N, ss) → a < r → (T i j).rs a 0 = some c → ∃ x, (T i j).nm N = some x ∧ cle x (c.1, c.2 + 1)
/-- all of a grammar, nothing moved: the least entries -/
theorem Still.least {B : Pb} {T : Nat → Nat → Ent} {i j d : Nat} (h : Still B T i j B.G.length d) (ij : i ≤ j) (short : Short B T i j) (hk : B.kn i j = none) (snd : SoundAt B (T i j) i j) : LeastAt B (T i j) i j := by
  have e : wi T i j (T i j) = T := funext fun a => funext fun b => by
    by_cases w : a = i ∧ b = j
    · rw [w.1, w.2, wi_same]
    · rw [wi_other w]
  refine closed_least ij short hk snd (fun r d => ?_) fun r N ss c hr hc => h.nm r N ss c hr (List.getElem?_eq_some_iff.mp hr).1 hc
  rw [e]
  refine LeastO.of (fun c q => ?_) fun c q => ?_
  · obtain ⟨N, ss, hr, hd⟩ := rest_in hk (snd.rs r d c q)
    have := h.rs r d N ss hr hd (.inl (List.getElem?_eq_some_iff.mp hr).1)
    rw [q] at this
    exact this.1
  · obtain ⟨N, ss, hr, z⟩ := id q
    have hd : d ≤ ss.length := by
      rcases z with ⟨e1, _⟩ | ⟨k, f, a, b, hs, _⟩
      · omega
      · exact Nat.le_of_lt (List.getElem?_eq_some_iff.mp hs).1
    exact (h.rs r d N ss hr hd (.inl (List.getElem?_eq_some_iff.mp hr).1)).up q
end Ld

set_option Elab.async false
set_option linter.all false
set_option maxRecDepth 100000
set_option maxHeartbeats 4000000
/-! A table of empty entries, while it is made. -/
namespace Ld
open PySem PySem.Spec PyProof.Rows L2 Lr Lb
/-- a dict of Nones at the keys of D -/
structure NonK (D : List Key → Prop) (kvs : List (List Key × V)) : Prop where
  all : ∀ k, D k → valV kvs k = some .non
  ks : ∀ p ∈ kvs, D p.1
  nd : (kvs.map (·.1)).Nodup
theorem NonK.start {D : List Key → Prop} (h : ∀ k, ¬ D k) : NonK D [] := ⟨fun k q => (h k q).elim, (fun _ m => nomatch m), List.nodup_nil⟩
theorem NonK.put {D D2 : List Key → Prop} {kvs : List (List Key × V)} (h : NonK D kvs) {k : List Key} (iff : ∀ x, D2 x ↔ D x ∨ x = k) : NonK D2 (putK kvs k .non) := by
  refine ⟨fun x q => ?_, fun p hp => (iff _).mpr ?_, put_nodup2 h.nd⟩
  · rw [valV_put]
    split
    · rfl
    · rename_i ne
      rcases (iff x).mp q with z | z
      · exact h.all x z
      · exact (ne z).elim
  · rcases put_mem2 p hp with m | rfl
    · exact .inl (h.ks p m)
    · exact .inr rfl
theorem NonK.iff {D D2 : List Key → Prop} {kvs : List (List Key × V)} (h : NonK D kvs) (iff : ∀ x, D2 x ↔ D x) : NonK D2 kvs := ⟨fun k q => h.all k ((iff k).mp q), fun p m => (iff _).mpr (h.ks p m), h.nd⟩
/-- the keys that are there when the names of the first a rules, and the rests before (r, d), are -/
def KeyD (G : List Rule) (a r d : Nat) (k : List Key) : Prop := (∃ (b : Nat) (N : Str) (ss : List Str), b < a ∧ G[b]? = some (N, ss) ∧ k = kN N) ∨
  ∃ (b c : Nat) (N : Str) (ss : List Str), G[b]? = some (N, ss) ∧ c ≤ ss.length ∧ (b < r ∨ (b = r ∧ c < d)) ∧ k = kR b c
theorem keyD_start (G : List Rule) : ∀ k, ¬ KeyD G 0 0 0 k := by
  rintro k (⟨b, N, ss, h, _⟩ | ⟨b, c, N, ss, _, _, h, _⟩)
  · omega
  · omega
theorem keyD_name {G : List Rule} {a d : Nat} {N : Str} {ss : List Str} (h : G[a]? = some (N, ss)) (x : List Key) : KeyD G (a + 1) a d x ↔ KeyD G a a d x ∨ x = kN N := by
  constructor
  · rintro (⟨b, M, ts, h1, h2, rfl⟩ | z)
    · rcases Nat.lt_succ_iff_lt_or_eq.mp h1 with q | q
      · exact .inl (.inl ⟨b, M, ts, q, h2, rfl⟩)
      · rw [q, h] at h2
        cases h2
        exact .inr rfl
    · exact .inl (.inr z)
  · rintro ((⟨b, M, ts, h1, h2, rfl⟩ | z) | rfl)
    · exact .inl ⟨b, M, ts, by omega, h2, rfl⟩
    · exact .inr z
    · exact .inl ⟨a, N, ss, by omega, h, rfl⟩
theorem keyD_rest {G : List Rule} {a r d : Nat} {N : Str} {ss : List Str} (h : G[r]? = some (N, ss)) (hd : d ≤ ss.length) (x : List Key) : KeyD G a r (d + 1) x ↔ KeyD G a r d x ∨ x = kR r d := by
  constructor
  · rintro (z | ⟨b, c, M, ts, h1, h2, h3, rfl⟩)
    · exact .inl (.inl z)
    · by_cases w : b = r ∧ c = d
      · rw [w.1, w.2]
        exact .inr rfl
      · exact .inl (.inr ⟨b, c, M, ts, h1, h2, by omega, rfl⟩)
  · rintro ((z | ⟨b, c, M, ts, h1, h2, h3, rfl⟩) | rfl)
    · exact .inl z
    · exact .inr ⟨b, c, M, ts, h1, h2, by omega, rfl⟩
    · exact .inr ⟨r, d, N, ss, h, hd, by omega, rfl⟩
theorem keyD_next {G : List Rule} {a r : Nat} {N : Str} {ss : List Str} (h : G[r]? = some (N, ss)) (x : List Key) : KeyD G a (r + 1) 0 x ↔ KeyD G a r (ss.length + 1) x := by
  constructor
  · rintro (z | ⟨b, c, M, ts, h1, h2, h3, rfl⟩)
    · exact .inl z
    · refine .inr ⟨b, c, M, ts, h1, h2, ?_, rfl⟩
      by_cases w : b = r
      · rw [w, h] at h1
        cases h1
        exact .inr ⟨w, by omega⟩
      · exact .inl (by omega)
  · rintro (z | ⟨b, c, M, ts, h1, h2, h3, rfl⟩)
    · exact .inl z
    · exact .inr ⟨b, c, M, ts, h1, h2, .inl (by omega), rfl⟩
def ent0 : Ent := ⟨fun _ => none, fun _ _ => none⟩
theorem NonK.ent {H : Hp} {G : List Rule} {kvs : List (List Key × V)} (h : NonK (KeyD G G.length G.length 0) kvs) : EntK H G kvs ent0 := by
  refine ⟨fun N hN => ?_, fun r d N ss h1 h2 => ?_, fun p hp => ?_, h.nd⟩
  · obtain ⟨q, hq, rfl⟩ := hN
    obtain ⟨b, hb⟩ := List.mem_iff_getElem?.mp hq
    exact ⟨.non, h.all _ (.inl ⟨b, q.1, q.2, (List.getElem?_eq_some_iff.mp hb).1, hb, rfl⟩), rfl⟩
  · exact ⟨.non, h.all _ (.inr ⟨r, d, N, ss, h1, h2, .inl (List.getElem?_eq_some_iff.mp h1).1, rfl⟩), rfl⟩
  · rcases h.ks p hp with ⟨b, N, ss, _, h2, e⟩ | ⟨b, c, N, ss, h1, h2, _, e⟩
    · exact .inl ⟨N, ⟨_, List.mem_of_getElem? h2, rfl⟩, e⟩
    · exact .inr ⟨b, c, N, ss, h1, h2, e⟩
/-- a table, as far as it is made -/
structure TabD (H : Hp) (G : List Rule) (D : Nat → Nat → Prop) (F : List (List Key × V)) : Prop where
  at_ : ∀ i j, D i j → ∃ d kvs, valV F (kS i j) = some (.ref d) ∧ H d = some (.dT kvs) ∧ EntK H G kvs ent0
  ks : ∀ p ∈ F, ∃ i j, D i j ∧ p.1 = kS i j
  nd : (F.map (·.1)).Nodup
  apart : ∀ p ∈ F, ∀ q ∈ F, p.2 = q.2 → p.1 = q.1
theorem TabD.start {H : Hp} {G : List Rule} {D : Nat → Nat → Prop} (h : ∀ i j, ¬ D i j) : TabD H G D [] := ⟨fun i j q => (h i j q).elim, (fun _ m => nomatch m), List.nodup_nil, fun _ m => nomatch m⟩
theorem TabD.iff {H : Hp} {G : List Rule} {D D2 : Nat → Nat → Prop} {F : List (List Key × V)} (h : TabD H G D F) (iff : ∀ i j, D2 i j ↔ D i j) : TabD H G D2 F :=
  ⟨fun i j q => h.at_ i j ((iff i j).mp q), fun p m => let ⟨i, j, q, e⟩ := h.ks p m; ⟨i, j, (iff i j).mpr q, e⟩, h.nd, h.apart⟩
theorem TabD.live {H : Hp} {G : List Rule} {D : Nat → Nat → Prop} {F : List (List Key × V)} (h : TabD H G D F) : ∀ p ∈ F, ∃ d kvs, p.2 = .ref d ∧ H d = some (.dT kvs) := fun p hp => by
  obtain ⟨i, j, q, e⟩ := h.ks p hp
  obtain ⟨d, kvs, e1, e2, _⟩ := h.at_ i j q
  have v := valV_at2 h.nd hp
  rw [e, e1] at v
  exact ⟨d, kvs, (Option.some.inj v).symm, e2⟩
theorem TabD.but {A B : Hp} {d : Addr} {kd : List (List Key × V)} {G : List Rule} {D : Nat → Nat → Prop} {F : List (List Key × V)} (h : TabD A G D F) (hd : A d = some (.dT kd)) (out : ∀ p ∈ F, p.2 ≠ .ref d) (b : But d A B) : TabD B G D F := by
  refine ⟨fun i j q => ?_, h.ks, h.nd, h.apart⟩
  obtain ⟨a, kvs, e1, e2, e3⟩ := h.at_ i j q
  refine ⟨a, kvs, e1, b a _ (fun z => out _ (valV_from e1) (by rw [z])) e2, e3.but b hd⟩
theorem TabD.up {A B : Hp} (u : Up A B) {G : List Rule} {D : Nat → Nat → Prop} {F : List (List Key × V)} (h : TabD A G D F) : TabD B G D F := by
  refine ⟨fun i j q => ?_, h.ks, h.nd, h.apart⟩
  obtain ⟨a, kvs, e1, e2, e3⟩ := h.at_ i j q
  exact ⟨a, kvs, e1, u.dT e2, e3.up u⟩
theorem TabD.put {H : Hp} {d : Addr} {kvs : List (List Key × V)} {G : List Rule} {D D2 : Nat → Nat → Prop} {F : List (List Key × V)} (h : TabD H G D F) (out : ∀ p ∈ F, p.2 ≠ .ref d) (hd : H d = some (.dT kvs)) (he : EntK H G kvs ent0) {i j : Nat} (iff : ∀ a b, D2 a b ↔ D a b ∨ (a = i ∧ b = j))
    (nD : ¬ D i j) : TabD H G D2 (putK F (kS i j) (.ref d)) := by
  have nk : valV F (kS i j) = none := by
    cases q : valV F (kS i j) with
    | none => rfl
    | some v =>
      obtain ⟨a, b, hab, e⟩ := h.ks _ (valV_from q)
      obtain ⟨e1, e2⟩ := kS_inj e
      rw [e1, e2] at nD
      exact (nD hab).elim
  refine ⟨fun a b q => ?_, fun p hp => ?_, put_nodup2 h.nd, fun p hp q hq e => ?_⟩
  · rw [valV_put]
    by_cases w : a = i ∧ b = j
    · rw [w.1, w.2, if_pos rfl]
      exact ⟨d, kvs, rfl, hd, he⟩
    · rw [if_neg fun z => w (kS_inj z)]
      rcases (iff a b).mp q with z | z
      · exact h.at_ a b z
      · exact (w z).elim
  · rcases put_mem2 p hp with m | rfl
    · obtain ⟨a, b, hab, e⟩ := h.ks p m
      exact ⟨a, b, (iff a b).mpr (.inl hab), e⟩
    · exact ⟨i, j, (iff i j).mpr (.inr ⟨rfl, rfl⟩), rfl⟩
  · rcases put_mem2 p hp with m | rfl
    · rcases put_mem2 q hq with k | rfl
      · exact h.apart p m q k e
      · exact (out p m e).elim
    · rcases put_mem2 q hq with k | rfl
      · exact (out q k e.symm).elim
      · rfl
theorem TabD.tab {H : Hp} {G : List Rule} {n : Nat} {F : List (List Key × V)} (h : TabD H G (fun i j => i ≤ j ∧ j ≤ n) F) : TabK H G n F (fun _ _ => ent0) :=
  ⟨fun i j h1 h2 => h.at_ i j ⟨h1, h2⟩, fun p m => let ⟨i, j, q, e⟩ := h.ks p m; ⟨i, j, q.1, q.2, e⟩, h.nd, h.apart⟩
end Ld

set_option Elab.async false
set_option linter.all false
set_option maxRecDepth 100000
set_option maxHeartbeats 4000000
/-! A round over the entries of one stretch: what each step gives. -/
namespace Ld
open PySem PySem.Spec PyProof.Rows L2 Lr Lb
/-- a grammar that the table's parts walk over -/
structure GraT (G : List Rule) : Prop where
  name : ∀ r ∈ G, ∀ s ∈ r.2, isLow s = true → ∃ q ∈ G, q.1 = s
  some_ : ∀ r ∈ G, ∀ s ∈ r.2, 0 < s.length ∧ s.length ≤ 100
  few : ∀ r ∈ G, r.2.length ≤ 20
  rules : G.length ≤ 60
theorem setR_self (e : Ent) (r d : Nat) {o : Option Cost} (h : o = e.rs r d) : setR e r d o = e := by
  obtain ⟨n, s⟩ := e
  unfold setR
  have : (fun a b => if a = r ∧ b = d then o else s a b) = s := funext fun a => funext fun b => by
    split
    · rename_i w
      rw [w.1, w.2, h]
    · rfl
  simp only [this]
theorem setN_self (e : Ent) (N : Str) {o : Option Cost} (h : o = e.nm N) : setN e N o = e := by
  obtain ⟨n, s⟩ := e
  unfold setN
  have : (fun M => if M = N then o else n M) = n := funext fun M => by
    split
    · rename_i w
      rw [w, h]
    · rfl
  simp only [this]
section
variable {B : Pb} {T : Nat → Nat → Ent} {i j : Nat} {e0 e : Ent}
theorem RInv.out {r d d2 : Nat} (h : RInv B i j e0 e r d) (out : ∀ b c, d2 ≤ b → ¬ RestC B r b i j c) : RInv B i j e0 e r d2 :=
  ⟨h.snd, h.mono, fun A A' U nb => let ⟨u1, u2, _, u4⟩ := h.up A A' U nb; ⟨u1, u2, fun b le c m => (out b c le m).elim, u4⟩⟩
theorem rest_none (hk : B.kn i j = none) {r : Nat} {N : Str} {ss : List Str} (hr : B.G[r]? = some (N, ss)) {d : Nat} (h : ss.length < d) : ∀ b c, d ≤ b → ¬ RestC B r b i j c := fun b c le m => by
  obtain ⟨M, ts, h1, h2⟩ := rest_in hk m
  rw [hr] at h1
  cases h1
  omega
theorem rest_none2 (hk : B.kn i j = none) (few : ∀ r ∈ B.G, r.2.length ≤ 20) (r : Nat) : ∀ b c, 21 ≤ b → ¬ RestC B r b i j c := fun b c le m => by
  obtain ⟨M, ts, h1, h2⟩ := rest_in hk m
  have := few _ (List.mem_of_getElem? h1)
  dsimp only at this
  omega
theorem Still.rest {r d : Nat} (h : Still B T i j r (d + 1)) (ho : LeastO (CombC B T r d i j) ((T i j).rs r d)) : Still B T i j r d := by
  refine ⟨fun a b N ss h1 h2 h3 => ?_, h.nm⟩
  by_cases w : a = r ∧ b = d
  · rw [w.1, w.2]
    exact ho
  · exact h.rs a b N ss h1 h2 (by omega)
theorem Still.out {r d : Nat} (h : Still B T i j r d) {N : Str} {ss : List Str} (hr : B.G[r]? = some (N, ss)) : Still B T i j r (ss.length + 1) := by
  refine ⟨fun a b M ts h1 h2 h3 => ?_, h.nm⟩
  by_cases w : a = r
  · rw [w, hr] at h1
    cases h1
    omega
  · exact h.rs a b M ts h1 h2 (by omega)
theorem Still.name {r d : Nat} (h : Still B T i j r 0) (few : ∀ r ∈ B.G, r.2.length ≤ 20) {N : Str} {ss : List Str} (hr : B.G[r]? = some (N, ss)) (hn : ∀ c, (T i j).rs r 0 = some c → ∃ x, (T i j).nm N = some x ∧ cle x (c.1, c.2 + 1)) (hd : 21 ≤ d) : Still B T i j (r + 1) d := by
  refine ⟨fun a b M ts h1 h2 h3 => ?_, fun a M ts c h1 h2 h3 => ?_⟩
  · have := few _ (List.mem_of_getElem? h1)
    dsimp only at this
    exact h.rs a b M ts h1 h2 (by omega)
  · by_cases w : a = r
    · rw [w] at h1 h3
      rw [hr] at h1
      cases h1
      exact hn c h3
    · exact h.nm a M ts c h1 (by omega) h3
theorem Still.start (few : ∀ r ∈ B.G, r.2.length ≤ 20) : Still B T i j 0 21 := by
  refine ⟨fun a b M ts h1 h2 h3 => ?_, fun a M ts c h1 h2 => absurd h2 (Nat.not_lt_zero a)⟩
  have := few _ (List.mem_of_getElem? h1)
  dsimp only at this
  omega
end
def keysAll (G : List Rule) : List (List Key) := G.map (fun r => kN r.1) ++ (List.range 60).flatMap fun r => (List.range 21).map fun d => kR r d
theorem keysAll_len {G : List Rule} (h : G.length ≤ 60) : (keysAll G).length ≤ 1320 := by
  unfold keysAll
  rw [List.length_append, List.length_map]
  have : ((List.range 60).flatMap fun r => (List.range 21).map fun d => kR r d).length = 1260 := by
    rw [List.length_flatMap]
    simp only [List.length_map, List.length_range]
    decide
  omega
theorem EntK.few {H : Hp} {G : List Rule} {kvs : List (List Key × V)} {e : Ent} (gt : GraT G) (h : EntK H G kvs e) : kvs.length ≤ 1320 := by
  have := nodup_le2 (l := kvs.map (·.1)) (m := keysAll G) h.nd fun x hx => by
    obtain ⟨p, hp, rfl⟩ := List.mem_map.mp hx
    unfold keysAll
    rcases h.ks p hp with ⟨N, ⟨r, hr, rfl⟩, e1⟩ | ⟨r, d, N, ss, h1, h2, e1⟩
    · rw [e1]
      exact List.mem_append_left _ (List.mem_map.mpr ⟨r, hr, rfl⟩)
    · rw [e1]
      have l1 := (List.getElem?_eq_some_iff.mp h1).1
      have l2 := gt.rules
      have l3 := gt.few _ (List.mem_of_getElem? h1)
      dsimp only at l3
      exact List.mem_append_right _ (List.mem_flatMap.mpr ⟨r, List.mem_range.mpr (by omega), List.mem_map.mpr ⟨d, List.mem_range.mpr (by omega), rfl⟩⟩)
  rw [List.length_map] at this
  exact Nat.le_trans this (keysAll_len gt.rules)
end Ld

set_option Elab.async false
set_option linter.all false
set_option maxRecDepth 100000
set_option maxHeartbeats 4000000
/-! The grammars that the laws of tables and trees make: mathematics. -/
namespace Ld
open PySem PySem.Spec PyProof.Rows L2 Lr Lb
def N4t : List Str := ["s", "expr", "b", "items"]
structure GramT (G : List Rule) : Prop where
  good : ∀ r ∈ G, r.1 ∈ N4t ∧ r.2.length ≤ 3 ∧ ∀ s ∈ r.2, s ∈ N4t ∨ s ∈ P3
  names : ∀ r ∈ G, ∀ s ∈ r.2, s ∈ N4t → ∃ q ∈ G, q.1 = s
  own : ∀ r ∈ G, ∃ q ∈ G, q.1 = r.1 ∧ ∀ x ∈ q.2, x ∈ P3
  ne : G ≠ []
  few : G.length ≤ 12
  nd : G.Nodup
theorem n4t_low : ∀ s ∈ N4t, isLow s = true := by decide +kernel
theorem p3_low : ∀ s ∈ P3, isLow s = false := by decide +kernel
theorem p3_not : ∀ s ∈ P3, s ∉ N4t := by decide +kernel
theorem n4t_name : ∀ s ∈ N4t, nameB s = true := by decide +kernel
theorem p3_kind : ∀ s ∈ P3, kindB s = true := by decide +kernel
theorem n4t_len : ∀ s ∈ N4t, 0 < s.length ∧ s.length ≤ 100 := by decide +kernel
theorem p3_len : ∀ s ∈ P3, 0 < s.length ∧ s.length ≤ 100 := by decide +kernel
theorem sym_good {s : Str} (h : s ∈ N4t ∨ s ∈ P3) : symB s = true := by
  unfold symB
  rcases h with h | h
  · rw [n4t_name s h, Bool.or_true]
  · rw [p3_kind s h, Bool.true_or]
theorem ruleT_good {r : Rule} (h : r.1 ∈ N4t ∧ r.2.length ≤ 3 ∧ ∀ s ∈ r.2, s ∈ N4t ∨ s ∈ P3) : GoodR r :=
  ⟨n4t_name _ h.1, by have := h.2.1; omega, List.all_eq_true.mpr fun s hs => sym_good (h.2.2 s hs)⟩
theorem GramT.goodR {G : List Rule} (h : GramT G) : ∀ r ∈ G, GoodR r := fun r hr => ruleT_good (h.good r hr)
theorem GramT.walk {G : List Rule} (h : GramT G) : GraT G := by
  refine ⟨fun r hr s hs low => ?_, fun r hr s hs => ?_, fun r hr => by have := (h.good r hr).2.1; omega, by have := h.few; omega⟩
  · rcases (h.good r hr).2.2 s hs with z | z
    · exact h.names r hr s hs z
    · rw [p3_low s z] at low
      cases low
  · rcases (h.good r hr).2.2 s hs with z | z
    · exact n4t_len s z
    · exact p3_len s z
theorem GramT.cover {G : List Rule} (h : GramT G) : ∀ q ∈ G, q.1 ∈ N4t := fun q hq => (h.good q hq).1
/-- while the rules are made -/
structure GramP (ns : List Str) (k n : Nat) (G : List Rule) : Prop where
  good : ∀ r ∈ G, r.1 ∈ ns ∧ r.2.length ≤ 3 ∧ ∀ s ∈ r.2, s ∈ ns ∨ s ∈ P3
  own : ∀ (a : Nat) N, a < k → ns[a]? = some N → ∃ q ∈ G, q.1 = N ∧ ∀ x ∈ q.2, x ∈ P3
  few : G.length ≤ n
  ne : 0 < k → G ≠ []
theorem GramP.start (ns : List Str) : GramP ns 0 0 [] := ⟨(fun _ h => nomatch h), (fun a N h => absurd h (Nat.not_lt_zero a)), Nat.le_refl _, fun h => absurd h (Nat.lt_irrefl 0)⟩
theorem GramP.own_ {ns : List Str} {k n : Nat} {G : List Rule} (h : GramP ns k n G) {N : Str} (hN : ns[k]? = some N) {ss : List Str} (l : ss.length ≤ 3) (hs : ∀ s ∈ ss, s ∈ P3) : GramP ns (k + 1) (n + 1) (G ++ [(N, ss)]) := by
  refine ⟨fun r hr => ?_, fun a M lt e => ?_, ?_, fun _ z => by simp at z⟩
  · rcases List.mem_append.mp hr with m | m
    · exact h.good r m
    · rw [List.mem_singleton.mp m]
      exact ⟨List.mem_of_getElem? hN, l, fun s z => .inr (hs s z)⟩
  · rcases Nat.lt_succ_iff_lt_or_eq.mp lt with q | q
    · obtain ⟨r, hr, z⟩ := h.own a M q e
      exact ⟨r, List.mem_append_left _ hr, z⟩
    · rw [q, hN] at e
      cases e
      exact ⟨(N, ss), List.mem_append_right _ (List.mem_singleton.mpr rfl), rfl, hs⟩
  · rw [List.length_append, List.length_singleton]
    have := h.few
    omega
theorem GramP.more {ns : List Str} {k n : Nat} {G : List Rule} (h : GramP ns k n G) {r : Rule} (hr : r.1 ∈ ns ∧ r.2.length ≤ 3 ∧ ∀ s ∈ r.2, s ∈ ns ∨ s ∈ P3) (A B : List Rule) (e : G = A ++ B) : GramP ns k (n + 1) (A ++ [r] ++ B) := by
  refine ⟨fun q hq => ?_, fun a M lt e2 => ?_, ?_, fun _ z => by simp at z⟩
  · rcases List.mem_append.mp hq with m | m
    · rcases List.mem_append.mp m with m | m
      · exact h.good q (by rw [e]; exact List.mem_append_left _ m)
      · rw [List.mem_singleton.mp m]
        exact hr
    · exact h.good q (by rw [e]; exact List.mem_append_right _ m)
  · obtain ⟨q, hq, z⟩ := h.own a M lt e2
    rw [e] at hq
    refine ⟨q, ?_, z⟩
    rcases List.mem_append.mp hq with m | m
    · exact List.mem_append_left _ (List.mem_append_left _ m)
    · exact List.mem_append_right _ m
  · have := h.few
    rw [e] at this
    simp only [List.length_append, List.length_singleton] at this ⊢
    omega
theorem GramP.skip {ns : List Str} {k n m : Nat} {G : List Rule} (h : GramP ns k n G) (l : n ≤ m) : GramP ns k m G := ⟨h.good, h.own, Nat.le_trans h.few l, h.ne⟩
/-- each rule once -/
def nubStep (D : List Rule) (r : Rule) : List Rule := if r ∈ D then D else D ++ [r]
theorem nub_take {G : List Rule} {i : Nat} {r : Rule} (h : G[i]? = some r) : (G.take (i + 1)).foldl nubStep [] = nubStep ((G.take i).foldl nubStep []) r := by
  rw [List.take_add_one, h, List.foldl_append]
  rfl
theorem nub_in (ys : List Rule) : ∀ (D : List Rule) (x : Rule), x ∈ ys.foldl nubStep D ↔ x ∈ D ∨ x ∈ ys := by
  induction ys with
  | nil => simp
  | cons y ys ih =>
    intro D x
    rw [List.foldl_cons, ih, List.mem_cons]
    unfold nubStep
    split
    · rename_i m
      constructor
      · rintro (z | z)
        · exact .inl z
        · exact .inr (.inr z)
      · rintro (z | z | z)
        · exact .inl z
        · exact .inl (z ▸ m)
        · exact .inr z
    · rw [List.mem_append, List.mem_singleton]
      constructor
      · rintro ((z | z) | z)
        · exact .inl z
        · exact .inr (.inl z)
        · exact .inr (.inr z)
      · rintro (z | z | z)
        · exact .inl (.inl z)
        · exact .inl (.inr z)
        · exact .inr z
theorem nub_len (ys : List Rule) : ∀ D : List Rule, (ys.foldl nubStep D).length ≤ D.length + ys.length := by
  induction ys with
  | nil => exact fun D => Nat.le_refl _
  | cons y ys ih =>
    intro D
    have := ih (nubStep D y)
    have : (nubStep D y).length ≤ D.length + 1 := by
      unfold nubStep
      split
      · omega
      · rw [List.length_append]
        exact Nat.le_refl _
    rw [List.foldl_cons, List.length_cons]
    omega
theorem nub_nd (ys : List Rule) : ∀ D : List Rule, D.Nodup → (ys.foldl nubStep D).Nodup := by
  induction ys with
  | nil => exact fun D h => h
  | cons y ys ih =>
    intro D h
    rw [List.foldl_cons]
    refine ih _ ?_
    unfold nubStep
    split
    · exact h
    · rename_i out
      rw [List.nodup_append]
      refine ⟨h, by simp, fun p hp p2 hp2 e => ?_⟩
      rw [List.mem_singleton.mp hp2] at e
      rw [e] at hp
      exact out hp
theorem GramP.gram {ns : List Str} {k n : Nat} {G : List Rule} (h : GramP ns k n G) (sub : ∀ s ∈ ns, s ∈ N4t) (full : k = ns.length) (k0 : 0 < k) (n12 : n ≤ 12) : GramT (G.foldl nubStep []) := by
  have mem : ∀ x, x ∈ G.foldl nubStep [] ↔ x ∈ G := fun x => by rw [nub_in]; simp
  have own : ∀ N ∈ ns, ∃ q ∈ G.foldl nubStep [], q.1 = N ∧ ∀ x ∈ q.2, x ∈ P3 := fun N hN => by
    obtain ⟨a, ha⟩ := List.mem_iff_getElem?.mp hN
    obtain ⟨q, hq, z⟩ := h.own a N (by rw [full]; exact (List.getElem?_eq_some_iff.mp ha).1) ha
    exact ⟨q, (mem q).mpr hq, z⟩
  have g : ∀ r ∈ G.foldl nubStep [], r.1 ∈ ns ∧ r.2.length ≤ 3 ∧ ∀ s ∈ r.2, s ∈ ns ∨ s ∈ P3 := fun r hr => h.good r ((mem r).mp hr)
  refine ⟨fun r hr => ?_, fun r hr s hs n4 => ?_, fun r hr => own _ (g r hr).1, fun z => ?_, ?_, nub_nd G [] List.nodup_nil⟩
  · obtain ⟨g1, g2, g3⟩ := g r hr
    exact ⟨sub _ g1, g2, fun s hs => (g3 s hs).imp_left (sub s)⟩
  · rcases (g r hr).2.2 s hs with z | z
    · obtain ⟨q, hq, e, _⟩ := own s z
      exact ⟨q, hq, e⟩
    · exact (p3_not s z n4).elim
  · cases eG : G with
    | nil => exact h.ne k0 eG
    | cons x G2 =>
      have := (mem x).mpr (by rw [eG]; exact List.mem_cons_self)
      rw [z] at this
      cases this
  · have := nub_len G []
    have := h.few
    rw [List.length_nil] at *
    omega
/-! ### rules in the heap, some of them -/
theorem GrA.app {H : Hp} : ∀ {vs ws : List V} {G G2 : List Rule}, GrA H vs G → GrA H ws G2 → GrA H (vs ++ ws) (G ++ G2)
  | [], _, [], _, _, k => k
  | _ :: _, _, _ :: _, _, h, k => ⟨h.1, GrA.app h.2 k⟩
  | [], _, _ :: _, _, h, _ => h.elim
  | _ :: _, _, [], _, h, _ => h.elim
theorem GrA.take {H : Hp} : ∀ (n : Nat) {vs : List V} {G : List Rule}, GrA H vs G → GrA H (vs.take n) (G.take n)
  | 0, _, _, _ => by
    rw [List.take_zero, List.take_zero]
    exact True.intro
  | _ + 1, [], [], _ => True.intro
  | n + 1, _ :: _, _ :: _, h => ⟨h.1, GrA.take n h.2⟩
  | _ + 1, [], _ :: _, h => h.elim
  | _ + 1, _ :: _, [], h => h.elim
theorem GrA.drop {H : Hp} : ∀ (n : Nat) {vs : List V} {G : List Rule}, GrA H vs G → GrA H (vs.drop n) (G.drop n)
  | 0, _, _, h => h
  | _ + 1, [], [], _ => True.intro
  | n + 1, _ :: _, _ :: _, h => GrA.drop n h.2
  | _ + 1, [], _ :: _, h => h.elim
  | _ + 1, _ :: _, [], h => h.elim
theorem cut_pre {vs : List V} {n : Nat} (h : n ≤ vs.length) : cutV vs none (some (n : Int)) = vs.take n := by
  unfold cutV
  rw [HT.sIx_nat, HT.sIx_none, Nat.min_eq_left h, List.drop_zero, Nat.sub_zero]
theorem cut_post {vs : List V} {n : Nat} (h : n ≤ vs.length) : cutV vs (some (n : Int)) none = vs.drop n := by
  unfold cutV
  rw [HT.sIx_nat, HT.sIx_none, Nat.min_eq_left h]
  exact List.take_of_length_le (by rw [List.length_drop]; exact Nat.le_refl _)
end Ld

set_option Elab.async false
set_option linter.all false
set_option maxRecDepth 100000
set_option maxHeartbeats 4000000
/-! Signs: a kind, a text, a start; pairs of a kind and a text; how far two lists are alike. -/
namespace Ld
open PySem PySem.Spec PyProof.Rows L2 Lr
structure Sg where
  k : Str
  t : Str
  n : Nat
abbrev Pa : Type := Str × Str
def Sg.pa (s : Sg) : Pa := (s.k, s.t)
def SgA (H : Hp) (v : V) (s : Sg) : Prop := ∃ a, v = .ref a ∧ H a = some (.tup [.str s.k, .str s.t, .int s.n])
def PaA (H : Hp) (v : V) (p : Pa) : Prop := ∃ a, v = .ref a ∧ H a = some (.tup [.str p.1, .str p.2])
theorem SgA.same {A B : Hp} (u : Same A B) (v : V) (s : Sg) (h : SgA A v s) : SgA B v s := let ⟨a, e, q⟩ := h; ⟨a, e, u _ _ q⟩
theorem PaA.same {A B : Hp} (u : Same A B) (v : V) (s : Pa) (h : PaA A v s) : PaA B v s := let ⟨a, e, q⟩ := h; ⟨a, e, u _ _ q⟩
/-- tuples stand -/
def TupS (A B : Hp) : Prop := ∀ b xs, A b = some (.tup xs) → B b = some (.tup xs)
theorem TupS.of_same {A B : Hp} (u : Same A B) : TupS A B := fun b xs e => u b _ e
theorem TupS.trans {A B C : Hp} (u : TupS A B) (v : TupS B C) : TupS A C := fun b xs e => v b xs (u b xs e)
theorem TupS.at_lst {A : Hp} {d : Addr} {ws : List V} {o : HO} (h : A d = some (.lst ws)) : TupS A (upd A d o) := fun b xs e => by
  have ne : b ≠ d := fun z => by rw [z, h] at e; cases e
  rw [upd_ne ne]
  exact e
theorem SgA.tupS {A B : Hp} (u : TupS A B) (v : V) (s : Sg) (h : SgA A v s) : SgA B v s := let ⟨a, e, q⟩ := h; ⟨a, e, u _ _ q⟩
theorem PaA.tupS {A B : Hp} (u : TupS A B) (v : V) (s : Pa) (h : PaA A v s) : PaA B v s := let ⟨a, e, q⟩ := h; ⟨a, e, u _ _ q⟩
/-- a list of signs, of pairs, at an address -/
def SgsA (H : Hp) (a : Addr) (xs : List Sg) : Prop := ∃ vs, H a = some (.lst vs) ∧ Rel2 (SgA H) vs xs
def PasA (H : Hp) (a : Addr) (xs : List Pa) : Prop := ∃ vs, H a = some (.lst vs) ∧ Rel2 (PaA H) vs xs
theorem SgsA.same {A B : Hp} (u : Same A B) {a : Addr} {xs : List Sg} (h : SgsA A a xs) : SgsA B a xs := let ⟨vs, e, q⟩ := h; ⟨vs, u _ _ e, q.mono (SgA.same u)⟩
theorem PasA.same {A B : Hp} (u : Same A B) {a : Addr} {xs : List Pa} (h : PasA A a xs) : PasA B a xs := let ⟨vs, e, q⟩ := h; ⟨vs, u _ _ e, q.mono (PaA.same u)⟩
def sgD (s : Sg) : PyData := .tuple [.str s.k, .str s.t, .int s.n]
def paD (p : Pa) : PyData := .tuple [.str p.1, .str p.2]
def sgsD (xs : List Sg) : PyData := .list (xs.map sgD)
def pasD (xs : List Pa) : PyData := .list (xs.map paD)
theorem SgsA.dp {K : PySem.W.Frag} {H : Hp} {a : Addr} {xs : List Sg} (h : SgsA H a xs) : Dp K H (.ref a) (sgsD xs) := by
  obtain ⟨vs, e, q⟩ := h
  refine .lst (SqL.of e) (q.dp fun v s hs => ?_)
  obtain ⟨b, rfl, hb⟩ := hs
  exact .tup (SqT.of hb) (.cons (.str _) (.cons (.str _) (.cons (.int _) .nil)))
theorem PasA.dp {K : PySem.W.Frag} {H : Hp} {a : Addr} {xs : List Pa} (h : PasA H a xs) : Dp K H (.ref a) (pasD xs) := by
  obtain ⟨vs, e, q⟩ := h
  refine .lst (SqL.of e) (q.dp fun v s hs => ?_)
  obtain ⟨b, rfl, hb⟩ := hs
  exact .tup (SqT.of hb) (.cons (.str _) (.cons (.str _) .nil))
theorem pas_eqv : ∀ xs ys : List Pa, PyData.eqvAll (xs.map paD) (ys.map paD) = decide (xs = ys)
  | [], [] => by simp [PyData.eqvAll]
  | [], _ :: _ => by simp [PyData.eqvAll]
  | _ :: _, [] => by simp [PyData.eqvAll]
  | x :: xs, y :: ys => by
    rw [List.map_cons, List.map_cons, PyData.eqvAll, pas_eqv xs ys, paD, paD, PyData.eqv, PyData.eqvAll, PyData.eqvAll, PyData.eqvAll, PyData.eqv, PyData.eqv, Bool.eq_iff_iff]
    obtain ⟨x1, x2⟩ := x
    obtain ⟨y1, y2⟩ := y
    simp
theorem paD_eqv (x y : Pa) : PyData.eqv (paD x) (paD y) = decide (x = y) := by
  obtain ⟨x1, x2⟩ := x
  obtain ⟨y1, y2⟩ := y
  rw [paD, paD, PyData.eqv, PyData.eqvAll, PyData.eqvAll, PyData.eqvAll, PyData.eqv, PyData.eqv, Bool.eq_iff_iff]
  simp
theorem pasD_eqv (xs ys : List Pa) : PyData.eqv (pasD xs) (pasD ys) = decide (xs = ys) := by
  unfold pasD
  rw [PyData.eqv]
  exact pas_eqv xs ys
/-- the texts of a pair can be laid -/
def PaOk (p : Pa) : Prop := PyData.strOk p.1 = true ∧ PyData.strOk p.2 = true
theorem paD_shaped {p : Pa} (h : PaOk p) : SeqAt.shaped (paD p) = true := shaped_mk (by simp [paD, PyData.canLay0, PyData.canLayAll0, h.1, h.2]) (by simp [paD, PyData.depth, PyData.depthAll])
theorem pas_lay : ∀ {xs : List Pa}, (∀ p ∈ xs, PaOk p) → PyData.canLayAll0 (xs.map paD) = true
  | [], _ => rfl
  | x :: xs, h => by
    rw [List.map_cons, PyData.canLayAll0, pas_lay fun p m => h p (List.mem_cons_of_mem _ m), SeqAt.canLay_of_shaped (paD_shaped (h x List.mem_cons_self))]
    rfl
theorem pas_depth : ∀ xs : List Pa, PyData.depthAll (xs.map paD) ≤ 2
  | [] => by simp [PyData.depthAll]
  | x :: xs => by
    have := pas_depth xs
    simp only [List.map_cons, PyData.depthAll, paD, PyData.depth]
    omega
theorem pasD_shaped {xs : List Pa} (h : ∀ p ∈ xs, PaOk p) : SeqAt.shaped (pasD xs) = true := shaped_mk (by unfold pasD; rw [PyData.canLay0]; exact pas_lay h) (by
  have := pas_depth xs
  simp only [pasD, PyData.depth]
  omega)
/-! ### how far two lists are alike -/
structure Lcp {α : Type} (xs ys : List α) (n : Nat) : Prop where
  l1 : n ≤ xs.length
  l2 : n ≤ ys.length
  eq : xs.take n = ys.take n
  most : ∀ m, m ≤ xs.length → m ≤ ys.length → xs.take m = ys.take m → m ≤ n
theorem Lcp.unique {α : Type} {xs ys : List α} {n m : Nat} (h : Lcp xs ys n) (k : Lcp xs ys m) : n = m := Nat.le_antisymm (k.most n h.l1 h.l2 h.eq) (h.most m k.l1 k.l2 k.eq)
theorem take_le {α : Type} {xs ys : List α} {n m : Nat} (h : xs.take n = ys.take n) (l : m ≤ n) : xs.take m = ys.take m := by
  have := congrArg (List.take m) h
  rwa [List.take_take, List.take_take, Nat.min_eq_left l] at this
theorem Lcp.mk' {α : Type} {xs ys : List α} {n : Nat} (l1 : n ≤ xs.length) (l2 : n ≤ ys.length) (eq : xs.take n = ys.take n) (no : n < xs.length → n < ys.length → xs[n]? ≠ ys[n]?) : Lcp xs ys n :=
  ⟨l1, l2, eq, fun m m1 m2 e => Nat.le_of_not_lt fun lt => no (by omega) (by omega) (by
    have h1 : (xs.take m)[n]? = xs[n]? := List.getElem?_take_of_lt lt
    have h2 : (ys.take m)[n]? = ys[n]? := List.getElem?_take_of_lt lt
    rw [← h1, ← h2, e])⟩
theorem take_more {α : Type} {xs ys : List α} {n : Nat} {x : α} (e : xs.take n = ys.take n) (h1 : xs[n]? = some x) (h2 : ys[n]? = some x) : xs.take (n + 1) = ys.take (n + 1) := by
  rw [List.take_add_one, List.take_add_one, e, h1, h2]
/-- the ends behind the first a -/
theorem rev_take {α : Type} {xs : List α} {a n : Nat} (h : n ≤ xs.length - a) : ((xs.drop a).reverse).take n = (xs.drop (xs.length - n)).reverse := by
  rw [List.take_reverse, List.length_drop, List.drop_drop]
  by_cases ha : a ≤ xs.length
  · rw [show a + (xs.length - a - n) = xs.length - n by omega]
  · rw [show n = 0 by omega, List.drop_of_length_le (by omega), List.drop_of_length_le (by omega)]
end Ld

set_option Elab.async false
set_option linter.all false
set_option maxRecDepth 100000
set_option maxHeartbeats 4000000
/-! Lexicons and the cutting of texts, as mathematics; lexicons in the heap. -/
namespace Ld
open PySem PySem.Spec PyProof.Rows L2 Lr
structure Pt where
  k : Str
  f : Str
  c : Str
def PtA (H : Hp) (v : V) (p : Pt) : Prop := ∃ a, v = .ref a ∧ H a = some (.tup [.str p.k, .str p.f, .str p.c])
theorem PtA.tupS {A B : Hp} (u : TupS A B) (v : V) (s : Pt) (h : PtA A v s) : PtA B v s := let ⟨a, e, q⟩ := h; ⟨a, e, u _ _ q⟩
theorem PtA.same {A B : Hp} (u : Same A B) (v : V) (s : Pt) (h : PtA A v s) : PtA B v s := let ⟨a, e, q⟩ := h; ⟨a, e, u _ _ q⟩
/-- the lexicon of ps, passing over the signs of z, at t -/
def LexA (H : Hp) (t : Addr) (ps : List Pt) (z : Str) : Prop := ∃ l vs, H t = some (.tup [.ref l, .str z]) ∧ H l = some (.lst vs) ∧ Rel2 (PtA H) vs ps
theorem LexA.same {A B : Hp} (u : Same A B) {t : Addr} {ps : List Pt} {z : Str} (h : LexA A t ps z) : LexA B t ps z := let ⟨l, vs, e1, e2, q⟩ := h; ⟨l, vs, u _ _ e1, u _ _ e2, q.mono (PtA.same u)⟩
def ptD (p : Pt) : PyData := .tuple [.str p.k, .str p.f, .str p.c]
def lexD (ps : List Pt) (z : Str) : PyData := .tuple [.list (ps.map ptD), .str z]
theorem LexA.dp {K : PySem.W.Frag} {H : Hp} {t : Addr} {ps : List Pt} {z : Str} (h : LexA H t ps z) : Dp K H (.ref t) (lexD ps z) := by
  obtain ⟨l, vs, e1, e2, q⟩ := h
  refine .tup (SqT.of e1) (.cons (.lst (SqL.of e2) (q.dp fun v s hs => ?_)) (.cons (.str _) .nil))
  obtain ⟨b, rfl, hb⟩ := hs
  exact .tup (SqT.of hb) (.cons (.str _) (.cons (.str _) (.cons (.str _) .nil)))
/-! ### matches -/
abbrev cds (z : Str) : List Nat := z.cps.toList
theorem cds_len (z : Str) : (cds z).length = z.length := by
  show z.cps.toList.length = z.cps.size
  rw [Array.length_toList]
def sub (z : Str) (i n : Nat) : Str := ⟨(((cds z).drop i).take n).toArray⟩
theorem cds_sub (z : Str) (i n : Nat) : cds (sub z i n) = ((cds z).drop i).take n := rfl
theorem sub_len (z : Str) (i n : Nat) : (sub z i n).length = min n (z.length - i) := by
  rw [← cds_len, cds_sub, List.length_take, List.length_drop, cds_len]
theorem cutS_sub (z : Str) (i n : Nat) : cutS z (some (i : Int)) (some ((i + n : Nat) : Int)) = sub z i n := by
  unfold cutS sub
  rw [HT.sIx_nat, HT.sIx_nat]
  have hl := cds_len z
  congr 2
  by_cases h : i ≤ z.length
  · rw [Nat.min_eq_left h]
    by_cases h2 : i + n ≤ z.length
    · rw [Nat.min_eq_left h2, Nat.add_sub_cancel_left]
    · have h2 := Nat.le_of_lt (Nat.lt_of_not_le h2)
      rw [Nat.min_eq_right h2, List.take_of_length_le (by rw [List.length_drop, hl]; exact Nat.le_refl _), List.take_of_length_le (by rw [List.length_drop, hl]; omega)]
  · have h := Nat.le_of_lt (Nat.lt_of_not_le h)
    rw [Nat.min_eq_right h, List.drop_of_length_le (Nat.le_of_eq hl), List.drop_of_length_le (by rw [hl]; exact h), List.take_nil, List.take_nil]
theorem str_ext {a b : Str} : a = b ↔ cds a = cds b := ⟨fun h => by rw [h], fun h => by
  obtain ⟨a⟩ := a
  obtain ⟨b⟩ := b
  exact congrArg Str.mk (Array.toList_inj.mp h)⟩
def wordN (w z : Str) (i : Nat) : Nat := if sub z i w.length = w then w.length else 0
def runN (c z : Str) (i : Nat) : Nat := (((cds z).drop i).takeWhile fun x => decide (x ∈ cds c)).length
def matN (p : Pt) (z : Str) (i : Nat) : Nat := if p.f = "word" then wordN p.c z i else runN p.c z i
theorem wordN_le (w z : Str) (i : Nat) : wordN w z i ≤ z.length - i := by
  unfold wordN
  split
  · rename_i h
    have := congrArg Str.length h
    rw [sub_len] at this
    omega
  · exact Nat.zero_le _
theorem runN_le (c z : Str) (i : Nat) : runN c z i ≤ z.length - i := by
  unfold runN
  have := (List.takeWhile_sublist (fun x => decide (x ∈ cds c)) (l := (cds z).drop i)).length_le
  rw [List.length_drop, cds_len] at this
  exact this
theorem matN_le (p : Pt) (z : Str) (i : Nat) : matN p z i ≤ z.length - i := by
  unfold matN
  split
  · exact wordN_le _ _ _
  · exact runN_le _ _ _
theorem starts_is {w z : Str} {i : Nat} (hi : i ≤ z.length) : Txt.startswith3 z w (i : Int) = decide (sub z i w.length = w) := by
  unfold Txt.startswith3
  have e : fromIndex z.length (i : Int) = i := by
    unfold fromIndex
    rw [if_neg (by omega)]
    omega
  rw [e, PySem.StrLaws.subAt_eq, Bool.eq_iff_iff, Bool.and_eq_true, decide_eq_true_eq, beq_iff_eq]
  constructor
  · intro h
    rw [decide_eq_true_eq, str_ext, cds_sub]
    exact h.2
  · intro h
    rw [decide_eq_true_eq] at h
    have l := congrArg Str.length h
    rw [sub_len] at l
    refine ⟨by omega, ?_⟩
    rw [str_ext, cds_sub] at h
    exact h
/-- a run goes on as long as its characters stand -/
theorem run_stop {c z : Str} {i n : Nat} (h : ∀ j, j < n → ∃ x, (cds z)[i + j]? = some x ∧ x ∈ cds c) (e : ∀ x, (cds z)[i + n]? = some x → x ∉ cds c) : runN c z i = n := by
  unfold runN
  have : ∀ (n : Nat) (L : List Nat), (∀ j, j < n → ∃ x, L[j]? = some x ∧ x ∈ cds c) → (∀ x, L[n]? = some x → x ∉ cds c) → (L.takeWhile fun x => decide (x ∈ cds c)).length = n := by
    intro n
    induction n with
    | zero =>
      intro L _ h2
      cases L with
      | nil => rfl
      | cons x L => rw [List.takeWhile_cons, decide_eq_false (h2 x rfl)]; rfl
    | succ n ih =>
      intro L h1 h2
      cases L with
      | nil =>
        obtain ⟨x, hx, _⟩ := h1 0 (Nat.succ_pos _)
        cases hx
      | cons x L =>
        obtain ⟨y, hy, m⟩ := h1 0 (Nat.succ_pos _)
        cases hy
        rw [List.takeWhile_cons, decide_eq_true m]
        show (L.takeWhile _).length + 1 = n + 1
        rw [ih L (fun j hj => h1 (j + 1) (Nat.succ_lt_succ hj)) (fun x hx => h2 x hx)]
  refine this n _ (fun j hj => ?_) (fun x hx => ?_)
  · rw [List.getElem?_drop]
    exact h j hj
  · rw [List.getElem?_drop] at hx
    exact e x hx
/-! ### the sign at an index -/
def best (z : Str) (i : Nat) (b : Str × Nat) (p : Pt) : Str × Nat := if b.2 < matN p z i then (p.k, matN p z i) else b
def bestOf (ps : List Pt) (z : Str) (i : Nat) : Str × Nat := ps.foldl (best z i) ("OTHER", 0)
theorem bestOf_take {ps : List Pt} {z : Str} {i n : Nat} {p : Pt} (h : ps[n]? = some p) : bestOf (ps.take (n + 1)) z i = best z i (bestOf (ps.take n) z i) p := by
  unfold bestOf
  rw [List.take_add_one, h, List.foldl_append]
  rfl
theorem bestOf_le (ps : List Pt) (z : Str) (i : Nat) : (bestOf ps z i).2 ≤ z.length - i := by
  have : ∀ (ps : List Pt) (b : Str × Nat), b.2 ≤ z.length - i → (ps.foldl (best z i) b).2 ≤ z.length - i := by
    intro ps
    induction ps with
    | nil => exact fun b h => h
    | cons p ps ih =>
      intro b h
      rw [List.foldl_cons]
      refine ih _ ?_
      unfold best
      split
      · exact matN_le _ _ _
      · exact h
  exact this ps _ (Nat.zero_le _)
def sizeAt (ps : List Pt) (z : Str) (i : Nat) : Nat := max (bestOf ps z i).2 1
theorem sizeAt_le {ps : List Pt} {z : Str} {i : Nat} (h : i < z.length) : 1 ≤ sizeAt ps z i ∧ i + sizeAt ps z i ≤ z.length := by
  unfold sizeAt
  have := bestOf_le ps z i
  omega
def sgAt (ps : List Pt) (z : Str) (i : Nat) : Sg := ⟨(bestOf ps z i).1, sub z i (sizeAt ps z i), i⟩
theorem sgAt_len {ps : List Pt} {z : Str} {i : Nat} (h : i < z.length) : (sgAt ps z i).t.length = sizeAt ps z i := by
  have := sizeAt_le (ps := ps) h
  show (sub z i (sizeAt ps z i)).length = _
  rw [sub_len]
  omega
/-! ### the cutting -/
def isPassed (o z : Str) (i : Nat) : Bool := decide ((cds z).getD i 0 ∈ cds o)
def stp (ps : List Pt) (o z : Str) (b : Nat × List Sg) : Nat × List Sg :=
  if b.1 < z.length then (if isPassed o z b.1 = true then (b.1 + 1, b.2) else (b.1 + sizeAt ps z b.1, b.2 ++ [sgAt ps z b.1])) else b
def itr (ps : List Pt) (o z : Str) : Nat → Nat × List Sg
  | 0 => (0, [])
  | n + 1 => stp ps o z (itr ps o z n)
def cutOf (ps : List Pt) (o z : Str) : List Sg := (itr ps o z z.length).2
theorem stp_end {ps : List Pt} {o z : Str} {b : Nat × List Sg} (h : ¬ b.1 < z.length) : stp ps o z b = b := if_neg h
theorem stp_pass {ps : List Pt} {o z : Str} {b : Nat × List Sg} (h : b.1 < z.length) (p : isPassed o z b.1 = true) : stp ps o z b = (b.1 + 1, b.2) := (if_pos h).trans (if_pos p)
theorem stp_sign {ps : List Pt} {o z : Str} {b : Nat × List Sg} (h : b.1 < z.length) (p : isPassed o z b.1 = false) : stp ps o z b = (b.1 + sizeAt ps z b.1, b.2 ++ [sgAt ps z b.1]) := (if_pos h).trans (if_neg (by rw [p]; exact Bool.false_ne_true))
theorem itr_fix {ps : List Pt} {o z : Str} {n : Nat} (h : ¬ (itr ps o z n).1 < z.length) : ∀ m, itr ps o z (n + m) = itr ps o z n
  | 0 => rfl
  | m + 1 => by
    show stp ps o z (itr ps o z (n + m)) = _
    rw [itr_fix h m, stp_end h]
/-- each turn goes on, and stays within the text -/
theorem itr_ix (ps : List Pt) (o z : Str) : ∀ n, (itr ps o z n).1 ≤ z.length ∧ (n ≤ (itr ps o z n).1 ∨ (itr ps o z n).1 = z.length)
  | 0 => ⟨Nat.zero_le _, .inl (Nat.zero_le _)⟩
  | n + 1 => by
    obtain ⟨h1, h2⟩ := itr_ix ps o z n
    show (stp ps o z (itr ps o z n)).1 ≤ _ ∧ (_ ≤ (stp ps o z (itr ps o z n)).1 ∨ (stp ps o z (itr ps o z n)).1 = _)
    by_cases c : (itr ps o z n).1 < z.length
    · cases p : isPassed o z (itr ps o z n).1 with
      | true =>
        rw [stp_pass c p]
        dsimp only
        exact ⟨c, by omega⟩
      | false =>
        rw [stp_sign c p]
        have := sizeAt_le (ps := ps) c
        dsimp only
        exact ⟨this.2, by omega⟩
    · rw [stp_end c]
      exact ⟨h1, by omega⟩
theorem itr_done (ps : List Pt) (o z : Str) : ¬ (itr ps o z z.length).1 < z.length := by
  obtain ⟨h1, h2⟩ := itr_ix ps o z z.length
  omega
theorem cut_end {ps : List Pt} {o z : Str} {n : Nat} (h : ¬ (itr ps o z n).1 < z.length) : (itr ps o z n).2 = cutOf ps o z := by
  unfold cutOf
  by_cases c : n ≤ z.length
  · obtain ⟨m, e⟩ := Nat.le.dest c
    rw [← e, itr_fix h m]
  · obtain ⟨m, e⟩ := Nat.le.dest (Nat.le_of_lt (Nat.lt_of_not_le c))
    rw [← e, itr_fix (itr_done ps o z) m]
theorem itr_len (ps : List Pt) (o z : Str) : ∀ n, (itr ps o z n).2.length ≤ (itr ps o z n).1
  | 0 => Nat.le_refl _
  | n + 1 => by
    have h := itr_len ps o z n
    show (stp ps o z (itr ps o z n)).2.length ≤ (stp ps o z (itr ps o z n)).1
    by_cases c : (itr ps o z n).1 < z.length
    · cases p : isPassed o z (itr ps o z n).1 with
      | true =>
        rw [stp_pass c p]
        dsimp only
        omega
      | false =>
        rw [stp_sign c p]
        have := sizeAt_le (ps := ps) c
        dsimp only
        rw [List.length_append, List.length_singleton]
        omega
    · rw [stp_end c]
      exact h
theorem cut_len (ps : List Pt) (o z : Str) : (cutOf ps o z).length ≤ z.length := Nat.le_trans (itr_len ps o z _) (itr_ix ps o z _).1
/-! ### what the signs cover -/
def endOf (xs : List Sg) : Nat := match xs.getLast? with
  | none => 0
  | some s => s.n + s.t.length
theorem endOf_snoc (xs : List Sg) (s : Sg) : endOf (xs ++ [s]) = s.n + s.t.length := by
  unfold endOf
  rw [List.getLast?_append]
  rfl
structure Cov (ps : List Pt) (o z : Str) (xs : List Sg) (i : Nat) : Prop where
  gap : endOf xs ≤ i ∧ ∀ j, endOf xs ≤ j → j < i → isPassed o z j = true
  each : ∀ n s, xs[n]? = some s → endOf (xs.take n) ≤ s.n ∧ (∀ j, endOf (xs.take n) ≤ j → j < s.n → isPassed o z j = true) ∧ s.n < z.length ∧ s = sgAt ps z s.n
theorem itr_cov (ps : List Pt) (o z : Str) : ∀ n, Cov ps o z (itr ps o z n).2 (itr ps o z n).1
  | 0 => ⟨⟨Nat.le_refl _, fun j h1 h2 => absurd h2 (Nat.not_lt_zero _)⟩, fun n s h => by cases h⟩
  | n + 1 => by
    have h := itr_cov ps o z n
    show Cov ps o z (stp ps o z (itr ps o z n)).2 (stp ps o z (itr ps o z n)).1
    by_cases c : (itr ps o z n).1 < z.length
    · cases p : isPassed o z (itr ps o z n).1 with
      | true =>
        rw [stp_pass c p]
        dsimp only
        refine ⟨⟨Nat.le_succ_of_le h.gap.1, fun j h1 h2 => ?_⟩, h.each⟩
        rcases Nat.lt_or_eq_of_le (Nat.le_of_lt_succ h2) with e | e
        · exact h.gap.2 j h1 e
        · rw [e]
          exact p
      | false =>
        rw [stp_sign c p]
        generalize hb : itr ps o z n = b at h c p
        dsimp only
        have ee : endOf (b.2 ++ [sgAt ps z b.1]) = b.1 + sizeAt ps z b.1 := by rw [endOf_snoc, sgAt_len c]; rfl
        refine ⟨⟨by rw [ee]; exact Nat.le_refl _, fun j h1 h2 => by rw [ee] at h1; omega⟩, fun m s hs => ?_⟩
        by_cases lt : m < b.2.length
        · rw [List.getElem?_append_left lt] at hs
          rw [List.take_append_of_le_length (Nat.le_of_lt lt)]
          exact h.each m s hs
        · have em : m = b.2.length := by
            have := (List.getElem?_eq_some_iff.mp hs).1
            rw [List.length_append, List.length_singleton] at this
            omega
          subst em
          rw [List.getElem?_append_right (Nat.le_refl _), Nat.sub_self] at hs
          cases hs
          rw [List.take_left' rfl]
          exact ⟨h.gap.1, h.gap.2, c, rfl⟩
    · rw [stp_end c]
      exact h
theorem cut_cov (ps : List Pt) (o z : Str) : Cov ps o z (cutOf ps o z) z.length := by
  have h := itr_cov ps o z z.length
  have e : (itr ps o z z.length).1 = z.length := by
    have := (itr_ix ps o z z.length).1
    have := itr_done ps o z
    omega
  rw [e] at h
  exact h
end Ld

set_option Elab.async false
set_option linter.all false
set_option maxRecDepth 100000
set_option maxHeartbeats 4000000
/-! Errors of own classes as values: made by a call, their field read, isinstance asked. -/
namespace PySem.W
open PySem PySem.Spec PySem.Calls PyProof.Rows
section
variable {prog : Program} {w : World} {A : Around} {E : Value → Shared → Prop} {s : Shared} {K : Frag} {x D : Addr} {ox : Obj} {od : Option Obj}
/-- its class, where the error has a dict of its own -/
theorem ask_class {Q : Option Value → Shared → Prop} (lead : findIn K (.ref D) "__getattribute__" = some (some (.builtin "BaseException.__getattribute__"))) (noGet : findIn K (.ref D) "__getattr__" = some none) (below : subIn K (.ref D) (.type "BaseException") = some true)
    (found : findObj K D od "__class__" = some (.bind (.builtin "getset_descriptor.__get__") (.builtin "object.__class__"))) (top : mroIn K D (.type "object") = some true) (Y : K.In s.heap) (J : InstAt s.heap x ox D od) (done : Q (some (.ref D)) { s with toks := s.toks + 1 }) :
    wpAny (model prog w) A (getAttr? (.ref x) "__class__") Q E s := by
  obtain ⟨hp, g, d, t, os⟩ := s
  have its := J.type (M := model prog w)
  have other : (Value.builtin "BaseException.__getattribute__" == Value.builtin "object.__getattribute__") = false := by decide +kernel
  have plain : (onTheHeap (Value.ref D) && Value.builtin "BaseException.__getattribute__" == Value.builtin "object.__getattribute__") = false := by rw [other, Bool.and_false]
  unfold getAttr? getAttrBy? getAttrBy
  refine wpAny_bind (wpAny_mkText (wpAny_bind (wpAny_attempt (wpAny_holding (wpAny_bind (its.at (wpAny_bind ((looks_findIn Y lead).at ?_))))))))
  show wpAny _ _ (ite ((onTheHeap (Value.ref D) && Value.builtin "BaseException.__getattribute__" == Value.builtin "object.__getattribute__") = true) _ _) _ _ _
  rw [plain, if_neg Bool.false_ne_true]
  unfold getAttrByItsOwn hookBefore
  refine wpAny_bind ?_
  rw [if_pos (show onTheHeap (Value.ref D) = true from rfl)]
  refine (looks_findIn Y noGet).at (wpAny_bind (wpAny_attempt (wpAny_holding ?_)))
  unfold callGetattribute
  rw [show (false && onTheHeap (Value.builtin "BaseException.__getattribute__")) = false from rfl, if_neg Bool.false_ne_true]
  unfold boundAndCalled
  rw [PySem.F.excAttr_ValueError.ga.bind (.ref x)]
  refine wpAny_bind (wpAny_pure ?_)
  show wpAny _ _ (call (.builtin "BaseException.__getattribute__") [.ref x, .str "__class__" t]) _ _ _
  refine wpAny_call (codeAny_call_builtin PySem.F.excAttr_ValueError.ga.plain PySem.F.entry_bexc_ga ?_)
  refine @check_slot (model prog w) _ _ ⟨hp, g, d, t + 1, os⟩ "BaseException.__getattribute__" "BaseException" "__getattribute__" (.ref x) [.str "__class__" t] [] _ (by decide +kernel) (by decide +kernel) (its.andThen (looks_subIn Y below)) (PySem.F.args_bexc_ga (.ref x) (.str "__class__" t)) ?_
  unfold Builtin.«object.__getattribute__»
  refine wpAny_bind (wpAny_of_eq (a := ((Value.ref x : Value), [Value.str "__class__" t])) (by first | rfl | (simp only [slotArgs]; rfl)) ?_)
  refine wpAny_bind (wpAny_pure (wpAny_bind (its.at (wpAny_bind ((looks_find Y J found).at ?_)))))
  show wpAny _ _ (holding [Value.builtin "object.__class__"] (call (.builtin "getset_descriptor.__get__") [.builtin "object.__class__", .ref x, .ref D]) >>= ret) _ _ _
  refine wpAny_bind (wpAny_holding (wpAny_call (class_get (s := ⟨hp, g, d, t + 1, os⟩) (ox := ox) (od := od) Y J top (wpAny_pure ?_))))
  show wpAny _ _ (handedOut (.ref D)) _ _ _
  rw [handedOut_of (v := .ref D) rfl]
  first
    | exact wpAny_pure (wpAny_pure done)
    | exact wpAny_pure done
    | exact wpAny_pure (wpAny_bind (wpAny_pure (wpAny_pure done)))
theorem cls_there (have_ : hasDictIn K D = true) : ∃ c d cd sl, K.lookup D = some ⟨c, d, .cls cd, sl⟩ := by
  obtain ⟨cd, hc, _⟩ := any_some have_
  unfold clsIn at hc
  split at hc
  · rename_i c d cd' sl ho
    exact ⟨c, d, cd', sl, ho⟩
  · cases hc
end
end PySem.W
namespace PySem.W
open PySem PySem.Spec PySem.Calls PyProof.Rows
theorem kit_err {K : Frag} {x D : Addr} {ox od : Obj} (lead : findIn K (.ref D) "__getattribute__" = some (some (.builtin "BaseException.__getattribute__"))) (noGet : findIn K (.ref D) "__getattr__" = some none) (below : subIn K (.ref D) (.type "BaseException") = some true) (have_ : hasDictIn K D = true)
    (found : findObj K D (some od) "__class__" = some (.bind (.builtin "getset_descriptor.__get__") (.builtin "object.__class__"))) (top : mroIn K D (.type "object") = some true) : KitX K (.ref x) (.ref D) (fun h => InstAt h x ox D (some od)) := by
  obtain ⟨c, d, cd, sl, at_⟩ := cls_there have_
  refine ⟨fun _ _ _ J => J.type, fun _ _ Y _ => ?_, fun h tp dd its n sl Y e => ?_, fun Y J q => ask_class lead noGet below found top Y J q⟩
  · intro A' Q' E' s' up q
    unfold isType loadHead
    exact wpAny_bind (wpAny_loadPart (up _ _ (Y _ _ at_)) (wpAny_pure q))
  · refine Bool.eq_false_iff.mpr fun q => ?_
    have same : D = tp := Value.ref.inj (beq_iff_eq.mp q)
    rw [← same] at e
    have two := (Y _ _ at_).symm.trans e
    cases two
end PySem.W
namespace Le
open PySem PySem.Spec PyProof.Rows L2
/-- what the written part says of an error's class, for its making, its field «at», and isinstance -/
structure ErrC (K : PySem.W.Frag) (C fI : Addr) : Prop where
  oex : OexC K C
  exc : ExcC K C
  ini : PySem.W.findIn K (.ref C) "__init__" = some (some (.ref fI))
  tyI : PySem.W.typeIn K (.ref fI) = some (.type "function")
  noAt : PySem.W.findIn K (.ref C) "at" = some none
/-- at a: an error of the class at C, made of the integer n -/
def ErrAt (H : Hp) (a C d : Addr) (n : Int) : Prop := H a = some (exo a C (some d)) ∧ H d = some (exd d [(("at" : Str), V.int n)])
def spInit (K : PySem.W.Frag) : Sp := fun vs H Q _ => ∃ (a C fI : Addr) (n : Int), vs = [.ref a, .int n] ∧ ErrC K C fI ∧ H a = some (exo a C none) ∧
  ∀ d, H d = none → d ≠ a → Q .non (upd (upd H d (exd d [(("at" : Str), V.int n)])) a (exo a C (some d)))
section
variable {X : Cx}
/-- C(e, ..) as a value, C's __init__ keeping sp -/
def tErr (C : Addr) (sp : Sp) (ta : TA) : TE := fun σ H Q => ta σ H fun vs H1 => vs.length ≤ 1000 ∧ ∀ a, H1 a = none → sp (.ref a :: (vs ++ [])) (upd H1 a (exo a C none)) (fun v H2 => v = .non ∧ Q (.ref a) H2) (fun _ _ _ => False)
theorem pe_err {e : Expr} {es : List Expr} {ta : TA} {CX : CXT} {x : Str} {C fI : Addr} {k : Nat} {fd : FuncData} {ps : List Str} {sp : Sp} {p pos : Pos} (T : ErrC X.K C fI) (G : FnOk X.prog X.w X.K X.mg X.base CX k fI fd ps sp) (hr : Room (k + 1) X.A) (hb : Binds X.K fd ps []) (hx : Passes CX X (fun _ _ _ => False)) (hg : Gl X x) (hm : X.mg x = some (.ref C)) (ha : PA X (e :: es) ta)
    (hdb : (x == ("__debug__" : Str)) = false := by decide) (he : starEach (e :: es) X.env = (false, eval e X.env) :: starEach es X.env := by rfl) (hpl : (backTo pos (starEach es X.env)).any (·.1) = false := by rfl) : PE X (.Call (.Name x p) (e :: es) [] pos) (tErr C sp ta) := by
  refine ⟨fun pins s σ H Q I h => ?_⟩
  obtain ⟨nm, q, N, bs, bm, sn, sub, ab, col, dd, k0, k1, k2, k3, k5, obj, base⟩ := T.oex.cls
  refine wpAny_Call_Name_kw (ld_glob I hg hm ?_ hdb)
  refine PySem.W.callWith_K (h₀ := X.base) I.ok.mod.kin T.oex.kC (thn (ha.run pos pins s σ H _ I h) fun us s1 got => ?_) he hpl
  obtain ⟨vs, H1, J, rel, few, want⟩ := got
  refine ⟨J.kIn, ?_⟩
  obtain ⟨hp, g, dr, tk, os⟩ := s1
  have next : hp.objs.size ≤ hp.objs.size + 1 := Nat.le_succ _
  have promise := want _ (J.hok.fresh next)
  have J2 : Inv X pins σ (upd H1 (hp.objs.size + 1) (exo (hp.objs.size + 1) C none)) ⟨(hp.push (PySem.W.kdv_tup us)).push (PySem.HandSPX.excO C hp.objs.size), g, dr, tk, os⟩ :=
    J.laid (t' := tk) (fun b o e => Heap.get?_push_of_some _ (Heap.get?_push_of_some _ e)) next (exo_ok (show Heap.get? _ (hp.objs.size + 1) = some (PySem.HandSPX.excO C hp.objs.size) by heap_get))
  have rel2 : Vals (V.ref (hp.objs.size + 1) :: (vs ++ [])) (Value.ref (hp.objs.size + 1) :: (us ++ [])) := .cons rfl (rel.append .nil)
  have count : (Value.ref (hp.objs.size + 1) :: us ++ []).length = ps.length := by
    have e := rel2.length
    rw [G.len _ _ _ _ promise] at e
    exact e.symm
  have room : us.length ≤ sizeLine := by
    rw [← Paired.length rel, sizeLine_eq]
    omega
  show wpAny _ _ (call (.ref C) us) _ _ _
  refine wpAny_call (PySem.HandSPX.call_own F.excBase_ValueError (fun Y => PySem.HandSPX.refsVE_contains Y bm base) (J.kIn _ _ obj) (PySem.W.looks_findIn J.kIn T.ini) (fun self => PySem.W.bind_fn J.kIn self T.tyI) room
    (codeAny_mono (G.run _ X.stack _ _ ⟨Value.ref (hp.objs.size + 1) :: us, []⟩ (Value.ref (hp.objs.size + 1) :: (us ++ [])) _ _ (fun _ _ _ => False) (hr.make C us []) (J2.env0.make C us []) (by have z := hb _ (Value.ref (hp.objs.size + 1) :: us) J2.kIn count; rw [List.cons_append] at z; exact z) rel2 promise) fun r s' left => ?_))
  cases r with
  | error er => exact hx pins σ _ _ er s' J2 left
  | ok fl =>
    cases fl with
    | ret u =>
      obtain ⟨v, H2, os2, bare2, un2, ok2, rv, isNon, q2⟩ := left
      subst isNon
      exact ⟨rv, .ref (hp.objs.size + 1), H2, J2.call' (ch := []) os2 un2 ok2 bare2 (fun b z => absurd z (by simp)), rfl, q2⟩
    | next => exact False.elim left
    | brk => exact False.elim left
    | cont => exact False.elim left
/-- e.at, e an error -/
def tAt (K : PySem.W.Frag) (te : TE) : TE := fun σ H Q => te σ H fun x H1 => ∃ (a C d fI : Addr) (n : Int), x = .ref a ∧ ErrC K C fI ∧ ErrAt H1 a C d n ∧ Q (.int n) H1
theorem inst_of {pins : List (Addr × Obj)} {σ : L2.St} {H : Hp} {s : Shared} {a C d : Addr} {n : Int} (I : Inv X pins σ H s) (h : ErrAt H a C d n) : ∃ (ox od : Obj) (mA : Str → Option Value), PySem.W.InstAt s.heap a ox C (some od) ∧ (∀ f : Str, PySem.W.lookIn f od = some (mA f)) ∧ ∀ f : Str, RelO ([(("at" : Str), V.int n)].lookup f) (mA f) := by
  obtain ⟨t1, ho⟩ := exo_at I.hok h.1
  obtain ⟨mA, ns, rel⟩ := exd_at I.hok h.2
  obtain ⟨od, hd, hl⟩ := lookIn_ns ns
  exact ⟨_, od, mA, ⟨ho, rfl, rfl, hd⟩, hl, rel⟩
theorem pe_at {e : Expr} {te : TE} {pos : Pos} (he : PE X e te) (hb : attributeBase e "at" X.env (eval e X.env) = eval e X.env := by rfl) : PE X (.Attribute e "at" pos) (tAt X.K te) := by
  refine ⟨fun pins s σ H Q I h => ?_⟩
  refine attr_of hb (thn (he.run pins s σ H _ I h) fun u s1 got => ?_)
  obtain ⟨x, H1, J, rx, a, C, d, fI, n, rfl, T, at_, q⟩ := got
  obtain rfl : u = Value.ref a := rx
  obtain ⟨ox, od, mA, inst, look, rel⟩ := inst_of J at_
  have l : List.lookup ("at" : Str) [(("at" : Str), V.int n)] = some (V.int n) := by simp [List.lookup]
  obtain ⟨v, hv, rv⟩ := RelO.some_of (v := V.int n) (o := mA "at") (by rw [← l]; exact rel "at")
  exact HandSPX.exc_get J.kIn inst T.exc.hg T.exc.hk T.exc.hs (PySem.W.findObj_own T.exc.hd T.noAt rfl (by rw [look, hv])) (handed_of rv) ⟨.int n, H1, J.tok _, rv, q⟩
/-- isinstance(e, c), e an error -/
def rIsErr (K : PySem.W.Frag) : List V → Hp → VK → Prop := fun xs H Q => ∃ (a C d fI : Addr) (n : Int) (c : V) (cv : Value) (b : Bool), xs = [.ref a, c] ∧ ClsV c cv ∧ ErrC K C fI ∧ ErrAt H a C d n ∧ PySem.W.kitOne K (.ref C) cv = some b ∧ Q (.bl b) H
theorem call_isErr : CallR X (.builtin "isinstance") (rIsErr X.K) := by
  intro pins s σ H xs us Q I r h
  obtain ⟨a, C, d, fI, n, c, cv, b, rfl, cl, T, at_, kit, q⟩ := h
  obtain ⟨u1, u2, rfl, r1, r2⟩ := vals2 r
  obtain rfl := cl.eq r2
  obtain rfl : u1 = Value.ref a := r1
  obtain ⟨ox, od, mA, inst, _, _⟩ := inst_of I at_
  have there : (PySem.W.clsIn X.K C).isSome = true := by
    obtain ⟨cd, hc, _⟩ := PySem.W.any_some T.exc.hd
    rw [hc]
    rfl
  exact PySem.W.kia_one (PySem.W.kit_err T.exc.hg T.exc.hk T.exc.hs T.exc.hd (PySem.W.findObj_data there T.exc.ha T.exc.hn T.exc.ht) T.exc.hm) I.kIn inst kit (fun z => nomatch z) fun tk => ⟨.bl b, H, I.tok tk, rfl, q⟩
end
end Le

set_option Elab.async false
set_option linter.all false
set_option maxRecDepth 100000
set_option maxHeartbeats 4000000
/-! try with several except clauses, each with or without a name. -/
namespace Lt
open PySem PySem.Spec PyProof.Rows L2
/-- one clause: the class, the slot of its name if it has one, what its suite asks -/
abbrev Cl := Value × Option Nat × (Addr → Value → Option Addr → TS)
/-- the ends of a suite: the name's slot is emptied -/
def emptied (D : Ends) (o : Option Nat) : Ends := match o with
  | none => D
  | some i => { nx := fun σ' H' => D.nx (σ'.set i none) H', rt := D.rt, bk := fun σ' H' => D.bk (σ'.set i none) H', ct := fun σ' H' => D.ct (σ'.set i none) H' }
def named (o : Option Nat) (a : Addr) (σ : L2.St) : L2.St := match o with
  | none => σ
  | some i => σ.set i (some (.ref a))
/-- the wish of the clauses, one after the other -/
def wCls (K : PySem.W.Frag) (Wo : WX) (D : Ends) : List Cl → WX
  | [] => Wo
  | q :: r => fun cls d σ H => ∃ b, PySem.W.exmOne K cls q.1 = some b ∧ (b = true → ∀ a, H a = none → q.2.2 a cls d (emptied D q.2.1) (named q.2.1 a σ) H) ∧ (b = false → wCls K Wo D r cls d σ H)
/-- the clause's name is a local in slot i, or there is none -/
def NameAt (X : Cx) : Option Str → Option Nat → Prop
  | none, none => True
  | some n, some i => X.N[i]? = some n ∧ X.env.kindOf n = some .local
  | _, _ => False
inductive ClsOk (X : Cx) : List ExceptHandler → List Cl → Prop
  | nil : ClsOk X [] []
  | cons {x : Str} {nm : Option Str} {c : Value} {o : Option Nat} {ts : Addr → Value → Option Addr → TS} {b₀ : Stmt} {suite : List Stmt} {np pos' : Pos} {hds : List ExceptHandler} {l : List Cl} (hc : Names X x c) (hn : NameAt X nm o)
      (hsu : ∀ (a : Addr) (oe : Obj) (cls : Value) (d : Option Addr) (pn : List (Addr × Obj)), Zc cls d oe → (∃ vs, oe.data = .fields vs) → PSs (X.suite a ((a, oe) :: pn)) (b₀ :: suite) (ts a cls d)) (r : ClsOk X hds l) :
      ClsOk X (.ExceptHandler (some (.Name x np)) nm (b₀ :: suite) pos' :: hds) ((c, o, ts) :: l)
section
variable {X : Cx} {pins : List (Addr × Obj)} {D : Ends} {Wo : WX}
/-- the clauses are asked -/
theorem asks (tk : Takes X Wo) (hs : X.stack = X.env :: X.outer) (hf : X.env.frame = some X.env.locals) (hN : X.N.Nodup) {B : Heap} {s' : Shared} {h3 : Heap} {a : Addr} {σ : L2.St} {H : Hp} {cls : Value} {d : Option Addr}
    (J3 : ∀ h4, HandSPX.FlyingZ B (X.env :: X.outer) a (Zc cls d) h4 → h3.UpToSlots h4 → Inv X pins σ H { s' with heap := h4 })
    (out : ∀ h4, HandSPX.HeldZ B (X.env :: X.outer) a (Zc cls d) X.env.locals h4 → h3.UpToSlots h4 → Wo cls d σ H → XE X Wo (.ref a) { s' with heap := h4 })
    (fl : HandSPX.FlyingZ B (X.env :: X.outer) a (Zc cls d) h3) (na : H a = none) {hds : List ExceptHandler} {l : List Cl} (ok : ClsOk X hds l) (want : wCls X.K Wo D l cls d σ H) :
    wpAny (model X.prog X.w) X.A (handleBy (.ref a) X.env hds) (SP X pins D) X.xe { s' with heap := h3 } := by
  have I3 := J3 h3 fl (Heap.UpToSlots.refl _)
  have frame : ∀ {h : Heap} {o : Obj} {vs : Array Value}, h.FunFrames B (X.env :: X.outer) → h.get? a = some o → o.data = .fields vs → a ∉ frs (X.env :: X.outer) := by
    intro h o vs ff e dd hm
    obtain ⟨_, o2, e2, out2⟩ := ff.mem hm
    rw [e] at e2
    cases e2
    exact out2 _ dd
  obtain ⟨oe3, vs3, he3, hz3, hd3⟩ := fl.there
  have nfr := frame fl.2.2.1 he3 hd3
  have nL : a ≠ X.env.locals := fun z => nfr (List.mem_filterMap.mpr ⟨X.env, List.mem_cons_self, by rw [hf, z]⟩)
  have nF : a ∉ X.fs := by
    intro hm
    obtain ⟨e, he, q⟩ := List.mem_filterMap.mp hm
    exact nfr (List.mem_filterMap.mpr ⟨e, List.mem_cons_of_mem _ he, q⟩)
  have S3 := I3.suite he3 hd3 na nL nF
  have LT : PySem.W.Looks (model X.prog X.w) h3 (typeOf (.ref a)) cls := fun A Q E s k q => wpAny_typeOf_ref (k _ _ he3) (by rw [hz3.1]; exact q)
  induction ok with
  | nil =>
    refine wpAny_handleBy_nil ?_
    obtain ⟨k1, k2, k3, oe, vs, T, oT, ts2, he, hz, hd, h1, hr⟩ := id fl
    unfold PySem.passOn
    refine wpAny_bind (wpAny_field he hd h1 ?_)
    rw [if_neg (show ¬ ((Value.ref T == Value.none) = true) from by simp)]
    have fin : wpAny (model X.prog X.w) X.A (setFlight (.ref a) X.env.frame) (fun _ s4 => wpAny (model X.prog X.w) X.A (throw (.ref a) : Sem Flow) (SP X pins D) X.xe s4) X.xe { s' with heap := h3 } := by
      rw [hf]
      exact HandSPX.setFlight_upZ fl fun h4 hh4 up4 => wpAny_throw (tk _ _ (out h4 hh4 up4 want))
    first
      | exact wpAny_bind (wpAny_pure (wpAny_bind fin))
      | exact wpAny_bind fin
  | @cons x nm c o ts b₀ suite np pos' hds2 l2 hc hn hsu r ih =>
    obtain ⟨b, hb1, yes, no⟩ := want
    refine wpAny_handleBy_cons (codeAny_handlers_test ?_) (by intro q; cases q)
    have LM := PySem.W.exm_one (M := model X.prog X.w) (I3.kIn) LT hb1
    have test : ∀ {Q E : Value → Shared → Prop}, Q c { s' with heap := h3 } → wpAny (model X.prog X.w) (X.A.mark (some (.ref a))) (eval (.Name x np) X.env) Q E { s' with heap := h3 } := by
      intro Q E q
      obtain ⟨hg, hdbg, hm | ⟨hm, hv, hnn⟩⟩ := hc
      · exact ld_glob (X := X.suite a ((a, oe3) :: (X.pn ++ pins))) S3 hg hm q hdbg
      · exact ld_blt (X := X.suite a ((a, oe3) :: (X.pn ++ pins))) S3 hg hm hv q hnn hdbg
    refine test (LM.here ?_)
    cases b with
    | false => exact ih (no rfl)
    | true =>
      have want2 := yes rfl a na
      cases nm with
      | none =>
        cases o with
        | some i => exact hn.elim
        | none =>
          refine codeAny_handlers_suite (HandSPX.lands_againZ fl fun h4 fl4 up4 => ?_)
          obtain ⟨oe4, vs4, he4, hz4, hd4⟩ := fl4.there
          have S4 := (J3 h4 fl4 up4).suite he4 hd4 na nL nF
          refine wpAny_mono ((hsu a oe4 cls d (X.pn ++ pins) hz4 ⟨_, hd4⟩).run [] _ _ H _ S4 want2) (fun f s6 hsp => ?_) (fun _ _ z => False.elim z)
          cases f
          all_goals
            first
              | (obtain ⟨σ6, H6, S6, q6⟩ := hsp; exact ⟨_, _, S6.unsuite I3.ok, q6⟩)
              | (obtain ⟨v6, σ6, H6, S6, r6, q6⟩ := hsp; exact ⟨_, _, _, S6.unsuite I3.ok, r6, q6⟩)
      | some n =>
        cases o with
        | none => exact hn.elim
        | some i =>
          obtain ⟨hi, hln⟩ := hn
          refine codeAny_handlers_suite_as (HandSPX.lands_againZ fl fun h4 fl4 up4 => ?_)
          obtain ⟨oe4, vs4, he4, hz4, hd4⟩ := fl4.there
          have S4 := (J3 h4 fl4 up4).suite he4 hd4 na nL nF
          refine store_ok (X := X.suite a ((a, oe4) :: (X.pn ++ pins))) (v := .ref a) S4 hN hi (.inl hln) rfl (fun s5 S5 => ?_) (.inr hln)
          refine wpAny_mono ((hsu a oe4 cls d (X.pn ++ pins) hz4 ⟨_, hd4⟩).run [] s5 _ H _ S5 want2) (fun f s6 hsp => ?_) (fun _ _ z => False.elim z)
          cases f
          all_goals
            first
              | (obtain ⟨σ6, H6, S6, q6⟩ := hsp; exact gone_ok (S6.unsuite I3.ok) hN hi hln fun s7 J7 => ⟨_, _, J7, q6⟩)
              | (obtain ⟨v6, σ6, H6, S6, r6, q6⟩ := hsp; exact gone_ok (S6.unsuite I3.ok) hN hi hln fun s7 J7 => ⟨_, _, _, J7, r6, q6⟩)
theorem ps_try_cls {body : List Stmt} {h₀ : ExceptHandler} {hds : List ExceptHandler} {l : List Cl} {pos : Pos} {tb : WX → TS} (hs : X.stack = X.env :: X.outer) (hf : X.env.frame = some X.env.locals) (hN : X.N.Nodup) (tk : Takes X Wo)
    (hb : ∀ (W : WX) (pn : List (Addr × Obj)) (xe : Value → Shared → Prop), Takes (X.tr pn xe) W → PassesOwn (model X.prog X.w) X.A X.env xe → PSs (X.tr pn xe) body (tb W))
    (hh : ClsOk X (h₀ :: hds) l) : PS X (.Try body (h₀ :: hds) [] [] pos) (fun D σ H => tb (wCls X.K Wo D l) D σ H) := by
  refine ⟨fun pins s σ H D I h => ?_⟩
  have ok := I.ok
  have hfr : X.A.frames = some (X.env :: X.outer) := ok.frames.trans (congrArg some hs)
  refine wpAny_Try_except (wpAny_mono ((hb (wCls X.K Wo D l) (X.pn ++ pins) (fun e s₁ => wpAny (model X.prog X.w) X.A (noteFrame e X.env) (fun _ s₂ => wpAny (model X.prog X.w) X.A (setFlight e none)
    (fun _ s₃ => wpAny (model X.prog X.w) X.A (handleBy e X.env (h₀ :: hds)) (SP X pins D) X.xe s₃) X.xe s₂) X.xe s₁) (fun u s' xx => ?_) PassesOwn.looking).run [] s σ H D (I.toTry _) h) (fun f s1 hsp => ?_) (fun e s1 he => he))
  · obtain ⟨a, B, sI, pins', σ', H', cls, d, rfl, J', nb, up, sky, na, os, ag, w⟩ := xx
    have J : Inv X pins σ' H' sI := J'.ofTry ok
    refine Sky.land (s := s') (E₁ := X.xe) Zc.steady hfr hf (hs ▸ sky) fun h3 fl3 up3 => ?_
    refine asks tk hs hf hN (B := B) (fun h4 fl4 up4 => J.landed nb fl4.1 ((up.trans up3).trans up4) os ag) (fun h4 hh4 up4 wo => ?_) fl3 na hh w
    exact ⟨a, B, sI, pins, σ', H', cls, d, rfl, J, nb, (up.trans up3).trans up4, .inr (.inr (hs.symm ▸ hh4)), na, os, ag, wo⟩
  · cases f
    case next =>
      obtain ⟨σ', H', J', q⟩ := hsp
      exact wpAny_execs_nil ⟨σ', H', J'.ofTry ok, q⟩
    case ret u =>
      obtain ⟨v, σ', H', J', r, q⟩ := hsp
      exact ⟨v, σ', H', J'.ofTry ok, r, q⟩
    all_goals
      obtain ⟨σ', H', J', q⟩ := hsp
      exact ⟨σ', H', J'.ofTry ok, q⟩
end
end Lt

set_option Elab.async false
set_option linter.all false
set_option maxRecDepth 100000
set_option maxHeartbeats 4000000
/-! Characters, patterns, lexicons, as the program tells them. -/
namespace Ld
open PySem PySem.Spec PyProof.Rows L2 Lg Lr Le Lt
/-! ### tables -/
def Tt (Ts : List Addr) (H : Hp) : Prop := ∀ T ∈ Ts, GxR.TabG H T
theorem Tt.new {Ts : List Addr} {H : Hp} (t : Tt Ts H) {p : Addr} {o : HO} (n : H p = none) : Tt Ts (upd H p o) := fun T m => tabG_new (t T m) n
theorem Tt.same {Ts : List Addr} {A B : Hp} (t : Tt Ts A) (u : Same A B) : Tt Ts B := fun T m => by
  obtain ⟨p, e, k⟩ := t T m
  exact ⟨p, u _ _ e, k⟩
theorem Tt.on {Ts : List Addr} {H H2 : Hp} {T : Addr} (t : Tt Ts H) (h : GxR.Tabbed T H H2) : Tt Ts H2 := fun U m => tabbed_other (t U m) h
theorem Tt.lst {Ts : List Addr} {H : Hp} (t : Tt Ts H) {p : Addr} {o : HO} {xs : List V} (n : H p = some (.lst xs)) : Tt Ts (upd H p o) := fun T m => tabG_in (t T m) n fun _ z => by cases z
/-! ### an error that leaves -/
def Leaves (Ts : List Addr) (C : Addr) (n : Int) (H : Hp) (E : XK) : Prop := ∀ d H2, Up H H2 → Tt Ts H2 → H2 d = some (.xd [(("at" : Str), V.int n)]) → E (.ref C) (some d) H2
theorem Leaves.later {Ts : List Addr} {C : Addr} {n : Int} {H H2 : Hp} {E : XK} (h : Leaves Ts C n H E) (u : Up H H2) : Leaves Ts C n H2 E := fun d H3 u3 => h d H3 (u.trans u3)
abbrev sInit : Stmt := inClass (topS 1) 0
/-! ### characters -/
def charB (c : Nat) : Bool := decide (c = 10) || (decide (32 ≤ c) && decide (c ≤ 126) && !decide (c = 37))
def charsB (z : Str) : Bool := (cds z).all charB
def diffB (z : Str) : Bool := charsB z && decide (cds z).Nodup
def patB (p : Pt) : Bool := kindB p.k && if p.f = "word" then decide (1 ≤ p.c.length) && (decide (p.c.length ≤ 12) && charsB p.c) else decide (p.f = "run") && (decide (1 ≤ p.c.length) && (decide (p.c.length ≤ 95) && diffB p.c))
def lexB (ps : List Pt) (o : Str) : Bool := decide (ps.length ≤ 20) && (diffB o && ps.all patB)
theorem one_lt (c d : Nat) : decide (([c] : List Nat) < [d]) = decide (c < d) := decide_eq_decide.mpr (by simp [List.cons_lt_cons_iff])
theorem one_eq (c d : Nat) : decide (V.str ⟨#[c]⟩ = V.str ⟨#[d]⟩) = decide (c = d) := by
  by_cases h : c = d
  · subst h; simp
  · rw [decide_eq_false h, decide_eq_false fun z => h ?_]
    have z2 : [c] = [d] := congrArg (fun y : Str => y.cps.toList) (V.str.inj z)
    exact (List.cons.inj z2).1
theorem iteStr {x y : Str} {A B : Prop} (h1 : x = y → A) (h2 : x ≠ y → B) : if decide (V.str x = V.str y) = true then A else B := by
  by_cases e : x = y
  · subst e
    rw [decide_eq_true rfl]
    exact iteT (h1 rfl)
  · rw [decide_eq_false (fun z => e (V.str.inj z))]
    exact iteF (h2 e)
section
variable {P : Program} {w : World} {K : PySem.W.Frag} {mg : Str → Option Value} {base : Heap}
theorem scI : FnScope ["self", "at"] ["self", "at"] (defScope sInit) := ⟨rfl, rfl, rfl, by decide +kernel, rfl, by decide +kernel, by decide +kernel⟩
theorem ok_init {f : Addr} {fd : FuncData} {k : Nat} (F : Fun K "__init__" "MendError.__init__" sInit f fd) : FnOk P w K mg base CX0 (k + 1) f fd ["self", "at"] (spInit K) := by
  refine F.ok scI (fun vs H Q E h => ?_) (fun cdv A outer s H vs Q E hr h => ?_)
  · obtain ⟨a, C, fI, n, rfl, _⟩ := h
    rfl
  · obtain ⟨a, C, fI, n, rfl, T, ea, q⟩ := h
    refine ⟨_, pss_one (ps_ost (pv 0) (pv 1)), ?_⟩
    exact ⟨_, rfl, _, rfl, a, C, rfl, T.oex, T.noAt, .inl ⟨ea, fun d nd ne => q d nd ne⟩⟩
theorem thrown {Ts : List Addr} {C fI : Addr} {n : Int} {H1 : Hp} {Q : XK} (T : ErrC K C fI) (tb : Tt Ts H1) (want : Leaves Ts C n H1 Q) : ∀ a, H1 a = none → spInit K (.ref a :: ([.int n] ++ [])) (upd H1 a (exo a C none))
    (fun v H2 => v = .non ∧ ∃ (d : Addr) (fs : List (Str × V)), H2 a = some (exo a C (some d)) ∧ H2 d = some (exd d fs) ∧ H1 d = none ∧ Q (.ref C) (some d) (upd (del H2 a) d (.xd fs))) (fun _ _ _ => False) := by
  intro a na
  refine ⟨a, C, fI, n, rfl, T, upd_same, fun d nd ne => ⟨rfl, d, [(("at" : Str), V.int n)], upd_same, ?_, ?_, ?_⟩⟩
  · rw [upd_ne ne]
    exact upd_same
  · rw [upd_ne ne] at nd
    exact nd
  · have nd1 : H1 d = none := by
      rw [upd_ne ne] at nd
      exact nd
    have e : upd (del (upd (upd (upd H1 a (exo a C none)) d (exd d [(("at" : Str), V.int n)])) a (exo a C (some d))) a) d (.xd [(("at" : Str), V.int n)]) = upd H1 d (.xd [(("at" : Str), V.int n)]) := by
      funext b
      by_cases hb : b = d
      · subst hb
        rw [upd_same, upd_same]
      · rw [upd_ne hb, upd_ne hb]
        by_cases ha : b = a
        · subst ha
          rw [del_same, na]
        · rw [del_ne ha, upd_ne ha, upd_ne hb, upd_ne ha]
    rw [e]
    exact want d _ (Up.put H1 nd1) (tb.new nd1) upd_same
theorem scCh : FnScope ["character"] ["character"] (defScope s__is_character) := ⟨rfl, rfl, rfl, by decide +kernel, rfl, by decide +kernel, by decide +kernel⟩
def spCh : Sp := fun vs H Q _ => ∃ c : Nat, vs = [.str ⟨#[c]⟩] ∧ Q (.bl (charB c)) H
theorem ok_ch {f : Addr} {fd : FuncData} (F : Fun K "_is_character" "_is_character" s__is_character f fd) (mo : mg "ord" = none) {tk : Tok} (mP : mg "PERCENT" = some (.int 37 tk)) : FnOk P w K mg base CX0 1 f fd ["character"] spCh := by
  refine F.ok scCh (fun vs H Q E h => ?_) (fun cdv A outer s H vs Q E hr h => ?_)
  · obtain ⟨c, rfl, _⟩ := h
    rfl
  · obtain ⟨c, rfl, q⟩ := h
    refine ⟨_, pss_one (ps_ret (pe_or (pe_cmpR op_eq (pv 0) pe_str (nomark _)) (pe_one (pe_and (pe_chain op_le_str op_le_str pe_str (pv 0) pe_str)
      (pe_one (pe_cmpR op_ne (pe_callB call_ord (by rfl) mo (by decide +kernel) (pa_cons (pv 0) pa_nil)) (pe_glob (v := .int 37) rfl mP ⟨_, rfl⟩) (nomark _))))))), ?_⟩
    unfold charB at q
    have e1 : decide (V.str ⟨#[c]⟩ = V.str ("\n" : Str)) = decide (c = 10) := one_eq c 10
    have e2 : (!decide ((⟨#[c]⟩ : Str).cps.toList < (" " : Str).cps.toList)) = decide (32 ≤ c) := by
      show (!decide (([c] : List Nat) < [32])) = _
      rw [one_lt]
      by_cases h : c < 32
      · rw [decide_eq_true h, decide_eq_false (by omega)]; rfl
      · rw [decide_eq_false h, decide_eq_true (by omega)]; rfl
    have e3 : (!decide (("~" : Str).cps.toList < (⟨#[c]⟩ : Str).cps.toList)) = decide (c ≤ 126) := by
      show (!decide (([126] : List Nat) < [c])) = _
      rw [one_lt]
      by_cases h : 126 < c
      · rw [decide_eq_true h, decide_eq_false (by omega)]; rfl
      · rw [decide_eq_false h, decide_eq_true (by omega)]; rfl
    refine ⟨_, rfl, rfl, ?_⟩
    rw [e1]
    refine ⟨_, rfl, ite2 (fun c1 => ?_) (fun c1 => ?_)⟩
    · rw [c1, Bool.true_or] at q
      exact q
    rw [Bool.eq_false_iff.mpr c1, Bool.false_or] at q
    refine ⟨_, rfl, _, _, rfl, rfl, ?_⟩
    rw [e2]
    refine ⟨_, rfl, ite2 (fun c2 => ?_) (fun c2 => ?_)⟩
    · rw [c2, Bool.true_and] at q
      refine ⟨_, _, rfl, rfl, ?_⟩
      rw [e3]
      refine ⟨_, rfl, ite2 (fun c3 => ?_) (fun c3 => ?_)⟩
      · rw [c3, Bool.true_and] at q
        refine ⟨_, rfl, _, rfl, rfl, rfl, ?_⟩
        have e4 : decide (V.int ((⟨#[c]⟩ : Str).cps.getD 0 0 : Nat) = V.int 37) = decide (c = 37) := by
          show decide (V.int (c : Nat) = V.int 37) = _
          refine decide_eq_decide.mpr ⟨fun z => ?_, fun z => by rw [z]; rfl⟩
          have := V.int.inj z
          omega
        rw [e4]
        exact q
      · rw [Bool.eq_false_iff.mpr c3, Bool.false_and] at q
        exact q
    · rw [Bool.eq_false_iff.mpr c2, Bool.false_and, Bool.false_and] at q
      exact ⟨_, rfl, iteF q⟩
end
end Ld

set_option Elab.async false
set_option linter.all false
set_option maxRecDepth 100000
set_option maxHeartbeats 4000000
namespace Ld
open PySem PySem.Spec PyProof.Rows L2 Lg Lr Le Lt
section
variable {P : Program} {w : World} {K : PySem.W.Frag} {mg : Str → Option Value} {base : Heap} {Ts : List Addr}
theorem scCs : FnScope ["text", "character"] ["text"] (defScope s__are_characters) := ⟨rfl, rfl, rfl, by decide +kernel, rfl, by decide +kernel, by decide +kernel⟩
theorem csGen : Gc.GenSc (defScope s__are_characters) (({ kind := ScopeKind.function, names := [(Str.ofString ".0", NameKind.local), (Str.ofString "character", NameKind.local), (Str.ofString "_is_character", NameKind.globalImplicit)], isGenerator := true, isCoroutine := false, more := [] } : Scope)) "character" :=
  ⟨rfl, rfl, by decide +kernel, rfl, rfl, by decide +kernel⟩
def spBt (Ts : List Addr) (b : Str → Bool) : Sp := fun vs H Q _ => ∃ z : Str, vs = [.str z] ∧ z.length ≤ 1000 ∧ Tt Ts H ∧ ∀ H2, Up H H2 → Tt Ts H2 → Q (.bl (b z)) H2
theorem ok_cs {f c fC T : Addr} {fd fdC : FuncData} (F : Fun K "_are_characters" "_are_characters" s__are_characters f fd) (hc : fd.code = .ref c) (TB : GxR.TabB base mg c T) (hT : T ∈ Ts)
    (GC : FnOk P w K mg base CX0 1 fC fdC ["character"] spCh) (kC : PySem.W.keepIn K (.ref fC) = true) (bC : Binds K fdC ["character"] []) (gC : mg "_is_character" = some (.ref fC)) (ma : mg "all" = none) :
    FnOk P w K mg base CX0 3 f fd ["text"] (spBt Ts charsB) := by
  refine okT (k := 2) F hc scCs (fun vs H Q E h => ?_) (fun A outer s H vs Q E hr h => ?_)
  · obtain ⟨z, rfl, _⟩ := h
    rfl
  · obtain ⟨z, rfl, hz, tb, q⟩ := h
    refine ⟨_, pss_one (ps_ret (Gn.pe_allN (te := tCall spCh [] E0 (tCons (tVar 1) tNil)) (k := 1) (ix := 1) hr (by rfl) ma (by decide +kernel) TB rfl scCs.nd csGen
      (blkOk_by (own := [("character", 1)]) (N := ["text", "character"]) (sc := defScope s__are_characters) (by decide +kernel)) rfl (pi_str (pv 0))
      (fun B s H C code fp hB => pe_call GC hB (by rfl) gC kC bC .nil pass0 (pa_cons (pv 1) pa_nil)) (fun _ => rfl))), ?_⟩
    refine ⟨_, rfl, z, rfl, tb T hT, fun H2 h2 => ⟨z.cps.size, fun i => charB (z.cps.getD i 0), fun _ H' => H' = H2, rfl, ?_, ?_, ?_⟩⟩
    · rintro i H3 hi rfl
      refine ⟨hi, fun x H4 hx => ?_⟩
      obtain ⟨rfl, d, hd, rfl⟩ := hx
      refine ⟨_, rfl, d, rfl, ?_, rfl⟩
      dsimp only
      rw [Array.getD_eq_getD_getElem?, hd]
      rfl
    · rintro H3 rfl
      exact Nat.le_refl _
    · rintro i H3 rfl
      rw [Gc.range_all]
      exact q H3 (Up.tabbed (tb T hT) h2) (tb.on h2)
theorem scDf : FnScope ["text"] ["text"] (defScope s__are_different_characters) := ⟨rfl, rfl, rfl, by decide +kernel, rfl, by decide +kernel, by decide +kernel⟩
theorem k1000 {n : Nat} (h : n ≤ 1000) : n ≤ sizeLine := Nat.le_trans h (by decide)
theorem ok_df {f fA : Addr} {fd fdA : FuncData} (F : Fun K "_are_different_characters" "_are_different_characters" s__are_different_characters f fd)
    (GA : FnOk P w K mg base CX0 3 fA fdA ["text"] (spBt Ts charsB)) (kA : PySem.W.keepIn K (.ref fA) = true) (bA : Binds K fdA ["text"] []) (gA : mg "_are_characters" = some (.ref fA)) (ml : mg "len" = none) (ms : mg "set" = none) :
    FnOk P w K mg base CX0 4 f fd ["text"] (spBt Ts diffB) := by
  refine F.ok scDf (fun vs H Q E h => ?_) (fun cdv A outer s H vs Q E hr h => ?_)
  · obtain ⟨z, rfl, _⟩ := h
    rfl
  · obtain ⟨z, rfl, hz, tb, q⟩ := h
    refine ⟨_, pss_one (ps_ret (pe_and (pe_call GA hr (by rfl) gA kA bA .nil pass0 (pa_cons (pv 0) pa_nil)) (pe_one (pe_cmpR op_eq (Sx.pe_lenSetT rfl (by rfl) ml (by rfl) ms (pv 0)) (pe_callB call_len_str (by rfl) ml PySem.boot_len (pa_cons (pv 0) pa_nil)) (nomark _))))), ?_⟩
    have big : 1001 < scanBound := by decide
    have zz : z.cps.size = z.length := rfl
    refine ⟨_, rfl, z, rfl, hz, tb, fun H2 u2 t2 => ⟨_, rfl, ite2 (fun c1 => ?_) (fun c1 => ?_)⟩⟩
    · refine ⟨_, rfl, z, rfl, by omega, fun l nd sg => ⟨_, rfl, z, rfl, k1000 hz, rfl, ?_⟩⟩
      have := q H2 u2 t2
      unfold diffB at this
      rw [c1, Bool.true_and] at this
      have e : decide (V.int (l.length : Nat) = V.int (z.length : Nat)) = decide (cds z).Nodup := by
        refine decide_eq_decide.mpr (Iff.trans ⟨fun x => ?_, fun x => ?_⟩ (Sx.signs_full nd sg))
        · have y := V.int.inj x
          have : (cds z).length = z.length := cds_len z
          show l.length = (cds z).length
          omega
        · have x : l.length = (cds z).length := x
          rw [x, cds_len]
      rw [e]
      exact this
    · have := q H2 u2 t2
      unfold diffB at this
      rw [Bool.eq_false_iff.mpr c1, Bool.false_and] at this
      exact this
theorem scPt : FnScope ["kind", "form", "text"] ["kind", "form", "text"] (defScope s__is_pattern) := ⟨rfl, rfl, rfl, by decide +kernel, rfl, by decide +kernel, by decide +kernel⟩
def spPt (Ts : List Addr) : Sp := fun vs H Q _ => ∃ p : Pt, vs = [.str p.k, .str p.f, .str p.c] ∧ p.k.length ≤ 1000 ∧ p.c.length ≤ 1000 ∧ Tt Ts H ∧ ∀ H2, Up H H2 → Tt Ts H2 → Q (.bl (patB p)) H2
theorem ok_pt {f fK fA fD T1 : Addr} {fd fdK fdA fdD : FuncData} (F : Fun K "_is_pattern" "_is_pattern" s__is_pattern f fd) (h1 : T1 ∈ Ts)
    (GK : FnOk P w K mg base CX0 2 fK fdK ["text"] (spOne T1 kindB)) (kK : PySem.W.keepIn K (.ref fK) = true) (bK : Binds K fdK ["text"] []) (gK : mg "is_kind" = some (.ref fK))
    (GA : FnOk P w K mg base CX0 3 fA fdA ["text"] (spBt Ts charsB)) (kA : PySem.W.keepIn K (.ref fA) = true) (bA : Binds K fdA ["text"] []) (gA : mg "_are_characters" = some (.ref fA))
    (GD : FnOk P w K mg base CX0 4 fD fdD ["text"] (spBt Ts diffB)) (kD : PySem.W.keepIn K (.ref fD) = true) (bD : Binds K fdD ["text"] []) (gD : mg "_are_different_characters" = some (.ref fD))
    (ml : mg "len" = none) {t1 t2 : Tok} (mW : mg "LONGEST_WORD" = some (.int 12 t1)) (mR : mg "LONGEST_RUN" = some (.int 95 t2)) :
    FnOk P w K mg base CX0 5 f fd ["kind", "form", "text"] (spPt Ts) := by
  refine F.ok scPt (fun vs H Q E h => ?_) (fun cdv A outer s H vs Q E hr h => ?_)
  · obtain ⟨p, rfl, _⟩ := h
    rfl
  · obtain ⟨p, rfl, hk, hl, tb, q⟩ := h
    have hr2 := hr.mono (show 2 ≤ 4 by decide)
    have hr3 := hr.mono (show 3 ≤ 4 by decide)
    refine ⟨_, pss_cons (ps_if (pt_not (pt_val (pe_call GK hr2 (by rfl) gK kK bK .nil pass0 (pa_cons (pv 0) pa_nil)))) (pss_one (ps_ret pe_bl)) pss_nil)
      (pss_cons (ps_if (pt_cmpR op_eq (pv 1) pe_str (nomark _)) (pss_one (ps_ret (pe_and (pe_chain op_le op_le pe_int (pe_callB call_len_str (by rfl) ml PySem.boot_len (pa_cons (pv 2) pa_nil)) (pe_glob (v := .int 12) rfl mW ⟨_, rfl⟩)) (pe_one (pe_call GA hr3 (by rfl) gA kA bA .nil pass0 (pa_cons (pv 2) pa_nil)))))) pss_nil)
      (pss_one (ps_ret (pe_and (pe_cmpR op_eq (pv 1) pe_str (nomark _)) (pe_and (pe_chain op_le op_le pe_int (pe_callB call_len_str (by rfl) ml PySem.boot_len (pa_cons (pv 2) pa_nil)) (pe_glob (v := .int 95) rfl mR ⟨_, rfl⟩)) (pe_one (pe_call GD hr (by rfl) gD kD bD .nil pass0 (pa_cons (pv 2) pa_nil)))))))), ?_⟩
    have le1 : ∀ n : Nat, decide ((1 : Int) ≤ (n : Int)) = decide (1 ≤ n) := fun n => decide_eq_decide.mpr (by omega)
    refine ⟨_, rfl, p.k, rfl, k1000 hk, tb T1 h1, fun H2 h2 => ⟨_, rfl, ?_⟩⟩
    have u2 := Up.tabbed (tb T1 h1) h2
    have t2 := tb.on h2
    cases ck : kindB p.k with
    | false =>
      have := q H2 u2 t2
      unfold patB at this
      rw [ck, Bool.false_and] at this
      exact iteT this
    | true =>
      have q2 : ∀ H3, Up H2 H3 → Tt Ts H3 → Q (.bl (if p.f = "word" then decide (1 ≤ p.c.length) && (decide (p.c.length ≤ 12) && charsB p.c) else decide (p.f = "run") && (decide (1 ≤ p.c.length) && (decide (p.c.length ≤ 95) && diffB p.c)))) H3 := fun H3 u3 t3 => by
        have := q H3 (u2.trans u3) t3
        unfold patB at this
        rw [ck, Bool.true_and] at this
        exact this
      refine iteF ⟨_, rfl, rfl, _, rfl, iteStr (fun cw => ?_) (fun cw => ?_)⟩
      · rw [if_pos cw] at q2
        refine ⟨_, rfl, p.c, rfl, k1000 hl, _, _, rfl, rfl, _, rfl, ite2 (fun c1 => ?_) (fun c1 => ?_)⟩
        · rw [(le1 p.c.length).symm.trans c1, Bool.true_and] at q2
          have e : decide ((p.c.length : Int) ≤ 12) = decide (p.c.length ≤ 12) := decide_eq_decide.mpr (by omega)
          refine ⟨_, _, rfl, rfl, _, rfl, ite2 (fun c2 => ?_) (fun c2 => ?_)⟩
          · rw [e.symm.trans c2, Bool.true_and] at q2
            exact ⟨_, rfl, p.c, rfl, hl, t2, fun H3 u3 t3 => q2 H3 u3 t3⟩
          · rw [e.symm.trans (Bool.eq_false_iff.mpr c2), Bool.false_and] at q2
            exact q2 H2 (Up.refl H2) t2
        · rw [(le1 p.c.length).symm.trans (Bool.eq_false_iff.mpr c1), Bool.false_and] at q2
          exact ⟨_, rfl, iteF (q2 H2 (Up.refl H2) t2)⟩
      · rw [if_neg cw] at q2
        refine ⟨_, rfl, rfl, ?_⟩
        rw [str_dec]
        refine ⟨_, rfl, ite2 (fun c0 => ?_) (fun c0 => ?_)⟩
        · rw [c0, Bool.true_and] at q2
          refine ⟨_, rfl, p.c, rfl, k1000 hl, _, _, rfl, rfl, _, rfl, ite2 (fun c1 => ?_) (fun c1 => ?_)⟩
          · rw [(le1 p.c.length).symm.trans c1, Bool.true_and] at q2
            have e : decide ((p.c.length : Int) ≤ 95) = decide (p.c.length ≤ 95) := decide_eq_decide.mpr (by omega)
            refine ⟨_, _, rfl, rfl, _, rfl, ite2 (fun c2 => ?_) (fun c2 => ?_)⟩
            · rw [e.symm.trans c2, Bool.true_and] at q2
              exact ⟨_, rfl, p.c, rfl, hl, t2, fun H3 u3 t3 => q2 H3 u3 t3⟩
            · rw [e.symm.trans (Bool.eq_false_iff.mpr c2), Bool.false_and] at q2
              exact q2 H2 (Up.refl H2) t2
          · rw [(le1 p.c.length).symm.trans (Bool.eq_false_iff.mpr c1), Bool.false_and] at q2
            exact ⟨_, rfl, iteF (q2 H2 (Up.refl H2) t2)⟩
        · rw [Bool.eq_false_iff.mpr c0, Bool.false_and] at q2
          exact q2 H2 (Up.refl H2) t2
end
end Ld

set_option Elab.async false
set_option linter.all false
set_option maxRecDepth 100000
set_option maxHeartbeats 4000000
namespace Ld
open PySem PySem.Spec PyProof.Rows L2 Lg Lr Le Lt
theorem PtA.up {A B : Hp} (u : Up A B) (v : V) (s : Pt) (h : PtA A v s) : PtA B v s := let ⟨a, e, q⟩ := h; ⟨a, e, u.tup q⟩
theorem LexA.up {A B : Hp} (u : Up A B) {t : Addr} {ps : List Pt} {z : Str} (h : LexA A t ps z) : LexA B t ps z := let ⟨l, vs, e1, e2, q⟩ := h; ⟨l, vs, u.tup e1, u.lst e2, q.mono (PtA.up u)⟩
/-- texts of lengths that are no matter -/
def Fit (ps : List Pt) (o : Str) : Prop := ps.length ≤ 40 ∧ o.length ≤ 1000 ∧ ∀ p ∈ ps, p.k.length ≤ 1000 ∧ p.c.length ≤ 1000
theorem range_get {α : Type} (f : α → Bool) (L : List α) (d : α) : ((List.range L.length).all fun i => f (L.getD i d)) = L.all f := by
  rw [Bool.eq_iff_iff, List.all_eq_true, List.all_eq_true]
  constructor
  · intro h s hs
    obtain ⟨j, hj, e⟩ := List.getElem_of_mem hs
    have q := h j (List.mem_range.mpr hj)
    rw [List.getD_eq_getElem?_getD, List.getElem?_eq_getElem hj] at q
    rw [← e]
    exact q
  · intro h j hj
    have hj' := List.mem_range.mp hj
    rw [List.getD_eq_getElem?_getD, List.getElem?_eq_getElem hj']
    exact h _ (List.getElem_mem hj')
section
variable {P : Program} {w : World} {K : PySem.W.Frag} {mg : Str → Option Value} {base : Heap} {Ts : List Addr}
theorem scLx : FnScope ["lexicon", "patterns", "passed", "kind", "form", "text"] ["lexicon"] (defScope s_is_lexicon) := ⟨rfl, rfl, rfl, by decide +kernel, rfl, by decide +kernel, by decide +kernel⟩
theorem lxGen : Gt.GenT (defScope s_is_lexicon) (({ kind := ScopeKind.function, names := [(Str.ofString ".0", NameKind.local), (Str.ofString "kind", NameKind.local), (Str.ofString "form", NameKind.local), (Str.ofString "text", NameKind.local), (Str.ofString "_is_pattern", NameKind.globalImplicit)], isGenerator := true, isCoroutine := false, more := [] } : Scope)) :=
  ⟨rfl, rfl, by decide +kernel, rfl, by decide +kernel⟩
def spLx (Ts : List Addr) : Sp := fun vs H Q _ => ∃ (t : Addr) (ps : List Pt) (o : Str), vs = [.ref t] ∧ LexA H t ps o ∧ Fit ps o ∧ Tt Ts H ∧ ∀ H2, Up H H2 → Tt Ts H2 → Q (.bl (lexB ps o)) H2
theorem ok_lx {f c fP fD T : Addr} {fd fdP fdD : FuncData} (F : Fun K "is_lexicon" "is_lexicon" s_is_lexicon f fd) (hc : fd.code = .ref c) (TB : GxR.TabB base mg c T) (hT : T ∈ Ts)
    (GP : FnOk P w K mg base CX0 5 fP fdP ["kind", "form", "text"] (spPt Ts)) (kP : PySem.W.keepIn K (.ref fP) = true) (bP : Binds K fdP ["kind", "form", "text"] []) (gP : mg "_is_pattern" = some (.ref fP))
    (GD : FnOk P w K mg base CX0 4 fD fdD ["text"] (spBt Ts diffB)) (kD : PySem.W.keepIn K (.ref fD) = true) (bD : Binds K fdD ["text"] []) (gD : mg "_are_different_characters" = some (.ref fD))
    (ml : mg "len" = none) (ma : mg "all" = none) {t1 : Tok} (mM : mg "MOST_PATTERNS" = some (.int 20 t1)) :
    FnOk P w K mg base CX0 7 f fd ["lexicon"] (spLx Ts) := by
  refine okT (k := 6) F hc scLx (fun vs H Q E h => ?_) (fun A outer s H vs Q E hr h => ?_)
  · obtain ⟨t, ps, o, rfl, _⟩ := h
    rfl
  · obtain ⟨t, ps, o, rfl, ⟨l, vs, h1, h2, rel⟩, ⟨few, ol, fit⟩, tb, q⟩ := h
    have hr4 := hr.mono (show 4 ≤ 6 by decide)
    refine ⟨_, pss_cons (ps_asg (pv 0) (pg_tup rfl (pgs_cons (pg_name (i := 1) scLx.nd rfl (.inl rfl)) (pgs_cons (pg_name (i := 2) scLx.nd rfl (.inl rfl)) pgs_nil))))
      (pss_cons (ps_if (PW.pt (pw_or (pt_cmpR op_gt (pe_callB call_len_seq (by rfl) ml PySem.boot_len (pa_cons (pv 1) pa_nil)) (pe_glob (v := .int 20) rfl mM ⟨_, rfl⟩) (nomark _)) (pw_or1 (pt_not (pt_val (pe_call GD hr4 (by rfl) gD kD bD .nil pass0 (pa_cons (pv 2) pa_nil))))))) (pss_one (ps_ret pe_bl)) pss_nil)
      (pss_one (ps_ret (Gt.pe_allT (g := gTup K 3 (gCons (gName 3) (gCons (gName 4) (gCons (gName 5) gNil)))) (te := tCall (spPt Ts) [] E0 (tCons (tVar 3) (tCons (tVar 4) (tCons (tVar 5) tNil)))) (k := 5) hr (by rfl) ma (by decide +kernel) TB rfl scLx.nd lxGen
        (blkOk_by (own := [("kind", 3), ("form", 4), ("text", 5)]) (N := ["lexicon", "patterns", "passed", "kind", "form", "text"]) (sc := defScope s_is_lexicon) (by decide +kernel))
        (fun B s H C code fp => pg_tup (n := 3) rfl (pgs_cons (pg_name (i := 3) scLx.nd rfl (.inl rfl) (.inr rfl)) (pgs_cons (pg_name (i := 4) scLx.nd rfl (.inl rfl) (.inr rfl)) (pgs_cons (pg_name (i := 5) scLx.nd rfl (.inl rfl) (.inr rfl)) pgs_nil)))) (pi_list (pv 1))
        (fun B s H C code fp hB => pe_call GP hB (by rfl) gP kP bP .nil pass0 (pa_cons (pv 3) (pa_cons (pv 4) (pa_cons (pv 5) pa_nil)))) (fun _ => rfl))))), ?_⟩
    refine ⟨_, rfl, t, _, rfl, SqT.of h1, rfl, _, _, rfl, _, _, rfl, rfl, ?_⟩
    have e20 : decide ((20 : Int) < (vs.length : Int)) = !decide (ps.length ≤ 20) := by
      rw [rel.len]
      by_cases z : ps.length ≤ 20
      · rw [decide_eq_true z, decide_eq_false (by omega)]; rfl
      · rw [decide_eq_false z, decide_eq_true (by omega)]; rfl
    refine ⟨_, rfl, l, _, rfl, .inl (SqL.of h2), _, _, rfl, rfl, _, rfl, ite2 (fun c1 => ?_) (fun c1 => ?_)⟩
    · have c2 := e20.symm.trans c1
      have := q H (Up.refl H) tb
      unfold lexB at this
      cases z : decide (ps.length ≤ 20) with
      | true => rw [z] at c2; cases c2
      | false =>
        rw [z, Bool.false_and] at this
        exact iteT this
    have c2 := e20.symm.trans (Bool.eq_false_iff.mpr c1)
    have c3 : decide (ps.length ≤ 20) = true := by
      cases z : decide (ps.length ≤ 20) with
      | true => rfl
      | false => rw [z] at c2; cases c2
    refine ⟨_, rfl, o, rfl, ol, tb, fun H2 u2 t2 => ⟨_, rfl, ?_⟩⟩
    cases cd : diffB o with
    | false =>
      have := q H2 u2 t2
      unfold lexB at this
      rw [c3, cd, Bool.false_and, Bool.true_and] at this
      exact iteT this
    | true =>
      have hl2 := u2.lst h2
      have rel2 : Rel2 (PtA H2) vs ps := rel.mono (PtA.up u2)
      have q2 : ∀ H3, Up H2 H3 → Tt Ts H3 → Q (.bl (ps.all patB)) H3 := fun H3 u3 t3 => by
        have := q H3 (u2.trans u3) t3
        unfold lexB at this
        rw [c3, cd, Bool.true_and, Bool.true_and] at this
        exact this
      refine iteF ⟨_, rfl, l, rfl, ⟨_, SqL.of hl2⟩, t2 T hT, fun H5 h5 => ⟨ps.length, fun i => patB (ps.getD i ⟨"", "", ""⟩), fun _ H' => Up H2 H' ∧ Tt Ts H', ⟨Up.tabbed (t2 T hT) h5, t2.on h5⟩, ?_, ?_, ?_⟩⟩
      · rintro i H6 hi ⟨ui, ti⟩
        have hl6 : SqL K H6 l vs := SqL.of (ui.lst hl2)
        have hi' : i < vs.length := by rw [rel.len]; exact hi
        refine ⟨walk_list.goes i H6 hi' hl6, fun x H7 y => ?_⟩
        obtain ⟨rfl, hx⟩ := walk_list.yields i H6 x H7 hi' hl6 y
        obtain ⟨p, hp, a, rfl, ha⟩ := rel2.get hx
        have pin := List.mem_of_getElem? hp
        refine ⟨a, _, rfl, SqT.of (ui.tup ha), rfl, _, _, rfl, _, _, rfl, _, _, rfl, rfl, rfl, ?_⟩
        refine ⟨_, rfl, _, rfl, _, rfl, p, rfl, (fit p pin).1, (fit p pin).2, ti, fun H8 u8 t8 => ⟨?_, ui.trans u8, t8⟩⟩
        dsimp only
        rw [List.getD_eq_getElem?_getD, hp]
        rfl
      · rintro H6 ⟨ui, ti⟩
        have := walk_list.stops H6 (SqL.of (ui.lst hl2) : SqL K H6 l vs)
        rw [rel.len] at this
        exact this
      · rintro j H6 ⟨ui, ti⟩
        rw [range_get patB ps]
        exact q2 H6 ui ti
end
end Ld

set_option Elab.async false
set_option linter.all false
set_option maxRecDepth 100000
set_option maxHeartbeats 4000000
namespace Ld
open PySem PySem.Spec PyProof.Rows L2 Lg Lr Le Lt
/-- the kinds, ascending, each once -/
structure Kinds (ps : List Pt) (ys : List Str) : Prop where
  up : sortedS ys = true
  once : ys.Nodup
  mem : ∀ x, x ∈ ys ↔ ∃ p ∈ ps, p.k = x
section
variable {P : Program} {w : World} {K : PySem.W.Frag} {mg : Str → Option Value} {base : Heap} {Ts : List Addr}
theorem scKo : FnScope ["lexicon", "kind", "form", "text"] ["lexicon"] (defScope s_kinds_of) := ⟨rfl, rfl, rfl, by decide +kernel, rfl, by decide +kernel, by decide +kernel⟩
def spKo (Ts : List Addr) (C : Addr) : Sp := fun vs H Q E => ∃ (t : Addr) (ps : List Pt) (o : Str), vs = [.ref t] ∧ LexA H t ps o ∧ Fit ps o ∧ Tt Ts H ∧ (lexB ps o = false → Leaves Ts C 0 H E) ∧
  (lexB ps o = true → ∀ (a : Addr) (ys : List Str) (H2 : Hp), Up H H2 → Tt Ts H2 → H2 a = some (.lst (ys.map V.str)) → H a = none → Kinds ps ys → Q (.ref a) H2)
theorem ok_ko {f fX fI cB : Addr} {fd fdX fdI : FuncData} (F : Fun K "kinds_of" "kinds_of" s_kinds_of f fd)
    (GX : FnOk P w K mg base CX0 7 fX fdX ["lexicon"] (spLx Ts)) (kX : PySem.W.keepIn K (.ref fX) = true) (bX : Binds K fdX ["lexicon"] []) (gX : mg "is_lexicon" = some (.ref fX))
    (GI : FnOk P w K mg base CX0 1 fI fdI ["self", "at"] (spInit K)) (bI : Binds K fdI ["self", "at"] []) (EB : ErrC K cB fI) (gB : mg "BadKinds" = some (.ref cB)) (ms : mg "sorted" = none) :
    FnOk P w K mg base (L2.CX P w) 8 f fd ["lexicon"] (spKo Ts cB) := by
  refine F.okX scKo (fun vs H Q E h => ?_) (fun cdv A outer s H vs Q E hr h => ?_)
  · obtain ⟨t, ps, o, rfl, _⟩ := h
    rfl
  · obtain ⟨t, ps, o, rfl, lx, fit, tb, bad, good⟩ := h
    refine ⟨_, pss_cons (ps_if (pt_not (pt_val (pe_call GX hr (by rfl) gX kX bX .nil pass0 (pa_cons (pv 0) pa_nil)))) (pss_one (ps_raise rfl (takes_of rfl rfl rfl rfl) (pmk_oex EB.oex EB.ini EB.tyI GI (hr.mono (by decide)) bI .nil pass0 rfl gB (pa_cons pe_int pa_nil)))) pss_nil)
      (pss_one (ps_ret (pe_callB (Sx.cr_sortT rfl) (by rfl) ms (by decide +kernel) (pa_cons (Sx.pe_setT (g := gTup K 3 (gCons (gName 1) (gCons (gName 2) (gCons (gName 3) gNil)))) (te := tVar 1) (own := [("kind", 1), ("form", 2), ("text", 3)]) rfl scKo.nd (pi_list (pe_ix ix_tup (pv 0) pe_int (fun _ _ => rfl)))
        (blkOk_by (own := [("kind", 1), ("form", 2), ("text", 3)]) (N := ["lexicon", "kind", "form", "text"]) (sc := defScope s_kinds_of) (by decide +kernel))
        (fun s H C cl fp => pg_tup (n := 3) rfl (pgs_cons (pg_name (i := 1) scKo.nd rfl (.inl rfl) (.inr rfl)) (pgs_cons (pg_name (i := 2) scKo.nd rfl (.inl rfl) (.inr rfl)) (pgs_cons (pg_name (i := 3) scKo.nd rfl (.inl rfl) (.inr rfl)) pgs_nil))))
        (fun s H C cl fp => pts_nil) (fun s H C cl fp => pv 1)) pa_nil)))), ?_⟩
    refine ⟨_, rfl, t, ps, o, rfl, lx, fit, tb, fun H2 u2 t2 => ⟨_, rfl, ?_⟩⟩
    cases c : lexB ps o with
    | false => exact iteT ⟨(by show 1 ≤ 1000; decide), thrown EB t2 ((bad c).later u2)⟩
    | true =>
      have q := good c
      obtain ⟨few, ol, ft⟩ := fit
      obtain ⟨l, vs, h1, h2, rel⟩ := lx.up u2
      refine iteF ⟨_, rfl, t, _, _, _, rfl, rfl, SqT.of h1, at_of (j := 0) rfl rfl, l, rfl, ⟨_, SqL.of h2⟩, fun D nD => ?_⟩
      refine Lc.wk_by (walk_list (K := K) (a := l) (xs := vs)) (fun i H' => ∃ ls, Up H2 H' ∧ Tt Ts H' ∧ H' D = some (Sx.TxO P w D ls) ∧ ls.Nodup ∧ ls.length ≤ i ∧ ∀ x, x ∈ ls ↔ ∃ p ∈ ps.take i, p.k = x)
        ⟨[], Up.put H2 nD, t2.new nD, upd_same, List.nodup_nil, Nat.le_refl _, fun x => by simp⟩ (fun i H' _ ⟨ls, u, _⟩ => SqL.of (u.lst h2)) ?_ ?_
      · rintro i x H' H'' hi ⟨ls, u, ti, hD, nd, lsn, mem⟩ ⟨rfl, hx⟩
        obtain ⟨p, hp, a, rfl, ha⟩ := rel.get hx
        have il : i < ps.length := (List.getElem?_eq_some_iff.mp hp).1
        refine ⟨a, _, rfl, SqT.of (u.tup ha), rfl, _, _, rfl, _, _, rfl, _, _, rfl, rfl, rfl, ?_⟩
        unfold tYes
        simp only [if_true]
        have room : ls.length + 1 < scanBound := Nat.lt_of_le_of_lt (show ls.length + 1 ≤ 41 by omega) (by decide)
        refine ⟨_, rfl, p.k, ls, rfl, hD, room, Sx.withT ls p.k, u.upd nD, fun T m => tabG_upd (ti T m) fun z => ?_, upd_same, Sx.withT_nodup nd p.k, ?_, fun x => ?_⟩
        · obtain ⟨_, e, _⟩ := t2 T m
          rw [← z, nD] at e
          cases e
        · have := Sx.withT_len ls p.k
          omega
        · rw [Sx.mem_withT, mem x, List.take_add_one, hp]
          constructor
          · rintro (⟨r, hr, e⟩ | e)
            · exact ⟨r, List.mem_append_left _ hr, e⟩
            · exact ⟨p, List.mem_append_right _ (by simp), e.symm⟩
          · rintro ⟨r, hr, e⟩
            rcases List.mem_append.mp hr with z | z
            · exact .inl ⟨r, z, e⟩
            · have : r = p := by simpa using z
              exact .inr (by rw [← e, this])
      · rintro H' ⟨ls, u, ti, hD, nd, lsn, mem⟩
        have ln := rel.len
        refine ⟨D, ls, rfl, hD, by omega, fun ys a perm so na => ?_⟩
        refine q a ys _ ((u2.trans u).upd ((u2.trans u).dom na)) (ti.new na) upd_same ((u2.trans u).dom na) ⟨so, perm.nodup_iff.mpr nd, fun x => ?_⟩
        rw [perm.mem_iff, mem x, ln, List.take_length]
end
end Ld

set_option Elab.async false
set_option linter.all false
set_option maxRecDepth 100000
set_option maxHeartbeats 4000000
/-! The law's own lexicons. -/
namespace Ld
open PySem PySem.Spec PyProof.Rows L2 Lg Lr
def LK : List Str := ["NUMBER", "PLUS", "IF", "NAME"]
def WL : List Str := ["+", "if", "i", "<=", "aaaaaaaaaaaa", "1"]
def RL : List Str := ["0123456789", "abif", "ia1", "+"]
def PL : List Str := ["", " ", " \n", "a "]
def PtOk (p : Pt) : Prop := p.k ∈ LK ∧ ((p.f = "word" ∧ p.c ∈ WL) ∨ (p.f = "run" ∧ p.c ∈ RL))
def LexOk (ps : List Pt) (o : Str) : Prop := ps.length ≤ 6 ∧ (∀ p ∈ ps, PtOk p) ∧ o ∈ PL
theorem pick_at {L : List Str} {v : Int} (h0 : 0 ≤ v) (h1 : v < (L.length : Int)) : ∃ s, (L.map V.str)[v.toNat]? = some (V.str s) ∧ s ∈ L := by
  have e : v.toNat < L.length := by omega
  exact ⟨L[v.toNat], by rw [List.getElem?_map, List.getElem?_eq_getElem e]; rfl, List.getElem_mem e⟩
section
variable {P : Program} {w : World} {K : PySem.W.Frag} {mg : Str → Option Value} {base : Heap}
theorem scLe : FnScope ["draws", "k", "patterns", "n", "at", "kind"] ["draws", "k"] (defScope s__law_lexicon) := ⟨rfl, rfl, rfl, by decide +kernel, rfl, by decide +kernel, by decide +kernel⟩
def spLe (K : PySem.W.Frag) : Sp := fun vs H Q _ => ∃ (a : Addr) (ds : List Int) (k : Int), vs = [.ref a, .int k] ∧ H a = some (.lst (ds.map V.int)) ∧
  ∀ (t : Addr) (H2 : Hp) (ps : List Pt) (o : Str), Same H H2 → H t = none → LexA H2 t ps o → LexOk ps o → Q (.ref t) H2
theorem ok_le {f fM : Addr} {fd fdM : FuncData} (F : Fun K "_law_lexicon" "_law_lexicon" s__law_lexicon f fd)
    (GM : FnOk P w K mg base CX0 1 fM fdM ["draws", "k", "many"] (spMix K)) (kM : PySem.W.keepIn K (.ref fM) = true) (bM : Binds K fdM ["draws", "k", "many"] []) (gM : mg "_law_mix" = some (.ref fM))
    (mr : mg "range" = none) : FnOk P w K mg base CX0 2 f fd ["draws", "k"] (spLe K) := by
  refine F.ok scLe (fun vs H Q E h => ?_) (fun cdv A outer s H vs Q E hr h => ?_)
  · obtain ⟨a, ds, k, rfl, _⟩ := h
    rfl
  · obtain ⟨a, ds, k, rfl, ha, q⟩ := h
    refine ⟨_, pss_cons (ps_set (i := 2) scLe.nd rfl (.inl rfl) (pe_lst pa_nil))
      (pss_cons (ps_for PassesOwn.never rfl (pi_range1 rfl mr (pa_cons (pe_call GM hr (by rfl) gM kM bM .nil pass0 (pa_cons (pv 0) (pa_cons (pv 1) (pa_cons pe_int pa_nil)))) pa_nil)) (pg_name (i := 3) scLe.nd rfl (.inl rfl))
        (pss_cons (ps_set (i := 4) scLe.nd rfl (.inl rfl) (pe_op op_add (pe_op op_add (pv 1) pe_int) (pe_op op_mul pe_int (pv 3))))
        (pss_cons (ps_set (i := 5) scLe.nd rfl (.inl rfl) (pe_ix ix_list (pe_lst (pa_cons pe_str (pa_cons pe_str (pa_cons pe_str (pa_cons pe_str pa_nil))))) (pe_call GM hr (by rfl) gM kM bM .nil pass0 (pa_cons (pv 0) (pa_cons (pv 4) (pa_cons pe_int pa_nil)))) (fun _ _ => rfl)))
        (pss_one (ps_if (pt_cmpR op_eq (pe_call GM hr (by rfl) gM kM bM .nil pass0 (pa_cons (pv 0) (pa_cons (pe_op op_add (pv 4) pe_int) (pa_cons pe_int pa_nil)))) pe_int (nomark _))
          (pss_one (ps_expr (pe_bm PySem.F.plainAttrs_list PySem.F.slot_list_append PySem.F.type_list_append mt_append (pv 2) (pa_cons (pe_tup (pa_cons (pv 5) (pa_cons pe_str (pa_cons (pe_ix ix_list (pe_lst (pa_cons pe_str (pa_cons pe_str (pa_cons pe_str (pa_cons pe_str (pa_cons pe_str (pa_cons pe_str pa_nil))))))) (pe_call GM hr (by rfl) gM kM bM .nil pass0 (pa_cons (pv 0) (pa_cons (pe_op op_add (pv 4) pe_int) (pa_cons pe_int pa_nil)))) (fun _ _ => rfl)) pa_nil)))) pa_nil))))
          (pss_one (ps_expr (pe_bm PySem.F.plainAttrs_list PySem.F.slot_list_append PySem.F.type_list_append mt_append (pv 2) (pa_cons (pe_tup (pa_cons (pv 5) (pa_cons pe_str (pa_cons (pe_ix ix_list (pe_lst (pa_cons pe_str (pa_cons pe_str (pa_cons pe_str (pa_cons pe_str pa_nil))))) (pe_call GM hr (by rfl) gM kM bM .nil pass0 (pa_cons (pv 0) (pa_cons (pe_op op_add (pv 4) pe_int) (pa_cons pe_int pa_nil)))) (fun _ _ => rfl)) pa_nil)))) pa_nil)))))))))
      (pss_one (ps_ret (pe_tup (pa_cons (pv 2) (pa_cons (pe_ix ix_list (pe_lst (pa_cons pe_str (pa_cons pe_str (pa_cons pe_str (pa_cons pe_str pa_nil))))) (pe_call GM hr (by rfl) gM kM bM .nil pass0 (pa_cons (pv 0) (pa_cons (pe_op op_add (pv 1) pe_int) (pa_cons pe_int pa_nil)))) (fun _ _ => rfl)) pa_nil)))))), ?_⟩
    have p7 : (0 : Int) < 7 := by decide
    have p4 : (0 : Int) < 4 := by decide
    have p2 : (0 : Int) < 2 := by decide
    have p6 : (0 : Int) < 6 := by decide
    refine ⟨Nat.zero_le _, fun l nl => ?_⟩
    have s0 : Same H (upd H l (.lst [])) := same_upd nl
    refine ⟨_, rfl, _, rfl, a, ds, _, _, rfl, SqL.of (s0 _ _ ha), p7, fun n n0 n1 => ?_⟩
    refine ⟨n, rfl, by omega, by omega, for_range (lo := 0) (n := n.toNat) (fun i σ H' => ∃ (v3 v4 v5 : Option V) (vs : List V) (ps : List Pt), σ = [some (.ref a), some (.int k), some (.ref l), v3, v4, v5] ∧ Same H H' ∧ H' l = some (.lst vs) ∧ Rel2 (PtA H') vs ps ∧ ps.length = i ∧ ∀ p ∈ ps, PtOk p)
      ⟨none, none, none, [], [], rfl, s0, upd_same, True.intro, rfl, fun _ m => nomatch m⟩ ?_ ?_⟩
    · rintro i σ H' hi ⟨v3, v4, v5, vs, ps, rfl, s', hl, rr, lp, ok⟩
      refine ⟨_, rfl, _, _, rfl, rfl, _, rfl, _, _, rfl, rfl, .inl ⟨by decide, by decide⟩, _, _, rfl, rfl, ?_⟩
      refine ⟨(by show 4 ≤ sizeLine; decide), fun p np => ?_⟩
      have s1 : Same H' (upd H' p (.lst (LK.map V.str))) := same_upd np
      have hp : upd H' p (.lst (LK.map V.str)) p = some (.lst (LK.map V.str)) := upd_same
      show _
      generalize hA : upd H' p (.lst (LK.map V.str)) = A1 at s1 hp
      have hA' : upd H' p (.lst [V.str "NUMBER", V.str "PLUS", V.str "IF", V.str "NAME"]) = A1 := hA
      simp only [hA']
      refine ⟨_, rfl, _, rfl, a, ds, _, _, rfl, SqL.of (s1 _ _ (s' _ _ ha)), p4, fun y y0 y1 => ?_⟩
      obtain ⟨kd, gk, mk⟩ := pick_at (L := LK) y0 (by show y < 4; exact y1)
      refine ⟨p, _, _, _, rfl, rfl, SqL.of hp, at_of (j := y.toNat) (by omega) gk, ?_⟩
      refine ⟨_, rfl, _, rfl, _, _, rfl, rfl, a, ds, _, _, rfl, SqL.of (s1 _ _ (s' _ _ ha)), p2, fun x x0 x1 => ⟨rfl, _, rfl, ite2 (fun _ => ?_) (fun _ => ?_)⟩⟩
      · refine ⟨_, rfl, .inl ⟨rfl, _, SqL.of (s1 _ _ hl)⟩, _, rfl, (by show 6 ≤ sizeLine; decide), fun q2 nq2 => ?_⟩
        have s2 : Same A1 (upd A1 q2 (.lst (WL.map V.str))) := same_upd nq2
        have hq2 : upd A1 q2 (.lst (WL.map V.str)) q2 = some (.lst (WL.map V.str)) := upd_same
        show _
        generalize hB : upd A1 q2 (.lst (WL.map V.str)) = A2 at s2 hq2
        have hB' : upd A1 q2 (.lst [V.str "+", V.str "if", V.str "i", V.str "<=", V.str "aaaaaaaaaaaa", V.str "1"]) = A2 := hB
        simp only [hB']
        have s02 := (s'.trans s1).trans s2
        refine ⟨_, rfl, _, rfl, _, _, rfl, rfl, a, ds, _, _, rfl, SqL.of (s02 _ _ ha), p6, fun z z0 z1 => ?_⟩
        obtain ⟨tx, gt, mt⟩ := pick_at (L := WL) z0 (by show z < 6; exact z1)
        refine ⟨q2, _, _, _, rfl, rfl, SqL.of hq2, at_of (j := z.toNat) (by omega) gt, ?_⟩
        refine ⟨(by show 3 ≤ sizeLine; decide), fun t nt => ?_⟩
        have s3 : Same A2 (upd A2 t (.tup [.str kd, .str "word", .str tx])) := same_upd nt
        have ht : upd A2 t (.tup [.str kd, .str "word", .str tx]) t = some (.tup [.str kd, .str "word", .str tx]) := upd_same
        generalize upd A2 t (.tup [.str kd, .str "word", .str tx]) = A3 at s3 ht
        have s13 := (s1.trans s2).trans s3
        have hl3 := s13 _ _ hl
        refine ⟨l, _, _, rfl, rfl, hl3, ?_, _, _, _, vs ++ [.ref t], ps ++ [⟨kd, "word", tx⟩], rfl, same_put (s'.trans s13) nl, upd_same, ?_, ?_, fun s hs => ?_⟩
        · rw [rr.len]
          exact million1 (by omega)
        · exact (rr.mono (PtA.tupS ((TupS.of_same s13).trans (.at_lst hl3)))).snoc ⟨t, rfl, (TupS.at_lst hl3) _ _ ht⟩
        · rw [List.length_append, List.length_singleton, lp]
        · rcases List.mem_append.mp hs with m | m
          · exact ok s m
          · rw [List.mem_singleton.mp m]
            exact ⟨mk, .inl ⟨rfl, mt⟩⟩
      · refine ⟨_, rfl, .inl ⟨rfl, _, SqL.of (s1 _ _ hl)⟩, _, rfl, (by show 4 ≤ sizeLine; decide), fun q2 nq2 => ?_⟩
        have s2 : Same A1 (upd A1 q2 (.lst (RL.map V.str))) := same_upd nq2
        have hq2 : upd A1 q2 (.lst (RL.map V.str)) q2 = some (.lst (RL.map V.str)) := upd_same
        show _
        generalize hB : upd A1 q2 (.lst (RL.map V.str)) = A2 at s2 hq2
        have hB' : upd A1 q2 (.lst [V.str "0123456789", V.str "abif", V.str "ia1", V.str "+"]) = A2 := hB
        simp only [hB']
        have s02 := (s'.trans s1).trans s2
        refine ⟨_, rfl, _, rfl, _, _, rfl, rfl, a, ds, _, _, rfl, SqL.of (s02 _ _ ha), p4, fun z z0 z1 => ?_⟩
        obtain ⟨tx, gt, mt⟩ := pick_at (L := RL) z0 (by show z < 4; exact z1)
        refine ⟨q2, _, _, _, rfl, rfl, SqL.of hq2, at_of (j := z.toNat) (by omega) gt, ?_⟩
        refine ⟨(by show 3 ≤ sizeLine; decide), fun t nt => ?_⟩
        have s3 : Same A2 (upd A2 t (.tup [.str kd, .str "run", .str tx])) := same_upd nt
        have ht : upd A2 t (.tup [.str kd, .str "run", .str tx]) t = some (.tup [.str kd, .str "run", .str tx]) := upd_same
        generalize upd A2 t (.tup [.str kd, .str "run", .str tx]) = A3 at s3 ht
        have s13 := (s1.trans s2).trans s3
        have hl3 := s13 _ _ hl
        refine ⟨l, _, _, rfl, rfl, hl3, ?_, _, _, _, vs ++ [.ref t], ps ++ [⟨kd, "run", tx⟩], rfl, same_put (s'.trans s13) nl, upd_same, ?_, ?_, fun s hs => ?_⟩
        · rw [rr.len]
          exact million1 (by omega)
        · exact (rr.mono (PtA.tupS ((TupS.of_same s13).trans (.at_lst hl3)))).snoc ⟨t, rfl, (TupS.at_lst hl3) _ _ ht⟩
        · rw [List.length_append, List.length_singleton, lp]
        · rcases List.mem_append.mp hs with m | m
          · exact ok s m
          · rw [List.mem_singleton.mp m]
            exact ⟨mk, .inr ⟨rfl, mt⟩⟩
    · rintro σ H' ⟨v3, v4, v5, vs, ps, rfl, s', hl, rr, lp, ok⟩
      refine ⟨_, rfl, (by show 4 ≤ sizeLine; decide), fun p np => ?_⟩
      have s1 : Same H' (upd H' p (.lst (PL.map V.str))) := same_upd np
      have hp : upd H' p (.lst (PL.map V.str)) p = some (.lst (PL.map V.str)) := upd_same
      show _
      generalize hA : upd H' p (.lst (PL.map V.str)) = A1 at s1 hp
      have hA' : upd H' p (.lst [V.str "", V.str " ", V.str " \n", V.str "a "]) = A1 := hA
      simp only [hA']
      refine ⟨_, rfl, _, rfl, _, _, rfl, rfl, a, ds, _, _, rfl, SqL.of (s1 _ _ (s' _ _ ha)), p4, fun y y0 y1 => ?_⟩
      obtain ⟨o, go, mo⟩ := pick_at (L := PL) y0 (by show y < 4; exact y1)
      refine ⟨p, _, _, _, rfl, rfl, SqL.of hp, at_of (j := y.toNat) (by omega) go, ?_⟩
      refine ⟨(by show 2 ≤ sizeLine; decide), fun t nt => ?_⟩
      have st : Same A1 (upd A1 t (.tup [.ref l, .str o])) := same_upd nt
      have s03 := (s'.trans s1).trans st
      exact q t _ ps o s03 ((s'.trans s1).free nt) ⟨l, vs, upd_same, st _ _ (s1 _ _ hl), rr.mono (PtA.same (s1.trans st))⟩ ⟨by omega, ok, mo⟩
end
end Ld

set_option Elab.async false
set_option linter.all false
set_option maxRecDepth 100000
set_option maxHeartbeats 4000000
namespace Ld
open PySem PySem.Spec PyProof.Rows L2 Lg Lr Le Lt
def ODD : List Pt := [⟨"Number", "word", "a"⟩, ⟨"OTHER", "word", "a"⟩, ⟨"", "word", "a"⟩, ⟨"A", "words", "a"⟩, ⟨"A", "word", ""⟩, ⟨"A", "run", ""⟩, ⟨"A", "run", "aba"⟩, ⟨"A", "word", "aaaaaaaaaaaaa"⟩, ⟨"ABCDEFGHIJKLM", "run", "a"⟩]
def KW : List Str := LK ++ (["Number", "OTHER", "", "A", "ABCDEFGHIJKLM"] : List Str)
def FW : List Str := ["word", "run", "words"]
def CW : List Str := WL ++ (RL ++ (["a", "", "aba", "aaaaaaaaaaaaa", "b"] : List Str))
def OW : List Str := PL ++ PL.map (fun o => o ++ ("xyx" : Str))
def PtW (p : Pt) : Prop := p.k ∈ KW ∧ p.f ∈ FW ∧ p.c ∈ CW
/-- lexicons of a few known texts -/
def LexW (ps : List Pt) (o : Str) : Prop := ps.length ≤ 40 ∧ (∀ p ∈ ps, PtW p) ∧ o ∈ OW
theorem odd_bad : ∀ p ∈ ODD, patB p = false := by decide +kernel
theorem odd_w : ∀ p ∈ ODD, p.k ∈ KW ∧ p.f ∈ FW ∧ p.c ∈ CW := by decide +kernel
theorem pl_good : ∀ o ∈ PL, diffB o = true := by decide +kernel
theorem pl_bad : ∀ o ∈ PL, diffB (o ++ ("xyx" : Str)) = false := by decide +kernel
theorem wl_good : ∀ k ∈ LK, ∀ c ∈ WL, patB ⟨k, "word", c⟩ = true := by decide +kernel
theorem rl_good : ∀ k ∈ LK, ∀ c ∈ RL, patB ⟨k, "run", c⟩ = true := by decide +kernel
theorem ptOk_good {p : Pt} (h : PtOk p) : patB p = true := by
  obtain ⟨k, f, c⟩ := p
  obtain ⟨h1, ⟨e, h2⟩ | ⟨e, h2⟩⟩ := h
  · have e : f = "word" := e
    subst e
    exact wl_good k h1 c h2
  · have e : f = "run" := e
    subst e
    exact rl_good k h1 c h2
theorem ptOk_w {p : Pt} (h : PtOk p) : PtW p := by
  obtain ⟨h1, ⟨e, h2⟩ | ⟨e, h2⟩⟩ := h
  · exact ⟨List.mem_append_left _ h1, by rw [e]; simp [FW], List.mem_append_left _ h2⟩
  · exact ⟨List.mem_append_left _ h1, by rw [e]; simp [FW], List.mem_append_right _ (List.mem_append_left _ h2)⟩
theorem lex_good {ps : List Pt} {o : Str} (h : LexOk ps o) : lexB ps o = true := by
  unfold lexB
  rw [decide_eq_true (by have := h.1; omega), pl_good o h.2.2, Bool.true_and, Bool.true_and, List.all_eq_true]
  exact fun p hp => ptOk_good (h.2.1 p hp)
theorem lex_w {ps : List Pt} {o : Str} (h : LexOk ps o) : LexW ps o := ⟨by have := h.1; omega, fun p hp => ptOk_w (h.2.1 p hp), List.mem_append_left _ h.2.2⟩
theorem w_fit : (∀ k ∈ KW, PyData.strOk k = true ∧ wt (.str k) ≤ 40 ∧ k.length ≤ 1000) ∧ (∀ k ∈ FW, PyData.strOk k = true ∧ wt (.str k) ≤ 40) ∧ (∀ k ∈ CW, PyData.strOk k = true ∧ wt (.str k) ≤ 40 ∧ k.length ≤ 1000) ∧ (∀ k ∈ OW, PyData.strOk k = true ∧ wt (.str k) ≤ 40 ∧ k.length ≤ 1000) := by decide +kernel
theorem lexW_fit {ps : List Pt} {o : Str} (h : LexW ps o) : Fit ps o := ⟨h.1, (w_fit.2.2.2 o h.2.2).2.2, fun p hp => ⟨(w_fit.1 _ (h.2.1 p hp).1).2.2, (w_fit.2.2.1 _ (h.2.1 p hp).2.2).2.2⟩⟩
theorem pts_lay : ∀ {ps : List Pt}, (∀ p ∈ ps, PtW p) → PyData.canLayAll0 (ps.map ptD) = true ∧ PyData.showableAll (ps.map ptD) = true
  | [], _ => ⟨rfl, rfl⟩
  | x :: xs, h => by
    obtain ⟨m1, m2, m3⟩ := h x List.mem_cons_self
    have h1 := (w_fit.1 _ m1).1
    have h2 := (w_fit.2.1 _ m2).1
    have h3 := (w_fit.2.2.1 _ m3).1
    obtain ⟨i1, i2⟩ := pts_lay fun s m => h s (List.mem_cons_of_mem _ m)
    refine ⟨?_, ?_⟩
    · rw [List.map_cons, PyData.canLayAll0, i1]
      simp [ptD, PyData.canLay0, PyData.canLayAll0, h1, h2, h3]
    · rw [List.map_cons, PyData.showableAll, i2, ptD, PyData.showable, PyData.showableAll, PyData.showableAll, PyData.showableAll, PyData.showableAll]
      rfl
theorem lex_show {ps : List Pt} {o : Str} (h : LexW ps o) : (lexD ps o).showable = true := by
  unfold lexD
  rw [PyData.showable, PyData.showableAll, PyData.showableAll, PyData.showableAll, PyData.showable, PyData.showable, (pts_lay h.2.1).2]
  rfl
theorem pt_wt {p : Pt} (h : PtW p) : wt (ptD p) ≤ 140 := by
  have h1 := (w_fit.1 _ h.1).2.1
  have h2 := (w_fit.2.1 _ h.2.1).2
  have h3 := (w_fit.2.2.1 _ h.2.2).2.1
  have e : wt (ptD p) = wt (.str p.k) + 2 + (wt (.str p.f) + 2 + (wt (.str p.c) + 2 + 0)) + 4 := by
    unfold ptD
    simp only [wt, wtAll]
  omega
theorem lex_wt {ps : List Pt} {o : Str} (h : LexW ps o) : wt (lexD ps o) ≤ 6000 := by
  have h1 := wtAll_up (B := 140) (ds := ps.map ptD) fun d m => by
    obtain ⟨s, hs, rfl⟩ := List.mem_map.mp m
    exact pt_wt (h.2.1 s hs)
  rw [List.length_map] at h1
  have h2 := (w_fit.2.2.2 _ h.2.2).2.1
  have h3 : (140 + 2) * ps.length ≤ (140 + 2) * 40 := Nat.mul_le_mul_left _ h.1
  have e : wt (lexD ps o) = wtAll (ps.map ptD) + 4 + 2 + (wt (.str o) + 2 + 0) + 4 := by
    unfold lexD
    simp only [wt, wtAll]
  omega
section
variable {P : Program} {w : World} {K : PySem.W.Frag} {mg : Str → Option Value} {base : Heap} {Ts : List Addr}
theorem scSp : FnScope ["draws", "lexicon", "patterns", "passed", "word", "cell", "odd", "place", "k"] ["draws", "lexicon"] (defScope s__law_spoilt) := ⟨rfl, rfl, rfl, by decide +kernel, rfl, by decide +kernel, by decide +kernel⟩
def spSp : Sp := fun vs H Q _ => ∃ (a t : Addr) (ds : List Int) (ps : List Pt) (o : Str), vs = [.ref a, .ref t] ∧ H a = some (.lst (ds.map V.int)) ∧ LexA H t ps o ∧ LexOk ps o ∧
  ∀ (t2 : Addr) (H2 : Hp) (ps2 : List Pt) (o2 : Str), Same H H2 → H t2 = none → LexA H2 t2 ps2 o2 → LexW ps2 o2 → lexB ps2 o2 = false → Q (.ref t2) H2
theorem ok_sp {f fA : Addr} {fd fdA : FuncData} (F : Fun K "_law_spoilt" "_law_spoilt" s__law_spoilt f fd)
    (GA : FnOk P w K mg base CX0 1 fA fdA ["draws", "k", "many"] (spAt K)) (kA : PySem.W.keepIn K (.ref fA) = true) (bA : Binds K fdA ["draws", "k", "many"] []) (gA : mg "_law_at" = some (.ref fA))
    (ml : mg "len" = none) (mr : mg "range" = none) : FnOk P w K mg base CX0 2 f fd ["draws", "lexicon"] spSp := by
  refine F.ok scSp (fun vs H Q E h => ?_) (fun cdv A outer s H vs Q E hr h => ?_)
  · obtain ⟨a, t, ds, ps, o, rfl, _⟩ := h
    rfl
  · obtain ⟨a, t, ds, ps, o, rfl, ha, lx, ok, q⟩ := h
    refine ⟨_, pss_cons (ps_asg (pv 1) (pg_tup rfl (pgs_cons (pg_name (i := 2) scSp.nd rfl (.inl rfl)) (pgs_cons (pg_name (i := 3) scSp.nd rfl (.inl rfl)) pgs_nil))))
      (pss_cons (ps_set (i := 4) scSp.nd rfl (.inl rfl) (pe_call GA hr (by rfl) gA kA bA .nil pass0 (pa_cons (pv 0) (pa_cons pe_int (pa_cons pe_int pa_nil)))))
      (pss_cons (ps_set (i := 5) scSp.nd rfl (.inl rfl) (pe_call GA hr (by rfl) gA kA bA .nil pass0 (pa_cons (pv 0) (pa_cons pe_int (pa_cons pe_int pa_nil)))))
      (pss_cons (ps_set (i := 6) scSp.nd rfl (.inl rfl) (pe_lst (pa_cons (pe_tup (pa_cons pe_str (pa_cons pe_str (pa_cons pe_str pa_nil)))) (pa_cons (pe_tup (pa_cons pe_str (pa_cons pe_str (pa_cons pe_str pa_nil)))) (pa_cons (pe_tup (pa_cons pe_str (pa_cons pe_str (pa_cons pe_str pa_nil)))) (pa_cons (pe_tup (pa_cons pe_str (pa_cons pe_str (pa_cons pe_str pa_nil)))) (pa_cons (pe_tup (pa_cons pe_str (pa_cons pe_str (pa_cons pe_str pa_nil)))) pa_nil)))))))
      (pss_cons (ps_set (i := 6) scSp.nd rfl (.inl rfl) (pe_op op_cat (pv 6) (pe_lst (pa_cons (pe_tup (pa_cons pe_str (pa_cons pe_str (pa_cons pe_str pa_nil)))) (pa_cons (pe_tup (pa_cons pe_str (pa_cons pe_str (pa_cons pe_str pa_nil)))) (pa_cons (pe_tup (pa_cons pe_str (pa_cons pe_str (pa_cons pe_str pa_nil)))) (pa_cons (pe_tup (pa_cons pe_str (pa_cons pe_str (pa_cons pe_str pa_nil)))) pa_nil)))))))
      (pss_cons (ps_if (pt_cmpR op_eq (pv 4) pe_int (nomark _)) (pss_one (ps_ret (pe_tup (pa_cons (pv 2) (pa_cons (pe_op op_add_str (pv 3) pe_str) pa_nil))))) pss_nil)
      (pss_cons (ps_if (pt_cmpR op_eq (pv 4) pe_int (nomark _)) (pss_one (ps_ret (pe_tup (pa_cons
          (pe_lc (own := [("k", 8)]) (g := gName 8) rfl scSp.nd (pi_range1 rfl mr (pa_cons (pe_op op_add pe_int (pv 5)) pa_nil)) (blkOk_by (N := ["draws", "lexicon", "patterns", "passed", "word", "cell", "odd", "place", "k"]) (sc := defScope s__law_spoilt) (by decide +kernel)) (fun _ _ _ _ _ => pg_name (i := 8) scSp.nd rfl (Or.inl rfl)) (fun _ _ _ _ _ => pts_nil)
            (fun _ _ _ _ _ => (pe_tup (pa_cons pe_str (pa_cons pe_str (pa_cons pe_str pa_nil)))))) (pa_cons (pv 3) pa_nil))))) pss_nil)
      (pss_cons (ps_set (i := 7) scSp.nd rfl (.inl rfl) (pe_call GA hr (by rfl) gA kA bA .nil pass0 (pa_cons (pv 0) (pa_cons pe_int (pa_cons (pe_op op_add (pe_callB call_len_seq (by rfl) ml PySem.boot_len (pa_cons (pv 2) pa_nil)) pe_int) pa_nil)))))
      (pss_one (ps_ret (pe_tup (pa_cons (pe_op op_cat (pe_op op_cat (pe_slice sl_list (pv 2) po_none (po_some (pv 7))) (pe_lst (pa_cons (pe_ix ix_list (pv 6) (pv 5) (fun _ _ => rfl)) pa_nil))) (pe_slice sl_list (pv 2) (po_some (pv 7)) po_none)) (pa_cons (pv 3) pa_nil)))))))))))), ?_⟩
    obtain ⟨l, vs, h1, h2, rel⟩ := lx
    have d8 : (0 : Int) < 8 := by decide
    have d9 : (0 : Int) < 9 := by decide
    refine ⟨_, rfl, t, _, rfl, SqT.of h1, rfl, _, _, rfl, _, _, rfl, rfl, ?_⟩
    refine ⟨_, rfl, a, ds, _, _, rfl, SqL.of ha, by decide, d8, ?_⟩
    refine ⟨_, rfl, a, ds, _, _, rfl, SqL.of ha, by decide, d9, ?_⟩
    refine ⟨(by show 3 ≤ sizeLine; decide), fun p0 n0 => ?_⟩
    have r0 : Same H (upd H p0 (.tup [.str "Number", .str "word", .str "a"])) := same_upd n0
    have e0 : (upd H p0 (.tup [.str "Number", .str "word", .str "a"])) p0 = some (.tup [.str "Number", .str "word", .str "a"]) := upd_same
    show _
    generalize hA0 : upd H p0 (.tup [.str "Number", .str "word", .str "a"]) = A0 at r0 e0
    simp only [hA0]
    refine ⟨(by show 3 ≤ sizeLine; decide), fun p1 n1 => ?_⟩
    have r1 : Same A0 (upd A0 p1 (.tup [.str "OTHER", .str "word", .str "a"])) := same_upd n1
    have e1 : (upd A0 p1 (.tup [.str "OTHER", .str "word", .str "a"])) p1 = some (.tup [.str "OTHER", .str "word", .str "a"]) := upd_same
    show _
    generalize hA1 : upd A0 p1 (.tup [.str "OTHER", .str "word", .str "a"]) = A1 at r1 e1
    simp only [hA1]
    refine ⟨(by show 3 ≤ sizeLine; decide), fun p2 n2 => ?_⟩
    have r2 : Same A1 (upd A1 p2 (.tup [.str "", .str "word", .str "a"])) := same_upd n2
    have e2 : (upd A1 p2 (.tup [.str "", .str "word", .str "a"])) p2 = some (.tup [.str "", .str "word", .str "a"]) := upd_same
    show _
    generalize hA2 : upd A1 p2 (.tup [.str "", .str "word", .str "a"]) = A2 at r2 e2
    simp only [hA2]
    refine ⟨(by show 3 ≤ sizeLine; decide), fun p3 n3 => ?_⟩
    have r3 : Same A2 (upd A2 p3 (.tup [.str "A", .str "words", .str "a"])) := same_upd n3
    have e3 : (upd A2 p3 (.tup [.str "A", .str "words", .str "a"])) p3 = some (.tup [.str "A", .str "words", .str "a"]) := upd_same
    show _
    generalize hA3 : upd A2 p3 (.tup [.str "A", .str "words", .str "a"]) = A3 at r3 e3
    simp only [hA3]
    refine ⟨(by show 3 ≤ sizeLine; decide), fun p4 n4 => ?_⟩
    have r4 : Same A3 (upd A3 p4 (.tup [.str "A", .str "word", .str ""])) := same_upd n4
    have e4 : (upd A3 p4 (.tup [.str "A", .str "word", .str ""])) p4 = some (.tup [.str "A", .str "word", .str ""]) := upd_same
    show _
    generalize hA4 : upd A3 p4 (.tup [.str "A", .str "word", .str ""]) = A4 at r4 e4
    simp only [hA4]
    refine ⟨(by show 5 ≤ sizeLine; decide), fun o1 no1 => ?_⟩
    have ro1 : Same A4 (upd A4 o1 (.lst [.ref p0, .ref p1, .ref p2, .ref p3, .ref p4])) := same_upd no1
    have eo1 : (upd A4 o1 (.lst [.ref p0, .ref p1, .ref p2, .ref p3, .ref p4])) o1 = some (.lst [.ref p0, .ref p1, .ref p2, .ref p3, .ref p4]) := upd_same
    show _
    generalize hAo1 : upd A4 o1 (.lst [.ref p0, .ref p1, .ref p2, .ref p3, .ref p4]) = B1 at ro1 eo1
    try simp only [hAo1]
    refine ⟨_, rfl, ?_⟩
    refine ⟨(by show 3 ≤ sizeLine; decide), fun p5 np5 => ?_⟩
    have r5 : Same B1 (upd B1 p5 (.tup [.str "A", .str "run", .str ""])) := same_upd np5
    have e5 : (upd B1 p5 (.tup [.str "A", .str "run", .str ""])) p5 = some (.tup [.str "A", .str "run", .str ""]) := upd_same
    show _
    generalize hA5 : upd B1 p5 (.tup [.str "A", .str "run", .str ""]) = A5 at r5 e5
    try simp only [hA5]
    refine ⟨(by show 3 ≤ sizeLine; decide), fun p6 np6 => ?_⟩
    have r6 : Same A5 (upd A5 p6 (.tup [.str "A", .str "run", .str "aba"])) := same_upd np6
    have e6 : (upd A5 p6 (.tup [.str "A", .str "run", .str "aba"])) p6 = some (.tup [.str "A", .str "run", .str "aba"]) := upd_same
    show _
    generalize hA6 : upd A5 p6 (.tup [.str "A", .str "run", .str "aba"]) = A6 at r6 e6
    try simp only [hA6]
    refine ⟨(by show 3 ≤ sizeLine; decide), fun p7 np7 => ?_⟩
    have r7 : Same A6 (upd A6 p7 (.tup [.str "A", .str "word", .str "aaaaaaaaaaaaa"])) := same_upd np7
    have e7 : (upd A6 p7 (.tup [.str "A", .str "word", .str "aaaaaaaaaaaaa"])) p7 = some (.tup [.str "A", .str "word", .str "aaaaaaaaaaaaa"]) := upd_same
    show _
    generalize hA7 : upd A6 p7 (.tup [.str "A", .str "word", .str "aaaaaaaaaaaaa"]) = A7 at r7 e7
    try simp only [hA7]
    refine ⟨(by show 3 ≤ sizeLine; decide), fun p8 np8 => ?_⟩
    have r8 : Same A7 (upd A7 p8 (.tup [.str "ABCDEFGHIJKLM", .str "run", .str "a"])) := same_upd np8
    have e8 : (upd A7 p8 (.tup [.str "ABCDEFGHIJKLM", .str "run", .str "a"])) p8 = some (.tup [.str "ABCDEFGHIJKLM", .str "run", .str "a"]) := upd_same
    show _
    generalize hA8 : upd A7 p8 (.tup [.str "ABCDEFGHIJKLM", .str "run", .str "a"]) = A8 at r8 e8
    try simp only [hA8]
    refine ⟨(by show 4 ≤ sizeLine; decide), fun o2 no2 => ?_⟩
    have ro2 : Same A8 (upd A8 o2 (.lst [.ref p5, .ref p6, .ref p7, .ref p8])) := same_upd no2
    have eo2 : (upd A8 o2 (.lst [.ref p5, .ref p6, .ref p7, .ref p8])) o2 = some (.lst [.ref p5, .ref p6, .ref p7, .ref p8]) := upd_same
    show _
    generalize hAo2 : upd A8 o2 (.lst [.ref p5, .ref p6, .ref p7, .ref p8]) = B2 at ro2 eo2
    try simp only [hAo2]
    have u12 : Same B1 B2 := r5.trans (r6.trans (r7.trans (r8.trans ro2)))
    refine ⟨o1, o2, _, _, rfl, rfl, u12 _ _ eo1, eo2, (by show 9 ≤ sizeLine; decide), ?_⟩
    refine fun o3 no3 => ?_
    have ro3 : Same B2 (upd B2 o3 (.lst ([.ref p0, .ref p1, .ref p2, .ref p3, .ref p4] ++ [.ref p5, .ref p6, .ref p7, .ref p8]))) := same_upd no3
    have eo3 : (upd B2 o3 (.lst ([.ref p0, .ref p1, .ref p2, .ref p3, .ref p4] ++ [.ref p5, .ref p6, .ref p7, .ref p8]))) o3 = some (.lst ([.ref p0, .ref p1, .ref p2, .ref p3, .ref p4] ++ [.ref p5, .ref p6, .ref p7, .ref p8])) := upd_same
    show _
    generalize hAo3 : upd B2 o3 (.lst ([.ref p0, .ref p1, .ref p2, .ref p3, .ref p4] ++ [.ref p5, .ref p6, .ref p7, .ref p8])) = B3 at ro3 eo3
    try simp only [hAo3]
    have v4 : Same A4 B3 := ro1.trans (u12.trans ro3)
    have v3 := r4.trans v4
    have v2 := r3.trans v3
    have v1 := r2.trans v2
    have v0 := r1.trans v1
    have vH := r0.trans v0
    have v8 : Same A8 B3 := ro2.trans ro3
    have v7 := r8.trans v8
    have v6 := r7.trans v7
    have v5 := r6.trans v6
    have odd : Rel2 (PtA B3) ([.ref p0, .ref p1, .ref p2, .ref p3, .ref p4] ++ [.ref p5, .ref p6, .ref p7, .ref p8]) ODD :=
      ⟨⟨p0, rfl, v0 _ _ e0⟩, ⟨p1, rfl, v1 _ _ e1⟩, ⟨p2, rfl, v2 _ _ e2⟩, ⟨p3, rfl, v3 _ _ e3⟩, ⟨p4, rfl, v4 _ _ e4⟩, ⟨p5, rfl, v5 _ _ e5⟩, ⟨p6, rfl, v6 _ _ e6⟩, ⟨p7, rfl, v7 _ _ e7⟩, ⟨p8, rfl, v8 _ _ e8⟩, True.intro⟩
    clear hA0 hA1 hA2 hA3 hA4 hA5 hA6 hA7 hA8 hAo1 hAo2 hAo3
    have ha3 := vH _ _ ha
    have h13 := vH _ _ h1
    have h23 := vH _ _ h2
    have rel3 : Rel2 (PtA B3) vs ps := rel.mono (PtA.same vH)
    have lenV := rel.len
    have c0 := atD_lo ds 1 d9
    have c9 := atD_hi ds 1 d9
    generalize hw0 : atD ds 0 8 = word
    generalize hc0 : atD ds 1 9 = cell at c0 c9
    refine ⟨_, rfl, rfl, _, rfl, ite2 (fun c1 => ?_) (fun c1 => ?_)⟩
    · refine ⟨_, rfl, _, rfl, o, ("xyx" : Str), rfl, rfl, ?_, (by show 2 ≤ sizeLine; decide), fun t2 nt2 => ?_⟩
      · have := (w_fit.2.2.2 o (lex_w ok).2.2).2.2
        have : o.length + 3 ≤ sizeLine := Nat.le_trans (show o.length + 3 ≤ 1003 by omega) (by decide)
        exact this
      · refine q t2 _ ps (o ++ ("xyx" : Str)) (vH.trans (same_upd nt2)) (vH.free nt2) ⟨l, vs, upd_same, same_upd nt2 _ _ h23, rel3.mono (PtA.same (same_upd nt2))⟩ ⟨(lex_w ok).1, (lex_w ok).2.1, List.mem_append_right _ (List.mem_map.mpr ⟨o, ok.2.2, rfl⟩)⟩ ?_
        unfold lexB
        rw [pl_bad o ok.2.2, Bool.false_and, Bool.and_false]
    refine ⟨_, rfl, rfl, _, rfl, ite2 (fun c2 => ?_) (fun c2 => ?_)⟩
    · refine ⟨_, rfl, _, _, rfl, rfl, 21 + cell, rfl, by omega, by omega, fun D hD => lc_range (lo := 0) (n := (21 + cell).toNat) (fun j H' => ∃ ws, Same B3 H' ∧ H' D = some (.lst ws) ∧ Rel2 (PtA H') ws (List.replicate j ⟨"A", "word", "a"⟩)) ⟨[], same_upd hD, upd_same, True.intro⟩ ?_ ?_⟩
      · rintro j H' hj ⟨ws, s', hd, rr⟩
        refine ⟨rfl, (by show 3 ≤ sizeLine; decide), fun t nt => ?_⟩
        have st : Same H' (upd H' t (.tup [.str "A", .str "word", .str "a"])) := same_upd nt
        refine ⟨_, st _ _ hd, ?_, ws ++ [.ref t], same_put (s'.trans st) hD, upd_same, ?_⟩
        · rw [rr.len, List.length_replicate]
          exact million1 (by omega)
        · rw [List.replicate_succ']
          exact (rr.mono (PtA.tupS ((TupS.of_same st).trans (.at_lst (st _ _ hd))))).snoc ⟨t, rfl, (TupS.at_lst (st _ _ hd)) _ _ upd_same⟩
      · rintro H2 ⟨ws, s2, hd, rr⟩
        refine ⟨_, rfl, (by show 2 ≤ sizeLine; decide), fun t2 nt2 => ?_⟩
        have sH := vH.trans s2
        refine q t2 _ (List.replicate (21 + cell).toNat ⟨"A", "word", "a"⟩) o (sH.trans (same_upd nt2)) (sH.free nt2) ⟨D, ws, upd_same, same_upd nt2 _ _ hd, rr.mono (PtA.same (same_upd nt2))⟩ ⟨?_, fun p hp => ?_, (lex_w ok).2.2⟩ ?_
        · rw [List.length_replicate]
          omega
        · rw [List.eq_of_mem_replicate hp]
          have : PtW (⟨"A", "word", "a"⟩ : Pt) := by
            have a : ("A" : Str) ∈ KW ∧ ("word" : Str) ∈ FW ∧ ("a" : Str) ∈ CW := by decide +kernel
            exact a
          exact this
        · unfold lexB
          rw [List.length_replicate, decide_eq_false (by omega), Bool.false_and]
    · refine ⟨_, rfl, _, rfl, l, _, rfl, .inl (SqL.of h23), _, _, rfl, rfl, a, ds, _, _, rfl, SqL.of ha3, by decide, by omega, ?_⟩
      have g0 := atD_lo ds 2 (many := (vs.length : Int) + 1) (by omega)
      have g9 := atD_hi ds 2 (many := (vs.length : Int) + 1) (by omega)
      generalize hp0 : atD ds 2 ((vs.length : Int) + 1) = place at g0 g9
      obtain ⟨n, rfl⟩ := Int.eq_ofNat_of_zero_le g0
      obtain ⟨k, rfl⟩ := Int.eq_ofNat_of_zero_le c0
      have kl : k < ODD.length := by show k < 9; omega
      obtain ⟨x, hx, px⟩ := odd.at (List.getElem?_eq_getElem kl)
      have vs6 : vs.length ≤ 6 := by rw [lenV]; exact ok.1
      refine ⟨_, rfl, _, rfl, _, rfl, l, vs, rfl, SqL.of h23, ?_⟩
      rw [cut_to]
      intro d1 m1
      have t1 : Same B3 (upd B3 d1 (.lst (vs.take n))) := same_upd m1
      have g1 : upd B3 d1 (.lst (vs.take n)) d1 = some (.lst (vs.take n)) := upd_same
      generalize upd B3 d1 (.lst (vs.take n)) = C1 at t1 g1
      refine ⟨_, rfl, _, rfl, o3, _, _, _, rfl, rfl, SqL.of (t1 _ _ eo3), at_of (j := k) rfl hx, (by show 1 ≤ sizeLine; decide), fun d2 m2 => ?_⟩
      have t2 : Same C1 (upd C1 d2 (.lst [x])) := same_upd m2
      have g2 : upd C1 d2 (.lst [x]) d2 = some (.lst [x]) := upd_same
      generalize upd C1 d2 (.lst [x]) = C2 at t2 g2
      refine ⟨d1, d2, _, _, rfl, rfl, t2 _ _ g1, g2, million0 (by rw [List.length_take]; show min n vs.length + 1 ≤ _; omega), fun d3 m3 => ?_⟩
      have t3 : Same C2 (upd C2 d3 (.lst (vs.take n ++ [x]))) := same_upd m3
      have g3 : upd C2 d3 (.lst (vs.take n ++ [x])) d3 = some (.lst (vs.take n ++ [x])) := upd_same
      generalize upd C2 d3 (.lst (vs.take n ++ [x])) = C3 at t3 g3
      have t03 := t1.trans (t2.trans t3)
      refine ⟨_, rfl, _, rfl, _, rfl, l, vs, rfl, SqL.of (t03 _ _ h23), ?_⟩
      rw [cut_from]
      intro d4 m4
      have t4 : Same C3 (upd C3 d4 (.lst (vs.drop n))) := same_upd m4
      have g4 : upd C3 d4 (.lst (vs.drop n)) d4 = some (.lst (vs.drop n)) := upd_same
      generalize upd C3 d4 (.lst (vs.drop n)) = C4 at t4 g4
      refine ⟨d3, d4, _, _, rfl, rfl, t4 _ _ g3, g4, million0 (by rw [List.length_append, List.length_take, List.length_drop]; show min n vs.length + 1 + (vs.length - n) ≤ _; omega), fun d5 m5 => ?_⟩
      have t5 : Same C4 (upd C4 d5 (.lst (vs.take n ++ [x] ++ vs.drop n))) := same_upd m5
      have g5 : upd C4 d5 (.lst (vs.take n ++ [x] ++ vs.drop n)) d5 = some (.lst (vs.take n ++ [x] ++ vs.drop n)) := upd_same
      generalize upd C4 d5 (.lst (vs.take n ++ [x] ++ vs.drop n)) = C5 at t5 g5
      refine ⟨_, rfl, (by show 2 ≤ sizeLine; decide), fun t2 nt2 => ?_⟩
      have tB := t03.trans (t4.trans t5)
      have tE := tB.trans (same_upd (o := .tup [.ref d5, .str o]) nt2)
      have podd := List.getElem_mem kl
      refine q t2 _ (ps.take n ++ [ODD[k]] ++ ps.drop n) o (vH.trans tE) (vH.free (tB.free nt2)) ⟨d5, _, upd_same, same_upd nt2 _ _ g5, (((rel3.mono (PtA.same tE)).take n).snoc (PtA.same tE _ _ px)).app ((rel3.mono (PtA.same tE)).drop n)⟩ ⟨?_, fun p hp => ?_, (lex_w ok).2.2⟩ ?_
      · rw [List.length_append, List.length_append, List.length_take, List.length_drop]
        show min n ps.length + 1 + (ps.length - n) ≤ 40
        have := ok.1
        omega
      · rcases List.mem_append.mp hp with z | z
        · rcases List.mem_append.mp z with z | z
          · exact (lex_w ok).2.1 p (List.mem_of_mem_take z)
          · rw [List.mem_singleton.mp z]
            exact odd_w _ podd
        · exact (lex_w ok).2.1 p (List.mem_of_mem_drop z)
      · unfold lexB
        have : (ps.take n ++ [ODD[k]] ++ ps.drop n).all patB = false := by
          rw [List.all_append, List.all_append, List.all_cons, odd_bad _ podd, Bool.false_and, Bool.and_false, Bool.false_and]
        rw [this, Bool.and_false, Bool.and_false]
end
end Ld

set_option Elab.async false
set_option linter.all false
set_option maxRecDepth 100000
set_option maxHeartbeats 4000000
namespace Ld
open PySem PySem.Spec PyProof.Rows L2 Lg Lr Le Lt
/-! ### the order of texts -/
def LeS (a b : Str) : Prop := ¬ b.cps.toList < a.cps.toList
theorem leS_trans {a b c : Str} (h : LeS a b) (k : LeS b c) : LeS a c := List.le_trans (l₁ := a.cps.toList) (l₂ := b.cps.toList) (l₃ := c.cps.toList) h k
theorem leS_anti {a b : Str} (h : LeS a b) (k : LeS b a) : a = b := by
  have e := List.le_antisymm (as := a.cps.toList) (bs := b.cps.toList) h k
  exact str_ext.mpr e
theorem risingS_pw : ∀ (p : Str) (l : List Str), risingS p l = true → (p :: l).Pairwise LeS
  | p, [], _ => List.pairwise_singleton _ _
  | p, x :: r, h => by
    have h : (!ltCps x.cps.toList p.cps.toList && risingS x r) = true := h
    obtain ⟨h1, h2⟩ := Bool.and_eq_true_iff.mp h
    have ih := risingS_pw x r h2
    have lt : LeS p x := fun z => by
      rw [ltCps_eq, decide_eq_true z] at h1
      cases h1
    refine List.pairwise_cons.mpr ⟨fun y hy => ?_, ih⟩
    rcases List.mem_cons.mp hy with e | m
    · rw [e]; exact lt
    · exact leS_trans lt (List.rel_of_pairwise_cons ih m)
theorem sortedS_pw : ∀ (l : List Str), sortedS l = true → l.Pairwise LeS
  | [], _ => List.Pairwise.nil
  | x :: r, h => risingS_pw x r h
theorem up_unique : ∀ {l m : List Str}, l.Pairwise LeS → m.Pairwise LeS → l.Nodup → m.Nodup → (∀ x, x ∈ l ↔ x ∈ m) → l = m
  | [], [], _, _, _, _, _ => rfl
  | [], y :: m, _, _, _, _, e => absurd ((e y).mpr List.mem_cons_self) (by simp)
  | x :: l, [], _, _, _, _, e => absurd ((e x).mp List.mem_cons_self) (by simp)
  | x :: l, y :: m, h, k, n, d, e => by
    have exy : x = y := by
      rcases List.mem_cons.mp ((e x).mp List.mem_cons_self) with z | z
      · exact z
      rcases List.mem_cons.mp ((e y).mpr List.mem_cons_self) with z2 | z2
      · exact z2.symm
      exact leS_anti (List.rel_of_pairwise_cons h z2) (List.rel_of_pairwise_cons k z)
    subst exy
    obtain ⟨n1, n2⟩ := List.nodup_cons.mp n
    obtain ⟨d1, d2⟩ := List.nodup_cons.mp d
    rw [up_unique (List.pairwise_cons.mp h).2 (List.pairwise_cons.mp k).2 n2 d2 fun z => ?_]
    constructor
    · intro hz
      rcases List.mem_cons.mp ((e z).mp (List.mem_cons_of_mem _ hz)) with q | q
      · rw [q] at hz; exact absurd hz n1
      · exact q
    · intro hz
      rcases List.mem_cons.mp ((e z).mpr (List.mem_cons_of_mem _ hz)) with q | q
      · rw [q] at hz; exact absurd hz d1
      · exact q
/-- the kinds seen so far, each once -/
def due1 (l : List Str) (x : Str) : List Str := if x ∈ l then l else l ++ [x]
theorem due_mem (L : List Str) : ∀ (l : List Str) x, x ∈ L.foldl due1 l ↔ x ∈ l ∨ x ∈ L := by
  induction L with
  | nil => simp
  | cons y L ih =>
    intro l x
    rw [List.foldl_cons, ih, List.mem_cons]
    unfold due1
    split
    · rename_i m
      constructor
      · rintro (h | h)
        · exact .inl h
        · exact .inr (.inr h)
      · rintro (h | h | h)
        · exact .inl h
        · exact .inl (h ▸ m)
        · exact .inr h
    · rw [List.mem_append, List.mem_singleton]
      constructor
      · rintro ((h | h) | h)
        · exact .inl h
        · exact .inr (.inl h)
        · exact .inr (.inr h)
      · rintro (h | h | h)
        · exact .inl (.inl h)
        · exact .inl (.inr h)
        · exact .inr h
theorem due_up (L : List Str) : ∀ (l : List Str), L.Pairwise LeS → l.Pairwise LeS → l.Nodup → (∀ x ∈ l, ∀ y ∈ L, LeS x y) → (L.foldl due1 l).Pairwise LeS ∧ (L.foldl due1 l).Nodup := by
  induction L with
  | nil => exact fun l _ h n _ => ⟨h, n⟩
  | cons y L ih =>
    intro l hL hl n bd
    obtain ⟨a1, a2⟩ := List.pairwise_cons.mp hL
    rw [List.foldl_cons]
    unfold due1
    split
    · exact ih l a2 hl n fun x hx z hz => bd x hx z (List.mem_cons_of_mem _ hz)
    · rename_i m
      refine ih _ a2 (List.pairwise_append.mpr ⟨hl, List.pairwise_singleton _ _, fun x hx z hz => ?_⟩) (List.nodup_append.mpr ⟨n, by simp, fun x hx z hz e => ?_⟩) fun x hx z hz => ?_
      · rw [List.mem_singleton.mp hz]; exact bd x hx y List.mem_cons_self
      · rw [List.mem_singleton.mp hz] at e; exact m (e ▸ hx)
      · rcases List.mem_append.mp hx with q | q
        · exact bd x q z (List.mem_cons_of_mem _ hz)
        · rw [List.mem_singleton.mp q]; exact a1 z hz
theorem due_kinds {ps : List Pt} {L ys : List Str} (perm : L.Perm (ps.map Pt.k)) (so : sortedS L = true) (k : Kinds ps ys) : L.foldl due1 [] = ys := by
  obtain ⟨h1, h2⟩ := due_up L [] (sortedS_pw L so) List.Pairwise.nil List.nodup_nil fun _ m => nomatch m
  refine up_unique h1 (sortedS_pw ys k.up) h2 k.once fun x => ?_
  rw [due_mem, k.mem x, perm.mem_iff, List.mem_map]
  constructor
  · rintro (h | h)
    · cases h
    · exact h
  · exact .inr
theorem kinds_unique {ps : List Pt} {ys zs : List Str} (a : Kinds ps ys) (b : Kinds ps zs) : ys = zs := up_unique (sortedS_pw ys a.up) (sortedS_pw zs b.up) a.once b.once fun x => (a.mem x).trans (b.mem x).symm
section
variable {P : Program} {w : World} {K : PySem.W.Frag} {mg : Str → Option Value} {base : Heap} {Ts : List Addr}
theorem scTd : FnScope ["lexicon", "e"] ["lexicon"] (defScope s__law_told) := ⟨rfl, rfl, rfl, by decide +kernel, rfl, by decide +kernel, by decide +kernel⟩
theorem xf_of {C fI : Addr} (T : ErrC K C fI) : XfC K C := ⟨T.exc.hg, T.exc.hk, T.exc.hs, T.exc.hd⟩
def spTd (Ts : List Addr) : Sp := fun vs H Q _ => ∃ (t : Addr) (ps : List Pt) (o : Str), vs = [.ref t] ∧ LexA H t ps o ∧ Fit ps o ∧ Tt Ts H ∧ lexB ps o = false ∧ ∀ H2, Up H H2 → Tt Ts H2 → Q (.int 0) H2
theorem ok_td {f fC fI cB : Addr} {fd fdC : FuncData} (F : Fun K "_law_told" "_law_told" s__law_told f fd)
    (GC : FnOk P w K mg base (L2.CX P w) 8 fC fdC ["lexicon"] (spKo Ts cB)) (kC : PySem.W.keepIn K (.ref fC) = true) (bC : Binds K fdC ["lexicon"] []) (gC : mg "kinds_of" = some (.ref fC))
    (EB : ErrC K cB fI) (gB : mg "BadKinds" = some (.ref cB)) (TK : PySem.W.exmOne K (.ref cB) (.ref cB) = some true) : FnOk P w K mg base CX0 9 f fd ["lexicon"] (spTd Ts) := by
  refine F.ok scTd (fun vs H Q E h => ?_) (fun cdv A outer s H vs Q E hr h => ?_)
  · obtain ⟨t, ps, o, rfl, _⟩ := h
    rfl
  · obtain ⟨t, ps, o, rfl, lx, fit, tb, bad, q⟩ := h
    refine ⟨_, pss_one (ps_try_cls rfl rfl scTd.nd takes0 (fun W pn xe tk _ => pss_one (ps_ret (pe_callS GC hr rfl gC kC bC (fun σ => passAt tk σ) (pa_cons (pv 0) pa_nil))))
      (.cons (nm := some "e") (o := some 1) ⟨rfl, by decide, .inl gB⟩ ⟨rfl, rfl⟩ (fun a oe cls d pn hz hf => pss_one (ps_ret (pe_xf (xf_of EB) EB.noAt hz hf (pv 1)))) .nil)), ?_⟩
    refine ⟨_, rfl, t, ps, o, rfl, lx, fit, tb, fun _ d H2 u2 t2 hd => ?_, fun e => by rw [bad] at e; cases e⟩
    refine ⟨true, TK, fun _ a na => ?_, fun q => nomatch q⟩
    exact ⟨_, rfl, rfl, rfl, d, _, .int 0, rfl, hd, rfl, q H2 u2 t2⟩
end
end Ld

set_option Elab.async false
set_option linter.all false
set_option maxRecDepth 100000
set_option maxHeartbeats 4000000
namespace Ld
open PySem PySem.Spec PyProof.Rows L2 Lg Lr Le Lt
/-! ### showing -/
theorem pts_depth : ∀ xs : List Pt, PyData.depthAll (xs.map ptD) ≤ 2
  | [] => by simp [PyData.depthAll]
  | x :: xs => by
    have := pts_depth xs
    simp only [List.map_cons, PyData.depthAll, ptD, PyData.depth]
    omega
def pairD (ps : List Pt) (o : Str) (ps2 : List Pt) (o2 : Str) : PyData := .tuple [lexD ps o, lexD ps2 o2]
theorem pair_show {ps ps2 : List Pt} {o o2 : Str} (h : LexW ps o) (k : LexW ps2 o2) : (pairD ps o ps2 o2).showable = true := by
  unfold pairD
  rw [PyData.showable, PyData.showableAll, PyData.showableAll, PyData.showableAll, lex_show h, lex_show k]
  rfl
theorem pair_shaped {ps ps2 : List Pt} {o o2 : Str} (h : LexW ps o) (k : LexW ps2 o2) : SeqAt.shaped (pairD ps o ps2 o2) = true := by
  have a := (w_fit.2.2.2 _ h.2.2).1
  have b := (w_fit.2.2.2 _ k.2.2).1
  refine shaped_mk ?_ ?_
  · simp [pairD, lexD, PyData.canLay0, PyData.canLayAll0, (pts_lay h.2.1).1, (pts_lay k.2.1).1, a, b]
  · have d1 := pts_depth ps
    have d2 := pts_depth ps2
    simp only [pairD, lexD, PyData.depth, PyData.depthAll]
    omega
theorem pair_shown {ps ps2 : List Pt} {o o2 : Str} (h : LexW ps o) (k : LexW ps2 o2) : (pairD ps o ps2 o2).shown.length ≤ sizeLine := by
  have a := lex_wt h
  have b := lex_wt k
  have e : wt (pairD ps o ps2 o2) = wt (lexD ps o) + 2 + (wt (lexD ps2 o2) + 2 + 0) + 4 := by
    unfold pairD
    simp only [wt, wtAll]
  have := shown_wt (pairD ps o ps2 o2)
  rw [sizeLine_eq]
  omega
def kdD (ks : List Str) : PyData := .list (ks.map PyData.str)
theorem kd_lay : ∀ {ks : List Str}, (∀ k ∈ ks, PyData.strOk k = true) → PyData.canLayAll0 (ks.map PyData.str) = true
  | [], _ => rfl
  | x :: xs, h => by
    rw [List.map_cons, PyData.canLayAll0, kd_lay fun k m => h k (List.mem_cons_of_mem _ m), PyData.canLay0, h x List.mem_cons_self]
    rfl
theorem kd_depth : ∀ ks : List Str, PyData.depthAll (ks.map PyData.str) ≤ 1
  | [] => by simp [PyData.depthAll]
  | x :: xs => by
    have := kd_depth xs
    simp only [List.map_cons, PyData.depthAll, PyData.depth]
    omega
theorem kd_shaped {ks : List Str} (h : ∀ k ∈ ks, PyData.strOk k = true) : SeqAt.shaped (kdD ks) = true := shaped_mk (by unfold kdD; rw [PyData.canLay0]; exact kd_lay h) (by
  have := kd_depth ks
  simp only [kdD, PyData.depth]
  omega)
theorem kinds_ok {ps : List Pt} {o : Str} {ys : List Str} (h : LexW ps o) (k : Kinds ps ys) : ∀ y ∈ ys, PyData.strOk y = true := fun y hy => by
  obtain ⟨p, hp, e⟩ := (k.mem y).mp hy
  rw [← e]
  exact (w_fit.1 _ (h.2.1 p hp).1).1
def PF : Pt := ⟨"A", "word", "b"⟩
theorem full_w : LexW (List.replicate 20 PF) "" := ⟨by decide, fun p hp => by
  rw [List.eq_of_mem_replicate hp]
  have a : ("A" : Str) ∈ KW ∧ ("word" : Str) ∈ FW ∧ ("b" : Str) ∈ CW := by decide +kernel
  exact a, by decide +kernel⟩
theorem full_good : lexB (List.replicate 20 PF) "" = true := by decide +kernel
theorem full_kinds : Kinds (List.replicate 20 PF) ["A"] := ⟨rfl, by decide +kernel, fun x => by
  rw [List.mem_singleton]
  constructor
  · intro e
    exact ⟨PF, List.mem_replicate.mpr ⟨by decide, rfl⟩, e.symm⟩
  · rintro ⟨p, hp, e⟩
    rw [List.eq_of_mem_replicate hp] at e
    exact e.symm⟩
theorem inV_strs (n : Str) (ns : List Str) : inV (V.str n) (ns.map V.str) = decide (n ∈ ns) := by
  unfold inV
  rw [Bool.eq_iff_iff, List.any_eq_true, decide_eq_true_eq]
  constructor
  · rintro ⟨y, hy, e⟩
    obtain ⟨m, hm, rfl⟩ := List.mem_map.mp hy
    have : m = n := by simpa [eqV] using e
    rw [← this]
    exact hm
  · intro h
    exact ⟨V.str n, List.mem_map.mpr ⟨n, h, rfl⟩, by simp [eqV]⟩
theorem due_next {L : List Str} {i : Nat} {y : Str} (h : L[i]? = some y) : (L.take (i + 1)).foldl due1 [] = due1 ((L.take i).foldl due1 []) y := by
  rw [List.take_add_one, h, List.foldl_append]
  rfl
theorem due_short (L : List Str) : ∀ l : List Str, (L.foldl due1 l).length ≤ l.length + L.length := by
  induction L with
  | nil => simp
  | cons y L ih =>
    intro l
    have := ih (due1 l y)
    have z : (due1 l y).length ≤ l.length + 1 := by
      unfold due1
      split
      · exact Nat.le_succ _
      · rw [List.length_append]; exact Nat.le_refl _
    rw [List.foldl_cons, List.length_cons]
    omega
theorem passE {P : Program} {w : World} {X : Cx} : Passes (L2.CX P w) X E0 := fun _ _ _ _ _ _ _ h => by
  obtain ⟨_, _, _, _, _, _, _, _, _, _, _, _, z⟩ := h
  exact z.elim
section
variable {P : Program} {w : World} {K : PySem.W.Frag} {mg : Str → Option Value} {base : Heap} {Ts : List Addr}
theorem scL : FnScope ["script", "draws", "lexicon", "spoilt", "kept", "full", "due", "kind", "told", "k", "pattern"] ["script"] (defScope sLaw) := ⟨rfl, rfl, rfl, by decide +kernel, rfl, by decide +kernel, by decide +kernel⟩
def spLaw (K : PySem.W.Frag) (T1 T2 T3 : Addr) : Sp := fun vs H Q _ => ∃ (a : Addr) (ns : List Int), vs = [.ref a] ∧ SqL K H a (ns.map V.int) ∧ ns.length ≤ 63 ∧ Tt [T1, T2, T3] H ∧ ∀ H', Q (.bl true) H'
theorem ok_law {f fD fE fS fX fO fT T1 T2 T3 cB : Addr} {fd fdD fdE fdS fdX fdO fdT : FuncData} (F : Fun K "law" "law" sLaw f fd)
    (GD : FnOk P w K mg base CX0 1 fD fdD ["script"] (spDraws K)) (kD : PySem.W.keepIn K (.ref fD) = true) (bD : Binds K fdD ["script"] []) (gD : mg "_law_draws" = some (.ref fD))
    (GE : FnOk P w K mg base CX0 2 fE fdE ["draws", "k"] (spLe K)) (kE : PySem.W.keepIn K (.ref fE) = true) (bE : Binds K fdE ["draws", "k"] []) (gE : mg "_law_lexicon" = some (.ref fE))
    (GS : FnOk P w K mg base CX0 2 fS fdS ["draws", "lexicon"] spSp) (kS : PySem.W.keepIn K (.ref fS) = true) (bS : Binds K fdS ["draws", "lexicon"] []) (gS : mg "_law_spoilt" = some (.ref fS))
    (GX : FnOk P w K mg base CX0 7 fX fdX ["lexicon"] (spLx [T1, T2, T3])) (kX : PySem.W.keepIn K (.ref fX) = true) (bX : Binds K fdX ["lexicon"] []) (gX : mg "is_lexicon" = some (.ref fX))
    (GO : FnOk P w K mg base (L2.CX P w) 8 fO fdO ["lexicon"] (spKo [T1, T2, T3] cB)) (kO : PySem.W.keepIn K (.ref fO) = true) (bO : Binds K fdO ["lexicon"] []) (gO : mg "kinds_of" = some (.ref fO))
    (GT : FnOk P w K mg base CX0 9 fT fdT ["lexicon"] (spTd [T1, T2, T3])) (kT : PySem.W.keepIn K (.ref fT) = true) (bT : Binds K fdT ["lexicon"] []) (gT : mg "_law_told" = some (.ref fT))
    (mre : mg "repr" = none) (mr : mg "range" = none) (mis : mg "isinstance" = none) (mli : mg "list" = none) (mso : mg "sorted" = none) : Top P w K mg base CX0 f fd ["script"] (spLaw K T1 T2 T3) := by
  refine top_ok F scL (k := 9) ⟨rfl, by decide, by decide⟩ (fun vs H Q E h => ?_) (fun cdv s H vs Q E hr h => ?_)
  · obtain ⟨a, ns, rfl, _⟩ := h
    rfl
  · obtain ⟨a, ns, rfl, hS, hlen, tb, q⟩ := h
    have hr1 : Room 1 (callerA.deeper (envOfC "law" (defScope sLaw) s.heap.objs.size f cdv)) := hr.mono (by decide)
    have hr2 : Room 2 (callerA.deeper (envOfC "law" (defScope sLaw) s.heap.objs.size f cdv)) := hr.mono (by decide)
    have hr7 : Room 7 (callerA.deeper (envOfC "law" (defScope sLaw) s.heap.objs.size f cdv)) := hr.mono (by decide)
    have hr8 : Room 8 (callerA.deeper (envOfC "law" (defScope sLaw) s.heap.objs.size f cdv)) := hr.mono (by decide)
    refine ⟨_, pss_cons (ps_set (i := 1) scL.nd rfl (.inl rfl) (pe_call GD hr1 (by rfl) gD kD bD .nil pass0 (pa_cons (pv 0) pa_nil)))
      (pss_cons (ps_set (i := 2) scL.nd rfl (.inl rfl) (pe_call GE hr2 (by rfl) gE kE bE .nil pass0 (pa_cons (pv 1) (pa_cons pe_int pa_nil))))
      (pss_cons (ps_set (i := 3) scL.nd rfl (.inl rfl) (pe_call GS hr2 (by rfl) gS kS bS .nil pass0 (pa_cons (pv 1) (pa_cons (pv 2) pa_nil))))
      (pss_cons (ps_set (i := 4) scL.nd rfl (.inl rfl) (pe_callB (call_repr rfl (units66 hr)) (by rfl) mre (by decide +kernel) (pa_cons (pe_tup (pa_cons (pv 2) (pa_cons (pv 3) pa_nil))) pa_nil)))
      (pss_cons (ps_if (PW.pt (pw_or (pt_cmpR op_isnot_bl (pe_call GX hr7 (by rfl) gX kX bX .nil pass0 (pa_cons (pv 2) pa_nil)) pe_bl (nomark _)) (pw_or (pt_cmpR op_isnot_bl (pe_call GX hr7 (by rfl) gX kX bX .nil pass0 (pa_cons (pv 3) pa_nil)) pe_bl (nomark _)) (pw_or1 (pt_cmpR op_ne (pe_call GT hr (by rfl) gT kT bT .nil pass0 (pa_cons (pv 3) pa_nil)) pe_int (nomark _)))))) (pss_one (ps_ret pe_bl)) pss_nil)
      (pss_cons (ps_set (i := 5) scL.nd rfl (.inl rfl) (pe_tup (pa_cons
          (pe_lc (own := [("k", 9)]) (g := gName 9) rfl scL.nd (pi_range1 rfl mr (pa_cons pe_int pa_nil)) (blkOk_by (N := ["script", "draws", "lexicon", "spoilt", "kept", "full", "due", "kind", "told", "k", "pattern"]) (sc := defScope sLaw) (by decide +kernel)) (fun _ _ _ _ _ => pg_name (i := 9) scL.nd rfl (Or.inl rfl)) (fun _ _ _ _ _ => pts_nil)
            (fun _ _ _ _ _ => (pe_tup (pa_cons pe_str (pa_cons pe_str (pa_cons pe_str pa_nil)))))) (pa_cons pe_str pa_nil))))
      (pss_cons (ps_if (PW.pt (pw_or (pt_cmpR op_isnot_bl (pe_call GX hr7 (by rfl) gX kX bX .nil pass0 (pa_cons (pv 5) pa_nil)) pe_bl (nomark _)) (pw_or1 (pt_cmpR (op_neD (units64 hr)) (pe_call GO hr8 (by rfl) gO kO bO .nil passE (pa_cons (pv 5) pa_nil)) (pe_lst (pa_cons pe_str pa_nil)) (nomark _))))) (pss_one (ps_ret pe_bl)) pss_nil)
      (pss_cons (ps_set (i := 6) scL.nd rfl (.inl rfl) (pe_lst pa_nil))
      (pss_cons (ps_for PassesOwn.never rfl (pi_list (pe_callB cr_sortedS (by rfl) mso (by decide +kernel) (pa_cons
          (pe_lc (own := [("pattern", 10)]) (g := gName 10) rfl scL.nd (pi_list (pe_ix ix_tup (pv 2) pe_int (fun _ _ => rfl))) (blkOk_by (N := ["script", "draws", "lexicon", "spoilt", "kept", "full", "due", "kind", "told", "k", "pattern"]) (sc := defScope sLaw) (by decide +kernel)) (fun _ _ _ _ _ => pg_name (i := 10) scL.nd rfl (Or.inl rfl)) (fun _ _ _ _ _ => pts_nil)
            (fun _ _ _ _ _ => pe_ix (r := rIxT K) ix_tup (pv 10) pe_int (fun _ _ => rfl))) pa_nil))) (pg_name (i := 7) scL.nd rfl (.inl rfl))
        (pss_one (ps_if (pt_cmpR op_notIn_seq (pv 7) (pv 6) rfl) (pss_one (ps_expr (pe_bm PySem.F.plainAttrs_list PySem.F.slot_list_append PySem.F.type_list_append mt_append (pv 6) (pa_cons (pv 7) pa_nil)))) pss_nil)))
      (pss_cons (ps_set (i := 8) scL.nd rfl (.inl rfl) (pe_call GO hr8 (by rfl) gO kO bO .nil passE (pa_cons (pv 2) pa_nil)))
      (pss_cons (ps_if (PW.pt (pw_or (pt_not (pt_val (pe_callB call_isi (by rfl) mis (by decide +kernel) (pa_cons (pv 8) (pa_cons (pe_bltn (v := .ty "list") (by rfl) mli (by decide +kernel) rfl) pa_nil)))))
          (pw_or1 (pt_cmpR (op_neD (units64 hr)) (pv 8) (pv 6) (nomark _))))) (pss_one (ps_ret pe_bl)) pss_nil)
      (pss_cons (ps_expr (pe_bm PySem.F.plainAttrs_list PySem.F.slot_list_append PySem.F.type_list_append mt_append (pv 8) (pa_cons pe_str pa_nil)))
      (pss_one (ps_ret (pe_and (pe_cmpR (op_eqD (units64 hr)) (pe_call GO hr8 (by rfl) gO kO bO .nil passE (pa_cons (pv 2) pa_nil)) (pv 6) (nomark _)) (pe_one (pe_cmpR op_eq (pe_callB (call_repr rfl (units66 hr)) (by rfl) mre (by decide +kernel) (pa_cons (pe_tup (pa_cons (pv 2) (pa_cons (pv 3) pa_nil))) pa_nil)) (pv 4) (nomark _))))))))))))))))), ?_⟩
    refine ⟨_, rfl, a, ns, rfl, hS, hlen, fun od no => ?_⟩
    have ho : upd H od (.lst ((drawsOf ns).map V.int)) od = some (.lst ((drawsOf ns).map V.int)) := upd_same
    have t1 := tb.new (o := .lst ((drawsOf ns).map V.int)) no
    generalize upd H od (.lst ((drawsOf ns).map V.int)) = H1 at ho t1
    generalize drawsOf ns = ds at ho
    refine ⟨_, rfl, od, ds, _, rfl, ho, fun t H2 ps o s2 nt lx lok => ?_⟩
    have t2 := t1.same s2
    refine ⟨_, rfl, _, rfl, od, t, ds, ps, o, rfl, s2 _ _ ho, lx, lok, fun u H3 ps2 o2 s3 nu lx2 w2 bad => ?_⟩
    have t3 := t2.same s3
    have w1 := lex_w lok
    have good := lex_good lok
    have lx3 := lx.same s3
    refine ⟨_, rfl, _, rfl, (by show 2 ≤ sizeLine; decide), fun tt ntt => ?_⟩
    have s4 : Same H3 (upd H3 tt (.tup [.ref t, .ref u])) := same_upd ntt
    refine ⟨tt, pairD ps o ps2 o2, rfl, .tup (SqT.of upd_same) (.cons (lx3.same s4).dp (.cons (lx2.same s4).dp .nil)), pair_show w1 w2, pair_shaped w1 w2, pair_shown w1 w2, ?_⟩
    have t4 := t3.same s4
    have lA := lx3.same s4
    have lB := lx2.same s4
    generalize upd H3 tt (.tup [.ref t, .ref u]) = H4 at t4 lA lB
    clear lx lx2 lx3 t3 t2 t1
    refine ⟨_, rfl, t, ps, o, rfl, lA, lexW_fit w1, t4, fun H5 u5 t5 => ?_⟩
    rw [good]
    refine ⟨_, _, rfl, rfl, _, rfl, iteF ?_⟩
    have lA5 := lA.up u5
    have lB5 := lB.up u5
    refine ⟨_, rfl, u, ps2, o2, rfl, lB5, lexW_fit w2, t5, fun H6 u6 t6 => ?_⟩
    rw [bad]
    refine ⟨_, _, rfl, rfl, _, rfl, iteF ?_⟩
    have lA6 := lA5.up u6
    have lB6 := lB5.up u6
    refine ⟨_, rfl, u, ps2, o2, rfl, lB6, lexW_fit w2, t6, bad, fun H7 u7 t7 => ?_⟩
    refine ⟨rfl, _, rfl, iteF ?_⟩
    have lA7 := lA6.up u7
    have lB7 := lB6.up u7
    refine ⟨20, rfl, by decide, by decide, fun D hD => lc_range (lo := 0) (n := (20 : Int).toNat) (fun j H' => ∃ ws, Same H7 H' ∧ H' D = some (.lst ws) ∧ Rel2 (PtA H') ws (List.replicate j PF)) ⟨[], same_upd hD, upd_same, True.intro⟩ ?_ ?_⟩
    · rintro j H' hj ⟨ws, s', hd, rr⟩
      refine ⟨rfl, (by show 3 ≤ sizeLine; decide), fun t nt => ?_⟩
      have st : Same H' (upd H' t (.tup [.str "A", .str "word", .str "b"])) := same_upd nt
      have hj : j < 20 := hj
      refine ⟨_, st _ _ hd, ?_, ws ++ [.ref t], same_put (s'.trans st) hD, upd_same, ?_⟩
      · rw [rr.len, List.length_replicate]
        exact million1 (by omega)
      · rw [List.replicate_succ']
        exact (rr.mono (PtA.tupS ((TupS.of_same st).trans (.at_lst (st _ _ hd))))).snoc ⟨t, rfl, (TupS.at_lst (st _ _ hd)) _ _ upd_same⟩
    rintro HA ⟨ws, sA, hd, rr⟩
    have rr : Rel2 (PtA HA) ws (List.replicate 20 PF) := rr
    have tA := t7.same sA
    refine ⟨(by show 2 ≤ sizeLine; decide), fun fu nfu => ?_⟩
    have sB : Same HA (upd HA fu (.tup [.ref D, .str ""])) := same_upd nfu
    have lF : LexA (upd HA fu (.tup [.ref D, .str ""])) fu (List.replicate 20 PF) "" := ⟨D, ws, upd_same, sB _ _ hd, rr.mono (PtA.same sB)⟩
    have tB := tA.same sB
    have lA8 := (lA7.same sA).same sB
    have lB8 := (lB7.same sA).same sB
    generalize upd HA fu (.tup [.ref D, .str ""]) = HB at lF tB lA8 lB8
    refine ⟨_, rfl, fu, _, _, rfl, lF, lexW_fit full_w, tB, fun HC uC tC => ?_⟩
    rw [full_good]
    refine ⟨_, _, rfl, rfl, _, rfl, iteF ?_⟩
    have lFC := lF.up uC
    have lA9 := lA8.up uC
    have lB9 := lB8.up uC
    refine ⟨_, rfl, fu, _, _, rfl, lFC, lexW_fit full_w, tC, (fun e => by rw [full_good] at e; cases e), fun _ a9 ys HD uD tD hy _ ky => ?_⟩
    have ey := kinds_unique ky full_kinds
    subst ey
    have lA10 := lA9.up uD
    have lB10 := lB9.up uD
    refine ⟨(by show 1 ≤ sizeLine; decide), fun b9 nb => ?_⟩
    have sE : Same HD (upd HD b9 (.lst [.str "A"])) := same_upd nb
    have shA : SeqAt.shaped (kdD ["A"]) = true := kd_shaped (by decide +kernel)
    refine ⟨kdD ["A"], kdD ["A"], .lst (SqL.of (sE _ _ hy)) (dp_strs ["A"]), .lst (SqL.of upd_same) (dp_strs ["A"]), shA, shA, _, rfl, ?_⟩
    rw [eqv_self shA]
    refine iteF ?_
    have tE := tD.same sE
    have lA11 := lA10.same sE
    have lB11 := lB10.same sE
    generalize upd HD b9 (.lst [.str "A"]) = HE at tE lA11 lB11
    clear lA lB lA5 lB5 lA6 lB6 lA7 lB7 lA8 lB8 lA9 lB9 lA10 lB10 lF lFC
    refine ⟨Nat.zero_le _, fun du ndu => ?_⟩
    have sF : Same HE (upd HE du (.lst [])) := same_upd ndu
    have hdu : upd HE du (.lst []) du = some (.lst []) := upd_same
    generalize upd HE du (.lst []) = HF at sF hdu
    obtain ⟨lp, vs, e1, e2, rel⟩ := id lA11
    have lenV := rel.len
    have few : ps.length ≤ 6 := lok.1
    refine ⟨_, rfl, t, _, _, _, rfl, rfl, SqT.of (sF _ _ e1), at_of (j := 0) rfl rfl, lp, rfl, ⟨_, SqL.of (sF _ _ e2)⟩, fun DL hDL => lc_list (a := lp) (xs := vs) (fun n H' => Same HF H' ∧ H' DL = some (.lst (((ps.take n).map Pt.k).map V.str))) ⟨same_upd hDL, upd_same⟩ (fun n H' _ ⟨s', _⟩ => SqL.of (s' _ _ (sF _ _ e2))) ?_ ?_⟩
    · rintro n x H' hx ⟨s', hd'⟩
      obtain ⟨p, hp, b, rfl, hb⟩ := rel.get hx
      have hn : n < ps.length := (List.getElem?_eq_some_iff.mp hp).1
      refine ⟨rfl, _, rfl, b, _, _, _, rfl, rfl, SqT.of (s' _ _ (sF _ _ hb)), at_of (j := 0) rfl rfl, _, hd', ?_, same_put s' hDL, ?_⟩
      · rw [List.length_map, List.length_map, List.length_take]
        exact million1 (by omega)
      · rw [upd_same, List.take_add_one, hp, List.map_append, List.map_append]
        rfl
    rintro HG ⟨sG, hDG⟩
    rw [lenV, List.take_length] at hDG
    refine ⟨DL, ps.map Pt.k, rfl, SqL.of hDG, by rw [List.length_map]; omega, fun L sl perm so nsl => ?_⟩
    have lenL : L.length ≤ 6 := by rw [perm.length_eq, List.length_map]; exact few
    have sH : Same HG (upd HG sl (.lst (L.map V.str))) := same_upd nsl
    have dz : du ≠ sl := ne_of_none (sG _ _ hdu) nsl
    refine ⟨sl, rfl, ⟨_, SqL.of upd_same⟩, for_list (a := sl) (xs := L.map V.str) (fun i σ H' => ∃ v7 : Option V, σ = [some (.ref a), some (.ref od), some (.ref t), some (.ref u), some (.str (pairD ps o ps2 o2).shown), some (.ref fu), some (.ref du), v7, none, none, none] ∧ Same HE H' ∧ H' du = some (.lst (((L.take i).foldl due1 []).map V.str)) ∧ H' sl = some (.lst (L.map V.str)))
      ⟨none, rfl, sF.trans (sG.trans sH), sH _ _ (sG _ _ hdu), upd_same⟩ (fun i σ H' _ ⟨_, _, _, _, h⟩ => SqL.of h) ?_ ?_⟩
    · rintro i x σ H' hx ⟨v7, rfl, s', hd', hz'⟩
      obtain ⟨y, hy, rfl⟩ := str_at hx
      have e := due_next hy
      have hl := due_short (L.take i) []
      have ht : (L.take i).length ≤ 6 := Nat.le_trans (List.length_take_le' _ _) lenL
      rw [e]
      generalize (L.take i).foldl due1 [] = W at hl hd'
      refine ⟨_, rfl, _, rfl, du, _, rfl, .inl (SqL.of hd'), rfl, flat_strs W, _, rfl, ?_⟩
      show (if (!inV (V.str y) (W.map V.str)) = true then _ else _)
      rw [inV_strs]
      unfold due1
      by_cases m : y ∈ W
      · rw [decide_eq_true m, if_pos m]
        exact iteF ⟨_, rfl, s', hd', hz'⟩
      · rw [decide_eq_false m, if_neg m]
        refine iteT ⟨_, rfl, .inl ⟨rfl, _, SqL.of hd'⟩, _, rfl, du, _, _, rfl, rfl, hd', ?_, _, rfl, same_put s' ndu, ?_, ?_⟩
        · rw [List.length_map]
          exact million1 (Nat.le_trans hl (by rw [List.length_nil]; omega))
        · rw [upd_same, List.map_append]
          rfl
        · rw [upd_ne (Ne.symm dz)]
          exact hz'
    rintro σ HI ⟨v7, rfl, sI, hdI, _⟩
    rw [List.length_map, List.take_length] at hdI
    have lAI := lA11.same sI
    have lBI := lB11.same sI
    have tI := tE.same sI
    refine ⟨_, rfl, t, ps, o, rfl, lAI, lexW_fit w1, tI, (fun e => by rw [good] at e; cases e), fun _ a8 ys HJ uJ tJ hy8 n8 ky => ?_⟩
    rw [due_kinds perm so ky] at hdI
    have hdJ := uJ.lst hdI
    have shY : SeqAt.shaped (kdD ys) = true := kd_shaped (kinds_ok w1 ky)
    refine ⟨_, rfl, _, _, _, _, _, rfl, .ty "list", .base (.lst hy8), kit_ty (r := true) (by decide +kernel), _, rfl, iteF ?_⟩
    refine ⟨_, rfl, _, rfl, kdD ys, kdD ys, .lst (SqL.of hy8) (dp_strs _), .lst (SqL.of hdJ) (dp_strs _), shY, shY, _, rfl, ?_⟩
    rw [eqv_self shY]
    have ysl : ys.length ≤ 6 := by
      have := due_short L []
      rw [due_kinds perm so ky, List.length_nil] at this
      omega
    refine iteF ⟨_, rfl, .inl ⟨rfl, _, SqL.of hy8⟩, a8, _, _, rfl, rfl, hy8, (by rw [List.length_map]; exact million1 (by omega)), ?_⟩
    have uK : Up HI (upd HJ a8 (.lst (ys.map V.str ++ [V.str "X"]))) := uJ.upd n8
    have tK : Tt [T1, T2, T3] (upd HJ a8 (.lst (ys.map V.str ++ [V.str "X"]))) := tJ.lst hy8
    have lAK := lAI.up uK
    refine ⟨_, rfl, t, ps, o, rfl, lAK, lexW_fit w1, tK, (fun e => by rw [good] at e; cases e), fun _ a9' zs HL uL tL hz9 n9 kz => ?_⟩
    have ez := kinds_unique kz ky
    subst ez
    have uIL := uK.trans uL
    refine ⟨_, rfl, kdD zs, kdD zs, .lst (SqL.of hz9) (dp_strs _), .lst (SqL.of (uIL.lst hdI)) (dp_strs _), shY, shY, ?_⟩
    rw [eqv_self shY]
    have lAL := lAI.up uIL
    have lBL := lBI.up uIL
    refine ⟨_, rfl, iteT ?_⟩
    refine ⟨_, rfl, _, rfl, (by show 2 ≤ sizeLine; decide), fun tt ntt => ?_⟩
    have sM : Same HL (upd HL tt (.tup [.ref t, .ref u])) := same_upd ntt
    refine ⟨tt, pairD ps o ps2 o2, rfl, .tup (SqT.of upd_same) (.cons (lAL.same sM).dp (.cons (lBL.same sM).dp .nil)), pair_show w1 w2, pair_shaped w1 w2, pair_shown w1 w2, ?_⟩
    refine ⟨_, rfl, rfl, ?_⟩
    rw [decide_eq_true (rfl : V.str (pairD ps o ps2 o2).shown = _)]
    exact q _
end
end Ld

namespace Ld
open PySem PySem.Spec PyProof.Rows L2
theorem tt3 {T1 T2 T3 : Addr} {H : Hp} (a : GxR.TabG H T1) (b : GxR.TabG H T2) (c : GxR.TabG H T3) : Tt [T1, T2, T3] H := fun T m => by
  rcases List.mem_cons.mp m with e | m
  · rw [e]; exact a
  rcases List.mem_cons.mp m with e | m
  · rw [e]; exact b
  · rw [List.mem_singleton.mp m]; exact c
end Ld

set_option Elab.async false
set_option linter.all false
set_option maxRecDepth 100000
set_option maxHeartbeats 4000000

namespace Ld
open PySem PySem.Spec PyProof.Rows L2 Lg Lr Le Lt
theorem tab_mk {K : PySem.W.Frag} {x : Str} {f c T : Addr} {oc ec : Value} {od dd : Option Addr} {fd : FuncData} {sl sl2 : Array (Option Value)} {vs : Array Value} (a : PySem.W.nsIn K mainGlobals x = some (some (.ref f))) (l : K.lookup f = some ⟨oc, od, .func fd, sl⟩) (hc : fd.code = .ref c)
    (lc : K.lookup c = some ⟨ec, dd, .fields vs, sl2⟩) (hv : vs[11]? = some (.ref T)) : PySem.W.tabIn K x = some (c, T) := by
  unfold PySem.W.tabIn
  rw [a]
  simp only
  rw [l]
  simp only
  rw [hc]
  simp only
  rw [lc]
  simp only
  rw [hv]
def clsOk (K : PySem.W.Frag) (C fI : Addr) (cs : List (Addr × Nat)) (bit : Nat → Bool) : Bool :=
  PySem.W.findIn K (.ref C) "__setattr__" == some (some (.builtin "object.__setattr__")) && (PySem.W.subIn K (.ref C) (.type "BaseException") == some true && (PySem.W.typeIn K (.ref C) == some (.type "type") && (PySem.W.keepIn K (.ref C) &&
  (PySem.W.findIn K (.ref C) "__getattribute__" == some (some (.builtin "BaseException.__getattribute__")) && (PySem.W.findIn K (.ref C) "__getattr__" == some none && (PySem.W.hasDictIn K C && (PySem.W.findIn K (.ref C) "__class__" == some (some (.builtin "object.__class__")) &&
  (PySem.W.specialIn K (.builtin "object.__class__") "__get__" == some (some (.builtin "getset_descriptor.__get__")) && (PySem.W.takesIn K (.builtin "object.__class__") == some true && (PySem.W.mroIn K C (.type "object") == some true && (PySem.W.findIn K (.ref C) "__init__" == some (some (.ref fI)) &&
  (PySem.W.typeIn K (.ref fI) == some (.type "function") && (PySem.W.findIn K (.ref C) "at" == some none && cs.all fun c => PySem.W.kitOne K (.ref C) (.ref c.1) == some (bit c.2))))))))))))))
theorem cls_err {K : PySem.W.Frag} {C fI : Addr} {cs : List (Addr × Nat)} {bit : Nat → Bool} {nm q : Str} {N : Addr} {bs bm : List Value} {sn : List Str} {sub : List Value} {ab : Bool} {col : Option Bool} {dd : Option Addr} {m0 m1 m2 m3 m5 : Option Value}
    (h : clsOk K C fI cs bit = true) (xL : K.lookup C = some (excClassObj nm q C N bs bm true sn sub ab col dd m0 m1 m2 m3 m5 "ValueError.__new__")) (hb : PySem.HandSPX.refsVE bm = true) :
    ErrC K C fI ∧ ∀ c ∈ cs, PySem.W.kitOne K (.ref C) (.ref c.1) = some (bit c.2) := by
  unfold clsOk at h
  simp only [Bool.and_eq_true, beq_iff_eq, List.all_eq_true] at h
  obtain ⟨h1, h2, h3, h4, h5, h6, h7, h8, h9, h10, h11, h12, h13, h14, h15⟩ := h
  exact ⟨⟨⟨⟨nm, q, N, bs, bm, sn, sub, ab, col, dd, m0, m1, m2, m3, m5, xL, hb⟩, h1, h2, h3, h4⟩, ⟨h5, h6, h2, h7, h8, h9, h10, h11⟩, h12, h13, h14⟩, h15⟩

theorem all_mk {l : PySem.W.OpenLaw} {w : World} {K : PySem.W.Frag} {h : Heap} {mg : Str → Option Value} {fa c1 T1 c2 T2 c3 T3 fI cM cB  fki fwo flx fpt fdf fcs fch fko fdr fat fmx fle fsp ftd flw : Addr} (X : K.In h) (G : h.Ns mainGlobals mg) (hfa : mg "law" = some (.ref fa))
    (htab0 : ∀ (c T : Addr), PySem.W.tabIn K "_is_word" = some (c, T) → PySem.W.CodeHd h c T ∧ h.get? T = some { cls := .none, data := .fields #[] })
    (htab1 : ∀ (c T : Addr), PySem.W.tabIn K "is_lexicon" = some (c, T) → PySem.W.CodeHd h c T ∧ h.get? T = some { cls := .none, data := .fields #[] })
    (htab2 : ∀ (c T : Addr), PySem.W.tabIn K "_are_characters" = some (c, T) → PySem.W.CodeHd h c T ∧ h.get? T = some { cls := .none, data := .fields #[] })
    {odki anki odwo anwo odlx anlx odpt anpt oddf andf odcs ancs odch anch odko anko oddr andr odat anat odmx anmx odle anle odsp ansp odtd antd odlw anlw odI anI : Option Addr}
    {slki slwo sllx slpt sldf slcs slch slko sldr slat slmx slle slsp sltd sllw slI : Array (Option Value)}
    {ocki kVki dcki pmki ctki cdki ocwo kVwo dcwo pmwo ctwo oclx kVlx dclx pmlx ctlx ocpt kVpt dcpt pmpt ctpt cdpt ocdf kVdf dcdf pmdf ctdf cddf occs kVcs dccs pmcs ctcs occh kVch dcch pmch ctch cdch ocko kVko dcko pmko ctko cdko ocdr kVdr dcdr pmdr ctdr cddr ocat kVat dcat pmat ctat cdat ocmx kVmx dcmx pmmx ctmx cdmx ocle kVle dcle pmle ctle cdle ocsp kVsp dcsp pmsp ctsp cdsp octd kVtd dctd pmtd cttd cdtd oclw kVlw dclw pmlw ctlw cdlw ocI kVI dcI pmI ctI cdI : Value}
    {nmB qB : Str} {NB : Addr} {bsB bmB : List Value} {snB : List Str} {subB : List Value} {abB : Bool} {colB : Option Bool} {ddB : Option Addr} {m0B m1B m2B m3B m5B : Option Value}
    (aki : PySem.W.nsIn K mainGlobals "is_kind" = some (some (.ref fki)))
    (lki : K.lookup fki = some ⟨ocki, odki, .func (PySem.W.fnOf "is_kind" "is_kind" (defArgs sKind) (defBody sKind) (defScope sKind) .none kVki dcki pmki anki cdki ctki), slki⟩)
    (cki : PySem.W.codeIn K cdki "is_kind" = true)
    (kki : PySem.W.keepIn K (.ref fki) = true)
    (awo : PySem.W.nsIn K mainGlobals "_is_word" = some (some (.ref fwo)))
    (lwo : K.lookup fwo = some ⟨ocwo, odwo, .func (PySem.W.fnOf "_is_word" "_is_word" (defArgs sWord) (defBody sWord) (defScope sWord) .none kVwo dcwo pmwo anwo (.ref c1) ctwo), slwo⟩)
    (cwo : PySem.W.codeIn K (.ref c1) "_is_word" = true)
    (kwo : PySem.W.keepIn K (.ref fwo) = true)
    {ecwo : Value} {dc_wo : Option Addr} {vcwo : Array Value} {scwo : Array (Option Value)}
    (lcwo : K.lookup c1 = some ⟨ecwo, dc_wo, .fields vcwo, scwo⟩)
    (hvwo : vcwo[11]? = some (.ref T1))
    (nTwo : K.lookup T1 = none)
    (alx : PySem.W.nsIn K mainGlobals "is_lexicon" = some (some (.ref flx)))
    (llx : K.lookup flx = some ⟨oclx, odlx, .func (PySem.W.fnOf "is_lexicon" "is_lexicon" (defArgs s_is_lexicon) (defBody s_is_lexicon) (defScope s_is_lexicon) .none kVlx dclx pmlx anlx (.ref c2) ctlx), sllx⟩)
    (clx : PySem.W.codeIn K (.ref c2) "is_lexicon" = true)
    (klx : PySem.W.keepIn K (.ref flx) = true)
    {eclx : Value} {dc_lx : Option Addr} {vclx : Array Value} {sclx : Array (Option Value)}
    (lclx : K.lookup c2 = some ⟨eclx, dc_lx, .fields vclx, sclx⟩)
    (hvlx : vclx[11]? = some (.ref T2))
    (nTlx : K.lookup T2 = none)
    (apt : PySem.W.nsIn K mainGlobals "_is_pattern" = some (some (.ref fpt)))
    (lpt : K.lookup fpt = some ⟨ocpt, odpt, .func (PySem.W.fnOf "_is_pattern" "_is_pattern" (defArgs s__is_pattern) (defBody s__is_pattern) (defScope s__is_pattern) .none kVpt dcpt pmpt anpt cdpt ctpt), slpt⟩)
    (cpt : PySem.W.codeIn K cdpt "_is_pattern" = true)
    (kpt : PySem.W.keepIn K (.ref fpt) = true)
    (adf : PySem.W.nsIn K mainGlobals "_are_different_characters" = some (some (.ref fdf)))
    (ldf : K.lookup fdf = some ⟨ocdf, oddf, .func (PySem.W.fnOf "_are_different_characters" "_are_different_characters" (defArgs s__are_different_characters) (defBody s__are_different_characters) (defScope s__are_different_characters) .none kVdf dcdf pmdf andf cddf ctdf), sldf⟩)
    (cdf : PySem.W.codeIn K cddf "_are_different_characters" = true)
    (kdf : PySem.W.keepIn K (.ref fdf) = true)
    (acs : PySem.W.nsIn K mainGlobals "_are_characters" = some (some (.ref fcs)))
    (lcs : K.lookup fcs = some ⟨occs, odcs, .func (PySem.W.fnOf "_are_characters" "_are_characters" (defArgs s__are_characters) (defBody s__are_characters) (defScope s__are_characters) .none kVcs dccs pmcs ancs (.ref c3) ctcs), slcs⟩)
    (ccs : PySem.W.codeIn K (.ref c3) "_are_characters" = true)
    (kcs : PySem.W.keepIn K (.ref fcs) = true)
    {eccs : Value} {dc_cs : Option Addr} {vccs : Array Value} {sccs : Array (Option Value)}
    (lccs : K.lookup c3 = some ⟨eccs, dc_cs, .fields vccs, sccs⟩)
    (hvcs : vccs[11]? = some (.ref T3))
    (nTcs : K.lookup T3 = none)
    (ach : PySem.W.nsIn K mainGlobals "_is_character" = some (some (.ref fch)))
    (lch : K.lookup fch = some ⟨occh, odch, .func (PySem.W.fnOf "_is_character" "_is_character" (defArgs s__is_character) (defBody s__is_character) (defScope s__is_character) .none kVch dcch pmch anch cdch ctch), slch⟩)
    (cch : PySem.W.codeIn K cdch "_is_character" = true)
    (kch : PySem.W.keepIn K (.ref fch) = true)
    (ako : PySem.W.nsIn K mainGlobals "kinds_of" = some (some (.ref fko)))
    (lko : K.lookup fko = some ⟨ocko, odko, .func (PySem.W.fnOf "kinds_of" "kinds_of" (defArgs s_kinds_of) (defBody s_kinds_of) (defScope s_kinds_of) .none kVko dcko pmko anko cdko ctko), slko⟩)
    (cko : PySem.W.codeIn K cdko "kinds_of" = true)
    (kko : PySem.W.keepIn K (.ref fko) = true)
    (adr : PySem.W.nsIn K mainGlobals "_law_draws" = some (some (.ref fdr)))
    (ldr : K.lookup fdr = some ⟨ocdr, oddr, .func (PySem.W.fnOf "_law_draws" "_law_draws" (defArgs sDraws) (defBody sDraws) (defScope sDraws) .none kVdr dcdr pmdr andr cddr ctdr), sldr⟩)
    (cdr : PySem.W.codeIn K cddr "_law_draws" = true)
    (kdr : PySem.W.keepIn K (.ref fdr) = true)
    (aat : PySem.W.nsIn K mainGlobals "_law_at" = some (some (.ref fat)))
    (lat : K.lookup fat = some ⟨ocat, odat, .func (PySem.W.fnOf "_law_at" "_law_at" (defArgs sAt) (defBody sAt) (defScope sAt) .none kVat dcat pmat anat cdat ctat), slat⟩)
    (cat : PySem.W.codeIn K cdat "_law_at" = true)
    (kat : PySem.W.keepIn K (.ref fat) = true)
    (amx : PySem.W.nsIn K mainGlobals "_law_mix" = some (some (.ref fmx)))
    (lmx : K.lookup fmx = some ⟨ocmx, odmx, .func (PySem.W.fnOf "_law_mix" "_law_mix" (defArgs sMix) (defBody sMix) (defScope sMix) .none kVmx dcmx pmmx anmx cdmx ctmx), slmx⟩)
    (cmx : PySem.W.codeIn K cdmx "_law_mix" = true)
    (kmx : PySem.W.keepIn K (.ref fmx) = true)
    (ale : PySem.W.nsIn K mainGlobals "_law_lexicon" = some (some (.ref fle)))
    (lle : K.lookup fle = some ⟨ocle, odle, .func (PySem.W.fnOf "_law_lexicon" "_law_lexicon" (defArgs s__law_lexicon) (defBody s__law_lexicon) (defScope s__law_lexicon) .none kVle dcle pmle anle cdle ctle), slle⟩)
    (cle : PySem.W.codeIn K cdle "_law_lexicon" = true)
    (kle : PySem.W.keepIn K (.ref fle) = true)
    (asp : PySem.W.nsIn K mainGlobals "_law_spoilt" = some (some (.ref fsp)))
    (lsp : K.lookup fsp = some ⟨ocsp, odsp, .func (PySem.W.fnOf "_law_spoilt" "_law_spoilt" (defArgs s__law_spoilt) (defBody s__law_spoilt) (defScope s__law_spoilt) .none kVsp dcsp pmsp ansp cdsp ctsp), slsp⟩)
    (csp : PySem.W.codeIn K cdsp "_law_spoilt" = true)
    (ksp : PySem.W.keepIn K (.ref fsp) = true)
    (atd : PySem.W.nsIn K mainGlobals "_law_told" = some (some (.ref ftd)))
    (ltd : K.lookup ftd = some ⟨octd, odtd, .func (PySem.W.fnOf "_law_told" "_law_told" (defArgs s__law_told) (defBody s__law_told) (defScope s__law_told) .none kVtd dctd pmtd antd cdtd cttd), sltd⟩)
    (ctd : PySem.W.codeIn K cdtd "_law_told" = true)
    (ktd : PySem.W.keepIn K (.ref ftd) = true)
    (alw : PySem.W.nsIn K mainGlobals "law" = some (some (.ref flw)))
    (llw : K.lookup flw = some ⟨oclw, odlw, .func (PySem.W.fnOf "law" "law" (defArgs sLaw) (defBody sLaw) (defScope sLaw) .none kVlw dclw pmlw anlw cdlw ctlw), sllw⟩)
    (clw : PySem.W.codeIn K cdlw "law" = true)
    (klw : PySem.W.keepIn K (.ref flw) = true)
    (aM : PySem.W.nsIn K mainGlobals "MendError" = some (some (.ref cM)))
    (gB : PySem.W.nsIn K mainGlobals "BadKinds" = some (some (.ref cB)))
    (xB : K.lookup cB = some (excClassObj nmB qB cB NB bsB bmB true snB subB abB colB ddB m0B m1B m2B m3B m5B "ValueError.__new__"))
    (bB : PySem.HandSPX.refsVE bmB = true)
    (i0 : PySem.W.findIn K (.ref cB) "__init__" = some (some (.ref fI)))
    (oB : clsOk K cB fI [] (fun _ => false) = true)
    (lI : K.lookup fI = some ⟨ocI, odI, .func (PySem.W.fnOf "__init__" "MendError.__init__" (defArgs sInit) (defBody sInit) (defScope sInit) .none kVI dcI pmI anI cdI ctI), slI⟩)
    (eI : PySem.W.codeIn K cdI "MendError.__init__" = true)
    (kI : PySem.W.keepIn K (.ref fI) = true)
    (xBB : PySem.W.exmOne K (.ref cB) (.ref cB) = some true)
    {tkv1 tkv2 tkv3 tkv4 tkv5 : Tok}
    (v1 : PySem.W.nsIn K mainGlobals "MOST_LETTERS" = some (some (.int 12 tkv1)))
    (v2 : PySem.W.nsIn K mainGlobals "MOST_PATTERNS" = some (some (.int 20 tkv2)))
    (v3 : PySem.W.nsIn K mainGlobals "LONGEST_WORD" = some (some (.int 12 tkv3)))
    (v4 : PySem.W.nsIn K mainGlobals "LONGEST_RUN" = some (some (.int 95 tkv4)))
    (v5 : PySem.W.nsIn K mainGlobals "PERCENT" = some (some (.int 37 tkv5)))
    (z_len : PySem.W.nsIn K mainGlobals "len" = some none)
    (z_all : PySem.W.nsIn K mainGlobals "all" = some none)
    (z_set : PySem.W.nsIn K mainGlobals "set" = some none)
    (z_ord : PySem.W.nsIn K mainGlobals "ord" = some none)
    (z_sorted : PySem.W.nsIn K mainGlobals "sorted" = some none)
    (z_range : PySem.W.nsIn K mainGlobals "range" = some none)
    (z_min : PySem.W.nsIn K mainGlobals "min" = some none)
    (z_abs : PySem.W.nsIn K mainGlobals "abs" = some none)
    (z_int : PySem.W.nsIn K mainGlobals "int" = some none)
    (z_isinstance : PySem.W.nsIn K mainGlobals "isinstance" = some none)
    (z_list : PySem.W.nsIn K mainGlobals "list" = some none)
    (z_repr : PySem.W.nsIn K mainGlobals "repr" = some none)
    : LawTop l w K 63 "script" mg fa h := by
  obtain ⟨hC0, hT0⟩ := htab0 c1 T1 (tab_mk awo lwo rfl lcwo hvwo)
  obtain ⟨hC1, hT1⟩ := htab1 c2 T2 (tab_mk alx llx rfl lclx hvlx)
  obtain ⟨hC2, hT2⟩ := htab2 c3 T3 (tab_mk acs lcs rfl lccs hvcs)
  have e := hfa.symm.trans (PySem.W.mg_of X G alw)
  cases e
  have m := fun {x : Str} (z : PySem.W.nsIn K mainGlobals x = some none) => PySem.W.mg_none_of X G z
  have Fki := fun_mk (st := sKind) lki cki kki
  have Fwo := fun_mk (st := sWord) lwo cwo kwo
  have Flx := fun_mk (st := s_is_lexicon) llx clx klx
  have Fpt := fun_mk (st := s__is_pattern) lpt cpt kpt
  have Fdf := fun_mk (st := s__are_different_characters) ldf cdf kdf
  have Fcs := fun_mk (st := s__are_characters) lcs ccs kcs
  have Fch := fun_mk (st := s__is_character) lch cch kch
  have Fko := fun_mk (st := s_kinds_of) lko cko kko
  have Fdr := fun_mk (st := sDraws) ldr cdr kdr
  have Fat := fun_mk (st := sAt) lat cat kat
  have Fmx := fun_mk (st := sMix) lmx cmx kmx
  have Fle := fun_mk (st := s__law_lexicon) lle cle kle
  have Fsp := fun_mk (st := s__law_spoilt) lsp csp ksp
  have Ftd := fun_mk (st := s__law_told) ltd ctd ktd
  have Flw := fun_mk (st := sLaw) llw clw klw
  have FI := fun_mk (st := sInit) lI eI kI
  have bki := Fki.binds (ps := ["text"]) fun _ _ _ _ _ _ us hl => match us, hl with | [_], _ => rfl
  have bwo := Fwo.binds (ps := ["text", "first", "last"]) fun _ _ _ _ _ _ us hl => match us, hl with | [_, _, _], _ => rfl
  have blx := Flx.binds (ps := ["lexicon"]) fun _ _ _ _ _ _ us hl => match us, hl with | [_], _ => rfl
  have bpt := Fpt.binds (ps := ["kind", "form", "text"]) fun _ _ _ _ _ _ us hl => match us, hl with | [_, _, _], _ => rfl
  have bdf := Fdf.binds (ps := ["text"]) fun _ _ _ _ _ _ us hl => match us, hl with | [_], _ => rfl
  have bcs := Fcs.binds (ps := ["text"]) fun _ _ _ _ _ _ us hl => match us, hl with | [_], _ => rfl
  have bch := Fch.binds (ps := ["character"]) fun _ _ _ _ _ _ us hl => match us, hl with | [_], _ => rfl
  have bko := Fko.binds (ps := ["lexicon"]) fun _ _ _ _ _ _ us hl => match us, hl with | [_], _ => rfl
  have bdr := Fdr.binds (ps := ["script"]) fun _ _ _ _ _ _ us hl => match us, hl with | [_], _ => rfl
  have bat := Fat.binds (ps := ["draws", "k", "many"]) fun _ _ _ _ _ _ us hl => match us, hl with | [_, _, _], _ => rfl
  have bmx := Fmx.binds (ps := ["draws", "k", "many"]) fun _ _ _ _ _ _ us hl => match us, hl with | [_, _, _], _ => rfl
  have ble := Fle.binds (ps := ["draws", "k"]) fun _ _ _ _ _ _ us hl => match us, hl with | [_, _], _ => rfl
  have bsp := Fsp.binds (ps := ["draws", "lexicon"]) fun _ _ _ _ _ _ us hl => match us, hl with | [_, _], _ => rfl
  have btd := Ftd.binds (ps := ["lexicon"]) fun _ _ _ _ _ _ us hl => match us, hl with | [_], _ => rfl
  have blw := Flw.binds (ps := ["script"]) fun _ _ _ _ _ _ us hl => match us, hl with | [_], _ => rfl
  have bI := FI.binds (ps := ["self", "at"]) fun _ _ _ _ _ _ us hl => match us, hl with | [_, _], _ => rfl
  obtain ⟨EB, _⟩ := cls_err oB xB bB
  refine ⟨PySem.W.fnOf "law" "law" (defArgs sLaw) (defBody sLaw) (defScope sLaw) .none kVlw dclw pmlw anlw cdlw ctlw, [(c1, T1), (c2, T2), (c3, T3)], spLaw K T1 T2 T3, fun p hp => ?_, fun s v => .of_eq rfl, fun H a ns hl hH hS => ⟨a, ns, rfl, hS, hl, tt3 ⟨#[], hH (c1, T1) (by simp), True.intro⟩ ⟨#[], hH (c2, T2) (by simp), True.intro⟩ ⟨#[], hH (c3, T3) (by simp), True.intro⟩, fun _ => rfl⟩, fun base hK hN hTB => ?_⟩
  · rcases List.mem_cons.mp hp with rfl | hp
    · exact ⟨hC0, hT0, nTwo⟩
    rcases List.mem_cons.mp hp with rfl | hp
    · exact ⟨hC1, hT1, nTlx⟩
    obtain rfl := List.mem_singleton.mp hp
    exact ⟨hC2, hT2, nTcs⟩
  · have g := fun {x : Str} {v : Value} (z : PySem.W.nsIn K mainGlobals x = some (some v)) => PySem.W.mg_of X G z
    have tb0 := hTB (c1, T1) (by simp)
    have TB0 : GxR.TabB base mg c1 T1 := ⟨tb0.code, tb0.bm, tb0.gP⟩
    have tb1 := hTB (c2, T2) (by simp)
    have TB1 : GxR.TabB base mg c2 T2 := ⟨tb1.code, tb1.bm, tb1.gP⟩
    have tb2 := hTB (c3, T3) (by simp)
    have TB2 : GxR.TabB base mg c3 T3 := ⟨tb2.code, tb2.bm, tb2.gP⟩
    have GI : FnOk l.prog w K mg base CX0 1 fI _ ["self", "at"] (spInit K) := ok_init (k := 0) FI
    have Gwo : FnOk l.prog w K mg base CX0 1 fwo _ ["text", "first", "last"] (spWord T1) := ok_word (k := 0) Fwo rfl TB0 (m z_len) (m z_all) (g v1)
    have Gki : FnOk l.prog w K mg base CX0 2 fki _ ["text"] (spOne T1 kindB) := ok_kind (k := 0) Fki Fwo Gwo bwo (g awo)
    have Gch : FnOk l.prog w K mg base CX0 1 fch _ ["character"] spCh := ok_ch Fch (m z_ord) (g v5)
    have Gcs := ok_cs (Ts := [T1, T2, T3]) Fcs rfl TB2 (by simp) Gch kch bch (g ach) (m z_all)
    have Gdf := ok_df Fdf Gcs kcs bcs (g acs) (m z_len) (m z_set)
    have Gpt := ok_pt (T1 := T1) Fpt (by simp) Gki kki bki (g aki) Gcs kcs bcs (g acs) Gdf kdf bdf (g adf) (m z_len) (g v3) (g v4)
    have Glx := ok_lx Flx rfl TB1 (by simp) Gpt kpt bpt (g apt) Gdf kdf bdf (g adf) (m z_len) (m z_all) (g v2)
    have Gko := ok_ko Fko Glx klx blx (g alx) GI bI EB (g gB) (m z_sorted)
    have Gat : FnOk l.prog w K mg base CX0 1 fat _ ["draws", "k", "many"] (spAt K) := ok_at (k := 0) Fat (m z_len) (m z_int)
    have Gmx : FnOk l.prog w K mg base CX0 1 fmx _ ["draws", "k", "many"] (spMix K) := ok_mix Fmx (m z_len) (m z_int)
    have Gle := ok_le Fle Gmx kmx bmx (g amx) (m z_range)
    have Gsp := ok_sp Fsp Gat kat bat (g aat) (m z_len) (m z_range)
    have Gtd := ok_td Ftd Gko kko bko (g ako) EB (g gB) xBB
    exact ok_law Flw (ok_draws (k := 0) Fdr (m z_range) (m z_min) (m z_len) (m z_abs) (m z_int)) kdr bdr (g adr) Gle kle ble (g ale) Gsp ksp bsp (g asp) Glx klx blx (g alx) Gko kko bko (g ako) Gtd ktd btd (g atd) (m z_repr) (m z_range) (m z_isinstance) (m z_list) (m z_sorted)
end Ld

open PySem PySem.W PyProof.Rows
set_option maxRecDepth 100000 in
set_option maxHeartbeats 0 in
theorem PySem.Challenge.cw_leastmend_k03_lexicons_holds : PySem.Challenge.rw_leastmend_k03_lexicons.Holds := by
  w_on; o_law; k_head; (case hw => w_witness2)
  k_fill
  refine Lg.walk_top (l := PySem.Challenge.rw_leastmend_k03_lexicons) (n := 63) (x := "script") rfl (by decide) rfl (fun w h Y => PySem.W.kIn_of Y) ?F
  case F =>
    intro w mg fa h Y KX G hmg htab
    refine' Ld.all_mk KX G hmg (fun c T => htab "_is_word" _ c T (by rfl)) (fun c T => htab "is_lexicon" _ c T (by rfl)) (fun c T => htab "_are_characters" _ c T (by rfl)) ?aki ?lki ?cki ?kki ?awo ?lwo ?cwo ?kwo ?lcwo ?hvwo ?nTwo ?alx ?llx ?clx ?klx ?lclx ?hvlx ?nTlx ?apt ?lpt ?cpt ?kpt ?adf ?ldf ?cdf ?kdf ?acs ?lcs ?ccs ?kcs ?lccs ?hvcs ?nTcs ?ach ?lch ?cch ?kch ?ako ?lko ?cko ?kko ?adr ?ldr ?cdr ?kdr ?aat ?lat ?cat ?kat ?amx ?lmx ?cmx ?kmx ?ale ?lle ?cle ?kle ?asp ?lsp ?csp ?ksp ?atd ?ltd ?ctd ?ktd ?alw ?llw ?clw ?klw ?aM ?gB ?xB ?bB ?i0 ?oB ?lI ?eI ?kI ?xBB ?v1 ?v2 ?v3 ?v4 ?v5 ?z_len ?z_all ?z_set ?z_ord ?z_sorted ?z_range ?z_min ?z_abs ?z_int ?z_isinstance ?z_list ?z_repr
    (case aki => k_is)
    (case lki => k_is)
    (case cki => k_is)
    (case kki => k_is)
    (case awo => k_is)
    (case lwo => k_is)
    (case cwo => k_is)
    (case kwo => k_is)
    (case lcwo => k_is)
    (case hvwo => rfl)
    (case nTwo => first | kernel_rfl | rfl)
    (case alx => k_is)
    (case llx => k_is)
    (case clx => k_is)
    (case klx => k_is)
    (case lclx => k_is)
    (case hvlx => rfl)
    (case nTlx => first | kernel_rfl | rfl)
    (case apt => k_is)
    (case lpt => k_is)
    (case cpt => k_is)
    (case kpt => k_is)
    (case adf => k_is)
    (case ldf => k_is)
    (case cdf => k_is)
    (case kdf => k_is)
    (case acs => k_is)
    (case lcs => k_is)
    (case ccs => k_is)
    (case kcs => k_is)
    (case lccs => k_is)
    (case hvcs => rfl)
    (case nTcs => first | kernel_rfl | rfl)
    (case ach => k_is)
    (case lch => k_is)
    (case cch => k_is)
    (case kch => k_is)
    (case ako => k_is)
    (case lko => k_is)
    (case cko => k_is)
    (case kko => k_is)
    (case adr => k_is)
    (case ldr => k_is)
    (case cdr => k_is)
    (case kdr => k_is)
    (case aat => k_is)
    (case lat => k_is)
    (case cat => k_is)
    (case kat => k_is)
    (case amx => k_is)
    (case lmx => k_is)
    (case cmx => k_is)
    (case kmx => k_is)
    (case ale => k_is)
    (case lle => k_is)
    (case cle => k_is)
    (case kle => k_is)
    (case asp => k_is)
    (case lsp => k_is)
    (case csp => k_is)
    (case ksp => k_is)
    (case atd => k_is)
    (case ltd => k_is)
    (case ctd => k_is)
    (case ktd => k_is)
    (case alw => k_is)
    (case llw => k_is)
    (case clw => k_is)
    (case klw => k_is)
    (case aM => k_is)
    (case gB => k_is)
    (case xB => k_is)
    (case bB => decide +kernel)
    (case i0 => k_is)
    (case oB => kernel_rfl)
    (case lI => k_is)
    (case eI => k_is)
    (case kI => k_is)
    (case xBB => first | k_is | kernel_rfl)
    (case v1 => k_is)
    (case v2 => k_is)
    (case v3 => k_is)
    (case v4 => k_is)
    (case v5 => k_is)
    (case z_len => k_is)
    (case z_all => k_is)
    (case z_set => k_is)
    (case z_ord => k_is)
    (case z_sorted => k_is)
    (case z_range => k_is)
    (case z_min => k_is)
    (case z_abs => k_is)
    (case z_int => k_is)
    (case z_isinstance => k_is)
    (case z_list => k_is)
    (case z_repr => k_is)
