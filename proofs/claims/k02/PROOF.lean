import PyProof.Rows.All
import Wide.All
import OpenK.AllK
import Wide.FinOn
import HandS.ForMost
import HandS.Zip
import HandS.AnyAll
import HandS.Lambda
import KE.GoesEnum
import HandS.EndTab
import HandS.ForExc
import PyProof.ReprLen
import PyProof.ReprRoads
import HandS.ExcIs
import HandS.IsInst
import HandS.Walk
import HandS.TupMul
import HandS.EndOwn
import KE.KNestM
import HandS.Codes
import PySem.Challenge.RW_checkrows_k02_rows_added_and_multiplied
set_option Elab.async false
set_option linter.all false
set_option maxRecDepth 100000
set_option maxHeartbeats 4000000
/-! tuple(f(a, b) for a, b in zip(s, t)), s and t tuples of ints -/
namespace Ck
open PySem PySem.Spec PyProof.Rows L2

structure GenS2 (env : Env) (scope : Scope) (xa xb : Str) : Prop where
  kind : scope.kind = .function
  co : scope.isCoroutine = false
  cell : ∀ y ∈ scope.names, y.2 ≠ .cell
  dot : scope.names.lookup (".0" : Str) = some NameKind.local
  la : scope.names.lookup xa = some .local
  lb : scope.names.lookup xb = some .local
  ne : xa ≠ xb
  free : ∀ y ∈ scope.names, y.2 = .free → ∃ c, env.cells.lookup y.1 = some c

def Elt2 (prog : Program) (w : World) (scope : Scope) (xa xb : Str) (elt : Expr) (f : Int → Int → Int) : Prop :=
  ∀ (cenv : Env) (A' : Around) (E' : Value → Shared → Prop) (a b : Int) (t u : Tok) (s₂ : Shared) (m₂ : Str → Option Value),
    cenv.scope = scope → s₂.heap.Ns cenv.locals m₂ → m₂ xa = some (.int a t) → m₂ xb = some (.int b u) →
    wpAny (model prog w) A' (eval elt cenv) (fun y s₃ => (∃ t', y = .int (f a b) t') ∧ Keeps s₂ s₃) E' s₂

theorem elt_xor {prog : Program} {w : World} {scope : Scope} {xa xb : Str} {p1 p2 p3 : Pos} (hk : scope.kind = .function)
    (ha : scope.names.lookup xa = some .local) (hb : scope.names.lookup xb = some .local)
    (hda : (xa == ("__debug__" : Str)) = false := by decide) (hdb : (xb == ("__debug__" : Str)) = false := by decide) :
    Elt2 prog w scope xa xb (.BinOp (.Name xa p1) .BitXor (.Name xb p2) p3) (fun a b => Builtin.bitXor a b) := by
  intro cenv A' E' a b t u s₂ m₂ hs hn hma hmb
  have hk' : cenv.scope.kind = .function := by rw [hs]; exact hk
  refine wpAny_BinOp ?_
  refine wpAny_Name (wpAny_loadName_local hk' (show cenv.scope.names.lookup xa = _ by rw [hs]; exact ha) hn hma ?_) hda
  refine wpAny_Name (wpAny_loadName_local hk' (show cenv.scope.names.lookup xb = _ by rw [hs]; exact hb) hn hmb ?_) hdb
  exact xor_int ⟨⟨_, rfl⟩, GxR.keeps_tok _ _⟩

/-- what the reading asks: T the tables of code objects -/
def tTupZip (K : PySem.W.Frag) (T : List (Addr × Str)) (f : Int → Int → Int) (ta : TA) : TE := fun σ H Q => ta σ H fun vs H1 =>
  ∃ (a b : Addr) (xs ys : List Int), vs = [.ref a, .ref b] ∧ SqT K H1 a (xs.map V.int) ∧ SqT K H1 b (ys.map V.int) ∧ LamX.Tabs T H1 ∧
    ∀ H2 p, LamX.ExtN H1 H2 → LamX.Tabs T H2 → H2 p = none → Q (.ref p) (upd H2 p (.tup ((List.zipWith f xs ys).map V.int)))
/-- a code object more in the table at P -/
theorem tabs_grow {T : List (Addr × Str)} {H : Hp} {P c' : Addr} {qn : Str} {ps : Array Value} {pos : Pos} (hT : LamX.Tabs T H) (hu : ∀ p ∈ T, p.1 = P → p.2 = qn) (hP : H P = some (.tbl ps)) (ht : TriplesOk ps.toList)
    (ha : ∀ (pos : Pos) (cv : Value), codeAmong pos ps.toList = some cv → ∃ c, cv = .ref c ∧ H c = some (LamX.CodeO c qn)) (nC : H c' = none) :
    LamX.ExtN H (upd (upd H P (.tbl (ps ++ #[rawInt pos.line, rawInt pos.col, .ref c']))) c' (LamX.CodeO c' qn)) ∧
    LamX.Tabs T (upd (upd H P (.tbl (ps ++ #[rawInt pos.line, rawInt pos.col, .ref c']))) c' (LamX.CodeO c' qn)) := by
  have hE : LamX.ExtN H (upd (upd H P (.tbl (ps ++ #[rawInt pos.line, rawInt pos.col, .ref c']))) c' (LamX.CodeO c' qn)) := fun b o e n => by
    have nb : b ≠ P := fun z => by
      rw [z, hP] at e
      exact n ps (Option.some.inj e).symm
    rw [upd_ne (ne_of_none e nC), upd_ne nb]
    exact e
  refine ⟨hE, fun p hp => ?_⟩
  have eL : (ps ++ #[rawInt pos.line, rawInt pos.col, Value.ref c']).toList = ps.toList ++ [rawInt pos.line, rawInt pos.col, .ref c'] := by simp
  by_cases hb : p.1 = P
  · rw [hu p hp hb, hb]
    refine ⟨_, (upd_ne (ne_of_none hP nC)).trans upd_same, by rw [eL]; exact PySem.TriplesOk_snoc _ _ _ _ ht, fun p' cv hcv => ?_⟩
    rw [eL] at hcv
    rcases LamX.among_app _ ht hcv with z | z
    · obtain ⟨c0, e1, e2⟩ := ha p' cv z
      exact ⟨c0, e1, hE _ _ e2 LamX.codeO_ne⟩
    · exact ⟨c', z, upd_same⟩
  · obtain ⟨ps', a1, a2, a3⟩ := hT p hp
    refine ⟨ps', ?_, a2, fun p' cv hcv => ?_⟩
    · rw [upd_ne (ne_of_none a1 nC), upd_ne hb]
      exact a1
    · obtain ⟨c0, e1, e2⟩ := a3 p' cv hcv
      exact ⟨c0, e1, hE _ _ e2 LamX.codeO_ne⟩
theorem Inv.gens {X : Cx} {pins : List (Addr × Obj)} {σ : L2.St} {H : Hp} {s s' : Shared} (I : L2.Inv X pins σ H s) (hh : s'.heap = s.heap) (ho : s'.os = s.os) (hg : AllBare s'.gens) : L2.Inv X pins σ H s' := by
  obtain ⟨a1, a2, a3, a4, a5, a6, a7, a8, a9, a10, a11⟩ := I
  refine ⟨a1, ho.trans a2, hg, ?_, ?_, ?_, a7, a8, ?_, ?_, a11⟩ <;> rw [hh] <;> assumption
theorem ints_at {xs : List Int} {its : List Value} (r : Vals (xs.map V.int) its) {i : Nat} {v : Value} (h : its.toArray[i]? = some v) :
    ∃ (n : Int) (t : Tok), xs[i]? = some n ∧ v = .int n t := by
  have h1 : its[i]? = some v := by simpa using h
  have hi : i < its.length := (List.getElem?_eq_some_iff.mp h1).1
  have hl := r.length
  rw [List.length_map] at hl
  have hx : xs[i]? = some (xs[i]'(by omega)) := List.getElem?_eq_getElem _
  have hb : (xs.map V.int)[i]? = some (V.int (xs[i]'(by omega))) := by rw [List.getElem?_map, hx]; rfl
  obtain ⟨u, hu, ru⟩ := r.get hb
  rw [h1] at hu
  cases hu
  obtain ⟨t, e⟩ := (show ∃ t, v = Value.int _ t from ru)
  exact ⟨_, t, hx, e⟩

theorem vals_by : ∀ {vs : List V} {us : List Value}, vs.length = us.length → (∀ (j : Nat) v u, vs[j]? = some v → us[j]? = some u → RelV v u) → Vals vs us
  | [], [], _, _ => .nil
  | [], _ :: _, h, _ => by simp at h
  | _ :: _, [], h, _ => by simp at h
  | v :: vs, u :: us, h, k => .cons (k 0 v u rfl rfl) (vals_by (by simpa using h) fun j v' u' e1 e2 => k (j + 1) v' u' e1 e2)
theorem vals_zip {xs ys : List Int} {f : Int → Int → Int} {acc : Array Value} {n n' : Nat} (hn : n = min xs.length ys.length)
    (h : ItemsOf (fun j y => ∃ i, (List.range n')[j]? = some i ∧ ∃ (m n : Int) (t : Tok), xs[i]? = some m ∧ ys[i]? = some n ∧ y = Value.int (f m n) t) acc n) :
    Vals ((List.zipWith f xs ys).map V.int) acc.toList := by
  refine vals_by (by rw [List.length_map, List.length_zipWith, ← hn, ← h.1]; simp) fun j v u e1 e2 => ?_
  obtain ⟨i, hi, m, n2, t, hm, hn2, e⟩ := h.2 j u (by simpa using e2)
  obtain ⟨hj, ej⟩ := List.getElem?_eq_some_iff.mp hi
  rw [List.getElem_range] at ej
  subst ej
  rw [List.getElem?_map, List.getElem?_zipWith, hm, hn2] at e1
  cases e1
  exact ⟨t, e⟩

theorem fp_lt {b N a c M : Nat} (ha : a < N) (hc : c < N) (hM : N + 5 ≤ M)
    (h : b = N + 4 ∨ b = N + 2 ∨ b = N + 3 ∨ b = N ∨ b = a ∨ b = N + 1 ∨ b = c) : b < M := by omega
theorem wr_old {b N M : Nat} (hb : b < N) (hM : N + 5 ≤ M) (h : b = M ∨ b = N + 4 ∨ b = N + 3 ∨ b = N ∨ b = N + 1) : False := by omega
theorem cw_out {N M c : Nat} (h1 : N + 5 ≤ c) (h2 : c < M) (h : c = M ∨ c = N + 4 ∨ c = N + 3 ∨ c = N ∨ c = N + 1) : False := by omega
theorem fp_ne {b N a c P : Nat} (hP : P < N) (ha : a ≠ P) (hc : c ≠ P) 
    (h : b = N + 4 ∨ b = N + 2 ∨ b = N + 3 ∨ b = N ∨ b = a ∨ b = N + 1 ∨ b = c) : b ≠ P := by omega

/-- the code object of a generator expression: found in the table, or new -/
def CodeCase (h h3 : Heap) (P : Addr) (ps : Array Value) (pos : Pos) (qn : Str) : Prop :=
  h3.get? P = some { cls := .none, data := .fields ps } ∨ ∃ c' : Addr, h3.get? P = some { cls := .none, data := .fields (ps ++ #[rawInt pos.line, rawInt pos.col, .ref c']) } ∧ h.objs.size ≤ c' ∧ c' < h3.objs.size ∧
    ∃ (oc : Obj) (vs : Array Value) (t : Tok), h3.get? c' = some oc ∧ oc.data = .fields vs ∧ vs[1]? = some (.str qn t)
theorem code_step {M : Model} {A : Around} {E : Value → Shared → Prop} {s : Shared} {h : Heap} {env : Env} {c P : Addr} {ps : Array Value} {pos : Pos} {qn : Str} {scope : Scope} {Q : Value → Shared → Prop}
    (hcode : env.code = .ref c) (cd : PySem.W.CodeHd h c P) (hP : h.get? P = some { cls := .none, data := .fields ps }) (ht : TriplesOk ps.toList)
    (hQ : ∀ (code : Value) (h3 : Heap) (tk : Nat), Heap.ExtBut P h h3 → h.objs.size ≤ h3.objs.size → CodeCase h h3 P ps pos qn → Q code { s with heap := h3, toks := tk }) :
    wpAny M A (genexprCode env pos qn scope) Q E { s with heap := h } := by
  cases hf : codeAmong pos ps.toList with
  | none =>
    refine wpAny_genexprCodeX (s := { s with heap := h }) hcode (cd.code hP ht) (cd.tab hP) hf fun c' h' tk hx3 hge hlt _ hrec htab' _ => ?_
    obtain ⟨c2, oc, vs, t, e2, hoc, hd, hv⟩ := hrec
    cases e2
    exact hQ _ h' tk hx3 (Nat.le_trans hge (Nat.le_of_lt hlt)) (.inr ⟨c', htab'.2, hge, hlt, oc, vs, t, hoc, hd, hv⟩)
  | some cv =>
    refine wpAny_genexprCode_hit (s := { s with heap := h }) hcode (cd.code hP ht) hf ?_
    exact hQ cv h s.toks (Heap.ExtBut.refl _ _) (Nat.le_refl _) (.inl hP)
section
variable {X : Cx}
theorem pe_tupZip {c P : Addr} {elt e1 e2 : Expr} {xa xb : Str} {pa pb pt zp zpos p pos gpos : Pos} {kt : Nat} {scope : Scope} {f : Int → Int → Int} {ta : TA} {k : Nat} {T : List (Addr × Str)} {qn : Str}
    (hr : Room k X.A) (hgt : Gl X "tuple") (hmt : X.mg "tuple" = none) (hgz : Gl X "zip") (hmz : X.mg "zip" = none)
    (TB : LamX.TabB X.base X.mg c P) (hcode : X.env.code = .ref c) (hq : X.env.qual ++ "<genexpr>" = qn) (hmT : (P, qn) ∈ T) (hu : ∀ p ∈ T, p.1 = P → p.2 = qn) (S : GenS2 X.env scope xa xb) (ha : PA X [e1, e2] ta)
    (hel : Elt2 X.prog X.w scope xa xb elt f) (hs : ∀ v, genFold (.Call (.Name "zip" zp) [e1, e2] [] zpos) X.env v = pure v)
    (he : starEach [.GeneratorExp elt [⟨.Tuple [.Name xa pa, .Name xb pb] kt pt, .Call (.Name "zip" zp) [e1, e2] [] zpos, [], 0⟩] scope gpos] X.env =
      (false, eval (.GeneratorExp elt [⟨.Tuple [.Name xa pa, .Name xb pb] kt pt, .Call (.Name "zip" zp) [e1, e2] [] zpos, [], 0⟩] scope gpos) X.env) :: starEach [] X.env := by rfl)
    (hz1 : starEach [e1, e2] X.env = (false, eval e1 X.env) :: starEach [e2] X.env := by rfl) (hz2 : (backTo zpos (starEach [e2] X.env)).any (·.1) = false := by rfl) :
    PE X (.Call (.Name "tuple" p) [.GeneratorExp elt [⟨.Tuple [.Name xa pa, .Name xb pb] kt pt, .Call (.Name "zip" zp) [e1, e2] [] zpos, [], 0⟩] scope gpos] [] pos)
      (tTupZip X.K T f ta) := by
  subst hq
  refine ⟨fun pins s σ H Q I h => ?_⟩
  refine wpAny_Call_Name_kw (ld_blt I hgt hmt PyProof.Rows.boot_tuple ?_)
  refine PyProof.Rows.callWith_type1 ?_ he (by rfl)
  rw [he]
  refine Calls.spliced_cons ?_
  refine wpAny_GeneratorExp_walksQT hr.hd S.co (closure_ok S.free) S.cell S.dot S.la S.lb S.ne S.kind (by have := hr.dp; omega) ?_ hs
  refine Call_ (ld_blt I hgz hmz PyProof.Rows.boot_zip (PyProof.Rows.callWith_type1 (thn (ha.run zpos pins s σ H _ I h) fun us s1 ⟨vs, H1, I1, r1, q1⟩ => ?_) hz1 hz2))
  obtain ⟨a, b, xs, ys, rfl, hx, hy, hTs, q⟩ := q1
  obtain ⟨ps, hP, ht, hamong⟩ := hTs _ hmT
  obtain ⟨u1, us1, rfl, ru1, r2⟩ : ∃ u1 us1, us = u1 :: us1 ∧ RelV (.ref a) u1 ∧ Vals [.ref b] us1 := by
    cases r1 with
    | cons x y => exact ⟨_, _, rfl, x, y⟩
  obtain ⟨u2, rfl, ru2⟩ : ∃ u2, us1 = [u2] ∧ RelV (.ref b) u2 := by
    cases r2 with
    | cons x y =>
      cases y
      exact ⟨_, rfl, x⟩
  obtain rfl : u1 = Value.ref a := ru1
  obtain rfl : u2 = Value.ref b := ru2
  obtain ⟨its, rv, t1, z1⟩ := I1.tuple hx
  obtain ⟨jts, rw2, t2, z2⟩ := I1.tuple hy
  refine zip_begins2 (begins_tuple a its.toArray) (begins_tuple b jts.toArray) t1 t2 fun h₁ hZ hTI hTO hi1 hi2 hz5 hk₁ => ?_
  refine wpAny_pyIter_zip hZ ?_
  have alt : a < s1.heap.objs.size := t1.lt
  have blt : b < s1.heap.objs.size := t2.lt
  have hPs : s1.heap.get? P = some { cls := .none, data := .fields ps } := I1.hok P _ hP
  have hPlt : P < s1.heap.objs.size := Heap.lt_size hPs
  have aP : a ≠ P := fun z => by
    obtain ⟨o, e1, e2, n, e3⟩ := t1
    rw [z, hPs] at e1
    cases e1
    cases e3
  have bP : b ≠ P := fun z => by
    obtain ⟨o, e1, e2, n, e3⟩ := t2
    rw [z, hPs] at e1
    cases e1
    cases e3
  have W := fun (A' : Around) (hA : A'.handled = none) => (WalksT.zipD2 (prog := X.prog) (w := X.w) (A := A')
    (zip_sep2 (N := s1.heap.objs.size) (fp1 := [a]) (fp2 := [b]) (fun c hc => by rw [List.mem_singleton.mp hc]; exact alt) (fun c hc => by rw [List.mem_singleton.mp hc]; exact blt))
    (Draws.tuple (A := A'.in1) hA _ a (Nat.ne_of_lt alt) its.toArray) (Draws.tuple (A := A'.in1) hA _ b (Nat.ne_of_lt (Nat.lt_succ_of_lt blt)) jts.toArray)).toU
  have hP1 : h₁.get? P = some { cls := .none, data := .fields ps } := hk₁ _ _ hPs
  have cd : PySem.W.CodeHd h₁ c P := TB.code.keeps fun d u e => hk₁ _ _ (I1.bk d u e)
  have lim1 : h₁.NoLimit := I1.nolimit.keeps hk₁
  refine ⟨lim1, code_step hcode cd hP1 ht fun code h3 tk hx3 hsz3 hcase => ?_⟩
  obtain ⟨bm, ob, e1, e2, e3, e4, e5, e6, e7, e8⟩ := TB.bm
  have hcP : cStatics ≠ P := fun e => by
    obtain ⟨_, ⟨o', es, ep, ho, hd, _⟩, _⟩ := I1.nolimit
    rw [e, hPs] at ho
    cases ho
    cases hd
  have hcl : cStatics < s1.heap.objs.size := by
    obtain ⟨_, hns, _⟩ := I1.nolimit
    exact hns.lt
  have keep3 : ∀ d u, d ≠ P → s1.heap.get? d = some u → h3.get? d = some u := fun d u hd e => hx3 d u hd (hk₁ _ _ e)
  have sz3 : s1.heap.objs.size + 5 ≤ h3.objs.size := by rw [← hz5]; exact hsz3
  refine wpAny_builtinsFor (m := X.mg) (by rw [I1.ok.glob]; exact ((I1.mod.glob.keeps I1.bk).keeps hk₁).extBut hx3 TB.gP) e1 e2 (keep3 _ _ e4 (I1.bk _ _ e5)) e6 e7 e8 ?_
  have st1 : IsZip h₁ (s1.heap.objs.size + 4) (s1.heap.objs.size + 2) (s1.heap.objs.size + 3) .none ∧ IsTupOf2 h₁ (s1.heap.objs.size + 2) (.ref s1.heap.objs.size) (.ref (s1.heap.objs.size + 1)) ∧ (∃ a1 a2, IsTupOf2 h₁ (s1.heap.objs.size + 3) a1 a2) ∧
      (h₁.IsTupleIter s1.heap.objs.size a 0 ∧ h₁.IsTuple a its.toArray) ∧ (h₁.IsTupleIter (s1.heap.objs.size + 1) b 0 ∧ h₁.IsTuple b jts.toArray) :=
    ⟨hZ, hTI, ⟨_, _, hTO⟩, ⟨⟨_, hi1, rfl, rfl⟩, t1.keeps hk₁⟩, ⟨⟨_, hi2, rfl, rfl⟩, t2.keeps hk₁⟩⟩
  refine ⟨_, _, _, _, _, _, _, (fun _ => true), (fun i y => ∃ (m n : Int) (t : Tok), xs[i]? = some m ∧ ys[i]? = some n ∧ y = .int (f m n) t), rfl, W, ?_, (W X.A hr.hd).frame _ _ _ st1 ?_, ?_, lim1.extBut hx3 hcP, ?_, ?_, ?_⟩
  · rintro i vals ⟨v1, v2, _, _, rfl⟩
    exact ⟨_, _, rfl⟩
  · intro d hd o e
    exact hx3 d o (fp_ne hPlt aP bP (by simpa using hd)) e
  · intro d hd
    exact fp_lt alt blt sz3 (by simpa using hd)
  · intro hd
    exact wr_old (M := s1.heap.objs.size + 5) hcl (Nat.le_refl _) (.inr (by simpa using hd))
  · intro href hhref
    refine ⟨fun A' E' i va vb s₂ m₂ hA hPv hn hma hmb hk => ?_, fun A' E' i va vb s₂ m₂ hA hPv hp hn hma hmb hk => ?_⟩
    · simp only [List.forIn_nil]
      exact wpAny_pure ⟨rfl, GxR.keeps_refl _⟩
    · obtain ⟨v1, v2, g1, g2, ev⟩ := hPv
      obtain ⟨e9, e10⟩ : va = v1 ∧ vb = v2 := by simpa using congrArg Array.toList ev
      subst e9 e10
      obtain ⟨m, t, hm, rfl⟩ := ints_at rv g1
      obtain ⟨n, u, hn2, rfl⟩ := ints_at rw2 g2
      refine wpAny_mono (hel _ A' E' m n t u s₂ m₂ rfl hn hma hmb) (fun y s3 r => ?_) fun _ _ e => e
      obtain ⟨⟨t', e⟩, kp⟩ := r
      exact ⟨⟨m, n, t', hm, hn2, e⟩, kp⟩
  · intro g h5 tk5 gs hgb hag hsz5 hk5 W5 hgat
    simp only [GxR.passing_true, List.length_range] at W5
    refine Calls.spliced_nil ?_
    have l1 : its.length = xs.length := by rw [← rv.length, List.length_map]
    have l2 : jts.length = ys.length := by rw [← rw2.length, List.length_map]
    have hag' : h3.objs.size < g := hag
    have hsz5' : h5.objs.size = g + 1 := hsz5
    refine call_tuple_gen W5.in4_3 (fun i s9 h9 => ?_) hgat ?_ List.mem_cons_self (fun s' acc hm hacc => ?_) ?_
    · obtain ⟨hg9, _⟩ := h9
      exact hg9.typeIs
    · intro d hd
      show d < h5.objs.size
      rw [hsz5']
      rcases List.mem_cons.mp hd with z | z
      · rw [z]
        exact Nat.lt_succ_self g
      · rcases List.mem_cons.mp z with z | z
        · rw [z]
          exact Nat.lt_succ_of_lt hag'
        · exact Nat.lt_succ_of_lt (Nat.lt_trans (List.mem_range.mp z) hag')
    · have nwr : ∀ d u, s1.heap.get? d = some u → d ∉ h3.objs.size :: [s1.heap.objs.size + 4, s1.heap.objs.size + 3, s1.heap.objs.size, s1.heap.objs.size + 1] := fun d u e hd =>
        wr_old (Heap.lt_size e) sz3 (by simpa using hd)
      have up : ∀ d u, d ≠ P → s1.heap.get? d = some u → s'.heap.get? d = some u := fun d u hd e => hm.heap d u (nwr d u e) (hk5 d u (keep3 d u hd e))
      have bare' : AllBare s'.gens := AllBare.movedS (I1.bare.push hgb) hm
      obtain ⟨H2, J, ex, tb⟩ : ∃ H2, Inv X pins σ H2 s' ∧ LamX.ExtN H1 H2 ∧ LamX.Tabs T H2 := by
        rcases hcase with hP3 | ⟨c', hP3, hge, hlt, oc, us, t, hoc, hd, hv⟩
        · have J : Inv X pins σ H1 { s1 with heap := s'.heap, toks := s'.toks } := I1.kept (t' := s'.toks) fun d u e => by
            by_cases hd : d = P
            · rw [hd, hPs] at e
              cases e
              rw [hd]
              exact hm.heap P _ (nwr P _ hPs) (hk5 P _ hP3)
            · exact up d u hd e
          exact ⟨H1, Inv.gens J rfl hm.os bare', LamX.ExtN.refl _, hTs⟩
        · have hge' : s1.heap.objs.size + 5 ≤ c' := by rw [← hz5]; exact hge
          have hlt' : c' < h3.objs.size := hlt
          have cw : c' ∉ h3.objs.size :: [s1.heap.objs.size + 4, s1.heap.objs.size + 3, s1.heap.objs.size, s1.heap.objs.size + 1] := fun hd => cw_out hge' hlt' (by simpa using hd)
          have J := LamX.inv_table (t' := s'.toks) (c := c') (q := X.env.qual ++ "<genexpr>") (more := #[rawInt gpos.line, rawInt gpos.col, .ref c']) (h' := s'.heap) I1 hP up
            (hm.heap P _ (nwr P _ hPs) (hk5 P _ hP3)) (Nat.le_trans (Nat.le_add_right _ 5) hge') ⟨oc, us, t, hm.heap _ _ cw (hk5 _ _ hoc), hd, hv⟩
          obtain ⟨g1, g2⟩ := tabs_grow (pos := gpos) hTs hu hP ht hamong (I1.hok.fresh (Nat.le_trans (Nat.le_add_right _ 5) hge'))
          exact ⟨_, Inv.gens J rfl hm.os bare', g1, g2⟩
      have vals : Vals ((List.zipWith f xs ys).map V.int) acc.toList := vals_zip (by simp [l1, l2]) hacc
      have J2 : Inv X pins σ (upd H2 s'.heap.objs.size (.tup ((List.zipWith f xs ys).map V.int))) { s' with heap := s'.heap.push { cls := .type "tuple", data := .seq acc } } :=
        J.laid (t' := s'.toks) (fun d o e => Heap.get?_push_of_some _ e) (Nat.le_refl _) (show ObjOk X.prog X.w _ _ _ (.tup _) from ⟨by rw [List.length_map, List.length_zipWith]; rw [List.length_map] at z1; omega, acc.toList, vals, by simpa using IsTup.new _ _⟩)
      exact ⟨.ref _, _, J2, rfl, q _ _ ex tb (J.hok.fresh (Nat.le_refl _))⟩
    · rw [List.length_map] at z1
      simp only [List.size_toArray, l1, l2]
      omega
end
end Ck
set_option maxRecDepth 100000
set_option maxHeartbeats 4000000
namespace Ck
open PySem PySem.Spec PyProof.Rows L2

/-! ### repr, where nothing is being shown -/
structure ShowOk (d : PyData) : Prop where
  sh : d.showable = true
  nd : d.hasDict = false
  dp : d.depth ≤ 60
  sz : d.shown.length ≤ sizeLine
def rRepr (K : PySem.W.Frag) : List V → Hp → VK → Prop := fun xs H Q =>
  ∃ (a : Addr) (d : PyData), xs = [.ref a] ∧ Dp K H (.ref a) d ∧ ShowOk d ∧ Q (.str d.shown) H
theorem call_reprD {X : Cx} {k : Nat} (hr : Room k X.A) (hg : X.A.guards = some []) : CallR X (.builtin "repr") (rRepr X.K) := by
  intro pins s σ H xs us Q I r h
  obtain ⟨a, d, rfl, hd, ok, q⟩ := h
  obtain ⟨u, rfl, ru⟩ : ∃ u, us = [u] ∧ RelV (.ref a) u := by
    cases r with
    | cons x y =>
      cases y
      exact ⟨_, rfl, x⟩
  obtain ⟨as, rd⟩ := Dp.reads I d _ _ hd ru
  obtain rfl : u = Value.ref a := ru
  have hu := hr.un
  have hdp := ok.dp
  refine repr_of_reads' rd ok.sh (PyData.noDict_hsm ok.nd) hg (by omega) (fun _ _ e => e) (fun h' u tk hk => ?_) ok.sz
  exact ⟨.str d.shown, H, I.kept (t' := tk) hk, ⟨_, rfl⟩, q⟩

/-! ### a def that is called where nothing is being shown -/
structure FnG (P : Program) (w : World) (K : PySem.W.Frag) (mg : Str → Option Value) (base : Heap) (CX : CXT) (k : Nat) (f : Addr) (fd : FuncData) (ps : List Str) (sp : Sp) : Prop where
  len : ∀ vs H Q E, sp vs H Q E → vs.length = ps.length
  run : ∀ (A : Around) (outer : List Env) (s : Shared) (H : Hp) (args : Args) (us : List Value) (vs : List V) (Q : VK) (E : XK),
    Room k A → A.guards = some [] → Env0 P w K mg base A outer s H → BindsTo s fd args (ps.zip us) → Vals vs us → sp vs H Q E →
    codeAny (model P w) A (.call (.ref f) args) (CR CX outer P w H s Q E) s
theorem fnG_of {CX : CXT} {P : Program} {w : World} {K : PySem.W.Frag} {mg : Str → Option Value} {base : Heap} {k : Nat} {f : Addr} {name qual : Str} {params : Arguments} {body : List Stmt} {scope : Scope}
    {dV kV doc pm cdv ct oc : Value} {an od : Option Addr} {osl : Array (Option Value)} {N ps : List Str} {sp : Sp}
    (lk : K.lookup f = some ⟨oc, od, .func (PySem.W.fnOf name qual params body scope dV kV doc pm an cdv ct), osl⟩) (hcd : PySem.W.codeIn K cdv qual = true) (S : FnScope N ps scope)
    (len : ∀ vs H Q E, sp vs H Q E → vs.length = ps.length)
    (hbody : ∀ (A : Around) (outer : List Env) (s : Shared) (H : Hp) (vs : List V) (Q : VK) (E : XK),
      Room k (A.deeper (envOfC qual scope s.heap.objs.size f cdv)) → A.guards = some [] → sp vs H Q E →
      ∃ t, PSs (cxOf CX P w K mg base N qual scope f cdv A outer s H E) body t ∧ t { nx := fun _ H' => Q .non H', rt := Q } (start N vs) H) :
    FnG P w K mg base CX (k + 1) f (PySem.W.fnOf name qual params body scope dV kV doc pm an cdv ct) ps sp :=
  ⟨len, fun A outer s H args us vs Q E hr hg e0 hb r hsp => LamX.run_ofS lk hcd S hr e0 hb r (len _ _ _ _ hsp) fun hr' => hbody A outer s H vs Q E hr' hg hsp⟩

section
variable {X : Cx} {CX : CXT} {k : Nat} {f : Addr} {fd : FuncData} {ps : List Str} {sp : Sp} {E : XK} {x : Str} {p pos : Pos} {e : Expr} {es : List Expr} {t : TA}
theorem pe_callG (F : FnG X.prog X.w X.K X.mg X.base CX k f fd ps sp) (hr : Room k X.A) (hgu : X.A.guards = some []) (hg : Gl X x) (hm : X.mg x = some (.ref f))
    (hk : PySem.W.keepIn X.K (.ref f) = true) (hb : Binds X.K fd ps []) (hx : Passes CX X E)
    (ha : PA X (e :: es) t) (hdb : (x == ("__debug__" : Str)) = false := by decide)
    (he : starEach (e :: es) X.env = (false, eval e X.env) :: starEach es X.env := by rfl) (hpl : (backTo pos (starEach es X.env)).any (·.1) = false := by rfl) :
    PE X (.Call (.Name x p) (e :: es) [] pos) (tCall sp [] E t) := by
  refine ⟨fun pins s σ H Q I h => wpAny_Call_Name_kw (ld_glob I hg hm ?_ hdb)⟩
  refine PySem.W.callWith_K (h₀ := X.base) I.ok.mod.kin hk (thn (ha.run pos pins s σ H _ I h) fun us s1 ⟨vs, H1, I1, r, q⟩ => ⟨I1.kIn, ?_⟩) he hpl
  have q : sp (vs ++ []) H1 Q E := q
  rw [List.append_nil] at q
  have hl : us.length = ps.length := by
    rw [← r.length]
    exact F.len _ _ _ _ q
  have bt := hb s1 us I1.kIn (by rw [List.append_nil]; exact hl)
  rw [List.append_nil] at bt
  refine wpAny_call (codeAny_mono (F.run X.A X.stack s1 H1 ⟨us, []⟩ us vs Q E hr hgu I1.env0 bt r q) fun res s' hq => ?_)
  match res, hq with
  | .error e, hq => exact hx pins σ H1 s1 e s' I1 hq
  | .ok (.ret u), hq => exact I1.after hq
  | .ok .next, hq => exact hq.elim
  | .ok .brk, hq => exact hq.elim
  | .ok .cont, hq => exact hq.elim
end

/-! ### the end of a law: nothing is being shown, the tables cs are empty -/
/-- the abstract heap at the law's call: the script (if it is no object of the top) and the tables -/
def startH (own : Bool) (a : Addr) (ob : Obj) (xs : List V) (tabs : List Addr) : Hp := fun b =>
  if own = true ∧ b = a then some (.frz ob (.lst xs)) else if b ∈ tabs then some (.tbl #[]) else none
theorem startH_tab {own : Bool} {a : Addr} {ob : Obj} {xs : List V} {tabs : List Addr} {b : Addr} (h : b ∈ tabs) (n : b ≠ a) : startH own a ob xs tabs b = some (.tbl #[]) := by
  unfold startH
  rw [if_neg (fun z => n z.2), if_pos h]
theorem startH_own {a : Addr} {ob : Obj} {xs : List V} {tabs : List Addr} : startH true a ob xs tabs a = some (.frz ob (.lst xs)) := if_pos ⟨rfl, rfl⟩
theorem startH_cases {own : Bool} {a : Addr} {ob : Obj} {xs : List V} {tabs : List Addr} (b : Addr) :
    (own = true ∧ b = a ∧ startH own a ob xs tabs b = some (.frz ob (.lst xs))) ∨ (b ∈ tabs ∧ startH own a ob xs tabs b = some (.tbl #[])) ∨ (b ∉ tabs ∧ ¬ (own = true ∧ b = a) ∧ startH own a ob xs tabs b = none) := by
  unfold startH
  by_cases h1 : own = true ∧ b = a
  · exact .inl ⟨h1.1, h1.2, if_pos h1⟩
  · rw [if_neg h1]
    by_cases h2 : b ∈ tabs
    · exact .inr (.inl ⟨h2, if_pos h2⟩)
    · exact .inr (.inr ⟨h2, h1, if_neg h2⟩)

section
variable {P : Program} {w : World} {K : PySem.W.Frag} {mg mb : Str → Option Value} {CX : CXT} {k : Nat} {fa a : Addr} {cs : List (Addr × Addr)} {fd : FuncData} {x : Str} {sp : Sp} {s₁ : Shared} {vs : List Value} {ns : List Int}
theorem law_callG (KX : K.In s₁.heap) (hns : s₁.heap.Ns mainGlobals mg) (hb : s₁.heap.Ns builtinsNs mb) (hbb : ∀ x : Str, x ≠ "__name__" → mb x = bootBuiltins x) (hlim : s₁.heap.NoLimit) (hg : s₁.gens = #[])
    (hT : ∀ q ∈ cs, s₁.heap.get? q.2 = some { cls := .none, data := .fields #[] }) (nT : ∀ q ∈ cs, K.lookup q.2 = none) (C : ∀ q ∈ cs, PySem.W.CodeHd s₁.heap q.1 q.2)
    (hbm : ∃ (bm : Addr) (ob : Obj), mg "__builtins__" = some (.ref bm) ∧ bm ≠ builtinsNs ∧ s₁.heap.get? bm = some ob ∧ ob.cls = .type "module" ∧ ob.dict = some builtinsNs ∧ ob.data = .plain)
    (ha : s₁.heap.get? a = some { cls := .type "list", data := .seq vs.toArray }) (hi : IntsAre vs ns) (hl : ns.length ≤ sizeLine) (hr : Room k callerA)
    (F : ∀ base : Heap, K.In base → base.Ns mainGlobals mg → (∀ q ∈ cs, LamX.TabB base mg q.1 q.2) → FnG P w K mg base CX k fa fd [x] sp) (hbind : ∀ (s : Shared) (u : Value), BindsTo s fd ⟨[u], []⟩ [(x, u)])
    (hsp : ∀ H : Hp, (∀ q ∈ cs, H q.2 = some (.tbl #[])) → SqL K H a (ns.map V.int) → sp [.ref a] H (fun v _ => v = .bl true) fun _ _ _ => False)
    (hCX : ∀ H e s', CX [] H s₁ (fun _ _ _ => False) e s' → False) :
    codeAny (model P w) callerA (.call (.ref fa) ⟨[.ref a], []⟩) (fun r s' => r = .ok (.ret (.bool true)) ∧ OldK s₁.heap s'.heap ∧ s'.os = s₁.os ∧ AllBare s'.gens) s₁ := by
  have tab_get : ∀ b ∈ cs.map (·.2), s₁.heap.get? b = some { cls := .none, data := .fields #[] } := fun b hb => by
    obtain ⟨q, hq, rfl⟩ := List.mem_map.mp hb
    exact hT q hq
  have tab_mem : ∀ q ∈ cs, q.2 ∈ cs.map (·.2) := fun q hq => List.mem_map.mpr ⟨q, hq, rfl⟩
  have a_tab : a ∉ cs.map (·.2) := fun z => by
    have q := tab_get a z
    rw [ha] at q
    cases q
  obtain ⟨own, hown, hseq⟩ : ∃ own : Bool, (own = true → K.lookup a = none) ∧
      SqL K (startH own a { cls := .type "list", data := .seq vs.toArray } (ns.map V.int) (cs.map (·.2))) a (ns.map V.int) := by
    cases hk : K.lookup a with
    | none => exact ⟨true, fun _ => rfl, .inl (.inr ⟨_, startH_own⟩)⟩
    | some o =>
      have e := KX a o hk
      rw [ha] at e
      cases e
      exact ⟨false, (fun z => nomatch z), .inr ⟨_, vs.toArray, _, hk, rfl, rfl, rfl, by rw [List.size_toArray, hi.length]; exact hl, by simpa using vals_ints hi⟩⟩
  generalize hH : startH own a { cls := .type "list", data := .seq vs.toArray } (ns.map V.int) (cs.map (·.2)) = H at hseq
  have at_tab : ∀ q ∈ cs, H q.2 = some (.tbl #[]) := fun q hq => by
    rw [← hH]
    exact startH_tab (tab_mem q hq) fun z => a_tab (z ▸ tab_mem q hq)
  have look : ∀ b, (own = true ∧ b = a ∧ H b = some (.frz { cls := .type "list", data := .seq vs.toArray } (.lst (ns.map V.int)))) ∨ (b ∈ cs.map (·.2) ∧ H b = some (.tbl #[])) ∨ (b ∉ cs.map (·.2) ∧ ¬ (own = true ∧ b = a) ∧ H b = none) := fun b => by
    rw [← hH]
    exact startH_cases b
  have hok : HOk P w H s₁.heap := fun b u e => by
    rcases look b with ⟨_, rfl, z⟩ | ⟨m, z⟩ | ⟨_, _, z⟩
    · rw [e] at z
      cases z
      exact ⟨ha, by rw [List.length_map]; exact hl, vs, _, vals_ints hi, ha⟩
    · rw [e] at z
      cases z
      exact tab_get b m
    · rw [e] at z
      cases z
  have off : ∀ {b : Addr} {o : Obj}, s₁.heap.get? b = some o → (∀ us n, o.data ≠ .seq us n) → o.data ≠ .fields #[] → H b = none := fun {b o} e h1 h2 => by
    rcases look b with ⟨_, rfl, z⟩ | ⟨m, z⟩ | ⟨_, _, z⟩
    · rw [ha] at e
      cases e
      exact (h1 _ _ rfl).elim
    · rw [tab_get b m] at e
      cases e
      exact (h2 rfl).elim
    · exact z
  have up : ∀ {b : Addr} {o : Obj}, s₁.heap.get? b = some o → H b = none → (hidT s₁.heap H).get? b = some o := fun e n => hidT_get e n
  have ns_up : ∀ {b : Addr} {m : Str → Option Value}, s₁.heap.Ns b m → (hidT s₁.heap H).Ns b m := fun {b m} ⟨o, es, ep, e, d, r⟩ =>
    ⟨o, es, ep, up e (off e (fun us n z => by rw [d] at z; cases z) fun z => by rw [d] at z; cases z), d, r⟩
  have KB : K.In (hidT s₁.heap H) := fun b o e => up (KX b o e) (by
    rcases look b with ⟨z1, rfl, _⟩ | ⟨m, _⟩ | ⟨_, _, z⟩
    · rw [hown z1] at e
      cases e
    · obtain ⟨q, hq, rfl⟩ := List.mem_map.mp m
      rw [nT q hq] at e
      cases e
    · exact z)
  have TB : ∀ q ∈ cs, LamX.TabB (hidT s₁.heap H) mg q.1 q.2 := fun q hq => by
    refine ⟨?_, ?_, fun z => ?_⟩
    · obtain ⟨o, us, file, tf, flags, tg, inF, text, tt, e1, r1, r2, r3, r4⟩ := C q hq
      refine ⟨o, us, file, tf, flags, tg, inF, text, tt, up e1 (off e1 (fun us n z => by rw [r2] at z; cases z) fun z => ?_), r1, r2, r3, r4⟩
      rw [r2] at z
      cases z
      simp at r3
    · obtain ⟨bm, ob, b1, b2, b3, b4, b5, b6⟩ := hbm
      refine ⟨bm, ob, b1, b2, fun z => ?_, fun z => ?_, up b3 (off b3 (fun us n z => by rw [b6] at z; cases z) fun z => by rw [b6] at z; cases z), b4, b5, b6⟩
      · obtain ⟨o, es, ep, e, hd, _⟩ := hns
        rw [z, e] at b3
        cases b3
        rw [hd] at b6
        cases b6
      · rw [z, hT q hq] at b3
        cases b3
        cases b6
    · obtain ⟨o, es, ep, e, hd, _⟩ := hns
      rw [z, hT q hq] at e
      cases e
      cases hd
  have e0 : Env0 P w K mg (hidT s₁.heap H) callerA [] s₁ H :=
    ⟨rfl, ⟨KB, ns_up hns, ⟨mb, ns_up hb, hbb⟩, let ⟨mc, h1, h2⟩ := hlim; ⟨mc, ns_up h1, h2⟩⟩, fun b o e => of_hidT e, Nat.le_of_eq (hidT_size _ _), trivial, fun b z => absurd (show b ∈ ([] : List Addr) from z) (by simp), hok, .of_eq hg⟩
  refine codeAny_mono ((F _ KB (ns_up hns) TB).run callerA [] s₁ H ⟨[.ref a], []⟩ [.ref a] [.ref a] _ _ hr rfl e0 (hbind s₁ (.ref a)) (.cons rfl .nil) (hsp H at_tab hseq)) fun r s' h => ?_
  match r, h with
  | .error e, h => exact (hCX H e s' h).elim
  | .ok .next, h => exact h.elim
  | .ok .brk, h => exact h.elim
  | .ok .cont, h => exact h.elim
  | .ok (.ret u), h =>
    obtain ⟨v, H', os, bare, un, hok', ru, qv⟩ := h
    obtain rfl : v = .bl true := qv
    obtain rfl : u = Value.bool true := ru
    have stay : ∀ b o, b ∉ cs.map (·.2) → s₁.heap.get? b = some o → s'.heap.get? b = some o := fun b o nb e => by
      rcases look b with ⟨_, _, z⟩ | ⟨m, _⟩ | ⟨_, _, z⟩
      · obtain ⟨e1, _⟩ := hok b _ z
        obtain ⟨e2, _⟩ := hok' b _ (un.frzs b _ _ z)
        rw [e] at e1
        cases e1
        exact e2
      · exact absurd m nb
      · exact un.keep b o e z (fun q => absurd (show b ∈ ([] : List Addr) from q) (by simp)) (by simp)
    have grown : ∀ q ∈ cs, ∃ more : Array Value, s'.heap.get? q.2 = some { cls := .none, data := .fields more } := fun q hq => by
      obtain ⟨more, z⟩ := un.tbls q.2 #[] (at_tab q hq)
      exact ⟨_, hok' q.2 _ z⟩
    refine ⟨rfl, ⟨fun b o e => ?_, fun b o e => ?_⟩, os, bare⟩
    · by_cases m : b ∈ cs.map (·.2)
      · obtain ⟨q, hq, rfl⟩ := List.mem_map.mp m
        obtain ⟨more, hm⟩ := grown q hq
        rw [hT q hq] at e
        cases e
        exact .inr (.inl ⟨((C q hq).tab (hT q hq)).isCodeTable, rfl, #[], more, rfl, by rw [Array.empty_append]; exact hm⟩)
      · exact .inl (stay b o m e)
    · by_cases m : b ∈ cs.map (·.2)
      · obtain ⟨q, hq, rfl⟩ := List.mem_map.mp m
        obtain ⟨more, hm⟩ := grown q hq
        exact ⟨_, hm⟩
      · exact ⟨o, stay b o m e⟩
end
def LawG (l : PySem.W.OpenLaw) (w : World) (K : PySem.W.Frag) (CX : CXT) (k n : Nat) (x : Str) (mg : Str → Option Value) (fa : Addr) (h : Heap) : Prop :=
  ∃ (fd : FuncData) (cs : List (Addr × Addr)) (sp : Sp), (∀ q ∈ cs, h.get? q.2 = some { cls := .none, data := .fields #[] }) ∧ (∀ q ∈ cs, K.lookup q.2 = none) ∧ (∀ q ∈ cs, PySem.W.CodeHd h q.1 q.2) ∧
    (∀ (s : Shared) (u : Value), BindsTo s fd ⟨[u], []⟩ [(x, u)]) ∧
    (∀ (H : Hp) (a : Addr) (ns : List Int), ns.length ≤ n → (∀ q ∈ cs, H q.2 = some (.tbl #[])) → SqL K H a (ns.map V.int) → sp [.ref a] H (fun v _ => v = .bl true) fun _ _ _ => False) ∧
    ∀ base : Heap, K.In base → base.Ns mainGlobals mg → (∀ q ∈ cs, LamX.TabB base mg q.1 q.2) → FnG l.prog w K mg base CX k fa fd [x] sp
theorem walk_ofG {l : PySem.W.OpenLaw} {n k : Nat} {q : Program} {loose : List Str} {XP : (Str → Option Value) → Heap → Prop} {YP : World → Heap → Prop} {d : DefRec} {K : Params → PySem.W.Frag} {CX : World → CXT} {x : Str}
    (hn : l.most = some n) (hn2 : n ≤ sizeLine) (hdf : d.params.defaults = []) (hr : Room k callerA) (hY : ∀ (w : World) (h : Heap), YP w h → (K w.params).In h)
    (F : ∀ (w : World) (mg : Str → Option Value) (fa : Addr) (h : Heap), YP w h → (K w.params).In h → h.Ns mainGlobals mg → mg d.name = some (.ref fa) → LawG l w (K w.params) (CX w) k n x mg fa h)
    (hCX : ∀ (w : World) (H : Hp) (s : Shared) (e : Value) (s' : Shared), CX w [] H s (fun _ _ _ => False) e s' → False) :
    PySem.W.WalkO q loose XP YP l.row.toRowW d [] (fun f vs => PySem.call f vs) := by
  refine Att.attach_callB hn hdf fun w s₀ s₁ mg mb fa o pm cd doc a vs ns G Y ho hd hcd hmg hobj hints hlen _ hg => ?_
  have kx := hY w _ Y
  obtain ⟨fd, cs, sp, c1, c2, c3, c4, c5, c6⟩ := F w mg fa _ Y kx G.T.g hmg
  exact law_callG kx G.T.g G.T.b G.T.builtins G.T.nolimit hg c1 c2 c3 G.T.bmain hobj hints (Nat.le_trans hlen hn2) hr c6 c4 (fun H h1 h2 => c5 H a ns hlen h1 h2) fun H e s' => hCX w H s₁ e s'
end Ck
set_option maxRecDepth 100000
set_option maxHeartbeats 4000000
namespace Ck
open PySem PySem.Spec PyProof.Rows L2
/-! ### an exception that is kept behind its except suite -/
/-- the object at a is an exception of the class cls -/
def ExcO (a : Addr) (cls : Value) (d : Option Addr) : HO := .ext fun h => ∃ (oe : Obj) (vs : Array Value), h.get? a = some oe ∧ oe.cls = cls ∧ oe.dict = d ∧ oe.data = .fields vs

theorem adopt {X : Cx} {pins : List (Addr × Obj)} {σ : L2.St} {H : Hp} {s : Shared} {a : Addr} {oe : Obj} {cls : Value} {d : Option Addr} {vs : Array Value}
    (I : Inv X ((a, oe) :: pins) σ H s) (hz : Zc cls d oe) (hf : oe.data = .fields vs) (new : X.s_0.heap.get? a = none)
    (hp : ∀ q ∈ X.pn ++ pins, q.1 ≠ a) (hc : ∀ y c, X.env.cells.lookup y = some c → c ≠ a) : Inv X pins σ (upd H a (ExcO a cls d)) s := by
  obtain ⟨ha, na, nL, nF, _⟩ := I.pin (a, oe) (List.mem_append_right _ List.mem_cons_self)
  have ha : s.heap.get? a = some oe := ha
  have na : H a = none := na
  have nL : a ≠ X.env.locals := nL
  have away : ∀ {b : Addr} {u : HO}, H b = some u → upd H a (ExcO a cls d) b = some u := fun {b u} e => by
    rw [upd_ne (ne_of_none e na)]
    exact e
  refine ⟨I.ok, I.os, I.bare, ⟨I.base.keep, I.base.slot, fun b o e n hx => ?_, I.base.there, fun b xs e => away (I.base.tups b xs e), fun b o u e => away (I.base.frzs b o u e), fun b ps e => ?_⟩, I.loc, I.cell, ?_, fun y c e => ?_, fun q hq => ?_, fun b u e => ?_, I.len⟩
  · have nb : b ≠ a := fun z => by
      rw [z, new] at e
      cases e
    rw [upd_ne nb]
    exact I.base.free b o e n hx
  · obtain ⟨more, q⟩ := I.base.tbls b ps e
    exact ⟨more, away q⟩
  · rw [upd_ne nL.symm]
    exact I.free
  · rw [upd_ne (hc y c e)]
    exact I.freeC y c e
  · have hq' : q ∈ X.pn ++ (a, oe) :: pins := by
      rcases List.mem_append.mp hq with z | z
      · exact List.mem_append_left _ z
      · exact List.mem_append_right _ (List.mem_cons_of_mem _ z)
    obtain ⟨h1, h2, h3⟩ := I.pin q hq'
    exact ⟨h1, by rw [upd_ne (hp q hq)]; exact h2, h3⟩
  · by_cases hb : b = a
    · subst hb
      rw [upd_same] at e
      cases e
      refine ⟨⟨oe, vs, ha, hz.1, hz.2, hf⟩, ⟨oe, ha⟩, fun h1 h2 ⟨o, us, e1, r⟩ k => ⟨o, us, k _ e1, r⟩⟩
    · rw [upd_ne hb] at e
      exact (I.hok b u e).stay (fun _ _ _ q => q) (fun _ q => away q) fun _ _ q => away q

/-- what 'except x as n' wishes, where the exception is kept: slot i is n's -/
def wKeep (K : PySem.W.Frag) (c : Value) (i : Nat) (ts : Addr → Value → Option Addr → TS) (D : Ends) : WX := fun cls d σ H =>
  PySem.W.exmOne K cls c = some true ∧ ∀ a, H a = none →
    ts a cls d { nx := fun σ' H' => H' a = none → D.nx (σ'.set i none) (upd H' a (ExcO a cls d)), rt := fun _ _ => False, bk := fun _ _ => False, ct := fun _ _ => False } (σ.set i (some (.ref a))) H

section
variable {X : Cx} {x n : Str} {c : Value} {i : Nat} {body suite : List Stmt} {b₀ : Stmt} {np pos pos' : Pos} {tb : WX → TS} {ts : Addr → Value → Option Addr → TS}
theorem ps_try_keep (hs : X.stack = X.env :: X.outer) (hf : X.env.frame = some X.env.locals) (hex : X.ex = []) (hN : X.N.Nodup) (hi : X.N[i]? = some n) (hln : X.env.kindOf n = some .local) (hc : Names X x c)
    (hb : ∀ (W : WX) (pn : List (Addr × Obj)) (xe : Value → Shared → Prop), Takes (X.tr pn xe) W → PassesOwn (model X.prog X.w) X.A X.env xe → PSs (X.tr pn xe) body (tb W))
    (hsu : ∀ (a : Addr) (oe : Obj) (cls : Value) (d : Option Addr) (pn : List (Addr × Obj)), PSs (X.suite a ((a, oe) :: pn)) (b₀ :: suite) (ts a cls d)) :
    PS X (.Try body [.ExceptHandler (some (.Name x np)) (some n) (b₀ :: suite) pos'] [] [] pos) (fun D σ H => tb (wKeep X.K c i ts D) D σ H) := by
  refine ⟨fun pins s σ H D I h => ?_⟩
  have ok := I.ok
  have hfr : X.A.frames = some (X.env :: X.outer) := by rw [ok.frames, hs]
  refine wpAny_Try_except (wpAny_mono ((hb (wKeep X.K c i ts D) (X.pn ++ pins) (fun e s₁ => wpAny (model X.prog X.w) X.A (noteFrame e X.env)
    (fun _ s₂ => wpAny (model X.prog X.w) X.A (setFlight e none) (fun _ s₃ => wpAny (model X.prog X.w) X.A (handleBy e X.env
      [.ExceptHandler (some (.Name x np)) (some n) (b₀ :: suite) pos']) (SP X pins D) X.xe s₃) X.xe s₂) X.xe s₁)
    (fun u s' xx => ?caught) PassesOwn.looking).run [] s σ H D (I.toTry _) h) (fun fl s1 hsp => ?thru) (fun e s1 he => he))
  case thru =>
    match fl, hsp with
    | .next, ⟨σ', H', J, q⟩ => exact wpAny_execs_nil ⟨σ', H', J.ofTry ok, q⟩
    | .brk, ⟨σ', H', J, q⟩ => exact ⟨σ', H', J.ofTry ok, q⟩
    | .cont, ⟨σ', H', J, q⟩ => exact ⟨σ', H', J.ofTry ok, q⟩
    | .ret u, ⟨v, σ', H', J, r, q⟩ => exact ⟨v, σ', H', J.ofTry ok, r, q⟩
  case caught =>
    obtain ⟨a, B, sI, pins', σ', H', cls, d, rfl, J', nb, up, sky, na, os, ag, hb1, hyes⟩ := xx
    have J : Inv X pins σ' H' sI := J'.ofTry ok
    rw [hs] at sky
    show wpAny (model X.prog X.w) X.A (noteFrame (.ref a) X.env) _ _ _
    refine Sky.land Zc.steady hfr hf sky fun h3 fl3 up3 => ?_
    have J3 : Inv X pins σ' H' { s' with heap := h3 } := J.landed nb fl3.1 (up.trans up3) os ag
    obtain ⟨oe3, vs3, he3, hz3, hd3⟩ := fl3.there
    have nfr : a ∉ frs (X.env :: X.outer) := fun hm => by
      obtain ⟨_, o', e', hnf⟩ := fl3.2.2.1.mem hm
      rw [he3] at e'
      cases e'
      exact hnf _ hd3
    have nL : a ≠ X.env.locals := fun z => nfr (List.mem_filterMap.mpr ⟨X.env, List.mem_cons_self, by rw [hf, z]⟩)
    have nF : a ∉ X.fs := fun hm => by
      obtain ⟨e, he, q⟩ := List.mem_filterMap.mp hm
      exact nfr (List.mem_filterMap.mpr ⟨e, List.mem_cons_of_mem _ he, q⟩)
    have unborn : sI.heap.get? a = none := by
      cases q : sI.heap.get? a with
      | none => rfl
      | some o =>
        have z := nb a o q (by rw [hs]; exact nfr)
        rw [fl3.2.1] at z
        cases z
    have new : X.s_0.heap.get? a = none := by
      cases q : X.s_0.heap.get? a with
      | none => rfl
      | some o =>
        obtain ⟨o', z⟩ := J.base.there a o q (by rw [hex]; simp)
        rw [unborn] at z
        cases z
    have S3 := J3.suite he3 hd3 na nL nF
    refine wpAny_handleBy_cons (codeAny_handlers_test ?_) (by intro q; cases q)
    have LT : PySem.W.Looks (model X.prog X.w) h3 (typeOf (.ref a)) cls := fun A Q E s k q => wpAny_typeOf_ref (k _ _ he3) (by rw [hz3.1]; exact q)
    have LM := PySem.W.exm_one (M := model X.prog X.w) J3.kIn LT hb1
    have named : ∀ {Q : Value → Shared → Prop} {E : Value → Shared → Prop}, Q c { s' with heap := h3 } →
        wpAny (model X.prog X.w) (X.A.mark (some (.ref a))) (eval (.Name x np) X.env) Q E { s' with heap := h3 } := fun {Q E} q => by
      obtain ⟨hg, hdbg, hm | ⟨hm, hv, hnn⟩⟩ := hc
      · exact ld_glob (X := X.suite a ((a, oe3) :: (X.pn ++ pins))) S3 hg hm q hdbg
      · exact ld_blt (X := X.suite a ((a, oe3) :: (X.pn ++ pins))) S3 hg hm hv q hnn hdbg
    refine named (LM.here ?_)
    refine codeAny_handlers_suite_as (HandSPX.lands_againZ fl3 fun h4 fl4 up4 => ?_)
    have J4 : Inv X pins σ' H' { s' with heap := h4 } := J.landed nb fl4.1 ((up.trans up3).trans up4) os ag
    obtain ⟨oe4, vs4, he4, hz4, hd4⟩ := fl4.there
    refine store_ok (X := X.suite a ((a, oe4) :: (X.pn ++ pins))) (v := .ref a) (J4.suite he4 hd4 na nL nF) hN hi (.inl hln) rfl (fun s5 S5 => ?_) (.inr hln)
    refine wpAny_mono ((hsu a oe4 cls d (X.pn ++ pins)).run [] s5 _ H' _ S5 (hyes a na)) (fun fl s6 hsp => ?_) (fun _ _ z => False.elim z)
    match fl, hsp with
    | .brk, ⟨_, _, _, q⟩ => exact q.elim
    | .cont, ⟨_, _, _, q⟩ => exact q.elim
    | .ret u, ⟨_, _, _, _, _, q⟩ => exact q.elim
    | .next, ⟨σ6, H6, S6, q6⟩ =>
      have J6 : Inv X ((a, oe4) :: pins) σ6 H6 s6 := ⟨ok, S6.os, S6.bare, S6.base, S6.loc, S6.cell, S6.free, S6.freeC, fun p hp => S6.pin p (by
        show p ∈ ((a, oe4) :: (X.pn ++ pins)) ++ []
        rw [List.append_nil]
        rcases List.mem_append.mp hp with z | z
        · exact List.mem_cons_of_mem _ (List.mem_append_left _ z)
        · rcases List.mem_cons.mp z with z | z
          · rw [z]
            exact List.mem_cons_self
          · exact List.mem_cons_of_mem _ (List.mem_append_right _ z)), S6.hok, S6.len⟩
      have na6 : H6 a = none := (J6.pin (a, oe4) (List.mem_append_right _ List.mem_cons_self)).2.1
      show wpAny (model X.prog X.w) X.A (do bindName X.env n .none; unbindBehindTheSuite X.env n pos') (fun _ s7 => SP X pins D .next s7) X.xe s6
      refine gone_ok J6 hN hi hln fun s7 J7 => ⟨_, _, adopt J7 hz4 hd4 new (fun q hq z => ?_) (fun y c e z => ?_), q6 na6⟩
      · have e := (J.pin q hq).1
        rw [z, unborn] at e
        cases e
      · obtain ⟨v, o, e1, _⟩ := J.cell y c e
        rw [z, unborn] at e1
        cases e1
end

/-! ### isinstance of a kept exception -/
section
variable {X : Cx} {a D : Addr}
theorem kept_inst {pins : List (Addr × Obj)} {σ : L2.St} {H : Hp} {s : Shared} (I : Inv X pins σ H s) (h : H a = some (ExcO a (.ref D) none)) : ∃ oe, PySem.W.InstAt s.heap a oe D none := by
  obtain ⟨⟨oe, vs, e1, e2, e3, e4⟩, _⟩ := I.hok a _ h
  obtain ⟨oc, od, oda, osl⟩ := oe
  dsimp only at e2 e3 e4
  subst e2 e3 e4
  exact ⟨_, e1, rfl, rfl, trivial⟩
def rIsK (K : PySem.W.Frag) (D : Addr) : List V → Hp → VK → Prop := fun xs H Q => ∃ (a : Addr) (c : V) (cv : Value) (b : Bool), xs = [.ref a, c] ∧ H a = some (ExcO a (.ref D) none) ∧ ClsV c cv ∧ PySem.W.kitOne K (.ref D) cv = some b ∧ Q (.bl b) H
theorem call_isK (C : ExcC X.K D) : CallR X (.builtin "isinstance") (rIsK X.K D) := by
  intro pins s σ H xs us Q I r h
  obtain ⟨a, c, cv, b, rfl, ha, k, e, q⟩ := h
  obtain ⟨u1, u2, rfl, r1, r2⟩ := vals2 r
  obtain rfl := k.eq r2
  obtain rfl : u1 = Value.ref a := r1
  obtain ⟨oe, J⟩ := kept_inst I ha
  exact PySem.W.kia_one (PySem.W.handS_kitx_exc C.hg C.hk C.hs C.hd C.ha C.hn C.ht C.hm) I.kIn J e (fun z => nomatch z) fun tk => ⟨.bl b, H, I.tok tk, rfl, q⟩
def rIsKT (K : PySem.W.Frag) (D : Addr) : List V → Hp → VK → Prop := fun xs H Q => ∃ (a tp : Addr) (cs : List V) (us : List Value) (b : Bool), xs = [.ref a, .ref tp] ∧ H a = some (ExcO a (.ref D) none) ∧ H tp = some (.tup cs) ∧
  Paired ClsV cs us ∧ PySem.W.kitAny K (.ref D) us = some b ∧ Q (.bl b) H
theorem call_isKT (C : ExcC X.K D) : CallR X (.builtin "isinstance") (rIsKT X.K D) := by
  intro pins s σ H xs us Q I r h
  obtain ⟨a, tp, cs, ws, b, rfl, ha, hT, k, e, q⟩ := h
  obtain ⟨u1, u2, rfl, r1, r2⟩ := vals2 r
  obtain rfl : u2 = Value.ref tp := r2
  obtain rfl : u1 = Value.ref a := r1
  obtain ⟨oe, J⟩ := kept_inst I ha
  obtain ⟨_, its, rv, o, h1, h2, n, h3⟩ := (show ObjOk X.prog X.w H s.heap tp (.tup cs) from I.hok tp _ hT)
  obtain rfl := ClsV.all k rv
  obtain ⟨oc, od, dt, sl⟩ := o
  dsimp only at h2 h3
  subst h2 h3
  exact PySem.W.kia_tup (PySem.W.handS_kitx_exc C.hg C.hk C.hs C.hd C.ha C.hn C.ht C.hm) I.kIn J h1 e (fun z => nomatch z) fun tk => ⟨.bl b, H, I.tok tk, rfl, q⟩
end
end Ck
set_option maxRecDepth 100000
set_option maxHeartbeats 4000000
namespace Ck
open PySem PySem.Spec PyProof.Rows L2
/-! ### enumerate(t), t a tuple -/
theorem enum1_new {v : Value} {o : Obj} {H : Heap → Prop} (B : Begins v o H) :
    Meets (Builtin.«enumerate.__new__» ⟨[.type "enumerate", v], []⟩) (fun _ R s => H s.heap ∧
      R (.ok (.ret (.ref (s.heap.push o).objs.size))) { s with heap := (s.heap.push o).push { cls := .type "enumerate", data := .fields #[.none, .bool false, .ref s.heap.objs.size, rawInt 0, .none, .none] } }) :=
  .of_wp fun prog w A R s h => by
    obtain ⟨hp, g, d, tk, os⟩ := s
    obtain ⟨h1, h⟩ := h
    have hsub := sub_enumerate
    have it1 : ∀ {A' : Around} {E : Value → Shared → Prop} {Q : Value → Shared → Prop}, Q (.ref hp.objs.size) ⟨hp.push o, g, d, tk, os⟩ → wpAny (model prog w) A' (pyIter v) Q E ⟨hp, g, d, tk, os⟩ :=
      fun q => B.iter prog w _ _ ⟨hp, g, d, tk, os⟩ _ h1 q
    wp_walk using it1
    refine wpAny_stack_any fun st => wpAny_pure ?_
    split
    · rename_i c _ _ _ _ _
      cases (c == Value.type "enumerate") <;> (wp_walk using it1; exact ⟨_, rfl, h⟩)
    · wp_walk using it1
      exact ⟨_, rfl, h⟩
theorem enum1_begins {prog : Program} {w : World} {A : Around} {E : Value → Shared → Prop} {s : Shared} {v : Value} {o : Obj} {H : Heap → Prop} {Q : Value → Shared → Prop} (B : Begins v o H) (h1 : H s.heap)
    (h : ∀ h', IsEnum h' (s.heap.objs.size + 1) s.heap.objs.size 0 .none → h'.get? s.heap.objs.size = some o → h'.objs.size = s.heap.objs.size + 2 →
      (∀ b u, s.heap.get? b = some u → h'.get? b = some u) → Q (.ref (s.heap.objs.size + 1)) { s with heap := h' }) :
    wpAny (model prog w) A (call (.type "enumerate") [v]) Q E s := by
  refine callType_new F.called_enumerate (by decide) (F.typeCall_enumerate_1 _) (F.newCall_enumerate_1 _) (fun obj => F.args_object_init_2 obj _) F.entry_enumerate_new (enum1_new B) ⟨h1, ?_⟩
  have hz : (s.heap.push o).objs.size = s.heap.objs.size + 1 := Heap.size_push ..
  show _ ∧ _
  rw [hz]
  have he : IsEnum ((s.heap.push o).push { cls := .type "enumerate", data := .fields #[.none, .bool false, .ref s.heap.objs.size, rawInt 0, .none, .none] }) (s.heap.objs.size + 1) s.heap.objs.size 0 .none := by
    have z := Heap.get?_push_size (s.heap.push o) (o := { cls := .type "enumerate", data := .fields #[.none, .bool false, .ref s.heap.objs.size, rawInt 0, .none, .none] }) rfl
    rw [hz] at z
    exact z
  exact ⟨⟨_, he, rfl⟩, h _ he (Heap.get?_push_of_some _ (Heap.get?_push_size _ B.free)) (by rw [Heap.size_push, hz]) fun b u x => Heap.get?_push_of_some _ (Heap.get?_push_of_some _ x)⟩

def ItT (K : PySem.W.Frag) (a : Addr) : It :=
  ⟨fun i H => ∃ (xs : List V) (x : V), SqT K H a xs ∧ xs[i]? = some x,
    fun i H v H' => ∃ T x, v = .ref T ∧ H T = none ∧ H' = upd H T (.tup [.int (i : Nat), x]) ∧ ∀ xs, SqT K H a xs → xs[i]? = some x,
    fun i H => ∃ xs : List V, SqT K H a xs ∧ xs.length = i⟩
theorem turn_enumT {P : Program} {w : World} {K : PySem.W.Frag} {elts : List Expr} {kk : Nat} {tpos : Pos} (a e it : Addr) (hei : e ≠ it) (hae : a ≠ e) (hai : a ≠ it) :
    Turn P w K (.Tuple elts kk tpos) (ItT K a) [e, it] e (fun i h => (∃ old, IsEnum h e it ((i : Nat) : Int) old) ∧ h.IsTupleIter it a i) where
  mem := List.mem_cons_self
  obj := fun i h st b hb => by
    obtain ⟨⟨old, he⟩, ⟨o, ho, _, hd⟩⟩ := st
    rcases List.mem_cons.mp hb with z | z
    · rw [z]
      exact ⟨_, he, fun v q => by cases q⟩
    · rw [List.mem_singleton.mp z]
      exact ⟨o, ho, fun v q => by rw [hd] at q; cases q⟩
  keep := fun i h h' st k => let ⟨⟨old, he⟩, hi⟩ := st; ⟨⟨old, k e (by simp) _ he⟩, hi.at fun o q => k it (by simp) o q⟩
  item := by
    intro X hP hw hK hc i pins s σ H E I hf st hg
    subst hP hw hK
    obtain ⟨⟨old, he⟩, hit⟩ := st
    obtain ⟨xs, x, hq, hx⟩ := hg
    obtain ⟨its, rv, p, hz⟩ := I.tuple hq
    obtain ⟨u, hu, ru⟩ := rv.get hx
    have hel : e < s.heap.objs.size := Heap.lt_size he
    have hil : it < s.heap.objs.size := by obtain ⟨_, q, _⟩ := hit; exact Heap.lt_size q
    have W := WalksT.enumerateD (prog := X.prog) (w := X.w) (A := X.A) (Draws.tuple (A := X.A.in1) (I.ok.hd hc) it a hai its.toArray) e hei (by simp [hei, hae.symm]) (by simp)
    have hilt : i < its.toArray.size := by
      have := (List.getElem?_eq_some_iff.mp hu).1
      simpa using this
    refine W.item i s _ _ hilt ⟨⟨old, he⟩, hit, p⟩ fun T vals h' tk hPt hT hTt hmid hk => ⟨_, rfl, ?_⟩
    refine W.go elts kk tpos i T { s with heap := h', toks := tk } _ _ hmid fun h'' hst'' hk'' => ?_
    obtain ⟨t0, x0, hx0, rfl⟩ := hPt
    have ex : x0 = u := by
      have z : its[i]? = some x0 := by simpa using hx0
      rw [hu] at z
      exact (Option.some.inj z).symm
    subst ex
    have T_out : T ∉ [e, it] := W.apart i T h' hmid
    have hT2 : h''.IsTuple T #[.int i t0, x0] := hTt.at fun o q => hk'' T o T_out q
    have new : ObjOk X.prog X.w (upd H T (.tup [.int (i : Nat), x])) h'' T (.tup [.int (i : Nat), x]) :=
      ⟨by show 2 ≤ sizeLine; decide, [.int i t0, x0], .cons ⟨_, rfl⟩ (.cons ru .nil), hT2⟩
    have I1 : Inv X pins σ (upd H T (.tup [.int (i : Nat), x])) { s with heap := h'', toks := tk } :=
      I.turnedNew (ch := [e, it]) (fun b ob hb q => hk'' b ob hb (hk b ob hb q)) hf hT new
    refine ⟨.ref T, _, I1, rfl, ⟨T, x, rfl, I.hok.fresh hT, rfl, fun ys hy => by rw [I.tuple_inj hy hq]; exact hx⟩, ⟨hst''.1, hst''.2.1⟩, fun b hb => ?_⟩
    have nb : b ≠ T := fun z => T_out (by rw [← z]; exact hb)
    rw [upd_ne nb]
    exact (hf b hb).1
  done := by
    intro X hP hw hK hc i pins s σ H E I hf st hg
    subst hP hw hK
    obtain ⟨⟨old, he⟩, hit⟩ := st
    obtain ⟨xs, hq, hx⟩ := hg
    obtain ⟨its, rv, p, hz⟩ := I.tuple hq
    have W := WalksT.enumerateD (prog := X.prog) (w := X.w) (A := X.A) (Draws.tuple (A := X.A.in1) (I.ok.hd hc) it a hai its.toArray) e hei (by simp [hei, hae.symm]) (by simp)
    have hin : i = its.toArray.size := by
      have := rv.length
      simp only [List.size_toArray]
      omega
    subst hin
    refine W.done s _ _ ⟨⟨old, he⟩, hit, p⟩ fun h' tk hk => ⟨rfl, ?_⟩
    exact I.turnedL (t' := tk) hk hf
  self := fun A i s Q E st h => let ⟨⟨_, he⟩, _⟩ := st; wpAny_pyIter_enum he h
def iEnumT (K : PySem.W.Frag) (ta : TA) : TI := fun σ H R => ta σ H fun vs H1 => ∃ a xs, vs = [.ref a] ∧ SqT K H1 a xs ∧ R (ItT K a) H1
theorem pi_enumT {X : Cx} {e : Expr} {ta : TA} {p pos tpos : Pos} {elts : List Expr} {kk : Nat} (hg : Gl X "enumerate") (hm : X.mg "enumerate" = none) (ha : PA X [e] ta) (hs : starEach [e] X.env = [(false, eval e X.env)] := by rfl) :
    PI X (.Tuple elts kk tpos) (.Call (.Name "enumerate" p) [e] [] pos) (iEnumT X.K ta) := by
  refine ⟨fun pins s σ H R I h => Call_ (ld_blt I hg hm boot_enumerate (PyProof.Rows.callWith_type1 (thn (ha.run pos pins s σ H _ I h) fun us s1 ⟨vs, H1, I1, r1, q1⟩ => ?_) hs rfl))⟩
  obtain ⟨a, xs, rfl, hq, q⟩ := q1
  obtain ⟨u, rfl, ru⟩ := vals1 r1
  obtain rfl : u = Value.ref a := ru
  obtain ⟨its, rv, tp, hz⟩ := I1.tuple hq
  refine enum1_begins (begins_tuple a its.toArray) tp fun h' he hit hsz hk => wpAny_pyIter_enum he ?_
  have al : a < s1.heap.objs.size := tp.lt
  have n1 : s1.heap.objs.size + 1 ≠ s1.heap.objs.size := Nat.succ_ne_self _
  refine ⟨s1.heap.objs.size + 1, [s1.heap.objs.size + 1, s1.heap.objs.size], _, _, H1, rfl, I1.kept (t' := s1.toks) hk, turn_enumT a (s1.heap.objs.size + 1) s1.heap.objs.size n1 (Nat.ne_of_lt (Nat.lt_succ_of_lt al)) (Nat.ne_of_lt al), ⟨⟨.none, he⟩, ⟨_, hit, rfl, rfl⟩⟩, fun b hb => ?_, q⟩
  have hle : s1.heap.objs.size ≤ b := by
    rcases List.mem_cons.mp hb with z | z
    · rw [z]
      exact Nat.le_succ _
    · rw [List.mem_singleton.mp z]
      exact Nat.le_refl _
  exact I1.fpOk hle (I1.hok.fresh hle)
theorem walk_enumT {K : PySem.W.Frag} {a : Addr} {xs : List V} : Walk (ItT K a) xs.length (fun H => SqT K H a xs) (YPair (fun i => some (.int (i : Nat))) (fun i => xs[i]?)) where
  goes := fun i H hi h => ⟨xs, xs[i], h, List.getElem?_eq_getElem hi⟩
  stops := fun H h => ⟨xs, h, rfl⟩
  yields := fun i H x H' hi h y => by
    obtain ⟨T, v, e1, e2, e3, e4⟩ := y
    exact ⟨T, _, v, e1, e2, e3, rfl, e4 xs h⟩
end Ck
namespace Ck
open PySem
/-! ### products of rows, as both sides reckon them -/
def mixAt (f : Int → Int → Int) (L : List Int) (k : Nat) : List Int → List Int
  | [] => L
  | y :: ys => mixAt f (L.set k (f (L.getD k 0) y)) (k + 1) ys
def prodAt (f : Int → Int → Int) (ys : List Int) (L : List Int) (k : Nat) : List Int → List Int
  | [] => L
  | x :: xs => prodAt f ys (if x = 1 then mixAt f L k ys else L) (k + 1) xs
def prodRow (f : Int → Int → Int) (xs ys : List Int) : List Int :=
  if xs = [] ∨ ys = [] then [] else prodAt f ys (List.replicate (xs.length + ys.length - 1) 0) 0 xs
theorem mixAt_len (f : Int → Int → Int) : ∀ (ys L : List Int) (k : Nat), (mixAt f L k ys).length = L.length
  | [], _, _ => rfl
  | y :: ys, L, k => by
    show (mixAt f _ (k + 1) ys).length = _
    rw [mixAt_len f ys, List.length_set]
theorem prodAt_len (f : Int → Int → Int) (ys : List Int) : ∀ (xs L : List Int) (k : Nat), (prodAt f ys L k xs).length = L.length
  | [], _, _ => rfl
  | x :: xs, L, k => by
    show (prodAt f ys _ (k + 1) xs).length = _
    rw [prodAt_len f ys xs]
    split
    · exact mixAt_len f ys L k
    · rfl
theorem mixAt_snoc (f : Int → Int → Int) (y : Int) : ∀ (ys L : List Int) (k : Nat),
    mixAt f L k (ys ++ [y]) = (mixAt f L k ys).set (k + ys.length) (f ((mixAt f L k ys).getD (k + ys.length) 0) y)
  | [], L, k => rfl
  | z :: ys, L, k => by
    show mixAt f _ (k + 1) (ys ++ [y]) = _
    rw [mixAt_snoc f y ys]
    show _ = (mixAt f _ (k + 1) ys).set (k + (ys.length + 1)) (f ((mixAt f _ (k + 1) ys).getD (k + (ys.length + 1)) 0) y)
    rw [show k + (ys.length + 1) = k + 1 + ys.length by omega]
theorem prodAt_snoc (f : Int → Int → Int) (ys : List Int) (x : Int) : ∀ (xs L : List Int) (k : Nat),
    prodAt f ys L k (xs ++ [x]) = (if x = 1 then mixAt f (prodAt f ys L k xs) (k + xs.length) ys else prodAt f ys L k xs)
  | [], L, k => rfl
  | z :: xs, L, k => by
    show prodAt f ys _ (k + 1) (xs ++ [x]) = _
    rw [prodAt_snoc f ys x xs]
    show _ = (if x = 1 then mixAt f (prodAt f ys _ (k + 1) xs) (k + (xs.length + 1)) ys else prodAt f ys _ (k + 1) xs)
    rw [show k + (xs.length + 1) = k + 1 + xs.length by omega]
theorem take_snoc {l : List Int} {i : Nat} {z : Int} (h : l[i]? = some z) : l.take (i + 1) = l.take i ++ [z] ∧ (l.take i).length = i := by
  obtain ⟨hi, e⟩ := List.getElem?_eq_some_iff.mp h
  refine ⟨?_, by rw [List.length_take]; omega⟩
  rw [List.take_add_one, h]
  rfl
theorem mix_step (f : Int → Int → Int) {ys : List Int} {i : Nat} {y : Int} (h : ys[i]? = some y) (L : List Int) (k : Nat) :
    mixAt f L k (ys.take (i + 1)) = (mixAt f L k (ys.take i)).set (k + i) (f ((mixAt f L k (ys.take i)).getD (k + i) 0) y) := by
  obtain ⟨e1, e2⟩ := take_snoc h
  rw [e1, mixAt_snoc, e2]
theorem prod_step (f : Int → Int → Int) (ys : List Int) {xs : List Int} {i : Nat} {x : Int} (h : xs[i]? = some x) (L : List Int) :
    prodAt f ys L 0 (xs.take (i + 1)) = (if x = 1 then mixAt f (prodAt f ys L 0 (xs.take i)) i ys else prodAt f ys L 0 (xs.take i)) := by
  obtain ⟨e1, e2⟩ := take_snoc h
  rw [e1, prodAt_snoc, e2, Nat.zero_add]
/-- bits alone -/
def Bits (xs : List Int) : Prop := ∀ x ∈ xs, x = 0 ∨ x = 1
theorem Bits.get {xs : List Int} (h : Bits xs) (k : Nat) : xs.getD k 0 = 0 ∨ xs.getD k 0 = 1 := by
  by_cases hk : k < xs.length
  · have e : xs.getD k 0 = xs[k] := by simp [List.getD, List.getElem?_eq_getElem hk]
    rw [e]
    exact h _ (List.getElem_mem hk)
  · have e : xs.getD k 0 = 0 := by simp [List.getD, List.getElem?_eq_none (Nat.le_of_not_lt hk)]
    exact .inl e
theorem Bits.set {xs : List Int} (h : Bits xs) (k : Nat) {v : Int} (hv : v = 0 ∨ v = 1) : Bits (xs.set k v) := fun x hx => by
  rcases List.mem_or_eq_of_mem_set hx with z | z
  · exact h x z
  · rw [z]
    exact hv
/-- two ways to add bits are one -/
structure Same2 (f g : Int → Int → Int) : Prop where
  eq : ∀ a b, (a = 0 ∨ a = 1) → (b = 0 ∨ b = 1) → f a b = g a b
  bit : ∀ a b, (a = 0 ∨ a = 1) → (b = 0 ∨ b = 1) → f a b = 0 ∨ f a b = 1
theorem mix_same {f g : Int → Int → Int} (S : Same2 f g) : ∀ (ys L : List Int) (k : Nat), Bits ys → Bits L → mixAt f L k ys = mixAt g L k ys ∧ Bits (mixAt f L k ys)
  | [], L, k, _, hL => ⟨rfl, hL⟩
  | y :: ys, L, k, hy, hL => by
    have b1 := hL.get k
    have b2 := hy y List.mem_cons_self
    have e := S.eq _ _ b1 b2
    have hL' : Bits (L.set k (f (L.getD k 0) y)) := hL.set k (S.bit _ _ b1 b2)
    show mixAt f (L.set k (f (L.getD k 0) y)) (k + 1) ys = mixAt g (L.set k (g (L.getD k 0) y)) (k + 1) ys ∧ Bits (mixAt f (L.set k (f (L.getD k 0) y)) (k + 1) ys)
    rw [← e]
    exact mix_same S ys _ (k + 1) (fun x hx => hy x (List.mem_cons_of_mem _ hx)) hL'
theorem prodAt_same {f g : Int → Int → Int} (S : Same2 f g) {ys : List Int} (hy : Bits ys) : ∀ (xs L : List Int) (k : Nat), Bits L → prodAt f ys L k xs = prodAt g ys L k xs ∧ Bits (prodAt f ys L k xs)
  | [], L, k, hL => ⟨rfl, hL⟩
  | x :: xs, L, k, hL => by
    obtain ⟨e, b⟩ := mix_same S ys L k hy hL
    show prodAt f ys (if x = 1 then mixAt f L k ys else L) (k + 1) xs = prodAt g ys (if x = 1 then mixAt g L k ys else L) (k + 1) xs ∧ Bits (prodAt f ys (if x = 1 then mixAt f L k ys else L) (k + 1) xs)
    rw [← e]
    refine prodAt_same S hy xs _ (k + 1) ?_
    split
    · exact b
    · exact hL
theorem bits_nought (n : Nat) : Bits (List.replicate n 0) := fun x hx => .inl (List.eq_of_mem_replicate hx)
theorem prodRow_same {f g : Int → Int → Int} (S : Same2 f g) {xs ys : List Int} (hy : Bits ys) : prodRow f xs ys = prodRow g xs ys ∧ Bits (prodRow f xs ys) := by
  unfold prodRow
  split
  · exact ⟨rfl, fun x hx => by cases hx⟩
  · exact prodAt_same S hy xs _ 0 (bits_nought _)
theorem prodRow_len (f : Int → Int → Int) (xs ys : List Int) : (prodRow f xs ys).length ≤ xs.length + ys.length := by
  unfold prodRow
  split
  · exact Nat.zero_le _
  · rw [prodAt_len, List.length_replicate]
    omega
def fXor (a b : Int) : Int := Builtin.bitXor a b
def fMod (a b : Int) : Int := (a + b) % 2
def fNe (a b : Int) : Int := if a = b then 0 else 1
theorem xor_mod : Same2 fXor fMod where
  eq := by
    intro a b ha hb
    rcases ha with rfl | rfl <;> rcases hb with rfl | rfl <;> decide
  bit := by
    intro a b ha hb
    rcases ha with rfl | rfl <;> rcases hb with rfl | rfl <;> decide
theorem xor_ne : Same2 fXor fNe where
  eq := by
    intro a b ha hb
    rcases ha with rfl | rfl <;> rcases hb with rfl | rfl <;> decide
  bit := xor_mod.bit
theorem zip_same {f g : Int → Int → Int} (S : Same2 f g) : ∀ (xs ys : List Int), Bits xs → Bits ys → List.zipWith f xs ys = List.zipWith g xs ys ∧ Bits (List.zipWith f xs ys)
  | [], _, _, _ => ⟨rfl, fun x hx => by cases hx⟩
  | _ :: _, [], _, _ => ⟨rfl, fun x hx => by cases hx⟩
  | x :: xs, y :: ys, hx, hy => by
    obtain ⟨e, b⟩ := zip_same S xs ys (fun z hz => hx z (List.mem_cons_of_mem _ hz)) fun z hz => hy z (List.mem_cons_of_mem _ hz)
    have b1 := hx x List.mem_cons_self
    have b2 := hy y List.mem_cons_self
    refine ⟨by rw [List.zipWith_cons_cons, List.zipWith_cons_cons, e, S.eq _ _ b1 b2], fun z hz => ?_⟩
    rw [List.zipWith_cons_cons] at hz
    rcases List.mem_cons.mp hz with q | q
    · rw [q]
      exact S.bit _ _ b1 b2
    · exact b z q
end Ck
set_option maxRecDepth 100000
set_option maxHeartbeats 4000000
namespace Ck
open PySem PySem.Spec PyProof.Rows L2
theorem small {n : Nat} (h : n ≤ 100000) : n ≤ sizeLine := Nat.le_trans h (by decide)
section
variable {K : PySem.W.Frag}
theorem same_upd {H : Hp} {p : Addr} {o : HO} (h : H p = none) : Same H (upd H p o) := fun b x e => by
  rw [upd_ne (ne_of_none e h)]
  exact e
theorem Same.tup {H H' : Hp} {a : Addr} {xs : List V} (e : Same H H') (h : SqT K H a xs) : SqT K H' a xs := by
  rcases h with (h | ⟨o, h⟩) | h
  · exact .inl (.inl (e _ _ h))
  · exact .inl (.inr ⟨o, e _ _ h⟩)
  · exact .inr h
theorem dpInts {H : Hp} : ∀ xs : List Int, DpAll K H (xs.map V.int) (xs.map PyData.int)
  | [] => .nil
  | x :: xs => .cons (.int x) (dpInts xs)
theorem dpRow {H : Hp} {a : Addr} {xs : List Int} (h : SqT K H a (xs.map V.int)) : Dp K H (.ref a) (.tuple (xs.map PyData.int)) := .tup h (dpInts xs)
theorem dpNil {H : Hp} {a : Addr} (h : SqT K H a []) : Dp K H (.ref a) (.tuple []) := .tup h .nil
theorem canLay_ints : ∀ xs : List Int, PyData.canLayAll0 (xs.map PyData.int) = true
  | [] => by simp [PyData.canLayAll0]
  | x :: xs => by
    rw [List.map_cons]
    simp only [PyData.canLayAll0, PyData.canLay0, canLay_ints xs, Bool.and_self, Bool.true_and]
theorem depth_ints : ∀ xs : List Int, PyData.depthAll (xs.map PyData.int) = 0
  | [] => by simp [PyData.depthAll]
  | x :: xs => by
    rw [List.map_cons]
    simp only [PyData.depthAll, PyData.depth, depth_ints xs, Nat.max_self]
theorem shaped_row (xs : List Int) : SeqAt.shaped (.tuple (xs.map PyData.int)) = true := by
  unfold SeqAt.shaped
  simp only [PyData.canLay0, canLay_ints, PyData.depth, depth_ints]
  decide
theorem eqv_nil (xs : List Int) : PyData.eqv (.tuple (xs.map PyData.int)) (.tuple []) = decide (xs = []) := by
  cases xs with
  | nil => simp [PyData.eqv, PyData.eqvAll]
  | cons x xs => simp [PyData.eqv, PyData.eqvAll]
/-! how rows are shown -/
theorem showable_bits : ∀ xs : List Int, Bits xs → PyData.showableAll (xs.map PyData.int) = true
  | [], _ => by simp [PyData.showableAll]
  | x :: xs, h => by
    rw [List.map_cons]
    have hx := h x List.mem_cons_self
    have e : PyData.showable (.int x) = true := by
      rcases hx with z | z <;> rw [z] <;> decide
    simp only [PyData.showableAll, e, showable_bits xs (fun y hy => h y (List.mem_cons_of_mem _ hy)), Bool.and_self]
theorem noDict_ints : ∀ xs : List Int, PyData.hasDictAll (xs.map PyData.int) = false
  | [] => by simp [PyData.hasDictAll]
  | x :: xs => by
    rw [List.map_cons]
    simp only [PyData.hasDictAll, PyData.hasDict, noDict_ints xs, Bool.or_self]
theorem shown_bits : ∀ xs : List Int, Bits xs → ((PyData.shownAll (xs.map PyData.int)).map (·.length)).sum = xs.length ∧ (PyData.shownAll (xs.map PyData.int)).length = xs.length
  | [], _ => by simp [PyData.shownAll]
  | x :: xs, h => by
    rw [List.map_cons]
    obtain ⟨e1, e2⟩ := shown_bits xs fun y hy => h y (List.mem_cons_of_mem _ hy)
    have e : (PyData.shown (.int x)).length = 1 := by
      rcases h x List.mem_cons_self with z | z <;> rw [z] <;> decide
    simp only [PyData.shownAll, List.map_cons, List.sum_cons, List.length_cons, e, e1, e2]
    exact ⟨by omega, trivial⟩
theorem row_len {xs : List Int} (h : Bits xs) : (PyData.shown (.tuple (xs.map PyData.int))).length ≤ 3 * xs.length + 3 := by
  have h1 := tupleText_len_le (PyData.shownAll (xs.map PyData.int))
  obtain ⟨e1, e2⟩ := shown_bits xs h
  simp only [PyData.shown]
  omega
theorem showRow {xs : List Int} (h : Bits xs) (hl : xs.length ≤ 10000) : ShowOk (.tuple (xs.map PyData.int)) where
  sh := by simp only [PyData.showable, showable_bits xs h]
  nd := by simp only [PyData.hasDict, noDict_ints]
  dp := by simp only [PyData.depth, depth_ints]; omega
  sz := small (by have := row_len h; omega)
theorem showTwo {xs ys : List Int} (hx : Bits xs) (hy : Bits ys) (lx : xs.length ≤ 10000) (ly : ys.length ≤ 10000) : ShowOk (.list [.tuple (xs.map PyData.int), .tuple (ys.map PyData.int)]) where
  sh := by simp only [PyData.showable, PyData.showableAll, showable_bits xs hx, showable_bits ys hy, Bool.and_self]
  nd := by simp only [PyData.hasDict, PyData.hasDictAll, noDict_ints, Bool.or_self]
  dp := by simp only [PyData.depth, PyData.depthAll, depth_ints]; decide
  sz := by
    have h1 := row_len hx
    have h2 := row_len hy
    have h3 := listText_len_le [PyData.shown (.tuple (xs.map PyData.int)), PyData.shown (.tuple (ys.map PyData.int))]
    simp only [List.map_cons, List.map_nil, List.sum_cons, List.sum_nil, List.length_cons, List.length_nil] at h3
    refine small ?_
    show (listText [PyData.shown (.tuple (xs.map PyData.int)), PyData.shown (.tuple (ys.map PyData.int))]).length ≤ 100000
    omega
theorem repl_zero (n : Nat) : (List.replicate n [V.int 0]).flatten = (List.replicate n (0 : Int)).map V.int := by
  induction n with
  | zero => rfl
  | succ n ih =>
    rw [List.replicate_succ, List.replicate_succ, List.flatten_cons, ih]
    rfl
theorem at_int {l : List Int} {z : Int} {k : Nat} (e : z = (k : Int)) (h : k < l.length) : atI (l.map V.int) z = some (.int (l.getD k 0)) := by
  refine at_of e ?_
  rw [List.getElem?_map, List.getElem?_eq_getElem h]
  simp [List.getD, List.getElem?_eq_getElem h]
theorem ix_int {l : List Int} {z : Int} {k : Nat} (e : z = (k : Int)) (h : k < l.length) : ixN (l.map V.int).length z = some k := by
  unfold ixN
  rw [List.length_map, if_pos (by omega), if_pos (by omega), e]
  rfl
theorem set_int (l : List Int) (k : Nat) (v : Int) : (l.map V.int).set k (.int v) = (l.set k v).map V.int := by
  rw [List.map_set]
end
end Ck
set_option maxRecDepth 100000
set_option maxHeartbeats 4000000
namespace Ck
open PySem PySem.Spec PyProof.Rows L2
/-! ### t * k, k from 0 on -/
theorem tuple_mul1 (l : Addr) (items : Array Value) (n : Nat) (dd : Option Addr) (sl : Array (Option Value)) (u : Tok) :
    Meets (Builtin.«tuple.__mul__» ⟨[.ref l, .int 1 u], []⟩) (fun _ R s => s.heap.get? l = some { cls := .type "tuple", dict := dd, data := .seq items n, slots := sl } ∧ R (.ok (.ret (Value.ref l))) s) :=
  .of_wp fun prog w A R s h => by
    obtain ⟨hp, g, d, tk, os⟩ := s
    obtain ⟨hl, h⟩ := h
    have f1 := AutoSeq1.idx_int
    wp_walk using wpAny_loadPart' hl
    have c1 : (items.isEmpty || (1 : Int) == 1) = true := by simp
    repeat (first
      | (refine wpAny_ite_false (by decide) ?_; wp_walk using wpAny_loadPart' hl)
      | (refine wpAny_ite_true (decide_eq_true c1) ?_; wp_walk using wpAny_loadPart' hl))
    exact ⟨_, rfl, h⟩
theorem tuple_mul0 (l : Addr) (items : Array Value) (n : Nat) (dd : Option Addr) (sl : Array (Option Value)) (u : Tok) (c1 : items.isEmpty = false) :
    Meets (Builtin.«tuple.__mul__» ⟨[.ref l, .int 0 u], []⟩) (fun _ R s => s.heap.get? l = some { cls := .type "tuple", dict := dd, data := .seq items n, slots := sl } ∧
      R (.ok (.ret (Value.ref s.heap.objs.size))) { s with heap := s.heap.push { cls := Value.type "tuple", data := Data.seq #[] }, toks := s.toks }) :=
  .of_wp fun prog w A R s h => by
    obtain ⟨hp, g, d, tk, os⟩ := s
    obtain ⟨hl, h⟩ := h
    have f1 := AutoSeq1.idx_int
    wp_walk using wpAny_loadPart' hl
    have c2 : (items.isEmpty || (0 : Int) == 1) = false := by rw [c1]; rfl
    repeat (first
      | (refine wpAny_ite_false (decide_eq_false (by rw [c2]; exact Bool.false_ne_true)) ?_; wp_walk using wpAny_loadPart' hl)
      | (refine wpAny_ite_true (by decide) ?_; wp_walk using wpAny_loadPart' hl)
      | (refine wpAny_ite_false (by decide) ?_; wp_walk using wpAny_loadPart' hl))
    exact ⟨_, rfl, h⟩
def rRepA (K : PySem.W.Frag) : R2 := fun x y H Q => ∃ l k xs, x = .ref l ∧ y = .int k ∧ SqT K H l xs ∧ xs ≠ [] ∧ 0 ≤ k ∧ k ≤ 1000 ∧ xs.length ≤ 1000 ∧
  ∀ H' p, Same H H' → SqT K H' p (List.replicate k.toNat xs).flatten → Q (.ref p) H'
theorem op_repA {X : Cx} : OpR X (binaryOp .Mult) (rRepA X.K) := by
  intro pins s σ H x y v u Q I rx ry h
  obtain ⟨l, k, xs, rfl, rfl, hT, hne, k0, k1, hz, q⟩ := h
  by_cases h2 : 2 ≤ k
  · exact op_repT pins s σ H _ _ v u Q I rx ry ⟨l, k, xs, rfl, rfl, hT, hne, h2, k1, hz, fun p np => q _ p (same_upd np) (.inl (.inl upd_same))⟩
  cases rx
  obtain ⟨t, rfl⟩ := ry
  obtain ⟨its, r, ⟨⟨cls, dd, data, sl⟩, ho, hc, n, hd⟩, hs⟩ := I.tuple hT
  simp only at hc hd
  subst hc hd
  have hle : its.length = xs.length := r.length.symm
  have hi : its.toArray.isEmpty = false := by
    cases its with
    | nil => exact absurd (List.eq_nil_of_length_eq_zero hle.symm) hne
    | cons a b => rfl
  by_cases e1 : k = 1
  · subst e1
    refine wpAny_binaryOp_repeat_ref (T := "tuple") (U := "int") (by decide) ⟨_, ho, rfl⟩ (fun s' => typeIs_int s' 1 t) noFill_tuple_mul F.fills_int_mul F.slot_int_rmul repeat_tuple F.slot_int_index.lookup
      (call_meets F.slot_int_rmul (typeIs_int s 1 t) F.entry_int_rmul (F.args_int_rmul_2 _ _) (int_rmul_tuple 1 t l its.toArray n dd sl)
        ⟨ho, rfl, ⟨_, ho, rfl⟩, call_meets F.slot_tuple_mul ⟨_, ho, rfl⟩ F.entry_tuple_mul (F.args_tuple_mul_2 _ _) (tuple_mul1 l its.toArray n dd sl t) ⟨ho, ?_⟩⟩)
    refine ⟨.ref l, H, I, rfl, q H l (Same.refl H) ?_⟩
    show SqT X.K H l (List.replicate 1 xs).flatten
    rw [List.replicate_one, List.flatten_singleton]
    exact hT
  · obtain rfl : k = 0 := by omega
    refine wpAny_binaryOp_repeat_ref (T := "tuple") (U := "int") (by decide) ⟨_, ho, rfl⟩ (fun s' => typeIs_int s' 0 t) noFill_tuple_mul F.fills_int_mul F.slot_int_rmul repeat_tuple F.slot_int_index.lookup
      (call_meets F.slot_int_rmul (typeIs_int s 0 t) F.entry_int_rmul (F.args_int_rmul_2 _ _) (int_rmul_tuple 0 t l its.toArray n dd sl)
        ⟨ho, rfl, ⟨_, ho, rfl⟩, call_meets F.slot_tuple_mul ⟨_, ho, rfl⟩ F.entry_tuple_mul (F.args_tuple_mul_2 _ _) (tuple_mul0 l its.toArray n dd sl t hi) ⟨ho, ?_⟩⟩)
    refine ⟨.ref s.heap.objs.size, _, I.laid (t' := s.toks) (o := .tup []) (fun b ob e => Heap.get?_push_of_some _ e) (Nat.le_refl _) ?_, rfl, q _ _ (same_upd (I.hok.fresh (Nat.le_refl _))) (.inl (.inl upd_same))⟩
    exact ⟨Nat.zero_le _, [], .nil, IsTup.new _ _⟩
end Ck
set_option maxRecDepth 100000
set_option maxHeartbeats 4000000
namespace Ck
open PySem PySem.Spec PyProof.Rows L2
/-- walk_ofG, with the empty tables of the defs named -/
theorem walk_ofG2 {l : PySem.W.OpenLaw} {n k : Nat} {q : Program} {loose : List Str} {XP : (Str → Option Value) → Heap → Prop} {YP : World → Heap → Prop} {d : DefRec} {K : Params → PySem.W.Frag} {CX : World → CXT} {x : Str} (names : List Str)
    (hn : l.most = some n) (hn2 : n ≤ sizeLine) (hdf : d.params.defaults = []) (hr : Room k callerA) (hrec : (names.all fun y => (recsOf q).any fun e => e.name == y) = true) (hY : ∀ (w : World) (h : Heap), YP w h → (K w.params).In h)
    (F : ∀ (w : World) (mg : Str → Option Value) (fa : Addr) (h : Heap), (K w.params).In h → h.Ns mainGlobals mg → mg d.name = some (.ref fa) → (∀ y ∈ names, ∀ f, mg y = some (.ref f) → LamX.OwnTab (K w.params) f h) →
      LawG l w (K w.params) (CX w) k n x mg fa h)
    (hCX : ∀ (w : World) (H : Hp) (s : Shared) (e : Value) (s' : Shared), CX w [] H s (fun _ _ _ => False) e s' → False) :
    PySem.W.WalkO q loose XP YP l.row.toRowW d [] (fun f vs => PySem.call f vs) := by
  refine Att.attach_callB hn hdf fun w s₀ s₁ mg mb fa o pm cd doc a vs ns G Y ho hd hcd hmg hobj hints hlen _ hg => ?_
  have kx := hY w _ Y
  have own : ∀ y ∈ names, ∀ f, mg y = some (.ref f) → LamX.OwnTab (K w.params) f s₁.heap := fun y hy f hf c P o1 fd1 e dd us sl k1 k2 k3 k4 k5 => by
    obtain ⟨dy, hm, hname⟩ := List.any_eq_true.mp (List.all_eq_true.mp hrec y hy)
    obtain ⟨a', o', fd', c', P', g1, g2, g3, g4, _, ⟨⟨oc, uc, e1, _, e3, e4⟩, hP⟩⟩ := G.T.tab dy hm
    rw [beq_iff_eq.mp hname, hf] at g1
    cases g1
    rw [kx _ _ k1] at g2
    cases g2
    rw [k2] at g3
    cases g3
    rw [k3] at g4
    cases g4
    rw [kx _ _ k4] at e1
    cases e1
    cases e3
    rw [k5] at e4
    cases e4
    exact hP
  obtain ⟨fd, cs, sp, c1, c2, c3, c4, c5, c6⟩ := F w mg fa _ kx G.T.g hmg own
  exact law_callG kx G.T.g G.T.b G.T.builtins G.T.nolimit hg c1 c2 c3 G.T.bmain hobj hints (Nat.le_trans hlen hn2) hr c6 c4 (fun H h1 h2 => c5 H a ns hlen h1 h2) fun H e s' => hCX w H s₁ e s'
end Ck
set_option maxRecDepth 100000
set_option maxHeartbeats 4000000
namespace K02
open PySem PySem.Spec PyProof.Rows L2 Ck
def topS (i : Nat) : Stmt := PySem.Challenge.pw_checkrows_k02_rows_added_and_multiplied.main.body.getD i (.Pass ⟨0, 0, 0, 0⟩)
abbrev sPlus : Stmt := topS 13
abbrev sTimes : Stmt := topS 14
abbrev sPen : Stmt := topS 16
abbrev sDraw : Stmt := topS 17
abbrev sBits : Stmt := topS 18
abbrev sWord : Stmt := topS 19
abbrev sProd : Stmt := topS 20
abbrev sRight : Stmt := topS 21
abbrev sLaw : Stmt := topS 22
theorem scTimes : FnScope ["one", "other", "bits", "at", "bit", "behind", "second"] ["one", "other"] (defScope sTimes) := ⟨rfl, rfl, rfl, by decide +kernel, rfl, by decide +kernel, by decide +kernel⟩
theorem scProd : FnScope ["_law_one", "_law_other", "_law_found", "_law_i", "_law_bit", "_law_j", "_law_more"] ["_law_one", "_law_other"] (defScope sProd) := ⟨rfl, rfl, rfl, by decide +kernel, rfl, by decide +kernel, by decide +kernel⟩
section
variable {P : Program} {w : World} {K : PySem.W.Frag} {mg : Str → Option Value} {base : Heap}
def spTimes (K : PySem.W.Frag) (f : Int → Int → Int) : Sp := fun vs H Q _ => ∃ (a b : Addr) (xs ys : List Int), vs = [.ref a, .ref b] ∧ SqT K H a (xs.map V.int) ∧ SqT K H b (ys.map V.int) ∧ xs.length ≤ 1000 ∧ ys.length ≤ 1000 ∧
  ∀ H' p, Same H H' → SqT K H' p ((prodRow f xs ys).map V.int) → Q (.ref p) H'
theorem ok_times {f : Addr} {fd : FuncData} {k : Nat} (F : Fun K "times_rows" "times_rows" sTimes f fd) (ml : mg "len" = none) (me : mg "enumerate" = none) (mt : mg "tuple" = none) :
    FnOk P w K mg base CX0 (k + 1) f fd ["one", "other"] (spTimes K fXor) := by
  refine F.ok scTimes (fun vs H Q E h => ?_) (fun cdv A outer s H vs Q E hr h => ?_)
  · obtain ⟨a, b, xs, ys, rfl, _⟩ := h
    rfl
  · obtain ⟨a, b, xs, ys, rfl, hx, hy, lx, ly, q⟩ := h
    refine ⟨_, pss_cons (ps_if (PW.pt (pw_or (pt_cmpR (op_eqD hr.units) (pv 0) (pe_tup pa_nil) (nomark _)) (pw_or1 (pt_cmpR (op_eqD hr.units) (pv 1) (pe_tup pa_nil) (nomark _)))))
        (pss_one (ps_ret (pe_tup pa_nil))) pss_nil)
      (pss_cons (ps_set (i := 2) scTimes.nd rfl (.inl rfl) (pe_op op_rep (pe_lst (pa_cons pe_int pa_nil))
        (pe_op op_sub (pe_op op_add (pe_callB call_len_seq (by rfl) ml PySem.boot_len (pa_cons (pv 0) pa_nil)) (pe_callB call_len_seq (by rfl) ml PySem.boot_len (pa_cons (pv 1) pa_nil))) pe_int)))
      (pss_cons (ps_for PassesOwn.never rfl (pi_enumT (by rfl) me (pa_cons (pv 0) pa_nil))
          (pg_tup rfl (pgs_cons (pg_name (i := 3) scTimes.nd rfl (.inl rfl)) (pgs_cons (pg_name (i := 4) scTimes.nd rfl (.inl rfl)) pgs_nil)))
        (pss_one (ps_if (pt_cmpR op_eq (pv 4) pe_int (nomark _))
          (pss_one (ps_for PassesOwn.never rfl (pi_enumT (by rfl) me (pa_cons (pv 1) pa_nil))
              (pg_tup rfl (pgs_cons (pg_name (i := 5) scTimes.nd rfl (.inl rfl)) (pgs_cons (pg_name (i := 6) scTimes.nd rfl (.inl rfl)) pgs_nil)))
            (pss_one (ps_asg (pe_op op_xor (pe_ix ix_list (pv 2) (pe_op op_add (pv 3) (pv 5)) (fun _ _ => rfl)) (pv 6)) (pg_sub (pv 2) (pe_op op_add (pv 3) (pv 5)) set_list)))))
          pss_nil)))
      (pss_one (ps_ret (pe_callTy call_tuple_of (by rfl) mt PyProof.Rows.boot_tuple (pa_cons (pv 2) pa_nil)))))), ?_⟩
    have none_case : ∀ (H1 : Hp), Same H H1 → (xs = [] ∨ ys = []) → ∀ p, H1 p = none → Q (.ref p) (upd H1 p (.tup [])) := fun H1 sm e p np => by
      refine q _ p (sm.trans (same_upd np)) ?_
      unfold prodRow
      rw [if_pos e]
      exact .inl (.inl upd_same)
    -- one == () or other == ()
    refine ⟨.ref a, rfl, Nat.zero_le _, fun p1 n1 => ⟨_, _, dpRow (Same.tup (same_upd n1) hx), dpNil (.inl (.inl upd_same)), shaped_row xs, rfl, _, rfl, ?_⟩⟩
    rw [eqv_nil]
    refine ite2 (fun e => ?_) (fun e1 => ?_)
    · exact iteT ⟨Nat.zero_le _, none_case _ (same_upd n1) (.inl (of_decide_eq_true e))⟩
    refine ⟨.ref b, rfl, Nat.zero_le _, fun p2 n2 => ⟨_, _, dpRow (Same.tup ((same_upd n1).trans (same_upd n2)) hy), dpNil (.inl (.inl upd_same)), shaped_row ys, rfl, _, rfl, ?_⟩⟩
    rw [eqv_nil]
    refine ite2 (fun e => ?_) (fun e2 => ?_)
    · exact ⟨Nat.zero_le _, none_case _ ((same_upd n1).trans (same_upd n2)) (.inr (of_decide_eq_true e))⟩
    have x0 : xs ≠ [] := fun z => e1 (decide_eq_true z)
    have y0 : ys ≠ [] := fun z => e2 (decide_eq_true z)
    have s2 : Same H (upd (upd H p1 (.tup [])) p2 (.tup [])) := (same_upd n1).trans (same_upd n2)
    generalize (upd (upd H p1 (.tup [])) p2 (.tup [])) = H2 at s2
    -- bits = [0] * (len(one) + len(other) - 1)
    refine ⟨by show 1 ≤ sizeLine; decide, fun p3 n3 => ?_⟩
    have s3 : Same H (upd H2 p3 (.lst [.int 0])) := s2.trans (same_upd n3)
    refine ⟨.ref a, rfl, a, _, rfl, .inr (Same.tup s3 hx), .ref b, rfl, b, _, rfl, .inr (Same.tup s3 hy), _, _, rfl, rfl, _, _, rfl, rfl, p3, _, _, rfl, rfl, upd_same, ?_, ?_, ?_, fun L nL => ?_⟩
    · rw [List.length_map, List.length_map]
      have h9 : (2 : Int) ^ 63 = 9223372036854775808 := by decide
      omega
    · rw [List.length_map, List.length_map]
      have h9 : (2 : Int) ^ 63 = 9223372036854775808 := by decide
      omega
    · rw [List.length_map, List.length_map]
      refine small ?_
      show 1 * _ ≤ _
      omega
    have HL : H L = none := s3.free nL
    have s4 : Same H (upd (upd H2 p3 (.lst [.int 0])) L (.lst (List.replicate ((((xs.map V.int).length : Int) + ((ys.map V.int).length : Int) - 1).toNat) [V.int 0]).flatten)) := s3.trans (same_upd nL)
    have gL : (upd (upd H2 p3 (.lst [.int 0])) L (.lst (List.replicate ((((xs.map V.int).length : Int) + ((ys.map V.int).length : Int) - 1).toNat) [V.int 0]).flatten)) L = some (.lst ((List.replicate (xs.length + ys.length - 1) (0 : Int)).map V.int)) := by
      rw [upd_same, repl_zero]
      congr 4
      rw [List.length_map, List.length_map]
      omega
    generalize (upd (upd H2 p3 (.lst [.int 0])) L (.lst (List.replicate ((((xs.map V.int).length : Int) + ((ys.map V.int).length : Int) - 1).toNat) [V.int 0]).flatten)) = H4 at s4 gL
    have len1 : ∀ i, (prodAt fXor ys (List.replicate (xs.length + ys.length - 1) 0) 0 (xs.take i)).length = xs.length + ys.length - 1 := fun i => by rw [prodAt_len, List.length_replicate]
    refine ⟨.ref a, rfl, a, _, rfl, Same.tup s4 hx, for_it (walk_enumT (xs := xs.map V.int))
      (fun i σ H3 => ∃ y3 y4 y5 y6, σ = [some (.ref a), some (.ref b), some (.ref L), y3, y4, y5, y6] ∧ Same H H3 ∧ H3 L = some (.lst ((prodAt fXor ys (List.replicate (xs.length + ys.length - 1) 0) 0 (xs.take i)).map V.int)))
      ⟨none, none, none, none, rfl, s4, gL⟩ (fun i σ H3 _ ⟨_, _, _, _, _, sm, _⟩ => Same.tup sm hx) (fun i v σ H3 H3' hi hP hY => ?_) (fun σ H3 hP => ?_)⟩
    · rw [List.length_map] at hi
      obtain ⟨y3, y4, y5, y6, rfl, sm, eL⟩ := hP
      obtain ⟨T, v1, v2, rfl, nT, rfl, ev1, ev2⟩ := hY
      cases ev1
      have gx : xs[i]? = some xs[i] := List.getElem?_eq_getElem hi
      have ev2 : (xs.map V.int)[i]? = some v2 := ev2
      rw [List.getElem?_map, gx] at ev2
      cases ev2
      have nTL : L ≠ T := ne_of_none eL nT
      have smT : Same H (upd H3 T (.tup [.int (i : Nat), .int xs[i]])) := sm.trans (same_upd nT)
      have eLT : (upd H3 T (.tup [.int (i : Nat), .int xs[i]])) L = some (.lst ((prodAt fXor ys (List.replicate (xs.length + ys.length - 1) 0) 0 (xs.take i)).map V.int)) := by
        rw [upd_ne nTL]
        exact eL
      refine ⟨T, _, rfl, .inl (.inl upd_same), rfl, _, _, rfl, _, _, rfl, rfl, ?_⟩
      generalize (upd H3 T (.tup [.int (i : Nat), .int xs[i]])) = H5 at smT eLT
      -- if bit == 1
      refine ⟨_, rfl, rfl, _, rfl, ite2 (fun e => ?_) (fun e => ?_)⟩
      · have e3 : xs[i] = 1 := V.int.inj (of_decide_eq_true e)
        have st := prod_step fXor ys gx (List.replicate (xs.length + ys.length - 1) 0)
        rw [if_pos e3] at st
        generalize hM : prodAt fXor ys (List.replicate (xs.length + ys.length - 1) 0) 0 (xs.take i) = M at eLT st
        have lM : M.length = xs.length + ys.length - 1 := by rw [← hM]; exact len1 i
        refine ⟨.ref b, rfl, b, _, rfl, Same.tup smT hy, for_it (walk_enumT (xs := ys.map V.int))
          (fun j σ H6 => ∃ z5 z6, σ = [some (.ref a), some (.ref b), some (.ref L), some (.int (i : Nat)), some (.int xs[i]), z5, z6] ∧ Same H H6 ∧ H6 L = some (.lst ((mixAt fXor M i (ys.take j)).map V.int)))
          ⟨y5, y6, rfl, smT, by rw [List.take_zero]; exact eLT⟩ (fun j σ H6 _ ⟨_, _, _, sm6, _⟩ => Same.tup sm6 hy) (fun j v σ H6 H6' hj hP hY => ?_) (fun σ H6 hP => ?_)⟩
        · rw [List.length_map] at hj
          obtain ⟨z5, z6, rfl, sm6, eL6⟩ := hP
          obtain ⟨T2, v1, v2, rfl, nT2, rfl, ev1, ev2⟩ := hY
          cases ev1
          have gy : ys[j]? = some ys[j] := List.getElem?_eq_getElem hj
          have ev2 : (ys.map V.int)[j]? = some v2 := ev2
          rw [List.getElem?_map, gy] at ev2
          cases ev2
          have nTL2 : L ≠ T2 := ne_of_none eL6 nT2
          have smT2 : Same H (upd H6 T2 (.tup [.int (j : Nat), .int ys[j]])) := sm6.trans (same_upd nT2)
          have eLT2 : (upd H6 T2 (.tup [.int (j : Nat), .int ys[j]])) L = some (.lst ((mixAt fXor M i (ys.take j)).map V.int)) := by
            rw [upd_ne nTL2]
            exact eL6
          have ml : i + j < (mixAt fXor M i (ys.take j)).length := by
            rw [mixAt_len, lM]
            omega
          refine ⟨T2, _, rfl, .inl (.inl upd_same), rfl, _, _, rfl, _, _, rfl, rfl, ?_⟩
          refine ⟨.ref L, rfl, _, rfl, _, rfl, _, _, rfl, rfl, L, _, _, _, rfl, rfl, .inl (.inl eLT2), at_int (k := i + j) (by omega) ml, _, rfl, _, _, rfl, rfl, ?_⟩
          refine ⟨.ref L, rfl, _, rfl, _, rfl, _, _, rfl, rfl, L, _, _, i + j, rfl, rfl, eLT2, ix_int (by omega) ml, ?_⟩
          refine ⟨_, _, rfl, fun c o e => ?_, ?_⟩
          · have nc : c ≠ L := ne_of_none e HL
            rw [upd_ne nc]
            exact smT2 c o e
          · rw [upd_same, set_int, mix_step fXor gy]
            rfl
        · obtain ⟨z5, z6, rfl, sm6, eL6⟩ := hP
          refine ⟨_, _, _, _, rfl, sm6, ?_⟩
          rw [List.length_map, List.take_length] at eL6
          rw [st]
          exact eL6
      · have e3 : ¬ xs[i] = 1 := fun z => e (decide_eq_true (congrArg V.int z))
        have st := prod_step fXor ys gx (List.replicate (xs.length + ys.length - 1) 0)
        rw [if_neg e3] at st
        refine ⟨_, _, _, _, rfl, smT, ?_⟩
        rw [st]
        exact eLT
    · obtain ⟨y3, y4, y5, y6, rfl, sm, eL⟩ := hP
      rw [List.length_map, List.take_length] at eL
      refine ⟨.ref L, rfl, L, _, rfl, .inl ⟨.inl (.inl eL), fun p np => q _ p (sm.trans (same_upd np)) ?_⟩⟩
      unfold prodRow
      rw [if_neg (by intro z; rcases z with z | z; exact x0 z; exact y0 z)]
      exact .inl (.inl upd_same)
theorem ok_prod {f : Addr} {fd : FuncData} {k : Nat} (F : Fun K "_law_product" "_law_product" sProd f fd) (ml : mg "len" = none) (me : mg "enumerate" = none) (mt : mg "tuple" = none) :
    FnOk P w K mg base CX0 (k + 1) f fd ["_law_one", "_law_other"] (spTimes K fMod) := by
  refine F.ok scProd (fun vs H Q E h => ?_) (fun cdv A outer s H vs Q E hr h => ?_)
  · obtain ⟨a, b, xs, ys, rfl, _⟩ := h
    rfl
  · obtain ⟨a, b, xs, ys, rfl, hx, hy, lx, ly, q⟩ := h
    refine ⟨_, pss_cons (ps_if (PW.pt (pw_or (pt_cmpR (op_eqD hr.units) (pv 0) (pe_tup pa_nil) (nomark _)) (pw_or1 (pt_cmpR (op_eqD hr.units) (pv 1) (pe_tup pa_nil) (nomark _)))))
        (pss_one (ps_ret (pe_tup pa_nil))) pss_nil)
      (pss_cons (ps_set (i := 2) scProd.nd rfl (.inl rfl) (pe_op op_rep (pe_lst (pa_cons pe_int pa_nil))
        (pe_op op_sub (pe_op op_add (pe_callB call_len_seq (by rfl) ml PySem.boot_len (pa_cons (pv 0) pa_nil)) (pe_callB call_len_seq (by rfl) ml PySem.boot_len (pa_cons (pv 1) pa_nil))) pe_int)))
      (pss_cons (ps_for PassesOwn.never rfl (pi_enumT (by rfl) me (pa_cons (pv 0) pa_nil))
          (pg_tup rfl (pgs_cons (pg_name (i := 3) scProd.nd rfl (.inl rfl)) (pgs_cons (pg_name (i := 4) scProd.nd rfl (.inl rfl)) pgs_nil)))
        (pss_one (ps_if (pt_cmpR op_eq (pv 4) pe_int (nomark _))
          (pss_one (ps_for PassesOwn.never rfl (pi_enumT (by rfl) me (pa_cons (pv 1) pa_nil))
              (pg_tup rfl (pgs_cons (pg_name (i := 5) scProd.nd rfl (.inl rfl)) (pgs_cons (pg_name (i := 6) scProd.nd rfl (.inl rfl)) pgs_nil)))
            (pss_one (ps_asg (pe_op op_mod (pe_op op_add (pe_ix ix_list (pv 2) (pe_op op_add (pv 3) (pv 5)) (fun _ _ => rfl)) (pv 6)) pe_int) (pg_sub (pv 2) (pe_op op_add (pv 3) (pv 5)) set_list)))))
          pss_nil)))
      (pss_one (ps_ret (pe_callTy call_tuple_of (by rfl) mt PyProof.Rows.boot_tuple (pa_cons (pv 2) pa_nil)))))), ?_⟩
    have none_case : ∀ (H1 : Hp), Same H H1 → (xs = [] ∨ ys = []) → ∀ p, H1 p = none → Q (.ref p) (upd H1 p (.tup [])) := fun H1 sm e p np => by
      refine q _ p (sm.trans (same_upd np)) ?_
      unfold prodRow
      rw [if_pos e]
      exact .inl (.inl upd_same)
    -- one == () or other == ()
    refine ⟨.ref a, rfl, Nat.zero_le _, fun p1 n1 => ⟨_, _, dpRow (Same.tup (same_upd n1) hx), dpNil (.inl (.inl upd_same)), shaped_row xs, rfl, _, rfl, ?_⟩⟩
    rw [eqv_nil]
    refine ite2 (fun e => ?_) (fun e1 => ?_)
    · exact iteT ⟨Nat.zero_le _, none_case _ (same_upd n1) (.inl (of_decide_eq_true e))⟩
    refine ⟨.ref b, rfl, Nat.zero_le _, fun p2 n2 => ⟨_, _, dpRow (Same.tup ((same_upd n1).trans (same_upd n2)) hy), dpNil (.inl (.inl upd_same)), shaped_row ys, rfl, _, rfl, ?_⟩⟩
    rw [eqv_nil]
    refine ite2 (fun e => ?_) (fun e2 => ?_)
    · exact ⟨Nat.zero_le _, none_case _ ((same_upd n1).trans (same_upd n2)) (.inr (of_decide_eq_true e))⟩
    have x0 : xs ≠ [] := fun z => e1 (decide_eq_true z)
    have y0 : ys ≠ [] := fun z => e2 (decide_eq_true z)
    have s2 : Same H (upd (upd H p1 (.tup [])) p2 (.tup [])) := (same_upd n1).trans (same_upd n2)
    generalize (upd (upd H p1 (.tup [])) p2 (.tup [])) = H2 at s2
    -- bits = [0] * (len(one) + len(other) - 1)
    refine ⟨by show 1 ≤ sizeLine; decide, fun p3 n3 => ?_⟩
    have s3 : Same H (upd H2 p3 (.lst [.int 0])) := s2.trans (same_upd n3)
    refine ⟨.ref a, rfl, a, _, rfl, .inr (Same.tup s3 hx), .ref b, rfl, b, _, rfl, .inr (Same.tup s3 hy), _, _, rfl, rfl, _, _, rfl, rfl, p3, _, _, rfl, rfl, upd_same, ?_, ?_, ?_, fun L nL => ?_⟩
    · rw [List.length_map, List.length_map]
      have h9 : (2 : Int) ^ 63 = 9223372036854775808 := by decide
      omega
    · rw [List.length_map, List.length_map]
      have h9 : (2 : Int) ^ 63 = 9223372036854775808 := by decide
      omega
    · rw [List.length_map, List.length_map]
      refine small ?_
      show 1 * _ ≤ _
      omega
    have HL : H L = none := s3.free nL
    have s4 : Same H (upd (upd H2 p3 (.lst [.int 0])) L (.lst (List.replicate ((((xs.map V.int).length : Int) + ((ys.map V.int).length : Int) - 1).toNat) [V.int 0]).flatten)) := s3.trans (same_upd nL)
    have gL : (upd (upd H2 p3 (.lst [.int 0])) L (.lst (List.replicate ((((xs.map V.int).length : Int) + ((ys.map V.int).length : Int) - 1).toNat) [V.int 0]).flatten)) L = some (.lst ((List.replicate (xs.length + ys.length - 1) (0 : Int)).map V.int)) := by
      rw [upd_same, repl_zero]
      congr 4
      rw [List.length_map, List.length_map]
      omega
    generalize (upd (upd H2 p3 (.lst [.int 0])) L (.lst (List.replicate ((((xs.map V.int).length : Int) + ((ys.map V.int).length : Int) - 1).toNat) [V.int 0]).flatten)) = H4 at s4 gL
    have len1 : ∀ i, (prodAt fMod ys (List.replicate (xs.length + ys.length - 1) 0) 0 (xs.take i)).length = xs.length + ys.length - 1 := fun i => by rw [prodAt_len, List.length_replicate]
    refine ⟨.ref a, rfl, a, _, rfl, Same.tup s4 hx, for_it (walk_enumT (xs := xs.map V.int))
      (fun i σ H3 => ∃ y3 y4 y5 y6, σ = [some (.ref a), some (.ref b), some (.ref L), y3, y4, y5, y6] ∧ Same H H3 ∧ H3 L = some (.lst ((prodAt fMod ys (List.replicate (xs.length + ys.length - 1) 0) 0 (xs.take i)).map V.int)))
      ⟨none, none, none, none, rfl, s4, gL⟩ (fun i σ H3 _ ⟨_, _, _, _, _, sm, _⟩ => Same.tup sm hx) (fun i v σ H3 H3' hi hP hY => ?_) (fun σ H3 hP => ?_)⟩
    · rw [List.length_map] at hi
      obtain ⟨y3, y4, y5, y6, rfl, sm, eL⟩ := hP
      obtain ⟨T, v1, v2, rfl, nT, rfl, ev1, ev2⟩ := hY
      cases ev1
      have gx : xs[i]? = some xs[i] := List.getElem?_eq_getElem hi
      have ev2 : (xs.map V.int)[i]? = some v2 := ev2
      rw [List.getElem?_map, gx] at ev2
      cases ev2
      have nTL : L ≠ T := ne_of_none eL nT
      have smT : Same H (upd H3 T (.tup [.int (i : Nat), .int xs[i]])) := sm.trans (same_upd nT)
      have eLT : (upd H3 T (.tup [.int (i : Nat), .int xs[i]])) L = some (.lst ((prodAt fMod ys (List.replicate (xs.length + ys.length - 1) 0) 0 (xs.take i)).map V.int)) := by
        rw [upd_ne nTL]
        exact eL
      refine ⟨T, _, rfl, .inl (.inl upd_same), rfl, _, _, rfl, _, _, rfl, rfl, ?_⟩
      generalize (upd H3 T (.tup [.int (i : Nat), .int xs[i]])) = H5 at smT eLT
      -- if bit == 1
      refine ⟨_, rfl, rfl, _, rfl, ite2 (fun e => ?_) (fun e => ?_)⟩
      · have e3 : xs[i] = 1 := V.int.inj (of_decide_eq_true e)
        have st := prod_step fMod ys gx (List.replicate (xs.length + ys.length - 1) 0)
        rw [if_pos e3] at st
        generalize hM : prodAt fMod ys (List.replicate (xs.length + ys.length - 1) 0) 0 (xs.take i) = M at eLT st
        have lM : M.length = xs.length + ys.length - 1 := by rw [← hM]; exact len1 i
        refine ⟨.ref b, rfl, b, _, rfl, Same.tup smT hy, for_it (walk_enumT (xs := ys.map V.int))
          (fun j σ H6 => ∃ z5 z6, σ = [some (.ref a), some (.ref b), some (.ref L), some (.int (i : Nat)), some (.int xs[i]), z5, z6] ∧ Same H H6 ∧ H6 L = some (.lst ((mixAt fMod M i (ys.take j)).map V.int)))
          ⟨y5, y6, rfl, smT, by rw [List.take_zero]; exact eLT⟩ (fun j σ H6 _ ⟨_, _, _, sm6, _⟩ => Same.tup sm6 hy) (fun j v σ H6 H6' hj hP hY => ?_) (fun σ H6 hP => ?_)⟩
        · rw [List.length_map] at hj
          obtain ⟨z5, z6, rfl, sm6, eL6⟩ := hP
          obtain ⟨T2, v1, v2, rfl, nT2, rfl, ev1, ev2⟩ := hY
          cases ev1
          have gy : ys[j]? = some ys[j] := List.getElem?_eq_getElem hj
          have ev2 : (ys.map V.int)[j]? = some v2 := ev2
          rw [List.getElem?_map, gy] at ev2
          cases ev2
          have nTL2 : L ≠ T2 := ne_of_none eL6 nT2
          have smT2 : Same H (upd H6 T2 (.tup [.int (j : Nat), .int ys[j]])) := sm6.trans (same_upd nT2)
          have eLT2 : (upd H6 T2 (.tup [.int (j : Nat), .int ys[j]])) L = some (.lst ((mixAt fMod M i (ys.take j)).map V.int)) := by
            rw [upd_ne nTL2]
            exact eL6
          have ml : i + j < (mixAt fMod M i (ys.take j)).length := by
            rw [mixAt_len, lM]
            omega
          refine ⟨T2, _, rfl, .inl (.inl upd_same), rfl, _, _, rfl, _, _, rfl, rfl, ?_⟩
          refine ⟨.ref L, rfl, _, rfl, _, rfl, _, _, rfl, rfl, L, _, _, _, rfl, rfl, .inl (.inl eLT2), at_int (k := i + j) (by omega) ml, _, rfl, _, _, rfl, rfl, _, _, rfl, rfl, (by show (0 : Int) < 2; decide), ?_⟩
          refine ⟨.ref L, rfl, _, rfl, _, rfl, _, _, rfl, rfl, L, _, _, i + j, rfl, rfl, eLT2, ix_int (by omega) ml, ?_⟩
          refine ⟨_, _, rfl, fun c o e => ?_, ?_⟩
          · have nc : c ≠ L := ne_of_none e HL
            rw [upd_ne nc]
            exact smT2 c o e
          · rw [upd_same, set_int, mix_step fMod gy]
            rfl
        · obtain ⟨z5, z6, rfl, sm6, eL6⟩ := hP
          refine ⟨_, _, _, _, rfl, sm6, ?_⟩
          rw [List.length_map, List.take_length] at eL6
          rw [st]
          exact eL6
      · have e3 : ¬ xs[i] = 1 := fun z => e (decide_eq_true (congrArg V.int z))
        have st := prod_step fMod ys gx (List.replicate (xs.length + ys.length - 1) 0)
        rw [if_neg e3] at st
        refine ⟨_, _, _, _, rfl, smT, ?_⟩
        rw [st]
        exact eLT
    · obtain ⟨y3, y4, y5, y6, rfl, sm, eL⟩ := hP
      rw [List.length_map, List.take_length] at eL
      refine ⟨.ref L, rfl, L, _, rfl, .inl ⟨.inl (.inl eL), fun p np => q _ p (sm.trans (same_upd np)) ?_⟩⟩
      unfold prodRow
      rw [if_neg (by intro z; rcases z with z | z; exact x0 z; exact y0 z)]
      exact .inl (.inl upd_same)
end
end K02
set_option maxRecDepth 100000
set_option maxHeartbeats 4000000
namespace K02
open PySem PySem.Spec PyProof.Rows L2 Ck
theorem scPlus : FnScope ["one", "other"] ["one", "other"] (defScope sPlus) := ⟨rfl, rfl, rfl, by decide +kernel, rfl, by decide +kernel, by decide +kernel⟩
section
variable {P : Program} {w : World} {K : PySem.W.Frag} {mg : Str → Option Value} {base : Heap}
def spPlus (K : PySem.W.Frag) (T : List (Addr × Str)) (CF : Addr) : Sp := fun vs H Q E => ∃ (a b : Addr) (xs ys : List Int), vs = [.ref a, .ref b] ∧ SqT K H a (xs.map V.int) ∧ SqT K H b (ys.map V.int) ∧ LamX.Tabs T H ∧
  (xs.length = ys.length → ∀ H2 p, LamX.ExtN H H2 → LamX.Tabs T H2 → H2 p = none → Q (.ref p) (upd H2 p (.tup ((List.zipWith fXor xs ys).map V.int)))) ∧ (xs.length ≠ ys.length → E (.ref CF) none H)
theorem ok_plus {f c Pt CF : Addr} {k : Nat} {kV doc pm ct oc : Value} {an od : Option Addr} {osl : Array (Option Value)}
    (lk : K.lookup f = some ⟨oc, od, .func (PySem.W.fnOf "plus_rows" "plus_rows" (defArgs sPlus) (defBody sPlus) (defScope sPlus) .none kV doc pm an (.ref c) ct), osl⟩) (hcd : PySem.W.codeIn K (.ref c) "plus_rows" = true)
    (TB : LamX.TabB base mg c Pt) {T : List (Addr × Str)} {qn : Str} (hq : (("plus_rows" : Str) ++ ".<locals>." ++ "<genexpr>" : Str) = qn) (hmT : (Pt, qn) ∈ T) (hu : ∀ p ∈ T, p.1 = Pt → p.2 = qn) (ml : mg "len" = none) (mt : mg "tuple" = none) (mz : mg "zip" = none) (gF : mg "NoFit" = some (.ref CF))
    (xF : PySem.W.excIn K CF [.type "ValueError", .type "Exception", .type "BaseException", .type "object"] "ValueError.__new__" = true) (kF : PySem.W.keepIn K (.ref CF) = true)
    (bF : PySem.W.subIn K (.ref CF) (.type "BaseException") = some true) (tF : PySem.W.typeIn K (.ref CF) = some (.type "type")) :
    FnOk P w K mg base (L2.CX P w) (k + 1) f (PySem.W.fnOf "plus_rows" "plus_rows" (defArgs sPlus) (defBody sPlus) (defScope sPlus) .none kV doc pm an (.ref c) ct) ["one", "other"] (spPlus K T CF) := by
  refine fn_of lk hcd scPlus (fun vs H Q E h => ?_) (fun A outer s H vs Q E hr h => ?_)
  · obtain ⟨a, b, xs, ys, rfl, _⟩ := h
    rfl
  · obtain ⟨a, b, xs, ys, rfl, hx, hy, tg, q, qe⟩ := h
    refine ⟨_, pss_cons (ps_if (pt_cmpR op_ne (pe_callB call_len_seq (by rfl) ml PySem.boot_len (pa_cons (pv 0) pa_nil)) (pe_callB call_len_seq (by rfl) ml PySem.boot_len (pa_cons (pv 1) pa_nil)) (nomark _))
        (pss_one (ps_raise rfl (takes_of rfl rfl rfl rfl) (pmk_own PySem.F.excBase_ValueError xF gF kF (raises_own bF tF) rfl))) pss_nil)
      (pss_one (ps_ret (pe_tupZip (f := fXor) hr (by rfl) mt (by rfl) mz TB rfl hq hmT hu ?S (pa_cons (pv 0) (pa_cons (pv 1) pa_nil)) ?hel (fun _ => rfl)))), ?_⟩
    case S => exact ⟨rfl, rfl, by decide +kernel, rfl, rfl, rfl, by decide, fun y hy e => absurd e ((by decide +kernel : ∀ y ∈ _, y.2 ≠ NameKind.free) y hy)⟩
    case hel => exact elt_xor rfl rfl rfl
    refine ⟨.ref a, rfl, a, _, rfl, .inr hx, .ref b, rfl, b, _, rfl, .inr hy, rfl, _, rfl, ?_⟩
    rw [List.length_map, List.length_map]
    refine ite2 (fun e => ?_) (fun e => ?_)
    · exact qe fun z => by
        rw [z] at e
        simp at e
    · refine ⟨.ref a, rfl, .ref b, rfl, a, b, xs, ys, rfl, hx, hy, tg, fun H2 p ex tb np => q ?_ H2 p ex tb np⟩
      by_cases z : xs.length = ys.length
      · exact z
      · refine absurd ?_ e
        have z2 : ¬ V.int (xs.length : Int) = V.int (ys.length : Int) := fun y => z (by have := V.int.inj y; omega)
        simp [z2]
end
end K02
set_option maxRecDepth 100000
set_option maxHeartbeats 4000000
namespace K02
open PySem PySem.Spec PyProof.Rows L2 Ck
theorem scPen : FnScope ["_law_script", "_law_k", "_law_cell", "_law_digits"] ["_law_script", "_law_k"] (defScope sPen) := ⟨rfl, rfl, rfl, by decide +kernel, rfl, by decide +kernel, by decide +kernel⟩
theorem scDraw : FnScope ["_law_pen_here", "_law_size", "_law_drawn", "_law_turn", "_law_number"] ["_law_pen_here", "_law_size"] (defScope sDraw) := ⟨rfl, rfl, rfl, by decide +kernel, rfl, by decide +kernel, by decide +kernel⟩
/-- a pen that has drawn at most n times -/
def PenAt (n : Nat) (xs : List V) : Prop := ∃ d e c : Int, xs = [.int d, .int e, .int c] ∧ 0 ≤ d ∧ 0 ≤ e ∧ e < 4000000000 ∧ 0 ≤ c ∧ c ≤ n
theorem PenAt.mono {n m : Nat} {xs : List V} (h : PenAt n xs) (l : n ≤ m) : PenAt m xs := by
  obtain ⟨d, e, c, h1, h2, h3, h4, h5, h6⟩ := h
  exact ⟨d, e, c, h1, h2, h3, h4, h5, by omega⟩
section
variable {P : Program} {w : World} {K : PySem.W.Frag} {mg : Str → Option Value} {base : Heap}
def spPen (K : PySem.W.Frag) : Sp := fun vs H Q _ => ∃ (a : Addr) (ns : List Int) (k : Int), vs = [.ref a, .int k] ∧ SqL K H a (ns.map V.int) ∧ ns.length ≤ 63 ∧ 0 ≤ k ∧ k ≤ 1000 ∧
  ∀ H' p xs, Same H H' → H p = none → H' p = some (.lst xs) → PenAt 0 xs → Q (.ref p) H'
theorem ok_pen {f : Addr} {fd : FuncData} {k : Nat} (F : Fun K "_law_pen" "_law_pen" sPen f fd) (ml : mg "len" = none) (mm : mg "min" = none) (ma : mg "abs" = none) :
    FnOk P w K mg base CX0 (k + 1) f fd ["_law_script", "_law_k"] (spPen K) := by
  refine F.ok scPen (fun vs H Q E h => ?_) (fun cdv A outer s H vs Q E hr h => ?_)
  · obtain ⟨a, ns, k, rfl, _⟩ := h
    rfl
  · obtain ⟨a, ns, k, rfl, hS, hlen, k0, k1, q⟩ := h
    refine ⟨_, pss_cons (ps_set (i := 2) scPen.nd rfl (.inl rfl) (pe_op op_add (pe_op op_mul pe_int (pv 1)) pe_int))
      (C8.pss_cut (ps_if (pt_cmpR op_lt (pv 1) (pe_callB (call_min2 rfl) (by rfl) mm (by decide +kernel) (pa_cons (pe_callB call_len_seq (by rfl) ml PySem.boot_len (pa_cons (pv 0) pa_nil)) (pa_cons pe_int pa_nil))) (nomark _))
          (pss_one (ps_set (i := 2) scPen.nd rfl (.inl rfl) (pe_ix ix_list (pv 0) (pv 1) (fun _ _ => rfl))))
          (pss_one (ps_if (pt_cmpR op_gt (pe_callB call_len_seq (by rfl) ml PySem.boot_len (pa_cons (pv 0) pa_nil)) pe_int (nomark _))
            (pss_one (ps_set (i := 2) scPen.nd rfl (.inl rfl) (pe_op op_add (pe_ix ix_list (pv 0) (pe_op op_mod (pv 1) (pe_callB (call_min2 rfl) (by rfl) mm (by decide +kernel) (pa_cons (pe_callB call_len_seq (by rfl) ml PySem.boot_len (pa_cons (pv 0) pa_nil)) (pa_cons pe_int pa_nil)))) (fun _ _ => rfl))
              (pe_op op_mul pe_int (pv 1))))) pss_nil)))
      (pss_cons (ps_set (i := 3) scPen.nd rfl (.inl rfl) pe_int)
      (C8.pss_cut (ps_if (pt_cmpR op_ge (pe_callB call_abs (by rfl) ma (by decide +kernel) (pa_cons (pv 2) pa_nil)) (pe_op op_pow pe_int pe_int) (nomark _))
          (pss_one (ps_set (i := 3) scPen.nd rfl (.inl rfl) (pe_callB call_abs (by rfl) ma (by decide +kernel) (pa_cons (pv 2) pa_nil)))) pss_nil)
      (pss_one (ps_ret (pe_lst (pa_cons (pv 3) (pa_cons (pe_op op_add (pe_op op_mod (pv 2) pe_int) (pe_op op_mul pe_int (pv 1))) (pa_cons pe_int pa_nil)))))))))
      , ?_⟩
    refine ⟨_, rfl, _, _, rfl, rfl, .inl (by decide), _, _, rfl, rfl, fun σ' H' => H' = H ∧ ∃ c : Int, σ' = [some (.ref a), some (.int k), some (.int c), none], ?_, ?_⟩
    · refine ⟨.int k, rfl, .ref a, rfl, a, _, rfl, .inl hS, _, _, rfl, _, _, rfl, rfl, _, rfl, ite2 (fun e => ?_) (fun e => ?_)⟩
      · have e1 := of_decide_eq_true e
        rw [List.length_map] at e1
        have kn : k.toNat < ns.length := by
          split at e1 <;> omega
        exact ⟨.ref a, rfl, .int k, rfl, a, _, _, _, rfl, rfl, hS, at_int (k := k.toNat) (by omega) kn, rfl, _, rfl⟩
      · refine ⟨.ref a, rfl, a, _, rfl, .inl hS, _, _, rfl, rfl, _, rfl, ite2 (fun e2 => ?_) (fun e2 => ?_)⟩
        · have e3 := of_decide_eq_true e2
          rw [List.length_map] at e3
          have e4 : (if (63 : Int) < ((ns.map V.int).length : Int) then (63 : Int) else ((ns.map V.int).length : Int)) = (ns.length : Int) := by
            rw [List.length_map, if_neg (by omega)]
          have m1 : 0 ≤ k % (ns.length : Int) := Int.emod_nonneg _ (by omega)
          have m2 : k % (ns.length : Int) < (ns.length : Int) := Int.emod_lt_of_pos _ (by omega)
          refine ⟨.ref a, rfl, .int k, rfl, .ref a, rfl, a, _, rfl, .inl hS, _, _, rfl, _, _, rfl, rfl, ?_, a, _, _, .int (ns.getD (k % (ns.length : Int)).toNat 0), rfl, rfl, hS, ?_, .int k, rfl, _, _, rfl, rfl, .inl (by decide), _, _, rfl, rfl, rfl, _, rfl⟩
          · show (0 : Int) < _
            rw [e4]
            omega
          · rw [e4]
            exact at_int (k := (k % (ns.length : Int)).toNat) (by omega) (by omega)
        · exact ⟨rfl, _, rfl⟩
    · rintro σ1 H1 ⟨rfl, c, rfl⟩
      refine ⟨fun σ' H' => H' = H1 ∧ ∃ d : Int, 0 ≤ d ∧ σ' = [some (.ref a), some (.int k), some (.int c), some (.int d)], ?_, ?_⟩
      · refine ⟨.int c, rfl, _, rfl, _, _, rfl, rfl, ⟨by decide, by decide, by decide⟩, _, _, rfl, rfl, _, rfl, ite2 (fun e => ?_) (fun e => ?_)⟩
        · refine ⟨.int c, rfl, _, rfl, rfl, _, ?_, rfl⟩
          split <;> omega
        · exact ⟨rfl, _, Int.le_refl 0, rfl⟩
      · rintro σ2 H2 ⟨rfl, d, hd, rfl⟩
        have m1 : 0 ≤ c % 2147483587 := Int.emod_nonneg _ (by decide)
        have m2 : c % 2147483587 < 2147483587 := Int.emod_lt_of_pos _ (by decide)
        refine ⟨.int d, rfl, .int c, rfl, _, _, rfl, rfl, (by show (0 : Int) < 2147483587; decide), .int k, rfl, _, _, rfl, rfl, .inl (by decide), _, _, rfl, rfl, (by show 3 ≤ sizeLine; decide), fun p np => ?_⟩
        exact q _ p _ (same_upd np) np upd_same ⟨_, _, _, rfl, hd, by omega, by omega, Int.le_refl 0, by decide⟩
def spDraw (K : PySem.W.Frag) : Sp := fun vs H Q _ => ∃ (p : Addr) (xs : List V) (m : Int) (n : Nat), vs = [.ref p, .int m] ∧ H p = some (.lst xs) ∧ PenAt n xs ∧ n ≤ 1000000 ∧ 0 < m ∧ m ≤ 1000000000 ∧
  ∀ (d : Int) (ys : List V), 0 ≤ d → d < m → PenAt (n + 1) ys → Q (.int d) (upd H p (.lst ys))
theorem ok_draw {f : Addr} {fd : FuncData} {k : Nat} (F : Fun K "_law_draw" "_law_draw" sDraw f fd) :
    FnOk P w K mg base CX0 (k + 1) f fd ["_law_pen_here", "_law_size"] (spDraw K) := by
  refine F.ok scDraw (fun vs H Q E h => ?_) (fun cdv A outer s H vs Q E hr h => ?_)
  · obtain ⟨p, xs, m, n, rfl, _⟩ := h
    rfl
  · obtain ⟨p, xs, m, n, rfl, hp, hP, hn, m0, m1, q⟩ := h
    obtain ⟨d, e, c, rfl, d0, e0, e1, c0, c1⟩ := hP
    refine ⟨_, pss_cons (ps_asg (pe_op op_add (pe_ix ix_list (pv 0) pe_int (fun _ _ => rfl)) pe_int) (pg_sub (pv 0) pe_int set_list))
      (pss_cons (ps_if (pt_cmpR op_gt (pe_ix ix_list (pv 0) pe_int (fun _ _ => rfl)) pe_int (nomark _))
          (pss_cons (ps_set (i := 2) scDraw.nd rfl (.inl rfl) (pe_op op_mod (pe_ix ix_list (pv 0) pe_int (fun _ _ => rfl)) (pv 1)))
          (pss_cons (ps_asg (pe_op op_fdiv (pe_ix ix_list (pv 0) pe_int (fun _ _ => rfl)) (pv 1)) (pg_sub (pv 0) pe_int set_list))
          (pss_one (ps_ret (pv 2))))) pss_nil)
      (pss_cons (ps_set (i := 3) scDraw.nd rfl (.inl rfl) (pe_ix ix_list (pv 0) pe_int (fun _ _ => rfl)))
      (pss_cons (ps_set (i := 4) scDraw.nd rfl (.inl rfl) (pe_op op_mod (pe_op op_add (pe_op op_add (pe_op op_mul (pe_ix ix_list (pv 0) pe_int (fun _ _ => rfl)) (pe_op op_add (pe_op op_mul pe_int (pv 3)) pe_int)) (pe_op op_mul (pe_op op_mul pe_int (pv 3)) (pv 3))) pe_int) pe_int))
      (pss_cons (ps_set (i := 4) scDraw.nd rfl (.inl rfl) (pe_op op_mod (pe_op op_pow (pv 4) pe_int) pe_int))
      (pss_cons (ps_set (i := 4) scDraw.nd rfl (.inl rfl) (pe_op op_mod (pe_op op_mul (pv 4) (pe_op op_add (pe_op op_mod (pv 4) pe_int) (pe_op op_mul pe_int (pv 3)))) pe_int))
      (pss_one (ps_ret (pe_op op_mod (pe_op op_fdiv (pv 4) pe_int) (pv 1))))))))), ?_⟩
    have sl : ∀ {H : Hp} {zs : List V}, H p = some (.lst zs) → SqL K H p zs := fun h => .inl (.inl h)
    -- pen[2] = pen[2] + 1
    refine ⟨.ref p, rfl, p, _, _, _, rfl, rfl, sl hp, atI_nat (j := 2) rfl, _, _, rfl, rfl, .ref p, rfl, p, _, _, 2, rfl, rfl, hp, rfl, ?_⟩
    have h1 : (upd H p (.lst [.int d, .int e, .int (c + 1)])) p = some (.lst [.int d, .int e, .int (c + 1)]) := upd_same
    refine ⟨.ref p, rfl, p, _, _, _, rfl, rfl, sl h1, atI_nat (j := 0) rfl, _, _, rfl, rfl, _, rfl, ite2 (fun z => ?_) (fun z => ?_)⟩
    · refine ⟨.ref p, rfl, p, _, _, _, rfl, rfl, sl h1, atI_nat (j := 0) rfl, .int m, rfl, _, _, rfl, rfl, m0, ?_⟩
      refine ⟨.ref p, rfl, p, _, _, _, rfl, rfl, sl h1, atI_nat (j := 0) rfl, .int m, rfl, _, _, rfl, rfl, ⟨m0, by omega⟩, .ref p, rfl, p, _, _, 0, rfl, rfl, h1, rfl, ?_⟩
      refine ⟨.int (d % m), rfl, ?_⟩
      rw [upd_upd]
      exact q _ _ (Int.emod_nonneg _ (by omega)) (Int.emod_lt_of_pos _ m0) ⟨_, _, _, rfl, Int.ediv_nonneg d0 (by omega), e0, e1, by omega, by omega⟩
    · refine ⟨.ref p, rfl, p, _, _, _, rfl, rfl, sl h1, atI_nat (j := 2) rfl, ?_⟩
      have t64 : (2 : Int) ^ 64 = 18446744073709551616 := by decide
      refine ⟨.ref p, rfl, p, _, _, _, rfl, rfl, sl h1, atI_nat (j := 1) rfl, .int (c + 1), rfl, _, _, rfl, rfl, .inl (by decide), _, _, rfl, rfl, _, _, rfl, rfl, .inl ⟨by omega, by omega⟩,
        .int (c + 1), rfl, _, _, rfl, rfl, .inl (by decide), .int (c + 1), rfl, _, _, rfl, rfl, .inr ⟨by omega, by omega⟩, _, _, rfl, rfl, _, _, rfl, rfl, _, _, rfl, rfl, (by show (0 : Int) < 2147483629; decide), ?_⟩
      dsimp only [gName]
      generalize hN1 : (e * (2 * (c + 1) + 1) + 69621 * (c + 1) * (c + 1) + 7) % 2147483629 = N1
      have a0 : 0 ≤ N1 := by rw [← hN1]; exact Int.emod_nonneg _ (by decide)
      have a1 : N1 < 2147483629 := by rw [← hN1]; exact Int.emod_lt_of_pos _ (by decide)
      refine ⟨.int N1, rfl, _, _, rfl, rfl, ⟨by decide, by decide, ?_⟩, _, _, rfl, rfl, (by show (0 : Int) < 2147483647; decide), ?_⟩
      · have z9 : (2 : Nat) ^ 64 = 18446744073709551616 := by decide
        omega
      dsimp only [gName]
      generalize hN2 : N1 ^ (5 : Int).toNat % 2147483647 = N2
      have b0 : 0 ≤ N2 := by rw [← hN2]; exact Int.emod_nonneg _ (by decide)
      have b1 : N2 < 2147483647 := by rw [← hN2]; exact Int.emod_lt_of_pos _ (by decide)
      refine ⟨.int N2, rfl, .int N2, rfl, _, _, rfl, rfl, (by show (0 : Int) < 65521; decide), .int (c + 1), rfl, _, _, rfl, rfl, .inl (by decide), _, _, rfl, rfl, _, _, rfl, rfl, .inl ⟨by omega, by omega⟩, _, _, rfl, rfl, (by show (0 : Int) < 2147483563; decide), ?_⟩
      refine ⟨_, rfl, _, _, rfl, rfl, ⟨by decide, by decide⟩, .int m, rfl, _, _, rfl, rfl, m0, ?_⟩
      exact q _ _ (Int.emod_nonneg _ (by omega)) (Int.emod_lt_of_pos _ m0) ⟨_, _, _, rfl, d0, e0, e1, by omega, by omega⟩
end
end K02
set_option maxRecDepth 100000
set_option maxHeartbeats 4000000
namespace K02
open PySem PySem.Spec PyProof.Rows L2 Ck
theorem scBits : FnScope ["_law_pen_here", "_law_many", "_law_way", "_law_at", "_law_k"] ["_law_pen_here", "_law_many"] (defScope sBits) := ⟨rfl, rfl, rfl, by decide +kernel, rfl, by decide +kernel, by decide +kernel⟩
/-- all but p stays -/
def But (p : Addr) (H H' : Hp) : Prop := ∀ b o, b ≠ p → H b = some o → H' b = some o
theorem But.trans {p : Addr} {H H1 H2 : Hp} (a : But p H H1) (b : But p H1 H2) : But p H H2 := fun c o n h => b c o n (a c o n h)
theorem But.upd (p : Addr) (H : Hp) (o : HO) : But p H (L2.upd H p o) := fun b u n h => by
  rw [upd_ne n]
  exact h
theorem But.of {p : Addr} {H H' : Hp} (s : Same H H') : But p H H' := fun b o _ h => s b o h
theorem grow {H4 : Hp} {D : Addr} {bs : List Int} {v : Int} {i : Nat} (hb : Bits bs) (hv : v = 0 ∨ v = 1) (hl : bs.length = i) :
    ∃ bs' : List Int, Bits bs' ∧ bs'.length = i + 1 ∧ (L2.upd H4 D (.lst (bs.map V.int ++ [.int v]))) D = some (.lst (bs'.map V.int)) := by
  refine ⟨bs ++ [v], fun x hx => ?_, by rw [List.length_append, hl]; rfl, ?_⟩
  · rcases List.mem_append.mp hx with z | z
    · exact hb x z
    · rw [List.mem_singleton.mp z]
      exact hv
  · rw [upd_same, List.map_append]
    rfl
theorem ite_bit (b : Bool) : (if b = true then (1 : Int) else 0) = 0 ∨ (if b = true then (1 : Int) else 0) = 1 := by
  cases b
  · exact .inl rfl
  · exact .inr rfl
section
variable {P : Program} {w : World} {K : PySem.W.Frag} {mg : Str → Option Value} {base : Heap}
def spBits (K : PySem.W.Frag) : Sp := fun vs H Q _ => ∃ (p : Addr) (xs : List V) (m : Int) (n : Nat), vs = [.ref p, .int m] ∧ H p = some (.lst xs) ∧ PenAt n xs ∧ n ≤ 900000 ∧ 0 ≤ m ∧ m ≤ 1000 ∧
  ∀ (bs : List Int) (H' : Hp) (t : Addr) (ys : List V), Bits bs → (bs.length : Int) = m → But p H H' → H' p = some (.lst ys) → PenAt (n + 2 + m.toNat) ys → SqT K H' t (bs.map V.int) → Q (.ref t) H'
theorem ok_bits {f fD : Addr} {fd fdD : FuncData} {k : Nat} (F : Fun K "_law_bits" "_law_bits" sBits f fd) (FD : Fun K "_law_draw" "_law_draw" sDraw fD fdD) (bD : Binds K fdD ["_law_pen_here", "_law_size"] []) (gD : mg "_law_draw" = some (.ref fD))
    (mt : mg "tuple" = none) (mr : mg "range" = none) (mi : mg "int" = none) :
    FnOk P w K mg base CX0 (k + 2) f fd ["_law_pen_here", "_law_many"] (spBits K) := by
  have GD : FnOk P w K mg base CX0 (k + 1) fD fdD ["_law_pen_here", "_law_size"] (spDraw K) := ok_draw FD
  refine F.ok scBits (fun vs H Q E h => ?_) (fun cdv A outer s H vs Q E hr h => ?_)
  · obtain ⟨p, xs, m, n, rfl, _⟩ := h
    rfl
  · obtain ⟨p, xs, m, n, rfl, hp, hP, hn, m0, m1, q⟩ := h
    refine ⟨_, pss_cons (ps_set (i := 2) scBits.nd rfl (.inl rfl) (pe_call GD hr (by rfl) gD FD.kp bD .nil pass0 (pa_cons (pv 0) (pa_cons pe_int pa_nil))))
      (C8.pss_cut (ps_if (PW.pt (pw_and (pt_cmpR op_eq (pv 2) pe_int (nomark _)) (pw_and1 (pt_cmpR op_gt (pv 1) pe_int (nomark _)))))
          (pss_cons (ps_set (i := 3) scBits.nd rfl (.inr rfl) (pe_call GD hr (by rfl) gD FD.kp bD .nil pass0 (pa_cons (pv 0) (pa_cons (pv 1) pa_nil))))
          (pss_one (ps_ret (pe_callTy call_tuple_of (by rfl) mt PyProof.Rows.boot_tuple (pa_cons
            (pe_lc (own := [("_law_k", 4)]) (g := gName 4) (tt := tYes) rfl scBits.nd (pi_range1 (by rfl) mr (pa_cons (pv 1) pa_nil)) (blkOk_by (N := ["_law_pen_here", "_law_many", "_law_way", "_law_at", "_law_k"]) (sc := defScope sBits) (by decide +kernel))
              (fun _ _ _ _ _ => pg_name (i := 4) scBits.nd rfl (Or.inl rfl)) (fun _ _ _ _ _ => pts_nil)
              (fun _ _ _ _ _ => pe_callTy call_int1 (by rfl) mi (by decide +kernel) (pa_cons (pe_cmpR op_eq (pv 4) (pv 3) (nomark _)) pa_nil))) pa_nil))))) pss_nil)
      (pss_cons (ps_if (pt_cmpR op_gt (pv 2) pe_int (nomark _))
          (pss_one (ps_ret (pe_op op_repA (pe_tup (pa_cons (pe_op op_sub (pv 2) pe_int) pa_nil)) (pv 1)))) pss_nil)
      (pss_one (ps_ret (pe_callTy call_tuple_of (by rfl) mt PyProof.Rows.boot_tuple (pa_cons
            (pe_lc (own := [("_law_k", 4)]) (g := gName 4) (tt := tYes) rfl scBits.nd (pi_range1 (by rfl) mr (pa_cons (pv 1) pa_nil)) (blkOk_by (N := ["_law_pen_here", "_law_many", "_law_way", "_law_at", "_law_k"]) (sc := defScope sBits) (by decide +kernel))
              (fun _ _ _ _ _ => pg_name (i := 4) scBits.nd rfl (Or.inl rfl)) (fun _ _ _ _ _ => pts_nil)
              (fun _ _ _ _ _ => pe_call GD hr (by rfl) gD FD.kp bD .nil pass0 (pa_cons (pv 0) (pa_cons pe_int pa_nil)))) pa_nil)))))), ?_⟩
    have p62 : (2 : Int) ^ 62 = 4611686018427387904 := by decide
    -- way = draw(pen, 8)
    refine ⟨.ref p, rfl, p, xs, 8, n, rfl, hp, hP, by omega, by decide, by decide, fun way ys1 w0 w1 hP1 => ?_⟩
    have b1 : But p H (upd H p (.lst ys1)) := But.upd p H _
    have hp1 : (upd H p (.lst ys1)) p = some (.lst ys1) := upd_same
    generalize (upd H p (.lst ys1)) = H1 at b1 hp1
    refine ⟨fun σ' H' => H' = H1 ∧ σ' = [some (.ref p), some (.int m), some (.int way), none, none], ⟨.int way, rfl, rfl, _, rfl, ite2 (fun e => ?_) (fun e => ?_)⟩, ?_⟩
    · refine ⟨.int m, rfl, _, _, rfl, rfl, _, rfl, ite2 (fun e2 => ?_) (fun e2 => ?_)⟩
      · have mp : 0 < m := of_decide_eq_true e2
        -- at = draw(pen, many)
        refine ⟨.ref p, rfl, .int m, rfl, p, ys1, m, n + 1, rfl, hp1, hP1, by omega, mp, by omega, fun at_ ys2 a0 a1 hP2 => ?_⟩
        have b2 : But p H (upd H1 p (.lst ys2)) := b1.trans (But.upd p H1 _)
        have hp2 : (upd H1 p (.lst ys2)) p = some (.lst ys2) := upd_same
        generalize (upd H1 p (.lst ys2)) = H2 at b2 hp2
        refine ⟨.int m, rfl, m, rfl, by omega, by omega, fun D nD => lc_range (lo := 0) (n := m.toNat)
          (fun i H3 => Same H2 H3 ∧ ∃ bs : List Int, Bits bs ∧ bs.length = i ∧ H3 D = some (.lst (bs.map V.int))) ⟨same_upd nD, [], (fun x hx => by cases hx), rfl, upd_same⟩ (fun i H3 hi hP3 => ?_) (fun H3 hP3 => ?_)⟩
        · obtain ⟨sm, bs, hb, hl, hD⟩ := hP3
          refine ⟨rfl, ?_⟩
          refine ⟨_, rfl, .int at_, rfl, rfl, .inr ⟨_, rfl, _, hD, ?_, ?_, ?_⟩⟩
          · rw [List.length_map]
            exact Nat.lt_of_le_of_lt (show bs.length ≤ 1000 by omega) (by decide)
          · intro c o e
            have nc : c ≠ D := ne_of_none e nD
            rw [upd_ne nc]
            exact sm c o e
          · exact grow hb (ite_bit _) hl
        · obtain ⟨sm, bs, hb, hl, hD⟩ := hP3
          refine ⟨D, _, rfl, .inl ⟨.inl (.inl hD), fun l nl => ?_⟩⟩
          have pl : p ≠ l := ne_of_none (sm _ _ hp2) nl
          refine q bs _ l ys2 hb (by omega) (b2.trans (But.of (sm.trans (same_upd nl)))) ?_ (hP2.mono (by omega)) (.inl (.inl upd_same))
          rw [upd_ne pl]
          exact sm _ _ hp2
      · exact ⟨rfl, rfl⟩
    · exact ⟨rfl, rfl⟩
    rintro σ' H' ⟨rfl, rfl⟩
    refine ⟨.int way, rfl, _, _, rfl, rfl, _, rfl, ite2 (fun e => ?_) (fun e => ?_)⟩
    · have w6 : 5 < way := of_decide_eq_true e
      refine ⟨.int way, rfl, _, _, rfl, rfl, (by show 1 ≤ sizeLine; decide), fun t1 nt1 => ?_⟩
      have pt : p ≠ t1 := ne_of_none hp1 nt1
      refine ⟨.int m, rfl, t1, m, _, rfl, rfl, .inl (.inl upd_same), (by simp), m0, m1, (by show 1 ≤ 1000; decide), fun H3 t2 sm hT => ?_⟩
      have er : (List.replicate m.toNat [V.int (way - 6)]).flatten = (List.replicate m.toNat (way - 6)).map V.int := by
        generalize m.toNat = j
        induction j with
        | zero => rfl
        | succ j ih =>
          rw [List.replicate_succ, List.replicate_succ, List.flatten_cons, ih]
          rfl
      have hT' : SqT K H3 t2 ((List.replicate m.toNat (way - 6)).map V.int) := er ▸ hT
      refine q (List.replicate m.toNat (way - 6)) H3 t2 ys1 (fun x hx => ?_) (by rw [List.length_replicate]; omega) (b1.trans (But.of ((same_upd nt1).trans sm))) ?_ (hP1.mono (by omega)) hT'
      · rw [List.eq_of_mem_replicate hx]
        omega
      · refine sm _ _ ?_
        rw [upd_ne pt]
        exact hp1
    · refine ⟨.int m, rfl, m, rfl, by omega, by omega, fun D nD => lc_range (lo := 0) (n := m.toNat)
        (fun i H3 => But p H' H3 ∧ (∃ ys, PenAt (n + 1 + i) ys ∧ H3 p = some (.lst ys)) ∧ ∃ bs : List Int, Bits bs ∧ bs.length = i ∧ H3 D = some (.lst (bs.map V.int)))
        ⟨But.of (same_upd nD), ⟨ys1, hP1, same_upd nD _ _ hp1⟩, [], (fun x hx => by cases hx), rfl, upd_same⟩ (fun i H3 hi hP3 => ?_) (fun H3 hP3 => ?_)⟩
      · obtain ⟨sm, ⟨ys, hPy, hpy⟩, bs, hb, hl, hD⟩ := hP3
        have pD : p ≠ D := ne_of_none hp1 nD
        refine ⟨rfl, ?_⟩
        refine ⟨.ref p, rfl, p, ys, 2, n + 1 + i, rfl, hpy, hPy, by omega, by decide, by decide, fun d zs d0 d1 hPz => ⟨_, (upd_ne pD.symm).trans hD, ?_, ?_, ?_, ?_⟩⟩
        · rw [List.length_map]
          exact Nat.lt_of_le_of_lt (show bs.length ≤ 1000 by omega) (by decide)
        · intro c o n1 e
          have nc : c ≠ D := ne_of_none e nD
          rw [upd_ne nc, upd_ne n1]
          exact sm c o n1 e
        · refine ⟨zs, hPz, ?_⟩
          rw [upd_ne pD, upd_same]
        · exact grow hb (by omega) hl
      · obtain ⟨sm, ⟨ys, hPy, hpy⟩, bs, hb, hl, hD⟩ := hP3
        refine ⟨D, _, rfl, .inl ⟨.inl (.inl hD), fun l nl => ?_⟩⟩
        have pl : p ≠ l := ne_of_none hpy nl
        refine q bs _ l ys hb (by omega) ((b1.trans sm).trans (But.of (same_upd nl))) ?_ (hPy.mono (by omega)) (.inl (.inl upd_same))
        rw [upd_ne pl]
        exact hpy
end
end K02
set_option maxRecDepth 100000
set_option maxHeartbeats 4000000
namespace K02
open PySem PySem.Spec PyProof.Rows L2 Ck
theorem scWord : FnScope ["_law_asked", "_law_caught", "_law_told", "e", "_law_heard"] ["_law_asked"] (defScope sWord) := ⟨rfl, rfl, rfl, by decide +kernel, rfl, by decide +kernel, by decide +kernel⟩
theorem takes_len {X : Cx} {W : WX} (t : Takes X W) : Takes X (fun cls d σ H => σ.length = X.N.length → W cls d σ H) := fun u s' ⟨a, B, sI, pins, σ, H, cls, d, e, I, nb, up, sky, na, os, ag, w⟩ =>
  t u s' ⟨a, B, sI, pins, σ, H, cls, d, e, I, nb, up, sky, na, os, ag, w I.len⟩
section
variable {X : Cx}
/-- the classes of the errors, as the law's word asks them -/
structure Cls9 (K : PySem.W.Frag) (mg : Str → Option Value) (CE CN CF CD CF' : Addr) : Prop where
  gE : mg "CheckError" = some (.ref CE)
  gN : mg "NoNumber" = some (.ref CN)
  gF : mg "NoFit" = some (.ref CF)
  gD : mg "NoDivisor" = some (.ref CD)
  oth : ∃ B1 B2 B3 B4 B5 B6 B7 : Addr, mg "NoBack" = some (.ref B1) ∧ mg "NoPlace" = some (.ref B2) ∧ mg "NoRow" = some (.ref B3) ∧ mg "NoSheet" = some (.ref B4) ∧ mg "NoStyle" = some (.ref B5) ∧ mg "NoText" = some (.ref B6) ∧ mg "NoWord" = some (.ref B7) ∧
    PySem.W.kitAny K (.ref CF') [.ref B1, .ref B2, .ref B3, .ref B4, .ref B5, .ref B6, .ref B7] = some false
  ex : PySem.W.exmOne K (.ref CF') (.ref CE) = some true
  kN : PySem.W.kitOne K (.ref CF') (.ref CN) = some false
  kF : PySem.W.kitOne K (.ref CF') (.ref CF) = some true
  kD : PySem.W.kitOne K (.ref CF') (.ref CD) = some false
  kV : PySem.W.kitOne K (.ref CF') (.type "ValueError") = some true
  ec : ExcC K CF'
/-- what the word makes of what is asked: told, or refused by the class CF' -/
def TWord (CF' : Addr) : (XK → Hp → VK → Prop) → Hp → VK → Prop := fun tl H Q => ∀ (Ech : XK) (Q1 : VK),
  (∀ H', (∀ H'' p, Same H' H'' → H'' p = some (.tup [.str "refused", .str "fit"]) → Q (.ref p) H'') → Ech (.ref CF') none H') →
  (∀ v H', (∀ p, H' p = none → Q (.ref p) (upd H' p (.tup [.str "told", v]))) → Q1 v H') → tl Ech H Q1
theorem word_gives {CE CN CF CD CF' g : Addr} {cdg : Value} {q : Str} (C : Cls9 X.K X.mg CE CN CF CD CF') (mi : X.mg "isinstance" = none) (mv : X.mg "ValueError" = none) :
    LamX.GivesTo X ["_law_asked", "_law_caught", "_law_told", "e", "_law_heard"] "_law_word" (defScope sWord) g cdg (defBody sWord) "_law_asked" q (TWord CF') := by
  intro f c' s H Q tl act hc h
  obtain ⟨B1, B2, B3, B4, B5, B6, B7, g1, g2, g3, g4, g5, g6, g7, ko⟩ := C.oth
  refine ⟨_, pss_cons (ps_set (i := 1) scWord.nd rfl (.inl rfl) pe_non) (pss_cons (ps_set (i := 2) scWord.nd rfl (.inl rfl) pe_non)
    (pss_cons (ps_try_keep (X := (cxOf C8.CX0 X.prog X.w X.K X.mg X.base ["_law_asked", "_law_caught", "_law_told", "e", "_law_heard"] "_law_word" (defScope sWord) g cdg X.A X.stack s H C8.E0).nox) (c := .ref CE) (i := 3)
        (tb := fun W D σ H => ∃ Ech : XK, (∀ cls d σ' H', Ech cls d H' → σ'.length = 5 → W cls d σ' H') ∧ σ[0]? = some (some (.ref f)) ∧ H c' = some (LamX.CodeO c' q) ∧ tl Ech H (fun v H' => D.nx (σ.set 2 (some v)) H'))
        rfl rfl rfl scWord.nd rfl rfl ⟨by rfl, by decide, .inl C.gE⟩ (fun W pn xe tk _ => ?body) (fun a oe cls d pn => pss_one (ps_set (i := 1) scWord.nd rfl (.inl rfl) (pv 3))))
    (pss_cons (ps_if (pt_cmpR op_isN (pv 1) pe_non (nomark _)) (pss_one (ps_ret (pe_tup (pa_cons pe_str (pa_cons (pv 2) pa_nil))))) pss_nil)
    (pss_cons (ps_set (i := 4) scWord.nd rfl (.inl rfl) (pe_lst pa_nil))
    (pss_cons (ps_if (pt_val (pe_callB (call_isK C.ec) (by rfl) mi (by decide +kernel) (pa_cons (pv 1) (pa_cons (pe_glob (v := .ref CN) (by rfl) C.gN rfl) pa_nil))))
      (pss_one (ps_expr (pe_bm PySem.F.plainAttrs_list PySem.F.slot_list_append PySem.F.type_list_append mt_append (pv 4) (pa_cons pe_str pa_nil)))) pss_nil)
    (pss_cons (ps_if (pt_val (pe_callB (call_isK C.ec) (by rfl) mi (by decide +kernel) (pa_cons (pv 1) (pa_cons (pe_glob (v := .ref CF) (by rfl) C.gF rfl) pa_nil))))
      (pss_one (ps_expr (pe_bm PySem.F.plainAttrs_list PySem.F.slot_list_append PySem.F.type_list_append mt_append (pv 4) (pa_cons pe_str pa_nil)))) pss_nil)
    (pss_cons (ps_if (pt_val (pe_callB (call_isK C.ec) (by rfl) mi (by decide +kernel) (pa_cons (pv 1) (pa_cons (pe_glob (v := .ref CD) (by rfl) C.gD rfl) pa_nil))))
      (pss_one (ps_expr (pe_bm PySem.F.plainAttrs_list PySem.F.slot_list_append PySem.F.type_list_append mt_append (pv 4) (pa_cons pe_str pa_nil)))) pss_nil)
    (pss_cons (ps_if (pt_val (pe_callB (call_isKT C.ec) (by rfl) mi (by decide +kernel) (pa_cons (pv 1) (pa_cons (pe_tup
        (pa_cons (pe_glob (v := .ref B1) (by rfl) g1 rfl) (pa_cons (pe_glob (v := .ref B2) (by rfl) g2 rfl) (pa_cons (pe_glob (v := .ref B3) (by rfl) g3 rfl) (pa_cons (pe_glob (v := .ref B4) (by rfl) g4 rfl)
        (pa_cons (pe_glob (v := .ref B5) (by rfl) g5 rfl) (pa_cons (pe_glob (v := .ref B6) (by rfl) g6 rfl) (pa_cons (pe_glob (v := .ref B7) (by rfl) g7 rfl) pa_nil)))))))) pa_nil))))
      (pss_one (ps_expr (pe_bm PySem.F.plainAttrs_list PySem.F.slot_list_append PySem.F.type_list_append mt_append (pv 4) (pa_cons pe_str pa_nil)))) pss_nil)
    (pss_cons (ps_if (pt_not (pt_val (pe_callB (call_isK C.ec) (by rfl) mi (by decide +kernel) (pa_cons (pv 1) (pa_cons (pe_bltn (v := .ty "ValueError") (by rfl) mv (by decide +kernel) rfl) pa_nil)))))
      (pss_one (ps_expr (pe_bm PySem.F.plainAttrs_list PySem.F.slot_list_append PySem.F.type_list_append mt_append (pv 4) (pa_cons pe_str pa_nil)))) pss_nil)
    (pss_one (ps_ret (pe_tup (pa_cons pe_str (pa_cons (pe_join pe_str (pv 4)) pa_nil)))))))))))))), ?_⟩
  case body =>
    refine ⟨fun pins s' σ H' D I h' => ?_⟩
    obtain ⟨Ech, hW, h1, h2, h3⟩ := h'
    have hp := fun p1 p2 => act _ pn xe Ech p1 p2 (takes_len tk) hW
    exact (pss_one (ps_set (i := 2) scWord.nd rfl (.inl rfl) (hp _ _))).run pins s' σ H' D I ⟨h1, h2, h3⟩
  -- told, or refused
  refine ⟨fun cls d H' => cls = .ref CF' ∧ d = none ∧ ∀ H'' p, Same H' H'' → H'' p = some (.tup [.str "refused", .str "fit"]) → Q (.ref p) H'', fun cls d σ' H' ⟨ec, ed, k⟩ hl => ⟨by rw [ec]; exact C.ex, fun a na => ?_⟩, rfl, hc, h _ _ (fun H' k => ⟨rfl, rfl, k⟩) fun v H' k => ?_⟩
  · subst ec ed
    obtain ⟨s0, s1, s2, s3, s4, rfl⟩ : ∃ s0 s1 s2 s3 s4, σ' = [s0, s1, s2, s3, s4] := by
      match σ', hl with
      | [s0, s1, s2, s3, s4], _ => exact ⟨s0, s1, s2, s3, s4, rfl⟩
    refine ⟨.ref a, rfl, fun na' => ?_⟩
    have hE : (upd H' a (ExcO a (.ref CF') none)) a = some (ExcO a (.ref CF') none) := upd_same
    have s1 : Same H' (upd H' a (ExcO a (.ref CF') none)) := same_upd na
    generalize (upd H' a (ExcO a (.ref CF') none)) = H1 at hE s1
    -- caught is None
    refine ⟨.ref a, rfl, rfl, _, rfl, iteF ?_⟩
    -- heard = []
    refine ⟨Nat.zero_le _, fun L nL => ?_⟩
    have aL : a ≠ L := ne_of_none hE nL
    have hE2 : (upd H1 L (.lst [])) a = some (ExcO a (.ref CF') none) := (upd_ne aL).trans hE
    have hL2 : (upd H1 L (.lst [])) L = some (.lst []) := upd_same
    have s2 : Same H' (upd H1 L (.lst [])) := s1.trans (same_upd nL)
    have HL : H' L = none := s1.free nL
    generalize (upd H1 L (.lst [])) = H2 at hE2 hL2 s2
    refine ⟨.ref a, rfl, a, _, _, false, rfl, hE2, .own _, C.kN, _, rfl, iteF ?_⟩
    refine ⟨.ref a, rfl, a, _, _, true, rfl, hE2, .own _, C.kF, _, rfl, iteT ?_⟩
    refine ⟨.ref L, rfl, .inl ⟨rfl, _, .inl (.inl hL2)⟩, L, _, _, rfl, rfl, hL2, by decide, ?_⟩
    have hE3 : (upd H2 L (.lst ([] ++ [.str "fit"]))) a = some (ExcO a (.ref CF') none) := (upd_ne aL).trans hE2
    have hL3 : (upd H2 L (.lst ([] ++ [.str "fit"]))) L = some (.lst [.str "fit"]) := upd_same
    have s3 : Same H' (upd H2 L (.lst ([] ++ [.str "fit"]))) := fun b o e => by
      have nb : b ≠ L := ne_of_none e HL
      rw [upd_ne nb]
      exact s2 b o e
    generalize (upd H2 L (.lst ([] ++ [V.str "fit"]))) = H3 at hE3 hL3 s3
    refine ⟨.ref a, rfl, a, _, _, false, rfl, hE3, .own _, C.kD, _, rfl, iteF ?_⟩
    refine ⟨.ref a, rfl, (by show 7 ≤ sizeLine; decide), fun tp ntp => ⟨a, tp, _, _, false, rfl, ?_, upd_same, .cons (.own _) (.cons (.own _) (.cons (.own _) (.cons (.own _) (.cons (.own _) (.cons (.own _) (.cons (.own _) .nil)))))), ko, _, rfl, iteF ?_⟩⟩
    · rw [upd_ne (ne_of_none hE3 ntp)]
      exact hE3
    have hE4 : (upd H3 tp (.tup [.ref B1, .ref B2, .ref B3, .ref B4, .ref B5, .ref B6, .ref B7])) a = some (ExcO a (.ref CF') none) := (upd_ne (ne_of_none hE3 ntp)).trans hE3
    have hL4 : (upd H3 tp (.tup [.ref B1, .ref B2, .ref B3, .ref B4, .ref B5, .ref B6, .ref B7])) L = some (.lst [.str "fit"]) := (upd_ne (ne_of_none hL3 ntp)).trans hL3
    have s4 : Same H' (upd H3 tp (.tup [.ref B1, .ref B2, .ref B3, .ref B4, .ref B5, .ref B6, .ref B7])) := s3.trans (same_upd ntp)
    generalize (upd H3 tp (.tup [V.ref B1, .ref B2, .ref B3, .ref B4, .ref B5, .ref B6, .ref B7])) = H4 at hE4 hL4 s4
    refine ⟨.ref a, rfl, a, _, _, true, rfl, hE4, .ty _, C.kV, _, rfl, iteF ?_⟩
    refine ⟨⟨_, rfl⟩, .ref L, rfl, _, L, [Str.ofString "fit"], rfl, rfl, .inl (.inl (.inl hL4)), by decide, by decide, fun p np => ?_⟩
    exact k _ p (s4.trans (same_upd np)) upd_same
  · refine ⟨.non, rfl, rfl, _, rfl, iteT ?_⟩
    exact ⟨v, rfl, (by show 2 ≤ sizeLine; decide), k⟩
end
end K02
set_option maxRecDepth 100000
set_option maxHeartbeats 4000000
namespace K02
open PySem PySem.Spec PyProof.Rows L2 Ck
theorem walk_zipT {K : PySem.W.Frag} {a b : Addr} {xs ys : List V} {n : Nat} (hn : n = min xs.length ys.length) :
    Walk (RZ.ItzT K a b) n (fun H => SqT K H a xs ∧ SqT K H b ys) (YPair (fun i => xs[i]?) (fun i => ys[i]?)) where
  goes := fun i H hi h => ⟨xs, ys, xs[i]'(by omega), ys[i]'(by omega), h.1, h.2, List.getElem?_eq_getElem _, List.getElem?_eq_getElem _⟩
  stops := fun H h => ⟨xs, ys, h.1, h.2, by omega⟩
  yields := fun i H x H' hi h y => by
    obtain ⟨T, u, v, e1, e2, e3, e4, e5⟩ := y
    exact ⟨T, u, v, e1, e2, e3, e4 xs h.1, e5 ys h.2⟩
abbrev nRight : List Str := ["_law_one", "_law_other", "_law_kept", "_law_a", "_law_b", "_law_x", "_law_y"]
theorem scRight : FnScope nRight ["_law_one", "_law_other"] (defScope sRight) := ⟨rfl, rfl, rfl, by decide +kernel, rfl, by decide +kernel, by decide +kernel⟩
section
variable {K : PySem.W.Frag}
theorem exN_tup {H H' : Hp} {a : Addr} {xs : List V} (e : LamX.ExtN H H') (h : SqT K H a xs) : SqT K H' a xs := by
  rcases h with (h | ⟨o, h⟩) | h
  · exact .inl (.inl (e _ _ h (fun ps z => by cases z)))
  · exact .inl (.inr ⟨o, e _ _ h (fun ps z => by cases z)⟩)
  · exact .inr h
theorem exN_lst {H H' : Hp} {a : Addr} {xs : List V} (e : LamX.ExtN H H') (h : SqL K H a xs) : SqL K H' a xs := by
  rcases h with (h | ⟨o, h⟩) | h
  · exact .inl (.inl (e _ _ h (fun ps z => by cases z)))
  · exact .inl (.inr ⟨o, e _ _ h (fun ps z => by cases z)⟩)
  · exact .inr h
theorem fne_eq (x y : Int) : (if (!decide (V.int x = V.int y)) = true then (1 : Int) else 0) = fNe x y := by
  unfold fNe
  by_cases h : x = y
  · subst h
    simp
  · have h2 : ¬ V.int x = V.int y := fun z => h (V.int.inj z)
    rw [if_neg h, decide_eq_false h2]
    rfl
theorem take_zip {f : Int → Int → Int} {us vs : List Int} {j : Nat} {x y : Int} (hx : us[j]? = some x) (hy : vs[j]? = some y) :
    (List.zipWith f us vs).take (j + 1) = (List.zipWith f us vs).take j ++ [f x y] := by
  have h : (List.zipWith f us vs)[j]? = some (f x y) := by
    rw [List.getElem?_zipWith, hx, hy]
  exact (take_snoc h).1
end
section
variable {P : Program} {w : World} {K : PySem.W.Frag} {mg : Str → Option Value} {base : Heap}
def spRight (K : PySem.W.Frag) (T : List (Addr × Str)) : Sp := fun vs H Q _ => ∃ (a b : Addr) (xs ys : List Int), vs = [.ref a, .ref b] ∧ SqT K H a (xs.map V.int) ∧ SqT K H b (ys.map V.int) ∧ Bits xs ∧ Bits ys ∧ xs.length ≤ 500 ∧ ys.length ≤ 500 ∧ LamX.Tabs T H ∧
  ∀ H', LamX.ExtN H H' → LamX.Tabs T H' → Q (.bl true) H'
/-- what stands at the top, for _law_right -/
structure TopR (K : PySem.W.Frag) (mg : Str → Option Value) (base : Heap) (T : List (Addr × Str)) (fT fP fW fS CE CN CF CD : Addr) (fdT fdP fdS : FuncData) : Prop where
  FT : Fun K "times_rows" "times_rows" sTimes fT fdT
  bT : Binds K fdT ["one", "other"] []
  gT : mg "times_rows" = some (.ref fT)
  FP : Fun K "_law_product" "_law_product" sProd fP fdP
  bP : Binds K fdP ["_law_one", "_law_other"] []
  gP : mg "_law_product" = some (.ref fP)
  gW : mg "_law_word" = some (.ref fW)
  kW : PySem.W.keepIn K (.ref fW) = true
  gS : mg "plus_rows" = some (.ref fS)
  kS : PySem.W.keepIn K (.ref fS) = true
  bS : Binds K fdS ["one", "other"] []
  C9 : Cls9 K mg CE CN CF CD CF
  ml : mg "len" = none
  me : mg "enumerate" = none
  mt : mg "tuple" = none
  mz : mg "zip" = none
  mrep : mg "repr" = none
  mint : mg "int" = none
  mi : mg "isinstance" = none
  mv : mg "ValueError" = none
theorem ok_right {f c Pt : Addr} {k : Nat} {kV doc pm ct oc : Value} {an od : Option Addr} {osl : Array (Option Value)}
    (lk : K.lookup f = some ⟨oc, od, .func (PySem.W.fnOf "_law_right" "_law_right" (defArgs sRight) (defBody sRight) (defScope sRight) .none kV doc pm an (.ref c) ct), osl⟩) (hcd : PySem.W.codeIn K (.ref c) "_law_right" = true)
    (TB : LamX.TabB base mg c Pt) {T : List (Addr × Str)} {qn : Str} (hq : (("_law_right" : Str) ++ ".<locals>." ++ "<lambda>" : Str) = qn) (hmT : (Pt, qn) ∈ T) (hu : ∀ p ∈ T, p.1 = Pt → p.2 = qn)
    {fT fP fW fS CE CN CF CD : Addr} {fdT fdP fdS : FuncData} (R : TopR K mg base T fT fP fW fS CE CN CF CD fdT fdP fdS)
    (GS : FnOk P w K mg base (L2.CX P w) 1 fS fdS ["one", "other"] (spPlus K T CF))
    {kVw docw pmw cdw ctw ocw : Value} {anw odw : Option Addr} {oslw : Array (Option Value)}
    (lkW : K.lookup fW = some ⟨ocw, odw, .func (PySem.W.fnOf "_law_word" "_law_word" (defArgs sWord) (defBody sWord) (defScope sWord) .none kVw docw pmw anw cdw ctw), oslw⟩) (hcW : PySem.W.codeIn K cdw "_law_word" = true)
    (bW : Binds K (PySem.W.fnOf "_law_word" "_law_word" (defArgs sWord) (defBody sWord) (defScope sWord) .none kVw docw pmw anw cdw ctw) ["_law_asked"] []) :
    FnG P w K mg base CX0 4 f (PySem.W.fnOf "_law_right" "_law_right" (defArgs sRight) (defBody sRight) (defScope sRight) .none kV doc pm an (.ref c) ct) ["_law_one", "_law_other"] (spRight K T) := by
  have GT : FnOk P w K mg base CX0 1 fT fdT ["one", "other"] (spTimes K fXor) := ok_times R.FT R.ml R.me R.mt
  have GP : FnOk P w K mg base CX0 1 fP fdP ["_law_one", "_law_other"] (spTimes K fMod) := ok_prod R.FP R.ml R.me R.mt
  refine fnG_of lk hcd scRight (fun vs H Q E h => ?_) (fun A outer s H vs Q E hr hg h => ?_)
  · obtain ⟨a, b, xs, ys, rfl, _⟩ := h
    rfl
  · obtain ⟨a, b, xs, ys, rfl, hx, hy, bx, by_, lx, ly, tb, q⟩ := h
    have hg' : (A.deeper (envOfC "_law_right" (defScope sRight) s.heap.objs.size f (.ref c))).guards = some [] := hg
    have hr1 := hr.mono (show 1 ≤ 3 by decide)
    refine ⟨_, PSs.nox (pss_cons (ps_set (i := 2) scRight.nd rfl (.inl rfl) (pe_callB (call_reprD hr hg') (by rfl) R.mrep (by decide +kernel) (pa_cons (pe_lst (pa_cons (pv 0) (pa_cons (pv 1) pa_nil))) pa_nil)))
      (pss_cons (ps_for PassesOwn.never rfl (pi_tup (pe_tup (pa_cons (pe_tup (pa_cons (pv 0) (pa_cons (pv 1) pa_nil))) (pa_cons (pe_tup (pa_cons (pv 1) (pa_cons (pv 0) pa_nil))) pa_nil))))
          (pg_tup rfl (pgs_cons (pg_name (i := 3) scRight.nd rfl (.inr rfl)) (pgs_cons (pg_name (i := 4) scRight.nd rfl (.inr rfl)) pgs_nil)))
        (pss_cons (ps_if (pt_cmpR op_ne (pe_callB (call_reprD hr hg') (by rfl) R.mrep (by decide +kernel) (pa_cons (pe_call GT hr1 (by rfl) R.gT R.FT.kp R.bT .nil pass0 (pa_cons (pv 3) (pa_cons (pv 4) pa_nil))) pa_nil))
              (pe_callB (call_reprD hr hg') (by rfl) R.mrep (by decide +kernel) (pa_cons (pe_call GP hr1 (by rfl) R.gP R.FP.kp R.bP .nil pass0 (pa_cons (pv 3) (pa_cons (pv 4) pa_nil))) pa_nil)) (nomark _))
            (pss_one (ps_ret pe_bl)) pss_nil)
        (pss_one (ps_if (pt_cmpR op_ne (pe_callB call_len_seq (by rfl) R.ml PySem.boot_len (pa_cons (pv 3) pa_nil)) (pe_callB call_len_seq (by rfl) R.ml PySem.boot_len (pa_cons (pv 4) pa_nil)) (nomark _))
          (pss_one (ps_if (pt_cmpR (op_neD hr.units) (LamX.pe_lamcall (k := 1) (T := T) (P := Pt) (t := fun E => tCall (spPlus K T CF) [] E (tCons (tVar 3) (tCons (tVar 4) tNil))) (by rfl) R.gW R.kW lkW hcW bW scWord rfl (.inl rfl) (word_gives R.C9 R.mi R.mv) TB rfl ?m1 ?m2 hr (LamX.lamS_by (sc := defScope sRight) (by decide +kernel)) rfl (fun _ _ _ _ _ => rfl)
              (fun A outer s H E f c' hr => pe_call GS hr (by rfl) R.gS R.kS R.bS .nil (passes_call (takes_of rfl rfl rfl rfl) (fun _ _ _ _ h => h)) (pa_cons (pv 3) (pa_cons (pv 4) pa_nil))))
              (pe_tup (pa_cons pe_str (pa_cons pe_str pa_nil))) (nomark _)) (pss_one (ps_ret pe_bl)) pss_nil))
          (pss_one (ps_if (pt_cmpR op_ne (pe_callB (call_reprD hr hg') (by rfl) R.mrep (by decide +kernel) (pa_cons (pe_call GS hr1 (by rfl) R.gS R.kS R.bS .nil passL (pa_cons (pv 3) (pa_cons (pv 4) pa_nil))) pa_nil))
              (pe_callB (call_reprD hr hg') (by rfl) R.mrep (by decide +kernel) (pa_cons (pe_callTy call_tuple_of (by rfl) R.mt PyProof.Rows.boot_tuple (pa_cons
                (pe_lc (own := [("_law_x", 5), ("_law_y", 6)]) (g := gTup K 2 (gCons (gName 5) (gCons (gName 6) gNil))) (tt := tYes) rfl scRight.nd (RZ.pi_zipA (by rfl) R.mz (pa_cons (pv 3) (pa_cons (pv 4) pa_nil))) (blkOk_by (N := nRight) (sc := defScope sRight) (by decide +kernel))
                  (fun _ _ _ _ _ => pg_tup rfl (pgs_cons (pg_name (i := 5) scRight.nd rfl (Or.inl rfl) (.inr rfl)) (pgs_cons (pg_name (i := 6) scRight.nd rfl (Or.inl rfl) (.inr rfl)) pgs_nil))) (fun _ _ _ _ _ => pts_nil)
                  (fun _ _ _ _ _ => pe_callTy call_int1 (by rfl) R.mint (by decide +kernel) (pa_cons (pe_cmpR op_ne (pv 5) (pv 6) (nomark _)) pa_nil))) pa_nil)) pa_nil)) (nomark _))
            (pss_one (ps_ret pe_bl)) pss_nil))))))
      (pss_one (ps_ret (pe_cmpR op_eq (pe_callB (call_reprD hr hg') (by rfl) R.mrep (by decide +kernel) (pa_cons (pe_lst (pa_cons (pv 0) (pa_cons (pv 1) pa_nil))) pa_nil)) (pv 2) (nomark _)))))), ?_⟩
    case m1 =>
      show (Pt, (("_law_right" : Str) ++ ".<locals>." ++ "<lambda>" : Str)) ∈ T
      rw [hq]
      exact hmT
    case m2 =>
      show ∀ p ∈ T, p.1 = Pt → p.2 = (("_law_right" : Str) ++ ".<locals>." ++ "<lambda>" : Str)
      rw [hq]
      exact hu
    -- kept = repr([one, other])
    have two : (2 : Nat) ≤ sizeLine := by decide
    refine ⟨.ref a, rfl, .ref b, rfl, two, fun L nL => ⟨L, _, rfl, .lst (.inl (.inl upd_same)) (.cons (dpRow (Same.tup (same_upd nL) hx)) (.cons (dpRow (Same.tup (same_upd nL) hy)) .nil)), showTwo bx by_ (by omega) (by omega), ?_⟩⟩
    have s1 : Same H (upd H L (.lst [.ref a, .ref b])) := same_upd nL
    generalize (upd H L (.lst [V.ref a, .ref b])) = H1 at s1
    -- the pairs
    refine ⟨.ref a, rfl, .ref b, rfl, two, fun t1 n1 => ⟨.ref b, rfl, .ref a, rfl, two, fun t2 n2 => ⟨two, fun t3 n3 => ?_⟩⟩⟩
    have g3 : (upd (upd (upd H1 t1 (.tup [.ref a, .ref b])) t2 (.tup [.ref b, .ref a])) t3 (.tup [.ref t1, .ref t2])) t3 = some (.tup [.ref t1, .ref t2]) := upd_same
    have g2 : (upd (upd (upd H1 t1 (.tup [.ref a, .ref b])) t2 (.tup [.ref b, .ref a])) t3 (.tup [.ref t1, .ref t2])) t2 = some (.tup [.ref b, .ref a]) := same_upd n3 _ _ upd_same
    have g1 : (upd (upd (upd H1 t1 (.tup [.ref a, .ref b])) t2 (.tup [.ref b, .ref a])) t3 (.tup [.ref t1, .ref t2])) t1 = some (.tup [.ref a, .ref b]) := same_upd n3 _ _ (same_upd n2 _ _ upd_same)
    have s2 : Same H (upd (upd (upd H1 t1 (.tup [.ref a, .ref b])) t2 (.tup [.ref b, .ref a])) t3 (.tup [.ref t1, .ref t2])) := ((s1.trans (same_upd n1)).trans (same_upd n2)).trans (same_upd n3)
    generalize (upd (upd (upd H1 t1 (.tup [V.ref a, .ref b])) t2 (.tup [V.ref b, .ref a])) t3 (.tup [V.ref t1, .ref t2])) = H2 at g1 g2 g3 s2
    have tb2 : LamX.Tabs T H2 := tb.ext s2
    refine ⟨t3, rfl, ⟨_, .inl (.inl g3)⟩, for_tup (xs := [.ref t1, .ref t2])
      (fun i σ H3 => ∃ y3 y4, σ = [some (.ref a), some (.ref b), some (.str (PyData.list [.tuple (xs.map PyData.int), .tuple (ys.map PyData.int)]).shown), y3, y4, none, none] ∧ LamX.ExtN H2 H3 ∧ LamX.Tabs T H3)
      ⟨none, none, rfl, LamX.ExtN.refl _, tb2⟩ (fun i σ H3 _ ⟨_, _, _, ex, _⟩ => exN_tup ex (.inl (.inl g3))) (fun i x σ H3 hxi hP => ?_) (fun σ H3 hP => ?_)⟩
    · obtain ⟨y3, y4, rfl, ex3, tb3⟩ := hP
      obtain ⟨t, p, r, us, vs, rfl, gt, hp, hr', bu, bv, lu, lv⟩ : ∃ t p r us vs, x = .ref t ∧ H2 t = some (.tup [.ref p, .ref r]) ∧ SqT K H2 p (us.map V.int) ∧ SqT K H2 r (vs.map V.int) ∧ Bits us ∧ Bits vs ∧ us.length ≤ 500 ∧ vs.length ≤ 500 := by
        match i, hxi with
        | 0, e => exact ⟨t1, a, b, xs, ys, (Option.some.inj e).symm, g1, Same.tup s2 hx, Same.tup s2 hy, bx, by_, lx, ly⟩
        | 1, e => exact ⟨t2, b, a, ys, xs, (Option.some.inj e).symm, g2, Same.tup s2 hy, Same.tup s2 hx, by_, bx, ly, lx⟩
        | n + 2, e => simp at e
      refine ⟨t, _, rfl, exN_tup ex3 (.inl (.inl gt)), rfl, _, _, rfl, _, _, rfl, rfl, ?_⟩
      have hp3 := exN_tup ex3 hp
      have hr3 := exN_tup ex3 hr'
      obtain ⟨ep, bp⟩ := prodRow_same xor_mod (xs := us) bv
      have lp := prodRow_len fXor us vs
      have bp2 : Bits (prodRow fMod us vs) := ep ▸ bp
      have lp2 := prodRow_len fMod us vs
      -- the products
      refine ⟨.ref p, rfl, .ref r, rfl, p, r, us, vs, rfl, hp3, hr3, by omega, by omega, fun H4 r1 sm4 hr1 => ⟨r1, _, rfl, dpRow hr1, showRow bp (by omega),
        .ref p, rfl, .ref r, rfl, p, r, us, vs, rfl, Same.tup sm4 hp3, Same.tup sm4 hr3, by omega, by omega, fun H5 r2 sm5 hr2 => ⟨r2, _, rfl, dpRow hr2, showRow bp2 (by omega), rfl, _, rfl, ?_⟩⟩⟩
      rw [← ep]
      refine iteNS rfl ?_
      have ex5 : LamX.ExtN H2 H5 := ex3.trans (LamX.ExtN.of (sm4.trans sm5))
      have tb5 : LamX.Tabs T H5 := tb3.ext (sm4.trans sm5)
      have hp5 := exN_tup ex5 hp
      have hr5 := exN_tup ex5 hr'
      refine ⟨.ref p, rfl, p, _, rfl, .inr hp5, .ref r, rfl, r, _, rfl, .inr hr5, rfl, _, rfl, ite2 (fun e => ?_) (fun e => ?_)⟩
      · have ne : us.length ≠ vs.length := fun z => by
          rw [List.length_map, List.length_map, z] at e
          simp at e
        refine ⟨tb5, fun H6 ex6 tb6 Ech Q1 kE kQ => ⟨.ref p, rfl, .ref r, rfl, p, r, us, vs, rfl, exN_tup ex6 hp5, exN_tup ex6 hr5, tb6, fun z => absurd z ne, fun _ => kE H6 fun H7 r7 sm7 hr7 => ?_⟩⟩
        refine ⟨two, fun r8 n8 => ⟨_, _, .tup (.inl (.inl (same_upd n8 _ _ hr7))) (.cons (.str _) (.cons (.str _) .nil)), .tup (.inl (.inl upd_same)) (.cons (.str _) (.cons (.str _) .nil)), by decide +kernel, by decide +kernel, false, congrArg V.bl (by decide +kernel), iteF ?_⟩⟩
        exact ⟨_, _, rfl, (ex5.trans ex6).trans (LamX.ExtN.of (sm7.trans (same_upd n8))), tb6.ext (sm7.trans (same_upd n8))⟩
      · have eq : us.length = vs.length := by
          rw [List.length_map, List.length_map] at e
          by_cases z : us.length = vs.length
          · exact z
          · refine absurd ?_ e
            have z2 : ¬ V.int (us.length : Int) = V.int (vs.length : Int) := fun y => z (by have := V.int.inj y; omega)
            simp [z2]
        obtain ⟨ez, bz⟩ := zip_same xor_ne us vs bu bv
        have lz : (List.zipWith fXor us vs).length ≤ 10000 := by rw [List.length_zipWith]; omega
        have bz2 : Bits (List.zipWith fNe us vs) := ez ▸ bz
        have lz2 : (List.zipWith fNe us vs).length ≤ 10000 := by rw [List.length_zipWith]; omega
        refine ⟨.ref p, rfl, .ref r, rfl, p, r, us, vs, rfl, hp5, hr5, tb5, fun _ H6 r6 ex6 tb6 n6 => ⟨r6, _, rfl, dpRow (.inl (.inl upd_same)), showRow bz lz, ?_⟩, fun z => absurd eq z⟩
        have ex7 : LamX.ExtN H2 (upd H6 r6 (.tup ((List.zipWith fXor us vs).map V.int))) := (ex5.trans ex6).trans (LamX.ExtN.of (same_upd n6))
        have tb7 : LamX.Tabs T (upd H6 r6 (.tup ((List.zipWith fXor us vs).map V.int))) := tb6.ext (same_upd n6)
        generalize (upd H6 r6 (.tup ((List.zipWith fXor us vs).map V.int))) = H7 at ex7 tb7
        have hp7 := exN_tup ex7 hp
        have hr7 := exN_tup ex7 hr'
        refine ⟨.ref p, rfl, .ref r, rfl, p, r, _, _, rfl, .inr ⟨hp7, hr7, fun D nD => lc_it (walk_zipT (xs := us.map V.int) (ys := vs.map V.int) rfl)
          (fun j H8 => Same H7 H8 ∧ H8 D = some (.lst (((List.zipWith fNe us vs).take j).map V.int))) ⟨same_upd nD, upd_same⟩ (fun j H8 _ hP8 => ⟨Same.tup hP8.1 hp7, Same.tup hP8.1 hr7⟩) (fun j x H8 H8' hj hP8 hY => ?_) (fun H8 hP8 => ?_)⟩⟩
        · rw [List.length_map, List.length_map] at hj
          obtain ⟨sm8, hD⟩ := hP8
          obtain ⟨T2, v1, v2, rfl, nT2, rfl, ev1, ev2⟩ := hY
          have gu : us[j]? = some (us[j]'(by omega)) := List.getElem?_eq_getElem _
          have gv : vs[j]? = some (vs[j]'(by omega)) := List.getElem?_eq_getElem _
          have ev1 : (us.map V.int)[j]? = some v1 := ev1
          have ev2 : (vs.map V.int)[j]? = some v2 := ev2
          rw [List.getElem?_map, gu] at ev1
          rw [List.getElem?_map, gv] at ev2
          cases ev1
          cases ev2
          have DT : D ≠ T2 := ne_of_none hD nT2
          refine ⟨T2, _, rfl, .inl (.inl upd_same), rfl, _, _, rfl, _, _, rfl, rfl, rfl, ?_⟩
          refine ⟨_, rfl, _, rfl, rfl, .inr ⟨_, rfl, _, (upd_ne DT).trans hD, ?_, fun c o e => ?_, ?_⟩⟩
          · rw [List.length_map, List.length_take]
            exact Nat.lt_of_le_of_lt (Nat.le_trans (Nat.min_le_right _ _) lz2) (by decide)
          · have nc : c ≠ D := ne_of_none e nD
            rw [upd_ne nc, upd_ne (ne_of_none (sm8 c o e) nT2)]
            exact sm8 c o e
          · rw [upd_same, take_zip gu gv, List.map_append, fne_eq]
            rfl
        · obtain ⟨sm8, hD⟩ := hP8
          have tk : (List.zipWith fNe us vs).take (min (us.map V.int).length (vs.map V.int).length) = List.zipWith fNe us vs := List.take_of_length_le (by rw [List.length_zipWith, List.length_map, List.length_map]; omega)
          rw [tk] at hD
          refine ⟨D, _, rfl, .inl ⟨.inl (.inl hD), fun l nl => ⟨l, _, rfl, dpRow (.inl (.inl upd_same)), showRow bz2 lz2, rfl, _, rfl, ?_⟩⟩⟩
          rw [← ez]
          refine iteNS rfl ?_
          exact ⟨_, _, rfl, ex7.trans (LamX.ExtN.of (sm8.trans (same_upd nl))), tb7.ext (sm8.trans (same_upd nl))⟩
    · obtain ⟨y3, y4, rfl, ex3, tb3⟩ := hP
      have hx3 := exN_tup ex3 (Same.tup s2 hx)
      have hy3 := exN_tup ex3 (Same.tup s2 hy)
      refine ⟨.ref a, rfl, .ref b, rfl, two, fun L2' nL2 => ⟨L2', _, rfl, .lst (.inl (.inl upd_same)) (.cons (dpRow (Same.tup (same_upd nL2) hx3)) (.cons (dpRow (Same.tup (same_upd nL2) hy3)) .nil)), showTwo bx by_ (by omega) (by omega), .str _, rfl, rfl, ?_⟩⟩
      rw [decide_eq_true rfl]
      exact q _ ((LamX.ExtN.of s2).trans (ex3.trans (LamX.ExtN.of (same_upd nL2)))) (tb3.ext (same_upd nL2))
end
end K02
set_option maxRecDepth 100000
set_option maxHeartbeats 4000000
namespace K02
open PySem PySem.Spec PyProof.Rows L2 Ck
abbrev nLaw : List Str := ["_law_script", "_law_k", "_law_pen_here", "_law_most", "_law_many", "_law_one", "_law_other", "_law_more"]
theorem scLaw : FnScope nLaw ["_law_script"] (defScope sLaw) := ⟨rfl, rfl, rfl, by decide +kernel, rfl, by decide +kernel, by decide +kernel⟩
section
variable {K : PySem.W.Frag} {T : List (Addr × Str)}
theorem but_tabs {p : Addr} {H H' : Hp} {zs : List V} (e : But p H H') (hp : H p = some (.lst zs)) (t : LamX.Tabs T H) : LamX.Tabs T H' := fun q hq => by
  obtain ⟨ps, h1, h2, h3⟩ := t q hq
  refine ⟨ps, e _ _ (fun z => by rw [z, hp] at h1; cases h1) h1, h2, fun pos cv hc => ?_⟩
  obtain ⟨c, e1, e2⟩ := h3 pos cv hc
  refine ⟨c, e1, e _ _ (fun z => ?_) e2⟩
  rw [z, hp] at e2
  unfold LamX.CodeO at e2
  cases e2
theorem but_tup {p : Addr} {H H' : Hp} {zs : List V} {a : Addr} {xs : List V} (e : But p H H') (hp : H p = some (.lst zs)) (h : SqT K H a xs) : SqT K H' a xs := by
  rcases h with (h | ⟨o, h⟩) | h
  · exact .inl (.inl (e _ _ (fun z => by rw [z, hp] at h; cases h) h))
  · exact .inl (.inr ⟨o, e _ _ (fun z => by rw [z, hp] at h; cases h) h⟩)
  · exact .inr h
theorem menu {i : Int} (h0 : 0 ≤ i) (h1 : i ≤ 3) : ∃ v : Int, atI [V.int 41, .int 9, .int 41, .int 201] i = some (.int v) ∧ 0 < v ∧ v ≤ 201 := by
  have h : i = 0 ∨ i = 1 ∨ i = 2 ∨ i = 3 := by omega
  rcases h with rfl | rfl | rfl | rfl
  · exact ⟨41, rfl, by decide, by decide⟩
  · exact ⟨9, rfl, by decide, by decide⟩
  · exact ⟨41, rfl, by decide, by decide⟩
  · exact ⟨201, rfl, by decide, by decide⟩
end
section
variable {P : Program} {w : World} {K : PySem.W.Frag} {mg : Str → Option Value} {base : Heap}
def spLaw (K : PySem.W.Frag) (T : List (Addr × Str)) : Sp := fun vs H Q _ => ∃ (a : Addr) (ns : List Int), vs = [.ref a] ∧ SqL K H a (ns.map V.int) ∧ ns.length ≤ 63 ∧ LamX.Tabs T H ∧ ∀ H', Q (.bl true) H'
theorem ok_law {f fN fD fB fR : Addr} {fdN fdD fdB fdR : FuncData} {T : List (Addr × Str)} {kV doc pm ct oc cdv : Value} {an od : Option Addr} {osl : Array (Option Value)}
    (lk : K.lookup f = some ⟨oc, od, .func (PySem.W.fnOf "law" "law" (defArgs sLaw) (defBody sLaw) (defScope sLaw) .none kV doc pm an cdv ct), osl⟩) (hcd : PySem.W.codeIn K cdv "law" = true)
    (FN : Fun K "_law_pen" "_law_pen" sPen fN fdN) (bN : Binds K fdN ["_law_script", "_law_k"] []) (gN : mg "_law_pen" = some (.ref fN))
    (FD : Fun K "_law_draw" "_law_draw" sDraw fD fdD) (bD : Binds K fdD ["_law_pen_here", "_law_size"] []) (gD : mg "_law_draw" = some (.ref fD))
    (FB : Fun K "_law_bits" "_law_bits" sBits fB fdB) (bB : Binds K fdB ["_law_pen_here", "_law_many"] []) (gB : mg "_law_bits" = some (.ref fB))
    (GR : FnG P w K mg base CX0 4 fR fdR ["_law_one", "_law_other"] (spRight K T)) (kR : PySem.W.keepIn K (.ref fR) = true) (bR : Binds K fdR ["_law_one", "_law_other"] []) (gR : mg "_law_right" = some (.ref fR))
    (ml : mg "len" = none) (mm : mg "min" = none) (mx : mg "max" = none) (ma : mg "abs" = none) (mt : mg "tuple" = none) (mr : mg "range" = none) (mi : mg "int" = none) :
    FnG P w K mg base CX0 5 f (PySem.W.fnOf "law" "law" (defArgs sLaw) (defBody sLaw) (defScope sLaw) .none kV doc pm an cdv ct) ["_law_script"] (spLaw K T) := by
  have GN : FnOk P w K mg base CX0 1 fN fdN ["_law_script", "_law_k"] (spPen K) := ok_pen FN ml mm ma
  have GD : FnOk P w K mg base CX0 1 fD fdD ["_law_pen_here", "_law_size"] (spDraw K) := ok_draw FD
  have GB : FnOk P w K mg base CX0 2 fB fdB ["_law_pen_here", "_law_many"] (spBits K) := ok_bits FB FD bD gD mt mr mi
  refine fnG_of lk hcd scLaw (fun vs H Q E h => ?_) (fun A outer s H vs Q E hr hg h => ?_)
  · obtain ⟨a, ns, rfl, _⟩ := h
    rfl
  · obtain ⟨a, ns, rfl, hS, hlen, tb, q⟩ := h
    have hg' : (A.deeper (envOfC "law" (defScope sLaw) s.heap.objs.size f cdv)).guards = some [] := hg
    have hr1 := hr.mono (show 1 ≤ 4 by decide)
    have hr2 := hr.mono (show 2 ≤ 4 by decide)
    refine ⟨_, PSs.nox (pss_cons (ps_for PassesOwn.never rfl (pi_range1 (by rfl) mr (pa_cons (pe_callB (call_max2 rfl) (by rfl) mx (by decide +kernel) (pa_cons pe_int (pa_cons
          (pe_callB (call_min2 rfl) (by rfl) mm (by decide +kernel) (pa_cons (pe_callB call_len_seq (by rfl) ml PySem.boot_len (pa_cons (pv 0) pa_nil)) (pa_cons pe_int pa_nil))) pa_nil))) pa_nil))
        (pg_name (i := 1) scLaw.nd rfl (.inl rfl))
        (pss_cons (ps_set (i := 2) scLaw.nd rfl (.inl rfl) (pe_call GN hr1 (by rfl) gN FN.kp bN .nil pass0 (pa_cons (pv 0) (pa_cons (pv 1) pa_nil))))
        (pss_cons (ps_set (i := 3) scLaw.nd rfl (.inl rfl) (pe_ix ix_list (pe_lst (pa_cons pe_int (pa_cons pe_int (pa_cons pe_int (pa_cons pe_int pa_nil)))))
          (pe_op op_mul (pe_op op_mod (pe_op op_fdiv (pe_call GD hr1 (by rfl) gD FD.kp bD .nil pass0 (pa_cons (pv 2) (pa_cons pe_int pa_nil))) pe_int) pe_int) (pe_callTy call_int1 (by rfl) mi (by decide +kernel) (pa_cons (pe_cmpR op_eq (pv 1) pe_int (nomark _)) pa_nil))) (fun _ _ => rfl)))
        (pss_cons (ps_set (i := 4) scLaw.nd rfl (.inl rfl) (pe_call GD hr1 (by rfl) gD FD.kp bD .nil pass0 (pa_cons (pv 2) (pa_cons (pv 3) pa_nil))))
        (pss_cons (ps_set (i := 5) scLaw.nd rfl (.inl rfl) (pe_call GB hr2 (by rfl) gB FB.kp bB .nil pass0 (pa_cons (pv 2) (pa_cons (pv 4) pa_nil))))
        (pss_cons (ps_set (i := 6) scLaw.nd rfl (.inl rfl) (pe_call GB hr2 (by rfl) gB FB.kp bB .nil pass0 (pa_cons (pv 2) (pa_cons (pv 4) pa_nil))))
        (pss_cons (ps_set (i := 7) scLaw.nd rfl (.inl rfl) (pe_call GB hr2 (by rfl) gB FB.kp bB .nil pass0 (pa_cons (pv 2) (pa_cons (pe_call GD hr1 (by rfl) gD FD.kp bD .nil pass0 (pa_cons (pv 2) (pa_cons pe_int pa_nil))) pa_nil))))
        (pss_one (ps_if (PW.pt (pw_or (pt_not (pt_val (pe_callG GR hr hg' (by rfl) gR kR bR pass0 (pa_cons (pv 5) (pa_cons (pv 6) pa_nil)))))
            (pw_or (pt_not (pt_val (pe_callG GR hr hg' (by rfl) gR kR bR pass0 (pa_cons (pv 5) (pa_cons (pv 7) pa_nil)))))
            (pw_or1 (pt_not (pt_val (pe_callG GR hr hg' (by rfl) gR kR bR pass0 (pa_cons (pv 5) (pa_cons (pv 5) pa_nil)))))))))
          (pss_one (ps_ret pe_bl)) pss_nil)))))))))
      (pss_one (ps_ret (pe_and (pe_callG GR hr hg' (by rfl) gR kR bR pass0 (pa_cons (pe_tup pa_nil) (pa_cons (pe_tup pa_nil) pa_nil)))
        (pe_one (pe_callG GR hr hg' (by rfl) gR kR bR pass0 (pa_cons (pe_tup pa_nil) (pa_cons (pe_tup (pa_cons pe_int pa_nil)) pa_nil)))))))), ?_⟩
    have p62 : (2 : Int) ^ 62 = 4611686018427387904 := by decide
    have nl : ((ns.map V.int).length : Int) = (ns.length : Int) := by rw [List.length_map]
    refine ⟨.ref a, rfl, a, _, rfl, .inl hS, _, _, rfl, _, _, rfl, _, rfl, ?_, ?_, for_range (lo := 0)
      (fun i σ H3 => ∃ y1 y2 y3 y4 y5 y6 y7, σ = [some (.ref a), y1, y2, y3, y4, y5, y6, y7] ∧ LamX.ExtN H H3 ∧ LamX.Tabs T H3) ⟨_, _, _, _, _, _, _, rfl, LamX.ExtN.refl _, tb⟩ (fun i σ H3 hi hP => ?_) (fun σ H3 hP => ?_)⟩
    · rw [nl]
      split <;> split <;> omega
    · rw [nl]
      split <;> split <;> omega
    · have hi8 : i < 8 := by
        rw [nl] at hi
        split at hi <;> split at hi <;> omega
      obtain ⟨y1, y2, y3, y4, y5, y6, y7, rfl, ex3, tb3⟩ := hP
      -- pen
      refine ⟨.ref a, rfl, .int (0 + (i : Int)), rfl, a, ns, _, rfl, exN_lst ex3 hS, hlen, by omega, by omega, fun H4 p xs0 sm4 np hp hP0 => ?_⟩
      have ex4 : LamX.ExtN H H4 := ex3.trans (LamX.ExtN.of sm4)
      have tb4 : LamX.Tabs T H4 := tb3.ext sm4
      have off : ∀ {H' : Hp}, But p H4 H' → LamX.ExtN H3 H' := fun {H'} e b o hb _ => e b o (ne_of_none hb np) (sm4 b o hb)
      -- most
      refine ⟨by show 4 ≤ sizeLine; decide, fun M nM => ?_⟩
      have pM : p ≠ M := ne_of_none hp nM
      refine ⟨.ref p, rfl, p, xs0, 8, 0, rfl, (upd_ne pM).trans hp, hP0, by decide, by decide, by decide, fun d1 xs1 d10 d11 hP1 => ?_⟩
      have b1 : But p H4 (upd (upd H4 M (.lst [.int 41, .int 9, .int 41, .int 201])) p (.lst xs1)) := (But.of (same_upd nM)).trans (But.upd p _ _)
      have hp1 : (upd (upd H4 M (.lst [.int 41, .int 9, .int 41, .int 201])) p (.lst xs1)) p = some (.lst xs1) := upd_same
      have hM1 : (upd (upd H4 M (.lst [.int 41, .int 9, .int 41, .int 201])) p (.lst xs1)) M = some (.lst [.int 41, .int 9, .int 41, .int 201]) := (upd_ne pM.symm).trans upd_same
      generalize (upd (upd H4 M (.lst [V.int 41, .int 9, .int 41, .int 201])) p (.lst xs1)) = H5 at b1 hp1 hM1
      have m0 : 0 ≤ d1 / 2 % 4 := Int.emod_nonneg _ (by decide)
      have m1 : d1 / 2 % 4 < 4 := Int.emod_lt_of_pos _ (by decide)
      obtain ⟨v, hv, v0, v1⟩ : ∃ v : Int, atI [V.int 41, .int 9, .int 41, .int 201] (d1 / 2 % 4 * (if decide (V.int (0 + (i : Int)) = V.int 0) = true then 1 else 0)) = some (.int v) ∧ 0 < v ∧ v ≤ 201 := by
        refine menu ?_ ?_
        · split <;> omega
        · split <;> omega
      refine ⟨_, _, rfl, rfl, ⟨by decide, by decide⟩, _, _, rfl, rfl, (by show (0 : Int) < 4; decide), .int (0 + (i : Int)), rfl, rfl, .inr ⟨_, rfl, _, _, rfl, rfl, .inl ⟨by omega, by omega⟩, M, _, _, .int v, rfl, rfl, .inl (.inl hM1), hv, ?_⟩⟩
      -- many
      refine ⟨.ref p, rfl, .int v, rfl, p, xs1, v, 1, rfl, hp1, hP1, by decide, v0, by omega, fun d2 xs2 d20 d21 hP2 => ?_⟩
      have b2 : But p H4 (upd H5 p (.lst xs2)) := b1.trans (But.upd p _ _)
      have hp2 : (upd H5 p (.lst xs2)) p = some (.lst xs2) := upd_same
      generalize (upd H5 p (.lst xs2)) = H6 at b2 hp2
      -- one, other, more
      refine ⟨.ref p, rfl, .int d2, rfl, p, xs2, d2, 2, rfl, hp2, hP2, by decide, d20, by omega, fun us H7 tu xs3 bu lu c7 hp3 hP3 hu => ?_⟩
      refine ⟨.ref p, rfl, .int d2, rfl, p, xs3, d2, 2 + 2 + d2.toNat, rfl, hp3, hP3, by omega, d20, by omega, fun vs H8 tv xs4 bv lv c8 hp4 hP4 hv' => ?_⟩
      refine ⟨.ref p, rfl, .ref p, rfl, p, xs4, 12, 2 + 2 + d2.toNat + 2 + d2.toNat, rfl, hp4, hP4, by omega, by decide, by decide, fun d3 xs5 d30 d31 hP5 => ?_⟩
      have c9 : But p H8 (upd H8 p (.lst xs5)) := But.upd p _ _
      have hp5 : (upd H8 p (.lst xs5)) p = some (.lst xs5) := upd_same
      generalize (upd H8 p (.lst xs5)) = H9 at c9 hp5
      refine ⟨p, xs5, d3, _, rfl, hp5, hP5, by omega, d30, by omega, fun ws H10 tw xs6 bw lw c10 hp6 hP6 hw => ?_⟩
      have tb10 : LamX.Tabs T H10 := but_tabs c10 hp5 (but_tabs c9 hp4 (but_tabs c8 hp3 (but_tabs (b2.trans c7) hp tb4)))
      have ex10 : LamX.ExtN H H10 := ex3.trans (off (((b2.trans c7).trans c8).trans (c9.trans c10)))
      have hu10 : SqT K H10 tu (us.map V.int) := but_tup c10 hp5 (but_tup c9 hp4 (but_tup c8 hp3 hu))
      have hv10 : SqT K H10 tv (vs.map V.int) := but_tup c10 hp5 (but_tup c9 hp4 hv')
      refine ⟨.ref tu, rfl, .ref tv, rfl, tu, tv, us, vs, rfl, hu10, hv10, bu, bv, by omega, by omega, tb10, fun H11 e11 t11 => ⟨true, rfl, iteF ?_⟩⟩
      refine ⟨.ref tu, rfl, .ref tw, rfl, tu, tw, us, ws, rfl, exN_tup e11 hu10, exN_tup e11 hw, bu, bw, by omega, by omega, t11, fun H12 e12 t12 => ⟨true, rfl, iteF ?_⟩⟩
      refine ⟨.ref tu, rfl, .ref tu, rfl, tu, tu, us, us, rfl, exN_tup (e11.trans e12) hu10, exN_tup (e11.trans e12) hu10, bu, bu, by omega, by omega, t12, fun H13 e13 t13 => ⟨true, rfl, iteF ?_⟩⟩
      exact ⟨_, _, _, _, _, _, _, rfl, ((ex10.trans e11).trans e12).trans e13, t13⟩
    · obtain ⟨y1, y2, y3, y4, y5, y6, y7, rfl, ex3, tb3⟩ := hP
      have b0 : Bits [] := fun x hx => by cases hx
      have b1 : Bits [1] := fun x hx => .inr (List.mem_singleton.mp hx)
      refine ⟨Nat.zero_le _, fun t1 n1 => ⟨Nat.zero_le _, fun t2 n2 => ⟨t1, t2, [], [], rfl, .inl (.inl (same_upd n2 _ _ upd_same)), .inl (.inl upd_same), b0, b0, by decide, by decide, tb3.ext ((same_upd n1).trans (same_upd n2)), fun H4 e4 t4 => ⟨true, rfl, iteT ?_⟩⟩⟩⟩
      refine ⟨Nat.zero_le _, fun t3 n3 => ⟨by show 1 ≤ sizeLine; decide, fun t5 n5 => ⟨t3, t5, [], [1], rfl, .inl (.inl (same_upd n5 _ _ upd_same)), .inl (.inl upd_same), b0, b1, by decide, by decide, t4.ext ((same_upd n3).trans (same_upd n5)), fun H6 e6 t6 => q H6⟩⟩⟩
end
end K02
set_option maxRecDepth 100000
set_option maxHeartbeats 4000000
namespace K02
open PySem PySem.Spec PyProof.Rows L2 Ck
/-- a def as it stands in the written part -/
structure Def (K : PySem.W.Frag) (mg : Str → Option Value) (x : Str) (st : Stmt) (f : Addr) (cd : Value) (fd : FuncData) : Prop where
  g : mg x = some (.ref f)
  ex : ∃ (oc : Value) (od : Option Addr) (kV doc pm : Value) (an : Option Addr) (ct : Value) (osl : Array (Option Value)),
    fd = PySem.W.fnOf x x (defArgs st) (defBody st) (defScope st) .none kV doc pm an cd ct ∧ K.lookup f = some ⟨oc, od, .func fd, osl⟩ ∧ PySem.W.codeIn K cd x = true
  kp : PySem.W.keepIn K (.ref f) = true
theorem def_mk {K : PySem.W.Frag} {h : Heap} {mg : Str → Option Value} {x : Str} {st : Stmt} {f : Addr} {oc : Value} {od an : Option Addr} {osl : Array (Option Value)} {kV doc pm cd ct : Value} (KX : K.In h) (G : h.Ns mainGlobals mg)
    (a : PySem.W.nsIn K mainGlobals x = some (some (.ref f))) (l : K.lookup f = some ⟨oc, od, .func (PySem.W.fnOf x x (defArgs st) (defBody st) (defScope st) .none kV doc pm an cd ct), osl⟩)
    (c : PySem.W.codeIn K cd x = true) (k : PySem.W.keepIn K (.ref f) = true) : Def K mg x st f cd (PySem.W.fnOf x x (defArgs st) (defBody st) (defScope st) .none kV doc pm an cd ct) :=
  ⟨PySem.W.mg_of KX G a, ⟨oc, od, kV, doc, pm, an, ct, osl, rfl, l, c⟩, k⟩
theorem Def.fn {K : PySem.W.Frag} {mg : Str → Option Value} {x : Str} {st : Stmt} {f : Addr} {cd : Value} {fd : FuncData} (D : Def K mg x st f cd fd) : Fun K x x st f fd := by
  obtain ⟨oc, od, kV, doc, pm, an, ct, osl, rfl, l, c⟩ := D.ex
  exact fun_mk l c D.kp
/-- a code object and its table, empty at first -/
structure Tab (K : PySem.W.Frag) (h : Heap) (c P : Addr) : Prop where
  hd : PySem.W.CodeHd h c P
  no : K.lookup P = none
  em : h.get? P = some { cls := .none, data := .fields #[] }
theorem tab_mk {K : PySem.W.Frag} {h : Heap} {mg : Str → Option Value} {x : Str} {st : Stmt} {f c P : Addr} {fd : FuncData} {e : Value} {dd : Option Addr} {us : Array Value} {sl : Array (Option Value)} (KX : K.In h) (D : Def K mg x st f (.ref c) fd)
    (own : LamX.OwnTab K f h) (l : K.lookup c = some ⟨e, dd, .fields us, sl⟩) (t : us[11]? = some (.ref P)) (hd : PySem.W.codeHdIn K c P = true) (no : K.lookup P = none) : Tab K h c P := by
  obtain ⟨oc, od, kV, doc, pm, an, ct, osl, rfl, lk, _⟩ := D.ex
  exact ⟨PySem.W.codeHd_of_K KX hd, no, own c P _ _ e dd us sl lk rfl rfl l t⟩
theorem cls_mk {K : PySem.W.Frag} {h : Heap} {mg : Str → Option Value} {CE CN CF CD B1 B2 B3 B4 B5 B6 B7 : Addr} (KX : K.In h) (G : h.Ns mainGlobals mg)
    (aE : PySem.W.nsIn K mainGlobals "CheckError" = some (some (.ref CE))) (aN : PySem.W.nsIn K mainGlobals "NoNumber" = some (some (.ref CN))) (aF : PySem.W.nsIn K mainGlobals "NoFit" = some (some (.ref CF))) (aD : PySem.W.nsIn K mainGlobals "NoDivisor" = some (some (.ref CD)))
    (a1 : PySem.W.nsIn K mainGlobals "NoBack" = some (some (.ref B1))) (a2 : PySem.W.nsIn K mainGlobals "NoPlace" = some (some (.ref B2))) (a3 : PySem.W.nsIn K mainGlobals "NoRow" = some (some (.ref B3))) (a4 : PySem.W.nsIn K mainGlobals "NoSheet" = some (some (.ref B4)))
    (a5 : PySem.W.nsIn K mainGlobals "NoStyle" = some (some (.ref B5))) (a6 : PySem.W.nsIn K mainGlobals "NoText" = some (some (.ref B6))) (a7 : PySem.W.nsIn K mainGlobals "NoWord" = some (some (.ref B7)))
    (o : PySem.W.kitAny K (.ref CF) [.ref B1, .ref B2, .ref B3, .ref B4, .ref B5, .ref B6, .ref B7] = some false) (ex : PySem.W.exmOne K (.ref CF) (.ref CE) = some true)
    (kN : PySem.W.kitOne K (.ref CF) (.ref CN) = some false) (kF : PySem.W.kitOne K (.ref CF) (.ref CF) = some true) (kD : PySem.W.kitOne K (.ref CF) (.ref CD) = some false) (kV : PySem.W.kitOne K (.ref CF) (.type "ValueError") = some true) (ec : ExcC K CF) :
    Cls9 K mg CE CN CF CD CF :=
  ⟨PySem.W.mg_of KX G aE, PySem.W.mg_of KX G aN, PySem.W.mg_of KX G aF, PySem.W.mg_of KX G aD,
    ⟨B1, B2, B3, B4, B5, B6, B7, PySem.W.mg_of KX G a1, PySem.W.mg_of KX G a2, PySem.W.mg_of KX G a3, PySem.W.mg_of KX G a4, PySem.W.mg_of KX G a5, PySem.W.mg_of KX G a6, PySem.W.mg_of KX G a7, o⟩, ex, kN, kF, kD, kV, ec⟩
theorem all_mk {l : PySem.W.OpenLaw} {w : World} {K : PySem.W.Frag} {h : Heap} {mg : Str → Option Value} {fa : Addr} (hfa : mg "law" = some (.ref fa))
    {fT fP fW fS fN fD fB fR fL CE CN CF CD cS PS cR PR : Addr} {cdT cdP cdW cdN cdD cdB cdL : Value} {fdT fdP fdW fdS fdN fdD fdB fdR fdL : FuncData}
    (DS : Def K mg "plus_rows" sPlus fS (.ref cS) fdS) (DT : Def K mg "times_rows" sTimes fT cdT fdT) (DN : Def K mg "_law_pen" sPen fN cdN fdN) (DD : Def K mg "_law_draw" sDraw fD cdD fdD) (DB : Def K mg "_law_bits" sBits fB cdB fdB)
    (DW : Def K mg "_law_word" sWord fW cdW fdW) (DP : Def K mg "_law_product" sProd fP cdP fdP) (DR : Def K mg "_law_right" sRight fR (.ref cR) fdR) (DL : Def K mg "law" sLaw fL cdL fdL)
    (KX : K.In h) (own : ∀ y ∈ [("plus_rows" : Str), "_law_right"], ∀ f, mg y = some (.ref f) → LamX.OwnTab K f h)
    {e1 e2 : Value} {dd1 dd2 : Option Addr} {us1 us2 : Array Value} {sl1 sl2 : Array (Option Value)}
    (m1 : K.lookup cS = some ⟨e1, dd1, .fields us1, sl1⟩) (t1 : us1[11]? = some (.ref PS)) (h1 : PySem.W.codeHdIn K cS PS = true) (n1 : K.lookup PS = none)
    (m2 : K.lookup cR = some ⟨e2, dd2, .fields us2, sl2⟩) (t2 : us2[11]? = some (.ref PR)) (h2 : PySem.W.codeHdIn K cR PR = true) (n2 : K.lookup PR = none) (ne : PS ≠ PR)
    (C9 : Cls9 K mg CE CN CF CD CF)
    (xF : PySem.W.excIn K CF [.type "ValueError", .type "Exception", .type "BaseException", .type "object"] "ValueError.__new__" = true) (kF : PySem.W.keepIn K (.ref CF) = true)
    (bF : PySem.W.subIn K (.ref CF) (.type "BaseException") = some true) (tF : PySem.W.typeIn K (.ref CF) = some (.type "type"))
    (ml : mg "len" = none) (me : mg "enumerate" = none) (mt : mg "tuple" = none) (mz : mg "zip" = none) (mrep : mg "repr" = none) (mint : mg "int" = none) (mi : mg "isinstance" = none) (mv : mg "ValueError" = none)
    (mm : mg "min" = none) (mx : mg "max" = none) (ma : mg "abs" = none) (mr : mg "range" = none) :
    LawG l w K CX0 5 63 "_law_script" mg fa h := by
  obtain rfl : fa = fL := by
    have e := hfa.symm.trans DL.g
    cases e
    rfl
  have tS : Tab K h cS PS := tab_mk KX DS (own _ List.mem_cons_self _ DS.g) m1 t1 h1 n1
  have tR : Tab K h cR PR := tab_mk KX DR (own _ (List.mem_cons_of_mem _ List.mem_cons_self) _ DR.g) m2 t2 h2 n2
  have bT := DT.fn.binds (ps := ["one", "other"]) fun _ _ _ _ _ _ us hl => match us, hl with | [_, _], _ => rfl
  have bS := DS.fn.binds (ps := ["one", "other"]) fun _ _ _ _ _ _ us hl => match us, hl with | [_, _], _ => rfl
  have bP := DP.fn.binds (ps := ["_law_one", "_law_other"]) fun _ _ _ _ _ _ us hl => match us, hl with | [_, _], _ => rfl
  have bR := DR.fn.binds (ps := ["_law_one", "_law_other"]) fun _ _ _ _ _ _ us hl => match us, hl with | [_, _], _ => rfl
  have bN := DN.fn.binds (ps := ["_law_script", "_law_k"]) fun _ _ _ _ _ _ us hl => match us, hl with | [_, _], _ => rfl
  have bD := DD.fn.binds (ps := ["_law_pen_here", "_law_size"]) fun _ _ _ _ _ _ us hl => match us, hl with | [_, _], _ => rfl
  have bB := DB.fn.binds (ps := ["_law_pen_here", "_law_many"]) fun _ _ _ _ _ _ us hl => match us, hl with | [_, _], _ => rfl
  have bW := DW.fn.binds (ps := ["_law_asked"]) fun _ _ _ _ _ _ us hl => match us, hl with | [_], _ => rfl
  have qS := DS.ex
  have qR := DR.ex
  have qW := DW.ex
  have qL := DL.ex
  obtain ⟨oc1, od1, kV1, doc1, pm1, an1, ct1, osl1, rfl, lS, cSd⟩ := qS
  obtain ⟨oc2, od2, kV2, doc2, pm2, an2, ct2, osl2, rfl, lR, cRd⟩ := qR
  obtain ⟨oc3, od3, kV3, doc3, pm3, an3, ct3, osl3, rfl, lW, cWd⟩ := qW
  obtain ⟨oc4, od4, kV4, doc4, pm4, an4, ct4, osl4, rfl, lL, cLd⟩ := qL
  obtain ⟨q1, hq1⟩ : ∃ q1 : Str, (("plus_rows" : Str) ++ ".<locals>." ++ "<genexpr>" : Str) = q1 := ⟨_, rfl⟩
  obtain ⟨q2, hq2⟩ : ∃ q2 : Str, (("_law_right" : Str) ++ ".<locals>." ++ "<lambda>" : Str) = q2 := ⟨_, rfl⟩
  have u1 : ∀ p ∈ [(PS, q1), (PR, q2)], p.1 = PS → p.2 = q1 := fun p hp e => by
    rcases List.mem_cons.mp hp with z | z
    · rw [z]
    · rw [List.mem_singleton.mp z] at e
      exact absurd e.symm ne
  have u2 : ∀ p ∈ [(PS, q1), (PR, q2)], p.1 = PR → p.2 = q2 := fun p hp e => by
    rcases List.mem_cons.mp hp with z | z
    · rw [z] at e
      exact absurd e ne
    · rw [List.mem_singleton.mp z]
  refine ⟨PySem.W.fnOf "law" "law" (defArgs sLaw) (defBody sLaw) (defScope sLaw) .none kV4 doc4 pm4 an4 cdL ct4, [(cS, PS), (cR, PR)], spLaw K [(PS, q1), (PR, q2)], fun q hq => ?_, fun q hq => ?_, fun q hq => ?_, fun s u => .of_eq rfl, fun H a ns hl hT hS => ?_, fun base kb nb hTB => ?_⟩
  · rcases List.mem_cons.mp hq with z | z
    · rw [z]
      exact tS.em
    · rw [List.mem_singleton.mp z]
      exact tR.em
  · rcases List.mem_cons.mp hq with z | z
    · rw [z]
      exact tS.no
    · rw [List.mem_singleton.mp z]
      exact tR.no
  · rcases List.mem_cons.mp hq with z | z
    · rw [z]
      exact tS.hd
    · rw [List.mem_singleton.mp z]
      exact tR.hd
  · refine ⟨a, ns, rfl, hS, hl, fun p hp => ?_, fun _ => rfl⟩
    rcases List.mem_cons.mp hp with z | z
    · rw [z]
      exact LamX.TabS.nil (hT (cS, PS) List.mem_cons_self)
    · rw [List.mem_singleton.mp z]
      exact LamX.TabS.nil (hT (cR, PR) (List.mem_cons_of_mem _ List.mem_cons_self))
  · have TS := hTB (cS, PS) List.mem_cons_self
    have TR := hTB (cR, PR) (List.mem_cons_of_mem _ List.mem_cons_self)
    have GS := ok_plus (P := l.prog) (w := w) (k := 0) lS cSd TS hq1 List.mem_cons_self u1 ml mt mz C9.gF xF kF bF tF
    have R : TopR K mg base [(PS, q1), (PR, q2)] fT fP fW fS CE CN CF CD fdT fdP _ := ⟨DT.fn, bT, DT.g, DP.fn, bP, DP.g, DW.g, DW.kp, DS.g, DS.kp, bS, C9, ml, me, mt, mz, mrep, mint, mi, mv⟩
    have GR := ok_right (P := l.prog) (w := w) (k := 0) lR cRd TR hq2 (List.mem_cons_of_mem _ List.mem_cons_self) u2 R GS lW cWd bW
    exact ok_law lL cLd DN.fn bN DN.g DD.fn bD DD.g DB.fn bB DB.g GR DR.kp bR DR.g ml mm mx ma mt mr mint
end K02
open PySem PySem.W PyProof.Rows
set_option maxRecDepth 100000
set_option maxHeartbeats 0 in
theorem PySem.Challenge.cw_checkrows_k02_rows_added_and_multiplied_holds : PySem.Challenge.rw_checkrows_k02_rows_added_and_multiplied.Holds := by
  w_on; o_law; k_head; (case hw => w_witness2)
  k_fill
  refine Ck.walk_ofG2 (l := PySem.Challenge.rw_checkrows_k02_rows_added_and_multiplied) (n := 63) (k := 5) (x := "_law_script") (CX := fun _ => L2.CX0) ["plus_rows", "_law_right"] rfl (by decide) rfl ⟨rfl, by decide, by decide⟩ (by decide +kernel) (fun w h Y => PySem.W.km_in_of Y) ?F (fun _ _ _ _ _ h => h)
  case F =>
    intro w mg fa h KX G hmg own
    refine' K02.all_mk hmg (K02.def_mk KX G ?a1 ?l1 ?c1 ?k1) (K02.def_mk KX G ?a2 ?l2 ?c2 ?k2) (K02.def_mk KX G ?a3 ?l3 ?c3 ?k3) (K02.def_mk KX G ?a4 ?l4 ?c4 ?k4) (K02.def_mk KX G ?a5 ?l5 ?c5 ?k5)
      (K02.def_mk KX G ?a6 ?l6 ?c6 ?k6) (K02.def_mk KX G ?a7 ?l7 ?c7 ?k7) (K02.def_mk KX G ?a8 ?l8 ?c8 ?k8) (K02.def_mk KX G ?a9 ?l9 ?c9 ?k9)
      KX own ?m1 ?t1 ?h1 ?n1 ?m2 ?t2 ?h2 ?n2 ?ne (K02.cls_mk KX G ?b1 ?b2 ?b3 ?b4 ?b5 ?b6 ?b7 ?b8 ?b9 ?b10 ?b11 ?o1 ?o2 ?o3 ?o4 ?o5 ?o6 ⟨?e1, ?e2, ?e3, ?e4, ?e5, ?e6, ?e7, ?e8⟩) ?xF ?kF ?bF ?tF
      (PySem.W.mg_none_of KX G ?z1) (PySem.W.mg_none_of KX G ?z2) (PySem.W.mg_none_of KX G ?z3) (PySem.W.mg_none_of KX G ?z4) (PySem.W.mg_none_of KX G ?z5) (PySem.W.mg_none_of KX G ?z6) (PySem.W.mg_none_of KX G ?z7) (PySem.W.mg_none_of KX G ?z8)
      (PySem.W.mg_none_of KX G ?z9) (PySem.W.mg_none_of KX G ?z10) (PySem.W.mg_none_of KX G ?z11) (PySem.W.mg_none_of KX G ?z12)
    (case a1 => k_is); (case l1 => k_is); (case c1 => k_is); (case k1 => k_is)
    (case a2 => k_is); (case l2 => k_is); (case c2 => k_is); (case k2 => k_is)
    (case a3 => k_is); (case l3 => k_is); (case c3 => k_is); (case k3 => k_is)
    (case a4 => k_is); (case l4 => k_is); (case c4 => k_is); (case k4 => k_is)
    (case a5 => k_is); (case l5 => k_is); (case c5 => k_is); (case k5 => k_is)
    (case a6 => k_is); (case l6 => k_is); (case c6 => k_is); (case k6 => k_is)
    (case a7 => k_is); (case l7 => k_is); (case c7 => k_is); (case k7 => k_is)
    (case a8 => k_is); (case l8 => k_is); (case c8 => k_is); (case k8 => k_is)
    (case a9 => k_is); (case l9 => k_is); (case c9 => k_is); (case k9 => k_is)
    (case z1 => k_is); (case z2 => k_is); (case z3 => k_is); (case z4 => k_is); (case z5 => k_is); (case z6 => k_is); (case z7 => k_is); (case z8 => k_is); (case z9 => k_is); (case z10 => k_is); (case z11 => k_is); (case z12 => k_is)
    (case m1 => k_is); (case t1 => exact rfl); (case h1 => kernel_rfl); (case n1 => kernel_rfl)
    (case m2 => k_is); (case t2 => exact rfl); (case h2 => kernel_rfl); (case n2 => kernel_rfl); (case ne => decide)
    (case b1 => k_is); (case b2 => k_is); (case b3 => k_is); (case b4 => k_is); (case b5 => k_is); (case b6 => k_is); (case b7 => k_is); (case b8 => k_is); (case b9 => k_is); (case b10 => k_is); (case b11 => k_is)
    (case o1 => kernel_rfl); (case o2 => kernel_rfl); (case o3 => kernel_rfl); (case o4 => kernel_rfl); (case o5 => kernel_rfl); (case o6 => kernel_rfl)
    (case e1 => k_is); (case e2 => k_is); (case e3 => k_is); (case e4 => k_is); (case e5 => k_is); (case e6 => k_is); (case e7 => k_is); (case e8 => k_is)
    (case xF => k_exc); (case kF => k_is); (case bF => k_is); (case tF => k_is)
