import PyProof.Rows.All
import Wide.All
import OpenK.AllK
import Wide.FinOn
import HandS.ForMost
import HandS.AnyAll
import HandS.IsInst
import HandS.Replace
import HandS.Walk
import HandS.Codes
import HandS.Wide
import HandS.EndTab
import HandS.EndOwn
import PySem.Challenge.RW_walkrooms_k01_names
set_option Elab.async false
set_option linter.all false
set_option maxRecDepth 100000
set_option maxHeartbeats 2000000
/-! all(test for x in text) where the test reads a captured text of the def. -/
namespace Wk
open PySem PySem.Spec PyProof.Rows L2 GxR
section
variable {X : Cx} {pins : List (Addr × Obj)} {σ : L2.St} {H : Hp} {s : Shared}
/-- the test of one sign c, in a frame whose cell for y holds the text z -/
def EltC (X : Cx) (scope : Scope) (x y : Str) (elt : Expr) (pb : Str → Nat → Bool) : Prop :=
  ∀ (z : Str) (ce : Env) (B : Around) (F : Value → Shared → Prop) (c : Nat) (t ty : Tok) (cy : Addr) (r : Shared) (m : Str → Option Value),
    ce.scope = scope → ce.cells.lookup y = some cy → r.heap.IsCell cy (some (.str z ty)) → r.heap.Ns ce.locals m → m x = some (.str ⟨#[c]⟩ t) →
    wpAny (model X.prog X.w) B (eval elt ce) (fun b r' => b = .bool (pb z c) ∧ Keeps r r') F r
/-- x in y, y captured -/
theorem elt_in {scope : Scope} {x y : Str} {p1 p2 p3 : Pos} (hk : scope.kind = .function) (hl : scope.names.lookup x = some .local) (hf : scope.names.lookup y = some .free)
    (hd : (x == ("__debug__" : Str)) = false := by decide) (hd2 : (y == ("__debug__" : Str)) = false := by decide) (hd3 : (y == ("__classdict__" : Str)) = false := by decide) :
    EltC X scope x y (.Compare (.Name x p1) [.In] [.Name y p2] p3) (fun z c => decide (c ∈ z.cps.toList)) := by
  intro z ce B F c t ty cy r m hs hc hcell hn hm
  have k1 : ce.scope.kind = .function := by rw [hs]; exact hk
  have k2 : ce.kindOf x = some .local := by show ce.scope.names.lookup x = _; rw [hs]; exact hl
  have k3 : ce.kindOf y = some .free := by show ce.scope.names.lookup y = _; rw [hs]; exact hf
  refine wpAny_Compare1 (wpAny_Name (wpAny_loadName_local k1 k2 hn hm ?_) hd)
  refine wpAny_Name (wpAny_loadName_free k1 k3 hc hcell ?_ hd3) hd2
  exact PyProof.Rows.in_str ⟨congrArg Value.bool (PySem.StrLaws.found_one z c), keeps_refl _⟩
/-- the reading: slot i holds the captured text -/
def tAllC (P : Addr) (i : Nat) (pb : Str → Nat → Bool) (te : TE) : TE := fun σ H Q => te σ H fun v H1 => ∃ a z : Str, v = .str a ∧ σ[i]? = some (some (.str z)) ∧ TabG H1 P ∧
  ∀ H2, Tabbed P H1 H2 → Q (.bl (a.cps.toList.all (pb z))) H2
theorem gen_cap {c P : Addr} {elt iter : Expr} {x y : Str} {px gpos : Pos} {scope : Scope} {pb : Str → Nat → Bool} {te : TE} {k i : Nat} {Q' : Value → Shared → Prop} {R : Str → Str → Hp → Prop}
    (hr : Room k X.A) (TB : GxR.TabB X.base X.mg c P) (hcode : X.env.code = .ref c) (S : GenS X.env scope x) (hN : X.N[i]? = some y) (hy : X.env.scope.names.lookup y = some .cell)
    (hcl : ∀ cells : List (Str × Addr), (cloFrom cells scope.names []).lookup y = some ((cells.lookup y).getD 0)) (hi : PE X iter te) (hel : EltC X scope x y elt pb)
    (hs : ∀ v, genFold iter X.env v = pure v) (I : Inv X pins σ H s) (h : te σ H fun v H1 => ∃ a z : Str, v = .str a ∧ σ[i]? = some (some (.str z)) ∧ TabG H1 P ∧ R a z H1)
    (hQ : ∀ a z H1 g s5, R a z H1 → Ready X pins σ H1 P a (pb z) g s5 → Q' (.ref g) s5) :
    wpAny (model X.prog X.w) X.A (eval (.GeneratorExp elt [⟨.Name x px, iter, [], 0⟩] scope gpos) X.env) Q' X.xe s := by
  refine wpAny_GeneratorExp_walksQ hr.hd S.co (closure_ok S.free) S.cell S.dot S.loc S.kind (by have := hr.dp; omega) ?_ hs
  refine thn (hi.run pins s σ H _ I h) fun xv s1 ⟨v, H1, I1, r1, q1⟩ => ?_
  obtain ⟨a, z, rfl, hz, ⟨ps, hP, ht⟩, q1⟩ := q1
  obtain ⟨t, rfl⟩ := _root_.id r1
  -- the captured cell
  obtain ⟨cy, ty, hcy, hcell⟩ : ∃ cy ty, X.env.cells.lookup y = some cy ∧ s1.heap.IsCell cy (some (.str z ty)) := by
    obtain ⟨m, hn, hl⟩ := I1.loc
    obtain ⟨u, ru, lk⟩ := hl i y (.str z) hN hz (.inr (.inl hy))
    obtain ⟨ty, rfl⟩ := _root_.id ru
    rcases lk with ⟨hk, _⟩ | ⟨_, cy, hcy, hcell⟩
    · have hk2 : X.env.scope.names.lookup y = some .local := hk
      rw [hy] at hk2
      cases hk2
    · exact ⟨cy, ty, hcy, hcell⟩
  refine wpAny_pyIter_str fun o St W hst => ?_
  have hPs : s1.heap.get? P = some { cls := .none, data := .fields ps } := I1.hok P _ hP
  have hPlt : P < s1.heap.objs.size := Heap.lt_size hPs
  have hP2 : (s1.heap.push o).get? P = some { cls := .none, data := .fields ps } := Heap.get?_push_of_some _ hPs
  have cd : PySem.W.CodeHd (s1.heap.push o) c P :=
    TB.code.keeps fun b u e => Heap.get?_push_of_some _ (I1.bk b u e)
  have lim2 : (s1.heap.push o).NoLimit := I1.nolimit.push o
  have cyP : cy ≠ P := fun e => by
    obtain ⟨oc, e1, e2⟩ := hcell
    rw [e, hPs] at e1
    cases e1
    cases e2
  -- what follows once the code object is there
  have go : ∀ (code : Value) (h3 : Heap) (tk : Nat) (ps' : Array Value), Heap.ExtBut P (s1.heap.push o) h3 →
      (s1.heap.push o).objs.size ≤ h3.objs.size → h3.get? P = some { cls := .none, data := .fields ps' } →
      (∃ more, ps' = ps ++ more) → TriplesOk ps'.toList →
      wpAny (model X.prog X.w) X.A (builtinsFor X.env.globals X.env.builtins) (fun bi s₄ =>
        ∃ Ia fp wr n₀ Pf St₀ pz F, Value.ref s1.heap.objs.size = .ref Ia ∧
          (∀ A' : Around, A'.handled = none → Walks X.prog X.w A' Ia fp wr n₀ Pf St₀) ∧ St₀ 0 s₄.heap ∧
          (∀ b ∈ fp, b < s₄.heap.objs.size) ∧ s₄.heap.NoLimit ∧ cStatics ∉ wr ∧
          (∀ href : Heap, (∀ b o, s₄.heap.get? b = some o → href.get? b = some o) →
            QuietGen X.prog X.w (genEnv scope (cloFrom X.env.cells scope.names []) s₄.heap.objs.size code bi X.env) x [] elt
              (List.range s₄.heap.objs.size) wr Pf pz F href) ∧
          (∀ a h₅ tk gs, gs.bare = true → s₄.heap.objs.size < a → h₅.objs.size = a + 1 →
            (∀ b o, s₄.heap.get? b = some o → h₅.get? b = some o) →
            WalksS X.prog X.w X.A.in4 a (a :: s₄.heap.objs.size :: List.range s₄.heap.objs.size) (s₄.heap.objs.size :: wr)
              (GenOnlyQ s₄.gens.size) (passing pz n₀ 0).length (fun j y => ∃ i, (passing pz n₀ 0)[j]? = some i ∧ F i y)
              (GenAt X.prog X.w X.A.in4 a s₄.gens.size s₄.heap.objs.size (List.range s₄.heap.objs.size) wr pz n₀ F) →
            GenAt X.prog X.w X.A.in4 a s₄.gens.size s₄.heap.objs.size (List.range s₄.heap.objs.size) wr pz n₀ F 0
              { s₄ with gens := s₄.gens.push gs, toks := tk, heap := h₅ } →
            Q' (.ref a) { s₄ with gens := s₄.gens.push gs, toks := tk, heap := h₅ })) X.xe { s1 with heap := h3, toks := tk } := by
    intro code h3 tk ps' hx hsz hP3 hmore ht3
    obtain ⟨bm, ob, e1, e2, e3, e4, e5, e6, e7, e8⟩ := TB.bm
    have hcP : cStatics ≠ P := fun e => by
      obtain ⟨_, hns, _⟩ := I1.nolimit
      obtain ⟨o', es, ep, ho, hd, _⟩ := hns
      rw [e, hPs] at ho
      cases ho
      cases hd
    have hcl2 : cStatics < s1.heap.objs.size := let ⟨_, hns, _⟩ := I1.nolimit; hns.lt
    have sz2 : (s1.heap.push o).objs.size = s1.heap.objs.size + 1 := Heap.size_push ..
    have keep3 : ∀ b u, b ≠ P → s1.heap.get? b = some u → h3.get? b = some u :=
      fun b u hb e => hx b u hb (Heap.get?_push_of_some _ e)
    refine wpAny_builtinsFor (m := X.mg) (by
      rw [I1.ok.glob]
      exact ((I1.mod.glob.keeps I1.bk).push o).extBut hx TB.gP) e1 e2 (keep3 _ _ e4 (I1.bk _ _ e5)) e6 e7 e8 ?_
    refine ⟨s1.heap.objs.size, [s1.heap.objs.size], [s1.heap.objs.size], a.cps.size, SignAt a, St, (fun _ => true),
      (fun i y => ∃ cc, a.cps[i]? = some cc ∧ y = .bool (pb z cc)), rfl, W, ?_, ?_, lim2.extBut hx hcP, ?_, ?_, ?_⟩
    · refine (W X.A hr.hd).frame _ _ _ hst fun b hb u e => hx b u (fun q => ?_) e
      rcases List.mem_cons.mp hb with q2 | q2
      · exact Nat.ne_of_lt hPlt (q.symm.trans q2)
      · cases q2
    · intro b hb
      rcases List.mem_cons.mp hb with q | q
      · rw [q]
        show s1.heap.objs.size < h3.objs.size
        omega
      · cases q
    · intro q
      rcases List.mem_cons.mp q with q | q
      · exact Nat.ne_of_lt hcl2 q
      · cases q
    · intro href hhref
      refine ⟨fun A' E' i v s₂ m₂ hA hPv hn hm hk => ?_, fun A' E' i v s₂ m₂ hA hPv hp hn hm hk => ?_⟩
      · simp only [List.forIn_nil]
        exact wpAny_pure ⟨rfl, keeps_refl _⟩
      · obtain ⟨cc, u, hcc, rfl⟩ := hPv
        obtain ⟨oc, c1, c2⟩ := hcell
        have sz3 : s1.heap.objs.size ≤ h3.objs.size := by omega
        have c3 := hk cy (List.mem_range.mpr (Nat.lt_of_lt_of_le (Heap.lt_size c1) sz3)) (fun q => by
            rcases List.mem_cons.mp q with q | q
            · exact absurd (Heap.lt_size c1) (by rw [q]; exact Nat.lt_irrefl _)
            · cases q) oc (hhref _ _ (keep3 _ _ cyP c1))
        have lk : (genEnv scope (cloFrom X.env.cells scope.names []) h3.objs.size code builtinsNs X.env).cells.lookup y = some cy := by
          show (cloFrom X.env.cells scope.names []).lookup y = some cy
          rw [hcl, hcy]
          rfl
        exact wpAny_mono (hel z _ A' E' cc u ty cy s₂ m₂ rfl lk ⟨oc, c3, c2⟩ hn hm) (fun y s3 r => ⟨⟨cc, hcc, r.1⟩, r.2⟩) fun _ _ e => e
    · intro g h5 tk5 gs hgb hag hsz5 hk5 W5 hat
      simp only [GxR.passing_true, List.length_range] at W5
      refine hQ a z H1 g _ q1 ⟨_, _, _, _, _, W5.in4_1, hat, ?_, fun s' hm => ?_⟩
      · intro j y sj Qj Ej hy2 hQj
        obtain ⟨i2, hij, cc, hcc, rfl⟩ := hy2
        obtain ⟨hj, ej⟩ := List.getElem?_eq_some_iff.mp hij
        rw [List.getElem_range] at ej
        subst ej
        have e9 : a.cps.toList[j]? = some cc := by
          rw [Array.getElem?_toList]
          exact hcc
        have hQ2 : Qj (trF (pb z) a.cps.toList j) sj := hQj
        rw [trF_some e9] at hQ2
        exact wpAny_truthy_bool hQ2
      · obtain ⟨more, em⟩ := hmore
        have nwr : ∀ b u, s1.heap.get? b = some u → b ∉ h3.objs.size :: [s1.heap.objs.size] := fun b u e hb => by
          have hl := Heap.lt_size e
          rcases List.mem_cons.mp hb with q | q
          · rw [q] at hl
            have h9 : (h3.objs.size : Nat) < s1.heap.objs.size := hl
            omega
          · rcases List.mem_cons.mp q with q | q
            · rw [q] at hl
              exact Nat.lt_irrefl _ hl
            · cases q
        have J := inv_tab (more := more) (h' := s'.heap) (g' := s'.gens) (d' := s'.drawn) (t' := s'.toks) I1 hP
          (fun b u hb e => hm.heap b u (nwr b u e) (hk5 b u (keep3 b u hb e)))
          (by rw [← em]; exact hm.heap P _ (nwr P _ hPs) (hk5 P _ hP3)) (AllBare.movedS (I1.bare.push hgb) hm)
        rw [sh_eta s1 s' hm.os] at J
        exact ⟨upd H1 P (.tbl (ps ++ more)), ⟨⟨ps ++ more, upd_same, by rw [← em]; exact ht3⟩, fun b hb => upd_ne hb⟩, J⟩
  refine ⟨lim2, ?_⟩
  cases hf : codeAmong gpos ps.toList with
  | none =>
    refine wpAny_genexprCodeX hcode (cd.code hP2 ht) (cd.tab hP2) hf fun c' h' tk hx hge hlt hco' _ htab' _ => ?_
    obtain ⟨o1, vs, f1, tf, fl, tg, inF, tx, tt, op, _, _, _, _, _, _, _, _, _, htr, _⟩ := hco'
    exact go _ h' tk _ hx (Nat.le_trans hge (Nat.le_of_lt hlt)) htab'.2 ⟨_, rfl⟩ htr
  | some cv =>
    refine wpAny_genexprCode_hit hcode (cd.code hP2 ht) hf ?_
    exact go cv (s1.heap.push o) s1.toks ps (Heap.ExtBut.refl _ _) (Nat.le_refl _) hP2 ⟨#[], by simp⟩ ht
theorem pe_allC {c P : Addr} {elt iter : Expr} {x y : Str} {px p pos gpos : Pos} {scope : Scope} {pb : Str → Nat → Bool} {te : TE} {k i : Nat}
    (hr : Room k X.A) (hg : Gl X "all") (hm : X.mg "all" = none) (hb : bootBuiltins "all" = some (.builtin "all")) (TB : GxR.TabB X.base X.mg c P) (hcode : X.env.code = .ref c) (S : GenS X.env scope x)
    (hN : X.N[i]? = some y) (hy : X.env.scope.names.lookup y = some .cell) (hcl : ∀ cells : List (Str × Addr), (cloFrom cells scope.names []).lookup y = some ((cells.lookup y).getD 0))
    (hi : PE X iter te) (hel : EltC X scope x y elt pb) (hs : ∀ v, genFold iter X.env v = pure v)
    (he : starEach [.GeneratorExp elt [⟨.Name x px, iter, [], 0⟩] scope gpos] X.env = (false, eval (.GeneratorExp elt [⟨.Name x px, iter, [], 0⟩] scope gpos) X.env) :: starEach [] X.env := by rfl) :
    PE X (.Call (.Name "all" p) [.GeneratorExp elt [⟨.Name x px, iter, [], 0⟩] scope gpos] [] pos) (tAllC P i pb te) := by
  refine ⟨fun pins s σ H Q I h => ?_⟩
  refine wpAny_Call_Name_kw (ld_blt I hg hm hb (PyProof.Rows.callWith_builtin1 ?_ he (by rfl)))
  rw [he]
  show wpAny _ _ (spliced ((false, eval (.GeneratorExp elt [⟨.Name x px, iter, [], 0⟩] scope gpos) X.env) :: backTo pos (starEach [] X.env))) _ _ s
  refine Calls.spliced_cons (gen_cap (i := i) (y := y) (R := fun a z H1 => ∀ H2, Tabbed P H1 H2 → Q (.bl (a.cps.toList.all (pb z))) H2)
    hr TB hcode S hN hy hcl hi hel hs I h fun a z H1 g s5 hR hG => ?_)
  obtain ⟨fp, wr, G, F, St, W, hst, htr, hI⟩ := hG
  refine Calls.spliced_nil (call_all_walkS (W.self 0 _ _ _ hst ⟨g, fp, wr, G, _, F, St, _, rfl, W, hst, htr, fun s' hmv => ?_⟩))
  obtain ⟨H2, hT, J⟩ := hI s' hmv
  refine ⟨.bl _, H2, J, rfl, ?_⟩
  rw [all_signs a (pb z)]
  exact hR H2 hT
end
end Wk

set_option Elab.async false
set_option linter.all false
set_option maxRecDepth 100000
set_option maxHeartbeats 2000000
namespace K1
open PySem PySem.Spec PyProof.Rows L2 GxR Wk
def topS (i : Nat) : Stmt := PySem.Challenge.pw_walkrooms_k01_names.main.body.getD i (.Pass ⟨0, 0, 0, 0⟩)
abbrev sIsName : Stmt := topS 5
abbrev sIsPriv : Stmt := topS 6
abbrev sBase : Stmt := topS 7
abbrev sCons : Stmt := topS 8
abbrev sLeft : Stmt := topS 10
abbrev sDigit : Stmt := topS 11
abbrev sLWord : Stmt := topS 12
abbrev sLName : Stmt := topS 13
abbrev sLPriv : Stmt := topS 14
abbrev sText : Stmt := topS 15
abbrev sAsked : Stmt := topS 16
abbrev sLaw : Stmt := topS 17
theorem scIN : FnScope ["thing"] ["thing"] (defScope sIsName) := ⟨rfl, rfl, rfl, by decide +kernel, rfl, by decide +kernel, by decide +kernel⟩
theorem scIP : FnScope ["thing", "base", "dot", "figures"] ["thing"] (defScope sIsPriv) := ⟨rfl, rfl, rfl, by decide +kernel, rfl, by decide +kernel, by decide +kernel⟩
theorem scBO : FnScope ["calling"] ["calling"] (defScope sBase) := ⟨rfl, rfl, rfl, by decide +kernel, rfl, by decide +kernel, by decide +kernel⟩
theorem scCO : FnScope ["text", "signs"] ["text", "signs"] (defScope sCons) := ⟨rfl, rfl, rfl, by decide +kernel, rfl, by decide +kernel, by decide +kernel⟩
/-! ### what is computed -/
abbrev ab : Str := "abcdefghijklmnopqrstuvwxyz"
abbrev fg : Str := "0123456789"
def wordB (z s : Str) : Bool := decide (1 ≤ z.length) && (decide (z.length ≤ 6) && z.cps.toList.all fun c => decide (c ∈ s.cps.toList))
def takenV : List V := [.str "in", .str "out", .str "open", .str "new"]
def nameB (z : Str) : Bool := !inV (.str z) takenV && wordB z ab
def dots (z : Str) : List Nat := Builtin.Str.occurrences z "." 0 z.length 1
def hd0 (f : Str) : Bool := decide (f.cps.toList.head? = some 48)
def privB (z : Str) : Bool := nameB (Txt.partition z ".").1 && (wordB (Txt.partition z ".").2.2 fg && !hd0 (Txt.partition z ".").2.2)
theorem wordB_pos {z s : Str} (h : wordB z s = true) : ∃ c r, z.cps.toList = c :: r := by
  unfold wordB at h
  rw [Bool.and_eq_true] at h
  have h1 : 1 ≤ z.cps.toList.length := by
    have := of_decide_eq_true h.1
    rw [Array.length_toList]
    exact this
  cases e : z.cps.toList with
  | nil => rw [e] at h1; exact absurd h1 (by decide)
  | cons c r => exact ⟨c, r, rfl⟩
theorem sign_eq {c d : Nat} {z : Str} (hz : z = ⟨#[d]⟩) : decide (V.str ⟨#[c]⟩ = V.str z) = decide (c = d) := by
  subst hz
  by_cases h : c = d
  · rw [h, decide_eq_true rfl, decide_eq_true rfl]
  · rw [decide_eq_false h, decide_eq_false]
    intro e
    have e1 : (⟨#[c]⟩ : Str) = ⟨#[d]⟩ := V.str.inj e
    have e2 : (#[c] : Array Nat) = #[d] := congrArg Str.cps e1
    exact h (by simpa using e2)
def nmV : V → Bool
  | .str z => nameB z
  | _ => false
def prV : V → Bool
  | .str z => privB z
  | _ => false
/-! ### heaps -/
/-- what stood stands, but for the table at P -/
def Ext (P : Addr) (H H' : Hp) : Prop := TabG H' P ∧ ∀ b o, b ≠ P → H b = some o → H' b = some o
theorem Ext.refl {P : Addr} {H : Hp} (t : TabG H P) : Ext P H H := ⟨t, fun _ _ _ e => e⟩
theorem Ext.trans {P : Addr} {H H1 H2 : Hp} (a : Ext P H H1) (b : Ext P H1 H2) : Ext P H H2 := ⟨b.1, fun c o n e => b.2 c o n (a.2 c o n e)⟩
theorem Ext.of {P : Addr} {H H' : Hp} (t : Tabbed P H H') : Ext P H H' := ⟨t.1, fun b o n e => by rw [t.2 b n]; exact e⟩
theorem tab_ne {P p : Addr} {H : Hp} (t : TabG H P) (n : H p = none) : p ≠ P := fun e => by
  obtain ⟨ps, h, _⟩ := t
  rw [e, h] at n
  cases n
theorem tab_upd {P p : Addr} {H : Hp} {o : HO} (t : TabG H P) (n : p ≠ P) : TabG (upd H p o) P := by
  obtain ⟨ps, h, h2⟩ := t
  exact ⟨ps, by rw [upd_ne (Ne.symm n)]; exact h, h2⟩
theorem Ext.new {P p : Addr} {H : Hp} {o : HO} (t : TabG H P) (n : H p = none) : Ext P H (upd H p o) :=
  ⟨tab_upd t (tab_ne t n), fun b u _ e => by rw [upd_ne (ne_of_none e n)]; exact e⟩
/-- short, and of plain signs -/
def Good (z : Str) : Prop := z.length ≤ 1000 ∧ ∀ c ∈ z.cps.toList, c < 128
theorem Good.sub {z : Str} (h : Good z) (i j : Nat) : Good (Builtin.Str.strSub z i j) := by
  refine ⟨?_, fun c hc => h.2 c ?_⟩
  · show (z.cps.extract i j).size ≤ 1000
    rw [Array.size_extract]
    have : z.cps.size ≤ 1000 := h.1
    omega
  · have e : c ∈ z.cps.extract i j := Array.mem_def.mpr hc
    obtain ⟨k, hk, e2⟩ := Array.mem_extract_iff_getElem.mp e
    rw [← e2]
    exact Array.mem_def.mp (Array.getElem_mem _)
inductive Thing (H : Hp) : V → Prop where
  | str (z : Str) (h : Good z) : Thing H (.str z)
  | non : Thing H .non
  | int (i : Int) : Thing H (.int i)
  | bl (b : Bool) : Thing H (.bl b)
  | lst {a : Addr} {xs : List V} (e : H a = some (.lst xs)) : Thing H (.ref a)
  | tup {a : Addr} {xs : List V} (e : H a = some (.tup xs)) : Thing H (.ref a)
  | dct {a : Addr} {xs : List (Key × V)} (e : H a = some (.dK xs)) : Thing H (.ref a)
theorem tbl_ne {P a : Addr} {H : Hp} {o : HO} (t : TabG H P) (e : H a = some o) (n : ∀ ps, o ≠ .tbl ps) : a ≠ P := fun z => by
  obtain ⟨ps, h, _⟩ := t
  rw [z, h] at e
  exact n ps (Option.some.inj e).symm
theorem Thing.ext {P : Addr} {H H' : Hp} {v : V} (t : TabG H P) (x : Ext P H H') (h : Thing H v) : Thing H' v := by
  cases h with
  | str z h => exact .str z h
  | non => exact .non
  | int i => exact .int i
  | bl b => exact .bl b
  | lst e => exact .lst (x.2 _ _ (tbl_ne t e fun _ z => by cases z) e)
  | tup e => exact .tup (x.2 _ _ (tbl_ne t e fun _ z => by cases z) e)
  | dct e => exact .dct (x.2 _ _ (tbl_ne t e fun _ z => by cases z) e)
def strish : V → Bool
  | .str _ => true
  | _ => false
theorem Thing.ty {K : PySem.W.Frag} {H : Hp} {v : V} (h : Thing H v) : ∃ t : String, TyX K H v (.type t) ∧ PySem.W.kitOne K (.type t) (.type "str") = some (strish v) := by
  cases h with
  | str z h => exact ⟨_, .base (.str z), kit_ty (show kitB "str" "str" = some true by decide +kernel)⟩
  | non => exact ⟨_, .base .non, kit_ty (show kitB "NoneType" "str" = some false by decide +kernel)⟩
  | int i => exact ⟨_, .base (.int i), kit_ty (show kitB "int" "str" = some false by decide +kernel)⟩
  | bl b => exact ⟨_, .base (.bl b), kit_ty (show kitB "bool" "str" = some false by decide +kernel)⟩
  | lst e => exact ⟨_, .base (.lst e), kit_ty (show kitB "list" "str" = some false by decide +kernel)⟩
  | tup e => exact ⟨_, .base (.tup e), kit_ty (show kitB "tuple" "str" = some false by decide +kernel)⟩
  | dct e => exact ⟨_, .base (.dK e), kit_ty (show kitB "dict" "str" = some false by decide +kernel)⟩
theorem Thing.cases {H : Hp} {v : V} (h : Thing H v) : (∃ z : Str, v = .str z ∧ Good z) ∨ (strish v = false ∧ nmV v = false ∧ prV v = false) := by
  cases h with
  | str z h => exact .inl ⟨z, rfl, h⟩
  | _ => exact .inr ⟨rfl, rfl, rfl⟩
/-! ### consists_of -/
def spWord (P : Addr) : Sp := fun vs H Q _ => ∃ z s : Str, vs = [.str z, .str s] ∧ Good z ∧ TabG H P ∧ ∀ H', Ext P H H' → Q (.bl (wordB z s)) H'
section
variable {P : Program} {w : World} {K : PySem.W.Frag} {mg : Str → Option Value} {base : Heap} {T : Addr}
theorem small {n : Nat} (h : n ≤ 1000) : n ≤ sizeLine := Nat.le_of_lt (small1000 h)
theorem ok_cons {f c : Addr} {oc : Value} {od an : Option Addr} {osl : Array (Option Value)} {kV doc pm ct : Value} {k : Nat} {t6 : Tok}
    (l : K.lookup f = some ⟨oc, od, .func (PySem.W.fnOf "consists_of" "consists_of" (defArgs sCons) (defBody sCons) (defScope sCons) .none kV doc pm an (.ref c) ct), osl⟩)
    (hc : PySem.W.codeIn K (.ref c) "consists_of" = true) (TB : GxR.TabB base mg c T) (ml : mg "len" = none) (ma : mg "all" = none) (mM : mg "MOST_SIGNS" = some (.int 6 t6)) :
    FnOk P w K mg base CX0 (k + 1) f (PySem.W.fnOf "consists_of" "consists_of" (defArgs sCons) (defBody sCons) (defScope sCons) .none kV doc pm an (.ref c) ct) ["text", "signs"] (spWord T) := by
  refine fn_of l hc scCO (fun vs H Q E h => ?_) fun A outer s H vs Q E hr h => ?_
  · obtain ⟨z, s, rfl, _⟩ := h
    rfl
  obtain ⟨z, sg, rfl, hz, tg, q⟩ := h
  have free1 : ∀ y ∈ ([(Str.ofString ".0", NameKind.local), (Str.ofString "sign", NameKind.local), (Str.ofString "signs", NameKind.free)] : List (Str × NameKind)), y.2 = NameKind.free →
      ∃ cc, (cxOf CX0 P w K mg base ["text", "signs"] "consists_of" (defScope sCons) f (.ref c) A outer s H E).env.cells.lookup y.1 = some cc := fun y hy e => by
    simp only [List.mem_cons, List.not_mem_nil, or_false] at hy
    rcases hy with rfl | rfl | rfl
    · cases e
    · cases e
    · exact ⟨_, rfl⟩
  refine ⟨_, pss_one (ps_ret (pe_and (pe_chain op_le op_le pe_int (pe_callB call_len_str (by rfl) ml PySem.boot_len (pa_cons (pv 0) pa_nil)) (pe_glob (v := .int 6) (by rfl) mM ⟨_, rfl⟩))
    (pe_one (pe_allC (i := 1) (y := "signs") hr (by rfl) ma (by decide +kernel) TB rfl ⟨rfl, rfl, by decide +kernel, rfl, rfl, free1⟩ rfl rfl (fun _ => rfl) (pv 0) (elt_in rfl rfl rfl) (fun _ => rfl))))), ?_⟩
  refine ⟨.str z, rfl, z, rfl, small hz.1, 1, z.length, rfl, rfl, _, rfl, ?_⟩
  refine ite2 (fun h1 => ?_) (fun h1 => ?_)
  · have h1' : 1 ≤ z.length := by
      have := of_decide_eq_true h1
      omega
    refine ⟨_, _, rfl, rfl, _, rfl, ite2 (fun h2 => ?_) (fun h2 => ?_)⟩
    · have h2' : z.length ≤ 6 := by
        have := of_decide_eq_true h2
        omega
      refine ⟨.str z, rfl, z, sg, rfl, rfl, tg, fun H2 hT => ?_⟩
      have e : wordB z sg = z.cps.toList.all fun c => decide (c ∈ sg.cps.toList) := by
        unfold wordB
        rw [decide_eq_true h1', decide_eq_true h2', Bool.true_and, Bool.true_and]
      rw [← e]
      exact q H2 (Ext.of hT)
    · have h2' : ¬ z.length ≤ 6 := fun g => h2 (decide_eq_true (by omega))
      have e : wordB z sg = false := by
        unfold wordB
        rw [decide_eq_false h2', Bool.false_and, Bool.and_false]
      have q1 := q H (Ext.refl tg)
      rw [e] at q1
      exact q1
  · have h1' : ¬ 1 ≤ z.length := fun g => h1 (decide_eq_true (by omega))
    have e : wordB z sg = false := by
      unfold wordB
      rw [decide_eq_false h1', Bool.false_and]
    have q1 := q H (Ext.refl tg)
    rw [e] at q1
    exact ⟨_, rfl, iteF q1⟩
/-! ### is_name -/
def spName (T : Addr) (g : V → Bool) : Sp := fun vs H Q _ => ∃ v : V, vs = [v] ∧ Thing H v ∧ TabG H T ∧ ∀ H', Ext T H H' → Q (.bl (g v)) H'
theorem ok_name {f fC aT : Addr} {fd fdC : FuncData} {tL : Tok} (F : Fun K "is_name" "is_name" sIsName f fd) (GC : FnOk P w K mg base CX0 1 fC fdC ["text", "signs"] (spWord T)) (bC : Binds K fdC ["text", "signs"] []) (kC : PySem.W.keepIn K (.ref fC) = true)
    (mC : mg "consists_of" = some (.ref fC)) (mi : mg "isinstance" = none) (ms : mg "str" = none) (mT : mg "TAKEN_WORDS" = some (.ref aT)) (hT : ∀ H, SqT K H aT takenV) (mL : mg "LETTERS" = some (.str ab tL)) :
    FnOk P w K mg base CX0 2 f fd ["thing"] (spName T nmV) := by
  refine F.ok scIN (fun vs H Q E h => ?_) (fun cdv A outer s H vs Q E hr h => ?_)
  · obtain ⟨v, rfl, _⟩ := h
    rfl
  obtain ⟨v, rfl, th, tg, q⟩ := h
  refine ⟨_, pss_cons (ps_if (PW.pt (pw_or (pt_not (pt_val (pe_callB call_isi (by rfl) mi (by decide +kernel) (pa_cons (pv 0) (pa_cons (pe_bltn (v := .ty "str") (by rfl) ms (by decide +kernel) rfl) pa_nil)))))
      (pw_or1 (pt_cmpR op_in_seq (pv 0) (pe_glob (v := .ref aT) (by rfl) mT rfl) rfl)))) (pss_one (ps_ret pe_bl)) pss_nil)
    (pss_one (ps_ret (pe_call GC hr (by rfl) mC kC bC .nil pass0 (pa_cons (pv 0) (pa_cons (pe_glob (v := .str ab) (by rfl) mL ⟨_, rfl⟩) pa_nil))))), ?_⟩
  obtain ⟨t, hty, hk⟩ := th.ty (K := K)
  refine ⟨v, rfl, v, .ty "str", .type t, .type "str", strish v, rfl, .ty "str", hty, hk, _, rfl, ?_⟩
  rcases th.cases with ⟨z, rfl, hz⟩ | ⟨e1, e2, e3⟩
  · refine iteF ?_
    refine ⟨.str z, rfl, aT, takenV, rfl, .inr (hT H), rfl, rfl, _, rfl, ite2 (fun h => ?_) (fun h => ?_)⟩
    · have e : nmV (.str z) = false := by
        show nameB z = false
        unfold nameB
        rw [show inV (.str z) takenV = true from h, Bool.not_true, Bool.false_and]
      have q1 := q H (Ext.refl tg)
      rw [e] at q1
      exact q1
    · have h' : inV (.str z) takenV = false := Bool.eq_false_iff.mpr h
      have e : nmV (.str z) = wordB z ab := by
        show nameB z = _
        unfold nameB
        rw [h', Bool.not_false, Bool.true_and]
      refine ⟨.str z, rfl, z, ab, rfl, hz, tg, fun H' x => ?_⟩
      have q1 := q H' x
      rw [e] at q1
      exact q1
  · rw [e1]
    refine iteT ?_
    have q1 := q H (Ext.refl tg)
    rw [e2] at q1
    exact q1
/-! ### base_of -/
def baseS (z : Str) : Str := match dots z with
  | [] => z
  | i :: _ => Builtin.Str.strSub z 0 i
theorem part_of (z : Str) : Txt.partition z "." = match dots z with
    | [] => (z, Str.empty, Str.empty)
    | i :: _ => (Builtin.Str.strSub z 0 i, ".", Builtin.Str.strSub z (i + 1) z.length) := by
  unfold dots Txt.partition
  rcases StrLaws.occ_head z "." 1 (Nat.le_refl 1) with ⟨h0, _⟩ | ⟨i, r, h0, _, _⟩
  · rw [h0]
  · rw [h0]
    rfl
def spBase (T : Addr) : Sp := fun vs H Q _ => ∃ z : Str, vs = [.str z] ∧ Good z ∧ TabG H T ∧ ∀ H', Ext T H H' → Q (.str (baseS z)) H'
theorem ok_base {f : Addr} {fd : FuncData} {k : Nat} (F : Fun K "base_of" "base_of" sBase f fd) : FnOk P w K mg base CX0 (k + 1) f fd ["calling"] (spBase T) := by
  refine F.ok scBO (fun vs H Q E h => ?_) (fun cdv A outer s H vs Q E hr h => ?_)
  · obtain ⟨v, rfl, _⟩ := h
    rfl
  obtain ⟨z, rfl, hz, tg, q⟩ := h
  refine ⟨_, pss_one (ps_ret (pe_ix ix_tup (pe_partition (pv 0) pe_str) pe_int (fun _ _ => rfl))), ?_⟩
  refine ⟨.str z, rfl, ⟨z, rfl⟩, z, ".", rfl, rfl, by decide +kernel, small hz.1, fun p np => ?_⟩
  refine ⟨p, _, 0, .str (baseS z), rfl, rfl, .inl (.inl upd_same), ?_, q _ (Ext.new tg np)⟩
  rw [part_of]
  unfold baseS
  split <;> rfl
theorem ok_priv {f fC fN : Addr} {fd fdC fdN : FuncData} {tF : Tok} (F : Fun K "is_private" "is_private" sIsPriv f fd) (GC : FnOk P w K mg base CX0 1 fC fdC ["text", "signs"] (spWord T)) (bC : Binds K fdC ["text", "signs"] []) (kC : PySem.W.keepIn K (.ref fC) = true)
    (mC : mg "consists_of" = some (.ref fC)) (mi : mg "isinstance" = none) (ms : mg "str" = none) (mF : mg "FIGURES" = some (.str fg tF))
    (GN : FnOk P w K mg base CX0 2 fN fdN ["thing"] (spName T nmV)) (bN : Binds K fdN ["thing"] []) (kN : PySem.W.keepIn K (.ref fN) = true) (mN : mg "is_name" = some (.ref fN)) :
    FnOk P w K mg base CX0 3 f fd ["thing"] (spName T prV) := by
  refine F.ok scIP (fun vs H Q E h => ?_) (fun cdv A outer s H vs Q E hr h => ?_)
  · obtain ⟨v, rfl, _⟩ := h
    rfl
  obtain ⟨v, rfl, th, tg, q⟩ := h
  refine ⟨_, pss_cons (ps_if (pt_not (pt_val (pe_callB call_isi (by rfl) mi (by decide +kernel) (pa_cons (pv 0) (pa_cons (pe_bltn (v := .ty "str") (by rfl) ms (by decide +kernel) rfl) pa_nil))))) (pss_one (ps_ret pe_bl)) pss_nil)
    (pss_cons (ps_asg (pe_partition (pv 0) pe_str) (pg_tup rfl (pgs_cons (pg_name (i := 1) scIP.nd rfl (.inl rfl)) (pgs_cons (pg_name (i := 2) scIP.nd rfl (.inl rfl)) (pgs_cons (pg_name (i := 3) scIP.nd rfl (.inl rfl)) pgs_nil)))))
    (pss_one (ps_ret (pe_and (pe_call GN hr (by rfl) mN kN bN .nil pass0 (pa_cons (pv 1) pa_nil)) (pe_and (pe_call GC (hr.mono (by decide)) (by rfl) mC kC bC .nil pass0 (pa_cons (pv 3) (pa_cons (pe_glob (v := .str fg) (by rfl) mF ⟨_, rfl⟩) pa_nil)))
      (pe_one (pe_cmpR op_ne (pe_ix ix_str (pv 3) pe_int (fun _ _ => rfl)) pe_str (nomark _)))))))), ?_⟩
  obtain ⟨t, hty, hk⟩ := th.ty (K := K)
  refine ⟨v, rfl, v, .ty "str", .type t, .type "str", strish v, rfl, .ty "str", hty, hk, _, rfl, ?_⟩
  rcases th.cases with ⟨z, rfl, hz⟩ | ⟨e1, e2, e3⟩
  · refine iteF ?_
    refine ⟨.str z, rfl, ⟨z, rfl⟩, z, ".", rfl, rfl, by decide +kernel, small hz.1, fun p np => ?_⟩
    have tg1 : TabG (upd H p (.tup [.str (Txt.partition z ".").1, .str (Txt.partition z ".").2.1, .str (Txt.partition z ".").2.2])) T := tab_upd tg (tab_ne tg np)
    refine ⟨p, _, rfl, .inl (.inl upd_same), rfl, _, _, rfl, _, _, rfl, _, _, rfl, rfl, ?_⟩
    have lB : Good (Txt.partition z ".").1 := by
      rw [part_of]
      split
      · exact hz
      · exact hz.sub _ _
    have lF : Good (Txt.partition z ".").2.2 := by
      rw [part_of]
      split
      · exact ⟨Nat.zero_le _, fun c hc => nomatch (show c ∈ ([] : List Nat) from hc)⟩
      · exact hz.sub _ _
    refine ⟨_, rfl, .str (Txt.partition z ".").1, rfl, .str _ lB, tg1, fun H1 x1 => ?_⟩
    refine ⟨_, rfl, ite2 (fun h => ?_) (fun h => ?_)⟩
    · have hN : nameB (Txt.partition z ".").1 = true := h
      refine ⟨_, rfl, _, fg, rfl, lF, x1.1, fun H2 x2 => ?_⟩
      have x02 : Ext T H H2 := (Ext.new tg np).trans (x1.trans x2)
      refine ⟨_, rfl, ite2 (fun h2 => ?_) (fun h2 => ?_)⟩
      · obtain ⟨c, r, ec⟩ := wordB_pos h2
        refine ⟨_, rfl, _, 0, c, rfl, rfl, small lF.1, by rw [ec]; exact atI_nat (j := 0) rfl, rfl, ?_⟩
        have e : prV (.str z) = !decide (V.str ⟨#[c]⟩ = V.str "0") := by
          show privB z = _
          unfold privB hd0
          rw [hN, show wordB (Txt.partition z ".").2.2 fg = true from h2, ec, sign_eq (d := 48) (by decide +kernel)]
          simp
        have q1 := q H2 x02
        rw [e] at q1
        exact q1
      · have h2' : wordB (Txt.partition z ".").2.2 fg = false := Bool.eq_false_iff.mpr h2
        have e : prV (.str z) = false := by
          show privB z = _
          unfold privB
          rw [h2', Bool.false_and, Bool.and_false]
        have q1 := q H2 x02
        rw [e] at q1
        exact q1
    · have hN : nameB (Txt.partition z ".").1 = false := Bool.eq_false_iff.mpr h
      have e : prV (.str z) = false := by
        show privB z = _
        unfold privB
        rw [hN, Bool.false_and]
      have q1 := q H1 ((Ext.new tg np).trans x1)
      rw [e] at q1
      exact q1
  · rw [e1]
    refine iteT ?_
    have q1 := q H (Ext.refl tg)
    rw [e3] at q1
    exact q1
end
end K1

set_option Elab.async false
set_option linter.all false
set_option maxRecDepth 100000
set_option maxHeartbeats 2000000
namespace K1
open PySem PySem.Spec PyProof.Rows L2 GxR Wk
theorem scLeft : FnScope ["_law_cell", "_law_left_here", "_law_number", "_law_turn"] ["_law_cell"] (defScope sLeft) := ⟨rfl, rfl, rfl, by decide +kernel, rfl, by decide +kernel, by decide +kernel⟩
theorem scDigit : FnScope ["_law_left_here", "_law_many", "_law_found"] ["_law_left_here", "_law_many"] (defScope sDigit) := ⟨rfl, rfl, rfl, by decide +kernel, rfl, by decide +kernel, by decide +kernel⟩
theorem scLWord : FnScope ["_law_text_here", "_law_signs", "_law_sign"] ["_law_text_here", "_law_signs"] (defScope sLWord) := ⟨rfl, rfl, rfl, by decide +kernel, rfl, by decide +kernel, by decide +kernel⟩
theorem scLName : FnScope ["_law_thing"] ["_law_thing"] (defScope sLName) := ⟨rfl, rfl, rfl, by decide +kernel, rfl, by decide +kernel, by decide +kernel⟩
theorem scLPriv : FnScope ["_law_thing", "_law_at", "_law_number"] ["_law_thing"] (defScope sLPriv) := ⟨rfl, rfl, rfl, by decide +kernel, rfl, by decide +kernel, by decide +kernel⟩
section
variable {P : Program} {w : World} {K : PySem.W.Frag} {mg : Str → Option Value} {base : Heap} {T : Addr}
/-! ### _law_left: a new list of one number -/
def spLeft : Sp := fun vs H Q _ => ∃ c : Int, vs = [.int c] ∧ ∀ (p : Addr) (n : Int), H p = none → Q (.ref p) (upd H p (.lst [.int n]))
theorem pos1 : (0 : Int) < 2147483629 := by decide
theorem pos2 : (0 : Int) < 2147483647 := by decide
theorem one_le : (1 : Nat) ≤ sizeLine := by decide
theorem ok_left {f : Addr} {fd : FuncData} {k : Nat} (F : Fun K "_law_left" "_law_left" sLeft f fd) (ma : mg "abs" = none) (mr : mg "range" = none) : FnOk P w K mg base CX0 (k + 1) f fd ["_law_cell"] spLeft := by
  refine F.ok scLeft (fun vs H Q E h => ?_) (fun cdv A outer s H vs Q E hr h => ?_)
  · obtain ⟨v, rfl, _⟩ := h
    rfl
  obtain ⟨c, rfl, q⟩ := h
  refine ⟨_, pss_cons (ps_set (i := 1) scLeft.nd rfl (.inl rfl) (pe_callB call_abs (by rfl) ma (by decide +kernel) (pa_cons (pv 0) pa_nil)))
    (pss_cons (ps_if (pt_cmpR op_lt (pv 1) (pe_op op_pow pe_int pe_int) (nomark _))
      (pss_cons (ps_set (i := 2) scLeft.nd rfl (.inl rfl) (pv 0))
      (pss_one (ps_for PassesOwn.never rfl (pi_range1 rfl mr (pa_cons pe_int pa_nil)) (pg_name (i := 3) scLeft.nd rfl (.inl rfl))
        (pss_cons (ps_set (i := 2) scLeft.nd rfl (.inl rfl) (pe_op op_mod (pe_op op_mul (pe_op op_add (pe_op op_mod (pv 2) pe_int) pe_int) pe_int) pe_int))
        (pss_cons (ps_set (i := 2) scLeft.nd rfl (.inl rfl) (pe_op op_add (pe_op op_mod (pe_op op_mul (pv 2) pe_int) pe_int) (pv 3)))
        (pss_one (ps_set (i := 1) scLeft.nd rfl (.inl rfl) (pe_op op_add (pe_op op_mul (pv 1) pe_int) (pv 2))))))))) pss_nil)
    (pss_one (ps_ret (pe_lst (pa_cons (pv 1) pa_nil))))), ?_⟩
  refine ⟨_, rfl, c, rfl, _, rfl, _, _, rfl, rfl, by unfold CPow; decide, _, _, rfl, rfl, _, rfl, ite2 (fun h => ?_) (fun h => ?_)⟩
  · refine ⟨_, rfl, 40, rfl, by decide, by decide, for_range (n := 40) (lo := 0) (fun _ σ H' => H' = H ∧ ∃ a d : Option V, ∃ i j : Int, σ = [a, some (.int i), some (.int j), d]) ⟨rfl, _, _, _, _, rfl⟩ (fun i σ H' hi hP => ?_) fun σ H' hP => ?_⟩
    · obtain ⟨rfl, a, d, x, y, rfl⟩ := hP
      refine ⟨_, rfl, _, _, rfl, rfl, pos1, _, _, rfl, rfl, _, _, rfl, rfl, .inr ⟨by decide, by decide⟩, _, _, rfl, rfl, pos1, ?_⟩
      refine ⟨_, rfl, _, _, rfl, rfl, .inr ⟨by decide, by decide⟩, _, _, rfl, rfl, pos2, _, rfl, _, _, rfl, rfl, ?_⟩
      refine ⟨_, rfl, _, _, rfl, rfl, .inr ⟨by decide, by decide⟩, _, rfl, _, _, rfl, rfl, ?_⟩
      exact ⟨rfl, _, _, _, _, rfl⟩
    · obtain ⟨rfl, a, d, x, y, rfl⟩ := hP
      exact ⟨_, rfl, one_le, fun p np => q p _ np⟩
  · exact ⟨_, rfl, one_le, fun p np => q p _ np⟩
/-! ### _law_digit -/
def spDigit : Sp := fun vs H Q _ => ∃ (L : Addr) (n m : Int), vs = [.ref L, .int m] ∧ H L = some (.lst [.int n]) ∧ 0 < m ∧ m < 1073741824 ∧ ∀ d n' : Int, 0 ≤ d → d < m → Q (.int d) (upd H L (.lst [.int n']))
theorem ok_digit {f : Addr} {fd : FuncData} {k : Nat} (F : Fun K "_law_digit" "_law_digit" sDigit f fd) : FnOk P w K mg base CX0 (k + 1) f fd ["_law_left_here", "_law_many"] spDigit := by
  refine F.ok scDigit (fun vs H Q E h => ?_) (fun cdv A outer s H vs Q E hr h => ?_)
  · obtain ⟨L, n, m, rfl, _⟩ := h
    rfl
  obtain ⟨L, n, m, rfl, hL, h0, h1, q⟩ := h
  refine ⟨_, pss_cons (ps_set (i := 2) scDigit.nd rfl (.inl rfl) (pe_op op_mod (pe_ix ix_list (pv 0) pe_int (fun _ _ => rfl)) (pv 1)))
    (pss_cons (ps_asg (pe_op op_fdiv (pe_ix ix_list (pv 0) pe_int (fun _ _ => rfl)) (pv 1)) (pg_sub (pv 0) pe_int set_list))
    (pss_one (ps_ret (pv 2)))), ?_⟩
  refine ⟨_, rfl, L, _, 0, _, rfl, rfl, SqL.of hL, atI_nat (j := 0) rfl, _, rfl, _, _, rfl, rfl, h0, ?_⟩
  refine ⟨_, rfl, L, _, 0, _, rfl, rfl, SqL.of hL, atI_nat (j := 0) rfl, _, rfl, _, _, rfl, rfl, ⟨h0, h1⟩, ?_⟩
  refine ⟨_, rfl, L, _, 0, 0, rfl, rfl, hL, rfl, ?_⟩
  exact ⟨_, rfl, q _ _ (Int.emod_nonneg n (by omega)) (Int.emod_lt_of_pos n h0)⟩
/-! ### _law_is_word -/
/-- the signs that are none of sg -/
def bad (sg : Str) (l : List Nat) : List Nat := l.filter fun c => !decide (c ∈ sg.cps.toList)
def badV (sg : Str) (l : List Nat) : List V := (bad sg l).map fun c => .str ⟨#[c]⟩
theorem badV_take {sg : Str} {l : List Nat} {i c : Nat} (h : l[i]? = some c) : badV sg (l.take (i + 1)) = badV sg (l.take i) ++ (if c ∈ sg.cps.toList then [] else [.str ⟨#[c]⟩]) := by
  unfold badV bad
  rw [List.take_add_one, h, List.filter_append, List.map_append]
  congr 1
  by_cases hc : c ∈ sg.cps.toList
  · rw [if_pos hc]
    simp only [Option.toList, List.filter, decide_eq_true hc, Bool.not_true, List.map_nil]
  · rw [if_neg hc]
    simp only [Option.toList, List.filter, decide_eq_false hc, Bool.not_false, List.map_cons, List.map_nil]
theorem dp_signs {K : PySem.W.Frag} {H : Hp} : ∀ l : List Nat, DpAll K H (l.map fun c => V.str ⟨#[c]⟩) (l.map fun c => PyData.str ⟨#[c]⟩)
  | [] => .nil
  | c :: r => .cons (.str _) (dp_signs r)
theorem lay_signs : ∀ l : List Nat, (∀ c ∈ l, c < 128) → PyData.canLayAll0 (l.map fun c => PyData.str ⟨#[c]⟩) = true
  | [], _ => by simp only [List.map_nil, PyData.canLayAll0]
  | c :: r, h => by
    have h1 : PyData.strOk ⟨#[c]⟩ = true := by
      have : c < 128 := h c List.mem_cons_self
      unfold PyData.strOk
      simp
      omega
    simp only [List.map_cons, PyData.canLayAll0, PyData.canLay0, h1, lay_signs r (fun d hd => h d (List.mem_cons_of_mem _ hd)), Bool.and_self]
theorem depth_signs : ∀ l : List Nat, PyData.depthAll (l.map fun c => PyData.str ⟨#[c]⟩) = 0
  | [] => by simp only [List.map_nil, PyData.depthAll]
  | c :: r => by simp only [List.map_cons, PyData.depthAll, PyData.depth, depth_signs r, Nat.max_self]
theorem shaped_signs {l : List Nat} (h : ∀ c ∈ l, c < 128) : SeqAt.shaped (.list (l.map fun c => PyData.str ⟨#[c]⟩)) = true := by
  unfold SeqAt.shaped
  simp only [PyData.canLay0, lay_signs l h, PyData.depth, depth_signs l, Bool.true_and]
  decide
theorem shaped_nil : SeqAt.shaped (.list []) = true := shaped_signs (l := []) fun _ h => nomatch h
theorem eqv_nil : ∀ l : List PyData, PyData.eqv (.list l) (.list []) = l.isEmpty
  | [] => by simp only [PyData.eqv, PyData.eqvAll, List.isEmpty]
  | _ :: _ => by simp only [PyData.eqv, PyData.eqvAll, List.isEmpty]
theorem bad_none (sg : Str) : ∀ l : List Nat, ((bad sg l).map fun c => PyData.str ⟨#[c]⟩).isEmpty = l.all fun c => decide (c ∈ sg.cps.toList)
  | [] => rfl
  | c :: r => by
    by_cases hc : c ∈ sg.cps.toList
    · have e : bad sg (c :: r) = bad sg r := List.filter_cons_of_neg (by rw [decide_eq_true hc]; decide)
      rw [e, bad_none sg r, List.all_cons, decide_eq_true hc, Bool.true_and]
    · have e : bad sg (c :: r) = c :: bad sg r := List.filter_cons_of_pos (by rw [decide_eq_false hc]; rfl)
      rw [e, List.all_cons, decide_eq_false hc, Bool.false_and, List.map_cons]
      rfl
theorem badV_len {sg z : Str} (h : z.length ≤ 6) (i : Nat) : (badV sg (z.cps.toList.take i)).length < sizeLine := by
  have h1 : (badV sg (z.cps.toList.take i)).length ≤ 6 := by
    unfold badV bad
    rw [List.length_map]
    refine Nat.le_trans (List.length_filter_le _ _) ?_
    rw [List.length_take, Array.length_toList]
    exact Nat.le_trans (Nat.min_le_right _ _) h
  exact small1000 (by omega)
theorem ok_lword {f : Addr} {fd : FuncData} {k : Nat} (F : Fun K "_law_is_word" "_law_is_word" sLWord f fd) (ml : mg "len" = none) : FnOk P w K mg base CX0 (k + 1) f fd ["_law_text_here", "_law_signs"] (spWord T) := by
  refine F.ok scLWord (fun vs H Q E h => ?_) (fun cdv A outer s H vs Q E hr h => ?_)
  · obtain ⟨z, s, rfl, _⟩ := h
    rfl
  obtain ⟨z, sg, rfl, hz, tg, q⟩ := h
  refine ⟨_, pss_one (ps_ret (pe_and (pe_chain op_le op_le pe_int (pe_callB call_len_str (by rfl) ml PySem.boot_len (pa_cons (pv 0) pa_nil)) pe_int)
    (pe_one (pe_cmpR (op_eqD hr.units) (pe_lc (own := [("_law_sign", 2)]) (g := gName 2) (by rfl) scLWord.nd (pi_str (pv 0)) (blkOk_by (own := [("_law_sign", 2)]) (N := ["_law_text_here", "_law_signs", "_law_sign"]) (sc := defScope sLWord) (by decide +kernel))
      (fun _ _ _ _ _ => pg_name (i := 2) scLWord.nd rfl (Or.inl rfl)) (fun _ _ _ _ _ => pts_one (pt_cmpR op_notIn_sign (pv 2) (pv 1) rfl)) (fun _ _ _ _ _ => pv 2)) (pe_lst pa_nil) (nomark _))))), ?_⟩
  refine ⟨.str z, rfl, z, rfl, small hz.1, 1, z.length, rfl, rfl, _, rfl, ?_⟩
  refine ite2 (fun h1 => ?_) (fun h1 => ?_)
  · have h1' : 1 ≤ z.length := by
      have := of_decide_eq_true h1
      omega
    refine ⟨_, _, rfl, rfl, _, rfl, ite2 (fun h2 => ?_) (fun h2 => ?_)⟩
    · have h2' : z.length ≤ 6 := by
        have := of_decide_eq_true h2
        omega
      refine ⟨.str z, rfl, z, rfl, fun D nD => ?_⟩
      refine lc_it walk_str (fun i H' => Ext T H H' ∧ H' D = some (.lst (badV sg (z.cps.toList.take i)))) ⟨Ext.new tg nD, by rw [upd_same]; rfl⟩ (fun _ _ _ _ => trivial) (fun i x H1 H2 hi hP hY => ?_) (fun H1 hP => ?_)
      · obtain ⟨rfl, c, hc, rfl⟩ := hY
        obtain ⟨hx, hD⟩ := hP
        have hc' : z.cps.toList[i]? = some c := by
          rw [Array.getElem?_toList]
          exact hc
        refine ⟨rfl, _, rfl, _, rfl, c, sg, rfl, rfl, _, rfl, ite2 (fun h3 => ?_) (fun h3 => ?_)⟩
        · have h3' : c ∉ sg.cps.toList := of_decide_eq_false (by simpa using h3)
          refine ⟨_, rfl, _, hD, ?_, ⟨tab_upd hx.1 (tbl_ne hx.1 hD fun _ z => by cases z), fun b o nb e => ?_⟩, ?_⟩
          · exact badV_len h2' i
          · rw [upd_ne (ne_of_none e nD)]
            exact hx.2 b o nb e
          · rw [upd_same, badV_take hc', if_neg h3']
        · have h3' : c ∈ sg.cps.toList := by simpa using h3
          refine ⟨hx, ?_⟩
          rw [hD, badV_take hc', if_pos h3', List.append_nil]
      · obtain ⟨hx, hD⟩ := hP
        refine ⟨Nat.zero_le _, fun E2 nE => ?_⟩
        have et : z.cps.toList.take z.cps.size = z.cps.toList := by
          rw [← Array.length_toList, List.take_length]
        rw [et] at hD
        have hD2 : upd H1 E2 (.lst []) D = some (.lst (badV sg z.cps.toList)) := by
          rw [upd_ne (ne_of_none hD nE)]
          exact hD
        refine ⟨_, _, .lst (SqL.of hD2) (dp_signs (bad sg z.cps.toList)), .lst (SqL.of upd_same) .nil, shaped_signs fun c hc => hz.2 c (List.mem_filter.mp hc).1, shaped_nil, ?_⟩
        rw [eqv_nil, bad_none]
        have e : wordB z sg = z.cps.toList.all fun c => decide (c ∈ sg.cps.toList) := by
          unfold wordB
          rw [decide_eq_true h1', decide_eq_true h2', Bool.true_and, Bool.true_and]
        rw [← e]
        exact q _ (hx.trans (Ext.new hx.1 nE))
    · have h2' : ¬ z.length ≤ 6 := fun g => h2 (decide_eq_true (by omega))
      have e : wordB z sg = false := by
        unfold wordB
        rw [decide_eq_false h2', Bool.false_and, Bool.and_false]
      have q1 := q H (Ext.refl tg)
      rw [e] at q1
      exact q1
  · have h1' : ¬ 1 ≤ z.length := fun g => h1 (decide_eq_true (by omega))
    have e : wordB z sg = false := by
      unfold wordB
      rw [decide_eq_false h1', Bool.false_and]
    have q1 := q H (Ext.refl tg)
    rw [e] at q1
    exact ⟨_, rfl, iteF q1⟩
/-! ### _law_is_name -/
theorem ok_lname {f fC : Addr} {fd fdC : FuncData} (F : Fun K "_law_is_name" "_law_is_name" sLName f fd) (GC : FnOk P w K mg base CX0 1 fC fdC ["_law_text_here", "_law_signs"] (spWord T)) (bC : Binds K fdC ["_law_text_here", "_law_signs"] []) (kC : PySem.W.keepIn K (.ref fC) = true)
    (mC : mg "_law_is_word" = some (.ref fC)) (mi : mg "isinstance" = none) (ms : mg "str" = none) :
    FnOk P w K mg base CX0 2 f fd ["_law_thing"] (spName T nmV) := by
  refine F.ok scLName (fun vs H Q E h => ?_) (fun cdv A outer s H vs Q E hr h => ?_)
  · obtain ⟨v, rfl, _⟩ := h
    rfl
  obtain ⟨v, rfl, th, tg, q⟩ := h
  refine ⟨_, pss_cons (ps_if (PW.pt (pw_or (pt_not (pt_val (pe_callB call_isi (by rfl) mi (by decide +kernel) (pa_cons (pv 0) (pa_cons (pe_bltn (v := .ty "str") (by rfl) ms (by decide +kernel) rfl) pa_nil)))))
      (pw_or1 (pt_cmpR op_in_seq (pv 0) (pe_lst (pa_cons pe_str (pa_cons pe_str (pa_cons pe_str (pa_cons pe_str pa_nil))))) rfl)))) (pss_one (ps_ret pe_bl)) pss_nil)
    (pss_one (ps_ret (pe_call GC hr (by rfl) mC kC bC .nil pass0 (pa_cons (pv 0) (pa_cons pe_str pa_nil))))), ?_⟩
  obtain ⟨t, hty, hk⟩ := th.ty (K := K)
  refine ⟨v, rfl, v, .ty "str", .type t, .type "str", strish v, rfl, .ty "str", hty, hk, _, rfl, ?_⟩
  rcases th.cases with ⟨z, rfl, hz⟩ | ⟨e1, e2, e3⟩
  · refine iteF ?_
    refine ⟨.str z, rfl, by decide, fun p np => ?_⟩
    have x1 : Ext T H (upd H p (.lst takenV)) := Ext.new tg np
    refine ⟨p, takenV, rfl, .inl (SqL.of upd_same), rfl, rfl, _, rfl, ite2 (fun h => ?_) (fun h => ?_)⟩
    · have e : nmV (.str z) = false := by
        show nameB z = false
        unfold nameB
        rw [show inV (.str z) takenV = true from h, Bool.not_true, Bool.false_and]
      have q1 := q _ x1
      rw [e] at q1
      exact q1
    · have h' : inV (.str z) takenV = false := Bool.eq_false_iff.mpr h
      have e : nmV (.str z) = wordB z ab := by
        show nameB z = _
        unfold nameB
        rw [h', Bool.not_false, Bool.true_and]
      refine ⟨.str z, rfl, z, ab, rfl, hz, x1.1, fun H' x => ?_⟩
      have q1 := q H' (x1.trans x)
      rw [e] at q1
      exact q1
  · rw [e1]
    refine iteT ?_
    have q1 := q H (Ext.refl tg)
    rw [e2] at q1
    exact q1
/-! ### _law_is_private -/
theorem cut_to {z : Str} {i : Nat} (h : i ≤ z.length) : cutS z none (some (i : Int)) = Builtin.Str.strSub z 0 i := by
  unfold cutS Builtin.Str.strSub
  rw [HT.sIx_none, HT.sIx_nat, Nat.min_eq_left h, List.drop_zero, Nat.sub_zero]
  congr 1
  apply Array.toList_inj.mp
  simp
theorem cut_from {z : Str} {i : Nat} (h : i + 1 ≤ z.length) : cutS z (some ((i : Int) + 1)) none = Builtin.Str.strSub z (i + 1) z.length := by
  unfold cutS Builtin.Str.strSub
  rw [HT.sIx_none, show ((i : Int) + 1) = ((i + 1 : Nat) : Int) by omega, HT.sIx_nat, Nat.min_eq_left h]
  congr 1
  apply Array.toList_inj.mp
  simp
theorem cut_one {z : Str} {c : Nat} {r : List Nat} (h : z.cps.toList = c :: r) : cutS z none (some 1) = ⟨#[c]⟩ := by
  have hl : 1 ≤ z.length := by
    show 1 ≤ z.cps.size
    rw [← Array.length_toList, h]
    exact Nat.succ_le_succ (Nat.zero_le _)
  unfold cutS
  rw [HT.sIx_none, show (1 : Int) = ((1 : Nat) : Int) from rfl, HT.sIx_nat, Nat.min_eq_left hl, h]
  rfl
theorem ok_lpriv {f fC fN : Addr} {fd fdC fdN : FuncData} (F : Fun K "_law_is_private" "_law_is_private" sLPriv f fd) (GC : FnOk P w K mg base CX0 1 fC fdC ["_law_text_here", "_law_signs"] (spWord T)) (bC : Binds K fdC ["_law_text_here", "_law_signs"] []) (kC : PySem.W.keepIn K (.ref fC) = true)
    (mC : mg "_law_is_word" = some (.ref fC)) (mi : mg "isinstance" = none) (ms : mg "str" = none)
    (GN : FnOk P w K mg base CX0 2 fN fdN ["_law_thing"] (spName T nmV)) (bN : Binds K fdN ["_law_thing"] []) (kN : PySem.W.keepIn K (.ref fN) = true) (mN : mg "_law_is_name" = some (.ref fN)) :
    FnOk P w K mg base CX0 3 f fd ["_law_thing"] (spName T prV) := by
  refine F.ok scLPriv (fun vs H Q E h => ?_) (fun cdv A outer s H vs Q E hr h => ?_)
  · obtain ⟨v, rfl, _⟩ := h
    rfl
  obtain ⟨v, rfl, th, tg, q⟩ := h
  refine ⟨_, pss_cons (ps_if (PW.pt (pw_or (pt_not (pt_val (pe_callB call_isi (by rfl) mi (by decide +kernel) (pa_cons (pv 0) (pa_cons (pe_bltn (v := .ty "str") (by rfl) ms (by decide +kernel) rfl) pa_nil)))))
      (pw_or1 (pt_cmpR op_notIn_str pe_str (pv 0) rfl)))) (pss_one (ps_ret pe_bl)) pss_nil)
    (pss_cons (ps_set (i := 1) scLPriv.nd rfl (.inl rfl) (pe_m1 PySem.F.slot_str_index PySem.F.type_str_index mt_sindex (pv 0) pe_str))
    (pss_cons (ps_set (i := 2) scLPriv.nd rfl (.inl rfl) (pe_slice sl_str (pv 0) (po_some (pe_op op_add (pv 1) pe_int)) po_none))
    (pss_one (ps_ret (pe_and (pe_call GN hr (by rfl) mN kN bN .nil pass0 (pa_cons (pe_slice sl_str (pv 0) po_none (po_some (pv 1))) pa_nil)) (pe_and (pe_call GC (hr.mono (by decide)) (by rfl) mC kC bC .nil pass0 (pa_cons (pv 2) (pa_cons pe_str pa_nil)))
      (pe_one (pe_cmpR op_ne (pe_slice sl_str (pv 2) po_none (po_some pe_int)) pe_str (nomark _))))))))), ?_⟩
  obtain ⟨t, hty, hk⟩ := th.ty (K := K)
  refine ⟨v, rfl, v, .ty "str", .type t, .type "str", strish v, rfl, .ty "str", hty, hk, _, rfl, ?_⟩
  rcases th.cases with ⟨z, rfl, hz⟩ | ⟨e1, e2, e3⟩
  · refine iteF ?_
    refine ⟨_, rfl, ".", z, rfl, rfl, _, rfl, ite2 (fun h => ?_) (fun h => ?_)⟩
    · have h0 : dots z = [] := by
        have h' : (!(!(dots z).isEmpty)) = true := h
        rw [Bool.not_not] at h'
        exact List.isEmpty_iff.mp h'
      have e : prV (.str z) = false := by
        show privB z = _
        unfold privB
        rw [part_of, h0]
        show (nameB z && (wordB Str.empty fg && !hd0 Str.empty)) = false
        rw [show wordB Str.empty fg = false by decide +kernel, Bool.false_and, Bool.and_false]
      have q1 := q _ (Ext.refl tg)
      rw [e] at q1
      exact q1
    · obtain ⟨i, r, h0⟩ : ∃ i r, dots z = i :: r := by
        cases e : dots z with
        | nil =>
          exfalso
          apply h
          show (!(!(dots z).isEmpty)) = true
          rw [e]
          rfl
        | cons i r => exact ⟨i, r, rfl⟩
      have hi : i + 1 ≤ z.length := by
        rcases StrLaws.occ_head z "." 1 (Nat.le_refl 1) with ⟨h1, _⟩ | ⟨i', r', h1, h2, _⟩
        · rw [show dots z = [] from h1] at h0
          cases h0
        · rw [show dots z = i' :: r' from h1] at h0
          cases h0
          exact h2.1
      have eb : (Txt.partition z ".").1 = Builtin.Str.strSub z 0 i := by rw [part_of, h0]
      have ef : (Txt.partition z ".").2.2 = Builtin.Str.strSub z (i + 1) z.length := by rw [part_of, h0]
      have ep : prV (.str z) = (nameB (Builtin.Str.strSub z 0 i) && (wordB (Builtin.Str.strSub z (i + 1) z.length) fg && !hd0 (Builtin.Str.strSub z (i + 1) z.length))) := by
        show privB z = _
        unfold privB
        rw [eb, ef]
      have lF := hz.sub (i + 1) z.length
      refine ⟨_, rfl, ⟨z, rfl⟩, z, ".", i, r, rfl, rfl, h0, ?_⟩
      refine ⟨_, rfl, _, rfl, _, _, rfl, rfl, _, rfl, z, rfl, small hz.1, ?_⟩
      rw [cut_from hi]
      refine ⟨_, rfl, _, rfl, _, rfl, z, rfl, small hz.1, ?_⟩
      rw [cut_to (show i ≤ z.length by omega)]
      refine ⟨.str (Builtin.Str.strSub z 0 i), rfl, .str _ (hz.sub 0 i), tg, fun H1 x1 => ?_⟩
      refine ⟨_, rfl, ite2 (fun hn => ?_) (fun hn => ?_)⟩
      · have hN : nameB (Builtin.Str.strSub z 0 i) = true := hn
        refine ⟨_, rfl, _, fg, rfl, lF, x1.1, fun H2 x2 => ?_⟩
        refine ⟨_, rfl, ite2 (fun h2 => ?_) (fun h2 => ?_)⟩
        · obtain ⟨c, rr, ec⟩ := wordB_pos h2
          refine ⟨_, rfl, 1, rfl, _, rfl, small lF.1, ?_⟩
          rw [cut_one ec]
          refine ⟨rfl, ?_⟩
          have e : prV (.str z) = !decide (V.str ⟨#[c]⟩ = V.str "0") := by
            rw [ep, hN, show wordB (Builtin.Str.strSub z (i + 1) z.length) fg = true from h2, sign_eq (d := 48) (by decide +kernel)]
            unfold hd0
            rw [ec]
            simp
          have q1 := q H2 (x1.trans x2)
          rw [e] at q1
          exact q1
        · have h2' : wordB (Builtin.Str.strSub z (i + 1) z.length) fg = false := Bool.eq_false_iff.mpr h2
          have q1 := q H2 (x1.trans x2)
          rw [ep, h2', Bool.false_and, Bool.and_false] at q1
          exact q1
      · have hN : nameB (Builtin.Str.strSub z 0 i) = false := Bool.eq_false_iff.mpr hn
        have q1 := q H1 x1
        rw [ep, hN, Bool.false_and] at q1
        exact q1
  · rw [e1]
    refine iteT ?_
    have q1 := q H (Ext.refl tg)
    rw [e3] at q1
    exact q1
end
end K1

set_option Elab.async false
set_option linter.all false
set_option maxRecDepth 100000
set_option maxHeartbeats 2000000
namespace K1
open PySem PySem.Spec PyProof.Rows L2 GxR Wk
abbrev nmText : List Str := ["_law_left_here", "_law_letters", "_law_text_here", "_law_signs", "_law_at", "_law_k"]
theorem scText : FnScope nmText ["_law_left_here"] (defScope sText) := ⟨rfl, rfl, rfl, by decide +kernel, rfl, by decide +kernel, by decide +kernel⟩
/-! ### texts that are drawn -/
/-- at most k signs, plain ones -/
def Sh (k : Nat) (z : Str) : Prop := z.cps.toList.length ≤ k ∧ ∀ c ∈ z.cps.toList, c < 128
theorem Sh.len {k : Nat} {z : Str} (h : Sh k z) : z.length ≤ k := by
  have := h.1
  rw [Array.length_toList] at this
  exact this
theorem Sh.mono {k j : Nat} {z : Str} (h : Sh k z) (hk : k ≤ j) : Sh j z := ⟨Nat.le_trans h.1 hk, h.2⟩
theorem Sh.app {k j : Nat} {y z : Str} (h : Sh k y) (g : Sh j z) : Sh (k + j) (y ++ z) := by
  have e : (y ++ z).cps.toList = y.cps.toList ++ z.cps.toList := by
    show (y.cps ++ z.cps).toList = _
    rw [Array.toList_append]
  refine ⟨?_, fun c hc => ?_⟩
  · rw [e, List.length_append]
    exact Nat.add_le_add h.1 g.1
  · rw [e] at hc
    rcases List.mem_append.mp hc with q | q
    · exact h.2 c q
    · exact g.2 c q
theorem Sh.sign {c : Nat} (h : c < 128) : Sh 1 ⟨#[c]⟩ := ⟨Nat.le_refl 1, fun d hd => by
  have : d = c := by simpa using hd
  rw [this]
  exact h⟩
theorem Sh.cut {k : Nat} {z : Str} (h : Sh k z) (lo hi : Option Int) : Sh k (cutS z lo hi) := by
  refine ⟨?_, fun c hc => h.2 c ?_⟩
  · show (List.take _ (List.drop _ z.cps.toList)).length ≤ k
    rw [List.length_take, List.length_drop]
    have := h.1
    omega
  · have hc' : c ∈ List.take (HT.sIx z.length z.length hi - HT.sIx z.length 0 lo) (List.drop (HT.sIx z.length 0 lo) z.cps.toList) := hc
    exact List.mem_of_mem_drop (List.mem_of_mem_take hc')
theorem Sh.good {k : Nat} {z : Str} (h : Sh k z) (hk : k ≤ 1000) : Good z := ⟨Nat.le_trans h.len hk, h.2⟩
theorem join_signs {e : Str} (he : e.cps = #[]) (cs : List Nat) : Txt.join e (cs.map fun c => (⟨#[c]⟩ : Str)) = ⟨cs.toArray⟩ := by
  have go : ∀ (r : List Nat) (acc : Array Nat), (r.map fun c => (⟨#[c]⟩ : Str)).foldl (fun acc p => acc ++ e.cps ++ p.cps) acc = acc ++ r.toArray := by
    intro r
    induction r with
    | nil => intro acc; simp
    | cons c r ih =>
      intro acc
      rw [List.map_cons, List.foldl_cons, ih, he]
      apply Array.toList_inj.mp
      simp
  cases cs with
  | nil => rfl
  | cons c r =>
    show (⟨((r.map fun c => (⟨#[c]⟩ : Str)).foldl (fun acc p => acc ++ e.cps ++ p.cps) #[c])⟩ : Str) = _
    rw [go r #[c]]
    congr 1
    apply Array.toList_inj.mp
    simp
/-- but for L, which holds a list of one number, what stood stands -/
def StL (L : Addr) (H H' : Hp) : Prop := (∀ b o, b ≠ L → H b = some o → H' b = some o) ∧ ∃ n : Int, H' L = some (.lst [.int n])
theorem StL.refl {L : Addr} {H : Hp} {n : Int} (h : H L = some (.lst [.int n])) : StL L H H := ⟨fun _ _ _ e => e, n, h⟩
theorem StL.trans {L : Addr} {H H1 H2 : Hp} (a : StL L H H1) (b : StL L H1 H2) : StL L H H2 := ⟨fun c o n e => b.1 c o n (a.1 c o n e), b.2⟩
theorem StL.put {L : Addr} {H : Hp} (n : Int) : StL L H (upd H L (.lst [.int n])) := ⟨fun b o nb e => by rw [upd_ne nb]; exact e, n, upd_same⟩
theorem StL.new {L p : Addr} {H : Hp} {n : Int} {o : HO} (h : H L = some (.lst [.int n])) (np : H p = none) : StL L H (upd H p o) :=
  ⟨fun b u _ e => by rw [upd_ne (ne_of_none e np)]; exact e, n, by rw [upd_ne (ne_of_none h np)]; exact h⟩
theorem StL.none {L p : Addr} {H H' : Hp} (x : StL L H H') (h : H' p = Option.none) : H p = Option.none := by
  cases q : H p with
  | none => rfl
  | some o =>
    by_cases e : p = L
    · obtain ⟨n, hn⟩ := x.2
      rw [e, hn] at h
      cases h
    · rw [x.1 p o e q] at h
      cases h
theorem sum_ones : ∀ cs : List Nat, ((cs.map fun c => (⟨#[c]⟩ : Str)).map (·.length)).sum = cs.length
  | [] => rfl
  | c :: r => by
    rw [List.map_cons, List.map_cons, List.sum_cons, sum_ones r, List.length_cons]
    show 1 + r.length = r.length + 1
    omega
theorem join_ok {cs : List Nat} {e : Str} (he : e.length = 0) (h : cs.length ≤ 1000) : ((cs.map fun c => (⟨#[c]⟩ : Str)).map (·.length)).sum + (cs.map fun c => (⟨#[c]⟩ : Str)).length * e.length ≤ 16777216 := by
  rw [sum_ones, he, Nat.mul_zero]
  omega
theorem seq_signs {K : PySem.W.Frag} {H : Hp} {D : Addr} {cs : List Nat} (h : H D = some (.lst (cs.map fun c => .str ⟨#[c]⟩))) : SqL K H D ((cs.map fun c => (⟨#[c]⟩ : Str)).map V.str) := by
  rw [List.map_map]
  exact SqL.of h
theorem sh_mk {cs : List Nat} {k : Nat} (h : cs.length ≤ k) (g : ∀ c ∈ cs, c < 128) : Sh k ⟨cs.toArray⟩ := ⟨h, g⟩
abbrev sgA : Str := " !\"#$&'()*+,-./0123456789:;<=>?@ABCDEFGHIJKLMNOPQRSTUVWXYZ[]^_`{|}~\n\t"
theorem ab_len : ab.cps.toList.length = 26 := by decide +kernel
theorem ab_lt : ∀ c ∈ ab.cps.toList, c < 128 := by decide +kernel
theorem fg_len : fg.cps.toList.length = 10 := by decide +kernel
theorem fg_lt : ∀ c ∈ fg.cps.toList, c < 128 := by decide +kernel
theorem sg_len : (sgA ++ ab).cps.toList.length = 95 := by decide +kernel
theorem sg_lt : ∀ c ∈ (sgA ++ ab).cps.toList, c < 128 := by decide +kernel
theorem taken_sh : ∀ v ∈ takenV, ∃ z, v = .str z ∧ Sh 7 z := by
  intro v hv
  unfold takenV at hv
  simp only [List.mem_cons, List.not_mem_nil, or_false] at hv
  rcases hv with rfl | rfl | rfl | rfl
  all_goals exact ⟨_, rfl, by unfold Sh; decide +kernel⟩
/-- the list that a comprehension has drawn so far -/
def Drawn (L D : Addr) (H : Hp) (i : Nat) (H' : Hp) : Prop := StL L H H' ∧ ∃ cs : List Nat, cs.length = i ∧ (∀ c ∈ cs, c < 128) ∧ H' D = some (.lst (cs.map fun c => .str ⟨#[c]⟩))
theorem Drawn.zero {L D : Addr} {H H1 : Hp} (x : StL L H H1) (nD : H1 D = none) : Drawn L D H 0 (upd H1 D (.lst [])) := by
  obtain ⟨n, hn⟩ := x.2
  exact ⟨x.trans (StL.new hn nD), [], rfl, fun c hc => (nomatch hc), upd_same⟩
theorem Drawn.next {L D : Addr} {H H' : Hp} {i c : Nat} {n : Int} (h : Drawn L D H i H') (nDL : D ≠ L) (nD : H D = none) (hc : c < 128) (hi : i ≤ 1000) :
    ∃ acc, upd H' L (.lst [.int n]) D = some (.lst acc) ∧ acc.length < sizeLine ∧ Drawn L D H (i + 1) (upd (upd H' L (.lst [.int n])) D (.lst (acc ++ [.str ⟨#[c]⟩]))) := by
  obtain ⟨x, cs, hl, hcs, hD⟩ := h
  refine ⟨cs.map fun c => .str ⟨#[c]⟩, by rw [upd_ne nDL]; exact hD, by rw [List.length_map, hl]; exact small1000 hi, ⟨?_, ?_⟩, cs ++ [c], ?_, ?_, ?_⟩
  · intro b o nb e
    rw [upd_ne (ne_of_none e nD), upd_ne nb]
    exact x.1 b o nb e
  · exact ⟨n, by rw [upd_ne (Ne.symm nDL), upd_same]⟩
  · rw [List.length_append, hl]
    rfl
  · intro d hd
    rcases List.mem_append.mp hd with q | q
    · exact hcs d q
    · rw [List.mem_singleton.mp q]
      exact hc
  · rw [upd_same, List.map_append]
    rfl
def spText : Sp := fun vs H Q _ => ∃ (L : Addr) (n : Int), vs = [.ref L] ∧ H L = some (.lst [.int n]) ∧ ∀ (H' : Hp) (z : Str), StL L H H' → Sh 31 z → Q (.str z) H'
theorem yes {σ : L2.St} {H : Hp} {Q : Bool → Hp → Prop} (h : Q true H) : tYes σ H Q := h
theorem at_lt {l : List Nat} {d : Int} (h0 : 0 ≤ d) (h1 : d < l.length) : ∃ c ∈ l, atI l d = some c := by
  have hd : d.toNat < l.length := by omega
  refine ⟨l[d.toNat], List.getElem_mem hd, ?_⟩
  have e : atI l ((d.toNat : Nat) : Int) = some l[d.toNat] := atI_nat (List.getElem?_eq_getElem hd)
  rw [show ((d.toNat : Nat) : Int) = d by omega] at e
  exact e
theorem atV_lt {l : List V} {d : Int} (h0 : 0 ≤ d) (h1 : d < l.length) : ∃ c ∈ l, atI l d = some c := by
  have hd : d.toNat < l.length := by omega
  refine ⟨l[d.toNat], List.getElem_mem hd, ?_⟩
  have e : atI l ((d.toNat : Nat) : Int) = some l[d.toNat] := atI_nat (List.getElem?_eq_getElem hd)
  rw [show ((d.toNat : Nat) : Int) = d by omega] at e
  exact e
section
variable {P : Program} {w : World} {K : PySem.W.Frag} {mg : Str → Option Value} {base : Heap} {T : Addr}
theorem ok_text {f fD : Addr} {fd fdD : FuncData} (F : Fun K "_law_text" "_law_text" sText f fd) (GD : FnOk P w K mg base CX0 1 fD fdD ["_law_left_here", "_law_many"] spDigit) (bD : Binds K fdD ["_law_left_here", "_law_many"] []) (kD : PySem.W.keepIn K (.ref fD) = true)
    (mD : mg "_law_digit" = some (.ref fD)) (mr : mg "range" = none) (ml : mg "len" = none) : FnOk P w K mg base CX0 2 f fd ["_law_left_here"] spText := by
  refine F.ok scText (fun vs H Q E h => ?_) (fun cdv A outer s H vs Q E hr h => ?_)
  · obtain ⟨v, n, rfl, _⟩ := h
    rfl
  obtain ⟨L, n, rfl, hL, q⟩ := h
  refine ⟨_, pss_cons (ps_set (i := 1) scText.nd rfl (.inr rfl) pe_str)
    (pss_cons (ps_set (i := 2) scText.nd rfl (.inl rfl) (pe_join pe_str (pe_lc (own := [("_law_k", 5)]) (g := gName 5) (tt := tYes) (by rfl) scText.nd (pi_range1 rfl mr (pa_cons (pe_call GD hr (by rfl) mD kD bD .nil pass0 (pa_cons (pv 0) (pa_cons pe_int pa_nil))) pa_nil))
        (blkOk_by (own := [("_law_k", 5)]) (N := nmText) (sc := defScope sText) (by decide +kernel)) (fun _ _ _ _ _ => pg_name (i := 5) scText.nd rfl (Or.inl rfl)) (fun _ _ _ _ _ => pts_nil)
        (fun _ _ _ _ _ => pe_ix ix_str (pv 1) (pe_call GD hr (by rfl) mD kD bD .nil pass0 (pa_cons (pv 0) (pa_cons pe_int pa_nil))) (fun _ _ => rfl)))))
    (C8.pss_cut (ps_if (pt_cmpR op_eq (pe_call GD hr (by rfl) mD kD bD .nil pass0 (pa_cons (pv 0) (pa_cons pe_int pa_nil))) pe_int (nomark _))
        (pss_one (ps_set (i := 2) scText.nd rfl (.inl rfl) (pe_ix ix_list (pe_lst (pa_cons pe_str (pa_cons pe_str (pa_cons pe_str (pa_cons pe_str pa_nil))))) (pe_call GD hr (by rfl) mD kD bD .nil pass0 (pa_cons (pv 0) (pa_cons pe_int pa_nil))) (fun _ _ => rfl)))) pss_nil)
    (C8.pss_cut (ps_if (pt_cmpR op_eq (pe_call GD hr (by rfl) mD kD bD .nil pass0 (pa_cons (pv 0) (pa_cons pe_int pa_nil))) pe_int (nomark _))
        (pss_one (ps_set (i := 2) scText.nd rfl (.inl rfl) (pe_op op_add_str (pe_op op_add_str (pv 2) pe_str) (pe_join pe_str (pe_lc (own := [("_law_k", 5)]) (g := gName 5) (tt := tYes) (by rfl) scText.nd (pi_range1 rfl mr (pa_cons (pe_call GD hr (by rfl) mD kD bD .nil pass0 (pa_cons (pv 0) (pa_cons pe_int pa_nil))) pa_nil))
          (blkOk_by (own := [("_law_k", 5)]) (N := nmText) (sc := defScope sText) (by decide +kernel)) (fun _ _ _ _ _ => pg_name (i := 5) scText.nd rfl (Or.inl rfl)) (fun _ _ _ _ _ => pts_nil)
          (fun _ _ _ _ _ => pe_ix ix_str pe_str (pe_call GD hr (by rfl) mD kD bD .nil pass0 (pa_cons (pv 0) (pa_cons pe_int pa_nil))) (fun _ _ => rfl))))))) pss_nil)
    (C8.pss_cut (ps_if (pt_cmpR op_eq (pe_call GD hr (by rfl) mD kD bD .nil pass0 (pa_cons (pv 0) (pa_cons pe_int pa_nil))) pe_int (nomark _))
        (pss_cons (ps_set (i := 3) scText.nd rfl (.inl rfl) pe_str)
        (pss_cons (ps_set (i := 3) scText.nd rfl (.inl rfl) (pe_op op_add_str (pv 3) pe_str))
        (pss_cons (ps_set (i := 4) scText.nd rfl (.inl rfl) (pe_call GD hr (by rfl) mD kD bD .nil pass0 (pa_cons (pv 0) (pa_cons (pe_op op_add (pe_callB call_len_str (by rfl) ml PySem.boot_len (pa_cons (pv 2) pa_nil)) pe_int) pa_nil))))
        (pss_one (ps_set (i := 2) scText.nd rfl (.inl rfl) (pe_op op_add_str (pe_op op_add_str (pe_slice sl_str (pv 2) po_none (po_some (pv 4)))
            (pe_ix ix_str (pv 3) (pe_call GD hr (by rfl) mD kD bD .nil pass0 (pa_cons (pv 0) (pa_cons (pe_callB call_len_str (by rfl) ml PySem.boot_len (pa_cons (pv 3) pa_nil)) pa_nil))) (fun _ _ => rfl)))
            (pe_slice sl_str (pv 2) (po_some (pe_op op_add (pv 4) (pe_call GD hr (by rfl) mD kD bD .nil pass0 (pa_cons (pv 0) (pa_cons pe_int pa_nil))))) po_none))))))) pss_nil)
    (pss_one (ps_ret (pv 2))))))), ?_⟩
  refine ⟨⟨_, rfl⟩, _, rfl, L, n, 8, rfl, hL, by decide, by decide, fun d0 n0 h0 h8 => ?_⟩
  have xL : StL L H (upd H L (.lst [.int n0])) := StL.put n0
  refine ⟨d0, rfl, Int.le_trans (by decide) h0, Int.lt_of_lt_of_le h8 (by decide), fun D nD => ?_⟩
  have nDL : D ≠ L := fun e => by
    rw [e, upd_same] at nD
    cases nD
  have nD0 : H D = none := xL.none nD
  refine lc_range (lo := 0) (n := d0.toNat) (Drawn L D H) (.zero xL nD) (fun i H' hi hP => ?_) fun H' hP => ?_
  · obtain ⟨n1, hn1⟩ := hP.1.2
    refine ⟨rfl, yes (iteT ?_)⟩
    refine ⟨_, rfl, _, rfl, L, n1, 26, rfl, hn1, by decide, by decide, fun d n2 hd0 hd1 => ?_⟩
    obtain ⟨c, hc, hat⟩ := at_lt (l := ab.cps.toList) hd0 (by rw [ab_len]; exact hd1)
    exact ⟨ab, d, c, rfl, rfl, by decide +kernel, hat, hP.next nDL nD0 (ab_lt c hc) (by omega)⟩
  obtain ⟨x1, cs, hl, hcs, hD⟩ := hP
  have hl7 : cs.length ≤ 7 := by omega
  refine ⟨_, D, cs.map fun c => ⟨#[c]⟩, rfl, rfl, .inl (seq_signs hD), join_ok (by decide +kernel) (by omega), ?_⟩
  rw [join_signs (by decide +kernel)]
  have z1 : Sh 7 ⟨cs.toArray⟩ := sh_mk hl7 hcs
  -- the words that are kept for deeds
  refine ⟨fun σ' H' => StL L H H' ∧ ∃ z : Str, ∃ s3 s4 s5 : Option V, Sh 7 z ∧ σ' = [some (.ref L), some (.str ab), some (.str z), s3, s4, s5], ?_, fun σ' H2 hm => ?_⟩
  · obtain ⟨n1, hn1⟩ := x1.2
    refine ⟨_, rfl, L, n1, 4, rfl, hn1, by decide, by decide, fun d1 n2 g0 g1 => ?_⟩
    have x2 := x1.trans (StL.put (H := H') (L := L) n2)
    refine ⟨rfl, _, rfl, ite2 (fun hif => ?_) (fun hif => ?_)⟩
    · refine ⟨by decide, fun p np => ?_⟩
      have x3 := x2.trans (StL.new (o := .lst takenV) upd_same np)
      obtain ⟨n3, hn3⟩ := x3.2
      refine ⟨_, rfl, L, n3, 4, rfl, hn3, by decide, by decide, fun d2 n4 k0 k1 => ?_⟩
      have xc := x3.trans (StL.put n4)
      obtain ⟨v, hv, hat⟩ := atV_lt (l := takenV) k0 k1
      obtain ⟨z, rfl, zc⟩ := taken_sh v hv
      have npL : p ≠ L := fun e => by
        rw [e, upd_same] at np
        cases np
      exact ⟨p, takenV, d2, .str z, rfl, rfl, SqL.of (by rw [upd_ne npL, upd_same]; rfl), hat, xc, z, _, _, _, zc, rfl⟩
    · exact ⟨x2, _, _, _, _, z1, rfl⟩
  obtain ⟨x2, z, s3, s4, s5, hz, rfl⟩ := hm
  -- a dot and figures
  refine ⟨fun σ' H' => StL L H H' ∧ ∃ z : Str, ∃ s3 s4 s5 : Option V, Sh 15 z ∧ σ' = [some (.ref L), some (.str ab), some (.str z), s3, s4, s5], ?_, fun σ' H3 hm => ?_⟩
  · obtain ⟨n1, hn1⟩ := x2.2
    refine ⟨_, rfl, L, n1, 2, rfl, hn1, by decide, by decide, fun d1 n2 g0 g1 => ?_⟩
    have x3 := x2.trans (StL.put (H := H2) (L := L) n2)
    refine ⟨rfl, _, rfl, ite2 (fun hif => ?_) (fun hif => ?_)⟩
    · have hz1 : Sh 1 "." := by unfold Sh; decide +kernel
      have za : Sh 8 (z ++ ".") := (hz.app hz1)
      refine ⟨_, rfl, z, ".", rfl, rfl, small (by have := hz.len; have := hz1.len; omega), ?_⟩
      refine ⟨⟨_, rfl⟩, _, rfl, L, n2, 8, rfl, upd_same, by decide, by decide, fun e0 n3 e1 e2 => ?_⟩
      have x4 := x3.trans (StL.put n3)
      refine ⟨e0, rfl, Int.le_trans (by decide) e1, Int.lt_of_lt_of_le e2 (by decide), fun D2 nD2 => ?_⟩
      have nDL2 : D2 ≠ L := fun e => by
        rw [e, upd_same] at nD2
        cases nD2
      have nD02 : H D2 = none := x4.none nD2
      refine lc_range (lo := 0) (n := e0.toNat) (Drawn L D2 H) (.zero x4 nD2) (fun i H' hi hP => ?_) fun H' hP => ?_
      · obtain ⟨n1, hn1⟩ := hP.1.2
        refine ⟨rfl, yes (iteT ?_)⟩
        refine ⟨_, rfl, L, n1, 10, rfl, hn1, by decide, by decide, fun d n2 hd0 hd1 => ?_⟩
        obtain ⟨c, hc, hat⟩ := at_lt (l := fg.cps.toList) hd0 (by rw [fg_len]; exact hd1)
        exact ⟨fg, d, c, rfl, rfl, by decide +kernel, hat, hP.next nDL2 nD02 (fg_lt c hc) (by omega)⟩
      obtain ⟨x5, cs2, hl2, hcs2, hD2⟩ := hP
      have hl27 : cs2.length ≤ 7 := by omega
      refine ⟨_, D2, cs2.map fun c => ⟨#[c]⟩, rfl, rfl, .inl (seq_signs hD2), join_ok (by decide +kernel) (by omega), ?_⟩
      rw [join_signs (by decide +kernel)]
      have z2 : Sh 7 ⟨cs2.toArray⟩ := sh_mk hl27 hcs2
      exact ⟨_, _, rfl, rfl, small (by have := za.len; have := z2.len; omega), x5, _, _, _, _, za.app z2, rfl⟩
    · exact ⟨x3, _, _, _, _, hz.mono (by omega), rfl⟩
  obtain ⟨x3, z3, s3, s4, s5, hz3, rfl⟩ := hm
  -- one sign put otherwise
  refine ⟨fun σ' H' => StL L H H' ∧ ∃ z : Str, ∃ s3 s4 s5 : Option V, Sh 31 z ∧ σ' = [some (.ref L), some (.str ab), some (.str z), s3, s4, s5], ?_, fun σ' H4 hm => ?_⟩
  · obtain ⟨n1, hn1⟩ := x3.2
    refine ⟨_, rfl, L, n1, 3, rfl, hn1, by decide, by decide, fun d1 n2 g0 g1 => ?_⟩
    have x4 := x3.trans (StL.put (H := H3) (L := L) n2)
    refine ⟨rfl, _, rfl, ite2 (fun hif => ?_) (fun hif => ?_)⟩
    · refine ⟨_, rfl, sgA, ab, rfl, rfl, by decide +kernel, ?_⟩
      have l3 := hz3.len
      refine ⟨_, rfl, _, rfl, z3, rfl, small (by omega), _, _, rfl, rfl, L, n2, _, rfl, upd_same, by omega, by omega, fun a n3 a0 a1 => ?_⟩
      have x5 := x4.trans (StL.put n3)
      refine ⟨_, rfl, _, rfl, _, rfl, z3, rfl, small (by omega), ?_⟩
      refine ⟨_, rfl, _, rfl, _, rfl, sgA ++ ab, rfl, by decide +kernel, L, n3, _, rfl, upd_same, by decide +kernel, by decide +kernel, fun b n4 b0 b1 => ?_⟩
      have x6 := x5.trans (StL.put n4)
      obtain ⟨c, hc, hat⟩ := at_lt (l := (sgA ++ ab).cps.toList) b0 (by rw [Array.length_toList]; exact b1)
      have zc := Sh.sign (sg_lt c hc)
      refine ⟨sgA ++ ab, b, c, rfl, rfl, by decide +kernel, hat, ?_⟩
      have zl := hz3.cut none (some a)
      refine ⟨_, _, rfl, rfl, small (by have := zl.len; have := zc.len; omega), ?_⟩
      refine ⟨_, rfl, _, rfl, _, rfl, L, n4, 2, rfl, upd_same, by decide, by decide, fun g n5 g0 g1 => ?_⟩
      have x7 := x6.trans (StL.put n5)
      refine ⟨_, _, rfl, rfl, _, rfl, z3, rfl, small (by omega), ?_⟩
      have zr := hz3.cut (some (a + g)) none
      have z4 := zl.app zc
      exact ⟨_, _, rfl, rfl, small (by have := z4.len; have := zr.len; omega), x7, _, _, _, _, z4.app zr, rfl⟩
    · exact ⟨x4, _, _, _, _, hz3.mono (by omega), rfl⟩
  obtain ⟨x4, z4, s3, s4, s5, hz4, rfl⟩ := hm
  exact ⟨_, rfl, q H4 z4 x4 hz4⟩
end
end K1

set_option Elab.async false
set_option linter.all false
set_option maxRecDepth 100000
set_option maxHeartbeats 2000000
namespace K1
open PySem PySem.Spec PyProof.Rows L2 GxR Wk
abbrev nmAsked : List Str := ["_law_thing", "_law_told", "_law_one"]
theorem scAsked : FnScope nmAsked ["_law_thing"] (defScope sAsked) := ⟨rfl, rfl, rfl, by decide +kernel, rfl, by decide +kernel, by decide +kernel⟩
abbrev nmLaw : List Str := ["_law_script", "_law_cell", "_law_left_here", "_law_text_here", "_law_some", "_law_thing"]
theorem scLaw : FnScope nmLaw ["_law_script"] (defScope sLaw) := ⟨rfl, rfl, rfl, by decide +kernel, rfl, by decide +kernel, by decide +kernel⟩
theorem name_nodot {z : Str} (h : nameB z = true) : dots z = [] := by
  unfold nameB wordB at h
  simp only [Bool.and_eq_true] at h
  have h3 := List.all_eq_true.mp h.2.2.2
  have e := StrLaws.found_one z 46
  have hn : ¬ 46 ∈ z.cps.toList := fun hm => by
    have := of_decide_eq_true (h3 46 hm)
    exact absurd this (by decide +kernel)
  rw [decide_eq_false hn] at e
  have e2 : (!(dots z).isEmpty) = false := e
  have e3 : (dots z).isEmpty = true := by simpa using e2
  exact List.isEmpty_iff.mp e3
theorem priv_dot {z : Str} (h : privB z = true) : ∃ i r, dots z = i :: r := by
  cases e : dots z with
  | cons i r => exact ⟨i, r, rfl⟩
  | nil =>
    unfold privB at h
    rw [part_of, e] at h
    simp only [Bool.and_eq_true] at h
    exact absurd h.2.1 (by decide +kernel)
theorem dot_le {z : Str} {i : Nat} {r : List Nat} (h0 : dots z = i :: r) : i + 1 ≤ z.length := by
  rcases StrLaws.occ_head z "." 1 (Nat.le_refl 1) with ⟨h1, _⟩ | ⟨i', r', h1, h2, _⟩
  · rw [show dots z = [] from h1] at h0
    cases h0
  · rw [show dots z = i' :: r' from h1] at h0
    cases h0
    exact h2.1
theorem two_shaped (a b : Bool) : SeqAt.shaped (.list [.bool a, .bool b]) = true := by cases a <;> cases b <;> decide +kernel
theorem two_eqv (a b : Bool) : PyData.eqv (.list [.bool a, .bool b]) (.list [.bool a, .bool b]) = true := by cases a <;> cases b <;> decide +kernel
section
variable {P : Program} {w : World} {K : PySem.W.Frag} {mg : Str → Option Value} {base : Heap} {T : Addr}
def spAsked (T : Addr) : Sp := fun vs H Q _ => ∃ v : V, vs = [v] ∧ Thing H v ∧ TabG H T ∧ ∀ H', Ext T H H' → Q (.bl true) H'
theorem ok_asked {f f1 f2 f3 f4 f5 : Addr} {fd d1 d2 d3 d4 d5 : FuncData} (F : Fun K "_law_asked" "_law_asked" sAsked f fd)
    (G1 : FnOk P w K mg base CX0 2 f1 d1 ["thing"] (spName T nmV)) (b1 : Binds K d1 ["thing"] []) (k1 : PySem.W.keepIn K (.ref f1) = true) (m1 : mg "is_name" = some (.ref f1))
    (G2 : FnOk P w K mg base CX0 3 f2 d2 ["thing"] (spName T prV)) (b2 : Binds K d2 ["thing"] []) (k2 : PySem.W.keepIn K (.ref f2) = true) (m2 : mg "is_private" = some (.ref f2))
    (G3 : FnOk P w K mg base CX0 2 f3 d3 ["_law_thing"] (spName T nmV)) (b3 : Binds K d3 ["_law_thing"] []) (k3 : PySem.W.keepIn K (.ref f3) = true) (m3 : mg "_law_is_name" = some (.ref f3))
    (G4 : FnOk P w K mg base CX0 3 f4 d4 ["_law_thing"] (spName T prV)) (b4 : Binds K d4 ["_law_thing"] []) (k4 : PySem.W.keepIn K (.ref f4) = true) (m4 : mg "_law_is_private" = some (.ref f4))
    (G5 : FnOk P w K mg base CX0 1 f5 d5 ["calling"] (spBase T)) (b5 : Binds K d5 ["calling"] []) (k5 : PySem.W.keepIn K (.ref f5) = true) (m5 : mg "base_of" = some (.ref f5))
    (mi : mg "isinstance" = none) (mb : mg "bool" = none) : FnOk P w K mg base CX0 4 f fd ["_law_thing"] (spAsked T) := by
  refine F.ok scAsked (fun vs H Q E h => ?_) (fun cdv A outer s H vs Q E hr h => ?_)
  · obtain ⟨v, rfl, _⟩ := h
    rfl
  obtain ⟨v, rfl, th, tg, q⟩ := h
  refine ⟨_, pss_cons (ps_set (i := 1) scAsked.nd rfl (.inl rfl) (pe_lst (pa_cons (pe_call G1 (hr.mono (by decide)) (by rfl) m1 k1 b1 .nil pass0 (pa_cons (pv 0) pa_nil)) (pa_cons (pe_call G2 hr (by rfl) m2 k2 b2 .nil pass0 (pa_cons (pv 0) pa_nil)) pa_nil))))
    (pss_cons (ps_if (pt_cmpR (op_neD hr.units) (pe_lc (own := [("_law_one", 2)]) (g := gName 2) (tt := tNot (tB (tCB (rIsi K) (tCons (tVar 2) (tCons (tC (V.ty "bool")) tNil))))) (by rfl) scAsked.nd (pi_list (pv 1)) (blkOk_by (own := [("_law_one", 2)]) (N := nmAsked) (sc := defScope sAsked) (by decide +kernel))
        (fun _ _ _ _ _ => pg_name (i := 2) scAsked.nd rfl (Or.inl rfl)) (fun _ _ _ _ _ => pts_one (pt_not (pt_val (pe_callB (id := "isinstance") call_isi (by rfl) mi (by decide +kernel) (pa_cons (pv 2) (pa_cons (pe_bltn (v := .ty "bool") (by rfl) mb (by decide +kernel) rfl) pa_nil)))))) (fun _ _ _ _ _ => pv 2)) (pe_lst pa_nil) (nomark _)) (pss_one (ps_ret pe_bl)) pss_nil)
    (pss_cons (ps_if (pt_cmpR (op_neD hr.units) (pv 1) (pe_lst (pa_cons (pe_call G3 (hr.mono (by decide)) (by rfl) m3 k3 b3 .nil pass0 (pa_cons (pv 0) pa_nil)) (pa_cons (pe_call G4 hr (by rfl) m4 k4 b4 .nil pass0 (pa_cons (pv 0) pa_nil)) pa_nil))) (nomark _)) (pss_one (ps_ret pe_bl)) pss_nil)
    (pss_cons (ps_if (pt_val (pe_ix ix_list (pv 1) pe_int (fun _ _ => rfl))) (pss_one (ps_ret (pe_cmpR op_eq (pe_call G5 (hr.mono (by decide)) (by rfl) m5 k5 b5 .nil pass0 (pa_cons (pv 0) pa_nil)) (pv 0) (nomark _)))) pss_nil)
    (pss_cons (ps_if (pt_val (pe_ix ix_list (pv 1) pe_int (fun _ _ => rfl))) (pss_one (ps_ret (pe_cmpR op_eq (pe_call G5 (hr.mono (by decide)) (by rfl) m5 k5 b5 .nil pass0 (pa_cons (pv 0) pa_nil))
        (pe_slice sl_str (pv 0) po_none (po_some (pe_m1 PySem.F.slot_str_index PySem.F.type_str_index mt_sindex (pv 0) pe_str))) (nomark _)))) pss_nil)
    (pss_one (ps_ret pe_bl)))))), ?_⟩
  refine ⟨v, rfl, v, rfl, th, tg, fun H1 x1 => ?_⟩
  refine ⟨v, rfl, v, rfl, th.ext tg x1, x1.1, fun H2 x2 => ?_⟩
  have x02 := x1.trans x2
  refine ⟨(show 2 ≤ sizeLine by decide), fun p np => ?_⟩
  have x03 : Ext T H (upd H2 p (.lst [.bl (nmV v), .bl (prV v)])) := x02.trans (Ext.new x02.1 np)
  -- only truths are told
  refine ⟨.ref p, rfl, p, rfl, ⟨_, SqL.of upd_same⟩, fun D nD => ?_⟩
  have nDp : p ≠ D := fun e => by
    rw [← e, upd_same] at nD
    cases nD
  refine lc_list (K := K) (a := p) (xs := [.bl (nmV v), .bl (prV v)]) (fun _ H' => Ext T H H' ∧ H' p = some (.lst [.bl (nmV v), .bl (prV v)]) ∧ H' D = some (.lst [])) ⟨x03.trans (Ext.new x03.1 nD), by rw [upd_ne nDp, upd_same], upd_same⟩ (fun i H' _ hP => SqL.of hP.2.1) (fun i x H' hx hP => ?_) (fun H' hP => ?_)
  · obtain ⟨b, rfl⟩ : ∃ b, x = .bl b := by
      match i, hx with
      | 0, hx => exact ⟨_, (Option.some.inj hx).symm⟩
      | 1, hx => exact ⟨_, (Option.some.inj hx).symm⟩
      | i + 2, hx => simp at hx
    refine ⟨rfl, _, rfl, .bl b, .ty "bool", .type "bool", .type "bool", true, rfl, .ty "bool", .base (.bl b), kit_ty (by decide +kernel), _, rfl, ?_⟩
    exact iteF hP
  obtain ⟨x4, hp4, hD4⟩ := hP
  refine ⟨Nat.zero_le _, fun E2 nE => ?_⟩
  have hD5 : upd H' E2 (.lst []) D = some (.lst []) := by rw [upd_ne (ne_of_none hD4 nE)]; exact hD4
  have hp5 : upd H' E2 (.lst []) p = some (.lst [.bl (nmV v), .bl (prV v)]) := by rw [upd_ne (ne_of_none hp4 nE)]; exact hp4
  have x5 := x4.trans (Ext.new (o := .lst []) x4.1 nE)
  refine ⟨.list [], .list [], .lst (SqL.of hD5) .nil, .lst (SqL.of upd_same) .nil, shaped_nil, shaped_nil, _, rfl, ?_⟩
  rw [eqv_nil]
  refine iteF ?_
  -- as the law's own look tells
  have pT : p ≠ T := tbl_ne x5.1 hp5 fun _ z => by cases z
  refine ⟨.ref p, rfl, v, rfl, v, rfl, th.ext tg x5, x5.1, fun H6 x6 => ?_⟩
  have x06 := x5.trans x6
  refine ⟨v, rfl, v, rfl, th.ext tg x06, x06.1, fun H7 x7 => ?_⟩
  have x07 := x06.trans x7
  have hp7 := x7.2 _ _ pT (x6.2 _ _ pT hp5)
  refine ⟨(show 2 ≤ sizeLine by decide), fun r nr => ?_⟩
  have x8 := x07.trans (Ext.new (o := .lst [.bl (nmV v), .bl (prV v)]) x07.1 nr)
  have hp8 : upd H7 r (.lst [.bl (nmV v), .bl (prV v)]) p = some (.lst [.bl (nmV v), .bl (prV v)]) := by rw [upd_ne (ne_of_none hp7 nr)]; exact hp7
  refine ⟨_, _, .lst (SqL.of hp8) (.cons (.bl _) (.cons (.bl _) .nil)), .lst (SqL.of upd_same) (.cons (.bl _) (.cons (.bl _) .nil)), two_shaped _ _, two_shaped _ _, _, rfl, ?_⟩
  rw [two_eqv]
  refine iteF ?_
  refine ⟨.ref p, rfl, p, _, 0, .bl (nmV v), rfl, rfl, SqL.of hp8, atI_nat (j := 0) rfl, _, rfl, ite2 (fun hn => ?_) (fun hn => ?_)⟩
  · obtain ⟨z, rfl, hz⟩ | ⟨_, e2, _⟩ := th.cases
    · have h0 := name_nodot (z := z) hn
      refine ⟨_, rfl, z, rfl, hz, x8.1, fun H9 x9 => ?_⟩
      refine ⟨_, rfl, rfl, ?_⟩
      have e : baseS z = z := by unfold baseS; rw [h0]
      rw [e, decide_eq_true rfl]
      exact q _ (x8.trans x9)
    · rw [e2] at hn
      cases hn
  · refine ⟨.ref p, rfl, p, _, 1, .bl (prV v), rfl, rfl, SqL.of hp8, atI_nat (j := 1) rfl, _, rfl, ite2 (fun hm => ?_) (fun hm => ?_)⟩
    · obtain ⟨z, rfl, hz⟩ | ⟨_, _, e3⟩ := th.cases
      · obtain ⟨i, rr, h0⟩ := priv_dot (z := z) hm
        refine ⟨_, rfl, z, rfl, hz, x8.1, fun H9 x9 => ?_⟩
        refine ⟨_, rfl, _, rfl, ⟨z, rfl⟩, z, ".", i, rr, rfl, rfl, h0, _, rfl, z, rfl, small hz.1, ?_⟩
        have hle := dot_le h0
        rw [cut_to (show i ≤ z.length by omega)]
        refine ⟨rfl, ?_⟩
        have e : baseS z = Builtin.Str.strSub z 0 i := by unfold baseS; rw [h0]
        rw [e, decide_eq_true rfl]
        exact q _ (x8.trans x9)
      · rw [e3] at hm
        cases hm
    · exact q _ x8
/-! ### law -/
theorem kn {H : Hp} {a p : Addr} {o u : HO} (h : H a = some o) (n : H p = none) : upd H p u a = some o := by
  rw [upd_ne (ne_of_none h n)]
  exact h
def ten (z : Str) : List V := [.str z, .str (z ++ ".1"), .str "a.1", .str "key.999999", .str "key.1000000", .str "a.01", .str "in.3", .str "inn", .str "a.3.4", .str ""]
def eight (e1 e2 e3 e4 : Addr) : List V := [.non, .int 5, .bl true, .ref e1, .ref e2, .ref e3, .ref e4, .int 0]
theorem ten_thing {H : Hp} {z : Str} (hz : Sh 31 z) : ∀ v ∈ ten z, Thing H v := by
  intro v hv
  unfold ten at hv
  simp only [List.mem_cons, List.not_mem_nil, or_false] at hv
  have h1 : Sh 2 ".1" := by unfold Sh; decide +kernel
  rcases hv with rfl | rfl | rfl | rfl | rfl | rfl | rfl | rfl | rfl | rfl
  · exact .str _ (hz.good (by decide))
  · exact .str _ ((hz.app h1).good (by decide))
  all_goals exact .str _ (by unfold Good; decide +kernel)
theorem eight_thing {H : Hp} {e1 e2 e3 e4 : Addr} (h1 : H e1 = some (.lst [.str "a"])) (h2 : H e2 = some (.tup [.str "a"])) (h3 : H e3 = some (.dK [])) (h4 : H e4 = some (.lst [])) : ∀ v ∈ eight e1 e2 e3 e4, Thing H v := by
  intro v hv
  unfold eight at hv
  simp only [List.mem_cons, List.not_mem_nil, or_false] at hv
  rcases hv with rfl | rfl | rfl | rfl | rfl | rfl | rfl | rfl
  · exact .non
  · exact .int _
  · exact .bl _
  · exact .lst h1
  · exact .tup h2
  · exact .dct h3
  · exact .lst h4
  · exact .int _
def spLaw (K : PySem.W.Frag) (T : Addr) : Sp := fun vs H Q _ => ∃ (a : Addr) (ns : List Int), vs = [.ref a] ∧ SqL K H a (ns.map V.int) ∧ ns.length ≤ 63 ∧ TabG H T ∧ ∀ H', Q (.bl true) H'
theorem cut_ints {ns : List Int} {lo hi : Option Int} : ∀ v ∈ cutV (ns.map V.int) lo hi, ∃ i : Int, v = .int i := by
  intro v hv
  unfold cutV at hv
  obtain ⟨i, _, e⟩ := List.mem_map.mp (List.mem_of_mem_drop (List.mem_of_mem_take hv))
  exact ⟨i, e.symm⟩
theorem cut_len {ns : List Int} {lo hi : Option Int} (h : ns.length ≤ 63) : (cutV (ns.map V.int) lo hi).length ≤ 63 := by
  unfold cutV
  rw [List.length_take, List.length_drop, List.length_map]
  omega
theorem tab_st {L : Addr} {H H' : Hp} {T : Addr} (x : StL L H H') (n : T ≠ L) (t : TabG H T) : TabG H' T := by
  obtain ⟨ps, h, h2⟩ := t
  exact ⟨ps, x.1 _ _ n h, h2⟩
theorem ok_law {f f1 f2 f3 : Addr} {fd d1 d2 d3 : FuncData} (F : Fun K "law" "law" sLaw f fd)
    (G1 : FnOk P w K mg base CX0 1 f1 d1 ["_law_cell"] spLeft) (b1 : Binds K d1 ["_law_cell"] []) (k1 : PySem.W.keepIn K (.ref f1) = true) (m1 : mg "_law_left" = some (.ref f1))
    (G2 : FnOk P w K mg base CX0 2 f2 d2 ["_law_left_here"] spText) (b2 : Binds K d2 ["_law_left_here"] []) (k2 : PySem.W.keepIn K (.ref f2) = true) (m2 : mg "_law_text" = some (.ref f2))
    (G3 : FnOk P w K mg base CX0 4 f3 d3 ["_law_thing"] (spAsked T)) (b3 : Binds K d3 ["_law_thing"] []) (k3 : PySem.W.keepIn K (.ref f3) = true) (m3 : mg "_law_asked" = some (.ref f3)) :
    FnOk P w K mg base CX0 5 f fd ["_law_script"] (spLaw K T) := by
  refine F.ok scLaw (fun vs H Q E h => ?_) (fun cdv A outer s H vs Q E hr h => ?_)
  · obtain ⟨a, ns, rfl, _⟩ := h
    rfl
  obtain ⟨a, ns, rfl, hS, hlen, tg, q⟩ := h
  refine ⟨_, pss_cons (ps_for PassesOwn.never rfl (pi_list (pe_op op_cat (pe_slice sl_list (pv 0) po_none (po_some pe_int)) (pe_lst (pa_cons pe_int pa_nil)))) (pg_name (i := 1) scLaw.nd rfl (.inl rfl))
      (pss_cons (ps_set (i := 2) scLaw.nd rfl (.inl rfl) (pe_call G1 (hr.mono (by decide)) (by rfl) m1 k1 b1 .nil pass0 (pa_cons (pv 1) pa_nil)))
      (pss_cons (ps_set (i := 3) scLaw.nd rfl (.inl rfl) (pe_call G2 (hr.mono (by decide)) (by rfl) m2 k2 b2 .nil pass0 (pa_cons (pv 2) pa_nil)))
      (pss_cons (ps_set (i := 4) scLaw.nd rfl (.inl rfl) (pe_lst (pa_cons (pv 3) (pa_cons (pe_op op_add_str (pv 3) pe_str) (pa_cons pe_str (pa_cons pe_str (pa_cons pe_str (pa_cons pe_str (pa_cons pe_str (pa_cons pe_str (pa_cons pe_str (pa_cons pe_str pa_nil))))))))))))
      (pss_one (ps_for PassesOwn.never rfl (pi_list (pe_op op_cat (pv 4) (pe_lst (pa_cons pe_non (pa_cons pe_int (pa_cons pe_bl (pa_cons (pe_lst (pa_cons pe_str pa_nil)) (pa_cons (pe_tup (pa_cons pe_str pa_nil)) (pa_cons pe_dnewK (pa_cons (pe_lst pa_nil) (pa_cons pe_int pa_nil))))))))))) (pg_name (i := 5) scLaw.nd rfl (.inl rfl))
        (pss_one (ps_if (pt_not (pt_val (pe_call G3 hr (by rfl) m3 k3 b3 .nil pass0 (pa_cons (pv 5) pa_nil)))) (pss_one (ps_ret pe_bl)) pss_nil))))))))
    (pss_one (ps_ret pe_bl)), ?_⟩
  refine ⟨.ref a, rfl, 20, rfl, a, ns.map V.int, rfl, hS, fun c nc => ?_⟩
  have x1 : Ext T H (upd H c (.lst (cutV (ns.map V.int) none (some 20)))) := Ext.new tg nc
  refine ⟨(show 1 ≤ sizeLine by decide), fun c2 nc2 => ?_⟩
  have x2 := x1.trans (Ext.new (o := .lst [.int 3]) x1.1 nc2)
  have hc2 : upd (upd H c (.lst (cutV (ns.map V.int) none (some 20)))) c2 (.lst [.int 3]) c = some (.lst (cutV (ns.map V.int) none (some 20))) := by
    rw [upd_ne (ne_of_none upd_same nc2), upd_same]
  have hl := cut_len (ns := ns) (lo := none) (hi := some 20) hlen
  refine ⟨c, c2, _, _, rfl, rfl, hc2, upd_same, small (by rw [List.length_singleton]; omega), fun p np => ?_⟩
  have x3 := x2.trans (Ext.new (o := .lst (cutV (ns.map V.int) none (some 20) ++ [.int 3])) x2.1 np)
  have allI : ∀ v ∈ cutV (ns.map V.int) none (some 20) ++ [V.int 3], ∃ i : Int, v = .int i := fun v hv => by
    rcases List.mem_append.mp hv with g | g
    · exact cut_ints v g
    · exact ⟨3, List.mem_singleton.mp g⟩
  refine ⟨p, rfl, ⟨_, SqL.of upd_same⟩, for_it (walk_list (xs := cutV (ns.map V.int) none (some 20) ++ [.int 3]))
    (fun _ σ H' => Ext T H H' ∧ H' p = some (.lst (cutV (ns.map V.int) none (some 20) ++ [.int 3])) ∧ ∃ s1 s2 s3 s4 s5 : Option V, σ = [some (.ref a), s1, s2, s3, s4, s5])
    ⟨x3, upd_same, _, _, _, _, _, rfl⟩ (fun i σ H' _ hP => SqL.of hP.2.1) (fun i x σ H1 H2 hi hP hY => ?_) (fun σ H' hP => q _)⟩
  obtain ⟨xc, hp, s1, s2, s3, s4, s5, rfl⟩ := hP
  obtain ⟨rfl, hx⟩ := hY
  obtain ⟨j, rfl⟩ := allI x (List.mem_of_getElem? hx)
  have pT : p ≠ T := tbl_ne xc.1 hp fun _ z => by cases z
  refine ⟨_, rfl, j, rfl, fun L n nL => ?_⟩
  have LT : L ≠ T := tab_ne xc.1 nL
  have x4 : Ext T H (upd H2 L (.lst [.int n])) := xc.trans (Ext.new xc.1 nL)
  refine ⟨_, rfl, L, n, rfl, upd_same, fun H3 z xz hz => ?_⟩
  have x5 : Ext T H H3 := ⟨tab_st xz (Ne.symm LT) x4.1, fun b o nb e => xz.1 b o (fun eb => by
    have e2 := xc.2 b o nb e
    rw [eb, nL] at e2
    cases e2) (x4.2 b o nb e)⟩
  have hp3 : H3 p = some (.lst (cutV (ns.map V.int) none (some 20) ++ [.int 3])) := xz.1 _ _ (ne_of_none hp nL) (by rw [upd_ne (ne_of_none hp nL)]; exact hp)
  have h2l : Sh 2 ".1" := by unfold Sh; decide +kernel
  refine ⟨_, rfl, _, rfl, z, ".1", rfl, rfl, small (by have := hz.len; have := h2l.len; omega), (show 10 ≤ sizeLine by decide), fun S nS => ?_⟩
  have x6 : Ext T H (upd H3 S (.lst (ten z))) := x5.trans (Ext.new x5.1 nS)
  have nSp : p ≠ S := ne_of_none hp3 nS
  refine ⟨_, rfl, ?_⟩
  refine ⟨(show 1 ≤ sizeLine by decide), fun e1 n1 => ?_⟩
  have x7 := x6.trans (Ext.new (o := .lst [.str "a"]) x6.1 n1)
  refine ⟨(show 1 ≤ sizeLine by decide), fun e2 n2 => ?_⟩
  have x8 := x7.trans (Ext.new (o := .tup [.str "a"]) x7.1 n2)
  intro e3 n3
  have x9 := x8.trans (Ext.new (o := .dK []) x8.1 n3)
  refine ⟨(show 0 ≤ sizeLine by decide), fun e4 n4 => ?_⟩
  have x10 := x9.trans (Ext.new (o := .lst []) x9.1 n4)
  refine ⟨(show 8 ≤ sizeLine by decide), fun e5 n5 => ?_⟩
  have x11 := x10.trans (Ext.new (o := .lst (eight e1 e2 e3 e4)) x10.1 n5)
  -- each of the new objects stands
  refine ⟨S, e5, ten z, eight e1 e2 e3 e4, rfl, rfl, kn (kn (kn (kn (kn upd_same n1) n2) n3) n4) n5, upd_same, small (show 18 ≤ 1000 by decide), fun R nR => ?_⟩
  have x12 := x11.trans (Ext.new (o := .lst (ten z ++ eight e1 e2 e3 e4)) x11.1 nR)
  have hpR := kn (u := .lst (ten z ++ eight e1 e2 e3 e4)) (kn (u := .lst (eight e1 e2 e3 e4)) (kn (u := .lst []) (kn (u := .dK []) (kn (u := .tup [.str "a"]) (kn (u := .lst [.str "a"]) (kn (u := .lst (ten z)) hp3 nS) n1) n2) n3) n4) n5) nR
  have things : ∀ v ∈ ten z ++ eight e1 e2 e3 e4, Thing (upd (upd (upd (upd (upd (upd (upd H3 S (.lst (ten z))) e1 (.lst [.str "a"])) e2 (.tup [.str "a"])) e3 (.dK [])) e4 (.lst [])) e5 (.lst (eight e1 e2 e3 e4))) R (.lst (ten z ++ eight e1 e2 e3 e4))) v := fun v hv => by
    rcases List.mem_append.mp hv with g | g
    · exact ten_thing hz v g
    · exact eight_thing (kn (kn (kn (kn (kn upd_same n2) n3) n4) n5) nR) (kn (kn (kn (kn upd_same n3) n4) n5) nR) (kn (kn (kn upd_same n4) n5) nR) (kn (kn upd_same n5) nR) v g
  refine ⟨R, rfl, ⟨_, SqL.of upd_same⟩, for_it (walk_list (xs := ten z ++ eight e1 e2 e3 e4))
    (fun _ σ H' => Ext T (upd (upd (upd (upd (upd (upd (upd H3 S (.lst (ten z))) e1 (.lst [.str "a"])) e2 (.tup [.str "a"])) e3 (.dK [])) e4 (.lst [])) e5 (.lst (eight e1 e2 e3 e4))) R (.lst (ten z ++ eight e1 e2 e3 e4))) H' ∧ H' R = some (.lst (ten z ++ eight e1 e2 e3 e4)) ∧ ∃ s1 s2 s3 s4 s5 : Option V, σ = [some (.ref a), s1, s2, s3, s4, s5])
    ⟨Ext.refl x12.1, upd_same, _, _, _, _, _, rfl⟩ (fun i σ H' _ hP => SqL.of hP.2.1) (fun i x σ H4 H5 hi hP hY => ?_) (fun σ H' hP => ?_)⟩
  · obtain ⟨xe, hR, s1, s2, s3, s4, s5, rfl⟩ := hP
    obtain ⟨rfl, hx⟩ := hY
    have RT : R ≠ T := tbl_ne xe.1 hR fun _ z => by cases z
    refine ⟨_, rfl, x, rfl, (things x (List.mem_of_getElem? hx)).ext x12.1 xe, xe.1, fun H6 x6 => ?_⟩
    refine ⟨_, rfl, iteF ?_⟩
    exact ⟨xe.trans x6, x6.2 _ _ RT hR, _, _, _, _, _, rfl⟩
  · obtain ⟨xe, hR, s1, s2, s3, s4, s5, rfl⟩ := hP
    exact ⟨x12.trans xe, xe.2 _ _ pT hpR, _, _, _, _, _, rfl⟩
end
end K1

set_option Elab.async false
set_option linter.all false
set_option maxRecDepth 100000
set_option maxHeartbeats 2000000
namespace K1
open PySem PySem.Spec PyProof.Rows L2 GxR Wk
/-- the end, with the tables of the top's defs told -/
theorem walk_tab {l : PySem.W.OpenLaw} {n k : Nat} {q : Program} {loose : List Str} {XP : (Str → Option Value) → Heap → Prop}
    {YP : World → Heap → Prop} {d : DefRec} {K : Params → PySem.W.Frag} {x : Str}
    (hn : l.most = some n) (hn2 : n ≤ sizeLine) (hdf : d.params.defaults = []) (hr : Room k callerA) (hY : ∀ (w : World) (h : Heap), YP w h → (K w.params).In h)
    (F : ∀ (w : World) (mg : Str → Option Value) (fa : Addr) (h : Heap), (K w.params).In h → h.Ns mainGlobals mg → mg d.name = some (.ref fa) →
      (∀ (y : Str) (e : DefRec) (c P : Addr), (recsOf q).find? (fun e => e.name == y) = some e → PySem.W.tabIn (K w.params) y = some (c, P) → PySem.W.CodeHd h c P ∧ h.get? P = some { cls := .none, data := .fields #[] }) →
      LamX.LawAtS l w (K w.params) CX0 k n x mg fa h) :
    PySem.W.WalkO q loose XP YP l.row.toRowW d [] (fun f vs => PySem.call f vs) := by
  refine Att.attach_callB hn hdf fun w s₀ s₁ mg mb fa o pm cd doc a vs ns G Y ho hd hcd hmg hobj hints hlen hbits hg => ?_
  have KX := hY w _ Y
  obtain ⟨fd, cs, sp, hT, nT, C, hb, hsp, hF⟩ := F w mg fa _ KX G.T.g hmg fun y e c P h1 h2 => PySem.W.tab_of G.T KX h1 h2
  refine LamX.law_callTs KX G.T.g G.T.b G.T.builtins G.T.nolimit hg hT nT C G.T.bmain hobj hints (Nat.le_trans hlen hn2) hr hF hb ?_ fun H e s' z => z
  exact fun H hH hS => hsp H a ns hlen hbits hH hS
theorem all_mk {l : PySem.W.OpenLaw} {w : World} {K : PySem.W.Frag} {h : Heap} {mg : Str → Option Value} {fa f1 f2 f3 f4 f5 f6 f7 f8 f9 f10 f11 f12 c T aT : Addr} (X : K.In h) (G : h.Ns mainGlobals mg) (hfa : mg "law" = some (.ref fa))
    {od1 an1 od2 an2 od3 an3 od4 an4 od5 an5 od6 an6 od7 an7 od8 an8 od9 an9 od10 an10 od11 an11 od12 an12 : Option Addr} {sl1 sl2 sl3 sl4 sl5 sl6 sl7 sl8 sl9 sl10 sl11 sl12 : Array (Option Value)} {oc1 kV1 dc1 pm1 cd1 ct1 oc2 kV2 dc2 pm2 cd2 ct2 oc3 kV3 dc3 pm3 cd3 ct3 oc4 kV4 dc4 pm4 ct4 oc5 kV5 dc5 pm5 cd5 ct5 oc6 kV6 dc6 pm6 cd6 ct6 oc7 kV7 dc7 pm7 cd7 ct7 oc8 kV8 dc8 pm8 cd8 ct8 oc9 kV9 dc9 pm9 cd9 ct9 oc10 kV10 dc10 pm10 cd10 ct10 oc11 kV11 dc11 pm11 cd11 ct11 oc12 kV12 dc12 pm12 cd12 ct12 : Value}
    (a1 : PySem.W.nsIn K mainGlobals "is_name" = some (some (.ref f1)))
    (l1 : K.lookup f1 = some ⟨oc1, od1, .func (PySem.W.fnOf "is_name" "is_name" (defArgs sIsName) (defBody sIsName) (defScope sIsName) .none kV1 dc1 pm1 an1 cd1 ct1), sl1⟩)
    (c1 : PySem.W.codeIn K cd1 "is_name" = true) (k1 : PySem.W.keepIn K (.ref f1) = true)
    (a2 : PySem.W.nsIn K mainGlobals "is_private" = some (some (.ref f2)))
    (l2 : K.lookup f2 = some ⟨oc2, od2, .func (PySem.W.fnOf "is_private" "is_private" (defArgs sIsPriv) (defBody sIsPriv) (defScope sIsPriv) .none kV2 dc2 pm2 an2 cd2 ct2), sl2⟩)
    (c2 : PySem.W.codeIn K cd2 "is_private" = true) (k2 : PySem.W.keepIn K (.ref f2) = true)
    (a3 : PySem.W.nsIn K mainGlobals "base_of" = some (some (.ref f3)))
    (l3 : K.lookup f3 = some ⟨oc3, od3, .func (PySem.W.fnOf "base_of" "base_of" (defArgs sBase) (defBody sBase) (defScope sBase) .none kV3 dc3 pm3 an3 cd3 ct3), sl3⟩)
    (c3 : PySem.W.codeIn K cd3 "base_of" = true) (k3 : PySem.W.keepIn K (.ref f3) = true)
    (a4 : PySem.W.nsIn K mainGlobals "consists_of" = some (some (.ref f4)))
    (l4 : K.lookup f4 = some ⟨oc4, od4, .func (PySem.W.fnOf "consists_of" "consists_of" (defArgs sCons) (defBody sCons) (defScope sCons) .none kV4 dc4 pm4 an4 (.ref c) ct4), sl4⟩)
    (c4 : PySem.W.codeIn K (.ref c) "consists_of" = true) (k4 : PySem.W.keepIn K (.ref f4) = true)
    (a5 : PySem.W.nsIn K mainGlobals "_law_left" = some (some (.ref f5)))
    (l5 : K.lookup f5 = some ⟨oc5, od5, .func (PySem.W.fnOf "_law_left" "_law_left" (defArgs sLeft) (defBody sLeft) (defScope sLeft) .none kV5 dc5 pm5 an5 cd5 ct5), sl5⟩)
    (c5 : PySem.W.codeIn K cd5 "_law_left" = true) (k5 : PySem.W.keepIn K (.ref f5) = true)
    (a6 : PySem.W.nsIn K mainGlobals "_law_digit" = some (some (.ref f6)))
    (l6 : K.lookup f6 = some ⟨oc6, od6, .func (PySem.W.fnOf "_law_digit" "_law_digit" (defArgs sDigit) (defBody sDigit) (defScope sDigit) .none kV6 dc6 pm6 an6 cd6 ct6), sl6⟩)
    (c6 : PySem.W.codeIn K cd6 "_law_digit" = true) (k6 : PySem.W.keepIn K (.ref f6) = true)
    (a7 : PySem.W.nsIn K mainGlobals "_law_is_word" = some (some (.ref f7)))
    (l7 : K.lookup f7 = some ⟨oc7, od7, .func (PySem.W.fnOf "_law_is_word" "_law_is_word" (defArgs sLWord) (defBody sLWord) (defScope sLWord) .none kV7 dc7 pm7 an7 cd7 ct7), sl7⟩)
    (c7 : PySem.W.codeIn K cd7 "_law_is_word" = true) (k7 : PySem.W.keepIn K (.ref f7) = true)
    (a8 : PySem.W.nsIn K mainGlobals "_law_is_name" = some (some (.ref f8)))
    (l8 : K.lookup f8 = some ⟨oc8, od8, .func (PySem.W.fnOf "_law_is_name" "_law_is_name" (defArgs sLName) (defBody sLName) (defScope sLName) .none kV8 dc8 pm8 an8 cd8 ct8), sl8⟩)
    (c8 : PySem.W.codeIn K cd8 "_law_is_name" = true) (k8 : PySem.W.keepIn K (.ref f8) = true)
    (a9 : PySem.W.nsIn K mainGlobals "_law_is_private" = some (some (.ref f9)))
    (l9 : K.lookup f9 = some ⟨oc9, od9, .func (PySem.W.fnOf "_law_is_private" "_law_is_private" (defArgs sLPriv) (defBody sLPriv) (defScope sLPriv) .none kV9 dc9 pm9 an9 cd9 ct9), sl9⟩)
    (c9 : PySem.W.codeIn K cd9 "_law_is_private" = true) (k9 : PySem.W.keepIn K (.ref f9) = true)
    (a10 : PySem.W.nsIn K mainGlobals "_law_text" = some (some (.ref f10)))
    (l10 : K.lookup f10 = some ⟨oc10, od10, .func (PySem.W.fnOf "_law_text" "_law_text" (defArgs sText) (defBody sText) (defScope sText) .none kV10 dc10 pm10 an10 cd10 ct10), sl10⟩)
    (c10 : PySem.W.codeIn K cd10 "_law_text" = true) (k10 : PySem.W.keepIn K (.ref f10) = true)
    (a11 : PySem.W.nsIn K mainGlobals "_law_asked" = some (some (.ref f11)))
    (l11 : K.lookup f11 = some ⟨oc11, od11, .func (PySem.W.fnOf "_law_asked" "_law_asked" (defArgs sAsked) (defBody sAsked) (defScope sAsked) .none kV11 dc11 pm11 an11 cd11 ct11), sl11⟩)
    (c11 : PySem.W.codeIn K cd11 "_law_asked" = true) (k11 : PySem.W.keepIn K (.ref f11) = true)
    (a12 : PySem.W.nsIn K mainGlobals "law" = some (some (.ref f12)))
    (l12 : K.lookup f12 = some ⟨oc12, od12, .func (PySem.W.fnOf "law" "law" (defArgs sLaw) (defBody sLaw) (defScope sLaw) .none kV12 dc12 pm12 an12 cd12 ct12), sl12⟩)
    (c12 : PySem.W.codeIn K cd12 "law" = true) (k12 : PySem.W.keepIn K (.ref f12) = true)
    (z1 : PySem.W.nsIn K mainGlobals "isinstance" = some none)
    (z2 : PySem.W.nsIn K mainGlobals "str" = some none)
    (z3 : PySem.W.nsIn K mainGlobals "len" = some none)
    (z4 : PySem.W.nsIn K mainGlobals "all" = some none)
    (z5 : PySem.W.nsIn K mainGlobals "abs" = some none)
    (z6 : PySem.W.nsIn K mainGlobals "range" = some none)
    (z7 : PySem.W.nsIn K mainGlobals "bool" = some none)
    {tL tF t6 u1 u2 u3 u4 : Tok} {dd : Option Addr} {nn : Nat} {sl : Array (Option Value)}
    (y1 : PySem.W.nsIn K mainGlobals "LETTERS" = some (some (.str ab tL))) (y2 : PySem.W.nsIn K mainGlobals "FIGURES" = some (some (.str fg tF)))
    (y3 : PySem.W.nsIn K mainGlobals "MOST_SIGNS" = some (some (.int 6 t6))) (y4 : PySem.W.nsIn K mainGlobals "TAKEN_WORDS" = some (some (.ref aT)))
    (y5 : K.lookup aT = some ⟨.type "tuple", dd, .seq #[.str "in" u1, .str "out" u2, .str "open" u3, .str "new" u4] nn, sl⟩)
    {occ : Value} {odc : Option Addr} {vs : Array Value} {slc : Array (Option Value)} (lc : K.lookup c = some ⟨occ, odc, .fields vs, slc⟩) (hv : vs[11]? = some (.ref T)) (tN : K.lookup T = none)
    (tabs : PySem.W.tabIn K "consists_of" = some (c, T) → PySem.W.CodeHd h c T ∧ h.get? T = some { cls := .none, data := .fields #[] }) :
    LamX.LawAtS l w K CX0 5 63 "_law_script" mg fa h := by
  have e := hfa.symm.trans (PySem.W.mg_of X G a12)
  cases e
  have F1 := fun_mk (st := sIsName) l1 c1 k1
  have g1 := PySem.W.mg_of X G a1
  have b1 := F1.binds (ps := ["thing"]) fun _ _ _ _ _ _ us hl => match us, hl with | [_], _ => rfl
  have F2 := fun_mk (st := sIsPriv) l2 c2 k2
  have g2 := PySem.W.mg_of X G a2
  have b2 := F2.binds (ps := ["thing"]) fun _ _ _ _ _ _ us hl => match us, hl with | [_], _ => rfl
  have F3 := fun_mk (st := sBase) l3 c3 k3
  have g3 := PySem.W.mg_of X G a3
  have b3 := F3.binds (ps := ["calling"]) fun _ _ _ _ _ _ us hl => match us, hl with | [_], _ => rfl
  have F4 := fun_mk (st := sCons) l4 c4 k4
  have g4 := PySem.W.mg_of X G a4
  have b4 := F4.binds (ps := ["text", "signs"]) fun _ _ _ _ _ _ us hl => match us, hl with | [_, _], _ => rfl
  have F5 := fun_mk (st := sLeft) l5 c5 k5
  have g5 := PySem.W.mg_of X G a5
  have b5 := F5.binds (ps := ["_law_cell"]) fun _ _ _ _ _ _ us hl => match us, hl with | [_], _ => rfl
  have F6 := fun_mk (st := sDigit) l6 c6 k6
  have g6 := PySem.W.mg_of X G a6
  have b6 := F6.binds (ps := ["_law_left_here", "_law_many"]) fun _ _ _ _ _ _ us hl => match us, hl with | [_, _], _ => rfl
  have F7 := fun_mk (st := sLWord) l7 c7 k7
  have g7 := PySem.W.mg_of X G a7
  have b7 := F7.binds (ps := ["_law_text_here", "_law_signs"]) fun _ _ _ _ _ _ us hl => match us, hl with | [_, _], _ => rfl
  have F8 := fun_mk (st := sLName) l8 c8 k8
  have g8 := PySem.W.mg_of X G a8
  have b8 := F8.binds (ps := ["_law_thing"]) fun _ _ _ _ _ _ us hl => match us, hl with | [_], _ => rfl
  have F9 := fun_mk (st := sLPriv) l9 c9 k9
  have g9 := PySem.W.mg_of X G a9
  have b9 := F9.binds (ps := ["_law_thing"]) fun _ _ _ _ _ _ us hl => match us, hl with | [_], _ => rfl
  have F10 := fun_mk (st := sText) l10 c10 k10
  have g10 := PySem.W.mg_of X G a10
  have b10 := F10.binds (ps := ["_law_left_here"]) fun _ _ _ _ _ _ us hl => match us, hl with | [_], _ => rfl
  have F11 := fun_mk (st := sAsked) l11 c11 k11
  have g11 := PySem.W.mg_of X G a11
  have b11 := F11.binds (ps := ["_law_thing"]) fun _ _ _ _ _ _ us hl => match us, hl with | [_], _ => rfl
  have F12 := fun_mk (st := sLaw) l12 c12 k12
  have g12 := PySem.W.mg_of X G a12
  have n1 := PySem.W.mg_none_of X G z1
  have n2 := PySem.W.mg_none_of X G z2
  have n3 := PySem.W.mg_none_of X G z3
  have n4 := PySem.W.mg_none_of X G z4
  have n5 := PySem.W.mg_none_of X G z5
  have n6 := PySem.W.mg_none_of X G z6
  have n7 := PySem.W.mg_none_of X G z7
  have v1 := PySem.W.mg_of X G y1
  have v2 := PySem.W.mg_of X G y2
  have v3 := PySem.W.mg_of X G y3
  have v4 := PySem.W.mg_of X G y4
  have ht : PySem.W.tabIn K "consists_of" = some (c, T) := by
    unfold PySem.W.tabIn
    rw [a4]
    dsimp only
    rw [l4]
    dsimp only [PySem.W.fnOf]
    rw [lc]
    dsimp only
    rw [hv]
  obtain ⟨tC, tT⟩ := tabs ht
  have hTk : ∀ H, SqT K H aT takenV := fun H => .inr ⟨_, _, _, y5, rfl, rfl, (show 4 ≤ sizeLine by decide), .cons ⟨_, rfl⟩ (.cons ⟨_, rfl⟩ (.cons ⟨_, rfl⟩ (.cons ⟨_, rfl⟩ .nil)))⟩
  refine ⟨PySem.W.fnOf "law" "law" (defArgs sLaw) (defBody sLaw) (defScope sLaw) .none kV12 dc12 pm12 an12 cd12 ct12, [(c, T)], spLaw K T, fun p hp => ?_, fun p hp => ?_, fun p hp => ?_, fun s u => .of_eq rfl, fun H a ns hl hb hH hS => ?_, fun base KB NB TB => ?_⟩
  · rw [List.mem_singleton.mp hp]
    exact tT
  · rw [List.mem_singleton.mp hp]
    exact tN
  · rw [List.mem_singleton.mp hp]
    exact tC
  · exact ⟨a, ns, rfl, hS, hl, ⟨#[], hH _ (List.mem_singleton.mpr rfl), True.intro⟩, fun _ => rfl⟩
  · have tb := TB (c, T) (List.mem_singleton.mpr rfl)
    have tb2 : GxR.TabB base mg c T := ⟨tb.code, tb.bm, tb.gP⟩
    have G4 := ok_cons (P := l.prog) (w := w) (k := 0) l4 c4 tb2 n3 n4 v3
    have G1 := ok_name (P := l.prog) (w := w) F1 G4 b4 k4 g4 n1 n2 v4 hTk v1
    have G2 := ok_priv (P := l.prog) (w := w) F2 G4 b4 k4 g4 n1 n2 v2 G1 b1 k1 g1
    have G3 := ok_base (P := l.prog) (w := w) (mg := mg) (base := base) (k := 0) (T := T) F3
    have G5 := ok_left (P := l.prog) (w := w) (base := base) (k := 0) F5 n5 n6
    have G6 := ok_digit (P := l.prog) (w := w) (mg := mg) (base := base) (k := 0) F6
    have G7 := ok_lword (P := l.prog) (w := w) (base := base) (k := 0) (T := T) F7 n3
    have G8 := ok_lname (P := l.prog) (w := w) F8 G7 b7 k7 g7 n1 n2
    have G9 := ok_lpriv (P := l.prog) (w := w) F9 G7 b7 k7 g7 n1 n2 G8 b8 k8 g8
    have G10 := ok_text (P := l.prog) (w := w) F10 G6 b6 k6 g6 n6 n3
    have G11 := ok_asked (P := l.prog) (w := w) F11 G1 b1 k1 g1 G2 b2 k2 g2 G8 b8 k8 g8 G9 b9 k9 g9 G3 b3 k3 g3 n1 n7
    exact ok_law (P := l.prog) (w := w) F12 G5 b5 k5 g5 G10 b10 k10 g10 G11 b11 k11 g11
end K1
open PySem PySem.W PyProof.Rows
set_option maxRecDepth 100000 in
set_option maxHeartbeats 0 in
theorem PySem.Challenge.cw_walkrooms_k01_names_holds : PySem.Challenge.rw_walkrooms_k01_names.Holds := by
  w_on; o_law; k_head; (case hw => w_witness2)
  k_fill
  refine K1.walk_tab (l := PySem.Challenge.rw_walkrooms_k01_names) (n := 63) (k := 5) (x := "_law_script") rfl (by decide) rfl ⟨rfl, by decide, by decide⟩ (fun w h Y => PySem.W.kIn_of Y) ?F
  case F =>
    intro w mg fa h KX G hmg tabs
    refine' K1.all_mk KX G hmg ?a1 ?l1 ?c1 ?k1 ?a2 ?l2 ?c2 ?k2 ?a3 ?l3 ?c3 ?k3 ?a4 ?l4 ?c4 ?k4 ?a5 ?l5 ?c5 ?k5 ?a6 ?l6 ?c6 ?k6 ?a7 ?l7 ?c7 ?k7 ?a8 ?l8 ?c8 ?k8 ?a9 ?l9 ?c9 ?k9 ?a10 ?l10 ?c10 ?k10 ?a11 ?l11 ?c11 ?k11 ?a12 ?l12 ?c12 ?k12 ?z1 ?z2 ?z3 ?z4 ?z5 ?z6 ?z7 ?y1 ?y2 ?y3 ?y4 ?y5 ?lc ?hv ?tN (fun ht => tabs "consists_of" _ _ _ rfl ht)
    (case a1 => k_is)
    (case l1 => k_is)
    (case c1 => k_is)
    (case k1 => k_is)
    (case a2 => k_is)
    (case l2 => k_is)
    (case c2 => k_is)
    (case k2 => k_is)
    (case a3 => k_is)
    (case l3 => k_is)
    (case c3 => k_is)
    (case k3 => k_is)
    (case a4 => k_is)
    (case l4 => k_is)
    (case c4 => k_is)
    (case k4 => k_is)
    (case a5 => k_is)
    (case l5 => k_is)
    (case c5 => k_is)
    (case k5 => k_is)
    (case a6 => k_is)
    (case l6 => k_is)
    (case c6 => k_is)
    (case k6 => k_is)
    (case a7 => k_is)
    (case l7 => k_is)
    (case c7 => k_is)
    (case k7 => k_is)
    (case a8 => k_is)
    (case l8 => k_is)
    (case c8 => k_is)
    (case k8 => k_is)
    (case a9 => k_is)
    (case l9 => k_is)
    (case c9 => k_is)
    (case k9 => k_is)
    (case a10 => k_is)
    (case l10 => k_is)
    (case c10 => k_is)
    (case k10 => k_is)
    (case a11 => k_is)
    (case l11 => k_is)
    (case c11 => k_is)
    (case k11 => k_is)
    (case a12 => k_is)
    (case l12 => k_is)
    (case c12 => k_is)
    (case k12 => k_is)
    (case z1 => k_is)
    (case z2 => k_is)
    (case z3 => k_is)
    (case z4 => k_is)
    (case z5 => k_is)
    (case z6 => k_is)
    (case z7 => k_is)
    (case y1 => k_is)
    (case y2 => k_is)
    (case y3 => k_is)
    (case y4 => k_is)
    (case y5 => k_is)
    (case lc => k_is)
    (case hv => rfl)
    (case tN => rfl)
