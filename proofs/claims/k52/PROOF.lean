import PyProof.Rows.All
import HandS.ForExc
import HandS.IsInst
import HandS.ExcIs
import Wide.All
import OpenK.AllK
import Wide.FinOn
import HandS.ForMost
import HandS.Walk
import HandS.Codes
import HandS.EndTab
import KE.KxText
import HandS.AnyAll
import HandS.GenBody
import HandS.SetTxt0
import HandS.SetFor
import HandS.Strs
import HandS.More
import PyProof.AutoSeq1
import HandS.FStr
import PyProof.ReprRoads
import HandS.TupAny
import HandS.TupMul
import PyProof.WalksMore
import PyProof.SumWalkG
import PyProof.Rows.TupIter
import HandS.DictComp
import PyProof.StrLawsRepr
import PyProof.ReprDict
import HandS.FStrTup
import KE.KUnpackStar
import HandS.TryOnly
import HandS.Star
import HandS.SetKeys
import HandS.Conv
import HandS.Sort
import KE.KDictList
import HandS.SortOrd
import HandS.SortRule
import HandS.NamedTupSort
import HandS.CallLocal
import KE.KSortTup
import PyProof.Rows.SortKeyStr
import PyProof.Rows.InDataRows
import HandS.Zip0
import HandS.Iter
import PyProof.Draws
import PyProof.EnumMake
import PyProof.MinMaxWalk
import PySem.Challenge.RW_walkrooms_k52_kinds_one_by_one
set_option Elab.async false
set_option linter.all false
set_option maxRecDepth 100000
set_option maxHeartbeats 4000000
/-! try: .. except x as n: suite, where the caught error is known behind the suite, too. -/
namespace Wk
open PySem PySem.Spec PyProof.Rows L2
/-- an error of the class cls, its dict d -/
def ErO (a : Addr) (cls : Value) (d : Option Addr) : HO := .ext fun h => ∃ o vs, h.get? a = some o ∧ Zc cls d o ∧ o.data = .fields vs
theorem erO_ok {P : Program} {w : World} {H : Hp} {h : Heap} {a : Addr} {cls : Value} {d : Option Addr} {o : Obj} {vs : Array Value}
    (e : h.get? a = some o) (z : Zc cls d o) (f : o.data = .fields vs) : ObjOk P w H h a (ErO a cls d) := by
  refine ⟨⟨o, vs, e, z, f⟩, ⟨o, e⟩, ?_⟩
  intro h1 h2 p k
  obtain ⟨o1, v1, e1, z1, f1⟩ := p
  exact ⟨o1, v1, k _ e1, z1, f1⟩
section
variable {X : Cx} {pins : List (Addr × Obj)} {σ : L2.St} {H : Hp} {s : Shared}
/-- a pinned error is taken into the book -/
theorem Inv.book {a : Addr} {o : Obj} {vs : Array Value} {cls : Value} {d : Option Addr} (I : Inv X ((a, o) :: pins) σ H s) (z : Zc cls d o) (f : o.data = .fields vs) (new : X.s_0.heap.get? a = none) (nc : ∀ x c, X.env.cells.lookup x = some c → c ≠ a)
    (np : ∀ p ∈ X.pn ++ pins, p.1 ≠ a) : Inv X pins σ (upd H a (ErO a cls d)) s := by
  obtain ⟨e, n, nL, nF, _⟩ := I.pin (a, o) (List.mem_append_right _ List.mem_cons_self)
  have hold : ∀ b u, H b = some u → upd H a (ErO a cls d) b = some u := fun b u q => (upd_ne (fun q2 => by
    rw [q2] at q
    rw [show H a = none from n] at q
    cases q)).trans q
  refine ⟨I.ok, I.os, I.bare, ⟨I.base.keep, I.base.slot, ?_, I.base.there, fun b xs q => hold _ _ (I.base.tups b xs q), fun b u v q => hold _ _ (I.base.frzs b u v q), fun b ps q => ?_⟩, I.loc, I.cell, (upd_ne (Ne.symm nL)).trans I.free, fun x c q => (upd_ne (nc x c q)).trans (I.freeC x c q), fun p hp => ?_, ?_, I.len⟩
  · intro b ob q1 q2 q3
    refine (upd_ne ?_).trans (I.base.free b ob q1 q2 q3)
    intro q4
    rw [q4, new] at q1
    cases q1
  · obtain ⟨m, q2⟩ := I.base.tbls b ps q
    exact ⟨m, hold _ _ q2⟩
  · have old : p ∈ X.pn ++ (a, o) :: pins := by
      rcases List.mem_append.mp hp with g | g
      · exact List.mem_append_left _ g
      · exact List.mem_append_right _ (List.mem_cons_of_mem _ g)
    obtain ⟨p1, p2, p3⟩ := I.pin p old
    exact ⟨p1, (upd_ne (np p hp)).trans p2, p3⟩
  · intro b u q
    by_cases c : b = a
    · rw [c, upd_same] at q
      cases q
      rw [c]
      exact erO_ok e z f
    · rw [upd_ne c] at q
      exact (I.hok b u q).stay (fun _ _ _ r => r) (fun _ r => hold _ _ r) fun _ _ r => hold _ _ r
/-- behind the suite the error is pinned still -/
theorem Inv.held {a : Addr} {o : Obj} (I : Inv (X.suite a ((a, o) :: (X.pn ++ pins))) [] σ H s) (ok : X.Ok) : Inv X ((a, o) :: pins) σ H s := by
  refine ⟨ok, I.os, I.bare, I.base, I.loc, I.cell, I.free, I.freeC, ?_, I.hok, I.len⟩
  intro p hp
  refine I.pin p (List.mem_append_left _ ?_)
  rcases List.mem_append.mp hp with g | g
  · exact List.mem_cons_of_mem _ (List.mem_append_left _ g)
  · rcases List.mem_cons.mp g with g | g
    · exact g ▸ List.mem_cons_self
    · exact List.mem_cons_of_mem _ (List.mem_append_right _ g)
end
/-- what the clause wishes: behind its suite, which ends, the error stands in the book -/
def wKeep (K : PySem.W.Frag) (c : Value) (i : Nat) (ts : Addr → Value → Option Addr → TS) (D : Ends) : WX := fun cls d σ H =>
  PySem.W.exmOne K cls c = some true ∧ ∀ a, H a = none →
    ts a cls d ⟨fun τ G => D.nx (τ.set i none) (upd G a (ErO a cls d)), fun _ _ => False, fun _ _ => False, fun _ _ => False⟩ (σ.set i (some (.ref a))) H
section
variable {X : Cx} {x n : Str} {c : Value} {i : Nat} {body suite : List Stmt} {b0 : Stmt} {np p0 p1 : Pos} {tb : WX → TS} {ts : Addr → Value → Option Addr → TS}
theorem ps_try_keep (hs : X.stack = X.env :: X.outer) (hf : X.env.frame = some X.env.locals) (hN : X.N.Nodup) (hi : X.N[i]? = some n) (hln : X.env.kindOf n = some .local) (hc : Names X x c) (hex : X.ex = [])
    (hb : ∀ (W : WX) (pn : List (Addr × Obj)) (xe : Value → Shared → Prop), Takes (X.tr pn xe) W → PassesOwn (model X.prog X.w) X.A X.env xe → PSs (X.tr pn xe) body (tb W))
    (hsu : ∀ (a : Addr) (o : Obj) (cls : Value) (d : Option Addr) (pn : List (Addr × Obj)), Zc cls d o → (∃ vs, o.data = .fields vs) → PSs (X.suite a ((a, o) :: pn)) (b0 :: suite) (ts a cls d)) :
    PS X (.Try body [.ExceptHandler (some (.Name x np)) (some n) (b0 :: suite) p1] [] [] p0) (fun D σ H => tb (wKeep X.K c i ts D) D σ H) := by
  refine ⟨fun pins s σ H D I h => wpAny_Try_except ?_⟩
  have ok := I.ok
  have fr : X.A.frames = some (X.env :: X.outer) := ok.frames.trans (congrArg some hs)
  have caught : ∀ xe u s', XE (X.tr (X.pn ++ pins) xe) (wKeep X.K c i ts D) u s' →
      wpAny (model X.prog X.w) X.A (noteFrame u X.env) (fun _ s2 => wpAny (model X.prog X.w) X.A (setFlight u none) (fun _ s3 =>
        wpAny (model X.prog X.w) X.A (handleBy u X.env [.ExceptHandler (some (.Name x np)) (some n) (b0 :: suite) p1]) (SP X pins D) X.xe s3) X.xe s2) X.xe s' := by
    intro xe u s' xx
    obtain ⟨a, B, sI, pins', τ, G, cls, d, rfl, J', nb, up, sky, na, os, ag, hb1, hyes⟩ := xx
    have J : Inv X pins τ G sI := by
      exact ⟨ok, J'.os, J'.bare, J'.base, J'.loc, J'.cell, J'.free, J'.freeC, fun p hp => J'.pin p (List.mem_append_left _ hp), J'.hok, J'.len⟩
    have nb : ∀ b o, sI.heap.get? b = some o → b ∉ frs X.stack → B.get? b = some o := nb
    have sky2 : Sky B (X.env :: X.outer) a (Zc cls d) X.env.locals s'.heap := hs ▸ sky
    refine Sky.land Zc.steady fr hf sky2 fun h3 fl3 up3 => ?_
    have J3 : Inv X pins τ G { s' with heap := h3 } := J.landed nb fl3.1 (up.trans up3) os ag
    obtain ⟨o3, v3, e3, z3, f3⟩ := fl3.there
    have off : a ∉ frs (X.env :: X.outer) := fun hm => by
      obtain ⟨_, o', e', hnf⟩ := fl3.2.2.1.mem hm
      rw [e3] at e'
      cases e'
      exact hnf _ f3
    have nL : a ≠ X.env.locals := fun z => off (List.mem_filterMap.mpr ⟨X.env, List.mem_cons_self, by rw [hf, z]⟩)
    have nF : a ∉ X.fs := fun hm => by
      obtain ⟨e, he, q⟩ := List.mem_filterMap.mp hm
      exact off (List.mem_filterMap.mpr ⟨e, List.mem_cons_of_mem _ he, q⟩)
    -- it stood nowhere ahead
    have none0 : sI.heap.get? a = none := by
      cases q : sI.heap.get? a with
      | none => rfl
      | some o =>
        have := nb a o q (by rw [hs]; exact off)
        rw [fl3.2.1] at this
        cases this
    have none1 : X.s_0.heap.get? a = none := by
      cases q : X.s_0.heap.get? a with
      | none => rfl
      | some o =>
        obtain ⟨o', q'⟩ := J.base.there a o q (by rw [hex]; exact List.not_mem_nil)
        rw [none0] at q'
        cases q'
    have notC : ∀ y k, X.env.cells.lookup y = some k → k ≠ a := fun y k q z => by
      obtain ⟨w, o, m, _⟩ := J.cell y k q
      rw [z, none0] at m
      cases m
    have notP : ∀ p ∈ X.pn ++ pins, p.1 ≠ a := fun p hp z => by
      have := (J.pin p hp).1
      rw [z, none0] at this
      cases this
    have S3 := J3.suite e3 f3 na nL nF
    have ty : PySem.W.Looks (model X.prog X.w) h3 (typeOf (.ref a)) cls := fun _ _ _ _ k q => wpAny_typeOf_ref (k _ _ e3) (z3.1 ▸ q)
    have mt := PySem.W.exm_one (M := model X.prog X.w) J3.kIn ty hb1
    have name : ∀ {Q : Value → Shared → Prop} {E : Value → Shared → Prop}, Q c { s' with heap := h3 } → wpAny (model X.prog X.w) (X.A.mark (some (.ref a))) (eval (.Name x np) X.env) Q E { s' with heap := h3 } := by
      intro Q E q
      obtain ⟨g1, g2, g3 | ⟨g3, g4, g5⟩⟩ := hc
      · exact ld_glob (X := X.suite a ((a, o3) :: (X.pn ++ pins))) S3 g1 g3 q g2
      · exact ld_blt (X := X.suite a ((a, o3) :: (X.pn ++ pins))) S3 g1 g3 g4 q g5 g2
    refine wpAny_handleBy_cons (codeAny_handlers_test (name (mt.here ?_))) (by intro q; cases q)
    refine codeAny_handlers_suite_as (HandSPX.lands_againZ fl3 fun h4 fl4 up4 => ?_)
    have J4 : Inv X pins τ G { s' with heap := h4 } := J.landed nb fl4.1 ((up.trans up3).trans up4) os ag
    obtain ⟨o4, v4, e4, z4, f4⟩ := fl4.there
    refine store_ok (X := X.suite a ((a, o4) :: (X.pn ++ pins))) (v := .ref a) (J4.suite e4 f4 na nL nF) hN hi (.inl hln) rfl (fun s5 S5 => ?_) (.inr hln)
    refine wpAny_mono ((hsu a o4 cls d _ z4 ⟨_, f4⟩).run [] s5 _ G _ S5 (hyes a na)) (fun f s6 q => ?_) (fun _ _ z => z.elim)
    cases f with
    | next =>
      obtain ⟨τ6, G6, S6, q6⟩ := q
      exact gone_ok (Inv.held S6 ok) hN hi hln fun s7 J7 => ⟨_, _, Inv.book J7 z4 f4 none1 notC notP, q6⟩
    | brk =>
      obtain ⟨_, _, _, q6⟩ := q
      exact q6.elim
    | cont =>
      obtain ⟨_, _, _, q6⟩ := q
      exact q6.elim
    | ret u =>
      obtain ⟨_, _, _, _, _, q6⟩ := q
      exact q6.elim
  refine wpAny_mono ((hb _ (X.pn ++ pins) _ (fun u s' q => caught _ u s' q) PassesOwn.looking).run [] s σ H D (I.toTry _) h) (fun f s1 q => ?_) (fun e s1 he => he)
  cases f with
  | next =>
    obtain ⟨τ, G, J, q⟩ := q
    exact wpAny_execs_nil ⟨τ, G, J.ofTry ok, q⟩
  | brk =>
    obtain ⟨τ, G, J, q⟩ := q
    exact ⟨τ, G, J.ofTry ok, q⟩
  | cont =>
    obtain ⟨τ, G, J, q⟩ := q
    exact ⟨τ, G, J.ofTry ok, q⟩
  | ret u =>
    obtain ⟨v, τ, G, J, r, q⟩ := q
    exact ⟨v, τ, G, J.ofTry ok, r, q⟩
end
/-! ### isinstance of an error in the book -/
section
variable {X : Cx}
theorem er_kit {pins : List (Addr × Obj)} {σ : L2.St} {H : Hp} {s : Shared} {a D : Addr} (I : Inv X pins σ H s) (e : H a = some (ErO a (.ref D) none)) (C : ExcC X.K D) :
    ∃ P : Heap → Prop, PySem.W.KitX X.K (.ref a) (.ref D) P ∧ P s.heap := by
  obtain ⟨⟨o, vs, h1, h2, h3⟩, _⟩ := (show ObjOk X.prog X.w H s.heap a (ErO a (.ref D) none) from I.hok a _ e)
  refine ⟨fun h => PySem.W.InstAt h a o D none, PySem.W.handS_kitx_exc C.hg C.hk C.hs C.hd C.ha C.hn C.ht C.hm, ?_⟩
  obtain ⟨oc, od, dt, sl⟩ := o
  obtain ⟨z1, z2⟩ := h2
  dsimp only at z1 z2 h3
  subst z1 z2 h3
  exact ⟨h1, rfl, rfl, trivial⟩
def rIsX (K : PySem.W.Frag) : List V → Hp → VK → Prop := fun xs H Q => ∃ (a D : Addr) (c : V) (u : Value) (b : Bool), xs = [.ref a, c] ∧ H a = some (ErO a (.ref D) none) ∧ ExcC K D ∧ ClsV c u ∧ PySem.W.kitOne K (.ref D) u = some b ∧ Q (.bl b) H
theorem call_isX : CallR X (.builtin "isinstance") (rIsX X.K) := by
  intro pins s σ H xs us Q I r h
  obtain ⟨a, D, c, u, b, rfl, e, C, k, kb, q⟩ := h
  obtain ⟨u1, u2, rfl, r1, r2⟩ := vals2 r
  have e2 := k.eq r2
  subst e2
  cases (show u1 = Value.ref a from r1)
  obtain ⟨P, Z, p⟩ := er_kit I e C
  exact PySem.W.kia_one Z I.kIn p kb (fun z => nomatch z) fun t => ⟨.bl b, H, I.tok t, rfl, q⟩
def rIsXT (K : PySem.W.Frag) : List V → Hp → VK → Prop := fun xs H Q => ∃ (a D tp : Addr) (cs : List V) (us : List Value) (b : Bool), xs = [.ref a, .ref tp] ∧ H a = some (ErO a (.ref D) none) ∧ ExcC K D ∧ H tp = some (.tup cs) ∧ Paired ClsV cs us ∧ PySem.W.kitAny K (.ref D) us = some b ∧ Q (.bl b) H
theorem call_isXT : CallR X (.builtin "isinstance") (rIsXT X.K) := by
  intro pins s σ H xs us Q I r h
  obtain ⟨a, D, tp, cs, ws, b, rfl, e, C, hT, k, kb, q⟩ := h
  obtain ⟨u1, u2, rfl, r1, r2⟩ := vals2 r
  cases (show u1 = Value.ref a from r1)
  cases (show u2 = Value.ref tp from r2)
  obtain ⟨P, Z, p⟩ := er_kit I e C
  obtain ⟨_, its, rv, ⟨oc, od, dt, sl⟩, h1, h2, n, h3⟩ := (show ObjOk X.prog X.w H s.heap tp (.tup cs) from I.hok tp _ hT)
  have e3 := ClsV.all k rv
  subst e3
  simp only at h2 h3
  subst h2 h3
  exact PySem.W.kia_tup Z I.kIn p h1 kb (fun z => nomatch z) fun t => ⟨.bl b, H, I.tok t, rfl, q⟩
end
end Wk

set_option Elab.async false
set_option linter.all false
set_option maxRecDepth 100000
set_option maxHeartbeats 2000000
/-! What all laws of this program share: drawn texts, rows of parts as data, how they stand in memory. -/
namespace Wk
open PySem PySem.Spec PyProof.Rows L2
theorem small {n : Nat} (h : n ≤ 1000) : n ≤ sizeLine := Nat.le_of_lt (small1000 h)
theorem big {n : Nat} (h : n ≤ 1000000) : n ≤ sizeLine := Nat.le_trans h (by decide)
theorem yes {σ : L2.St} {H : Hp} {Q : Bool → Hp → Prop} (h : Q true H) : tYes σ H Q := h
theorem kn {H : Hp} {a p : Addr} {o u : HO} (h : H a = some o) (n : H p = none) : upd H p u a = some o := by
  rw [upd_ne (ne_of_none h n)]
  exact h
theorem atX_lt {α : Type} {l : List α} {d : Int} (h0 : 0 ≤ d) (h1 : d < l.length) : ∃ c ∈ l, atI l d = some c ∧ l[d.toNat]? = some c := by
  have hd : d.toNat < l.length := by omega
  refine ⟨l[d.toNat], List.getElem_mem hd, ?_, List.getElem?_eq_getElem hd⟩
  have e : atI l ((d.toNat : Nat) : Int) = some l[d.toNat] := atI_nat (List.getElem?_eq_getElem hd)
  rw [show ((d.toNat : Nat) : Int) = d by omega] at e
  exact e
/-! ### texts -/
/-- at most k signs, plain ones -/
def Sh (k : Nat) (z : Str) : Prop := z.cps.toList.length ≤ k ∧ ∀ c ∈ z.cps.toList, c < 128
theorem Sh.len {k : Nat} {z : Str} (h : Sh k z) : z.length ≤ k := by
  have := h.1
  rw [Array.length_toList] at this
  exact this
theorem Sh.mono {k j : Nat} {z : Str} (h : Sh k z) (hk : k ≤ j) : Sh j z := ⟨Nat.le_trans h.1 hk, h.2⟩
theorem app_codes (y z : Str) : (y ++ z).cps.toList = y.cps.toList ++ z.cps.toList := by
  show (y.cps ++ z.cps).toList = _
  rw [Array.toList_append]
theorem app_len (y z : Str) : (y ++ z).length = y.length + z.length := by
  show (y.cps ++ z.cps).size = _
  rw [Array.size_append]
  rfl
theorem Sh.app {k j : Nat} {y z : Str} (h : Sh k y) (g : Sh j z) : Sh (k + j) (y ++ z) := by
  refine ⟨?_, fun c hc => ?_⟩
  · rw [app_codes, List.length_append]
    exact Nat.add_le_add h.1 g.1
  · rw [app_codes] at hc
    rcases List.mem_append.mp hc with q | q
    · exact h.2 c q
    · exact g.2 c q
theorem Sh.sign {c : Nat} (h : c < 128) : Sh 1 ⟨#[c]⟩ := ⟨Nat.le_refl 1, fun d hd => by
  have : d = c := by simpa using hd
  rw [this]
  exact h⟩
theorem Sh.ok {k : Nat} {z : Str} (h : Sh k z) : PyData.strOk z = true := by
  unfold PyData.strOk
  rw [Array.all_eq_true']
  intro c hc
  have := h.2 c (Array.mem_def.mp hc)
  simp
  omega
/-! ### one number in a list -/
/-- but for L, which holds a list of one number, what stood stands -/
def StL (L : Addr) (H H' : Hp) : Prop := (∀ b o, b ≠ L → H b = some o → H' b = some o) ∧ ∃ n : Int, H' L = some (.lst [.int n])
theorem StL.refl {L : Addr} {H : Hp} {n : Int} (h : H L = some (.lst [.int n])) : StL L H H := ⟨fun _ _ _ e => e, n, h⟩
theorem StL.trans {L : Addr} {H H1 H2 : Hp} (a : StL L H H1) (b : StL L H1 H2) : StL L H H2 := ⟨fun c o n e => b.1 c o n (a.1 c o n e), b.2⟩
theorem StL.put {L : Addr} {H : Hp} (n : Int) : StL L H (upd H L (.lst [.int n])) := ⟨fun b o nb e => by rw [upd_ne nb]; exact e, n, upd_same⟩
theorem StL.new {L p : Addr} {H : Hp} {n : Int} {o : HO} (h : H L = some (.lst [.int n])) (np : H p = none) : StL L H (upd H p o) :=
  ⟨fun b u _ e => by rw [upd_ne (ne_of_none e np)]; exact e, n, by rw [upd_ne (ne_of_none h np)]; exact h⟩
theorem StL.none {L p : Addr} {H H' : Hp} (x : StL L H H') (h : H' p = Option.none) : H p = Option.none := by
  cases q : H p with
  | none => rfl
  | some o =>
    by_cases e : p = L
    · obtain ⟨n, hn⟩ := x.2
      rw [e, hn] at h
      cases h
    · rw [x.1 p o e q] at h
      cases h
def spLeft : Sp := fun vs H Q _ => ∃ c : Int, vs = [.int c] ∧ ∀ (p : Addr) (n : Int), H p = none → Q (.ref p) (upd H p (.lst [.int n]))
def spDigit : Sp := fun vs H Q _ => ∃ (L : Addr) (n m : Int), vs = [.ref L, .int m] ∧ H L = some (.lst [.int n]) ∧ 0 < m ∧ m < 1073741824 ∧ ∀ d n' : Int, 0 ≤ d → d < m → Q (.int d) (upd H L (.lst [.int n']))
theorem pos1 : (0 : Int) < 2147483629 := by decide
theorem pos2 : (0 : Int) < 2147483647 := by decide
/-! ### rows of parts -/
inductive Wd where
  | room | inn | out | opn | hear | new
deriving DecidableEq
def Wd.str : Wd → Str
  | .room => "room"
  | .inn => "in"
  | .out => "out"
  | .opn => "open"
  | .hear => "hear"
  | .new => "new"
def Wd.binds : Wd → Bool
  | .hear => true
  | .new => true
  | _ => false
inductive Part where
  | say (n : Str)
  | again (r : List Part)
  | oth (w : Wd) (n : Str) (r : List Part)
mutual
def PartAt (H : Hp) : Part → V → Prop
  | .say n, v => ∃ a, v = .ref a ∧ H a = some (.tup [.str "say", .str n])
  | .again r, v => ∃ a b xs, v = .ref a ∧ H a = some (.tup [.str "again", .ref b]) ∧ H b = some (.tup xs) ∧ PartsAt H r xs
  | .oth w n r, v => ∃ a b xs, v = .ref a ∧ H a = some (.tup [.str w.str, .str n, .ref b]) ∧ H b = some (.tup xs) ∧ PartsAt H r xs
def PartsAt (H : Hp) : List Part → List V → Prop
  | [], vs => vs = []
  | p :: r, vs => ∃ v us, vs = v :: us ∧ PartAt H p v ∧ PartsAt H r us
end
def RowAt (H : Hp) (r : List Part) (v : V) : Prop := ∃ a xs, v = .ref a ∧ H a = some (.tup xs) ∧ PartsAt H r xs
/-- all tuples stay -/
def STup (H H' : Hp) : Prop := ∀ a xs, H a = some (.tup xs) → H' a = some (.tup xs)
theorem STup.refl (H : Hp) : STup H H := fun _ _ h => h
theorem STup.trans {H H1 H2 : Hp} (a : STup H H1) (b : STup H1 H2) : STup H H2 := fun c o h => b c o (a c o h)
theorem STup.of {H H' : Hp} (h : Same H H') : STup H H' := fun a xs e => h _ _ e
theorem STup.new {H : Hp} {p : Addr} {o : HO} (n : H p = none) : STup H (upd H p o) := fun a xs e => kn e n
theorem STup.lst {H : Hp} {p : Addr} {o : HO} {ys : List V} (h : H p = some (.lst ys)) : STup H (upd H p o) := fun a xs e => by
  rw [upd_ne (fun z => by rw [z, h] at e; cases e)]
  exact e
mutual
theorem PartAt.mono {H H' : Hp} (s : STup H H') : ∀ (p : Part) (v : V), PartAt H p v → PartAt H' p v
  | .say n, v, h => by
    obtain ⟨a, e, h1⟩ := h
    exact ⟨a, e, s _ _ h1⟩
  | .again r, v, h => by
    obtain ⟨a, b, xs, e, h1, h2, h3⟩ := h
    exact ⟨a, b, xs, e, s _ _ h1, s _ _ h2, PartsAt.mono s r xs h3⟩
  | .oth w n r, v, h => by
    obtain ⟨a, b, xs, e, h1, h2, h3⟩ := h
    exact ⟨a, b, xs, e, s _ _ h1, s _ _ h2, PartsAt.mono s r xs h3⟩
theorem PartsAt.mono {H H' : Hp} (s : STup H H') : ∀ (r : List Part) (vs : List V), PartsAt H r vs → PartsAt H' r vs
  | [], vs, h => h
  | p :: r, vs, h => by
    obtain ⟨v, us, e, h1, h2⟩ := h
    exact ⟨v, us, e, PartAt.mono s p v h1, PartsAt.mono s r us h2⟩
end
theorem RowAt.mono {H H' : Hp} {r : List Part} {v : V} (s : STup H H') (h : RowAt H r v) : RowAt H' r v := by
  obtain ⟨a, xs, e, h1, h2⟩ := h
  exact ⟨a, xs, e, s _ _ h1, PartsAt.mono s r xs h2⟩
theorem PartsAt.len {H : Hp} : ∀ {r : List Part} {vs : List V}, PartsAt H r vs → vs.length = r.length
  | [], vs, h => by rw [show vs = [] from h]; rfl
  | p :: r, vs, h => by
    obtain ⟨v, us, e, _, h2⟩ := h
    rw [e, List.length_cons, List.length_cons, PartsAt.len h2]
theorem PartsAt.get {H : Hp} : ∀ {r : List Part} {vs : List V}, PartsAt H r vs → ∀ {i : Nat} {v : V}, vs[i]? = some v → ∃ p, r[i]? = some p ∧ PartAt H p v
  | [], vs, h, i, v, e => by rw [show vs = [] from h] at e; simp at e
  | p :: r, vs, h, 0, v, e => by
    obtain ⟨u, us, rfl, h1, _⟩ := h
    exact ⟨p, rfl, by rw [← Option.some.inj (show some u = some v from e)]; exact h1⟩
  | p :: r, vs, h, i + 1, v, e => by
    obtain ⟨u, us, rfl, _, h2⟩ := h
    exact PartsAt.get h2 (i := i) (v := v) e
theorem PartsAt.app {H : Hp} {q : List Part} {us : List V} (g : PartsAt H q us) : ∀ {r : List Part} {vs : List V}, PartsAt H r vs → PartsAt H (r ++ q) (vs ++ us)
  | [], vs, h => by rw [show vs = [] from h]; exact g
  | p :: r, vs, h => by
    obtain ⟨v, ws, rfl, h1, h2⟩ := h
    exact ⟨v, ws ++ us, rfl, h1, PartsAt.app g h2⟩
theorem PartsAt.one {H : Hp} {p : Part} {v : V} (h : PartAt H p v) : PartsAt H [p] [v] := ⟨v, [], rfl, h, rfl⟩
/-! ### their data -/
mutual
def dP : Part → PyData
  | .say n => .tuple [.str "say", .str n]
  | .again r => .tuple [.str "again", .tuple (dR r)]
  | .oth w n r => .tuple [.str w.str, .str n, .tuple (dR r)]
def dR : List Part → List PyData
  | [] => []
  | p :: r => dP p :: dR r
end
mutual
theorem PartAt.dp {K : PySem.W.Frag} {H : Hp} : ∀ (p : Part) (v : V), PartAt H p v → Dp K H v (dP p)
  | .say n, v, h => by
    obtain ⟨a, rfl, h1⟩ := h
    exact .tup (SqT.of h1) (.cons (.str _) (.cons (.str _) .nil))
  | .again r, v, h => by
    obtain ⟨a, b, xs, rfl, h1, h2, h3⟩ := h
    exact .tup (SqT.of h1) (.cons (.str _) (.cons (.tup (SqT.of h2) (PartsAt.dp r xs h3)) .nil))
  | .oth w n r, v, h => by
    obtain ⟨a, b, xs, rfl, h1, h2, h3⟩ := h
    exact .tup (SqT.of h1) (.cons (.str _) (.cons (.str _) (.cons (.tup (SqT.of h2) (PartsAt.dp r xs h3)) .nil)))
theorem PartsAt.dp {K : PySem.W.Frag} {H : Hp} : ∀ (r : List Part) (vs : List V), PartsAt H r vs → DpAll K H vs (dR r)
  | [], vs, h => by
    rw [show vs = [] from h]
    exact .nil
  | p :: r, vs, h => by
    obtain ⟨v, us, rfl, h1, h2⟩ := h
    exact .cons (PartAt.dp p v h1) (PartsAt.dp r us h2)
end
theorem RowAt.dp {K : PySem.W.Frag} {H : Hp} {r : List Part} {v : V} (h : RowAt H r v) : Dp K H v (.tuple (dR r)) := by
  obtain ⟨a, xs, rfl, h1, h2⟩ := h
  exact .tup (SqT.of h1) (PartsAt.dp r xs h2)
/-! ### measures and looks -/
mutual
def okP (f : Str → Prop) : Part → Prop
  | .say n => f n
  | .again r => okR f r
  | .oth _ n r => f n ∧ okR f r
def okR (f : Str → Prop) : List Part → Prop
  | [] => True
  | p :: r => okP f p ∧ okR f r
end
mutual
def deepP : Part → Nat
  | .say _ => 1
  | .again r => deepR r + 1
  | .oth _ _ r => deepR r + 1
def deepR : List Part → Nat
  | [] => 0
  | p :: r => max (deepP p) (deepR r)
end
mutual
def sizeP : Part → Nat
  | .say _ => 1
  | .again r => sizeR r + 1
  | .oth _ _ r => sizeR r + 1
def sizeR : List Part → Nat
  | [] => 0
  | p :: r => sizeP p + sizeR r
end
/-! what is bound, in the order in which it is met -/
mutual
def bdP : Part → List Str
  | .say _ => []
  | .again r => bdR r
  | .oth w n r => (if w.binds then [n] else []) ++ bdR r
def bdR : List Part → List Str
  | [] => []
  | p :: r => bdP p ++ bdR r
end
/-! each calling that is not bound there stands in S -/
mutual
def scP : List Str → Part → Prop
  | S, .say n => n ∈ S
  | S, .again r => scR S r
  | S, .oth w n r => if w.binds = true then scR (n :: S) r else n ∈ S ∧ scR S r
def scR : List Str → List Part → Prop
  | _, [] => True
  | S, p :: r => scP S p ∧ scR S r
end
mutual
theorem scP.mono : ∀ (p : Part) {S S' : List Str}, (∀ n ∈ S, n ∈ S') → scP S p → scP S' p
  | .say n, S, S', h, g => h n g
  | .again r, S, S', h, g => scR.mono r h g
  | .oth w n r, S, S', h, g => by
    unfold scP at g ⊢
    by_cases e : w.binds = true
    · rw [if_pos e] at g ⊢
      exact scR.mono r (fun m hm => by
        rcases List.mem_cons.mp hm with q | q
        · rw [q]; exact List.mem_cons_self
        · exact List.mem_cons_of_mem _ (h m q)) g
    · rw [if_neg e] at g ⊢
      exact ⟨h n g.1, scR.mono r h g.2⟩
theorem scR.mono : ∀ (r : List Part) {S S' : List Str}, (∀ n ∈ S, n ∈ S') → scR S r → scR S' r
  | [], S, S', h, g => trivial
  | p :: r, S, S', h, g => ⟨scP.mono p h g.1, scR.mono r h g.2⟩
end
theorem okR_app {f : Str → Prop} : ∀ {r q : List Part}, okR f r → okR f q → okR f (r ++ q)
  | [], q, _, g => g
  | p :: r, q, h, g => ⟨h.1, okR_app h.2 g⟩
theorem deepR_app : ∀ (r q : List Part), deepR (r ++ q) = max (deepR r) (deepR q)
  | [], q => by show deepR q = max 0 (deepR q); omega
  | p :: r, q => by
    show max (deepP p) (deepR (r ++ q)) = max (max (deepP p) (deepR r)) (deepR q)
    rw [deepR_app r q]
    omega
theorem sizeR_app : ∀ (r q : List Part), sizeR (r ++ q) = sizeR r + sizeR q
  | [], q => by show sizeR q = 0 + sizeR q; omega
  | p :: r, q => by
    show sizeP p + sizeR (r ++ q) = sizeP p + sizeR r + sizeR q
    rw [sizeR_app r q]
    omega
theorem bdR_app : ∀ (r q : List Part), bdR (r ++ q) = bdR r ++ bdR q
  | [], q => rfl
  | p :: r, q => by
    show bdP p ++ bdR (r ++ q) = (bdP p ++ bdR r) ++ bdR q
    rw [bdR_app r q, List.append_assoc]
theorem scR_app {S : List Str} : ∀ {r q : List Part}, scR S r → scR S q → scR S (r ++ q)
  | [], q, _, g => g
  | p :: r, q, h, g => ⟨h.1, scR_app h.2 g⟩
mutual
theorem okP.imp {f g : Str → Prop} (i : ∀ n, f n → g n) : ∀ p : Part, okP f p → okP g p
  | .say n, h => i n h
  | .again r, h => okR.imp i r h
  | .oth _ n r, h => ⟨i n h.1, okR.imp i r h.2⟩
theorem okR.imp {f g : Str → Prop} (i : ∀ n, f n → g n) : ∀ r : List Part, okR f r → okR g r
  | [], _ => trivial
  | p :: r, h => ⟨okP.imp i p h.1, okR.imp i r h.2⟩
end
theorem okR.mem {f : Str → Prop} : ∀ {r : List Part}, okR f r → ∀ p ∈ r, okP f p
  | [], _, p, hp => nomatch hp
  | q :: r, h, p, hp => by
    rcases List.mem_cons.mp hp with e | e
    · rw [e]; exact h.1
    · exact okR.mem h.2 p e
theorem deepR.mem : ∀ {r : List Part}, ∀ p ∈ r, deepP p ≤ deepR r
  | [], p, hp => nomatch hp
  | q :: r, p, hp => by
    show deepP p ≤ max (deepP q) (deepR r)
    rcases List.mem_cons.mp hp with e | e
    · rw [e]; omega
    · have := deepR.mem (r := r) p e; omega
theorem sizeR.mem : ∀ {r : List Part}, ∀ p ∈ r, sizeP p ≤ sizeR r
  | [], p, hp => nomatch hp
  | q :: r, p, hp => by
    show sizeP p ≤ sizeP q + sizeR r
    rcases List.mem_cons.mp hp with e | e
    · rw [e]; omega
    · have := sizeR.mem (r := r) p e; omega
mutual
theorem size_posP : ∀ p : Part, 1 ≤ sizeP p
  | .say _ => Nat.le_refl 1
  | .again r => by show 1 ≤ sizeR r + 1; omega
  | .oth _ _ r => by show 1 ≤ sizeR r + 1; omega
end
theorem len_sizeR : ∀ r : List Part, r.length ≤ sizeR r
  | [] => Nat.le_refl 0
  | p :: r => by
    have h1 := size_posP p
    have h2 := len_sizeR r
    show r.length + 1 ≤ sizeP p + sizeR r
    omega
/-! ### data that may be compared -/
theorem wd_ok (w : Wd) : PyData.strOk w.str = true := by cases w <;> decide +kernel
mutual
theorem layP {f : Str → Prop} (hf : ∀ n, f n → PyData.strOk n = true) : ∀ p : Part, okP f p → PyData.canLay0 (dP p) = true
  | .say n, h => by
    have h1 : PyData.strOk "say" = true := by decide +kernel
    simp only [dP, PyData.canLay0, PyData.canLayAll0, h1, hf n h, Bool.and_self]
  | .again r, h => by
    have h1 : PyData.strOk "again" = true := by decide +kernel
    simp only [dP, PyData.canLay0, PyData.canLayAll0, h1, layR hf r h, Bool.and_self]
  | .oth w n r, h => by
    simp only [dP, PyData.canLay0, PyData.canLayAll0, wd_ok w, hf n h.1, layR hf r h.2, Bool.and_self]
theorem layR {f : Str → Prop} (hf : ∀ n, f n → PyData.strOk n = true) : ∀ r : List Part, okR f r → PyData.canLayAll0 (dR r) = true
  | [], _ => by simp only [dR, PyData.canLayAll0]
  | p :: r, h => by simp only [dR, PyData.canLayAll0, layP hf p h.1, layR hf r h.2, Bool.and_self]
end
mutual
theorem depP : ∀ p : Part, PyData.depth (dP p) ≤ 2 * deepP p
  | .say n => by
    simp only [dP, PyData.depth, PyData.depthAll, deepP]
    omega
  | .again r => by
    have := depR r
    simp only [dP, PyData.depth, PyData.depthAll, deepP]
    omega
  | .oth w n r => by
    have := depR r
    simp only [dP, PyData.depth, PyData.depthAll, deepP]
    omega
theorem depR : ∀ r : List Part, PyData.depthAll (dR r) ≤ 2 * deepR r
  | [] => by simp only [dR, PyData.depthAll, deepR]; omega
  | p :: r => by
    have h1 := depP p
    have h2 := depR r
    simp only [dR, PyData.depthAll, deepR]
    omega
end
theorem shapedR {f : Str → Prop} (hf : ∀ n, f n → PyData.strOk n = true) {r : List Part} (h : okR f r) (hd : deepR r ≤ 30) : SeqAt.shaped (.tuple (dR r)) = true := by
  unfold SeqAt.shaped
  have := depR r
  simp only [PyData.canLay0, layR hf r h, PyData.depth, Bool.true_and]
  exact decide_eq_true (by omega)
/-! ### called otherwise -/
mutual
def calledP (x c : Str) : Part → Part
  | .say n => .say (if n = x then c else n)
  | .again r => .again (calledR x c r)
  | .oth w n r => if w.binds = true ∧ n = x then .oth w n r else .oth w (if n = x then c else n) (calledR x c r)
def calledR (x c : Str) : List Part → List Part
  | [] => []
  | p :: r => calledP x c p :: calledR x c r
end
theorem calledR_map (x c : Str) : ∀ r : List Part, calledR x c r = r.map (calledP x c)
  | [] => rfl
  | p :: r => by
    show calledP x c p :: calledR x c r = calledP x c p :: r.map (calledP x c)
    rw [calledR_map x c r]
mutual
theorem calledP_deep (x c : Str) : ∀ p : Part, deepP (calledP x c p) = deepP p
  | .say n => rfl
  | .again r => by
    show deepR (calledR x c r) + 1 = deepR r + 1
    rw [calledR_deep x c r]
  | .oth w n r => by
    unfold calledP
    by_cases e : w.binds = true ∧ n = x
    · rw [if_pos e]
    · rw [if_neg e]
      show deepR (calledR x c r) + 1 = deepR r + 1
      rw [calledR_deep x c r]
theorem calledR_deep (x c : Str) : ∀ r : List Part, deepR (calledR x c r) = deepR r
  | [] => rfl
  | p :: r => by
    show max (deepP (calledP x c p)) (deepR (calledR x c r)) = max (deepP p) (deepR r)
    rw [calledP_deep x c p, calledR_deep x c r]
end
mutual
theorem calledP_size (x c : Str) : ∀ p : Part, sizeP (calledP x c p) = sizeP p
  | .say n => rfl
  | .again r => by
    show sizeR (calledR x c r) + 1 = sizeR r + 1
    rw [calledR_size x c r]
  | .oth w n r => by
    unfold calledP
    by_cases e : w.binds = true ∧ n = x
    · rw [if_pos e]
    · rw [if_neg e]
      show sizeR (calledR x c r) + 1 = sizeR r + 1
      rw [calledR_size x c r]
theorem calledR_size (x c : Str) : ∀ r : List Part, sizeR (calledR x c r) = sizeR r
  | [] => rfl
  | p :: r => by
    show sizeP (calledP x c p) + sizeR (calledR x c r) = sizeP p + sizeR r
    rw [calledP_size x c p, calledR_size x c r]
end
theorem pick {f : Str → Prop} {x c n : Str} (hc : f c) (hn : f n) : f (if n = x then c else n) := by
  by_cases e : n = x
  · rw [if_pos e]; exact hc
  · rw [if_neg e]; exact hn
mutual
theorem calledP_ok {f : Str → Prop} (x c : Str) (hc : f c) : ∀ p : Part, okP f p → okP f (calledP x c p)
  | .say n, h => pick (x := x) hc h
  | .again r, h => calledR_ok x c hc r h
  | .oth w n r, h => by
    unfold calledP
    by_cases e : w.binds = true ∧ n = x
    · rw [if_pos e]
      exact h
    · rw [if_neg e]
      exact ⟨pick hc h.1, calledR_ok x c hc r h.2⟩
theorem calledR_ok {f : Str → Prop} (x c : Str) (hc : f c) : ∀ r : List Part, okR f r → okR f (calledR x c r)
  | [], _ => trivial
  | p :: r, h => ⟨calledP_ok x c hc p h.1, calledR_ok x c hc r h.2⟩
end
end Wk

set_option Elab.async false
set_option linter.all false
set_option maxRecDepth 100000
set_option maxHeartbeats 2000000
/-! What the laws draw: names, and houses of them. -/
namespace Wk
open PySem PySem.Spec PyProof.Rows L2
abbrev abc : Str := "abcdefghijklmnopqrstuvwxyz"
abbrev vow : Str := "aeiouxyz"
theorem abc_at : ∀ j : Nat, j < 26 → abc.cps.toList[j]? = some (97 + j) := by decide +kernel
theorem abc_len : abc.cps.toList.length = 26 := by decide +kernel
theorem vow_len : vow.cps.toList.length = 8 := by decide +kernel
theorem vow_lt : ∀ c ∈ vow.cps.toList, 97 ≤ c ∧ c < 123 := by decide +kernel
/-- a letter by its number, and up to five of eight more -/
def NameOf (j : Nat) (z : Str) : Prop := ∃ r, z.cps.toList = (97 + j) :: r ∧ r.length ≤ 5 ∧ ∀ c ∈ r, c ∈ vow.cps.toList
theorem NameOf.sh {j : Nat} {z : Str} (h : NameOf j z) (hj : j < 26) : Sh 6 z := by
  obtain ⟨r, e, h1, h2⟩ := h
  refine ⟨by rw [e, List.length_cons]; omega, fun c hc => ?_⟩
  rw [e] at hc
  rcases List.mem_cons.mp hc with q | q
  · omega
  · have := vow_lt c (h2 c q)
    omega
theorem NameOf.inj {i j : Nat} {z : Str} (h : NameOf i z) (g : NameOf j z) : i = j := by
  obtain ⟨r, e, _⟩ := h
  obtain ⟨q, e2, _⟩ := g
  rw [e] at e2
  have := (List.cons.inj e2).1
  omega
def spNames : Sp := fun vs H Q _ => ∃ (L : Addr) (n : Int) (m : Nat), vs = [.ref L, .int m] ∧ H L = some (.lst [.int n]) ∧ m ≤ 100 ∧
  ∀ (H' : Hp) (p : Addr) (s : Nat) (zs : List Str), StL L H H' → H p = none → H' p = some (.lst (zs.map V.str)) → zs.length = m → s < 26 → (∀ i z, zs[i]? = some z → NameOf ((s + 5 * i) % 26) z) → Q (.ref p) H'
/-! ### houses -/
/-- but for L and S what stood stands; L holds one number, S the names that are left -/
def StG (L S : Addr) (H H' : Hp) (sp : List Str) : Prop := (∀ b o, b ≠ L → b ≠ S → H b = some o → H' b = some o) ∧ (∃ n : Int, H' L = some (.lst [.int n])) ∧ H' S = some (.lst (sp.map V.str))
section
variable {L S p : Addr} {H H1 H2 : Hp} {sp sp1 sp2 : List Str} {o : HO}
theorem LS_ne {n : Int} (h1 : H L = some (.lst [.int n])) (h2 : H S = some (.lst (sp.map V.str))) : L ≠ S := fun e => by
  rw [e, h2] at h1
  have q := HO.lst.inj (Option.some.inj h1)
  cases sp with
  | nil => cases q
  | cons a r => cases q
theorem StG.ne (x : StG L S H H1 sp) : L ≠ S := by
  obtain ⟨n, hn⟩ := x.2.1
  exact LS_ne hn x.2.2
theorem StG.refl {n : Int} (h1 : H L = some (.lst [.int n])) (h2 : H S = some (.lst (sp.map V.str))) : StG L S H H sp := ⟨fun _ _ _ _ e => e, ⟨n, h1⟩, h2⟩
theorem StG.trans (a : StG L S H H1 sp1) (b : StG L S H1 H2 sp2) : StG L S H H2 sp2 := ⟨fun c u n1 n2 e => b.1 c u n1 n2 (a.1 c u n1 n2 e), b.2⟩
theorem StG.put (x : StG L S H H1 sp) (n : Int) : StG L S H (upd H1 L (.lst [.int n])) sp :=
  ⟨fun b u nb nc e => by rw [upd_ne nb]; exact x.1 b u nb nc e, ⟨n, upd_same⟩, by rw [upd_ne (Ne.symm x.ne)]; exact x.2.2⟩
theorem StG.new (x : StG L S H H1 sp) (n : H1 p = none) : StG L S H (upd H1 p o) sp := by
  obtain ⟨i, hi⟩ := x.2.1
  exact ⟨fun b u nb nc e => kn (x.1 b u nb nc e) n, ⟨i, kn hi n⟩, kn x.2.2 n⟩
theorem StG.pop (x : StG L S H H1 sp) : StG L S H (upd H1 S (.lst (sp1.map V.str))) sp1 := by
  obtain ⟨i, hi⟩ := x.2.1
  exact ⟨fun b u nb nc e => by rw [upd_ne nc]; exact x.1 b u nb nc e, ⟨i, by rw [upd_ne x.ne]; exact hi⟩, upd_same⟩
theorem StG.tup {n : Int} (x : StG L S H H1 sp1) (h1 : H L = some (.lst [.int n])) (h2 : H S = some (.lst (sp.map V.str))) : STup H H1 := fun a xs e =>
  x.1 a _ (fun z => by rw [z, h1] at e; cases e) (fun z => by rw [z, h2] at e; cases e) e
theorem StG.none {n : Int} (x : StG L S H H1 sp1) (h : H1 p = Option.none) (h1 : H L = some (.lst [.int n])) (h2 : H S = some (.lst (sp.map V.str))) : H p = Option.none := by
  obtain ⟨i, hi⟩ := x.2.1
  cases q : H p with
  | none => rfl
  | some u =>
    by_cases e1 : p = L
    · rw [e1, hi] at h
      cases h
    · by_cases e2 : p = S
      · rw [e2, x.2.2] at h
        cases h
      · rw [x.1 p u e1 e2 q] at h
        cases h
end
/-- how many parts a row has at most -/
def cntR : Nat → Nat
  | 0 => 2
  | 1 => 6
  | m + 2 => 3 * (1 + cntR (m + 1))
def cntP : Nat → Nat
  | 0 => 1
  | m + 1 => 1 + cntR m
def most : Nat → Nat
  | 0 => 2
  | 1 => 2
  | _ + 2 => 3
theorem cnt_eq : ∀ m : Nat, most m * cntP m = cntR m
  | 0 => rfl
  | 1 => rfl
  | m + 2 => rfl
structure GP (m : Nat) (ss sp sp' : List Str) (p : Part) : Prop where
  deep : deepP p ≤ m + 1
  size : sizeP p ≤ cntP m
  sc : scP ss p
  bd : sp = sp' ++ (bdP p).reverse
  ok : okP (fun n => n ∈ ss ∨ n ∈ sp) p
structure GR (m k : Nat) (ss sp sp' : List Str) (r : List Part) : Prop where
  deep : deepR r ≤ m + 1
  size : sizeR r ≤ k * cntP m
  sc : scR ss r
  bd : sp = sp' ++ (bdR r).reverse
  ok : okR (fun n => n ∈ ss ∨ n ∈ sp) r
theorem GR.nil {m : Nat} {ss sp : List Str} : GR m 0 ss sp sp [] := ⟨Nat.zero_le _, Nat.zero_le _, trivial, by simp [bdR], trivial⟩
theorem GR.snoc {m k : Nat} {ss sp sp1 sp2 : List Str} {r : List Part} {p : Part} (h : GR m k ss sp sp1 r) (g : GP m ss sp1 sp2 p) : GR m (k + 1) ss sp sp2 (r ++ [p]) := by
  have mem1 : ∀ n ∈ sp1, n ∈ sp := fun n hn => by rw [h.bd]; exact List.mem_append_left _ hn
  refine ⟨?_, ?_, scR_app h.sc ⟨g.sc, trivial⟩, ?_, okR_app h.ok ⟨okP.imp (fun n q => ?_) p g.ok, trivial⟩⟩
  · rw [deepR_app]
    have h1 := h.deep
    have h2 := g.deep
    show max (deepR r) (max (deepP p) 0) ≤ m + 1
    omega
  · rw [sizeR_app, Nat.succ_mul]
    have h1 := h.size
    have h2 := g.size
    show sizeR r + (sizeP p + 0) ≤ _
    omega
  · rw [bdR_app, List.reverse_append, show bdR [p] = bdP p from List.append_nil _, ← List.append_assoc, ← g.bd]
    exact h.bd
  · rcases q with q | q
    · exact .inl q
    · exact .inr (mem1 n q)
theorem GR.up {m k j : Nat} {ss sp sp' : List Str} {r : List Part} (h : GR m k ss sp sp' r) (hk : k ≤ j) : GR m j ss sp sp' r :=
  ⟨h.deep, Nat.le_trans h.size (Nat.mul_le_mul_right _ hk), h.sc, h.bd, h.ok⟩
theorem most_at (m : Nat) : atI [V.int 3, V.int 4] (if decide ((m : Int) > 1) = true then 1 else 0) = some (.int ((most m + 1 : Nat) : Int)) := by
  match m with
  | 0 => exact atI_nat (j := 0) rfl
  | 1 => exact atI_nat (j := 0) rfl
  | m + 2 =>
    rw [decide_eq_true (show (((m + 2 : Nat) : Int) > 1) by omega)]
    exact atI_nat (j := 1) rfl
theorem most_le (m : Nat) : most m ≤ 3 := by
  match m with
  | 0 => exact (by decide : 2 ≤ 3)
  | 1 => exact (by decide : 2 ≤ 3)
  | m + 2 => exact Nat.le_refl 3
/-- what a whole row of room m keeps -/
theorem GR.weak {m k : Nat} {ss sp sp' : List Str} {r : List Part} (h : GR m k ss sp sp' r) (hk : k ≤ most m) : sizeR r ≤ cntR m := by
  rw [← cnt_eq]
  exact Nat.le_trans h.size (Nat.mul_le_mul_right _ hk)
/-- the arguments of _law_part and _law_row -/
def GArg (vs : List V) (H : Hp) (L S A : Addr) (nL : Int) (m : Nat) (ss sp : List Str) : Prop :=
  vs = [.ref L, .int m, .ref A, .ref S] ∧ H L = some (.lst [.int nL]) ∧ H S = some (.lst (sp.map V.str)) ∧ H A = some (.lst (ss.map V.str)) ∧ A ≠ L ∧ A ≠ S ∧ ss ≠ [] ∧ ss.length + 2 * m ≤ 1000 ∧ (∀ z ∈ sp, Sh 6 z)
def spPart (n : Nat) : Sp := fun vs H Q _ => ∃ (L S A : Addr) (nL : Int) (m : Nat) (ss sp : List Str), GArg vs H L S A nL m ss sp ∧ m ≤ n ∧
  ∀ (H' : Hp) (v : V) (sp' : List Str) (p : Part), StG L S H H' sp' → PartAt H' p v → GP m ss sp sp' p → Q v H'
def spRow (n : Nat) : Sp := fun vs H Q _ => ∃ (L S A : Addr) (nL : Int) (m : Nat) (ss sp : List Str), GArg vs H L S A nL m ss sp ∧ m < n ∧
  ∀ (H' : Hp) (v : V) (sp' : List Str) (r : List Part), StG L S H H' sp' → RowAt H' r v → GR m (most m) ss sp sp' r → Q v H'
theorem GP.say {m : Nat} {ss sp : List Str} {n : Str} (h : n ∈ ss) : GP m ss sp sp (.say n) := by
  refine ⟨?_, ?_, h, by simp [bdP], .inl h⟩
  · show 1 ≤ m + 1
    omega
  · show 1 ≤ cntP m
    cases m with
    | zero => exact Nat.le_refl 1
    | succ m => show 1 ≤ 1 + cntR m; omega
theorem GP.again {m : Nat} {ss sp sp' : List Str} {r : List Part} (h : GR m (most m) ss sp sp' r) : GP (m + 1) ss sp sp' (.again r) := by
  have h1 := h.deep
  have h2 := h.weak (Nat.le_refl _)
  refine ⟨?_, ?_, h.sc, h.bd, h.ok⟩
  · show deepR r + 1 ≤ m + 1 + 1
    omega
  · show sizeR r + 1 ≤ 1 + cntR m
    omega
theorem GP.free {m : Nat} {ss sp sp' : List Str} {r : List Part} {w : Wd} {n : Str} (hw : w.binds = false) (hn : n ∈ ss) (h : GR m (most m) ss sp sp' r) : GP (m + 1) ss sp sp' (.oth w n r) := by
  have h1 := h.deep
  have h2 := h.weak (Nat.le_refl _)
  have hw2 : ¬ w.binds = true := by rw [hw]; decide
  refine ⟨?_, ?_, ?_, ?_, .inl hn, h.ok⟩
  · show deepR r + 1 ≤ m + 1 + 1
    omega
  · show sizeR r + 1 ≤ 1 + cntR m
    omega
  · unfold scP
    rw [if_neg hw2]
    exact ⟨hn, h.sc⟩
  · unfold bdP
    rw [if_neg hw2, List.nil_append]
    exact h.bd
theorem GP.bound {m : Nat} {ss sp1 sp' : List Str} {r : List Part} {w : Wd} {n : Str} (hw : w.binds = true) (h : GR m (most m) (ss ++ [n, n]) sp1 sp' r) : GP (m + 1) ss (sp1 ++ [n]) sp' (.oth w n r) := by
  have h1 := h.deep
  have h2 := h.weak (Nat.le_refl _)
  refine ⟨?_, ?_, ?_, ?_, .inr (List.mem_append_right _ List.mem_cons_self), okR.imp (fun k q => ?_) r h.ok⟩
  · show deepR r + 1 ≤ m + 1 + 1
    omega
  · show sizeR r + 1 ≤ 1 + cntR m
    omega
  · unfold scP
    rw [if_pos hw]
    refine scR.mono r (fun k hk => ?_) h.sc
    rcases List.mem_append.mp hk with q | q
    · exact List.mem_cons_of_mem _ q
    · have : k = n := by simpa using q
      rw [this]
      exact List.mem_cons_self
  · unfold bdP
    rw [if_pos hw, List.reverse_append, List.reverse_singleton, ← List.append_assoc, ← h.bd]
  · rcases q with q | q
    · rcases List.mem_append.mp q with u | u
      · exact .inl u
      · have : k = n := by simpa using u
        rw [this]
        exact .inr (List.mem_append_right _ List.mem_cons_self)
    · exact .inr (List.mem_append_left _ q)
theorem strs_dp {K : PySem.W.Frag} {H : Hp} : ∀ zs : List Str, DpAll K H (zs.map V.str) (zs.map PyData.str)
  | [] => .nil
  | z :: r => .cons (.str _) (strs_dp r)
theorem strs_lay : ∀ zs : List Str, (∀ z ∈ zs, PyData.strOk z = true) → PyData.canLayAll0 (zs.map PyData.str) = true
  | [], _ => by simp only [List.map_nil, PyData.canLayAll0]
  | z :: r, h => by simp only [List.map_cons, PyData.canLayAll0, PyData.canLay0, h z List.mem_cons_self, strs_lay r (fun y hy => h y (List.mem_cons_of_mem _ hy)), Bool.and_self]
theorem strs_dep : ∀ zs : List Str, PyData.depthAll (zs.map PyData.str) = 0
  | [] => by simp only [List.map_nil, PyData.depthAll]
  | z :: r => by simp only [List.map_cons, PyData.depthAll, PyData.depth, strs_dep r, Nat.max_self]
theorem strs_shaped {zs : List Str} (h : ∀ z ∈ zs, PyData.strOk z = true) : SeqAt.shaped (.list (zs.map PyData.str)) = true := by
  unfold SeqAt.shaped
  simp only [PyData.canLay0, strs_lay zs h, PyData.depth, strs_dep zs, Bool.true_and]
  decide
theorem nil_shaped : SeqAt.shaped (.list []) = true := strs_shaped (zs := []) fun _ h => nomatch h
theorem eqv_nil : ∀ l : List PyData, PyData.eqv (.list l) (.list []) = l.isEmpty
  | [] => by simp only [PyData.eqv, PyData.eqvAll, List.isEmpty]
  | _ :: _ => by simp only [PyData.eqv, PyData.eqvAll, List.isEmpty]
end Wk

set_option Elab.async false
set_option linter.all false
set_option maxRecDepth 100000
set_option maxHeartbeats 2000000
/-! What the program's own called promises. -/
namespace Wk
open PySem PySem.Spec PyProof.Rows L2
def bindV : List V := [.str "hear", .str "new"]
def wordP : Part → Str
  | .say _ => "say"
  | .again _ => "again"
  | .oth w _ _ => w.str
def bindsP : Part → Bool
  | .oth w _ _ => w.binds
  | _ => false
theorem inV_binds : ∀ p : Part, inV (.str (wordP p)) bindV = bindsP p
  | .say _ => (by decide +kernel : inV (.str "say") bindV = false)
  | .again _ => (by decide +kernel : inV (.str "again") bindV = false)
  | .oth w _ _ => (by cases w <;> decide +kernel : inV (.str w.str) bindV = w.binds)
theorem wd_again (w : Wd) : decide (V.str w.str = V.str "again") = false := by cases w <;> decide +kernel
theorem wd_say (w : Wd) : decide (V.str w.str = V.str "say") = false := by cases w <;> decide +kernel
theorem say_again : decide (V.str "say" = V.str "again") = false := by decide +kernel
theorem iteD {b : Bool} {A B : Prop} (e : b = false) (h : B) : if b = true then A else B := by
  rw [e]
  exact iteF h
theorem iteU {b : Bool} {A B : Prop} (e : b = true) (h : A) : if b = true then A else B := by
  rw [e]
  exact iteT h
theorem str_eq {x y : Str} (h : decide (V.str x = V.str y) = true) : x = y := V.str.inj (of_decide_eq_true h)
theorem str_ne {x y : Str} (h : ¬ decide (V.str x = V.str y) = true) : x ≠ y := fun e => h (decide_eq_true (by rw [e]))
theorem PartAt.word {H : Hp} : ∀ {p : Part} {v : V}, PartAt H p v → ∃ a xs, v = .ref a ∧ H a = some (.tup xs) ∧ xs[0]? = some (.str (wordP p))
  | .say n, v, h => by
    obtain ⟨a, rfl, h1⟩ := h
    exact ⟨a, _, rfl, h1, rfl⟩
  | .again r, v, h => by
    obtain ⟨a, b, xs, rfl, h1, _⟩ := h
    exact ⟨a, _, rfl, h1, rfl⟩
  | .oth w n r, v, h => by
    obtain ⟨a, b, xs, rfl, h1, _⟩ := h
    exact ⟨a, _, rfl, h1, rfl⟩
def spBinder : Sp := fun vs H Q _ => ∃ (v : V) (p : Part), vs = [v] ∧ PartAt H p v ∧ Q (.bl (bindsP p)) H
def spCalled (n : Nat) : Sp := fun vs H Q _ => ∃ (v : V) (x c : Str) (r : List Part), vs = [v, .str x, .str c] ∧ RowAt H r v ∧ deepR r < n ∧ r.length ≤ 1000 ∧ sizeR r ≤ 1000 ∧
  ∀ (H' : Hp) (u : V), Same H H' → RowAt H' (calledR x c r) u → Q u H'
def spPCalled (n : Nat) : Sp := fun vs H Q _ => ∃ (v : V) (x c : Str) (p : Part), vs = [v, .str x, .str c] ∧ PartAt H p v ∧ (deepP p ≤ n ∧ sizeP p ≤ 1000) ∧
  ∀ (H' : Hp) (u : V), Same H H' → PartAt H' (calledP x c p) u → Q u H'
theorem same_new {H : Hp} {p : Addr} {o : HO} (n : H p = none) : Same H (upd H p o) := fun b u e => kn e n
end Wk

set_option Elab.async false
set_option linter.all false
set_option maxRecDepth 100000
set_option maxHeartbeats 2000000
/-! Free callings, and callings put back. -/
namespace Wk
open PySem PySem.Spec PyProof.Rows L2
/-- each x called otherwise, also where it is bound -/
def sub (x c n : Str) : Str := if n = x then c else n
mutual
def lcP (x c : Str) : Part → Part
  | .say n => .say (sub x c n)
  | .again r => .again (lcR x c r)
  | .oth w n r => .oth w (sub x c n) (lcR x c r)
def lcR (x c : Str) : List Part → List Part
  | [] => []
  | p :: r => lcP x c p :: lcR x c r
end
theorem lcR_map (x c : Str) : ∀ r : List Part, lcR x c r = r.map (lcP x c)
  | [] => rfl
  | p :: r => by
    show lcP x c p :: lcR x c r = lcP x c p :: r.map (lcP x c)
    rw [lcR_map x c r]
mutual
theorem called_lcP {x c : Str} : ∀ p : Part, x ∉ bdP p → calledP x c p = lcP x c p
  | .say n, _ => rfl
  | .again r, h => by
    show Part.again (calledR x c r) = Part.again (lcR x c r)
    rw [called_lcR r h]
  | .oth w n r, h => by
    unfold bdP at h
    have h1 : x ∉ bdR r := fun z => h (List.mem_append_right _ z)
    have h2 : ¬ (w.binds = true ∧ n = x) := fun z => h (by rw [if_pos z.1, z.2]; exact List.mem_append_left _ List.mem_cons_self)
    unfold calledP
    rw [if_neg h2, called_lcR r h1]
    rfl
theorem called_lcR {x c : Str} : ∀ r : List Part, x ∉ bdR r → calledR x c r = lcR x c r
  | [], _ => rfl
  | p :: r, h => by
    unfold bdR at h
    show calledP x c p :: calledR x c r = lcP x c p :: lcR x c r
    rw [called_lcP p (fun z => h (List.mem_append_left _ z)), called_lcR r (fun z => h (List.mem_append_right _ z))]
end
def lone (ar : List Str) (n : Str) : List Str := if n ∈ ar then [] else [n]
mutual
def freeP : List Str → Part → List Str
  | ar, .say n => lone ar n
  | ar, .again r => freeR ar r
  | ar, .oth w n r => if w.binds = true then freeR (ar ++ [n]) r else lone ar n ++ freeR ar r
def freeR : List Str → List Part → List Str
  | _, [] => []
  | ar, p :: r => freeP ar p ++ freeR ar r
end
theorem freeR_map (ar : List Str) : ∀ r : List Part, freeR ar r = (r.map (freeP ar)).flatten
  | [] => rfl
  | p :: r => by
    show freeP ar p ++ freeR ar r = _
    rw [freeR_map ar r]
    rfl
theorem lone_le (ar : List Str) (n : Str) : (lone ar n).length ≤ 1 := by
  unfold lone
  by_cases h : n ∈ ar
  · rw [if_pos h]; exact Nat.zero_le _
  · rw [if_neg h]; exact Nat.le_refl 1
mutual
theorem freeP_le : ∀ (p : Part) (ar : List Str), (freeP ar p).length ≤ sizeP p
  | .say n, ar => lone_le ar n
  | .again r, ar => by
    have := freeR_le r ar
    show (freeR ar r).length ≤ sizeR r + 1
    omega
  | .oth w n r, ar => by
    unfold freeP
    show _ ≤ sizeR r + 1
    by_cases h : w.binds = true
    · rw [if_pos h]
      have := freeR_le r (ar ++ [n])
      omega
    · rw [if_neg h, List.length_append]
      have := freeR_le r ar
      have := lone_le ar n
      omega
theorem freeR_le : ∀ (r : List Part) (ar : List Str), (freeR ar r).length ≤ sizeR r
  | [], ar => Nat.le_refl 0
  | p :: r, ar => by
    show (freeP ar p ++ freeR ar r).length ≤ sizeP p + sizeR r
    rw [List.length_append]
    have := freeP_le p ar
    have := freeR_le r ar
    omega
end
/-- c stands nowhere but where it is bound -/
abbrev noc (c : Str) : Str → Prop := fun n => n ≠ c
theorem lone_none {ar : List Str} {n c : Str} (h : c ∉ lone ar n) (ha : c ∉ ar) : n ≠ c := fun e => by
  unfold lone at h
  rw [e, if_neg ha] at h
  exact h List.mem_cons_self
mutual
theorem free_nocP {c : Str} : ∀ (p : Part) (ar : List Str), c ∉ freeP ar p → c ∉ ar → c ∉ bdP p → okP (noc c) p
  | .say n, ar, h, ha, hb => lone_none h ha
  | .again r, ar, h, ha, hb => free_nocR r ar h ha hb
  | .oth w n r, ar, h, ha, hb => by
    unfold freeP at h
    unfold bdP at hb
    have hb1 : c ∉ bdR r := fun z => hb (List.mem_append_right _ z)
    by_cases hw : w.binds = true
    · rw [if_pos hw] at h hb
      have hn : n ≠ c := fun e => hb (by rw [e]; exact List.mem_append_left _ List.mem_cons_self)
      refine ⟨hn, free_nocR r (ar ++ [n]) h (fun z => ?_) hb1⟩
      rcases List.mem_append.mp z with q | q
      · exact ha q
      · exact hn (List.mem_singleton.mp q).symm
    · rw [if_neg hw] at h
      exact ⟨lone_none (fun z => h (List.mem_append_left _ z)) ha, free_nocR r ar (fun z => h (List.mem_append_right _ z)) ha hb1⟩
theorem free_nocR {c : Str} : ∀ (r : List Part) (ar : List Str), c ∉ freeR ar r → c ∉ ar → c ∉ bdR r → okR (noc c) r
  | [], _, _, _, _ => trivial
  | p :: r, ar, h, ha, hb => ⟨free_nocP p ar (fun z => h (List.mem_append_left _ z)) ha (fun z => hb (List.mem_append_left _ z)), free_nocR r ar (fun z => h (List.mem_append_right _ z)) ha (fun z => hb (List.mem_append_right _ z))⟩
end
theorem sub_back {x c n : Str} (h : n ≠ c) : sub c x (sub x c n) = n := by
  unfold sub
  by_cases e : n = x
  · rw [if_pos e, if_pos rfl, e]
  · rw [if_neg e, if_neg h]
mutual
theorem backP {x c : Str} : ∀ p : Part, okP (noc c) p → lcP c x (lcP x c p) = p
  | .say n, h => by
    show Part.say (sub c x (sub x c n)) = _
    rw [sub_back h]
  | .again r, h => by
    show Part.again (lcR c x (lcR x c r)) = _
    rw [backR r h]
  | .oth w n r, h => by
    show Part.oth w (sub c x (sub x c n)) (lcR c x (lcR x c r)) = _
    rw [sub_back h.1, backR r h.2]
theorem backR {x c : Str} : ∀ r : List Part, okR (noc c) r → lcR c x (lcR x c r) = r
  | [], _ => rfl
  | p :: r, h => by
    show lcP c x (lcP x c p) :: lcR c x (lcR x c r) = _
    rw [backP p h.1, backR r h.2]
end
mutual
theorem lc_bdP {x c : Str} : ∀ p : Part, x ∉ bdP p → bdP (lcP x c p) = bdP p
  | .say n, _ => rfl
  | .again r, h => lc_bdR r h
  | .oth w n r, h => by
    unfold bdP at h
    have h1 : x ∉ bdR r := fun z => h (List.mem_append_right _ z)
    show (if w.binds then [sub x c n] else []) ++ bdR (lcR x c r) = (if w.binds then [n] else []) ++ bdR r
    rw [lc_bdR r h1]
    by_cases hw : w.binds = true
    · rw [if_pos hw] at h
      have hn : n ≠ x := fun e => h (by rw [e]; exact List.mem_append_left _ List.mem_cons_self)
      unfold sub
      rw [if_pos hw, if_pos hw, if_neg hn]
    · rw [if_neg hw, if_neg hw]
theorem lc_bdR {x c : Str} : ∀ r : List Part, x ∉ bdR r → bdR (lcR x c r) = bdR r
  | [], _ => rfl
  | p :: r, h => by
    unfold bdR at h
    show bdP (lcP x c p) ++ bdR (lcR x c r) = bdP p ++ bdR r
    rw [lc_bdP p (fun z => h (List.mem_append_left _ z)), lc_bdR r (fun z => h (List.mem_append_right _ z))]
end
/-- called, and called back -/
theorem called_back {x c : Str} {r : List Part} (hx : x ∉ bdR r) (hc : c ∉ bdR r) (hf : c ∉ freeR [] r) : calledR c x (calledR x c r) = r := by
  rw [called_lcR r hx, called_lcR _ (by rw [lc_bdR r hx]; exact hc)]
  exact backR r (free_nocR r [] hf (fun z => nomatch z) hc)
/-- the rest of a part -/
def restP : Part → List Part
  | .say _ => []
  | .again r => r
  | .oth _ _ r => r
theorem rest_bd {p : Part} {n : Str} (h : n ∈ bdR (restP p)) : n ∈ bdP p := by
  cases p with
  | say _ => cases h
  | again r => exact h
  | oth w m r => exact List.mem_append_right _ h
theorem bd_mem {n : Str} : ∀ {r : List Part}, ∀ p ∈ r, n ∈ bdP p → n ∈ bdR r
  | [], p, hp, _ => nomatch hp
  | q :: r, p, hp, h => by
    rcases List.mem_cons.mp hp with e | e
    · rw [← e]; exact List.mem_append_left _ h
    · exact List.mem_append_right _ (bd_mem p e h)
theorem rest_deep (p : Part) : deepR (restP p) ≤ deepP p := by
  cases p with
  | say _ => exact Nat.zero_le _
  | again r => exact Nat.le_succ _
  | oth w m r => exact Nat.le_succ _
theorem rest_size (p : Part) : sizeR (restP p) ≤ sizeP p := by
  cases p with
  | say _ => exact Nat.zero_le _
  | again r => exact Nat.le_succ _
  | oth w m r => exact Nat.le_succ _
theorem rest_ok {f : Str → Prop} {p : Part} (h : okP f p) : okR f (restP p) := by
  cases p with
  | say _ => trivial
  | again r => exact h
  | oth w m r => exact h.2
theorem num_sh {n : Int} (h0 : 0 ≤ n) (h1 : n < 10 ^ 10) : Sh 10 (Str.ofString (toString n)) := by
  refine ⟨?_, fun c hc => ?_⟩
  · rw [Array.length_toList]
    exact PySem.W.KT.len_num h0 h1
  · by_cases g : c < 128
    · exact g
    · exact absurd hc (int_text_free' c ⟨by omega, by omega⟩ n)
def spLCalled (n : Nat) : Sp := fun vs H Q _ => ∃ (v : V) (x c : Str) (r : List Part), vs = [v, .str x, .str c] ∧ RowAt H r v ∧ deepR r < n ∧ sizeR r ≤ 1000 ∧
  ∀ (H' : Hp) (u : V), Same H H' → RowAt H' (lcR x c r) u → Q u H'
def spFree (n : Nat) : Sp := fun vs H Q _ => ∃ (v : V) (a : Addr) (ar : List Str) (r : List Part), vs = [v, .ref a] ∧ RowAt H r v ∧ H a = some (.lst (ar.map V.str)) ∧ deepR r < n ∧ sizeR r ≤ 1000 ∧ ar.length + deepR r ≤ 1000 ∧
  ∀ (H' : Hp) (p : Addr), Same H H' → H p = none → H' p = some (.lst ((freeR ar r).map V.str)) → Q (.ref p) H'
theorem inV_strs (n : Str) : ∀ l : List Str, inV (.str n) (l.map V.str) = decide (n ∈ l)
  | [] => rfl
  | m :: l => by
    show (eqV (.str m) (.str n) || inV (.str n) (l.map V.str)) = _
    rw [inV_strs n l]
    show ((m == n) || decide (n ∈ l)) = _
    by_cases e : m = n
    · rw [e]; simp
    · have e2 : ¬ n = m := fun z => e z.symm
      simp [e, e2]
theorem flat_strs : ∀ l : List Str, (l.map V.str).all flatV = true
  | [] => rfl
  | m :: l => by
    show (true && (l.map V.str).all flatV) = true
    rw [flat_strs l]
    rfl
end Wk

set_option Elab.async false
set_option linter.all false
set_option maxRecDepth 100000
set_option maxHeartbeats 2000000
/-! A turn of a law that draws a house: what stands while it is drawn. -/
namespace Wk
open PySem PySem.Spec PyProof.Rows L2
theorem cut_ints {ns : List Int} {lo hi : Option Int} : ∀ v ∈ cutV (ns.map V.int) lo hi, ∃ i : Int, v = .int i := by
  intro v hv
  unfold cutV at hv
  obtain ⟨i, _, e⟩ := List.mem_map.mp (List.mem_of_mem_drop (List.mem_of_mem_take hv))
  exact ⟨i, e.symm⟩
theorem cut_len {ns : List Int} {lo hi : Option Int} (h : ns.length ≤ 63) : (cutV (ns.map V.int) lo hi).length ≤ 63 := by
  unfold cutV
  rw [List.length_take, List.length_drop, List.length_map]
  omega
theorem cut_to {zs : List Str} {k : Nat} (h : k ≤ zs.length) : cutV (zs.map V.str) none (some (k : Int)) = (zs.take k).map V.str := by
  unfold cutV
  rw [HT.sIx_none, HT.sIx_nat, List.length_map, Nat.min_eq_left h, List.drop_zero, Nat.sub_zero, List.map_take]
theorem cut_mid {zs : List Str} {i k : Nat} (h : k ≤ zs.length) (hi : i ≤ k) : cutV (zs.map V.str) (some (i : Int)) (some (k : Int)) = ((zs.drop i).take (k - i)).map V.str := by
  unfold cutV
  rw [HT.sIx_nat, HT.sIx_nat, List.length_map, Nat.min_eq_left h, Nat.min_eq_left (Nat.le_trans hi h), List.map_take, List.map_drop]
theorem cut_off {zs : List Str} {i : Nat} (hi : i ≤ zs.length) : cutV (zs.map V.str) (some (i : Int)) none = (zs.drop i).map V.str := by
  unfold cutV
  rw [HT.sIx_none, HT.sIx_nat, List.length_map, Nat.min_eq_left hi, List.map_drop]
  rw [List.take_of_length_le]
  rw [List.length_drop, List.length_map]
  exact Nat.le_refl _
/-- p holds the items, pn the names, L one number -/
structure Sit (p pn L : Addr) (items : List V) (zs : List Str) (H : Hp) : Prop where
  hp : H p = some (.lst items)
  hn : H pn = some (.lst (zs.map V.str))
  hL : ∃ n : Int, H L = some (.lst [.int n])
  pL : p ≠ L
  nL : pn ≠ L
section
variable {p pn L q : Addr} {items : List V} {zs : List Str} {H H' : Hp} {o : HO}
theorem Sit.new (x : Sit p pn L items zs H) (n : H q = none) : Sit p pn L items zs (upd H q o) := by
  obtain ⟨i, hi⟩ := x.hL
  exact ⟨kn x.hp n, kn x.hn n, ⟨i, kn hi n⟩, x.pL, x.nL⟩
theorem Sit.put (x : Sit p pn L items zs H) (n : Int) : Sit p pn L items zs (upd H L (.lst [.int n])) :=
  ⟨by rw [upd_ne x.pL]; exact x.hp, by rw [upd_ne x.nL]; exact x.hn, ⟨n, upd_same⟩, x.pL, x.nL⟩
theorem Sit.same (x : Sit p pn L items zs H) (s : Same H H') : Sit p pn L items zs H' := by
  obtain ⟨i, hi⟩ := x.hL
  exact ⟨s _ _ x.hp, s _ _ x.hn, ⟨i, s _ _ hi⟩, x.pL, x.nL⟩
theorem Sit.drawn {S : Addr} {sp : List Str} (x : Sit p pn L items zs H) (g : StG L S H H' sp) (h1 : p ≠ S) (h2 : pn ≠ S) : Sit p pn L items zs H' :=
  ⟨g.1 _ _ x.pL h1 x.hp, g.1 _ _ x.nL h2 x.hn, g.2.1, x.pL, x.nL⟩
end
theorem apart {zs : List Str} {s i j : Nat} {x : Str} (hn : ∀ i z, zs[i]? = some z → NameOf ((s + 5 * i) % 26) z) (hi : zs[i]? = some x) (hj : zs[j]? = some x) (li : i < 26) (lj : j < 26) : i = j := by
  have := (hn i x hi).inj (hn j x hj)
  omega
theorem names_sh {zs : List Str} {s : Nat} (hn : ∀ i z, zs[i]? = some z → NameOf ((s + 5 * i) % 26) z) : ∀ z ∈ zs, Sh 6 z := by
  intro z hz
  obtain ⟨i, hi⟩ := List.getElem?_of_mem hz
  exact (hn i z hi).sh (Nat.mod_lt _ (by decide))
theorem mid_mem {zs : List Str} {i k : Nat} {x : Str} (h : x ∈ (zs.drop i).take k) : ∃ j, i ≤ j ∧ j < i + k ∧ zs[j]? = some x := by
  obtain ⟨j, hj⟩ := List.getElem?_of_mem h
  have hl : j < k := by
    have := (List.getElem?_eq_some_iff.mp hj).1
    rw [List.length_take] at this
    omega
  rw [List.getElem?_take_of_lt hl, List.getElem?_drop] at hj
  exact ⟨i + j, by omega, by omega, hj⟩
theorem off_mem {zs : List Str} {i : Nat} {x : Str} (h : x ∈ zs.drop i) : ∃ j, i ≤ j ∧ j < zs.length ∧ zs[j]? = some x := by
  obtain ⟨j, hj⟩ := List.getElem?_of_mem h
  rw [List.getElem?_drop] at hj
  exact ⟨i + j, by omega, (List.getElem?_eq_some_iff.mp hj).1, hj⟩
theorem head_mem {zs : List Str} {k : Nat} {x : Str} (h : x ∈ zs.take k) : ∃ j, j < k ∧ zs[j]? = some x := by
  obtain ⟨j, hj⟩ := List.getElem?_of_mem h
  have hl : j < k := by
    have := (List.getElem?_eq_some_iff.mp hj).1
    rw [List.length_take] at this
    omega
  rw [List.getElem?_take_of_lt hl] at hj
  exact ⟨j, hl, hj⟩
theorem at_names {zs : List Str} {d : Int} (h0 : 0 ≤ d) (h1 : d < zs.length) : ∃ z, zs[d.toNat]? = some z ∧ atI (zs.map V.str) d = some (.str z) := by
  have hd : d.toNat < zs.length := by omega
  refine ⟨zs[d.toNat], List.getElem?_eq_getElem hd, ?_⟩
  have e : atI (zs.map V.str) ((d.toNat : Nat) : Int) = some (.str zs[d.toNat]) := atI_nat (by rw [List.getElem?_map, List.getElem?_eq_getElem hd]; rfl)
  rw [show ((d.toNat : Nat) : Int) = d by omega] at e
  exact e
/-- a row that is drawn, or the rest of one of its parts -/
structure ROk (bd : List Str) (f : Str → Prop) (d sz : Nat) (r : List Part) : Prop where
  bd : ∀ n ∈ bdR r, n ∈ bd
  deep : deepR r ≤ d
  size : sizeR r ≤ sz
  ok : okR f r
theorem ROk.rest {bd : List Str} {f : Str → Prop} {d sz : Nat} {r : List Part} (h : ROk bd f d sz r) {p : Part} (hp : p ∈ r) : ROk bd f d sz (restP p) :=
  ⟨fun n hn => h.bd n (bd_mem p hp (rest_bd hn)), Nat.le_trans (rest_deep p) (Nat.le_trans (deepR.mem p hp) h.deep), Nat.le_trans (rest_size p) (Nat.le_trans (sizeR.mem p hp) h.size), rest_ok (h.ok.mem p hp)⟩
theorem eqv_rows {f : Str → Prop} (hf : ∀ n, f n → PyData.strOk n = true) {r : List Part} (h : okR f r) : PyData.eqv (.tuple (dR r)) (.tuple (dR r)) = true :=
  SeqAt.eqv_refl _ (by simp only [PyData.canLay0]; exact layR hf r h)
end Wk

set_option Elab.async false
set_option linter.all false
set_option maxRecDepth 100000
set_option maxHeartbeats 2000000
/-! A generator expression whose element may call own defs: the generator's frame as a context of its own, each draw keeps it. -/
namespace Wk
open PySem PySem.Spec PyProof.Rows L2 GxR GenW
/-- the context of the generator's frame -/
abbrev gfx (X : Cx) (A' : Around) (s : Shared) (H : Hp) (cenv : Env) (fp : List Addr) (pn : List (Addr × Obj)) : Cx :=
  { X with A := A'.deeper cenv, s_0 := s, H_0 := H, env := cenv, outer := X.stack, stack := cenv :: X.stack, ex := fp, fn := fun _ => false, pn := pn, xe := fun _ _ => False }
theorem over_gen {A : Around} {elt : Expr} {cs : List Comprehension} {scope : Scope} {pos : Pos} {it : Value} {env : Env} :
    A.over (.compLoop (.GeneratorExp elt cs scope pos) 0 it .none env) [] = A.deeper env := by
  first
    | rfl
    | (obtain ⟨hd, d, fr, gs, u⟩ := A; simp [Around.over, Around.deeper, marksOver, frameCount, unitsOf, envsOf, guardsOf, pushEnvs, pushGuards, Code.envs, Code.env?, Code.isFrame, Code.guards, Code.isGuard, Code.weight, Code.frames, Code.isCreation, Code.isCaller, Code.cUnits])
theorem gen_start {X : Cx} {pins pins' : List (Addr × Obj)} {σ : L2.St} {H : Hp} {s s' : Shared} {scope : Scope} {own : List (Str × Nat)} {fp : List Addr} {pn : List (Addr × Obj)} {A' : Around} {code : Value} {cenv : Env} {m : Str → Option Value}
    (I : Inv X pins σ H s) (ok : BlkOk X.N X.env.scope scope own) (hN : X.N.Nodup) (hcell : ∀ y ∈ scope.names, y.2 ≠ .cell)
    (hfp : ∀ b ∈ fp, FpOk X pins H b ∧ b < s.heap.objs.size) (hA : A'.handled = none) (hA2 : A'.frames = some X.stack)
    (hce : cenv = genEnv scope (cloFrom X.env.cells scope.names []) s.heap.objs.size code builtinsNs X.env)
    (os : s'.os = s.os) (hb : AllBare s'.gens) (kp : ∀ b o, s.heap.get? b = some o → s'.heap.get? b = some o) (hn : s'.heap.Ns s.heap.objs.size m)
    (hpn : ∀ p ∈ pn ++ pins', s'.heap.get? p.1 = some p.2 ∧ H p.1 = none ∧ p.1 ≠ s.heap.objs.size ∧ p.1 ∉ frs X.stack ∧ ∀ v, p.2.data ≠ .cell v) :
    Inv (gfx X A' s H cenv fp pn) pins' (wipe σ (own.map (·.2))) H s' := by
  have hfree : ∀ y ∈ scope.names, y.2 = .free → ∃ c, X.env.cells.lookup y.1 = some c := fun y hy e => by
    rcases ok.free y hy e with k | k
    · exact I.ok.has _ (.inl k)
    · exact I.ok.has _ (.inr k)
  have hL : cenv.locals = s.heap.objs.size := by rw [hce]; rfl
  have hcl : cenv.cells = cloFrom X.env.cells scope.names [] := by rw [hce]; rfl
  have hsc : cenv.scope = scope := by rw [hce]; rfl
  have cm : ∀ {y c}, (y, c) ∈ cloFrom X.env.cells scope.names [] → X.env.cells.lookup y = some c ∧ c < s.heap.objs.size := fun {y c} hm => by
    rcases cloFrom_mem hm with hm | ⟨h1, rfl⟩
    · cases hm
    · obtain ⟨c, hc⟩ := hfree _ h1 rfl
      rw [hc]
      obtain ⟨w, z⟩ := I.cell _ _ hc
      exact ⟨rfl, z.lt⟩
  have mem : ∀ {y c}, cenv.cells.lookup y = some c → X.env.cells.lookup y = some c ∧ c < s.heap.objs.size := fun {y c} e => by
    rw [hcl] at e
    exact cm (PySem.mem_of_lookup e)
  have look : ∀ {y}, scope.names.lookup y = some .free → ∃ c, cenv.cells.lookup y = some c ∧ X.env.cells.lookup y = some c := fun {y} hl => by
    have hy : (y, NameKind.free) ∈ scope.names := PySem.mem_of_lookup hl
    obtain ⟨c', e'⟩ := mem_lookup (cloFrom_has (cells := X.env.cells) (acc := []) hy)
    rw [← hcl] at e'
    exact ⟨c', e', (mem e').1⟩
  have okB : (gfx X A' s H cenv fp pn).Ok := by
    refine ⟨I.ok.mod, by show cenv.scope.kind = _; rw [hsc]; exact ok.kind, by show cenv.globals = _; rw [hce]; exact I.ok.glob, by show cenv.builtins = _; rw [hce]; rfl, by show s.heap.objs.size ≤ cenv.locals; rw [hL]; exact Nat.le_refl _,
      fun y z c e1 e2 => I.ok.inj y z c (mem e1).1 (mem e2).1, fun y hy => ?_, fun y c z e => ?_, fun _ => hA, ?_, .inr ⟨rfl, by show cenv.frame = some cenv.locals; rw [hce]; rfl⟩, fun b hb => ⟨?_, fun y c e z => ?_⟩, I.bs, Nat.le_trans I.ok.bsz I.sz, fun b o e hb => ?_, fun b hb z => ?_, I.stack, I.stkFree⟩
    · have hy : scope.names.lookup y = some .cell ∨ scope.names.lookup y = some .free := by rw [← hsc]; exact hy
      rcases hy with hy | hy
      · exact absurd rfl (hcell _ (PySem.mem_of_lookup hy))
      · obtain ⟨c, e1, _⟩ := look hy
        exact ⟨c, e1⟩
    · have z : false = true := z
      cases z
    · show (A'.frames.map (cenv :: ·)) = some (cenv :: X.stack)
      rw [hA2]; rfl
    · show b ≠ cenv.locals
      rw [hL]; exact Nat.ne_of_lt (hfp b hb).2
    · exact (hfp b hb).1.2.2.2.2.1 y c (mem e).1 z
    · rcases (hfp b hb).1.2.2.2.1 with z | z
      · exact I.ok.noex b o e z
      · exact absurd (Nat.lt_of_lt_of_le (Heap.lt_size e) (Nat.le_trans I.ok.bsz z)) (Nat.lt_irrefl _)
    · rcases List.mem_cons.mp (I.stkSub b z) with z | z
      · exact (hfp b hb).1.2.1 z
      · exact (hfp b hb).1.2.2.1 z
  refine ⟨okB, os, hb, Un.kept kp, ⟨m, by show Heap.Ns _ cenv.locals _; rw [hL]; exact hn, fun i y av e1 e2 e3 => ?_⟩, fun y c e => ?_, ?_, fun y c e => I.freeC y c (mem e).1, fun p hp => ?_, I.hok.kept kp, by rw [wipe_length]; exact I.len⟩
  · obtain ⟨e2, hne⟩ := wipe_some e2
    have e3 : Vis scope y := by rw [← hsc]; exact e3
    have no : ∀ k', (k' = NameKind.local ∨ k' = .cell) → scope.names.lookup y ≠ some k' := fun k' hh e => by
      rcases ok.own _ (PySem.mem_of_lookup e) hh with e' | e'
      · obtain ⟨p, hp, hpy⟩ := List.mem_map.mp e'
        have e3 := ok.ix p hp
        have : p.1 = y := hpy
        rw [this] at e3
        exact hne (List.mem_map.mpr ⟨p, hp, nodup_ix hN e3 e1⟩)
      · exact e' (List.mem_of_getElem? e1)
    have hfr : scope.names.lookup y = some .free := by
      rcases e3 with e3 | e3 | e3
      · exact absurd e3 (no _ (.inl rfl))
      · exact absurd e3 (no _ (.inr rfl))
      · exact e3
    obtain ⟨m, hn, hl⟩ := I.loc
    have hvis : Vis X.env.scope y := (ok.free _ (PySem.mem_of_lookup hfr) rfl).elim (fun k => .inr (.inl k)) (fun k => .inr (.inr k))
    obtain ⟨w, r, q⟩ := hl i y av e1 e2 hvis
    refine ⟨w, r, .inr ⟨.inr (by show cenv.scope.names.lookup y = _; rw [hsc]; exact hfr), ?_⟩⟩
    obtain ⟨c, h1, h2⟩ := look hfr
    rcases q with ⟨k, _⟩ | ⟨_, c', e', z⟩
    · have k : X.env.scope.names.lookup y = some .local := k
      rcases ok.free _ (PySem.mem_of_lookup hfr) rfl with k' | k' <;> rw [show X.env.scope.names.lookup y = _ from k'] at k <;> cases k
    · rw [h2] at e'; cases e'
      exact ⟨c, h1, z.keeps kp⟩
  · obtain ⟨w, z⟩ := I.cell y c (mem e).1
    exact ⟨w, z.keeps kp⟩
  · show H cenv.locals = none
    rw [hL]; exact I.hok.fresh (Nat.le_refl _)
  · obtain ⟨p1, p2, p3, p4, p5⟩ := hpn p hp
    exact ⟨p1, p2, by show p.1 ≠ cenv.locals; rw [hL]; exact p3, p4, p5⟩

/-! ### while the generator sleeps -/
/-- the consumer's own objects at Ps may change, all else is kept -/
structure Slp (Ps : List Addr) (s s' : Shared) : Prop where
  os : s'.os = s.os
  bare : AllBare s'.gens
  keep : ∀ b o, b ∉ Ps → s.heap.get? b = some o → s'.heap.get? b = some o
  own : ∀ b ∈ Ps, ∃ o, s'.heap.get? b = some o ∧ ∀ v, o.data ≠ .cell v
def KeptP (Ps : List Addr) (s₀ s : Shared) : Prop := ∀ b ∈ Ps, ∀ o, s₀.heap.get? b = some o → s.heap.get? b = some o
theorem KeptP.refl (Ps : List Addr) (s : Shared) : KeptP Ps s s := fun _ _ _ e => e
theorem KeptP.trans {Ps : List Addr} {a b c : Shared} (x : KeptP Ps a b) (y : KeptP Ps b c) : KeptP Ps a c := fun d hd o e => y d hd o (x d hd o e)
/-- the consumer's objects are none of the generator's -/
structure Far (X : Cx) (fp Ps : List Addr) : Prop where
  old : ∀ b ∈ Ps, X.s_0.heap.objs.size ≤ b
  loc : ∀ b ∈ Ps, b ≠ X.env.locals
  cel : ∀ b ∈ Ps, ∀ x c, X.env.cells.lookup x = some c → c ≠ b
  apn : ∀ b ∈ Ps, ∀ p ∈ X.pn, p.1 ≠ b
  afs : ∀ b ∈ Ps, b ∉ X.fs
  afp : ∀ b ∈ fp, b ∉ Ps
  aex : ∀ b ∈ fp, b ∈ X.ex
  exp : ∀ b ∈ fp, ∀ p ∈ X.pn, p.1 ≠ b
/-- at turn i -/
structure GAt (X : Cx) (fp Ps : List Addr) (tn : Nat → Heap → Prop) (τ : L2.St) (W : Nat → Hp → Prop) (i : Nat) (H : Hp) (s : Shared) : Prop where
  inv : Inv X [] τ H s
  tn : tn i s.heap
  nfp : ∀ b ∈ fp, H b = none
  nps : ∀ b ∈ Ps, H b = none
  obj : ∀ b ∈ Ps, ∃ o, s.heap.get? b = some o ∧ ∀ v, o.data ≠ .cell v
  w : W i H
theorem GAt.slept {X : Cx} {fp Ps : List Addr} {tn : Nat → Heap → Prop} {τ : L2.St} {W : Nat → Hp → Prop} {i : Nat} {H : Hp} {s s' : Shared} (F : Far X fp Ps)
    (hk : ∀ i h h', tn i h → (∀ b ∈ fp, ∀ o, h.get? b = some o → h'.get? b = some o) → tn i h') (G : GAt X fp Ps tn τ W i H s) (z : Slp Ps s s') : GAt X fp Ps tn τ W i H s' := by
  obtain ⟨I, t, nf, np, ob, w⟩ := G
  obtain ⟨z1, z2, z3, z4⟩ := z
  have nt : ∀ b u, H b = some u → b ∉ Ps := fun b u q hb => by rw [np b hb] at q; cases q
  obtain ⟨hh, g, d, tk, o⟩ := s'
  have ho : o = s.os := z1
  subst ho
  refine ⟨?_, hk _ _ _ t fun b hb o e => z3 b o (F.afp b hb) e, nf, np, z4, w⟩
  refine I.step (g' := g) (t' := tk) (d' := d) (ch := Ps) (fun b hb => ⟨.inr (F.old b hb), F.loc b hb, F.cel b hb, fun p hp => F.apn b hb p (by simpa using hp)⟩)
    (fun b ob _ _ hc q _ => z3 b ob hc q) (fun b ob _ _ hc q _ => ⟨ob.slots, z3 b ob hc q⟩) (fun _ _ _ _ n => n) (fun b ob hc q => ⟨ob, z3 b ob hc q⟩)
    (fun _ _ q => q) (fun _ _ _ q => q) (fun b ps q => ⟨#[], by rw [q]; simp⟩) (fun m hm => ?_) (fun b u q => ?_) z2
  · obtain ⟨ob, es, ep, ho, r⟩ := hm
    exact ⟨ob, es, ep, z3 _ ob (fun z => F.loc _ z rfl) ho, r⟩
  · refine (I.hok b u q).stay (fun c v hc y => z3 c v ?_ y) (fun _ y => y) fun _ _ y => y
    rcases hc with y | y
    · rw [y]; exact nt b u q
    · exact nt c _ y
theorem Slp.refl_of {X : Cx} {fp Ps : List Addr} {tn : Nat → Heap → Prop} {τ : L2.St} {W : Nat → Hp → Prop} {i : Nat} {H : Hp} {s : Shared} (G : GAt X fp Ps tn τ W i H s) : Slp Ps s s :=
  ⟨rfl, G.inv.bare, fun _ _ _ e => e, G.obj⟩

/-! ### the generator's own run -/
section
variable {X : Cx} {A' : Around} {elt tg iter : Expr} {scope : Scope} {pos : Pos} {it : Addr} {fp Ps : List Addr} {tn : Nat → Heap → Prop} {J : It} {τ : L2.St} {vs : List Nat} {W : Nat → Hp → Prop} {n₀ : Nat} {val : Nat → V} {g : TG} {te : TE}
def gEnd (X : Cx) (fp Ps : List Addr) (τ : L2.St) (W : Nat → Hp → Prop) (n₀ : Nat) : Nat → Shared → Shared → Prop := fun n s₀ s₁ => n = 0 ∧ (∃ H, GAt X fp Ps (fun _ _ => True) τ W n₀ H s₁) ∧ KeptP Ps s₀ s₁
def gPro (X : Cx) (fp Ps : List Addr) (tn : Nat → Heap → Prop) (τ : L2.St) (W : Nat → Hp → Prop) (n₀ : Nat) (val : Nat → V) : Protocol := fun n s₀ v s₁ kap =>
  RelV (val (n₀ - 1 - n)) v ∧ (∃ H, GAt X fp Ps tn τ W (n₀ - n) H s₁) ∧ KeptP Ps s₀ s₁ ∧ ∀ s₂, Slp Ps s₁ s₂ → kap (.send .none) s₂
/-- what each turn does -/
def Turns (J : It) (W : Nat → Hp → Prop) (n₀ : Nat) (g : TG) (te : TE) (τ : L2.St) (vs : List Nat) (val : Nat → V) : Prop :=
  ∀ i H, i ≤ n₀ → W i H → (i = n₀ ∧ J.stop i H) ∨ (i < n₀ ∧ J.go i H ∧ ∀ x H', J.yld i H x H' → g x τ H' fun σ2 H2 => wipe σ2 vs = τ ∧ te σ2 H2 fun y H3 => y = val i ∧ W (i + 1) H3)
theorem seg_gx (hA : X.A = A'.over (.compLoop (.GeneratorExp elt [⟨tg, iter, [], 0⟩] scope pos) 0 (.ref it) .none X.env) []) (hc : X.calm = true) (hxe : X.xe = fun _ _ => False) (hco : X.env.scope.isCoroutine = false)
    (T : Turn X.prog X.w X.K tg J fp it tn) (pg : PG X tg g) (pe : PE X elt te) (F : Far X fp Ps) (hτ : ∀ σ : L2.St, wipe σ vs = τ → τ.length = σ.length ∧ ∀ (j : Nat) v, τ[j]? = some (some v) → σ[j]? = some (some v)) (turn : Turns J W n₀ g te τ vs val) :
    ∀ (k i : Nat) (s₀ s : Shared) (H : Hp), n₀ - i = k → i ≤ n₀ → GAt X fp Ps tn τ W i H s → KeptP Ps s₀ s →
      Seg (model X.prog X.w) A' (fun n s₀ r s₁ => r = .ok .next ∧ gEnd X fp Ps τ W n₀ n s₀ s₁) (gPro X fp Ps tn τ W n₀ val) (n₀ - i) s₀
        (.compLoop (.GeneratorExp elt [⟨tg, iter, [], 0⟩] scope pos) 0 (.ref it) .none X.env)
        ((model X.prog X.w).den (.compLoop (.GeneratorExp elt [⟨tg, iter, [], 0⟩] scope pos) 0 (.ref it) .none X.env)) [] s := by
  have stat : ∀ {pins : List (Addr × Obj)} {H' : Hp} {s' : Shared}, Inv X pins τ H' s' → (∀ b ∈ fp, H' b = none) → (∀ p ∈ pins, p.1 ∈ Ps) → ∀ b ∈ fp, FpOk X pins H' b := fun {pins H' s'} I' hn hp b hb =>
    ⟨hn b hb, (I'.ok.exf b (F.aex b hb)).1, I'.ok.exfs b (F.aex b hb), .inl (F.aex b hb), fun x c e => (I'.ok.exf b (F.aex b hb)).2 x c e, fun p hp' => by
      rcases List.mem_append.mp hp' with z | z
      · exact F.exp b hb p z
      · exact fun e => F.afp b hb (e ▸ hp p z)⟩
  have pin0 : ∀ {i : Nat} {H : Hp} {s : Shared}, GAt X fp Ps tn τ W i H s → Inv X (pinsAt Ps s.heap) τ H s := fun {i H s} G => G.inv.pins_of fun p hp => by
    obtain ⟨hb, e⟩ := of_pinsAt hp
    obtain ⟨o, e', d⟩ := G.obj p.1 hb
    rw [e] at e'; cases e'
    exact ⟨e, G.nps _ hb, F.loc _ hb, F.afs _ hb, d⟩
  have npsOf : ∀ {i : Nat} {H H' : Hp} {s s' : Shared} {pins : List (Addr × Obj)} {σ' : L2.St}, GAt X fp Ps tn τ W i H s → Inv X (pinsAt Ps s.heap ++ pins) σ' H' s' →
      KeptP Ps s s' ∧ (∀ b ∈ Ps, H' b = none) ∧ ∀ b ∈ Ps, ∃ o, s'.heap.get? b = some o ∧ ∀ v, o.data ≠ .cell v := fun {i H H' s s' pins σ'} G I' => by
    have q : ∀ b ∈ Ps, ∀ o, s.heap.get? b = some o → s'.heap.get? b = some o ∧ H' b = none ∧ ∀ v, o.data ≠ .cell v := fun b hb o e =>
      let z := I'.pin (b, o) (List.mem_append_right _ (List.mem_append_left _ (mem_pinsAt hb e)))
      ⟨z.1, z.2.1, z.2.2.2.2⟩
    refine ⟨fun b hb o e => (q b hb o e).1, fun b hb => ?_, fun b hb => ?_⟩
    · obtain ⟨o, e, _⟩ := G.obj b hb
      exact (q b hb o e).2.1
    · obtain ⟨o, e, _⟩ := G.obj b hb
      exact ⟨o, (q b hb o e).1, (q b hb o e).2.2⟩
  intro k
  induction k with
  | zero =>
    intro i s₀ s H hk hi G kp
    have hin : i = n₀ := by omega
    subst hin
    have stop : J.stop i H := by
      rcases turn i H hi G.w with ⟨_, stop⟩ | ⟨z, _⟩
      · exact stop
      · omega
    show Seg _ A' _ _ _ s₀ _ ((compTurn (.GeneratorExp elt [⟨tg, iter, [], 0⟩] scope pos) 0 (.ref it) .none X.env).onRaise (leaving X.env)) [] s
    rw [compTurn_gen, Sem.onRaise_eq_wrap]
    refine seg_bind_wrap (wpAny_standAt ?_)
    refine seg_bind_wrap ?_
    rw [← hA]
    have I0 := pin0 G
    refine thnF (T.done X rfl rfl rfl hc i (pinsAt Ps s.heap) s τ H (fun _ _ => False) I0 (stat I0 G.nfp fun p hp => (of_pinsAt hp).1) G.tn stop) fun r s6 ⟨hr, I6⟩ => ?_
    subst hr
    have I6' : Inv X (pinsAt Ps s.heap ++ []) τ H s6 := by rw [List.append_nil]; exact I6
    obtain ⟨q1, q2, q3⟩ := npsOf G I6'
    exact seg_end (.ok .next) ⟨rfl, by omega, ⟨H, I6.pins_of (fun p hp => by cases hp), True.intro, G.nfp, q2, q3, G.w⟩, kp.trans q1⟩
  | succ k ih =>
    intro i s₀ s H hk hi G kp
    have hlt : i < n₀ := by omega
    obtain ⟨go, step⟩ : J.go i H ∧ ∀ x H', J.yld i H x H' → g x τ H' fun σ2 H2 => wipe σ2 vs = τ ∧ te σ2 H2 fun y H3 => y = val i ∧ W (i + 1) H3 := by
      rcases turn i H hi G.w with ⟨z, _⟩ | ⟨_, z⟩
      · omega
      · exact z
    obtain ⟨m, hm⟩ : ∃ m, n₀ - i = m + 1 := ⟨n₀ - i - 1, by omega⟩
    rw [hm]
    show Seg _ A' _ _ _ s₀ _ ((compTurn (.GeneratorExp elt [⟨tg, iter, [], 0⟩] scope pos) 0 (.ref it) .none X.env).onRaise (leaving X.env)) [] s
    rw [compTurn_gen, Sem.onRaise_eq_wrap]
    refine seg_bind_wrap (wpAny_standAt ?_)
    refine seg_bind_wrap ?_
    rw [← hA]
    have I0 := pin0 G
    refine thnF (T.item X rfl rfl rfl hc i (pinsAt Ps s.heap) s τ H (fun _ _ => False) I0 (stat I0 G.nfp fun p hp => (of_pinsAt hp).1) G.tn go) fun r s6 ⟨u, hr, h6⟩ => ?_
    subst hr
    refine seg_bind_wrap ?_
    rw [← hA]
    refine thnF h6 fun _ s7 ⟨x, H7, I7, r7, y7, st7, n7⟩ => ?_
    have I7' := I7.pinned (stat I7 n7 fun p hp => (of_pinsAt hp).1) (T.obj _ _ st7)
    refine seg_bind_wrap ?_
    rw [← hA]
    have w8 := pg.run _ s7 _ H7 x u _ I7' r7 (step x H7 y7)
    rw [hxe] at w8
    refine thnF w8 fun _ s8 ⟨σ8, H8, I8, hw8, q8⟩ => ?_
    simp only [List.forIn_nil]
    refine seg_bind_wrap (wpAny_pure ?_)
    simp only [if_true]
    have hy : ∀ v, yieldOut X.env v = yieldValue v := fun v => by simp only [yieldOut, hco, Bool.false_eq_true, if_false]
    simp only [hy]
    rw [Sem.bind_eq_wrap', Sem.bind_eq_wrap', Sem.wrap_wrap, Sem.wrap_wrap]
    refine seg_wrap ?_
    rw [← hA]
    have w9 := pe.run _ s8 σ8 H8 _ I8 q8
    rw [hxe] at w9
    refine thnF w9 fun z s10 ⟨yv, H10, I10, r10, hv, nx⟩ => ?_
    subst hv
    obtain ⟨q1, q2, q3⟩ := npsOf G I10
    obtain ⟨hl, hw⟩ := hτ σ8 hw8
    have pinF : ∀ b ∈ fp, ∀ o, s7.heap.get? b = some o → s10.heap.get? b = some o ∧ H10 b = none := fun b hb o e =>
      let z := I10.pin (b, o) (List.mem_append_right _ (List.mem_append_right _ (mem_pinsAt hb e)))
      ⟨z.1, z.2.1⟩
    have G10 : GAt X fp Ps tn τ W (i + 1) H10 s10 := by
      refine ⟨(I10.pins_of (fun p hp => by cases hp)).weak hl hw, T.keep _ _ _ st7 fun b hb o e => (pinF b hb o e).1, fun b hb => ?_, q2, q3, nx⟩
      obtain ⟨o, e, _⟩ := T.obj _ _ st7 b hb
      exact (pinF b hb o e).2
    have e1 : n₀ - 1 - m = i := by omega
    have e2 : n₀ - m = i + 1 := by omega
    refine seg_at (seg_yield rfl rfl rfl ⟨?_, ?_, kp.trans q1, fun s'' hal => ?_⟩)
    · rw [e1]; exact r10
    · rw [e2]; exact ⟨H10, G10⟩
    · have r := ih (i + 1) s'' s'' H10 (by omega) hlt (G10.slept F T.keep hal) (KeptP.refl _ _)
      rw [show n₀ - (i + 1) = m from by omega] at r
      exact seg_again rfl r
end
end Wk

set_option Elab.async false
set_option linter.all false
set_option maxRecDepth 100000
set_option maxHeartbeats 2000000
namespace Wk
open PySem PySem.Spec PyProof.Rows L2 GxR GenW
section
variable {X : Cx} {A' A : Around} {elt tg iter : Expr} {scope : Scope} {pos : Pos} {it a : Addr} {gn : Nat} {go : Obj} {fp Ps : List Addr} {tn : Nat → Heap → Prop} {J : It} {τ : L2.St} {vs : List Nat} {W : Nat → Hp → Prop} {n₀ : Nat} {val : Nat → V} {g : TG} {te : TE}
theorem seg_gs (hA : X.A = A'.over (.compLoop (.GeneratorExp elt [⟨tg, iter, [], 0⟩] scope pos) 0 (.ref it) .none X.env) []) (hc : X.calm = true) (hxe : X.xe = fun _ _ => False) (hco : X.env.scope.isCoroutine = false)
    (T : Turn X.prog X.w X.K tg J fp it tn) (pg : PG X tg g) (pe : PE X elt te) (F : Far X fp Ps) (hτ : ∀ σ : L2.St, wipe σ vs = τ → τ.length = σ.length ∧ ∀ (j : Nat) v, τ[j]? = some (some v) → σ[j]? = some (some v)) (turn : Turns J W n₀ g te τ vs val)
    {s₀ s : Shared} {H : Hp} (G : GAt X fp Ps tn τ W 0 H s) (kp : KeptP Ps s₀ s) :
    Seg (model X.prog X.w) A' (fun n s₀ r s₁ => r = .ok .next ∧ gEnd X fp Ps τ W n₀ n s₀ s₁) (gPro X fp Ps tn τ W n₀ val) n₀ s₀
      (.compStart (.GeneratorExp elt [⟨tg, iter, [], 0⟩] scope pos) 0 (.ref it) .none X.env)
      ((model X.prog X.w).den (.compStart (.GeneratorExp elt [⟨tg, iter, [], 0⟩] scope pos) 0 (.ref it) .none X.env)) [] s := by
  have loop := seg_gx (iter := iter) (scope := scope) (pos := pos) hA hc hxe hco T pg pe F hτ turn n₀ 0 s₀ s H (Nat.sub_zero _) (Nat.zero_le _) G kp
  rw [Nat.sub_zero] at loop
  show Seg _ A' _ _ _ s₀ _ ((compStart (.GeneratorExp elt [⟨tg, iter, [], 0⟩] scope pos) 0 (.ref it) .none X.env).onRaise (leaving X.env)) [] s
  unfold compStart
  rw [Sem.onRaise_eq_wrap]
  show Seg _ A' _ _ _ s₀ _ ((ask >>= _).wrap _ _ _ _) [] s
  refine seg_bind_wrap (wpAny_askSetting ?_)
  split
  · exact seg_again rfl loop
  · first
      | exact seg_bind_wrap (wpAny_rule (seg_bind_wrap (wpAny_standAt (seg_bind_wrap (T.self _ 0 s _ _ G.tn (seg_again rfl loop))))))
      | (refine seg_bind_wrap (wpAny_rule ?_); show Seg _ A' _ _ _ s₀ _ ((standAt iter.pos >>= _).wrap _ _ _ _) [] s; exact seg_bind_wrap (wpAny_standAt (seg_bind_wrap (T.self _ 0 s _ _ G.tn (seg_again rfl loop)))))
/-- asleep at turn i, ready to be woken -/
structure Awk (X : Cx) (A' : Around) (fp Ps : List Addr) (tn : Nat → Heap → Prop) (τ : L2.St) (W : Nat → Hp → Prop) (n₀ : Nat) (val : Nat → V) (gn : Nat) (i : Nat) (s : Shared) : Prop where
  ate : ∃ H, GAt X fp Ps tn τ W i H s
  rdy : ∃ gs, s.gens[gn]? = some gs ∧ ∀ s', Slp Ps s s' → gs.Goes (model X.prog X.w) A' (fun n s₀ r s₁ => r = .ok .next ∧ gEnd X fp Ps τ W n₀ n s₀ s₁) (gPro X fp Ps tn τ W n₀ val) (n₀ - i) (.send .none) s'
theorem Slp.trans {Ps : List Addr} {s s' s'' : Shared} (x : Slp Ps s s') (y : Slp Ps s' s'') : Slp Ps s s'' := ⟨y.os.trans x.os, y.bare, fun b o hb e => y.keep b o hb (x.keep b o hb e), y.own⟩
/-- the consumer's own doings -/
theorem Awk.slept {i : Nat} {s s' : Shared} (F : Far X fp Ps) (hk : ∀ i h h', tn i h → (∀ b ∈ fp, ∀ o, h.get? b = some o → h'.get? b = some o) → tn i h') (w : Awk X A' fp Ps tn τ W n₀ val gn i s) (z : Slp Ps s s') (hg : s'.gens = s.gens) : Awk X A' fp Ps tn τ W n₀ val gn i s' := by
  obtain ⟨⟨H, G⟩, gs, e, r⟩ := w
  exact ⟨⟨H, G.slept F hk z⟩, gs, by rw [hg]; exact e, fun s'' z' => r s'' (z.trans z')⟩
theorem GAt.top {i : Nat} {H : Hp} {s : Shared} (G : GAt X fp Ps tn τ W i H s) : GAt X fp Ps (fun _ _ => True) τ W i H s := ⟨G.inv, True.intro, G.nfp, G.nps, G.obj, G.w⟩
theorem Awk.item (hA1 : A' = A.in1) (hh : A.handled = none) (hroom : A.depth < recursionLimit) (F : Far X fp Ps) (hk : ∀ i h h', tn i h → (∀ b ∈ fp, ∀ o, h.get? b = some o → h'.get? b = some o) → tn i h') (hpn : (a, go) ∈ X.pn) (hG : ∀ h : Heap, h.get? a = some go → h.IsGen a gn)
    {i : Nat} {s : Shared} {Q : Option Value → Shared → Prop} {E : Value → Shared → Prop} (hi : i < n₀) (w : Awk X A' fp Ps tn τ W n₀ val gn i s)
    (hQ : ∀ v s', RelV (val i) v → Awk X A' fp Ps tn τ W n₀ val gn (i + 1) s' → KeptP Ps s s' → Q (some v) s') : wpAny (model X.prog X.w) A (pyNext (.ref a)) Q E s := by
  subst hA1
  obtain ⟨⟨H, G⟩, gs, hgs, hgo⟩ := w
  obtain ⟨m, hm⟩ : ∃ m, n₀ - i = m + 1 := ⟨n₀ - i - 1, by omega⟩
  rw [hm] at hgo
  have hg := hG _ (G.inv.pin (a, go) (List.mem_append_left _ hpn)).1
  have z0 : Slp Ps s (s.setGen gn .running) := ⟨rfl, G.inv.bare.moved (GenOnlyQ.of (GenOnly.setGen s gn .running) (setGen_self hgs) rfl), fun _ _ _ e => e, G.obj⟩
  have hlt : gn < s.gens.size := by
    rcases Nat.lt_or_ge gn s.gens.size with z | z
    · exact z
    · rw [Array.getElem?_eq_none z] at hgs; cases hgs
  refine wpAny_gsz (Nat.le_refl s.gens.size) ?_
  refine wpAny_pyNext_genexpQ (P := gEnd X fp Ps τ W n₀) hh G.inv.nolimit hroom hg hgs (hgo _ z0) (fun v s₁ gs' hb hv => ?_) (fun s₁ hp h' hk => ?_)
  · obtain ⟨rv, ⟨H1, G1⟩, kp, hkap⟩ := hv
    have e1 : n₀ - 1 - (m + 1 - 1) = i := by omega
    have e2 : n₀ - (m + 1 - 1) = i + 1 := by omega
    rw [e1] at rv
    rw [e2] at G1
    intro hsz
    have hsz1 : s.gens.size ≤ s₁.gens.size := by rw [setGen_size] at hsz; exact hsz
    have hlt1 : gn < s₁.gens.size := Nat.lt_of_lt_of_le hlt hsz1
    have hs1 : (s₁.setGen gn gs').gens[gn]? = some gs' := setGen_self (Array.getElem?_eq_getElem hlt1)
    have z1 : Slp Ps s₁ (s₁.setGen gn gs') := ⟨rfl, G1.inv.bare.moved (GenOnlyQ.of (GenOnly.setGen s₁ gn gs') hs1 hb), fun _ _ _ e => e, G1.obj⟩
    refine hQ v _ rv ⟨⟨H1, G1.slept F hk z1⟩, gs', hs1, fun s'' hal => ?_⟩ kp
    have e : n₀ - (i + 1) = m := by omega
    rw [e]
    exact hkap s'' (z1.trans hal)
  · exact absurd hp.1 (Nat.succ_ne_zero m)
theorem Awk.done (hA1 : A' = A.in1) (hh : A.handled = none) (hroom : A.depth < recursionLimit) (F : Far X fp Ps) (hpn : (a, go) ∈ X.pn) (hG : ∀ h : Heap, h.get? a = some go → h.IsGen a gn)
    {s : Shared} {Q : Option Value → Shared → Prop} {E : Value → Shared → Prop} (w : Awk X A' fp Ps tn τ W n₀ val gn n₀ s)
    (hQ : ∀ s' H, GAt X fp Ps (fun _ _ => True) τ W n₀ H s' → KeptP Ps s s' → Q none s') : wpAny (model X.prog X.w) A (pyNext (.ref a)) Q E s := by
  subst hA1
  obtain ⟨⟨H, G⟩, gs, hgs, hgo⟩ := w
  rw [Nat.sub_self] at hgo
  have hg := hG _ (G.inv.pin (a, go) (List.mem_append_left _ hpn)).1
  have z0 : Slp Ps s (s.setGen gn .running) := ⟨rfl, G.inv.bare.moved (GenOnlyQ.of (GenOnly.setGen s gn .running) (setGen_self hgs) rfl), fun _ _ _ e => e, G.obj⟩
  have hlt : gn < s.gens.size := by
    rcases Nat.lt_or_ge gn s.gens.size with z | z
    · exact z
    · rw [Array.getElem?_eq_none z] at hgs; cases hgs
  refine wpAny_gsz (Nat.le_refl s.gens.size) ?_
  refine wpAny_pyNext_genexpQ (P := gEnd X fp Ps τ W n₀) hh G.inv.nolimit hroom hg hgs (hgo _ z0) (fun v s₁ gs' hb hv => ?_) (fun s₁ hp h' hk => ?_)
  · obtain ⟨_, ⟨H1, G1⟩, _, hkap⟩ := hv
    exact False.elim (hkap s₁ (Slp.refl_of G1))
  · obtain ⟨_, ⟨H1, G1⟩, kp⟩ := hp
    intro hsz
    have hsz1 : s.gens.size ≤ s₁.gens.size := by
      have z : s.gens.size ≤ (s₁.setGen gn .finished).gens.size := hsz
      rw [setGen_size] at z; exact z
    have hs1 : (s₁.setGen gn .finished).gens[gn]? = some .finished := setGen_self (Array.getElem?_eq_getElem (Nat.lt_of_lt_of_le hlt hsz1))
    have b1 : AllBare (s₁.setGen gn .finished).gens := G1.inv.bare.moved (GenOnlyQ.of (GenOnly.setGen s₁ gn .finished) hs1 rfl)
    have z1 : Slp Ps s₁ { s₁.setGen gn .finished with heap := h' } := ⟨rfl, b1, fun b o _ e => hk b o e, fun b hb => by
      obtain ⟨o, e, d⟩ := G1.obj b hb
      exact ⟨o, hk b o e, d⟩⟩
    exact hQ _ H1 (G1.slept F (fun _ _ _ _ _ => True.intro) z1) fun b hb o e => hk b o (kp b hb o e)

/-! ### all, any, sum of it -/
theorem all_gx (hA1 : A' = A.in1.in1) (hh : A.handled = none) (hroom : A.depth < recursionLimit) (F : Far X fp Ps) (hk : ∀ i h h', tn i h → (∀ b ∈ fp, ∀ o, h.get? b = some o → h'.get? b = some o) → tn i h') (hpn : (a, go) ∈ X.pn) (hG : ∀ h : Heap, h.get? a = some go → h.IsGen a gn)
    {tr : Nat → Bool} (hv : ∀ j, val j = .bl (tr j)) {R : Result → Shared → Prop} (h1 : ∀ s' H, (∀ j, j < n₀ → tr j = true) → GAt X fp Ps (fun _ _ => True) τ W n₀ H s' → R (.ok (.ret (.bool true))) s')
    (h2 : ∀ s' H j, j < n₀ → tr j = false → GAt X fp Ps (fun _ _ => True) τ W (j + 1) H s' → R (.ok (.ret (.bool false))) s') :
    ∀ (k i : Nat) (s : Shared), n₀ - i = k → i ≤ n₀ → (∀ j, j < i → tr j = true) → Awk X A' fp Ps tn τ W n₀ val gn i s → codeAny (model X.prog X.w) A (.builtin "all.loop" ⟨[.ref a], []⟩) R s := by
  intro k
  induction k with
  | zero =>
    intro i s hk' hi ha w
    have hin : i = n₀ := by omega
    subst hin
    refine codeAny_builtin PySem.F.entry_all_loop ?_
    rw [Around.under_plainId PySem.F.plain_all_loop _]
    show wpAny _ A.in1 (pyNext (.ref a) >>= _) _ _ s
    refine wpAny_bind (Awk.done (A := A.in1) hA1 hh hroom F hpn hG w fun s' H G _ => ?_)
    exact wpAny_bind (wpAny_rule (wpAny_pure (h1 s' H ha G)))
  | succ k ih =>
    intro i s hk' hi ha w
    have hlt : i < n₀ := by omega
    refine codeAny_builtin PySem.F.entry_all_loop ?_
    rw [Around.under_plainId PySem.F.plain_all_loop _]
    show wpAny _ A.in1 (pyNext (.ref a) >>= _) _ _ s
    refine wpAny_bind (Awk.item (A := A.in1) hA1 hh hroom F hk hpn hG hlt w fun v s' rv w' _ => ?_)
    rw [hv i] at rv
    have e : v = .bool (tr i) := rv
    subst e
    refine wpAny_bind (wpAny_holding (wpAny_truthy_bool ?_))
    refine wpAny_bind (wpAny_letGo ?_)
    cases hb : tr i with
    | true =>
      simp only [if_true]
      refine wpAny_pure ⟨plainId_quiet PySem.F.plain_all_loop _, ih (i + 1) _ (by omega) hlt (fun j hj => ?_) w'⟩
      rcases Nat.lt_or_ge j i with z | z
      · exact ha j z
      · rw [show j = i from by omega]; exact hb
    | false =>
      simp only [Bool.false_eq_true, if_false]
      obtain ⟨⟨H, G⟩, _⟩ := w'
      exact wpAny_bind (wpAny_rule (wpAny_pure (h2 s' H i hlt hb G.top)))
end
end Wk

set_option Elab.async false
set_option linter.all false
set_option maxRecDepth 100000
set_option maxHeartbeats 2000000
namespace Wk
open PySem PySem.Spec PyProof.Rows L2 GxR GenW
section
variable {X : Cx} {A' A : Around} {elt tg iter : Expr} {scope : Scope} {pos : Pos} {it a S : Addr} {gn : Nat} {go : Obj} {fp Ps : List Addr} {tn : Nat → Heap → Prop} {J : It} {τ : L2.St} {vs : List Nat} {W : Nat → Hp → Prop} {n₀ : Nat} {val : Nat → V} {g : TG} {te : TE}
theorem sum_gx (hA1 : A' = A.in1.in1) (hh : A.handled = none) (hroom : A.depth < recursionLimit) (F : Far X fp [S]) (hk : ∀ i h h', tn i h → (∀ b ∈ fp, ∀ o, h.get? b = some o → h'.get? b = some o) → tn i h') (hpn : (a, go) ∈ X.pn) (hG : ∀ h : Heap, h.get? a = some go → h.IsGen a gn)
    {vi : Nat → Int} (hv : ∀ j, val j = .int (vi j)) (hfit : ∀ j, j < n₀ → InLong (vi j) ∧ InLong (preSum vi (j + 1))) {R : Result → Shared → Prop} (h1 : ∀ s' t' H, GAt X fp [S] (fun _ _ => True) τ W n₀ H s' → R (.ok (.ret (.int (preSum vi n₀) t'))) s') :
    ∀ (k i : Nat) (s : Shared) (tA : Tok) (c : Nat), n₀ - i = k → i ≤ n₀ → Awk X A' fp [S] tn τ W n₀ val gn i s → s.heap.get? S = some { cls := .type "list", dict := none, data := .seq #[.int (preSum vi i) tA] c, slots := #[] } →
      codeAny (model X.prog X.w) A (.builtin "sum.loop" ⟨[.ref a, .ref S, rawInt 0, rawInt 0], []⟩) R s := by
  intro k
  induction k with
  | zero =>
    intro i s tA c hk' hi w hS
    have hin : i = n₀ := by omega
    subst hin
    refine codeAny_builtin PySem.F.entry_sum_loop ?_
    rw [Around.under_plainId PySem.F.plain_sum_loop _]
    show wpAny _ A.in1 (seqItems? (.ref S) >>= _) _ _ s
    refine wpAny_bind (wpAny_seqItems hS rfl ?_)
    show wpAny _ A.in1 (tryCatch (pyNext (.ref a)) _ >>= _) _ _ s
    refine wpAny_bind (wpAny_tryCatch (Awk.done (A := A.in1) hA1 hh hroom F hpn hG w fun s' H G _ => ?_))
    exact wpAny_pure (h1 s' tA H G)
  | succ k ih =>
    intro i s tA c hk' hi w hS
    have hlt : i < n₀ := by omega
    refine codeAny_builtin PySem.F.entry_sum_loop ?_
    rw [Around.under_plainId PySem.F.plain_sum_loop _]
    show wpAny _ A.in1 (seqItems? (.ref S) >>= _) _ _ s
    refine wpAny_bind (wpAny_seqItems hS rfl ?_)
    show wpAny _ A.in1 (tryCatch (pyNext (.ref a)) _ >>= _) _ _ s
    refine wpAny_bind (wpAny_tryCatch (Awk.item (A := A.in1) hA1 hh hroom F hk hpn hG hlt w fun v s' rv w' kp => ?_))
    rw [hv i] at rv
    obtain ⟨t, rfl⟩ := _root_.id rv
    have hS' := kp S (List.mem_singleton.mpr rfl) _ hS
    obtain ⟨⟨f1, f2⟩, f3, f4⟩ := hfit i hlt
    have hc : ((decide (-(2 ^ 63) ≤ vi i) && decide (vi i < 2 ^ 63)) && (decide (-(2 ^ 63) ≤ preSum vi i + vi i) && decide (preSum vi i + vi i < 2 ^ 63))) = true := by
      simp only [preSum] at f3 f4
      simp only [Bool.and_eq_true, decide_eq_true_eq]
      exact ⟨⟨f1, f2⟩, f3, f4⟩
    show wpAny _ A.in1 (if (_ : Bool) = true then (mkInt (preSum vi i + vi i) >>= _) else _) _ _ _
    split
    · refine wpAny_bind (wpAny_mkInt ?_)
      show wpAny _ A.in1 (updateSeq S (fun _ => #[.int (preSum vi i + vi i) s'.toks]) >>= _) _ _ _
      refine wpAny_bind ?_
      obtain ⟨⟨H, G⟩, _⟩ := id w'
      refine wpAny_updateSeq hS' rfl (wpAny_pure ⟨plainId_quiet PySem.F.plain_sum_loop _, ih (i + 1) _ s'.toks _ (by omega) hlt (w'.slept F hk ⟨rfl, G.inv.bare, fun b o hb e => ?_, fun b hb => ?_⟩ rfl) (Heap.get?_update_self _ hS' rfl)⟩)
      · exact (Heap.get?_update_other _ _ (fun h : S = b => hb (List.mem_singleton.mpr h.symm))).trans e
      · rw [List.mem_singleton.mp hb]
        exact ⟨_, Heap.get?_update_self _ hS' rfl, fun v q => by cases q⟩
    · rename_i hneg
      exact absurd hc hneg
end
/-- a generator, just made in the state s5; s3: ahead of its frame -/
structure Made (X : Cx) (pins : List (Addr × Obj)) (σ : L2.St) (elt tg iter : Expr) (scope : Scope) (gpos : Pos) (J : It) (H2 : Hp) (s3 : Shared) (fp : List Addr) (it : Addr) (tn : Nat → Heap → Prop) (cenv : Env) (a : Addr) (go : Obj) (gn : Nat) (s5 : Shared) : Prop where
  inv : Inv X pins σ H2 s3
  turn : Turn X.prog X.w X.K tg J fp it tn
  fpo : ∀ b ∈ fp, FpOk X pins H2 b ∧ b < s3.heap.objs.size
  env : ∃ code, cenv = genEnv scope (cloFrom X.env.cells scope.names []) s3.heap.objs.size code builtinsNs X.env
  tn0 : tn 0 s5.heap
  os : s5.os = s3.os
  bare : AllBare s5.gens
  keep : ∀ b o, s3.heap.get? b = some o → s5.heap.get? b = some o
  ns : ∃ m, s5.heap.Ns s3.heap.objs.size m
  gen : s5.gens[gn]? = some (.fresh (.compStart (.GeneratorExp elt [⟨tg, iter, [], 0⟩] scope gpos) 0 (.ref it) .none cenv))
  obj : s5.heap.get? a = some go
  isg : ∀ h : Heap, h.get? a = some go → h.IsGen a gn
  lta : s3.heap.objs.size < a
  noc : ∀ v, go.data ≠ .cell v
section
variable {X : Cx} {pins : List (Addr × Obj)} {σ : L2.St} {H : Hp} {s : Shared} {elt tg iter : Expr} {scope : Scope} {gpos : Pos} {own : List (Str × Nat)} {wi : TI}
theorem gen_mk {c P : Addr} {k : Nat} {Q' : Value → Shared → Prop} {R : It → Hp → Prop} (hr : Room k X.A) (TB : GxR.TabB X.base X.mg c P) (hcode : X.env.code = .ref c) (hco : scope.isCoroutine = false) (hcell : ∀ y ∈ scope.names, y.2 ≠ .cell)
    (hdot : scope.names.lookup (".0" : Str) = some NameKind.local) (ok : BlkOk X.N X.env.scope scope own) (hi : PI X tg iter wi) (hs : ∀ v, genFold iter X.env v = pure v) (I : Inv X pins σ H s)
    (h : wi σ H fun J H1 => TabG H1 P ∧ ∀ H2, Tabbed P H1 H2 → R J H2)
    (hQ : ∀ J H2 s3 fp it tn cenv a go gn s5, R J H2 → Made X pins σ elt tg iter scope gpos J H2 s3 fp it tn cenv a go gn s5 → Q' (.ref a) s5) :
    wpAny (model X.prog X.w) X.A (eval (.GeneratorExp elt [⟨tg, iter, [], 0⟩] scope gpos) X.env) Q' X.xe s := by
  have hfree : ∀ y ∈ scope.names, y.2 = .free → ∃ c, X.env.cells.lookup y.1 = some c := fun y hy e => by
    rcases ok.free y hy e with k | k
    · exact I.ok.has _ (.inl k)
    · exact I.ok.has _ (.inr k)
  refine wpAny_GeneratorExp_make hco (closure_ok hfree) hcell hdot ok.kind (by have := hr.dp; omega) ?_ hs
  refine thn (hi.run pins s σ H _ I h) fun xv s1 hx => thn hx fun itv s2 h2 => ?_
  obtain ⟨it, fp, tn, J, H1, e, I1, T, st1, f1, ⟨ps, hP, ht⟩, q⟩ := h2
  subst e
  have hPs : s2.heap.get? P = some { cls := .none, data := .fields ps } := I1.hok P _ hP
  have cd : PySem.W.CodeHd s2.heap c P := TB.code.keeps fun b u e => I1.bk b u e
  have hcP : cStatics ≠ P := fun e => by
    obtain ⟨_, hns, _⟩ := I1.nolimit
    obtain ⟨o', es, ep, ho, hd, _⟩ := hns
    rw [e, hPs] at ho
    cases ho
    cases hd
  have nfP : ∀ b ∈ fp, b ≠ P := fun b hb z => by
    have q := (f1 b hb).1
    rw [z, hP] at q; cases q
  have sz : ∀ b ∈ fp, b < s2.heap.objs.size := fun b hb => by
    obtain ⟨o, e, _⟩ := T.obj _ _ st1 b hb
    exact Heap.lt_size e
  have cont : ∀ (code : Value) (h3 : Heap) (tk : Nat) (more : Array Value), Heap.ExtBut P s2.heap h3 → s2.heap.objs.size ≤ h3.objs.size → h3.get? P = some { cls := .none, data := .fields (ps ++ more) } → TriplesOk (ps ++ more).toList →
      wpAny (model X.prog X.w) X.A (builtinsFor X.env.globals X.env.builtins) (fun bi s₄ =>
        ∀ h', h'.Ns s₄.heap.objs.size (fun y => if y = ".0" then some (.ref it) else none) → Heap.SameBut s₄.heap.objs.size (s₄.heap.push { cls := .type "frame", data := .dict #[] }) h' →
          Q' (.ref h'.objs.size) { s₄ with
            gens := s₄.gens.push (.fresh (.compStart (.GeneratorExp elt [⟨tg, iter, [], 0⟩] scope gpos) 0 (.ref it) .none (genEnv scope (cloFrom X.env.cells scope.names []) s₄.heap.objs.size code bi X.env))),
            toks := s₄.toks + 1 + 1 + 1,
            heap := h'.push { cls := .type "generator", data := .fields #[.int s₄.gens.size 0, .str "<genexpr>" (s₄.toks + 1), .str (X.env.qual ++ "<genexpr>") (s₄.toks + 1 + 1)] } }) X.xe { s2 with heap := h3, toks := tk } := by
    intro code h3 tk more hx hsz hP3 ht3
    obtain ⟨bm, ob, e1, e2, e3, e4, e5, e6, e7, e8⟩ := TB.bm
    refine wpAny_builtinsFor (m := X.mg) (by rw [I1.ok.glob]; exact (I1.mod.glob.keeps I1.bk).extBut hx TB.gP) e1 e2 (hx _ _ e4 (I1.bk _ _ e5)) e6 e7 e8 ?_
    intro h' hn' hs'
    have I3 : Inv X pins σ (upd H1 P (.tbl (ps ++ more))) ({ s2 with heap := h3, toks := tk } : Shared) :=
      inv_tab (g' := s2.gens) (d' := s2.drawn) (t' := tk) I1 hP (fun b o hb e => hx b o hb e) hP3 I1.bare
    have hsz' : h'.objs.size = h3.objs.size + 1 := by rw [hs'.1, Heap.size_push]
    have keep' : ∀ b o, h3.get? b = some o → h'.get? b = some o := fun b o e => hs'.extBut b o (Nat.ne_of_lt (Heap.lt_size e)) (Heap.get?_push_of_some _ e)
    refine hQ J (upd H1 P (.tbl (ps ++ more))) ({ s2 with heap := h3, toks := tk } : Shared) fp it tn _ _ _ s2.gens.size _ (q _ ⟨⟨ps ++ more, upd_same, ht3⟩, fun b hb => upd_ne hb⟩) ⟨I3, T, fun b hb => ⟨⟨?_, (f1 b hb).2⟩, ?_⟩, ⟨code, rfl⟩, ?_, rfl, ?_, fun b o e => ?_, ⟨_, hn'.push _⟩, Array.getElem?_push_size .., Heap.get?_push_size _ rfl, fun h e => ⟨_, _, _, e, rfl, rfl, rfl⟩, ?_, fun v q => by cases q⟩
    · rw [upd_ne (nfP b hb)]; exact (f1 b hb).1
    · exact Nat.lt_of_lt_of_le (sz b hb) hsz
    · exact T.keep _ _ _ st1 fun b hb o e => Heap.get?_push_of_some _ (keep' b o (hx b o (nfP b hb) e))
    · exact I1.bare.push rfl
    · exact Heap.get?_push_of_some _ (keep' b o e)
    · show h3.objs.size < h'.objs.size
      omega
  refine ⟨I1.nolimit, ?_⟩
  cases hf : codeAmong gpos ps.toList with
  | none =>
    refine wpAny_genexprCodeX hcode (cd.code hPs ht) (cd.tab hPs) hf fun c' h' tk hx hge hlt hco' _ htab' _ => ?_
    obtain ⟨o1, vs, f1, tf, fl, tg, inF, tx, tt, op, _, _, _, _, _, _, _, _, _, htr, _⟩ := hco'
    exact cont _ h' tk _ hx (Nat.le_trans hge (Nat.le_of_lt hlt)) htab'.2 htr
  | some cv =>
    refine wpAny_genexprCode_hit hcode (cd.code hPs ht) hf ?_
    have z := cont cv s2.heap s2.toks #[] (Heap.ExtBut.refl _ _) (Nat.le_refl _) (by rw [Array.append_empty]; exact hPs) (by rw [Array.append_empty]; exact ht)
    exact z
end
end Wk

set_option Elab.async false
set_option linter.all false
set_option maxRecDepth 100000
set_option maxHeartbeats 2000000
namespace Wk
open PySem PySem.Spec PyProof.Rows L2 GxR GenW
section
variable {X : Cx} {pins : List (Addr × Obj)} {σ : L2.St} {H H2 : Hp} {s s3 s5 s6 : Shared} {elt tg iter : Expr} {scope : Scope} {gpos : Pos} {own : List (Str × Nat)} {wi : TI} {A' : Around} {it a : Addr} {gn n₀ : Nat} {go : Obj} {fp Ps : List Addr} {tn : Nat → Heap → Prop}
  {J : It} {W : Nat → Hp → Prop} {val : Nat → V} {g : TG} {te : TE} {cenv : Env}
theorem Made.awk (M : Made X pins σ elt tg iter scope gpos J H2 s3 fp it tn cenv a go gn s5) (hc : X.calm = true) (hN : X.N.Nodup) (ok : BlkOk X.N X.env.scope scope own) (hcell : ∀ y ∈ scope.names, y.2 ≠ .cell) (hco : scope.isCoroutine = false)
    (hA : A'.handled = none) (hA2 : A'.frames = some X.stack) (hpg : PG (gfx X A' s3 H2 cenv fp [(a, go)]) tg g) (hpe : PE (gfx X A' s3 H2 cenv fp [(a, go)]) elt te)
    (turn : Turns J W n₀ g te (wipe σ (own.map (·.2))) (own.map (·.2)) val) (w0 : W 0 H2) (os6 : s6.os = s5.os) (g6 : s6.gens = s5.gens) (k6 : ∀ b o, s5.heap.get? b = some o → s6.heap.get? b = some o)
    (hPs : ∀ b ∈ Ps, s5.heap.objs.size ≤ b ∧ ∃ o, s6.heap.get? b = some o ∧ ∀ v, o.data ≠ .cell v) :
    Far (gfx X A' s3 H2 cenv fp [(a, go)]) fp Ps ∧ Awk (gfx X A' s3 H2 cenv fp [(a, go)]) A' fp Ps tn (wipe σ (own.map (·.2))) W n₀ val gn 0 s6 := by
  obtain ⟨code, hce⟩ := M.env
  obtain ⟨m, hn⟩ := M.ns
  have lt5 : s3.heap.objs.size < s5.heap.objs.size := Nat.lt_trans M.lta (Heap.lt_size M.obj)
  have hL : cenv.locals = s3.heap.objs.size := by rw [hce]; rfl
  have nostk : ∀ b, s3.heap.objs.size ≤ b → b ∉ frs X.stack := fun b hb z => by
    have f := M.inv.fpOk (H' := H2) hb (M.inv.hok.fresh hb)
    rcases List.mem_cons.mp (M.inv.stkSub b z) with y | y
    · exact f.2.1 y
    · exact f.2.2.1 y
  have I6 : Inv (gfx X A' s3 H2 cenv fp [(a, go)]) [] (wipe σ (own.map (·.2))) H2 s6 := by
    refine gen_start M.inv ok hN hcell M.fpo hA hA2 hce (os6.trans M.os) (by rw [g6]; exact M.bare) (fun b o e => k6 b o (M.keep b o e)) (hn.at' fun o e => k6 _ o e) fun p hp => ?_
    have e : p = (a, go) := by simpa using hp
    subst e
    exact ⟨k6 _ _ M.obj, M.inv.hok.fresh (Nat.le_of_lt M.lta), Nat.ne_of_gt M.lta, nostk _ (Nat.le_of_lt M.lta), M.noc⟩
  have I5 : Inv (gfx X A' s3 H2 cenv fp [(a, go)]) [] (wipe σ (own.map (·.2))) H2 s5 := by
    refine gen_start M.inv ok hN hcell M.fpo hA hA2 hce M.os M.bare M.keep hn fun p hp => ?_
    have e : p = (a, go) := by simpa using hp
    subst e
    exact ⟨M.obj, M.inv.hok.fresh (Nat.le_of_lt M.lta), Nat.ne_of_gt M.lta, nostk _ (Nat.le_of_lt M.lta), M.noc⟩
  have ge3 : ∀ b ∈ Ps, s3.heap.objs.size ≤ b := fun b hb => Nat.le_trans (Nat.le_of_lt lt5) (hPs b hb).1
  have F : Far (gfx X A' s3 H2 cenv fp [(a, go)]) fp Ps := by
    refine ⟨ge3, fun b hb => ?_, fun b hb x c e z => ?_, fun b hb p hp => ?_, fun b hb => nostk b (ge3 b hb), fun b hb z => ?_, fun b hb => hb, fun b hb p hp => ?_⟩
    · show b ≠ cenv.locals
      rw [hL]; exact Nat.ne_of_gt (Nat.lt_of_lt_of_le lt5 (hPs b hb).1)
    · obtain ⟨v, q⟩ := I5.cell x c e
      exact absurd (Nat.lt_of_lt_of_le q.lt (by rw [z]; exact (hPs b hb).1)) (Nat.lt_irrefl _)
    · have e : p = (a, go) := by simpa using hp
      subst e
      exact Nat.ne_of_lt (Nat.lt_of_lt_of_le (Heap.lt_size M.obj) (hPs b hb).1)
    · exact absurd (Nat.lt_of_lt_of_le (M.fpo b hb).2 (ge3 b z)) (Nat.lt_irrefl _)
    · have e : p = (a, go) := by simpa using hp
      subst e
      exact Nat.ne_of_gt (Nat.lt_trans (M.fpo b hb).2 M.lta)
  refine ⟨F, ?_⟩
  have G6 : GAt (gfx X A' s3 H2 cenv fp [(a, go)]) fp Ps tn (wipe σ (own.map (·.2))) W 0 H2 s6 :=
    ⟨I6, M.turn.keep _ _ _ M.tn0 fun b _ o e => k6 b o e, fun b hb => (M.fpo b hb).1.1, fun b hb => M.inv.hok.fresh (ge3 b hb), fun b hb => (hPs b hb).2, w0⟩
  refine ⟨⟨H2, G6⟩, .fresh (.compStart (.GeneratorExp elt [⟨tg, iter, [], 0⟩] scope gpos) 0 (.ref it) .none cenv), by rw [g6]; exact M.gen, fun s' z => ⟨rfl, ?_⟩⟩
  have hτ : ∀ σ' : L2.St, wipe σ' (own.map (·.2)) = wipe σ (own.map (·.2)) → (wipe σ (own.map (·.2))).length = σ'.length ∧ ∀ (j : Nat) v, (wipe σ (own.map (·.2)))[j]? = some (some v) → σ'[j]? = some (some v) := fun σ' e => by
    refine ⟨by rw [← e, wipe_length], fun j v h => ?_⟩
    rw [← e] at h
    exact (wipe_some h).1
  rw [Nat.sub_zero]
  exact seg_gs (X := gfx X A' s3 H2 cenv fp [(a, go)]) over_gen.symm hc rfl (by show cenv.scope.isCoroutine = false; rw [hce]; exact hco) M.turn hpg hpe F hτ turn (G6.slept F M.turn.keep z) (KeptP.refl _ _)
/-- back in the def's own context -/
theorem Made.back {tn' : Nat → Heap → Prop} {τ : L2.St} {i : Nat} {s' : Shared} {H' : Hp} (M : Made X pins σ elt tg iter scope gpos J H2 s3 fp it tn cenv a go gn s5) (G : GAt (gfx X A' s3 H2 cenv fp [(a, go)]) fp Ps tn' τ W i H' s') : Inv X pins σ H' s' :=
  M.inv.call' (ch := fp) G.inv.os G.inv.base G.inv.hok G.inv.bare fun b hb => ⟨(M.fpo b hb).1.2.2.2.1, (M.fpo b hb).1.2.1, (M.fpo b hb).1.2.2.2.2.1, (M.fpo b hb).1.2.2.2.2.2⟩
/-- all(elt for tg in iter) -/
def tAllX (P : Addr) (wi : TI) (g : TG) (te : TE) (vs : List Nat) : TE := fun σ H Q => wi σ H fun J H1 => TabG H1 P ∧ ∀ H2, Tabbed P H1 H2 → ∃ (n₀ : Nat) (tr : Nat → Bool) (W : Nat → Hp → Prop), W 0 H2 ∧ Turns J W n₀ g te (wipe σ vs) vs (fun i => .bl (tr i)) ∧
  (∀ H, (∀ j, j < n₀ → tr j = true) → W n₀ H → Q (.bl true) H) ∧ ∀ j H, j < n₀ → tr j = false → W (j + 1) H → Q (.bl false) H
/-- sum(elt for tg in iter) -/
def tSumX (P : Addr) (wi : TI) (g : TG) (te : TE) (vs : List Nat) : TE := fun σ H Q => wi σ H fun J H1 => TabG H1 P ∧ ∀ H2, Tabbed P H1 H2 → ∃ (n₀ : Nat) (vi : Nat → Int) (W : Nat → Hp → Prop), W 0 H2 ∧ Turns J W n₀ g te (wipe σ vs) vs (fun i => .int (vi i)) ∧
  (∀ j, j < n₀ → InLong (vi j) ∧ InLong (preSum vi (j + 1))) ∧ ∀ H, W n₀ H → Q (.int (preSum vi n₀)) H
theorem Room.gen {k : Nat} {A : Around} (r : Room (k + 1) A) (env : Env) : Room k (A.in1.in1.deeper env) :=
  ⟨r.hd, by have := r.dp; show A.depth + 1 + 3 * k + 5 < _; omega, by have := r.un; show A.units + 1 + 1 + 3 + 16 * k + 200 < _; omega⟩
theorem pe_allX {c P : Addr} {p pos : Pos} {k : Nat} (hr : Room k X.A) (hc : X.calm = true) (hN : X.N.Nodup) (hg : Gl X "all") (hm : X.mg "all" = none) (hb : bootBuiltins "all" = some (.builtin "all")) (TB : GxR.TabB X.base X.mg c P) (hcode : X.env.code = .ref c)
    (hco : scope.isCoroutine = false) (hcell : ∀ y ∈ scope.names, y.2 ≠ .cell) (hdot : scope.names.lookup (".0" : Str) = some NameKind.local) (ok : BlkOk X.N X.env.scope scope own) (hi : PI X tg iter wi) (hs : ∀ v, genFold iter X.env v = pure v)
    (hpg : ∀ (s : Shared) (H : Hp) (C : Addr) (code : Value) (cl : List (Str × Addr)) (fp : List Addr) (pn : List (Addr × Obj)), PG (gfx X X.A.in1.in1 s H (genEnv scope cl C code builtinsNs X.env) fp pn) tg g)
    (hpe : ∀ (s : Shared) (H : Hp) (C : Addr) (code : Value) (cl : List (Str × Addr)) (fp : List Addr) (pn : List (Addr × Obj)), PE (gfx X X.A.in1.in1 s H (genEnv scope cl C code builtinsNs X.env) fp pn) elt te)
    (he : starEach [.GeneratorExp elt [⟨tg, iter, [], 0⟩] scope gpos] X.env = (false, eval (.GeneratorExp elt [⟨tg, iter, [], 0⟩] scope gpos) X.env) :: starEach [] X.env := by rfl) :
    PE X (.Call (.Name "all" p) [.GeneratorExp elt [⟨tg, iter, [], 0⟩] scope gpos] [] pos) (tAllX P wi g te (own.map (·.2))) := by
  refine ⟨fun pins s σ H Q I h => ?_⟩
  refine wpAny_Call_Name_kw (ld_blt I hg hm hb (PyProof.Rows.callWith_builtin1 ?_ he (by rfl)))
  rw [he]
  show wpAny _ _ (spliced ((false, eval (.GeneratorExp elt [⟨tg, iter, [], 0⟩] scope gpos) X.env) :: backTo pos (starEach [] X.env))) _ _ s
  refine Calls.spliced_cons (gen_mk hr TB hcode hco hcell hdot ok hi hs I h fun J H2 s3 fp it tn cenv a go gn s5 hR M => ?_)
  obtain ⟨n₀, tr, W, w0, turn, q1, q2⟩ := hR
  obtain ⟨code, hce⟩ := M.env
  have fr : X.A.in1.in1.frames = some X.stack := I.ok.frames
  obtain ⟨F, aw⟩ := M.awk (A' := X.A.in1.in1) (Ps := []) (val := fun i => .bl (tr i)) hc hN ok hcell hco hr.hd fr (by rw [hce]; exact hpg _ _ _ _ _ _ _) (by rw [hce]; exact hpe _ _ _ _ _ _ _) turn w0 rfl rfl (fun _ _ e => e) (fun b hb => by cases hb)
  refine Calls.spliced_nil ?_
  refine call_function_tree PySem.F.kind_all PySem.F.plain_all PySem.F.entry_all (PySem.F.args_all1 _) ?_
  unfold Builtin.«all»
  refine wpAny_bind (m := oneArg "all" _) (wpAny_pure ?_)
  refine wpAny_bind (wpAny_pyIter_gen (M.isg _ M.obj) ?_)
  refine wpAny_pure ⟨plainId_quiet PySem.F.plain_all_loop _, ?_⟩
  refine all_gx (A := X.A) (go := go) rfl hr.hd (by have := hr.dp; omega) F M.turn.keep (List.mem_singleton.mpr rfl) M.isg (fun _ => rfl) (fun s' H' ht G => ?_) (fun s' H' j hj hf G => ?_) n₀ 0 s5 (Nat.sub_zero _) (Nat.zero_le _) (fun j hj => by omega) aw
  · exact ⟨.bl true, H', M.back G, rfl, q1 H' ht G.w⟩
  · exact ⟨.bl false, H', M.back G, rfl, q2 j H' hj hf G.w⟩
theorem pe_sumX {c P : Addr} {p pos : Pos} {k : Nat} (hr : Room k X.A) (hc : X.calm = true) (hN : X.N.Nodup) (hg : Gl X "sum") (hm : X.mg "sum" = none) (hb : bootBuiltins "sum" = some (.builtin "sum")) (TB : GxR.TabB X.base X.mg c P) (hcode : X.env.code = .ref c)
    (hco : scope.isCoroutine = false) (hcell : ∀ y ∈ scope.names, y.2 ≠ .cell) (hdot : scope.names.lookup (".0" : Str) = some NameKind.local) (ok : BlkOk X.N X.env.scope scope own) (hi : PI X tg iter wi) (hs : ∀ v, genFold iter X.env v = pure v)
    (hpg : ∀ (s : Shared) (H : Hp) (C : Addr) (code : Value) (cl : List (Str × Addr)) (fp : List Addr) (pn : List (Addr × Obj)), PG (gfx X X.A.in1.in1 s H (genEnv scope cl C code builtinsNs X.env) fp pn) tg g)
    (hpe : ∀ (s : Shared) (H : Hp) (C : Addr) (code : Value) (cl : List (Str × Addr)) (fp : List Addr) (pn : List (Addr × Obj)), PE (gfx X X.A.in1.in1 s H (genEnv scope cl C code builtinsNs X.env) fp pn) elt te)
    (he : starEach [.GeneratorExp elt [⟨tg, iter, [], 0⟩] scope gpos] X.env = (false, eval (.GeneratorExp elt [⟨tg, iter, [], 0⟩] scope gpos) X.env) :: starEach [] X.env := by rfl) :
    PE X (.Call (.Name "sum" p) [.GeneratorExp elt [⟨tg, iter, [], 0⟩] scope gpos] [] pos) (tSumX P wi g te (own.map (·.2))) := by
  refine ⟨fun pins s σ H Q I h => ?_⟩
  refine wpAny_Call_Name_kw (ld_blt I hg hm hb (PyProof.Rows.callWith_builtin1 ?_ he (by rfl)))
  rw [he]
  show wpAny _ _ (spliced ((false, eval (.GeneratorExp elt [⟨tg, iter, [], 0⟩] scope gpos) X.env) :: backTo pos (starEach [] X.env))) _ _ s
  refine Calls.spliced_cons (gen_mk hr TB hcode hco hcell hdot ok hi hs I h fun J H2 s3 fp it tn cenv a go gn s5 hR M => ?_)
  obtain ⟨n₀, vi, W, w0, turn, hfit, q1⟩ := hR
  obtain ⟨code, hce⟩ := M.env
  have fr : X.A.in1.in1.frames = some X.stack := I.ok.frames
  refine Calls.spliced_nil ?_
  refine call_function_tree PySem.F.kind_sum PySem.F.plain_sum PySem.F.entry_sum (PySem.F.args_sum1 _) ?_
  unfold Builtin.«sum»
  simp only [List.length_cons, List.length_nil]
  rw [if_neg (by decide)]
  refine wpAny_bind (wpAny_of_eq (show Builtin.Builtins.bindParams "sum" ["start"] 0 { } = pure [none] from rfl) ?_)
  refine wpAny_bind (wpAny_pyIter_gen (M.isg _ M.obj) ?_)
  refine wpAny_bind (wpAny_mkInt ?_)
  refine wpAny_bind (wpAny_pure ?_)
  simp only [List.forIn_cons, List.forIn_nil]
  refine wpAny_bind (wpAny_bind (wpAny_bind (wpAny_isInstance (T := "int") (b := false) (typeIs_int _ _ _) PySem.sub_int_str ?_)))
  simp only [Bool.false_eq_true, if_false]
  refine wpAny_pure (wpAny_bind (wpAny_bind (wpAny_isInstance (T := "int") (b := false) (typeIs_int _ _ _) PySem.sub_int_bytes ?_)))
  simp only [Bool.false_eq_true, if_false]
  refine wpAny_pure (wpAny_bind (wpAny_bind (wpAny_isInstance (T := "int") (b := false) (typeIs_int _ _ _) PySem.sub_int_bytearray ?_)))
  simp only [Bool.false_eq_true, if_false]
  refine wpAny_pure (wpAny_pure ?_)
  refine wpAny_bind (wpAny_newObj_type ?_)
  refine wpAny_pure ⟨plainId_quiet PySem.F.plain_sum_loop _, ?_⟩
  obtain ⟨F, aw⟩ := M.awk (A' := X.A.in1.in1) (Ps := [s5.heap.objs.size]) (val := fun i => .int (vi i)) (s6 := { s5 with toks := s5.toks + 1, heap := s5.heap.push { cls := .type "list", dict := none, data := .seq #[.int 0 s5.toks] 0, slots := #[] } }) hc hN ok hcell hco hr.hd fr (by rw [hce]; exact hpg _ _ _ _ _ _ _) (by rw [hce]; exact hpe _ _ _ _ _ _ _) turn w0 rfl rfl
    (fun _ _ e => Heap.get?_push_of_some _ e) (fun b hb => by
      rw [List.mem_singleton.mp hb]
      exact ⟨Nat.le_refl _, _, Heap.get?_push_size _ rfl, fun v q => by cases q⟩)
  exact sum_gx (A := X.A) (go := go) rfl hr.hd (by have := hr.dp; omega) F M.turn.keep (List.mem_singleton.mpr rfl) M.isg (fun _ => rfl) hfit (fun s' t' H' G => ⟨.int _, H', M.back G, ⟨_, rfl⟩, q1 H' G.w⟩) n₀ 0 _ s5.toks 0 (Nat.sub_zero _) (Nat.zero_le _) aw (Heap.get?_push_size _ rfl)
end
end Wk

set_option Elab.async false
set_option linter.all false
set_option maxRecDepth 100000
set_option maxHeartbeats 3200000
/-! Sets of texts: set(list of texts), len, sorted. -/
namespace Wk
open PySem PySem.Spec PyProof.Rows L2
def strOf : Value → Str
  | .str k _ => k
  | _ => ⟨#[]⟩
theorem tail_perm (ep : Nat) (es : Array (Int × Value)) (t : SetTable) (b : Bool) : (Froz.tailTx ep es t b).1.toList.Perm es.toList := by
  unfold Froz.tailTx
  by_cases c : (!b && t.tooFull) = true
  · rw [if_pos c]; exact relayAll_perm _ _ _
  · rw [if_neg c]
theorem tail_ris (ep : Nat) (es : Array (Int × Value)) (t : SetTable) (b : Bool) (r : Ris t.place.toList) : Ris (Froz.tailTx ep es t b).2.2.place.toList := by
  unfold Froz.tailTx
  by_cases c : (!b && t.tooFull) = true
  · rw [if_pos c]; exact relayAll_ris _ _ _
  · rw [if_neg c]; exact r
theorem tail_led (ep : Nat) (es : Array (Int × Value)) (t : SetTable) (b : Bool) : (Froz.tailTx ep es t b).2.2.led = t.led := by
  unfold Froz.tailTx
  by_cases c : (!b && t.tooFull) = true
  · rw [if_pos c]; exact relayAll_led _ _ _
  · rw [if_neg c]
theorem addTx_perm (h : Int) (v : Value) (D : Froz.SD) : (Froz.addTx h v D).1.toList.Perm ((h, v) :: D.1.toList) := by
  have p := layNew_perm D.2.2 D.1 h v
  rw [Array.toList_push] at p
  exact (tail_perm _ _ _ _).trans (p.trans (List.perm_append_singleton (h, v) D.1.toList))
theorem off_ris {t : SetTable} (q : Ris t.place.toList) : Ris (if t.plain = true then { t with plain := false } else t).place.toList := by
  by_cases c : t.plain = true
  · rw [if_pos c]; exact q
  · rw [if_neg c]; exact q
theorem off_led (t : SetTable) : (if t.plain = true then { t with plain := false } else t).led = t.led := by
  by_cases c : t.plain = true
  · rw [if_pos c]
  · rw [if_neg c]
theorem addTx_ris (h : Int) (v : Value) (D : Froz.SD) (r : Ris D.2.2.place.toList) : Ris (Froz.addTx h v D).2.2.place.toList :=
  tail_ris _ _ _ _ (off_ris (layNew_ris D.2.2 D.1 h v r))
theorem addTx_led (h : Int) (v : Value) (D : Froz.SD) : (Froz.addTx h v D).2.2.led = D.2.2.led :=
  (tail_led _ _ _ _).trans ((off_led _).trans (layNew_led D.2.2 D.1 h v))
/-- the set of the texts l at a -/
structure TxR (P : Program) (w : World) (h : Heap) (a : Addr) (l : List Str) : Prop where
  ex : ∃ D : Froz.SD, h.get? a = some (Froz.sObj "set" D) ∧ Froz.TxOk P w D l ∧ Ris D.2.2.place.toList ∧ (w.params.followText "set-order" = true ∨ D.2.2.led = true) ∧ (D.1.toList.map fun e => strOf e.2).Perm l
  nd : l.Nodup
  sz : l.length < scanBound
section
variable {P : Program} {w : World} {A : Around} {E : Value → Shared → Prop} {s : Shared} {a : Addr} {l : List Str}
theorem TxR.at {h h' : Heap} (R : TxR P w h a l) (k : ∀ o, h.get? a = some o → h'.get? a = some o) : TxR P w h' a l := by
  obtain ⟨⟨D, e, r⟩, nd, sz⟩ := R
  exact ⟨⟨D, k _ e, r⟩, nd, sz⟩
theorem tx_fresh {h : Heap} (e : h.get? a = some { cls := .type "set", dict := none, data := .set #[] 0 (.fresh 0 0 (!w.params.followText "set-order")) }) : TxR P w h a [] := by
  refine ⟨⟨(#[], 0, .fresh 0 0 (!w.params.followText "set-order")), e, .nil rfl, List.Pairwise.nil, ?_, .nil⟩, .nil, by decide⟩
  show _ ∨ (!w.params.followText "set-order") = true
  cases w.params.followText "set-order"
  · exact .inr rfl
  · exact .inl rfl
/-- a text laid into it -/
theorem tx_add {k : Str} {u : Tok} {Q : Bool → Shared → Prop} (R : TxR P w s.heap a l) (hb : l.length + 1 < scanBound)
    (hQ : ∀ b h', Heap.SameBut a s.heap h' → TxR P w h' a (if k ∈ l then l else k :: l) → Q b { s with heap := h' }) : wpAny (model P w) A (setAddHashed a (.str k u) (hashStr w k)) Q E s := by
  obtain ⟨⟨D, ho, ok, ri, le, pm⟩, nd, sz⟩ := id R
  by_cases hk : k ∈ l
  · have q := hQ false s.heap (Heap.SameBut.refl a s.heap) (by rw [if_pos hk]; exact R)
    have hkey : (strKind P w).is k (.str k u) = true := Froz.is_str k u
    have hfound : ∃ j, List.findIdx? (fun e => (strKind P w).is k e.2) D.1.toList = some j := by
      cases hr : List.findIdx? (fun e => (strKind P w).is k e.2) D.1.toList with
      | some j => exact ⟨j, rfl⟩
      | none =>
        obtain ⟨e, he, z⟩ := (ok.mem k).mp hk
        have c := List.findIdx?_eq_none_iff.mp hr e he
        rw [z] at c; cases c
    obtain ⟨j, hj⟩ := hfound
    have hbs : D.1.size < scanBound := by rw [ok.sz]; exact sz
    unfold setAddHashed setAddHashedIn
    refine wpAny_holding (wpAny_bind (wpAny_setState_of ho rfl ok.fit ?_))
    dsimp only
    rw [byScan_of rfl hbs ok.el]
    simp only [↓reduceIte]
    unfold setAddByScan
    refine wpAny_bind ?_
    refine wpAny_bind (wpAny_rule ?_)
    refine wpAny_bind (wpAny_setScan_of (knd := strKind P w) (k := k) hkey ho rfl ok.fit ok.el ?_)
    rw [hj]
    dsimp only
    exact wpAny_pure (wpAny_pure q)
  · refine Froz.add_x ho ok hk hb (hQ true _ (Heap.SameBut.update ..) ?_)
    rw [if_neg hk]
    refine ⟨⟨_, Froz.get_upd _ ho rfl, Froz.add_ok u ok, addTx_ris _ _ _ ri, le.imp id fun z => by rw [addTx_led]; exact z, ?_⟩, List.nodup_cons.mpr ⟨hk, nd⟩, hb⟩
    exact ((addTx_perm (hashStr w k) (.str k u) D).map _).trans (List.Perm.cons _ pm)
theorem tx_loop {I : Addr} {fp wr : List Addr} {G : Array GenState → Array GenState → Prop} {n : Nat} {Pv : Nat → Value → Prop} {St : Nat → Shared → Prop} {R : Result → Shared → Prop}
    (W : WalksS P w A.in1 I fp wr G n Pv St) (S : Addr) (hSf : S ∉ fp) (xs : List Str) (hn : n = xs.length) (hval : ∀ i v, Pv i v → ∃ x t, xs[i]? = some x ∧ v = .str x t) (hb : xs.length + 1 < scanBound) :
    ∀ (k i : Nat) (s : Shared) (l : List Str), n - i = k → i ≤ n → St i s → TxR P w s.heap S l → l.length ≤ i → (∀ x, x ∈ l ↔ x ∈ xs.take i) →
      (∀ s' l', Moved (S :: wr) G s s' → TxR P w s'.heap S l' → l'.length ≤ n → (∀ x, x ∈ l' ↔ x ∈ xs) → R (.ok (.ret .none)) s') →
      codeAny (model P w) A (.builtin "set.update.loop" ⟨[.ref S, .ref I], []⟩) R s := by
  have hSw : S ∉ wr := fun h => hSf (W.sub _ h)
  have hsub : ∀ b ∈ wr, b ∈ S :: wr := fun b hb => List.mem_cons_of_mem _ hb
  intro k
  induction k with
  | zero =>
    intro i s l hk hi hst hT hl hm hR
    have hin : i = n := by omega
    subst hin
    refine codeAny_builtin PyProof.Rows.F.entry_set_update_loop ?_
    rw [Around.under_plainId PyProof.Rows.F.plain_set_update_loop _]
    show wpAny _ A.in1 (pyNext (.ref I) >>= _) _ _ s
    refine wpAny_bind (W.done s _ _ hst fun s' mv => ?_)
    show wpAny _ A.in1 (ret Value.none) _ _ s'
    refine wpAny_pure (hR s' l (mv.mono hsub) (hT.at fun o e => mv.heap S o hSw e) hl fun x => ?_)
    rw [hm x, hn, List.take_length]
  | succ k ih =>
    intro i s l hk hi hst hT hl hm hR
    have hlt : i < n := by omega
    refine codeAny_builtin PyProof.Rows.F.entry_set_update_loop ?_
    rw [Around.under_plainId PyProof.Rows.F.plain_set_update_loop _]
    show wpAny _ A.in1 (pyNext (.ref I) >>= _) _ _ s
    refine wpAny_bind (W.item i s _ _ hlt hst fun v s' hP hst' mv => ?_)
    obtain ⟨x, t, hx, rfl⟩ := hval i v hP
    have hT' : TxR P w s'.heap S l := hT.at fun o e => mv.heap S o hSw e
    show wpAny _ A.in1 (holding [Value.str x t] (setAdd S (.str x t)) >>= _) _ _ s'
    refine wpAny_bind (wpAny_holding ?_)
    unfold setAdd
    refine wpAny_holding ?_
    refine wpAny_bind ((strKind P w).pyHash (Froz.is_str x t) ?_)
    refine tx_add (s := { s' with toks := s'.toks + 1 }) hT' (by omega) fun b h' hsb hT2 => ?_
    refine wpAny_pure ⟨plainId_quiet PyProof.Rows.F.plain_set_update_loop _, ih (i + 1) _ _ (by omega) hlt (W.frame _ s' _ _ hst' (Nat.le_add_right _ _) fun b hb o e => ?_) hT2 ?_ (fun y => ?_) fun s'' l' mv' hT'' hl' hm' => ?_⟩
    · rw [hsb.2 b (fun h : b = S => hSf (by rw [← h]; exact hb))]; exact e
    · split
      · omega
      · rw [List.length_cons]; omega
    · have e : xs.take (i + 1) = xs.take i ++ [x] := by
        rw [List.take_succ, hx]; rfl
      rw [e, List.mem_append, List.mem_singleton, ← hm y]
      split
      · rename_i c
        exact ⟨.inl, fun z => z.elim id fun z => z ▸ c⟩
      · rw [List.mem_cons]; exact Or.comm
    · refine hR s'' l' (Moved.trans W.gtrans ((mv.mono hsub).then_heap (Nat.le_add_right _ _) fun b o hb e => ?_) mv') hT'' hl' hm'
      rw [hsb.2 b (fun h : b = S => hb (by rw [h]; exact List.mem_cons_self))]; exact e
end
end Wk

set_option Elab.async false
set_option linter.all false
set_option maxRecDepth 100000
set_option maxHeartbeats 3200000
namespace Wk
open PySem PySem.Spec PyProof.Rows L2
abbrev set0 (w : World) : Obj := { cls := .type "set", dict := none, data := .set #[] 0 (.fresh 0 0 (!w.params.followText "set-order")) }
theorem strs_get : ∀ {vs : List Value} {xs : List Str}, StrsAre vs xs → ∀ (i : Nat) (v : Value), vs[i]? = some v → ∃ x t, xs[i]? = some x ∧ v = .str x t
  | _, _, .nil, i, v, h => by simp at h
  | _, _, .cons x t r, 0, v, h => by
    simp at h
    exact ⟨x, t, rfl, h.symm⟩
  | _, _, .cons x t r, i + 1, v, h => by
    simp at h
    obtain ⟨y, u, h1, h2⟩ := strs_get r i v h
    exact ⟨y, u, by simpa using h1, h2⟩
theorem strs_len : ∀ {vs : List Value} {xs : List Str}, StrsAre vs xs → vs.length = xs.length
  | _, _, .nil => rfl
  | _, _, .cons x t r => by simp [strs_len r]
section
variable {P : Program} {w : World} {A : Around} {E : Value → Shared → Prop} {s : Shared}
/-- set(a list of texts) -/
theorem call_setTx {l : Addr} {items : Array Value} (xs : List Str) {Q : Value → Shared → Prop} (hh : A.handled = none) (hl : s.heap.IsList l items) (hit : StrsAre items.toList xs) (hb : xs.length + 1 < scanBound)
    (h : ∀ h' tk L, TxR P w h' s.heap.objs.size L → (∀ x, x ∈ L ↔ x ∈ xs) → L.length ≤ xs.length → (∀ b o, s.heap.get? b = some o → h'.get? b = some o) → Q (.ref s.heap.objs.size) { s with heap := h', toks := tk }) :
    wpAny (model P w) A (call (.type "set") [.ref l]) Q E s := by
  have hisz : items.size = xs.length := by rw [← strs_len hit, Array.length_toList]
  obtain ⟨c, tl, hmro⟩ := PySem.F.called_set.mro
  have hmade := PySem.F.called_set.made
  have hsub := PySem.F.called_set.sub
  refine wpAny_call (codeAny_of_tree ?_)
  show wpAny _ _ (callAny (.type "set") _) _ _ _
  refine wpAny_pure ⟨Code.quiet_builtin _ (by decide +kernel), codeAny_builtin PySem.F.entry_type_call ?_⟩
  rw [Around.under_plain (weight_type_call_type "set" [.ref l] []) rfl]
  have h1 := PySem.F.called_set.notType
  have h2 := PySem.F.called_set.canCreate
  have hct := PySem.F.typeCall_set_1 (.ref l)
  have hS : (s.heap.push (set0 w)).get? s.heap.objs.size = some (set0 w) := Heap.get?_push_size _ rfl
  repeat (any_goals (first | assumption | wp_step))
  refine codeAny_mono (code_set_led1 (.ref l) (E := E) (Q₁ := fun obj s₁ => obj = .ref s.heap.objs.size ∧ s₁ = { s with heap := s.heap.push (set0 w) }) ⟨rfl, rfl⟩) fun r s₁ hr => ?_
  cases r with
  | error e => exact hr
  | ok fl =>
    cases fl with
    | ret obj =>
      obtain ⟨rfl, rfl⟩ := hr
      have hT : Shared.TypeIs { s with heap := s.heap.push (set0 w) } (.ref s.heap.objs.size) "set" := ⟨_, hS, rfl⟩
      have hli := PySem.F.called_set.init.lookup
      have hbi := PySem.F.called_set.init.bind (.ref s.heap.objs.size)
      repeat (any_goals (first | assumption | wp_step))
      refine codeAny_mono (codeAny_call_builtin (R := wants (fun r s₂ => r = .none ∧ ∃ h' tk L, s₂ = { s with heap := h', toks := tk } ∧ TxR P w h' s.heap.objs.size L ∧ (∀ x, x ∈ L ↔ x ∈ xs) ∧ L.length ≤ xs.length ∧
          (∀ b o, s.heap.get? b = some o → h'.get? b = some o)) E) PySem.F.called_set.init.plain PySem.F.entry_set_init (check_set_init_1 hT ?_)) fun r₂ s₂ hr₂ => ?_
      · obtain ⟨ol, hol, hcl, nl, hdl⟩ := hl
        obtain ⟨ocls, odict, odata, oslots⟩ := ol
        simp only at hcl hdl
        subst hcl; subst hdl
        have hol' : (s.heap.push (set0 w)).get? l = some { cls := .type "list", dict := odict, data := .seq items nl, slots := oslots } := Heap.get?_push_of_some _ hol
        have hsls := PySem.F.sub_list_set
        have hslf := PySem.F.sub_list_frozenset
        have hne : (Value.type "list" == Value.type "dict") = false := by decide
        have hl1 : (s.heap.push (set0 w)).IsList l items := ⟨_, hol', rfl, nl, rfl⟩
        unfold Builtin.«set.__init__» noKeywords Builtin.Frozenset.updateFrom
        generalize hPI : pyIter = PI
        wp_walk
        subst hPI
        refine wpAny_pyIter_list hl1 (wpAny_bind (wpAny_runValue ?_))
        have hlS : l < s.heap.objs.size := Heap.lt_size hol
        have hh3 : A.in1.in1.in1.handled = none := hh
        have hz : (s.heap.push (set0 w)).objs.size = s.heap.objs.size + 1 := Heap.size_push ..
        have hneI : l ≠ (s.heap.push (set0 w)).objs.size := by rw [hz]; exact Nat.ne_of_lt (Nat.lt_succ_of_lt hlS)
        have hSf : s.heap.objs.size ∉ [(s.heap.push (set0 w)).objs.size, l] := fun z => by
          rw [hz] at z
          rcases List.mem_cons.mp z with z | z
          · exact absurd z (Nat.ne_of_lt (Nat.lt_succ_self _))
          · exact absurd (List.mem_singleton.mp z) (Nat.ne_of_gt hlS)
        refine tx_loop ((Walks.list hh3 _ l hneI items).toS) s.heap.objs.size hSf xs hisz (fun i v hv => strs_get hit i v (by rw [Array.getElem?_toList]; exact hv)) hb (items.size - 0) 0 _ [] (by omega) (Nat.zero_le _)
          ⟨⟨_, Heap.get?_push_size _ rfl, rfl, rfl⟩, hl1.push _⟩ (tx_fresh (Heap.get?_push_of_some _ hS)) (Nat.le_refl _) (fun x => by simp) fun s' L hm hT' hL hmem => ?_
        obtain ⟨h', g2, d', tk', os'⟩ := s'
        have eg : g2 = s.gens := hm.gens
        have ed : d' = s.drawn := hm.drawn
        have eo : os' = s.os := hm.os
        subst eg; subst ed; subst eo
        refine wpAny_pure ?_
        show wpAny _ _ (ret Value.none) _ _ _
        refine wpAny_pure ⟨rfl, h', tk', L, rfl, hT', hmem, by rw [← hisz]; exact hL, fun b o e => ?_⟩
        have hbl : b < s.heap.objs.size := Heap.lt_size e
        refine hm.heap b o (fun z => ?_) (Heap.get?_push_of_some _ (Heap.get?_push_of_some _ e))
        rcases List.mem_cons.mp z with z | z
        · exact absurd hbl (by rw [z]; exact Nat.lt_irrefl _)
        · have z := List.mem_singleton.mp z
          exact absurd hbl (by rw [z]; exact Nat.not_lt_of_le (by rw [hz]; exact Nat.le_succ _))
      · cases r₂ with
        | error e => exact hr₂
        | ok fl₂ =>
          cases fl₂ with
          | ret r =>
            obtain ⟨rfl, h', tk, L, rfl, hT', hmem, hL, hk'⟩ := hr₂
            repeat (any_goals (first | assumption | wp_step))
            exact h _ _ _ hT' hmem hL hk'
          | _ => exact hr₂.elim
    | _ => exact hr.elim
/-- sorted of it -/
theorem sorted_tx {a : Addr} {l : List Str} {Q : Value → Shared → Prop} (R : TxR P w s.heap a l) (hh : A.handled = none) (h64 : l.length < 64)
    (hQ : ∀ s' p (out : Array Value) (c : Nat) (ys : List Str), (∀ b o, s.heap.get? b = some o → s'.heap.get? b = some o) → s'.gens = s.gens → s'.os = s.os → s.heap.objs.size ≤ p →
      s'.heap.get? p = some (seqObj "list" out c) → StrsAre out.toList ys → ys.Perm l → sortedS ys = true → Q (.ref p) s') :
    wpAny (model P w) A (call (.builtin "sorted") [.ref a]) Q E s := by
  obtain ⟨⟨D, ho, ok, ri, le, pm⟩, nd, sz⟩ := R
  have str : ∀ e ∈ D.1.toList, ∃ t, e.2 = Value.str (strOf e.2) t := fun e he => by
    obtain ⟨⟨k, h1, _⟩, _⟩ := ok.el e he
    obtain ⟨t, q⟩ := Value.isStrOf_shape (x := k) (v := e.2) h1
    rw [q]
    exact ⟨t, rfl⟩
  refine Calls.call_function_entry PyProof.Rows.kind_sorted PyProof.Rows.plain_sorted PyProof.Rows.entry_sorted (PyProof.Rows.args_sorted1 _) ?_
  unfold Builtin.«sorted»
  refine wpAny_bind (m := checkCount "sorted" 1 1 _) (wpAny_pure ?_)
  refine wpAny_bind (collect_set (A := A.in1) hh ⟨_, ho, rfl, rfl⟩ ok.fit (by rw [ok.sz]; exact sz) ri le fun s1 vs k1 hz g1 o1 pv => ?_)
  have all : ∀ (us : List Value), (∀ v ∈ us, ∃ t, v = Value.str (strOf v) t) → StrsAre us (us.map strOf) := by
    intro us
    induction us with
    | nil => intro _; exact .nil
    | cons v us ih =>
      intro hu
      obtain ⟨t, e⟩ := hu v List.mem_cons_self
      have r := ih fun u hu' => hu u (List.mem_cons_of_mem _ hu')
      rw [e]
      exact .cons _ t r
  have hS : StrsAre vs (vs.map strOf) := all vs fun v hv => by
    obtain ⟨e, he, q⟩ := List.mem_map.mp (pv.mem_iff.mp hv)
    rw [← q]
    exact str e he
  have pl : (vs.map strOf).Perm l := by
    have q := pv.map strOf
    rw [List.map_map] at q
    exact q.trans pm
  have hal : vs.length = l.length := by rw [← pl.length_eq, List.length_map]
  refine wpAny_bind (wpAny_newList ?_ (by rw [hal, sizeLine_eq]; omega))
  have hoL : (s1.heap.push (seqObj "list" vs.toArray 0)).get? s1.heap.objs.size = some (seqObj "list" vs.toArray 0) := Heap.get?_push_size _ rfl
  refine wpAny_bind (wpAny_holding (wpAny_call_entry PyProof.Rows.slot_list_sort ⟨_, hoL, rfl⟩ PyProof.Rows.entry_list_sort
    (list_sort_treeK strKind_oneLt hoL hS.keysOf (fun v₁ v₂ rest e => keyKind_strs (by rw [← e]; exact hS)) (by rw [hal]; exact h64) fun st' hp hs => ⟨_, rfl, ?_⟩)
    (PyProof.Rows.args_list_sort _)))
  obtain ⟨ys, y1, y2, y3⟩ := sorted_out_str hS hp hs
  obtain ⟨e', he'⟩ := PyProof.Rows.sortedHeap_at (vs := vs) (out := (arrOf st').map (·.2)) hoL
  refine wpAny_pure ⟨_, rfl, hQ _ s1.heap.objs.size _ e' ys (fun b u e => ?_) g1 o1 hz he' y1 (y2.trans pl) y3⟩
  have q := k1 b u e
  have hlt := Heap.lt_size q
  show (sortedHeap (s1.heap.push (seqObj "list" vs.toArray 0)) s1.heap.objs.size vs ((arrOf st').map (·.2))).get? b = some u
  rw [sortedHeap_old (Nat.ne_of_lt hlt) (by rw [size_push']; exact Nat.lt_succ_of_lt hlt)]
  exact Heap.get?_push_of_some _ q
end
end Wk

set_option Elab.async false
set_option linter.all false
set_option maxRecDepth 100000
set_option maxHeartbeats 3200000
namespace Wk
open PySem PySem.Spec PyProof.Rows L2
/-- the set of the texts l at a, tracked -/
def TxO (P : Program) (w : World) (a : Addr) (l : List Str) : HO := .ext fun h => TxR P w h a l
section
variable {X : Cx}
theorem txO_new {P : Program} {w : World} {H : Hp} {h : Heap} {a : Addr} {l : List Str} (R : TxR P w h a l) : ObjOk P w H h a (TxO P w a l) := by
  have ⟨⟨D, ho, _⟩, _, _⟩ := R
  exact ⟨R, ⟨_, ho⟩, fun h1 h2 p k => TxR.at p k⟩
theorem txO_get {pins : List (Addr × Obj)} {σ : L2.St} {H : Hp} {s : Shared} {a : Addr} {l : List Str} (I : Inv X pins σ H s) (ha : H a = some (TxO X.prog X.w a l)) : TxR X.prog X.w s.heap a l := (I.hok a _ ha).1
/-- set(a list of texts) -/
def rSetTx (K : PySem.W.Frag) (P : Program) (w : World) : List V → Hp → VK → Prop := fun xs H Q => ∃ (l : Addr) (ts : List Str), xs = [V.ref l] ∧ SqL K H l (ts.map V.str) ∧ ts.length + 1 < scanBound ∧
  ∀ (p : Addr) (L : List Str), H p = none → L.Nodup → (∀ x, x ∈ L ↔ x ∈ ts) → L.length ≤ ts.length → Q (.ref p) (upd H p (TxO P w p L))
theorem cr_setTx (hc : X.calm = true) : CallR X (.type "set") (rSetTx X.K X.prog X.w) := by
  intro pins s σ H xs us Q I r h
  obtain ⟨l, ts, rfl, hl, hb, q⟩ := h
  rw [Vals.ref1 r]
  obtain ⟨its, ri, pl, hz⟩ := I.list hl
  refine call_setTx ts (I.ok.hd hc) pl.isList (by simpa using strsAre_of ri) hb fun h' tk L hT hm hL hk => ?_
  have hn : H s.heap.objs.size = none := I.hok.fresh (Nat.le_refl _)
  exact ⟨.ref _, upd H s.heap.objs.size (TxO X.prog X.w s.heap.objs.size L), I.laid (t' := tk) hk (Nat.le_refl _) (txO_new hT), rfl, q _ L hn hT.nd hm hL⟩
/-- len of it -/
def rLenTx (P : Program) (w : World) : List V → Hp → VK → Prop := fun xs H Q => ∃ (a : Addr) (l : List Str), xs = [V.ref a] ∧ H a = some (TxO P w a l) ∧ Q (.int (l.length : Nat)) H
theorem cr_lenTx : CallR X (.builtin "len") (rLenTx X.prog X.w) := by
  intro pins s σ H xs us Q I r h
  obtain ⟨a, l, rfl, ha, q⟩ := h
  rw [Vals.ref1 r]
  obtain ⟨⟨D, ho, ok, ri, le, pm⟩, nd, sz⟩ := txO_get I ha
  refine call_len_set ho ⟨rfl, rfl, rfl⟩ rfl ok.fit (by
    have hb : scanBound ≤ 2 ^ 62 := by decide
    rw [ok.sz]
    omega) ⟨.int (l.length : Nat), H, I.tok _, ⟨_, by rw [ok.sz]⟩, q⟩
/-- sorted of it -/
def rSortedTx (P : Program) (w : World) : List V → Hp → VK → Prop := fun vs H Q => ∃ (a : Addr) (l : List Str), vs = [V.ref a] ∧ H a = some (TxO P w a l) ∧ l.length < 64 ∧
  ∀ (ys : List Str) (p : Addr), ys.Perm l → sortedS ys = true → H p = none → Q (.ref p) (upd H p (.lst (ys.map V.str)))
theorem vals_of_strs : ∀ {us : List Value} {ys : List Str}, StrsAre us ys → Vals (ys.map V.str) us
  | _, _, .nil => .nil
  | _, _, .cons y t r => .cons ⟨t, rfl⟩ (vals_of_strs r)
theorem cr_sortedTx (hc : X.calm = true) : CallR X (.builtin "sorted") (rSortedTx X.prog X.w) := by
  intro pins s σ H vs us Q I r h
  obtain ⟨a, l, rfl, ha, h64, q⟩ := h
  rw [Vals.ref1 r]
  refine sorted_tx (txO_get I ha) (I.ok.hd hc) h64 fun s' p out c ys k g o hp hg hi hs hm => ?_
  have hlen : (ys.map V.str).length ≤ sizeLine := by rw [List.length_map, hs.length_eq, sizeLine_eq]; omega
  have hn : H p = none := I.hok.fresh hp
  have J : Inv X pins σ (upd H p (.lst (ys.map V.str))) s' := I.call' (s' := s') (ch := []) o (Un.laid k hp hn) (I.hok.laid k hp ⟨hlen, out.toList, c, vals_of_strs hi, hg⟩) (by rw [g]; exact I.bare) (fun _ z => nomatch z)
  exact ⟨.ref p, _, J, rfl, q ys p hs hm hn⟩
end
end Wk

set_option Elab.async false
set_option linter.all false
set_option maxRecDepth 100000
set_option maxHeartbeats 3200000
namespace Wk
open PySem PySem.Spec PyProof.Rows L2
theorem forIn_same {α β : Type} {M : Model} {A : Around} {E : Value → Shared → Prop} {f : α → β → Sem (ForInStep β)} {b : β} {Q : β → Shared → Prop} {s : Shared} :
    ∀ (l : List α), (∀ x ∈ l, ∀ (R : ForInStep β → Shared → Prop), R (.yield b) s → wpAny M A (f x b) R E s) → Q b s → wpAny M A (forIn l b f) Q E s
  | [], _, hQ => by
    rw [List.forIn_nil]
    exact wpAny_pure hQ
  | x :: l, hf, hQ => by
    rw [List.forIn_cons]
    refine wpAny_bind (hf x List.mem_cons_self _ ?_)
    exact forIn_same l (fun y hy => hf y (List.mem_cons_of_mem _ hy)) hQ
section
variable {P : Program} {w : World} {A : Around} {E : Value → Shared → Prop} {s : Shared}
theorem quiet_at {sets : List Addr} {Q : Bool → Shared → Prop} (h : ∀ a ∈ sets, ∃ o es ep t, s.heap.get? a = some o ∧ o.data = .set es ep t ∧ t.fits es.size = true ∧ ∀ e ∈ es.toList, ∃ k u, e.2 = Value.str k u) (hQ : Q true s) :
    wpAny (model P w) A (setsQuiet sets) Q E s := by
  unfold setsQuiet
  refine wpAny_bind (forIn_same sets (fun a ha R hR => ?_) ?_)
  · obtain ⟨o, es, ep, t, ho, hd, hf, hs⟩ := h a ha
    refine wpAny_bind (wpAny_setEntries_of ho hd hf ?_)
    rw [← Array.forIn_toList]
    refine wpAny_bind (forIn_same es.toList (fun e he R' hR' => ?_) ?_)
    · obtain ⟨k, u, e2⟩ := hs e he
      obtain ⟨e1, v⟩ := e
      have e2 : v = Value.str k u := e2
      subst e2
      exact wpAny_pure hR'
    · exact wpAny_pure hR
  · exact wpAny_pure hQ
variable {a : Addr} {l : List Str}
theorem TxR.strs {h : Heap} (R : TxR P w h a l) : ∃ o es ep t, h.get? a = some o ∧ o.data = .set es ep t ∧ t.fits es.size = true ∧ ∀ e ∈ es.toList, ∃ k u, e.2 = Value.str k u := by
  obtain ⟨⟨D, ho, ok, _⟩, _, _⟩ := R
  refine ⟨_, _, _, _, ho, rfl, ok.fit, fun e he => ?_⟩
  obtain ⟨⟨k, h1, _⟩, _⟩ := ok.el e he
  obtain ⟨t, q⟩ := Value.isStrOf_shape (x := k) (v := e.2) h1
  exact ⟨k, t, q⟩
/-- its entries: the texts l in some order, with their hashes -/
def Ents (w : World) (l : List Str) (es : List (Int × Value)) : Prop := (es.map fun e => strOf e.2).Perm l ∧ ∀ e ∈ es, ∃ k u, e.2 = Value.str k u ∧ e.1 = hashStr w k
theorem TxR.ents {h : Heap} (R : TxR P w h a l) : ∃ D : Froz.SD, h.get? a = some (Froz.sObj "set" D) ∧ Froz.TxOk P w D l ∧ Ris D.2.2.place.toList ∧ (w.params.followText "set-order" = true ∨ D.2.2.led = true) ∧ (D.1.toList.map fun e => strOf e.2).Perm l ∧ Ents w l D.1.toList := by
  obtain ⟨⟨D, ho, ok, ri, le, pm⟩, _, _⟩ := R
  refine ⟨D, ho, ok, ri, le, pm, pm, fun e he => ?_⟩
  obtain ⟨⟨k, h1, h2⟩, _⟩ := ok.el e he
  obtain ⟨t, q⟩ := Value.isStrOf_shape (x := k) (v := e.2) h1
  exact ⟨k, t, q, h2⟩
theorem Ents.perm {es es' : List (Int × Value)} (x : Ents w l es) (p : es'.Perm es) : Ents w l es' := ⟨(p.map _).trans x.1, fun e he => x.2 e (p.mem_iff.mp he)⟩
theorem walk_tx {Q : Array (Int × Value) → Shared → Prop} (R : TxR P w s.heap a l) (hQ : ∀ (out : Array (Int × Value)) d, Ents w l out.toList → Q out { s with drawn := d }) : wpAny (model P w) A (setWalk a) Q E s := by
  obtain ⟨D, ho, ok, ri, le, pm, en⟩ := R.ents
  obtain ⟨es, ep, t⟩ := D
  unfold setWalk
  refine wpAny_bind (wpAny_setState_of ho rfl ok.fit ?_)
  dsimp only
  refine wpAny_bind (wpAny_byText ?_)
  by_cases bt : w.params.followText "set-order" = true
  · refine wp_if_pos bt ?_
    exact wpAny_bind (wpAny_askSetting (wpAny_pure (hQ _ s.drawn (en.perm (pick_perm _ _)))))
  · refine wp_if_neg bt ?_
    have hl : t.led = true := le.resolve_left bt
    by_cases dr : (!t.plain && decide (es.size > 1)) = true
    · refine wp_if_pos dr ?_
      refine wpAny_bind (drawOrder_at _ _ _ _ (by rw [Array.length_toList]; exact Nat.le_refl _) fun ys d p => wpAny_pure (hQ _ d (en.perm (by simpa using p))))
    · refine wp_if_neg dr ?_
      refine wpAny_bind (wpAny_of_eq (a := ()) ?_ ?_)
      · show (if (!t.led && decide (es.size > 1)) = true then unsupported "set:maker-not-led" else pure ()) = pure ()
        rw [hl] <;> rfl
      · exact wpAny_pure (hQ es s.drawn en)
end
end Wk

set_option Elab.async false
set_option linter.all false
set_option maxRecDepth 100000
set_option maxHeartbeats 3200000
namespace Wk
open PySem PySem.Spec PyProof.Rows L2
theorem forIn_acc {α β : Type} {M : Model} {A : Around} {E : Value → Shared → Prop} {f : α → β → Sem (ForInStep β)} {b : β} {Q : β → Shared → Prop} (J : List α → Shared → Prop) :
    ∀ (l done : List α) (s : Shared), J done s → (∀ x ∈ l, ∀ done s, J done s → wpAny M A (f x b) (fun st s' => st = .yield b ∧ J (done ++ [x]) s') E s) → (∀ s', J (done ++ l) s' → Q b s') → wpAny M A (forIn l b f) Q E s
  | [], done, s, hJ, _, hQ => by
    rw [List.forIn_nil]
    exact wpAny_pure (hQ s (by rw [List.append_nil]; exact hJ))
  | x :: l, done, s, hJ, hf, hQ => by
    rw [List.forIn_cons]
    refine wpAny_bind (wpAny_mono (hf x List.mem_cons_self done s hJ) (fun st s' ⟨e, hJ'⟩ => ?_) fun _ _ z => z)
    subst e
    exact forIn_acc J l (done ++ [x]) s' hJ' (fun y hy => hf y (List.mem_cons_of_mem _ hy)) fun s'' z => hQ s'' (by rw [List.append_assoc] at z; exact z)
theorem sub_len : ∀ (l D : List Str), l.Nodup → (∀ x ∈ l, x ∈ D) → l.length ≤ D.length
  | [], D, _, _ => Nat.zero_le _
  | x :: l, D, nd, hs => by
    obtain ⟨h1, h2⟩ := List.nodup_cons.mp nd
    have hx : x ∈ D := hs x List.mem_cons_self
    have q := sub_len l (D.erase x) h2 fun y hy => (List.mem_erase_of_ne (show y ≠ x from fun e => h1 (e ▸ hy))).mpr (hs y (List.mem_cons_of_mem _ hy))
    have e := List.length_erase_of_mem hx
    have p := List.length_pos_of_mem hx
    rw [List.length_cons]
    omega
section
variable {P : Program} {w : World} {A : Around} {E : Value → Shared → Prop} {s : Shared} {a b r : Addr} {la lb lr : List Str}
theorem unseen_tx {Q : Array (Int × Value) → Shared → Prop} (Ra : TxR P w s.heap a la) (Rb : TxR P w s.heap b lb) (Rr : TxR P w s.heap r lr)
    (hQ : ∀ (out : Array (Int × Value)) h' d, Heap.SameBut r s.heap h' → TxR P w h' r lr → Ents w la out.toList → Q out { s with heap := h', drawn := d }) : wpAny (model P w) A (setWalkUnseen a [b, r] (some r)) Q E s := by
  obtain ⟨D, ho, ok, ri, le, pm, en⟩ := Ra.ents
  obtain ⟨es, ep, t⟩ := D
  obtain ⟨D2, ho2, ok2, ri2, le2, pm2, en2⟩ := Rr.ents
  obtain ⟨ef, ep2, tf⟩ := D2
  unfold setWalkUnseen
  refine wpAny_bind (wpAny_setState_of ho rfl ok.fit ?_)
  dsimp only
  refine wpAny_bind (wpAny_byText ?_)
  by_cases c1 : (w.params.followText "set-order" || t.led && t.plain || decide (es.size ≤ 1)) = true
  · refine wp_if_pos c1 ?_
    exact walk_tx Ra fun out d e => hQ out s.heap d (Heap.SameBut.refl r s.heap) Rr e
  · refine wp_if_neg c1 ?_
    have bt : ¬ w.params.followText "set-order" = true := fun z => c1 (by rw [z]; rfl)
    have hl : t.led = true := le.resolve_left bt
    have hl2 : tf.led = true := le2.resolve_left bt
    refine wpAny_bind (quiet_at (fun c hc => ?_) ?_)
    · rcases List.mem_cons.mp hc with z | z
      · rw [z]; exact Ra.strs
      · rcases List.mem_cons.mp z with z | z
        · rw [z]; exact Rb.strs
        · rw [List.mem_singleton.mp z]; exact Rr.strs
    · refine wp_if_neg (by simp) ?_
      refine wpAny_bind (wpAny_rule ?_)
      refine wpAny_bind (wpAny_setState_of ho2 rfl ok2.fit ?_)
      dsimp only
      by_cases c2 : (tf.led && !t.led || tf.plain && !t.plain) = true
      · refine wp_if_pos c2 ?_
        refine wpAny_bind (wpAny_storeSet_of ho2 rfl ?_ (fits_of_scanBound (by
          have z : ef.size = lr.length := ok2.sz
          rw [z]; exact Rr.sz)))
        have q := store_at (es' := ef) (t' := { tf with led := tf.led && t.led, plain := tf.plain && t.plain }) ho2 rfl
        refine wpAny_pure (hQ es _ s.drawn (Heap.SameBut.update ..) ⟨⟨(ef, ep2 + 1, { tf with led := tf.led && t.led, plain := tf.plain && t.plain }), q, ⟨ok2.el, ok2.mem, ok2.sz, ok2.fit⟩, ri2, .inr ?_, pm2⟩, Rr.nd, Rr.sz⟩ en)
        show (tf.led && t.led) = true
        rw [hl, hl2]; rfl
      · refine wp_if_neg c2 ?_
        exact wpAny_pure (hQ es s.heap s.drawn (Heap.SameBut.refl r s.heap) Rr en)
/-- the entries of the one that stand in the other, laid into r -/
theorem inter_loop {f : Int × Value → PUnit → Sem (ForInStep PUnit)} {es : List (Int × Value)} {Q : PUnit → Shared → Prop} (en : Ents w la es) (sz : la.length + 1 < scanBound) (Rr : TxR P w s.heap r [])
    (hf : ∀ (e1 : Int) (k : Str) (u : Tok) (s' : Shared) (L : List Str) (R : ForInStep PUnit → Shared → Prop), e1 = hashStr w k → (∃ h', s' = { s with heap := h' } ∧ Heap.SameBut r s.heap h') → TxR P w s'.heap r L → L.length + 1 < scanBound →
      (∀ h', Heap.SameBut r s'.heap h' → TxR P w h' r (if k ∈ lb then (if k ∈ L then L else k :: L) else L) → R (.yield ⟨⟩) { s' with heap := h' }) → wpAny (model P w) A (f (e1, .str k u) ⟨⟩) R E s')
    (hQ : ∀ h' L, Heap.SameBut r s.heap h' → TxR P w h' r L → (∀ x, x ∈ L ↔ x ∈ la ∧ x ∈ lb) → Q ⟨⟩ { s with heap := h' }) : wpAny (model P w) A (forIn es ⟨⟩ f) Q E s := by
  have hlen : es.length = la.length := by rw [← en.1.length_eq, List.length_map]
  refine forIn_acc (fun done s' => ∃ h' L, s' = { s with heap := h' } ∧ Heap.SameBut r s.heap h' ∧ TxR P w h' r L ∧ (∀ x, x ∈ L ↔ x ∈ done.map (fun e => strOf e.2) ∧ x ∈ lb) ∧ ∀ x ∈ L, x ∈ la) es [] s ⟨s.heap, [], rfl, Heap.SameBut.refl r s.heap, Rr, fun x => by simp, fun x hx => by cases hx⟩ ?_ ?_
  · rintro ⟨e1, v⟩ he done s' ⟨h', L, rfl, sb, RL, hm, hs⟩
    obtain ⟨k, u, h1, h2⟩ := en.2 _ he
    have h1 : v = .str k u := h1
    have h2 : e1 = hashStr w k := h2
    subst h1
    have kla : k ∈ la := en.1.mem_iff.mp (List.mem_map.mpr ⟨_, he, rfl⟩)
    have hL : L.length ≤ la.length := sub_len L la RL.nd hs
    by_cases hfull : L.length + 1 < scanBound
    · refine hf e1 k u _ L _ h2 ⟨h', rfl, sb⟩ RL hfull fun h'' sb' RL' => ⟨rfl, h'', _, rfl, sb.trans sb', RL', fun x => ?_, fun x hx => ?_⟩
      · rw [List.map_append, List.mem_append]
        show _ ↔ (x ∈ done.map _ ∨ x ∈ [k]) ∧ x ∈ lb
        rw [List.mem_singleton]
        by_cases c1 : k ∈ lb
        · rw [if_pos c1]
          by_cases c2 : k ∈ L
          · rw [if_pos c2, hm x]
            refine ⟨fun z => ⟨.inl z.1, z.2⟩, fun z => ⟨z.1.elim id fun e => ?_, z.2⟩⟩
            rw [e]; exact ((hm k).mp c2).1
          · rw [if_neg c2, List.mem_cons, hm x]
            refine ⟨fun z => z.elim (fun e => ⟨.inr e, by rw [e]; exact c1⟩) fun z => ⟨.inl z.1, z.2⟩, fun z => z.1.elim (fun y => .inr ⟨y, z.2⟩) .inl⟩
        · rw [if_neg c1, hm x]
          refine ⟨fun z => ⟨.inl z.1, z.2⟩, fun z => ⟨z.1.elim id fun e => absurd (by rw [← e]; exact z.2) c1, z.2⟩⟩
      · have key : x ∈ L ∨ x = k := by
          by_cases c1 : k ∈ lb
          · rw [if_pos c1] at hx
            by_cases c2 : k ∈ L
            · rw [if_pos c2] at hx; exact .inl hx
            · rw [if_neg c2] at hx
              exact (List.mem_cons.mp hx).elim .inr .inl
          · rw [if_neg c1] at hx; exact .inl hx
        rcases key with z | z
        · exact hs x z
        · rw [z]; exact kla
    · exact absurd hL (by omega)
  · rintro s' ⟨h', L, rfl, sb, RL, hm, _⟩
    refine hQ h' L sb RL fun x => ?_
    rw [hm x, List.nil_append, en.1.mem_iff]
end
end Wk

set_option Elab.async false
set_option linter.all false
set_option maxRecDepth 100000
set_option maxHeartbeats 3200000
namespace Wk
open PySem PySem.Spec PyProof.Rows L2
theorem entry_set_and : entryFor table "set.__and__" = some Builtin.«frozenset.__and__» :=
  entryFor_alias (id' := "frozenset.__and__") (by kernel_rfl) rfl (by decide +kernel) (by kernel_rfl)
section
variable {P : Program} {w : World} {A : Around} {E : Value → Shared → Prop} {s : Shared} {a b r : Addr} {la lb lr : List Str}
theorem TxR.typeIs (R : TxR P w s.heap a la) : s.TypeIs (.ref a) "set" := by
  obtain ⟨⟨D, ho, _⟩, _, _⟩ := R
  exact ⟨_, ho, rfl⟩
/-- the one is walked, the other asked -/
theorem inter_core {id : String} {ax wk : Addr} {lx ly : List Str} {Q : Unit → Shared → Prop} (Rx : TxR P w s.heap ax lx) (Ry : TxR P w s.heap wk ly) (Rr : TxR P w s.heap r []) (nx : ax ≠ r) (ny : wk ≠ r) (sy : ly.length + 1 < scanBound)
    (hQ : ∀ h' d L, Heap.SameBut r s.heap h' → TxR P w h' r L → (∀ x, x ∈ L ↔ x ∈ ly ∧ x ∈ lx) → Q () { s with heap := h', drawn := d }) :
    wpAny (model P w) A (do
      let was ← setEpoch wk
      let out ← setWalkUnseen wk [ax, r] (some r)
      forIn out PUnit.unit fun x __s => do
        holding [x.snd] do
          let f ← setFind ax x.snd x.fst
          if f.isSome = true then do
            let _ ← setAddHashed r x.snd x.fst
            pure ()
          else pure ()
        Builtin.Frozenset.unchanged id wk was
        pure (ForInStep.yield PUnit.unit)
      pure ()) Q E s := by
  obtain ⟨Dy, hoy, oky, _⟩ := Ry.ents
  refine wpAny_bind (wpAny_setEpoch_of hoy rfl oky.fit ?_)
  refine wpAny_bind (unseen_tx Ry Rx Rr fun out h2 d sb2 Rr2 en => ?_)
  refine wpAny_bind ?_
  rw [← Array.forIn_toList]
  refine inter_loop (s := { s with heap := h2, drawn := d }) (lb := lx) en sy Rr2 (fun e1 k u s' L R e ⟨h', es', sb'⟩ RL hL hR => ?_) fun h' L sb' RL hm => wpAny_pure (hQ h' d L (sb2.trans sb') RL hm)
  subst e
  have kx : TxR P w s'.heap ax lx := Rx.at fun o e => by
    rw [es']
    exact (sb'.2 ax nx).trans ((sb2.2 ax nx).trans e)
  obtain ⟨⟨Dx, hox, okx, _⟩, _, sx⟩ := _root_.id kx
  have hkey : (strKind P w).is k (.str k u) = true := Froz.is_str k u
  have epo : ∀ (h3 : Heap), Heap.SameBut r s'.heap h3 → ∀ (R' : Unit → Shared → Prop), R' () { s' with heap := h3 } → wpAny (model P w) A (Builtin.Frozenset.unchanged id wk Dy.2.1) R' E { s' with heap := h3 } := fun h3 sb3 R' hR' => by
    unfold Builtin.Frozenset.unchanged
    have q : h3.get? wk = some (Froz.sObj "set" Dy) := by
      rw [sb3.2 wk ny, es']
      exact (sb'.2 wk ny).trans ((sb2.2 wk ny).trans hoy)
    refine wpAny_bind (wpAny_setEpoch_of (s := { s' with heap := h3 }) q rfl oky.fit ?_)
    exact wp_if_neg (by simp) (wpAny_pure hR')
  refine wpAny_bind (wpAny_holding ?_)
  refine wpAny_bind (PySem.W.setFind_any (knd := strKind P w) (S := fun k => decide (k ∈ lx)) hkey rfl hox rfl okx.el (fun k => by rw [decide_eq_true_eq]; exact okx.mem k) (by rw [okx.sz]; exact sx) okx.fit fun res hres => ?_)
  by_cases c : k ∈ lx
  · rw [if_pos c] at hR
    refine wp_if_pos (by rw [hres]; exact decide_eq_true c) ?_
    refine wpAny_bind (tx_add RL hL fun bb h3 sb3 R3 => ?_)
    refine wpAny_pure (wpAny_bind (epo h3 sb3 _ (wpAny_pure (hR h3 sb3 R3))))
  · rw [if_neg c] at hR
    refine wp_if_neg (by rw [hres]; simpa using c) ?_
    exact wpAny_pure (wpAny_bind (epo s'.heap (Heap.SameBut.refl r s'.heap) _ (wpAny_pure (hR s'.heap (Heap.SameBut.refl r s'.heap) RL))))
theorem inter_at {id : String} {Q : Value → Shared → Prop} (hne : a ≠ b) (Ra : TxR P w s.heap a la) (Rb : TxR P w s.heap b lb) (sa : la.length + 1 < scanBound) (sb : lb.length + 1 < scanBound)
    (hQ : ∀ h' d L, (∀ c o, s.heap.get? c = some o → h'.get? c = some o) → TxR P w h' s.heap.objs.size L → (∀ x, x ∈ L ↔ x ∈ la ∧ x ∈ lb) → Q (.ref s.heap.objs.size) { s with heap := h', drawn := d }) :
    wpAny (model P w) A (Builtin.Frozenset.intersection id a (.ref b)) Q E s := by
  have hba : (Value.ref b == Value.ref a) = false := by
    first
      | exact beq_eq_false_iff_ne.mpr (fun e => hne (by cases e; rfl))
      | simp [Ne.symm hne]
      | (cases hq : (Value.ref b == Value.ref a) with
         | false => rfl
         | true => exact absurd (by simpa using hq) hne)
  unfold Builtin.Frozenset.intersection
  refine wp_if_neg (by rw [hba]; exact Bool.false_ne_true) ?_
  unfold Builtin.Frozenset.baseOf
  refine wpAny_bind (wpAny_bind (wpAny_isInstance (T := "set") (b := true) Ra.typeIs sub_set_self (wpAny_pure ?_)))
  simp only [if_true]
  unfold newSet
  refine wpAny_bind (wpAny_bind (wpAny_byText ?_))
  simp only [newObj]
  refine wpAny_bind (wpAny_alloc (wpAny_pure ?_))
  have hn : (s.heap.push (set0 w)).get? s.heap.objs.size = some (set0 w) := Heap.get?_push_size _ rfl
  have kp : ∀ c o, s.heap.get? c = some o → (s.heap.push (set0 w)).get? c = some o := fun c o e => Heap.get?_push_of_some _ e
  have Rr : TxR P w (s.heap.push (set0 w)) s.heap.objs.size [] := tx_fresh hn
  have Ra1 : TxR P w (s.heap.push (set0 w)) a la := Ra.at fun o e => kp _ _ e
  have Rb1 : TxR P w (s.heap.push (set0 w)) b lb := Rb.at fun o e => kp _ _ e
  have lta : a < s.heap.objs.size := by obtain ⟨⟨D, ho, _⟩, _, _⟩ := Ra; exact Heap.lt_size ho
  have ltb : b < s.heap.objs.size := by obtain ⟨⟨D, ho, _⟩, _, _⟩ := Rb; exact Heap.lt_size ho
  generalize hh1 : s.heap.push (set0 w) = h1 at hn kp Rr Ra1 Rb1
  generalize hr : s.heap.objs.size = r at hn kp Rr Ra1 Rb1 lta ltb hQ
  unfold Builtin.Frozenset.addrOf
  refine wpAny_bind (wpAny_pure ?_)
  refine wpAny_bind (wpAny_holding ?_)
  unfold Builtin.Frozenset.isAnySet
  refine wpAny_bind (wpAny_bind (wpAny_isInstance (T := "set") (b := true) (TxR.typeIs (s := { s with heap := h1 }) Rb1) sub_set_self ?_))
  refine wpAny_pure ?_
  simp only [if_true]
  refine wpAny_bind (wpAny_pure ?_)
  obtain ⟨Da, hoa, oka, _⟩ := Ra1.ents
  obtain ⟨Db, hob, okb, _⟩ := Rb1.ents
  unfold Builtin.Frozenset.sizeOf
  refine wpAny_bind (wpAny_bind (wpAny_setEntries_of (s := { s with heap := h1 }) hob rfl okb.fit (wpAny_pure ?_)))
  refine wpAny_bind (wpAny_bind (wpAny_setEntries_of (s := { s with heap := h1 }) hoa rfl oka.fit (wpAny_pure ?_)))
  have fin : ∀ h' d L, Heap.SameBut r h1 h' → TxR P w h' r L → (∀ x, x ∈ L ↔ x ∈ la ∧ x ∈ lb) → wpAny (model P w) A (pure (Value.ref r)) Q E { s with heap := h', drawn := d } := fun h' d L sb' RL hm =>
    wpAny_pure (hQ h' d L (fun c o e => (sb'.2 c (fun z => by
      have := Heap.lt_size e
      rw [z, hr] at this
      exact Nat.lt_irrefl _ this)).trans (kp c o e)) RL hm)
  by_cases c : Db.1.size > Da.1.size
  · simp only [if_pos c]
    exact inter_core (s := { s with heap := h1 }) Rb1 Ra1 Rr (Nat.ne_of_lt ltb) (Nat.ne_of_lt lta) sa fun h' d L sb' RL hm => fin h' d L sb' RL hm
  · simp only [if_neg c]
    exact inter_core (s := { s with heap := h1 }) Ra1 Rb1 Rr (Nat.ne_of_lt lta) (Nat.ne_of_lt ltb) sb fun h' d L sb' RL hm => fin h' d L sb' RL fun x => (hm x).trans And.comm
theorem and_tx {Q : Value → Shared → Prop} (hne : a ≠ b) (Ra : TxR P w s.heap a la) (Rb : TxR P w s.heap b lb) (sa : la.length + 1 < scanBound) (sb : lb.length + 1 < scanBound)
    (hQ : ∀ h' d L, (∀ c o, s.heap.get? c = some o → h'.get? c = some o) → TxR P w h' s.heap.objs.size L → (∀ x, x ∈ L ↔ x ∈ la ∧ x ∈ lb) → Q (.ref s.heap.objs.size) { s with heap := h', drawn := d }) :
    wpAny (model P w) A (binaryOp .BitAnd (.ref a) (.ref b)) Q E s := by
  refine wpAny_binaryOp_same Ra.typeIs Rb.typeIs PySem.F.fills_set_and PySem.F.slot_set_and ?_
  refine wpAny_call_entry PySem.F.slot_set_and Ra.typeIs entry_set_and ?_ (PySem.F.args_set_and_2 _ _)
  unfold Builtin.«frozenset.__and__»
  wp_delta
  refine wpAny_bind (wpAny_of_eq (show Builtin.Frozenset.slot1 "__and__" ⟨[.ref a, .ref b], []⟩ = pure (Value.ref a, Value.ref b) from rfl) ?_)
  dsimp only
  rw [if_neg Bool.false_ne_true]
  dsimp only
  have any : ∀ {c : Addr} {lc : List Str} {Q' : Bool → Shared → Prop}, TxR P w s.heap c lc → Q' true s → wpAny (model P w) A.in1 (Builtin.Frozenset.isAnySet (.ref c)) Q' E s := fun {c lc Q'} R q => by
    unfold Builtin.Frozenset.isAnySet
    exact wpAny_bind (wpAny_isInstance (T := "set") (b := true) R.typeIs sub_set_self (wpAny_pure q))
  refine wpAny_bind (wpAny_bind (any Ra (any Rb ?_)))
  refine wp_if_neg (by simp) ?_
  refine wpAny_bind (wpAny_pure ?_)
  refine wpAny_bind (inter_at hne Ra Rb sa sb fun h' d L hk R hm => ?_)
  exact wpAny_pure ⟨_, rfl, (fun z => by cases z), hQ h' d L hk R hm⟩
end
/-- the intersection of two sets of texts -/
def rAndTx (P : Program) (w : World) : V → V → Hp → VK → Prop := fun x y H Q => ∃ (a b : Addr) (la lb : List Str), x = .ref a ∧ y = .ref b ∧ a ≠ b ∧ H a = some (TxO P w a la) ∧ H b = some (TxO P w b lb) ∧ la.length + 1 < scanBound ∧ lb.length + 1 < scanBound ∧
  ∀ (p : Addr) (L : List Str), H p = none → L.Nodup → (∀ x, x ∈ L ↔ x ∈ la ∧ x ∈ lb) → Q (.ref p) (upd H p (TxO P w p L))
theorem op_andTx {X : Cx} : OpR X (binaryOp .BitAnd) (rAndTx X.prog X.w) := by
  intro pins s σ H x y v u Q I rx ry h
  obtain ⟨a, b, la, lb, rfl, rfl, hne, ha, hb, sa, sb, q⟩ := h
  cases rx
  cases ry
  refine and_tx hne (txO_get I ha) (txO_get I hb) sa sb fun h' d L hk R hm => ?_
  have hn : H s.heap.objs.size = none := I.hok.fresh (Nat.le_refl _)
  have J : Inv X pins σ (upd H s.heap.objs.size (TxO X.prog X.w s.heap.objs.size L)) { s with heap := h', drawn := d } :=
    I.call' (ch := []) rfl (Un.laid hk (Nat.le_refl _) hn) (I.hok.laid hk (Nat.le_refl _) (txO_new R)) I.bare (fun _ z => nomatch z)
  exact ⟨.ref _, _, J, rfl, q _ L hn R.nd hm⟩
end Wk

set_option Elab.async false
set_option linter.all false
set_option maxRecDepth 100000
set_option maxHeartbeats 2000000
/-! How large and how deep rows are, rests and callings: promises. -/
namespace Wk
open PySem PySem.Spec PyProof.Rows L2 GxR
theorem size_rest : ∀ p : Part, sizeP p = 1 + sizeR (restP p)
  | .say _ => rfl
  | .again r => by show sizeR r + 1 = 1 + sizeR r; omega
  | .oth _ _ r => by show sizeR r + 1 = 1 + sizeR r; omega
theorem deep_rest : ∀ p : Part, deepP p = 1 + deepR (restP p)
  | .say _ => rfl
  | .again r => by show deepR r + 1 = 1 + deepR r; omega
  | .oth _ _ r => by show deepR r + 1 = 1 + deepR r; omega
/-- but for the table at T, which may have grown, what stood stands -/
def SameT (T : Addr) (H H' : Hp) : Prop := (∀ b o, b ≠ T → H b = some o → H' b = some o) ∧ TabG H' T
theorem SameT.refl {T : Addr} {H : Hp} (t : TabG H T) : SameT T H H := ⟨fun _ _ _ e => e, t⟩
theorem SameT.trans {T : Addr} {H H1 H2 : Hp} (a : SameT T H H1) (b : SameT T H1 H2) : SameT T H H2 := ⟨fun c o n e => b.1 c o n (a.1 c o n e), b.2⟩
theorem SameT.tab {T : Addr} {H H' : Hp} (h : Tabbed T H H') : SameT T H H' := ⟨fun b o n e => by rw [h.2 b n]; exact e, h.1⟩
theorem SameT.of {T : Addr} {H H' : Hp} (t : TabG H T) (s : Same H H') : SameT T H H' := ⟨fun b o _ e => s b o e, by
  obtain ⟨ps, e, h⟩ := t
  exact ⟨ps, s _ _ e, h⟩⟩
theorem SameT.tup {T : Addr} {H H' : Hp} (t : TabG H T) (s : SameT T H H') : STup H H' := fun a xs e => s.1 a _ (fun z => by
  obtain ⟨ps, q, _⟩ := t
  rw [z, q] at e
  cases e) e
def spRest : Sp := fun vs H Q _ => ∃ (v : V) (p : Part), vs = [v] ∧ PartAt H p v ∧ ∀ (H' : Hp) (u : V), Same H H' → RowAt H' (restP p) u → Q u H'
def spParts (T : Addr) (n : Nat) : Sp := fun vs H Q _ => ∃ (v : V) (r : List Part), vs = [v] ∧ RowAt H r v ∧ deepR r < n ∧ sizeR r ≤ 1000 ∧ TabG H T ∧ ∀ (H' : Hp), SameT T H H' → Q (.int (sizeR r : Nat)) H'
def spDeep (n : Nat) : Sp := fun vs H Q _ => ∃ (v : V) (r : List Part), vs = [v] ∧ RowAt H r v ∧ deepR r < n ∧ sizeR r ≤ 1000 ∧ ∀ (H' : Hp), Same H H' → Q (.int (deepR r : Nat)) H'
/-- a def whose code object is at c -/
structure FunC (K : PySem.W.Frag) (x qual : Str) (st : Stmt) (f c : Addr) (fd : FuncData) : Prop where
  ex : ∃ (oc : Value) (od : Option Addr) (kV doc pm : Value) (an : Option Addr) (ct : Value) (osl : Array (Option Value)),
    fd = PySem.W.fnOf x qual (defArgs st) (defBody st) (defScope st) .none kV doc pm an (.ref c) ct ∧ K.lookup f = some ⟨oc, od, .func fd, osl⟩ ∧ PySem.W.codeIn K (.ref c) qual = true
  kp : PySem.W.keepIn K (.ref f) = true
theorem FunC.fn {K : PySem.W.Frag} {x qual : Str} {st : Stmt} {f c : Addr} {fd : FuncData} (F : FunC K x qual st f c fd) : Fun K x qual st f fd := by
  obtain ⟨⟨oc, od, kV, doc, pm, an, ct, osl, rfl, lk, hcd⟩, kp⟩ := F
  exact ⟨⟨oc, od, kV, doc, pm, an, _, ct, osl, rfl, lk, hcd⟩, kp⟩
theorem FunC.ok {P : Program} {w : World} {K : PySem.W.Frag} {mg : Str → Option Value} {base : Heap} {x qual : Str} {st : Stmt} {f c : Addr} {fd : FuncData} {N ps : List Str} {k : Nat} {sp : Sp} (F : FunC K x qual st f c fd) (S : FnScope N ps (defScope st))
    (len : ∀ vs H Q E, sp vs H Q E → vs.length = ps.length)
    (hb : ∀ (A : Around) (outer : List Env) (s : Shared) (H : Hp) (vs : List V) (Q : VK) (E : XK), Room k (A.deeper (envOfC qual (defScope st) s.heap.objs.size f (.ref c))) → sp vs H Q E →
      ∃ t, PSs (cxOf CX0 P w K mg base N qual (defScope st) f (.ref c) A outer s H E) (defBody st) t ∧ t { nx := fun _ H' => Q .non H', rt := Q } (start N vs) H) : FnOk P w K mg base CX0 (k + 1) f fd ps sp := by
  obtain ⟨⟨oc, od, kV, doc, pm, an, ct, osl, rfl, lk, hcd⟩, _⟩ := F
  exact fn_of lk hcd S len hb
theorem preSum_sizes (r : List Part) : ∀ i, i ≤ r.length → preSum (fun j => ((r[j]?).elim (0 : Int) fun p => (sizeP p : Nat))) i = (sizeR (r.take i) : Nat)
  | 0, _ => by simp [preSum, sizeR]
  | i + 1, h => by
    have hi : i < r.length := h
    rw [preSum, preSum_sizes r i (Nat.le_of_lt hi), List.take_add_one, List.getElem?_eq_getElem hi, sizeR_app]
    show _ = (((sizeR (r.take i) + (sizeP r[i] + 0)) : Nat) : Int)
    simp
theorem sizeR_take (r : List Part) (i : Nat) : sizeR (r.take i) ≤ sizeR r := by
  have e := sizeR_app (r.take i) (r.drop i)
  rw [List.take_append_drop] at e
  omega
/-! ### callings -/
/-- the calling of a part -/
def callP : Part → V
  | .say n => .str n
  | .again _ => .non
  | .oth _ n _ => .str n
mutual
/-- the free callings, as often as they stand there; S: what is bound around -/
def frP : List Str → Part → List Str
  | S, .say n => if n ∈ S then [] else [n]
  | S, .again r => frR S r
  | S, .oth w n r => if w.binds = true then frR (S ++ [n]) r else (if n ∈ S then [] else [n]) ++ frR S r
def frR : List Str → List Part → List Str
  | _, [] => []
  | S, p :: r => frP S p ++ frR S r
end
theorem frR_app (S : List Str) : ∀ r q : List Part, frR S (r ++ q) = frR S r ++ frR S q
  | [], q => rfl
  | p :: r, q => by
    show frP S p ++ frR S (r ++ q) = (frP S p ++ frR S r) ++ frR S q
    rw [frR_app S r q, List.append_assoc]
mutual
theorem frP_len : ∀ (p : Part) (S : List Str), (frP S p).length ≤ sizeP p
  | .say n, S => by
    unfold frP sizeP
    split <;> simp
  | .again r, S => by
    have := frR_len r S
    show (frR S r).length ≤ sizeR r + 1
    omega
  | .oth w n r, S => by
    unfold frP
    show _ ≤ sizeR r + 1
    split
    · have := frR_len r (S ++ [n])
      omega
    · have := frR_len r S
      rw [List.length_append]
      split <;> simp <;> omega
theorem frR_len : ∀ (r : List Part) (S : List Str), (frR S r).length ≤ sizeR r
  | [], S => Nat.le_refl _
  | p :: r, S => by
    have h1 := frP_len p S
    have h2 := frR_len r S
    show (frP S p ++ frR S r).length ≤ sizeP p + sizeR r
    rw [List.length_append]
    omega
end
mutual
theorem bdP_len : ∀ (p : Part), (bdP p).length ≤ sizeP p
  | .say n => Nat.zero_le _
  | .again r => by
    have := bdR_len r
    show (bdR r).length ≤ sizeR r + 1
    omega
  | .oth w n r => by
    have := bdR_len r
    show ((if w.binds then [n] else []) ++ bdR r).length ≤ sizeR r + 1
    rw [List.length_append]
    split <;> simp <;> omega
theorem bdR_len : ∀ (r : List Part), (bdR r).length ≤ sizeR r
  | [] => Nat.le_refl _
  | p :: r => by
    have h1 := bdP_len p
    have h2 := bdR_len r
    show (bdP p ++ bdR r).length ≤ sizeP p + sizeR r
    rw [List.length_append]
    omega
end
/-- what a part itself adds, what is bound within it -/
def fhP : List Str → Part → List Str
  | S, .say n => if n ∈ S then [] else [n]
  | _, .again _ => []
  | S, .oth w n _ => if w.binds = true then [] else if n ∈ S then [] else [n]
def bhP : Part → List Str
  | .oth w n _ => if w.binds = true then [n] else []
  | _ => []
def inP : List Str → Part → List Str
  | S, .oth w n _ => if w.binds = true then S ++ [n] else S
  | S, _ => S
theorem frP_eq (S : List Str) : ∀ p : Part, frP S p = fhP S p ++ frR (inP S p) (restP p)
  | .say n => by
    show (if n ∈ S then [] else [n]) = (if n ∈ S then [] else [n]) ++ []
    rw [List.append_nil]
  | .again r => rfl
  | .oth w n r => by
    show (if w.binds = true then frR (S ++ [n]) r else (if n ∈ S then [] else [n]) ++ frR S r) = (if w.binds = true then [] else if n ∈ S then [] else [n]) ++ frR (if w.binds = true then S ++ [n] else S) r
    by_cases c : w.binds = true
    · rw [if_pos c, if_pos c, if_pos c, List.nil_append]
    · rw [if_neg c, if_neg c, if_neg c]
theorem bdP_eq : ∀ p : Part, bdP p = bhP p ++ bdR (restP p)
  | .say n => rfl
  | .again r => rfl
  | .oth w n r => rfl
theorem inP_len (S : List Str) : ∀ p : Part, (inP S p).length ≤ S.length + 1
  | .say n => Nat.le_succ _
  | .again r => Nat.le_succ _
  | .oth w n r => by
    show (if w.binds = true then S ++ [n] else S).length ≤ S.length + 1
    by_cases c : w.binds = true
    · rw [if_pos c, List.length_append]; exact Nat.le_refl _
    · rw [if_neg c]; exact Nat.le_succ _
theorem fhP_len (S : List Str) : ∀ p : Part, (fhP S p).length ≤ 1
  | .say n => by
    show (if n ∈ S then [] else [n] : List Str).length ≤ 1
    by_cases c : n ∈ S
    · rw [if_pos c]; exact Nat.zero_le _
    · rw [if_neg c]; exact Nat.le_refl _
  | .again r => Nat.zero_le _
  | .oth w n r => by
    show (if w.binds = true then [] else if n ∈ S then [] else [n] : List Str).length ≤ 1
    by_cases b : w.binds = true
    · rw [if_pos b]; exact Nat.zero_le _
    · rw [if_neg b]
      by_cases c : n ∈ S
      · rw [if_pos c]; exact Nat.zero_le _
      · rw [if_neg c]; exact Nat.le_refl _
theorem bhP_len : ∀ p : Part, (bhP p).length ≤ 1
  | .say n => Nat.zero_le _
  | .again r => Nat.zero_le _
  | .oth w n r => by
    show (if w.binds = true then [n] else [] : List Str).length ≤ 1
    by_cases b : w.binds = true
    · rw [if_pos b]; exact Nat.le_refl _
    · rw [if_neg b]; exact Nat.zero_le _
/-- but for the two lists, what stood stands -/
def Sam2 (F B : Addr) (H H' : Hp) : Prop := ∀ b o, b ≠ F → b ≠ B → H b = some o → H' b = some o
theorem Sam2.trans {F B : Addr} {H H1 H2 : Hp} (a : Sam2 F B H H1) (b : Sam2 F B H1 H2) : Sam2 F B H H2 := fun c o n m e => b c o n m (a c o n m e)
theorem Sam2.of {F B : Addr} {H H' : Hp} (s : Same H H') : Sam2 F B H H' := fun c o _ _ e => s c o e
theorem Sam2.tup {F B : Addr} {H H' : Hp} {xs ys : List V} (hF : H F = some (.lst xs)) (hB : H B = some (.lst ys)) (s : Sam2 F B H H') : STup H H' := fun a zs e => s a _ (fun z => by rw [z, hF] at e; cases e) (fun z => by rw [z, hB] at e; cases e) e
def spCalling : Sp := fun vs H Q _ => ∃ (v : V) (p : Part), vs = [v] ∧ PartAt H p v ∧ Q (callP p) H
def spGather (n : Nat) : Sp := fun vs H Q _ => ∃ (v : V) (r : List Part) (aS F B : Addr) (S fs bs : List Str), vs = [v, .ref aS, .ref F, .ref B] ∧ RowAt H r v ∧ H aS = some (.tup (S.map V.str)) ∧ H F = some (.lst (fs.map V.str)) ∧ H B = some (.lst (bs.map V.str)) ∧ F ≠ B ∧
  deepR r < n ∧ sizeR r + fs.length ≤ 1000 ∧ sizeR r + bs.length ≤ 1000 ∧ S.length + deepR r ≤ 1000 ∧
  ∀ H', Sam2 F B H H' → H' F = some (.lst ((fs ++ frR S r).map V.str)) → H' B = some (.lst ((bs ++ bdR r).map V.str)) → Q .non H'
def spCallings (n : Nat) : Sp := fun vs H Q _ => ∃ (v : V) (r : List Part), vs = [v] ∧ RowAt H r v ∧ deepR r < n ∧ sizeR r ≤ 1000 ∧ deepR r ≤ 1000 ∧
  ∀ (H' : Hp) (t F B : Addr), Same H H' → H F = none → H B = none → F ≠ B → H' t = some (.tup [.ref F, .ref B]) → H' F = some (.lst ((frR [] r).map V.str)) → H' B = some (.lst ((bdR r).map V.str)) → Q (.ref t) H'
/-- each of g's texts once, sorted, in a new list -/
def spSorted (g : List Part → List Str) (n : Nat) : Sp := fun vs H Q _ => ∃ (v : V) (r : List Part), vs = [v] ∧ RowAt H r v ∧ deepR r < n ∧ sizeR r ≤ 1000 ∧ deepR r ≤ 1000 ∧ (∀ L : List Str, L.Nodup → (∀ x, x ∈ L ↔ x ∈ g r) → L.length < 64) ∧
  ∀ (H' : Hp) (p : Addr) (ys : List Str), Same H H' → H p = none → ys.Nodup → (∀ x, x ∈ ys ↔ x ∈ g r) → sortedS ys = true → H' p = some (.lst (ys.map V.str)) → Q (.ref p) H'
end Wk

set_option Elab.async false
set_option linter.all false
set_option maxRecDepth 100000
set_option maxHeartbeats 2000000
/-! Rows level by level. -/
namespace Wk
open PySem PySem.Spec PyProof.Rows L2 GxR
def isSay : Part → Bool
  | .say _ => true
  | _ => false
def nextR (r : List Part) : List (List Part) := (r.filter fun p => !isSay p).map restP
def nextL : List (List Part) → List (List Part)
  | [] => []
  | r :: ls => nextR r ++ nextL ls
def deepL : List (List Part) → Nat
  | [] => 0
  | r :: ls => max (deepR r) (deepL ls)
def sizeL : List (List Part) → Nat
  | [] => 0
  | r :: ls => sizeR r + sizeL ls
theorem deepL_app : ∀ a b, deepL (a ++ b) = max (deepL a) (deepL b)
  | [], b => by show deepL b = max 0 (deepL b); omega
  | r :: a, b => by
    show max (deepR r) (deepL (a ++ b)) = max (max (deepR r) (deepL a)) (deepL b)
    rw [deepL_app a b]; omega
theorem sizeL_app : ∀ a b, sizeL (a ++ b) = sizeL a + sizeL b
  | [], b => by show sizeL b = 0 + sizeL b; omega
  | r :: a, b => by
    show sizeR r + sizeL (a ++ b) = sizeR r + sizeL a + sizeL b
    rw [sizeL_app a b]; omega
theorem nextL_app : ∀ a b, nextL (a ++ b) = nextL a ++ nextL b
  | [], b => rfl
  | r :: a, b => by
    show nextR r ++ nextL (a ++ b) = (nextR r ++ nextL a) ++ nextL b
    rw [nextL_app a b, List.append_assoc]
theorem nextR_cons (p : Part) (r : List Part) : nextR (p :: r) = (if isSay p = true then [] else [restP p]) ++ nextR r := by
  unfold nextR
  cases p <;> simp [List.filter_cons, isSay]
theorem nextR_deep : ∀ r : List Part, deepL (nextR r) = deepR r - 1
  | [] => rfl
  | p :: r => by
    rw [nextR_cons, deepL_app, nextR_deep r]
    have d := deep_rest p
    show max (deepL (if isSay p = true then [] else [restP p])) (deepR r - 1) = max (deepP p) (deepR r) - 1
    cases p with
    | say n =>
      have e : deepR (restP (.say n)) = 0 := rfl
      show max 0 (deepR r - 1) = _
      omega
    | again q =>
      show max (max (deepR (restP (.again q))) 0) (deepR r - 1) = _
      omega
    | oth w n q =>
      show max (max (deepR (restP (.oth w n q))) 0) (deepR r - 1) = _
      omega
theorem nextL_deep : ∀ ls, deepL (nextL ls) = deepL ls - 1
  | [] => rfl
  | r :: ls => by
    show deepL (nextR r ++ nextL ls) = max (deepR r) (deepL ls) - 1
    rw [deepL_app, nextR_deep, nextL_deep ls]; omega
theorem nextR_size : ∀ r : List Part, sizeL (nextR r) + (nextR r).length ≤ sizeR r
  | [] => Nat.le_refl _
  | p :: r => by
    rw [nextR_cons, sizeL_app, List.length_append]
    have h := nextR_size r
    have s := size_rest p
    show sizeL (if isSay p = true then [] else [restP p]) + sizeL (nextR r) + ((if isSay p = true then [] else [restP p]).length + (nextR r).length) ≤ sizeP p + sizeR r
    cases p with
    | say n =>
      show 0 + sizeL (nextR r) + (0 + (nextR r).length) ≤ _
      omega
    | again q =>
      show (sizeR (restP (.again q)) + 0) + sizeL (nextR r) + (1 + (nextR r).length) ≤ _
      omega
    | oth w n q =>
      show (sizeR (restP (.oth w n q)) + 0) + sizeL (nextR r) + (1 + (nextR r).length) ≤ _
      omega
theorem nextL_size : ∀ ls, sizeL (nextL ls) + (nextL ls).length ≤ sizeL ls
  | [] => Nat.le_refl _
  | r :: ls => by
    show sizeL (nextR r ++ nextL ls) + (nextR r ++ nextL ls).length ≤ sizeR r + sizeL ls
    rw [sizeL_app, List.length_append]
    have h1 := nextR_size r
    have h2 := nextL_size ls
    omega
abbrev okS (r : List Part) : Prop := okR (fun n => PyData.strOk n = true) r
def okL (ls : List (List Part)) : Prop := ∀ r ∈ ls, okS r
theorem okR_mem {f : Str → Prop} : ∀ {r : List Part}, okR f r → ∀ p ∈ r, okP f p
  | p :: r, h, q, hq => by
    rcases List.mem_cons.mp hq with e | e
    · rw [e]; exact h.1
    · exact okR_mem h.2 q e
theorem nextR_ok {r : List Part} (h : okS r) : okL (nextR r) := fun q hq => by
  obtain ⟨p, hp, rfl⟩ := List.mem_map.mp hq
  exact rest_ok (okR_mem h p (List.mem_filter.mp hp).1)
theorem nextL_ok : ∀ {ls : List (List Part)}, okL ls → okL (nextL ls)
  | [], h => fun q hq => by cases hq
  | r :: ls, h => fun q hq => by
    rcases List.mem_append.mp hq with z | z
    · exact nextR_ok (h r List.mem_cons_self) q z
    · exact nextL_ok (fun x hx => h x (List.mem_cons_of_mem _ hx)) q z
/-! ### in memory -/
def LvAt (H : Hp) : List (List Part) → List V → Prop
  | [], vs => vs = []
  | r :: ls, vs => ∃ v ws, vs = v :: ws ∧ RowAt H r v ∧ LvAt H ls ws
theorem LvAt.mono {H H' : Hp} (s : STup H H') : ∀ {ls : List (List Part)} {vs : List V}, LvAt H ls vs → LvAt H' ls vs
  | [], _, h => h
  | r :: ls, _, h => by
    obtain ⟨v, ws, rfl, h1, h2⟩ := h
    exact ⟨v, ws, rfl, h1.mono s, LvAt.mono s h2⟩
theorem LvAt.len {H : Hp} : ∀ {ls : List (List Part)} {vs : List V}, LvAt H ls vs → vs.length = ls.length
  | [], _, h => by rw [h]; rfl
  | r :: ls, _, h => by
    obtain ⟨v, ws, rfl, _, h2⟩ := h
    rw [List.length_cons, List.length_cons, LvAt.len h2]
theorem LvAt.get {H : Hp} : ∀ {ls : List (List Part)} {vs : List V}, LvAt H ls vs → ∀ {i : Nat} {v : V}, vs[i]? = some v → ∃ r, ls[i]? = some r ∧ RowAt H r v
  | [], _, h, i, v, hv => by rw [show _ = [] from h] at hv; simp at hv
  | r :: ls, _, h, 0, v, hv => by
    obtain ⟨u, ws, rfl, h1, _⟩ := h
    have z : u = v := by simpa using hv
    exact ⟨r, rfl, z ▸ h1⟩
  | r :: ls, _, h, i + 1, v, hv => by
    obtain ⟨u, ws, rfl, _, h2⟩ := h
    obtain ⟨q, h3, h4⟩ := LvAt.get h2 (i := i) (v := v) (by simpa using hv)
    exact ⟨q, by simpa using h3, h4⟩
theorem LvAt.app {H : Hp} {ls2 : List (List Part)} {vs2 : List V} (g : LvAt H ls2 vs2) : ∀ {ls : List (List Part)} {vs : List V}, LvAt H ls vs → LvAt H (ls ++ ls2) (vs ++ vs2)
  | [], _, h => by rw [show _ = [] from h]; exact g
  | r :: ls, _, h => by
    obtain ⟨v, ws, rfl, h1, h2⟩ := h
    exact ⟨v, ws ++ vs2, rfl, h1, LvAt.app g h2⟩
theorem LvAt.one {H : Hp} {r : List Part} {v : V} (h : RowAt H r v) : LvAt H [r] [v] := ⟨v, [], rfl, h, rfl⟩
theorem LvAt.dp {K : PySem.W.Frag} {H : Hp} : ∀ {ls : List (List Part)} {vs : List V}, LvAt H ls vs → DpAll K H vs (ls.map fun r => PyData.tuple (dR r))
  | [], _, h => by rw [show _ = [] from h]; exact .nil
  | r :: ls, _, h => by
    obtain ⟨v, ws, rfl, h1, h2⟩ := h
    exact .cons h1.dp (LvAt.dp h2)
theorem lvl_lay : ∀ {ls : List (List Part)}, okL ls → PyData.canLayAll0 (ls.map fun r => PyData.tuple (dR r)) = true
  | [], _ => by simp only [List.map_nil, PyData.canLayAll0]
  | r :: ls, h => by
    simp only [List.map_cons, PyData.canLayAll0, PyData.canLay0, layR (fun n h => h) r (h r List.mem_cons_self), lvl_lay fun x hx => h x (List.mem_cons_of_mem _ hx), Bool.and_self]
theorem lvl_dep : ∀ ls : List (List Part), PyData.depthAll (ls.map fun r => PyData.tuple (dR r)) ≤ 2 * deepL ls + 1
  | [] => by simp only [List.map_nil, PyData.depthAll]; omega
  | r :: ls => by
    have h1 := depR r
    have h2 := lvl_dep ls
    simp only [List.map_cons, PyData.depthAll, PyData.depth, deepL]
    omega
theorem lvl_shaped {ls : List (List Part)} (h : okL ls) (hd : deepL ls ≤ 25) : SeqAt.shaped (.list (ls.map fun r => PyData.tuple (dR r))) = true := by
  unfold SeqAt.shaped
  have := lvl_dep ls
  simp only [PyData.canLay0, lvl_lay h, PyData.depth, Bool.true_and]
  exact decide_eq_true (by omega)
theorem row_empty (r : List Part) : PyData.eqv (.tuple (dR r)) (.tuple []) = r.isEmpty := by
  cases r with
  | nil => simp only [dR, PyData.eqv, PyData.eqvAll, List.isEmpty]
  | cons p r => simp only [dR, PyData.eqv, PyData.eqvAll, List.isEmpty]
theorem deep_pos {r : List Part} (h : r ≠ []) : 1 ≤ deepR r := by
  cases r with
  | nil => exact absurd rfl h
  | cons p r =>
    have d := deep_rest p
    show 1 ≤ max (deepP p) (deepR r)
    omega
theorem full_iff : ∀ ls : List (List Part), (ls.filter fun r => !r.isEmpty).isEmpty = decide (deepL ls = 0)
  | [] => rfl
  | r :: ls => by
    have ih := full_iff ls
    cases r with
    | nil =>
      show (ls.filter fun r => !r.isEmpty).isEmpty = decide (max 0 (deepL ls) = 0)
      rw [ih, Nat.zero_max]
    | cons p r =>
      have := deep_pos (r := p :: r) (by simp)
      have e : ¬ (deepL ((p :: r) :: ls) = 0) := by
        show ¬ (max (deepR (p :: r)) (deepL ls) = 0)
        omega
      rw [decide_eq_false e]
      rfl
def spLDeep : Sp := fun vs H Q _ => ∃ (v : V) (r : List Part), vs = [v] ∧ RowAt H r v ∧ okS r ∧ deepR r ≤ 25 ∧ sizeR r ≤ 900 ∧ ∀ (H' : Hp), Same H H' → Q (.int (deepR r : Nat)) H'
end Wk

set_option Elab.async false
set_option linter.all false
set_option maxRecDepth 100000
set_option maxHeartbeats 2000000
/-! What the law's own walk writes down of each part. -/
namespace Wk
open PySem PySem.Spec PyProof.Rows L2 GxR
/-- kind, calling, how many are bound around -/
abbrev Ent : Type := Str × Str × Nat
def entP : List Str → Part → Ent
  | S, .say n => (if n ∈ S then "held" else "free", n, S.length)
  | _, .again _ => ("again", "", 0)
  | S, .oth w n _ => if w.binds = true then ("bound", n, S.length) else (if n ∈ S then "held" else "free", n, S.length)
mutual
def alP : List Str → Part → List Ent
  | S, .say n => [entP S (.say n)]
  | S, .again r => entP S (.again r) :: alR S r
  | S, .oth w n r => entP S (.oth w n r) :: alR (inP S (.oth w n r)) r
def alR : List Str → List Part → List Ent
  | _, [] => []
  | S, p :: r => alP S p ++ alR S r
end
theorem alP_eq (S : List Str) : ∀ p : Part, alP S p = entP S p :: alR (inP S p) (restP p)
  | .say n => rfl
  | .again r => rfl
  | .oth w n r => rfl
theorem alR_app (S : List Str) : ∀ r q : List Part, alR S (r ++ q) = alR S r ++ alR S q
  | [], q => rfl
  | p :: r, q => by
    show alP S p ++ alR S (r ++ q) = (alP S p ++ alR S r) ++ alR S q
    rw [alR_app S r q, List.append_assoc]
mutual
theorem alP_len : ∀ (p : Part) (S : List Str), (alP S p).length = sizeP p
  | .say n, S => rfl
  | .again r, S => by
    have := alR_len r S
    show (alR S r).length + 1 = sizeR r + 1
    omega
  | .oth w n r, S => by
    have := alR_len r (inP S (.oth w n r))
    show (alR (inP S (.oth w n r)) r).length + 1 = sizeR r + 1
    omega
theorem alR_len : ∀ (r : List Part) (S : List Str), (alR S r).length = sizeR r
  | [], S => rfl
  | p :: r, S => by
    have h1 := alP_len p S
    have h2 := alR_len r S
    show (alP S p ++ alR S r).length = sizeP p + sizeR r
    rw [List.length_append]
    omega
end
/-- the callings of one kind, as they stand there -/
def ofKind (k : Str) (es : List Ent) : List Str := (es.filter fun e => e.1 == k).map (·.2.1)
theorem ofKind_app (k : Str) (a b : List Ent) : ofKind k (a ++ b) = ofKind k a ++ ofKind k b := by
  unfold ofKind
  rw [List.filter_append, List.map_append]
theorem ent_free (S : List Str) : ∀ p : Part, ofKind "free" [entP S p] = fhP S p
  | .say n => by
    show ofKind "free" [(if n ∈ S then "held" else "free", n, S.length)] = if n ∈ S then [] else [n]
    by_cases c : n ∈ S
    · rw [if_pos c, if_pos c]; rfl
    · rw [if_neg c, if_neg c]; rfl
  | .again r => rfl
  | .oth w n r => by
    show ofKind "free" [if w.binds = true then ("bound", n, S.length) else (if n ∈ S then "held" else "free", n, S.length)] = if w.binds = true then [] else if n ∈ S then [] else [n]
    by_cases b : w.binds = true
    · rw [if_pos b, if_pos b]; rfl
    · rw [if_neg b, if_neg b]
      by_cases c : n ∈ S
      · rw [if_pos c, if_pos c]; rfl
      · rw [if_neg c, if_neg c]; rfl
theorem ent_bound (S : List Str) : ∀ p : Part, ofKind "bound" [entP S p] = bhP p
  | .say n => by
    show ofKind "bound" [(if n ∈ S then "held" else "free", n, S.length)] = []
    by_cases c : n ∈ S
    · rw [if_pos c]; rfl
    · rw [if_neg c]; rfl
  | .again r => rfl
  | .oth w n r => by
    show ofKind "bound" [if w.binds = true then ("bound", n, S.length) else (if n ∈ S then "held" else "free", n, S.length)] = if w.binds = true then [n] else []
    by_cases b : w.binds = true
    · rw [if_pos b, if_pos b]; rfl
    · rw [if_neg b, if_neg b]
      by_cases c : n ∈ S
      · rw [if_pos c]; rfl
      · rw [if_neg c]; rfl
theorem ofKind_cons (k : Str) (e : Ent) (es : List Ent) : ofKind k (e :: es) = ofKind k [e] ++ ofKind k es := ofKind_app k [e] es
mutual
theorem al_freeP : ∀ (p : Part) (S : List Str), ofKind "free" (alP S p) = frP S p
  | .say n, S => by
    rw [alP_eq, ofKind_cons, ent_free, frP_eq]
    rfl
  | .again r, S => by
    rw [alP_eq, ofKind_cons, ent_free, frP_eq]
    show _ ++ ofKind "free" (alR S r) = _
    rw [al_freeR r S]
    rfl
  | .oth w n r, S => by
    rw [alP_eq, ofKind_cons, ent_free, frP_eq]
    show _ ++ ofKind "free" (alR (inP S (.oth w n r)) r) = _
    rw [al_freeR r (inP S (.oth w n r))]
    rfl
theorem al_freeR : ∀ (r : List Part) (S : List Str), ofKind "free" (alR S r) = frR S r
  | [], S => rfl
  | p :: r, S => by
    show ofKind "free" (alP S p ++ alR S r) = frP S p ++ frR S r
    rw [ofKind_app, al_freeP p S, al_freeR r S]
end
mutual
theorem al_boundP : ∀ (p : Part) (S : List Str), ofKind "bound" (alP S p) = bdP p
  | .say n, S => by
    rw [alP_eq, ofKind_cons, ent_bound, bdP_eq]
    rfl
  | .again r, S => by
    rw [alP_eq, ofKind_cons, ent_bound, bdP_eq]
    show _ ++ ofKind "bound" (alR S r) = _
    rw [al_boundR r S]
    rfl
  | .oth w n r, S => by
    rw [alP_eq, ofKind_cons, ent_bound, bdP_eq]
    show _ ++ ofKind "bound" (alR (inP S (.oth w n r)) r) = _
    rw [al_boundR r (inP S (.oth w n r))]
    rfl
theorem al_boundR : ∀ (r : List Part) (S : List Str), ofKind "bound" (alR S r) = bdR r
  | [], S => rfl
  | p :: r, S => by
    show ofKind "bound" (alP S p ++ alR S r) = bdP p ++ bdR r
    rw [ofKind_app, al_boundP p S, al_boundR r S]
end
/-! ### in memory -/
def EntAt (H : Hp) (e : Ent) (v : V) : Prop := ∃ t, v = .ref t ∧ H t = some (.tup [.str e.1, .str e.2.1, .int (e.2.2 : Nat)])
def EntsAt (H : Hp) : List Ent → List V → Prop
  | [], vs => vs = []
  | e :: es, vs => ∃ v ws, vs = v :: ws ∧ EntAt H e v ∧ EntsAt H es ws
theorem EntAt.mono {H H' : Hp} (s : STup H H') {e : Ent} {v : V} (h : EntAt H e v) : EntAt H' e v := by
  obtain ⟨t, rfl, q⟩ := h
  exact ⟨t, rfl, s _ _ q⟩
theorem EntsAt.mono {H H' : Hp} (s : STup H H') : ∀ {es : List Ent} {vs : List V}, EntsAt H es vs → EntsAt H' es vs
  | [], _, h => h
  | e :: es, _, h => by
    obtain ⟨v, ws, rfl, h1, h2⟩ := h
    exact ⟨v, ws, rfl, h1.mono s, EntsAt.mono s h2⟩
theorem EntsAt.len {H : Hp} : ∀ {es : List Ent} {vs : List V}, EntsAt H es vs → vs.length = es.length
  | [], _, h => by rw [h]; rfl
  | e :: es, _, h => by
    obtain ⟨v, ws, rfl, _, h2⟩ := h
    rw [List.length_cons, List.length_cons, EntsAt.len h2]
theorem EntsAt.get {H : Hp} : ∀ {es : List Ent} {vs : List V}, EntsAt H es vs → ∀ {i : Nat} {v : V}, vs[i]? = some v → ∃ e, es[i]? = some e ∧ EntAt H e v
  | [], _, h, i, v, hv => by rw [show _ = [] from h] at hv; simp at hv
  | e :: es, _, h, 0, v, hv => by
    obtain ⟨u, ws, rfl, h1, _⟩ := h
    have z : u = v := by simpa using hv
    exact ⟨e, rfl, z ▸ h1⟩
  | e :: es, _, h, i + 1, v, hv => by
    obtain ⟨u, ws, rfl, _, h2⟩ := h
    obtain ⟨e', h3, h4⟩ := EntsAt.get h2 (i := i) (v := v) (by simpa using hv)
    exact ⟨e', by simpa using h3, h4⟩
theorem EntsAt.snoc {H : Hp} {e : Ent} {v : V} (h : EntAt H e v) : ∀ {es : List Ent} {vs : List V}, EntsAt H es vs → EntsAt H (es ++ [e]) (vs ++ [v])
  | [], _, g => by
    rw [show _ = [] from g]
    exact ⟨v, [], rfl, h, rfl⟩
  | f :: es, _, g => by
    obtain ⟨u, ws, rfl, h1, h2⟩ := g
    exact ⟨u, ws ++ [v], rfl, h1, EntsAt.snoc h h2⟩
def Sam1 (F : Addr) (H H' : Hp) : Prop := ∀ b o, b ≠ F → H b = some o → H' b = some o
theorem Sam1.trans {F : Addr} {H H1 H2 : Hp} (a : Sam1 F H H1) (b : Sam1 F H1 H2) : Sam1 F H H2 := fun c o n e => b c o n (a c o n e)
theorem Sam1.of {F : Addr} {H H' : Hp} (s : Same H H') : Sam1 F H H' := fun c o _ e => s c o e
theorem Sam1.tup {F : Addr} {H H' : Hp} {xs : List V} (hF : H F = some (.lst xs)) (s : Sam1 F H H') : STup H H' := fun a zs e => s a _ (fun z => by rw [z, hF] at e; cases e) e
def spAll (n : Nat) : Sp := fun vs H Q _ => ∃ (v : V) (r : List Part) (aS Fd : Addr) (S : List Str) (us : List V) (es : List Ent), vs = [v, .ref aS, .ref Fd] ∧ RowAt H r v ∧ H aS = some (.lst (S.map V.str)) ∧ H Fd = some (.lst us) ∧ aS ≠ Fd ∧ EntsAt H es us ∧
  deepR r < n ∧ sizeR r + us.length ≤ 1000 ∧ S.length + deepR r ≤ 1000 ∧
  ∀ H' us', Sam1 Fd H H' → H' Fd = some (.lst us') → EntsAt H' (es ++ alR S r) us' → Q (.ref Fd) H'
end Wk

set_option Elab.async false
set_option linter.all false
set_option maxRecDepth 100000
set_option maxHeartbeats 2000000
/-! Sorted lists of the same texts are alike; callings of drawn rows; what stays but for a table. -/
namespace Wk
open PySem PySem.Spec PyProof.Rows L2 GxR
def leS (a b : Str) : Prop := ¬ b.cps.toList < a.cps.toList
theorem leS.trans {a b c : Str} (h : leS a b) (g : leS b c) : leS a c := by
  have h1 : a.cps.toList ≤ b.cps.toList := h
  have h2 : b.cps.toList ≤ c.cps.toList := g
  have h3 : a.cps.toList ≤ c.cps.toList := List.le_trans h1 h2
  exact h3
theorem leS.anti {a b : Str} (h : leS a b) (g : leS b a) : a = b := by
  have h1 : a.cps.toList ≤ b.cps.toList := h
  have h2 : b.cps.toList ≤ a.cps.toList := g
  have e : a.cps.toList = b.cps.toList := List.le_antisymm h1 h2
  exact Str.ext' (Array.toList_inj.mp e)
theorem rising_pw : ∀ (l : List Str) (p : Str), risingS p l = true → (p :: l).Pairwise leS
  | [], p, _ => List.pairwise_singleton _ _
  | x :: r, p, h => by
    have h' : (!ltCps x.cps.toList p.cps.toList && risingS x r) = true := h
    obtain ⟨h1, h2⟩ := Bool.and_eq_true_iff.mp h'
    have ih := rising_pw r x h2
    have hx : leS p x := by
      rw [ltCps_eq] at h1
      intro z
      rw [decide_eq_true z] at h1
      cases h1
    refine List.pairwise_cons.mpr ⟨fun y hy => ?_, ih⟩
    rcases List.mem_cons.mp hy with e | e
    · rw [e]; exact hx
    · exact hx.trans ((List.pairwise_cons.mp ih).1 y e)
theorem sorted_pw : ∀ l : List Str, sortedS l = true → l.Pairwise leS
  | [], _ => List.Pairwise.nil
  | x :: r, h => rising_pw r x h
theorem pw_uniq : ∀ (ys zs : List Str), ys.Pairwise leS → zs.Pairwise leS → ys.Nodup → zs.Nodup → (∀ x, x ∈ ys ↔ x ∈ zs) → ys = zs
  | [], [], _, _, _, _, _ => rfl
  | [], z :: zs, _, _, _, _, h => absurd ((h z).mpr List.mem_cons_self) (fun q => nomatch q)
  | y :: ys, [], _, _, _, _, h => absurd ((h y).mp List.mem_cons_self) (fun q => nomatch q)
  | y :: ys, z :: zs, p, q, n, m, h => by
    obtain ⟨p1, p2⟩ := List.pairwise_cons.mp p
    obtain ⟨q1, q2⟩ := List.pairwise_cons.mp q
    obtain ⟨n1, n2⟩ := List.nodup_cons.mp n
    obtain ⟨m1, m2⟩ := List.nodup_cons.mp m
    have e : y = z := by
      by_cases e : y = z
      · exact e
      · have hy : y ∈ zs := by
          rcases List.mem_cons.mp ((h y).mp List.mem_cons_self) with g | g
          · exact absurd g e
          · exact g
        have hz : z ∈ ys := by
          rcases List.mem_cons.mp ((h z).mpr List.mem_cons_self) with g | g
          · exact absurd g.symm e
          · exact g
        exact (p1 z hz).anti (q1 y hy)
    subst e
    have ih := pw_uniq ys zs p2 q2 n2 m2 (fun x => by
      constructor
      · intro g
        rcases List.mem_cons.mp ((h x).mp (List.mem_cons_of_mem _ g)) with e | e
        · exact absurd (e ▸ g) n1
        · exact e
      · intro g
        rcases List.mem_cons.mp ((h x).mpr (List.mem_cons_of_mem _ g)) with e | e
        · exact absurd (e ▸ g) m1
        · exact e)
    rw [ih]
theorem sorted_uniq {ys zs : List Str} (p : sortedS ys = true) (q : sortedS zs = true) (n : ys.Nodup) (m : zs.Nodup) (h : ∀ x, x ∈ ys ↔ x ∈ zs) : ys = zs :=
  pw_uniq ys zs (sorted_pw ys p) (sorted_pw zs q) n m h
/-! ### callings of rows whose names are ok -/
mutual
theorem fr_okP {f : Str → Prop} : ∀ (p : Part) (S : List Str), okP f p → ∀ x ∈ frP S p, f x
  | .say n, S, h, x, hx => by
    unfold frP at hx
    by_cases c : n ∈ S
    · rw [if_pos c] at hx; cases hx
    · rw [if_neg c] at hx
      rw [List.mem_singleton.mp hx]
      exact h
  | .again r, S, h, x, hx => fr_okR r S h x hx
  | .oth w n r, S, h, x, hx => by
    unfold frP at hx
    by_cases b : w.binds = true
    · rw [if_pos b] at hx
      exact fr_okR r _ h.2 x hx
    · rw [if_neg b] at hx
      rcases List.mem_append.mp hx with g | g
      · by_cases c : n ∈ S
        · rw [if_pos c] at g; cases g
        · rw [if_neg c] at g
          rw [List.mem_singleton.mp g]
          exact h.1
      · exact fr_okR r S h.2 x g
theorem fr_okR {f : Str → Prop} : ∀ (r : List Part) (S : List Str), okR f r → ∀ x ∈ frR S r, f x
  | [], S, _, x, hx => nomatch hx
  | p :: r, S, h, x, hx => by
    rcases List.mem_append.mp (show x ∈ frP S p ++ frR S r from hx) with g | g
    · exact fr_okP p S h.1 x g
    · exact fr_okR r S h.2 x g
end
mutual
theorem bd_okP {f : Str → Prop} : ∀ (p : Part), okP f p → ∀ x ∈ bdP p, f x
  | .say n, h, x, hx => nomatch hx
  | .again r, h, x, hx => bd_okR r h x hx
  | .oth w n r, h, x, hx => by
    unfold bdP at hx
    rcases List.mem_append.mp hx with g | g
    · by_cases b : w.binds = true
      · rw [if_pos b] at g
        rw [List.mem_singleton.mp g]
        exact h.1
      · rw [if_neg b] at g; cases g
    · exact bd_okR r h.2 x g
theorem bd_okR {f : Str → Prop} : ∀ (r : List Part), okR f r → ∀ x ∈ bdR r, f x
  | [], _, x, hx => nomatch hx
  | p :: r, h, x, hx => by
    rcases List.mem_append.mp (show x ∈ bdP p ++ bdR r from hx) with g | g
    · exact bd_okP p h.1 x g
    · exact bd_okR r h.2 x g
end
/-! ### but for a table -/
section
variable {T p : Addr} {H0 H H' : Hp} {o : HO}
theorem TabG.ne (t : TabG H T) (n : H p = none) : T ≠ p := fun e => by
  obtain ⟨ps, h, _⟩ := t
  rw [e, n] at h
  cases h
theorem TabG.new (t : TabG H T) (n : H p = none) : TabG (upd H p o) T := by
  obtain ⟨ps, h, g⟩ := t
  exact ⟨ps, kn h n, g⟩
theorem TabG.same (t : TabG H T) (s : Same H H') : TabG H' T := by
  obtain ⟨ps, h, g⟩ := t
  exact ⟨ps, s _ _ h, g⟩
theorem SameT.new (s : SameT T H0 H) (n : H p = none) : SameT T H0 (upd H p o) := ⟨fun b u nb e => kn (s.1 b u nb e) n, TabG.new s.2 n⟩
theorem SameT.own (t : TabG H0 T) (s : SameT T H0 H) (n : H0 p = none) : SameT T H0 (upd H p o) := by
  have ne : T ≠ p := TabG.ne t n
  refine ⟨fun b u nb e => ?_, ?_⟩
  · rw [upd_ne (ne_of_none e n)]
    exact s.1 b u nb e
  · obtain ⟨ps, h, g⟩ := s.2
    exact ⟨ps, by rw [upd_ne ne]; exact h, g⟩
theorem SameT.sm (s : SameT T H0 H) (h : Same H H') : SameT T H0 H' := s.trans (SameT.of s.2 h)
theorem SameT.none (t : TabG H0 T) (s : SameT T H0 H) (n : H p = none) : H0 p = none := by
  cases e : H0 p with
  | none => rfl
  | some u =>
    have ne : p ≠ T := fun z => TabG.ne s.2 n z.symm
    rw [s.1 p u ne e] at n
    cases n
end
theorem ints_shaped (a b : Int) : SeqAt.shaped (.list [.int a, .int b]) = true := by
  unfold SeqAt.shaped
  simp only [PyData.canLay0, PyData.canLayAll0, PyData.depth, PyData.depthAll, Bool.and_self, Bool.true_and]
  rfl
theorem ints_eqv (a b : Int) : PyData.eqv (.list [.int a, .int b]) (.list [.int a, .int b]) = true := SeqAt.eqv_refl _ (by simp only [PyData.canLay0, PyData.canLayAll0, Bool.and_self])
theorem strs_eqv {ys : List Str} (hk : ∀ z ∈ ys, PyData.strOk z = true) : PyData.eqv (.list (ys.map PyData.str)) (.list (ys.map PyData.str)) = true := SeqAt.eqv_refl _ (by simp only [PyData.canLay0]; exact strs_lay ys hk)
end Wk
namespace Wk
open PySem PySem.Spec PyProof.Rows L2 GxR
theorem SameT.sam1 {T F : Addr} {H0 H H' : Hp} (t : TabG H0 T) (s : SameT T H0 H) (n : H0 F = Option.none) (m : Sam1 F H H') : SameT T H0 H' :=
  ⟨fun b o nb e => m b o (ne_of_none e n) (s.1 b o nb e), by
    obtain ⟨ps, h, g⟩ := s.2
    exact ⟨ps, m _ _ (TabG.ne t n) h, g⟩⟩
theorem TabG.neL {T p : Addr} {H : Hp} {xs : List V} (t : TabG H T) (h : H p = some (.lst xs)) : p ≠ T := fun e => by
  obtain ⟨ps, q, _⟩ := t
  rw [e, q] at h
  cases h
theorem lt64 {g : List Str} {D : List Str} (h : ∀ x ∈ g, x ∈ D) (l : D.length < 64) : ∀ L : List Str, L.Nodup → (∀ x, x ∈ L ↔ x ∈ g) → L.length < 64 := fun L nd hm =>
  Nat.lt_of_le_of_lt (sub_len L D nd fun x hx => h x ((hm x).mp hx)) l
end Wk

set_option Elab.async false
set_option linter.all false
set_option maxRecDepth 100000
set_option maxHeartbeats 2000000
/-! What stays but for some code tables. -/
namespace Wk
open PySem PySem.Spec PyProof.Rows L2 GxR
def TabsG (Ts : List Addr) (H : Hp) : Prop := ∀ T ∈ Ts, TabG H T
def SamTs (Ts : List Addr) (H H' : Hp) : Prop := (∀ b o, b ∉ Ts → H b = some o → H' b = some o) ∧ TabsG Ts H'
section
variable {Ts : List Addr} {T p F : Addr} {H H0 H' H1 H2 : Hp} {o : HO} {xs : List V}
theorem TabsG.out (t : TabsG Ts H) (n : H p = none) : p ∉ Ts := fun h => by
  obtain ⟨ps, q, _⟩ := t p h
  rw [q] at n
  cases n
theorem TabsG.outL (t : TabsG Ts H) (h : H p = some (.lst xs)) : p ∉ Ts := fun z => by
  obtain ⟨ps, q, _⟩ := t p z
  rw [q] at h
  cases h
theorem TabsG.outT (t : TabsG Ts H) (h : H p = some (.tup xs)) : p ∉ Ts := fun z => by
  obtain ⟨ps, q, _⟩ := t p z
  rw [q] at h
  cases h
theorem TabsG.same (t : TabsG Ts H) (s : Same H H') : TabsG Ts H' := fun T h => TabG.same (t T h) s
theorem TabsG.new (t : TabsG Ts H) (n : H p = none) : TabsG Ts (upd H p o) := fun T h => TabG.new (t T h) n
theorem SamTs.refl (t : TabsG Ts H) : SamTs Ts H H := ⟨fun _ _ _ e => e, t⟩
theorem SamTs.trans (a : SamTs Ts H H1) (b : SamTs Ts H1 H2) : SamTs Ts H H2 := ⟨fun c o n e => b.1 c o n (a.1 c o n e), b.2⟩
theorem SamTs.of (t : TabsG Ts H) (s : Same H H') : SamTs Ts H H' := ⟨fun b o _ e => s b o e, t.same s⟩
theorem SamTs.tab (m : T ∈ Ts) (t : TabsG Ts H) (h : Tabbed T H H') : SamTs Ts H H' := ⟨fun b o n e => by
    rw [h.2 b (fun z => n (z ▸ m))]; exact e, fun T' h' => by
    by_cases e : T' = T
    · rw [e]; exact h.1
    · obtain ⟨ps, q, g⟩ := t T' h'
      exact ⟨ps, by rw [h.2 T' e]; exact q, g⟩⟩
theorem SamTs.tup (t : TabsG Ts H) (s : SamTs Ts H H') : STup H H' := fun a xs e => s.1 a _ (t.outT e) e
theorem SamTs.new (s : SamTs Ts H0 H) (n : H p = none) : SamTs Ts H0 (upd H p o) := ⟨fun b u nb e => kn (s.1 b u nb e) n, s.2.new n⟩
theorem SamTs.own (t : TabsG Ts H0) (s : SamTs Ts H0 H) (n : H0 p = none) : SamTs Ts H0 (upd H p o) := by
  refine ⟨fun b u nb e => ?_, fun T h => ?_⟩
  · rw [upd_ne (ne_of_none e n)]
    exact s.1 b u nb e
  · obtain ⟨ps, q, g⟩ := s.2 T h
    have ne : T ≠ p := fun z => t.out n (z ▸ h)
    exact ⟨ps, by rw [upd_ne ne]; exact q, g⟩
theorem SamTs.sm (s : SamTs Ts H0 H) (h : Same H H') : SamTs Ts H0 H' := s.trans (SamTs.of s.2 h)
theorem SamTs.none (t : TabsG Ts H0) (s : SamTs Ts H0 H) (n : H p = Option.none) : H0 p = Option.none := by
  cases e : H0 p with
  | none => rfl
  | some u =>
    rw [s.1 p u (s.2.out n) e] at n
    cases n
theorem SamTs.lst (t : TabsG Ts H) (s : SamTs Ts H H') (h : H p = some (.lst xs)) : H' p = some (.lst xs) := s.1 _ _ (t.outL h) h
end
end Wk

set_option Elab.async false
set_option linter.all false
set_option maxRecDepth 100000
set_option maxHeartbeats 2000000
/-! all(test for x in text) where the test reads a captured text of the def. -/
namespace Wk
open PySem PySem.Spec PyProof.Rows L2 GxR
section
variable {X : Cx} {pins : List (Addr × Obj)} {σ : L2.St} {H : Hp} {s : Shared}
/-- the test of one sign c, in a frame whose cell for y holds the text z -/
def EltC (X : Cx) (scope : Scope) (x y : Str) (elt : Expr) (pb : Str → Nat → Bool) : Prop :=
  ∀ (z : Str) (ce : Env) (B : Around) (F : Value → Shared → Prop) (c : Nat) (t ty : Tok) (cy : Addr) (r : Shared) (m : Str → Option Value),
    ce.scope = scope → ce.cells.lookup y = some cy → r.heap.IsCell cy (some (.str z ty)) → r.heap.Ns ce.locals m → m x = some (.str ⟨#[c]⟩ t) →
    wpAny (model X.prog X.w) B (eval elt ce) (fun b r' => b = .bool (pb z c) ∧ Keeps r r') F r
/-- x in y, y captured -/
theorem elt_in {scope : Scope} {x y : Str} {p1 p2 p3 : Pos} (hk : scope.kind = .function) (hl : scope.names.lookup x = some .local) (hf : scope.names.lookup y = some .free)
    (hd : (x == ("__debug__" : Str)) = false := by decide) (hd2 : (y == ("__debug__" : Str)) = false := by decide) (hd3 : (y == ("__classdict__" : Str)) = false := by decide) :
    EltC X scope x y (.Compare (.Name x p1) [.In] [.Name y p2] p3) (fun z c => decide (c ∈ z.cps.toList)) := by
  intro z ce B F c t ty cy r m hs hc hcell hn hm
  have k1 : ce.scope.kind = .function := by rw [hs]; exact hk
  have k2 : ce.kindOf x = some .local := by show ce.scope.names.lookup x = _; rw [hs]; exact hl
  have k3 : ce.kindOf y = some .free := by show ce.scope.names.lookup y = _; rw [hs]; exact hf
  refine wpAny_Compare1 (wpAny_Name (wpAny_loadName_local k1 k2 hn hm ?_) hd)
  refine wpAny_Name (wpAny_loadName_free k1 k3 hc hcell ?_ hd3) hd2
  exact PyProof.Rows.in_str ⟨congrArg Value.bool (PySem.StrLaws.found_one z c), keeps_refl _⟩
/-- the reading: slot i holds the captured text -/
def tAllC (P : Addr) (i : Nat) (pb : Str → Nat → Bool) (te : TE) : TE := fun σ H Q => te σ H fun v H1 => ∃ a z : Str, v = .str a ∧ σ[i]? = some (some (.str z)) ∧ TabG H1 P ∧
  ∀ H2, Tabbed P H1 H2 → Q (.bl (a.cps.toList.all (pb z))) H2
theorem gen_cap {c P : Addr} {elt iter : Expr} {x y : Str} {px gpos : Pos} {scope : Scope} {pb : Str → Nat → Bool} {te : TE} {k i : Nat} {Q' : Value → Shared → Prop} {R : Str → Str → Hp → Prop}
    (hr : Room k X.A) (TB : GxR.TabB X.base X.mg c P) (hcode : X.env.code = .ref c) (S : GenS X.env scope x) (hN : X.N[i]? = some y) (hy : X.env.scope.names.lookup y = some .cell)
    (hcl : ∀ cells : List (Str × Addr), (cloFrom cells scope.names []).lookup y = some ((cells.lookup y).getD 0)) (hi : PE X iter te) (hel : EltC X scope x y elt pb)
    (hs : ∀ v, genFold iter X.env v = pure v) (I : Inv X pins σ H s) (h : te σ H fun v H1 => ∃ a z : Str, v = .str a ∧ σ[i]? = some (some (.str z)) ∧ TabG H1 P ∧ R a z H1)
    (hQ : ∀ a z H1 g s5, R a z H1 → Ready X pins σ H1 P a (pb z) g s5 → Q' (.ref g) s5) :
    wpAny (model X.prog X.w) X.A (eval (.GeneratorExp elt [⟨.Name x px, iter, [], 0⟩] scope gpos) X.env) Q' X.xe s := by
  refine wpAny_GeneratorExp_walksQ hr.hd S.co (closure_ok S.free) S.cell S.dot S.loc S.kind (by have := hr.dp; omega) ?_ hs
  refine thn (hi.run pins s σ H _ I h) fun xv s1 ⟨v, H1, I1, r1, q1⟩ => ?_
  obtain ⟨a, z, rfl, hz, ⟨ps, hP, ht⟩, q1⟩ := q1
  obtain ⟨t, rfl⟩ := _root_.id r1
  -- the captured cell
  obtain ⟨cy, ty, hcy, hcell⟩ : ∃ cy ty, X.env.cells.lookup y = some cy ∧ s1.heap.IsCell cy (some (.str z ty)) := by
    obtain ⟨m, hn, hl⟩ := I1.loc
    obtain ⟨u, ru, lk⟩ := hl i y (.str z) hN hz (.inr (.inl hy))
    obtain ⟨ty, rfl⟩ := _root_.id ru
    rcases lk with ⟨hk, _⟩ | ⟨_, cy, hcy, hcell⟩
    · have hk2 : X.env.scope.names.lookup y = some .local := hk
      rw [hy] at hk2
      cases hk2
    · exact ⟨cy, ty, hcy, hcell⟩
  refine wpAny_pyIter_str fun o St W hst => ?_
  have hPs : s1.heap.get? P = some { cls := .none, data := .fields ps } := I1.hok P _ hP
  have hPlt : P < s1.heap.objs.size := Heap.lt_size hPs
  have hP2 : (s1.heap.push o).get? P = some { cls := .none, data := .fields ps } := Heap.get?_push_of_some _ hPs
  have cd : PySem.W.CodeHd (s1.heap.push o) c P :=
    TB.code.keeps fun b u e => Heap.get?_push_of_some _ (I1.bk b u e)
  have lim2 : (s1.heap.push o).NoLimit := I1.nolimit.push o
  have cyP : cy ≠ P := fun e => by
    obtain ⟨oc, e1, e2⟩ := hcell
    rw [e, hPs] at e1
    cases e1
    cases e2
  -- what follows once the code object is there
  have go : ∀ (code : Value) (h3 : Heap) (tk : Nat) (ps' : Array Value), Heap.ExtBut P (s1.heap.push o) h3 →
      (s1.heap.push o).objs.size ≤ h3.objs.size → h3.get? P = some { cls := .none, data := .fields ps' } →
      (∃ more, ps' = ps ++ more) → TriplesOk ps'.toList →
      wpAny (model X.prog X.w) X.A (builtinsFor X.env.globals X.env.builtins) (fun bi s₄ =>
        ∃ Ia fp wr n₀ Pf St₀ pz F, Value.ref s1.heap.objs.size = .ref Ia ∧
          (∀ A' : Around, A'.handled = none → Walks X.prog X.w A' Ia fp wr n₀ Pf St₀) ∧ St₀ 0 s₄.heap ∧
          (∀ b ∈ fp, b < s₄.heap.objs.size) ∧ s₄.heap.NoLimit ∧ cStatics ∉ wr ∧
          (∀ href : Heap, (∀ b o, s₄.heap.get? b = some o → href.get? b = some o) →
            QuietGen X.prog X.w (genEnv scope (cloFrom X.env.cells scope.names []) s₄.heap.objs.size code bi X.env) x [] elt
              (List.range s₄.heap.objs.size) wr Pf pz F href) ∧
          (∀ a h₅ tk gs, gs.bare = true → s₄.heap.objs.size < a → h₅.objs.size = a + 1 →
            (∀ b o, s₄.heap.get? b = some o → h₅.get? b = some o) →
            WalksS X.prog X.w X.A.in4 a (a :: s₄.heap.objs.size :: List.range s₄.heap.objs.size) (s₄.heap.objs.size :: wr)
              (GenOnlyQ s₄.gens.size) (passing pz n₀ 0).length (fun j y => ∃ i, (passing pz n₀ 0)[j]? = some i ∧ F i y)
              (GenAt X.prog X.w X.A.in4 a s₄.gens.size s₄.heap.objs.size (List.range s₄.heap.objs.size) wr pz n₀ F) →
            GenAt X.prog X.w X.A.in4 a s₄.gens.size s₄.heap.objs.size (List.range s₄.heap.objs.size) wr pz n₀ F 0
              { s₄ with gens := s₄.gens.push gs, toks := tk, heap := h₅ } →
            Q' (.ref a) { s₄ with gens := s₄.gens.push gs, toks := tk, heap := h₅ })) X.xe { s1 with heap := h3, toks := tk } := by
    intro code h3 tk ps' hx hsz hP3 hmore ht3
    obtain ⟨bm, ob, e1, e2, e3, e4, e5, e6, e7, e8⟩ := TB.bm
    have hcP : cStatics ≠ P := fun e => by
      obtain ⟨_, hns, _⟩ := I1.nolimit
      obtain ⟨o', es, ep, ho, hd, _⟩ := hns
      rw [e, hPs] at ho
      cases ho
      cases hd
    have hcl2 : cStatics < s1.heap.objs.size := let ⟨_, hns, _⟩ := I1.nolimit; hns.lt
    have sz2 : (s1.heap.push o).objs.size = s1.heap.objs.size + 1 := Heap.size_push ..
    have keep3 : ∀ b u, b ≠ P → s1.heap.get? b = some u → h3.get? b = some u :=
      fun b u hb e => hx b u hb (Heap.get?_push_of_some _ e)
    refine wpAny_builtinsFor (m := X.mg) (by
      rw [I1.ok.glob]
      exact ((I1.mod.glob.keeps I1.bk).push o).extBut hx TB.gP) e1 e2 (keep3 _ _ e4 (I1.bk _ _ e5)) e6 e7 e8 ?_
    refine ⟨s1.heap.objs.size, [s1.heap.objs.size], [s1.heap.objs.size], a.cps.size, SignAt a, St, (fun _ => true),
      (fun i y => ∃ cc, a.cps[i]? = some cc ∧ y = .bool (pb z cc)), rfl, W, ?_, ?_, lim2.extBut hx hcP, ?_, ?_, ?_⟩
    · refine (W X.A hr.hd).frame _ _ _ hst fun b hb u e => hx b u (fun q => ?_) e
      rcases List.mem_cons.mp hb with q2 | q2
      · exact Nat.ne_of_lt hPlt (q.symm.trans q2)
      · cases q2
    · intro b hb
      rcases List.mem_cons.mp hb with q | q
      · rw [q]
        show s1.heap.objs.size < h3.objs.size
        omega
      · cases q
    · intro q
      rcases List.mem_cons.mp q with q | q
      · exact Nat.ne_of_lt hcl2 q
      · cases q
    · intro href hhref
      refine ⟨fun A' E' i v s₂ m₂ hA hPv hn hm hk => ?_, fun A' E' i v s₂ m₂ hA hPv hp hn hm hk => ?_⟩
      · simp only [List.forIn_nil]
        exact wpAny_pure ⟨rfl, keeps_refl _⟩
      · obtain ⟨cc, u, hcc, rfl⟩ := hPv
        obtain ⟨oc, c1, c2⟩ := hcell
        have sz3 : s1.heap.objs.size ≤ h3.objs.size := by omega
        have c3 := hk cy (List.mem_range.mpr (Nat.lt_of_lt_of_le (Heap.lt_size c1) sz3)) (fun q => by
            rcases List.mem_cons.mp q with q | q
            · exact absurd (Heap.lt_size c1) (by rw [q]; exact Nat.lt_irrefl _)
            · cases q) oc (hhref _ _ (keep3 _ _ cyP c1))
        have lk : (genEnv scope (cloFrom X.env.cells scope.names []) h3.objs.size code builtinsNs X.env).cells.lookup y = some cy := by
          show (cloFrom X.env.cells scope.names []).lookup y = some cy
          rw [hcl, hcy]
          rfl
        exact wpAny_mono (hel z _ A' E' cc u ty cy s₂ m₂ rfl lk ⟨oc, c3, c2⟩ hn hm) (fun y s3 r => ⟨⟨cc, hcc, r.1⟩, r.2⟩) fun _ _ e => e
    · intro g h5 tk5 gs hgb hag hsz5 hk5 W5 hat
      simp only [GxR.passing_true, List.length_range] at W5
      refine hQ a z H1 g _ q1 ⟨_, _, _, _, _, W5.in4_1, hat, ?_, fun s' hm => ?_⟩
      · intro j y sj Qj Ej hy2 hQj
        obtain ⟨i2, hij, cc, hcc, rfl⟩ := hy2
        obtain ⟨hj, ej⟩ := List.getElem?_eq_some_iff.mp hij
        rw [List.getElem_range] at ej
        subst ej
        have e9 : a.cps.toList[j]? = some cc := by
          rw [Array.getElem?_toList]
          exact hcc
        have hQ2 : Qj (trF (pb z) a.cps.toList j) sj := hQj
        rw [trF_some e9] at hQ2
        exact wpAny_truthy_bool hQ2
      · obtain ⟨more, em⟩ := hmore
        have nwr : ∀ b u, s1.heap.get? b = some u → b ∉ h3.objs.size :: [s1.heap.objs.size] := fun b u e hb => by
          have hl := Heap.lt_size e
          rcases List.mem_cons.mp hb with q | q
          · rw [q] at hl
            have h9 : (h3.objs.size : Nat) < s1.heap.objs.size := hl
            omega
          · rcases List.mem_cons.mp q with q | q
            · rw [q] at hl
              exact Nat.lt_irrefl _ hl
            · cases q
        have J := inv_tab (more := more) (h' := s'.heap) (g' := s'.gens) (d' := s'.drawn) (t' := s'.toks) I1 hP
          (fun b u hb e => hm.heap b u (nwr b u e) (hk5 b u (keep3 b u hb e)))
          (by rw [← em]; exact hm.heap P _ (nwr P _ hPs) (hk5 P _ hP3)) (AllBare.movedS (I1.bare.push hgb) hm)
        rw [sh_eta s1 s' hm.os] at J
        exact ⟨upd H1 P (.tbl (ps ++ more)), ⟨⟨ps ++ more, upd_same, by rw [← em]; exact ht3⟩, fun b hb => upd_ne hb⟩, J⟩
  refine ⟨lim2, ?_⟩
  cases hf : codeAmong gpos ps.toList with
  | none =>
    refine wpAny_genexprCodeX hcode (cd.code hP2 ht) (cd.tab hP2) hf fun c' h' tk hx hge hlt hco' _ htab' _ => ?_
    obtain ⟨o1, vs, f1, tf, fl, tg, inF, tx, tt, op, _, _, _, _, _, _, _, _, _, htr, _⟩ := hco'
    exact go _ h' tk _ hx (Nat.le_trans hge (Nat.le_of_lt hlt)) htab'.2 ⟨_, rfl⟩ htr
  | some cv =>
    refine wpAny_genexprCode_hit hcode (cd.code hP2 ht) hf ?_
    exact go cv (s1.heap.push o) s1.toks ps (Heap.ExtBut.refl _ _) (Nat.le_refl _) hP2 ⟨#[], by simp⟩ ht
theorem pe_allC {c P : Addr} {elt iter : Expr} {x y : Str} {px p pos gpos : Pos} {scope : Scope} {pb : Str → Nat → Bool} {te : TE} {k i : Nat}
    (hr : Room k X.A) (hg : Gl X "all") (hm : X.mg "all" = none) (hb : bootBuiltins "all" = some (.builtin "all")) (TB : GxR.TabB X.base X.mg c P) (hcode : X.env.code = .ref c) (S : GenS X.env scope x)
    (hN : X.N[i]? = some y) (hy : X.env.scope.names.lookup y = some .cell) (hcl : ∀ cells : List (Str × Addr), (cloFrom cells scope.names []).lookup y = some ((cells.lookup y).getD 0))
    (hi : PE X iter te) (hel : EltC X scope x y elt pb) (hs : ∀ v, genFold iter X.env v = pure v)
    (he : starEach [.GeneratorExp elt [⟨.Name x px, iter, [], 0⟩] scope gpos] X.env = (false, eval (.GeneratorExp elt [⟨.Name x px, iter, [], 0⟩] scope gpos) X.env) :: starEach [] X.env := by rfl) :
    PE X (.Call (.Name "all" p) [.GeneratorExp elt [⟨.Name x px, iter, [], 0⟩] scope gpos] [] pos) (tAllC P i pb te) := by
  refine ⟨fun pins s σ H Q I h => ?_⟩
  refine wpAny_Call_Name_kw (ld_blt I hg hm hb (PyProof.Rows.callWith_builtin1 ?_ he (by rfl)))
  rw [he]
  show wpAny _ _ (spliced ((false, eval (.GeneratorExp elt [⟨.Name x px, iter, [], 0⟩] scope gpos) X.env) :: backTo pos (starEach [] X.env))) _ _ s
  refine Calls.spliced_cons (gen_cap (i := i) (y := y) (R := fun a z H1 => ∀ H2, Tabbed P H1 H2 → Q (.bl (a.cps.toList.all (pb z))) H2)
    hr TB hcode S hN hy hcl hi hel hs I h fun a z H1 g s5 hR hG => ?_)
  obtain ⟨fp, wr, G, F, St, W, hst, htr, hI⟩ := hG
  refine Calls.spliced_nil (call_all_walkS (W.self 0 _ _ _ hst ⟨g, fp, wr, G, _, F, St, _, rfl, W, hst, htr, fun s' hmv => ?_⟩))
  obtain ⟨H2, hT, J⟩ := hI s' hmv
  refine ⟨.bl _, H2, J, rfl, ?_⟩
  rw [all_signs a (pb z)]
  exact hR H2 hT
end
end Wk

set_option Elab.async false
set_option linter.all false
set_option maxRecDepth 100000
set_option maxHeartbeats 2000000
/-! Names: what is computed, and promises. -/
namespace Wk
open PySem PySem.Spec PyProof.Rows L2 GxR
abbrev fg : Str := "0123456789"
def wordB (z s : Str) : Bool := decide (1 ≤ z.length) && (decide (z.length ≤ 6) && z.cps.toList.all fun c => decide (c ∈ s.cps.toList))
def takenV : List V := [.str "in", .str "out", .str "open", .str "new"]
def nameB (z : Str) : Bool := !inV (.str z) takenV && wordB z abc
def nmV : V → Bool
  | .str z => nameB z
  | _ => false
inductive Thing (H : Hp) : V → Prop where
  | str (z : Str) (h : z.length ≤ 1000) : Thing H (.str z)
  | non : Thing H .non
  | int (i : Int) : Thing H (.int i)
  | bl (b : Bool) : Thing H (.bl b)
  | lst {a : Addr} {xs : List V} (e : H a = some (.lst xs)) : Thing H (.ref a)
  | tup {a : Addr} {xs : List V} (e : H a = some (.tup xs)) : Thing H (.ref a)
  | dct {a : Addr} {xs : List (Key × V)} (e : H a = some (.dK xs)) : Thing H (.ref a)
def strish : V → Bool
  | .str _ => true
  | _ => false
theorem Thing.ty {K : PySem.W.Frag} {H : Hp} {v : V} (h : Thing H v) : ∃ t : String, TyX K H v (.type t) ∧ PySem.W.kitOne K (.type t) (.type "str") = some (strish v) := by
  cases h with
  | str z h => exact ⟨_, .base (.str z), kit_ty (show kitB "str" "str" = some true by decide +kernel)⟩
  | non => exact ⟨_, .base .non, kit_ty (show kitB "NoneType" "str" = some false by decide +kernel)⟩
  | int i => exact ⟨_, .base (.int i), kit_ty (show kitB "int" "str" = some false by decide +kernel)⟩
  | bl b => exact ⟨_, .base (.bl b), kit_ty (show kitB "bool" "str" = some false by decide +kernel)⟩
  | lst e => exact ⟨_, .base (.lst e), kit_ty (show kitB "list" "str" = some false by decide +kernel)⟩
  | tup e => exact ⟨_, .base (.tup e), kit_ty (show kitB "tuple" "str" = some false by decide +kernel)⟩
  | dct e => exact ⟨_, .base (.dK e), kit_ty (show kitB "dict" "str" = some false by decide +kernel)⟩
theorem Thing.cases {H : Hp} {v : V} (h : Thing H v) : (∃ z : Str, v = .str z ∧ z.length ≤ 1000) ∨ (strish v = false ∧ nmV v = false) := by
  cases h with
  | str z h => exact .inl ⟨z, rfl, h⟩
  | _ => exact .inr ⟨rfl, rfl⟩
def spWord (Ts : List Addr) : Sp := fun vs H Q _ => ∃ z s : Str, vs = [.str z, .str s] ∧ z.length ≤ 1000 ∧ TabsG Ts H ∧ ∀ H', SamTs Ts H H' → Q (.bl (wordB z s)) H'
def spName (Ts : List Addr) (g : V → Bool) : Sp := fun vs H Q _ => ∃ v : V, vs = [v] ∧ Thing H v ∧ TabsG Ts H ∧ ∀ H', SamTs Ts H H' → Q (.bl (g v)) H'
/-! drawn names are names -/
theorem name_len {j : Nat} {z : Str} (h : NameOf j z) : z.length ≤ 6 ∧ 1 ≤ z.length := by
  obtain ⟨r, e, h1, _⟩ := h
  have : z.length = z.cps.toList.length := (Array.length_toList).symm
  rw [this, e, List.length_cons]
  omega
theorem name_word {j : Nat} {z : Str} (h : NameOf j z) (hj : j < 26) : wordB z abc = true := by
  obtain ⟨l1, l2⟩ := name_len h
  obtain ⟨r, e, h1, h2⟩ := h
  have va : ∀ c ∈ vow.cps.toList, c ∈ abc.cps.toList := by decide +kernel
  have ja : 97 + j ∈ abc.cps.toList := List.mem_of_getElem? (abc_at j hj)
  unfold wordB
  rw [decide_eq_true l2, decide_eq_true l1, Bool.true_and, Bool.true_and, List.all_eq_true]
  intro c hc
  rw [e] at hc
  rcases List.mem_cons.mp hc with q | q
  · rw [q]; exact decide_eq_true ja
  · exact decide_eq_true (va c (h2 c q))
/-! the second sign of a drawn name is a vowel, x, y or z: it is none of the four words -/
theorem name_free {j : Nat} {z : Str} (h : NameOf j z) : inV (.str z) takenV = false := by
  obtain ⟨r, e, h1, h2⟩ := h
  have no : ∀ (t : Str) (c : Nat), c ∈ t.cps.toList.drop 1 → c ∉ vow.cps.toList → z ≠ t := by
    intro t c hc hv ez
    rw [← ez, e] at hc
    exact hv (h2 c hc)
  have n1 : z ≠ "in" := no "in" 110 (by decide +kernel) (by decide +kernel)
  have n2 : z ≠ "out" := no "out" 116 (by decide +kernel) (by decide +kernel)
  have n3 : z ≠ "open" := no "open" 112 (by decide +kernel) (by decide +kernel)
  have n4 : z ≠ "new" := no "new" 119 (by decide +kernel) (by decide +kernel)
  have e5 : takenV = (["in", "out", "open", "new"] : List Str).map V.str := rfl
  rw [e5, inV_strs]
  exact decide_eq_false (by simp [n1, n2, n3, n4])
theorem name_ok {j : Nat} {z : Str} (h : NameOf j z) (hj : j < 26) : nameB z = true := by
  unfold nameB
  rw [name_free h, name_word h hj]
  rfl
end Wk

set_option Elab.async false
set_option linter.all false
set_option maxRecDepth 100000
set_option maxHeartbeats 2000000
/-! d.get(x) of a dict that the module wrote, its keys texts. -/
namespace Wk
open PySem PySem.Spec PyProof.Rows L2 GxR
/-- at a: a written dict in which x has r -/
def KGot (K : PySem.W.Frag) (w : World) (a : Addr) : Prop := ∃ es n, K.lookup a = some ⟨.type "dict", none, .dict es n, #[]⟩ ∧ PySem.W.KeysLit w.params es.toList ∧ (a == sysModules) = false
def tKGet (K : PySem.W.Frag) (w : World) (td ty : TE) : TE := fun σ H Q => td σ H fun x H1 => ∃ a, x = .ref a ∧ KGot K w a ∧ ty σ H1 fun y H2 => ∃ (z : Str) (r : Option Value) (v0 : V), y = .str z ∧ PySem.W.nsIn K a z = some r ∧ RelV v0 (r.getD .none) ∧ Q v0 H2
section
variable {X : Cx} {o e : Expr} {apos cpos : Pos} {td ty : TE}
theorem pe_kget (ho : PE X o td) (he : PE X e ty) (m : M1 X o "get" apos e cpos) : PE X (.Call (.Attribute o "get" apos) [e] [] cpos) (tKGet X.K X.w td ty) := by
  refine ⟨fun pins s σ H Q I h => ?_⟩
  refine wpAny_Call_method m.base m.few m.line PySem.F.plainAttrs_dict PySem.F.slot_dict_get PySem.F.type_dict_get (thn (ho.run pins s σ H _ I h) fun u s1 ⟨x, H1, I1, rx, a, ex, d, q1⟩ => ?_)
  subst ex
  obtain rfl : u = Value.ref a := rx
  obtain ⟨es, n, hl, hk, low⟩ := d
  have mp := fun (s : Shared) (k : X.K.In s.heap) => PySem.W.mapOf_K (prog := X.prog) (w := X.w) k hl hk
  refine ⟨(mp s1 I1.kIn).typeIs, fun b eb => ?_, ?_⟩
  · cases eb
    exact ⟨_, I1.kIn _ _ hl, rfl⟩
  rw [m.trees]
  refine Calls.callWith_builtin rfl (Calls.evalArgs_plain (Calls.spliced_cons (thn (he.run pins s1 σ H1 _ I1 q1) fun iv s2 ⟨y, H2, I2, ry, z, r, v0, ey, g, rv, q2⟩ => Calls.spliced_nil ?_)))
  subst ey
  obtain ⟨t, rfl⟩ := (show ∃ t, iv = Value.str z t from ry)
  refine call_meetsIn PySem.F.slot_dict_get (mp s2 I2.kIn).typeIs PySem.F.entry_dict_get (PySem.F.args_dict_get_2 _ _) (meets_dict_get (strKind X.prog X.w) a (strKind_is X.prog X.w z t) low) ⟨_, mp s2 I2.kIn, ?_⟩
  rw [PySem.W.find_K hl g]
  exact ⟨v0, H2, I2.tok _, rv, q2⟩
end
end Wk

set_option Elab.async false
set_option linter.all false
set_option maxRecDepth 100000
set_option maxHeartbeats 2000000
/-! What is a house: levels of rows, promises. -/
namespace Wk
open PySem PySem.Spec PyProof.Rows L2 GxR
/-- how many things a part has -/
def szP : Part → Nat
  | .say _ => 2
  | .again _ => 2
  | .oth _ _ _ => 3
def NmOk (n : Str) : Prop := nameB n = true ∧ n.length ≤ 1000
/-- parts and their rests, level by level -/
def flL (ls : List (List Part)) : List Part := ls.flatten
def nxL (ls : List (List Part)) : List (List Part) := (flL ls).map restP
theorem flL_cons (r : List Part) (ls : List (List Part)) : flL (r :: ls) = r ++ flL ls := rfl
theorem sizeR_rests : ∀ r : List Part, sizeR r = r.length + sizeL (r.map restP)
  | [] => rfl
  | p :: r => by
    have h := sizeR_rests r
    have s := size_rest p
    show sizeP p + sizeR r = r.length + 1 + (sizeR (restP p) + sizeL (r.map restP))
    omega
theorem sizeL_rests : ∀ ls : List (List Part), sizeL ls = (flL ls).length + sizeL (nxL ls)
  | [] => rfl
  | r :: ls => by
    have h := sizeL_rests ls
    have h2 := sizeR_rests r
    show sizeR r + sizeL ls = (r ++ flL ls).length + sizeL ((r ++ flL ls).map restP)
    rw [List.length_append, List.map_append, sizeL_app]
    have e : sizeL (nxL ls) = sizeL ((flL ls).map restP) := rfl
    omega
theorem deepR_rests : ∀ r : List Part, deepL (r.map restP) ≤ deepR r - 1
  | [] => Nat.le_refl _
  | p :: r => by
    have h := deepR_rests r
    have d := deep_rest p
    show max (deepR (restP p)) (deepL (r.map restP)) ≤ max (deepP p) (deepR r) - 1
    omega
theorem deepL_rests : ∀ ls : List (List Part), deepL (nxL ls) ≤ deepL ls - 1
  | [] => Nat.le_refl _
  | r :: ls => by
    have h := deepL_rests ls
    have h2 := deepR_rests r
    show deepL ((r ++ flL ls).map restP) ≤ max (deepR r) (deepL ls) - 1
    rw [List.map_append, deepL_app]
    have e : deepL (nxL ls) = deepL ((flL ls).map restP) := rfl
    omega
theorem deep_posP : ∀ p : Part, 1 ≤ deepP p := fun p => by
  have := deep_rest p
  omega
theorem deepL_pos : ∀ ls : List (List Part), flL ls ≠ [] → 1 ≤ deepL ls
  | [], h => absurd rfl h
  | [] :: ls, h => by
    have := deepL_pos ls h
    show 1 ≤ max (deepR []) (deepL ls)
    omega
  | (p :: r) :: ls, h => by
    have := deep_posP p
    show 1 ≤ max (max (deepP p) (deepR r)) (deepL ls)
    omega
def okLs (f : Str → Prop) (ls : List (List Part)) : Prop := ∀ r ∈ ls, okR f r
theorem okLs.parts {f : Str → Prop} {ls : List (List Part)} (h : okLs f ls) : ∀ p ∈ flL ls, okP f p := fun p hp => by
  obtain ⟨r, hr, hp⟩ := List.mem_flatten.mp hp
  exact (h r hr).mem p hp
theorem okLs.next {f : Str → Prop} {ls : List (List Part)} (h : okLs f ls) : okLs f (nxL ls) := fun r hr => by
  obtain ⟨p, hp, rfl⟩ := List.mem_map.mp hr
  exact rest_ok (h.parts p hp)
theorem len_sum : ∀ (ls : List (List Part)) (i : Nat), i ≤ ls.length → preSum (fun j => ((ls[j]?).elim (0 : Int) fun r => (r.length : Nat))) i = ((flL (ls.take i)).length : Nat)
  | ls, 0, _ => by simp [preSum, flL]
  | ls, i + 1, h => by
    have hi : i < ls.length := h
    rw [preSum, len_sum ls i (Nat.le_of_lt hi), List.take_add_one, List.getElem?_eq_getElem hi]
    unfold flL
    rw [List.flatten_append, List.length_append]
    simp
theorem flL_take (ls : List (List Part)) (i : Nat) : (flL (ls.take i)).length ≤ (flL ls).length := by
  have e : flL ls = flL (ls.take i) ++ flL (ls.drop i) := by
    unfold flL
    rw [← List.flatten_append, List.take_append_drop]
  rw [e, List.length_append]
  omega
def spForm : Sp := fun vs H Q _ => ∃ (v : V) (p : Part), vs = [v] ∧ PartAt H p v ∧ Q (.bl true) H
def spNPart (Ts : List Addr) : Sp := fun vs H Q _ => ∃ (v : V) (p : Part), vs = [v] ∧ PartAt H p v ∧ okP NmOk p ∧ TabsG Ts H ∧ ∀ H', SamTs Ts H H' → Q (.bl true) H'
def spSmall (Ts : List Addr) : Sp := fun vs H Q _ => ∃ (v : V) (r : List Part), vs = [v] ∧ RowAt H r v ∧ okR NmOk r ∧ sizeR r ≤ 400 ∧ deepR r ≤ 24 ∧ TabsG Ts H ∧ ∀ H', SamTs Ts H H' → Q (.bl true) H'
/-- a row that is a house -/
structure HouseR (r : List Part) : Prop where
  ok : okR NmOk r
  size : sizeR r ≤ 400
  deep : deepR r ≤ 24
  nd : (bdR r).Nodup
  apart : ∀ x ∈ bdR r, x ∉ frR [] r
def spHouse (Ts : List Addr) (n : Nat) : Sp := fun vs H Q _ => ∃ (v : V) (r : List Part), vs = [v] ∧ RowAt H r v ∧ HouseR r ∧ deepR r < n ∧ TabsG Ts H ∧ ∀ H', SamTs Ts H H' → Q (.bl true) H'
end Wk
namespace Wk
open PySem PySem.Spec PyProof.Rows L2 GxR
theorem FunC.okN {P : Program} {w : World} {K : PySem.W.Frag} {mg : Str → Option Value} {base : Heap} {x qual : Str} {st : Stmt} {f c : Addr} {fd : FuncData} {N ps : List Str} {k : Nat} {sp : Sp} (F : FunC K x qual st f c fd) (S : FnScope N ps (defScope st))
    (len : ∀ vs H Q E, sp vs H Q E → vs.length = ps.length)
    (hb : ∀ (A : Around) (outer : List Env) (s : Shared) (H : Hp) (vs : List V) (Q : VK) (E : XK), Room k (A.deeper (envOfC qual (defScope st) s.heap.objs.size f (.ref c))) → sp vs H Q E →
      ∃ t, PSs (cxOf CX0 P w K mg base N qual (defScope st) f (.ref c) A outer s H E).nox (defBody st) t ∧ t { nx := fun _ H' => Q .non H', rt := Q } (start N vs) H) : FnOk P w K mg base CX0 (k + 1) f fd ps sp :=
  F.ok S len fun A outer s H vs Q E hr h => by
    obtain ⟨t, g, q⟩ := hb A outer s H vs Q E hr h
    exact ⟨t, g.nox, q⟩
end Wk

set_option Elab.async false
set_option linter.all false
set_option maxRecDepth 100000
set_option maxHeartbeats 2000000
/-! Rows freed: what is computed, and what stays true. -/
namespace Wk
open PySem PySem.Spec PyProof.Rows L2 GxR
theorem emp_app (x : Str) : Str.empty ++ x = x := by
  refine Str.ext' (Array.toList_inj.mp ?_)
  rw [app_codes]
  rfl
/-- the private name with base x and number k -/
def priv (x : Str) (k : Nat) : Str := x ++ "." ++ Str.ofString (toString (k : Int))
/-- one part freed, where f frees rows -/
def frdP (f : Nat → List Part → Nat × List Part) (k : Nat) : Part → Nat × List Part
  | .say n => (k, [.say n])
  | .again r => (k, [.again r])
  | .oth w n r => match w with
    | .room => ((f k r).1, [.oth .room n (f k r).2])
    | .new => f (k + 1) (calledR n (priv n k) r)
    | w => (k, [.oth w n r])
def frdL (f : Nat → List Part → Nat × List Part) : Nat → List Part → Nat × List Part
  | k, [] => (k, [])
  | k, p :: r => ((frdL f (frdP f k p).1 r).1, (frdP f k p).2 ++ (frdL f (frdP f k p).1 r).2)
def frdR : Nat → Nat → List Part → Nat × List Part
  | 0, k, r => (k, r)
  | n + 1, k, r => frdL (frdR n) k r
theorem frdL_snoc (f : Nat → List Part → Nat × List Part) : ∀ (r : List Part) (k : Nat) (p : Part), frdL f k (r ++ [p]) = ((frdP f (frdL f k r).1 p).1, (frdL f k r).2 ++ (frdP f (frdL f k r).1 p).2)
  | [], k, p => by
    show ((frdP f k p).1, (frdP f k p).2 ++ []) = ((frdP f k p).1, [] ++ (frdP f k p).2)
    rw [List.append_nil, List.nil_append]
  | q :: r, k, p => by
    show ((frdL f (frdP f k q).1 (r ++ [p])).1, (frdP f k q).2 ++ (frdL f (frdP f k q).1 (r ++ [p])).2) = _
    rw [frdL_snoc f r (frdP f k q).1 p]
    show (_, (frdP f k q).2 ++ (_ ++ _)) = (_, ((frdP f k q).2 ++ _) ++ _)
    rw [List.append_assoc]
    rfl
mutual
/-- no part that is open is a new -/
def nnP : Part → Prop
  | .say _ => True
  | .again _ => True
  | .oth w _ r => w ≠ .new ∧ (w = .room → nnR r)
def nnR : List Part → Prop
  | [] => True
  | p :: r => nnP p ∧ nnR r
end
theorem nnR_app : ∀ {r q : List Part}, nnR r → nnR q → nnR (r ++ q)
  | [], q, _, g => g
  | p :: r, q, h, g => ⟨h.1, nnR_app h.2 g⟩
theorem nnR.mem : ∀ {r : List Part}, nnR r → ∀ p ∈ r, nnP p
  | [], _, p, hp => nomatch hp
  | q :: r, h, p, hp => by
    rcases List.mem_cons.mp hp with e | e
    · rw [e]; exact h.1
    · exact nnR.mem h.2 p e
/-- what is freed is freed -/
theorem frdR_id : ∀ (n k : Nat) (r : List Part), nnR r → frdR n k r = (k, r)
  | 0, k, r, _ => rfl
  | n + 1, k, r, h => by
    show frdL (frdR n) k r = (k, r)
    induction r with
    | nil => rfl
    | cons p r ih =>
      have e : frdP (frdR n) k p = (k, [p]) := by
        cases p with
        | say m => rfl
        | again q => rfl
        | oth w m q =>
          obtain ⟨h1, h2⟩ := h.1
          cases w with
          | room =>
            show ((frdR n k q).1, [Part.oth .room m (frdR n k q).2]) = _
            rw [frdR_id n k q (h2 rfl)]
          | new => exact absurd rfl h1
          | _ => rfl
      show ((frdL (frdR n) (frdP (frdR n) k p).1 r).1, (frdP (frdR n) k p).2 ++ (frdL (frdR n) (frdP (frdR n) k p).1 r).2) = _
      rw [e]
      dsimp only
      rw [ih h.2]
      rfl
/-! ### what stays -/
/-- names short, bound ones shorter and each bound once -/
structure Gd (r : List Part) : Prop where
  ok : okR (Sh 30) r
  sh : ∀ x ∈ bdR r, Sh 6 x
  nd : (bdR r).Nodup
structure FrOk (k : Nat) (r : List Part) (o : Nat × List Part) : Prop where
  lo : k ≤ o.1
  hi : o.1 ≤ k + sizeR r
  deep : deepR o.2 ≤ deepR r
  size : sizeR o.2 ≤ sizeR r
  bd : (bdR o.2).Sublist (bdR r)
  ok : okR (Sh 30) o.2
  nn : nnR o.2
theorem FrOk.gd {k : Nat} {r : List Part} {o : Nat × List Part} (h : FrOk k r o) (g : Gd r) : Gd o.2 := ⟨h.ok, fun x hx => g.sh x (h.bd.subset hx), h.bd.nodup g.nd⟩
theorem priv_sh {x : Str} {k : Nat} (h : Sh 6 x) (hk : k < 10 ^ 10) : Sh 30 (priv x k) := by
  have shd : Sh 1 "." := by unfold Sh; decide +kernel
  have shn : Sh 10 (Str.ofString (toString (k : Int))) := num_sh (by omega) (by omega)
  exact ((h.app shd).app shn).mono (by decide)
theorem Gd.tail {p : Part} {r : List Part} (g : Gd (p :: r)) : Gd r := ⟨g.ok.2, fun x hx => g.sh x (List.mem_append_right _ hx), (List.nodup_append.mp (show (bdP p ++ bdR r).Nodup from g.nd)).2.1⟩
theorem Gd.head {p : Part} {r : List Part} (g : Gd (p :: r)) : Gd [p] := ⟨⟨g.ok.1, trivial⟩, fun x hx => g.sh x (by
    have : bdR [p] = bdP p := List.append_nil _
    rw [this] at hx
    exact List.mem_append_left _ hx), by
    have : bdR [p] = bdP p := List.append_nil _
    rw [this]
    exact (List.nodup_append.mp (show (bdP p ++ bdR r).Nodup from g.nd)).1⟩
theorem Gd.mem : ∀ {r : List Part}, Gd r → ∀ p ∈ r, Gd [p]
  | q :: r, g, p, hp => by
    rcases List.mem_cons.mp hp with e | e
    · rw [e]; exact g.head
    · exact Gd.mem g.tail p e
theorem Gd.rest {p : Part} (g : Gd [p]) : Gd (restP p) := by
  have e : bdR [p] = bdP p := List.append_nil _
  refine ⟨rest_ok g.ok.1, fun x hx => g.sh x (by rw [e]; exact rest_bd hx), ?_⟩
  have h := g.nd
  rw [e, bdP_eq] at h
  exact (List.nodup_append.mp h).2.1
theorem Gd.out {w : Wd} {x : Str} {r : List Part} (g : Gd [.oth w x r]) (hw : w.binds = true) : x ∉ bdR r ∧ Sh 6 x := by
  have e : bdR [.oth w x r] = x :: bdR r := by
    show ((if w.binds then [x] else []) ++ bdR r) ++ [] = _
    rw [if_pos hw, List.append_nil]
    rfl
  have h := g.nd
  have s := g.sh
  rw [e] at h s
  exact ⟨(List.nodup_cons.mp h).1, s x List.mem_cons_self⟩
theorem Gd.called {x c : Str} {r : List Part} (g : Gd r) (hx : x ∉ bdR r) (hc : Sh 30 c) : Gd (calledR x c r) := by
  have e : bdR (calledR x c r) = bdR r := by rw [called_lcR r hx]; exact lc_bdR r hx
  refine ⟨calledR_ok x c hc r g.ok, ?_, ?_⟩
  · rw [e]; exact g.sh
  · rw [e]; exact g.nd
theorem frd_ok : ∀ (n k : Nat) (r : List Part), deepR r ≤ n → Gd r → k + sizeR r < 10 ^ 10 → FrOk k r (frdR n k r)
  | 0, k, r, hd, g, hk => by
    have e : r = [] := by
      cases r with
      | nil => rfl
      | cons p r =>
        have := deep_rest p
        have h2 : max (deepP p) (deepR r) ≤ 0 := hd
        omega
    subst e
    exact ⟨Nat.le_refl _, Nat.le_refl _, Nat.le_refl _, Nat.le_refl _, List.Sublist.refl _, trivial, trivial⟩
  | n + 1, k, r, hd, g, hk => by
    show FrOk k r (frdL (frdR n) k r)
    induction r generalizing k with
    | nil => exact ⟨Nat.le_refl _, Nat.le_refl _, Nat.le_refl _, Nat.le_refl _, List.Sublist.refl _, trivial, trivial⟩
    | cons p r ih =>
      have hd' : max (deepP p) (deepR r) ≤ n + 1 := hd
      have hk' : k + (sizeP p + sizeR r) < 10 ^ 10 := hk
      have g1 := g.head
      have d2 := deep_rest p
      have s2 := size_rest p
      have one : FrOk k [p] (frdP (frdR n) k p) := by
        cases p with
        | say m => exact ⟨Nat.le_refl _, Nat.le_add_right _ _, Nat.le_refl _, Nat.le_refl _, List.Sublist.refl _, g1.ok, trivial, trivial⟩
        | again q => exact ⟨Nat.le_refl _, Nat.le_add_right _ _, Nat.le_refl _, Nat.le_refl _, List.Sublist.refl _, g1.ok, trivial, trivial⟩
        | oth w m q =>
          have v1 : deepR (restP (Part.oth w m q)) = deepR q := rfl
          have v2 : sizeR (restP (Part.oth w m q)) = sizeR q := rfl
          have z1 : sizeR [Part.oth w m q] = sizeR q + 1 := rfl
          have z2 : deepR [Part.oth w m q] = deepR q + 1 := by show max (deepR q + 1) 0 = _; omega
          cases w with
          | room =>
            have f := frd_ok n k q (by omega) g1.rest (by omega)
            refine ⟨f.lo, by have := f.hi; show (frdR n k q).1 ≤ _; omega, ?_, ?_, ?_, ⟨⟨g1.ok.1.1, f.ok⟩, trivial⟩, ⟨⟨(fun e => by cases e), fun _ => f.nn⟩, trivial⟩⟩
            · have := f.deep
              show max (deepR (frdR n k q).2 + 1) 0 ≤ _
              omega
            · have := f.size
              show sizeR (frdR n k q).2 + 1 ≤ _
              omega
            · show (bdR [Part.oth .room m (frdR n k q).2]).Sublist (bdR [Part.oth .room m q])
              have e1 : ∀ t, bdR [Part.oth .room m t] = bdR t := fun t => by
                show ([] ++ bdR t) ++ [] = _
                rw [List.append_nil]; rfl
              rw [e1, e1]
              exact f.bd
          | new =>
            obtain ⟨hx, hs⟩ := g1.out rfl
            have eb : bdR (calledR m (priv m k) q) = bdR q := by rw [called_lcR q hx]; exact lc_bdR q hx
            have f := frd_ok n (k + 1) (calledR m (priv m k) q) (by rw [calledR_deep]; omega) (g1.rest.called hx (priv_sh hs (by omega))) (by rw [calledR_size]; omega)
            have fl := f.lo
            have fh := f.hi
            have fd := f.deep
            have fs := f.size
            rw [calledR_size] at fh fs
            rw [calledR_deep] at fd
            refine ⟨?_, ?_, ?_, ?_, ?_, f.ok, f.nn⟩
            · show k ≤ (frdR n (k + 1) (calledR m (priv m k) q)).1; omega
            · show (frdR n (k + 1) (calledR m (priv m k) q)).1 ≤ _; omega
            · show deepR (frdR n (k + 1) (calledR m (priv m k) q)).2 ≤ _; omega
            · show sizeR (frdR n (k + 1) (calledR m (priv m k) q)).2 ≤ _; omega
            · have b := f.bd
              rw [eb] at b
              show (bdR (frdR n (k + 1) (calledR m (priv m k) q)).2).Sublist ((m :: bdR q) ++ [])
              rw [List.append_nil]
              exact b.cons m
          | inn => exact ⟨Nat.le_refl _, Nat.le_add_right _ _, Nat.le_refl _, Nat.le_refl _, List.Sublist.refl _, g1.ok, ⟨(fun e => by cases e), (fun e => by cases e)⟩, trivial⟩
          | out => exact ⟨Nat.le_refl _, Nat.le_add_right _ _, Nat.le_refl _, Nat.le_refl _, List.Sublist.refl _, g1.ok, ⟨(fun e => by cases e), (fun e => by cases e)⟩, trivial⟩
          | opn => exact ⟨Nat.le_refl _, Nat.le_add_right _ _, Nat.le_refl _, Nat.le_refl _, List.Sublist.refl _, g1.ok, ⟨(fun e => by cases e), (fun e => by cases e)⟩, trivial⟩
          | hear => exact ⟨Nat.le_refl _, Nat.le_add_right _ _, Nat.le_refl _, Nat.le_refl _, List.Sublist.refl _, g1.ok, ⟨(fun e => by cases e), (fun e => by cases e)⟩, trivial⟩
      have o1 := one.lo
      have o2 := one.hi
      have o3 := one.deep
      have o4 := one.size
      have z1 : sizeR [p] = sizeP p := by show sizeP p + 0 = _; omega
      have z2 : deepR [p] = deepP p := by show max (deepP p) 0 = _; omega
      rw [z1] at o2 o4
      rw [z2] at o3
      have tl := ih (frdP (frdR n) k p).1 (by omega) g.tail (by omega)
      have t1 := tl.lo
      have t2 := tl.hi
      have t3 := tl.deep
      have t4 := tl.size
      refine ⟨?_, ?_, ?_, ?_, ?_, okR_app one.ok tl.ok, nnR_app one.nn tl.nn⟩
      · show k ≤ (frdL (frdR n) (frdP (frdR n) k p).1 r).1; omega
      · show (frdL (frdR n) (frdP (frdR n) k p).1 r).1 ≤ k + (sizeP p + sizeR r); omega
      · show deepR ((frdP (frdR n) k p).2 ++ (frdL (frdR n) (frdP (frdR n) k p).1 r).2) ≤ max (deepP p) (deepR r)
        rw [deepR_app]; omega
      · show sizeR ((frdP (frdR n) k p).2 ++ (frdL (frdR n) (frdP (frdR n) k p).1 r).2) ≤ sizeP p + sizeR r
        rw [sizeR_app]; omega
      · show (bdR ((frdP (frdR n) k p).2 ++ (frdL (frdR n) (frdP (frdR n) k p).1 r).2)).Sublist (bdP p ++ bdR r)
        rw [bdR_app]
        have b1 := one.bd
        rw [show bdR [p] = bdP p from List.append_nil _] at b1
        exact b1.append tl.bd
end Wk

set_option Elab.async false
set_option linter.all false
set_option maxRecDepth 100000
set_option maxHeartbeats 2000000
/-! xs.extend(a tuple). -/
namespace Wk
open PySem PySem.Spec PyProof.Rows L2 GxR
theorem ext_tup (l : Addr) (us : Array Value) (n : Nat) (b : Addr) (vs : Array Value) (m : Nat) (dd : Option Addr) (sl : Array (Option Value)) (h0 : ¬(!us.isEmpty && Builtin.List.listTooLong (us.size + vs.size)) = true) (h1 : us.size ≤ sizeLine) (h2 : us.size + vs.size ≤ sizeLine + 1) :
    Meets (Builtin.«list.extend» ⟨[.ref l, .ref b], []⟩) (fun _ R s => s.heap.get? l = some ⟨.type "list", none, .seq us n, #[]⟩ ∧ s.heap.get? b = some ⟨.type "tuple", dd, .seq vs m, sl⟩ ∧ R (.ok (.ret Value.none)) { s with heap := s.heap.update l (Obj.mapSeq fun x => x ++ vs), toks := s.toks }) := by
  refine .of_wp fun prog w A R s h => ?_
  obtain ⟨hp, g, d, tk, os⟩ := s
  obtain ⟨hl, hb, h⟩ := h
  have hz' : (us ++ vs).size ≤ sizeLine + 1 := by rw [Array.size_append]; exact h2
  wp_walk using (wpAny_updateSeq hl rfl (hz := h1) (_hz' := hz')), AutoSeq1.wpAny_loadPart' hl, AutoSeq1.wpAny_loadPart' hb
  exact ⟨_, rfl, h⟩
def rExtT (K : PySem.W.Frag) : V → List V → Hp → VK → Prop := fun x vs H Q => ∃ l b xs zs, x = .ref l ∧ vs = [.ref b] ∧ H l = some (.lst xs) ∧ SqT K H b zs ∧ xs.length + zs.length ≤ sizeLine ∧ Q .non (upd H l (.lst (xs ++ zs)))
theorem mt_extT {X : Cx} : MtM X "list.extend" (rExtT X.K) := by
  intro pins s σ H x vs v us Q I rx rv h
  obtain ⟨l, b, xs, zs, rfl, rfl, hH, hB, hz, q⟩ := h
  cases rx
  obtain ⟨u, rfl, ru⟩ := rv.one
  cases ru
  obtain ⟨z, its, n, r, hl, e⟩ := I.lstM hH
  obtain ⟨its2, r2, ⟨⟨cls, dd, data, sl⟩, e2, hc, m, hd⟩, z2⟩ := I.tuple hB
  simp only at hc hd
  subst hc hd
  have hl2 := r2.length
  have hsz : its.toArray.size + its2.toArray.size ≤ sizeLine := by rw [List.size_toArray, List.size_toArray]; omega
  have hlong : ¬ (!its.toArray.isEmpty && Builtin.List.listTooLong (its.toArray.size + its2.toArray.size)) = true := by
    rw [notLongL hsz]
    simp
  refine call_meets F.slot_list_extend ⟨_, e, rfl⟩ F.entry_list_extend (F.args_list_extend_2 _ _) (ext_tup l its.toArray n b its2.toArray m dd sl hlong (by rw [List.size_toArray]; omega) (by omega)) ⟨e, e2, ?_⟩
  refine ⟨.non, _, I.lset (its' := its ++ its2) hH e (by simp) (r.append r2) (by rw [List.length_append]; omega), rfl, q⟩
end Wk
namespace Wk
open PySem PySem.Spec PyProof.Rows L2 GxR
/-- the told tuple: next, and the row -/
def ToldAt (H : Hp) (o : Nat × List Part) (v : V) : Prop := ∃ (t : Addr) (u : V), v = .ref t ∧ H t = some (.tup [.int o.1, u]) ∧ RowAt H o.2 u
theorem ToldAt.mono {H H' : Hp} {o : Nat × List Part} {v : V} (s : STup H H') (h : ToldAt H o v) : ToldAt H' o v := by
  obtain ⟨t, u, rfl, h1, h2⟩ := h
  exact ⟨t, u, rfl, s _ _ h1, h2.mono s⟩
def spFreed (n : Nat) : Sp := fun vs H Q _ => ∃ (k : Nat) (v : V) (r : List Part), vs = [.int k, v] ∧ RowAt H r v ∧ deepR r < n ∧ sizeR r ≤ 1000 ∧ Gd r ∧ k + sizeR r < 10 ^ 9 ∧
  ∀ (H' : Hp) (u : V), Same H H' → ToldAt H' (frdR n k r) u → Q u H'
def spPFreed (n : Nat) : Sp := fun vs H Q _ => ∃ (k : Nat) (v : V) (p : Part), vs = [.int k, v] ∧ PartAt H p v ∧ deepP p ≤ n ∧ sizeP p ≤ 1000 ∧ Gd [p] ∧ k + sizeP p < 10 ^ 9 ∧
  ∀ (H' : Hp) (u : V), Same H H' → ToldAt H' (frdP (frdR n) k p) u → Q u H'
def spSettled (Ts : List Addr) (n : Nat) : Sp := fun vs H Q _ => ∃ (v : V) (r : List Part), vs = [v] ∧ RowAt H r v ∧ HouseR r ∧ deepR r < n ∧ Gd r ∧ TabsG Ts H ∧
  ∀ (H' : Hp) (u : V), SamTs Ts H H' → ToldAt H' (frdR n 1 r) u → Q u H'
theorem num_log {k : Nat} (h : k < 10 ^ 9) : (k : Int).natAbs.log2 < 1920 := by
  refine Nat.lt_of_lt_of_le (PySem.Flt.log2_lt_of (k := 30) (by decide) ?_) (by decide)
  show (k : Int).natAbs < 1073741824
  omega
theorem frd_lens {n k : Nat} {r : List Part} (hd : deepR r ≤ n) (g : Gd r) (hk : k + sizeR r < 10 ^ 9) (hs : sizeR r ≤ 1000) : (frdR n k r).2.length ≤ 1000 := by
  have := (frd_ok n k r hd g (by omega)).size
  have := len_sizeR (frdR n k r).2
  omega
theorem Gd.take : ∀ {r : List Part} (i : Nat), Gd r → Gd (r.take i)
  | r, i, g => by
    have e : r = r.take i ++ r.drop i := (List.take_append_drop i r).symm
    have eb : bdR r = bdR (r.take i) ++ bdR (r.drop i) := by rw [← bdR_app, ← e]
    have nd := g.nd
    rw [eb] at nd
    refine ⟨?_, fun x hx => g.sh x (by rw [eb]; exact List.mem_append_left _ hx), (List.nodup_append.mp nd).1⟩
    have ok := g.ok
    have un : ∀ {a b : List Part}, okR (Sh 30) (a ++ b) → okR (Sh 30) a := by
      intro a
      induction a with
      | nil => intro b _; exact trivial
      | cons p a ih => intro b h; exact ⟨h.1, ih h.2⟩
    rw [e] at ok
    exact un ok
theorem deepR_take (r : List Part) (i : Nat) : deepR (r.take i) ≤ deepR r := by
  have e := deepR_app (r.take i) (r.drop i)
  rw [List.take_append_drop] at e
  omega
end Wk

set_option Elab.async false
set_option linter.all false
set_option maxRecDepth 100000
set_option maxHeartbeats 2000000
/-! Drawn rows are houses; rests that are open. -/
namespace Wk
open PySem PySem.Spec PyProof.Rows L2 GxR
mutual
theorem fr_scP {ss : List Str} : ∀ (p : Part) (S S' : List Str), scP S' p → (∀ x ∈ S', x ∈ S ∨ x ∈ ss) → ∀ x ∈ frP S p, x ∈ ss
  | .say n, S, S', h, i, x, hx => by
    unfold frP at hx
    by_cases c : n ∈ S
    · rw [if_pos c] at hx; cases hx
    · rw [if_neg c] at hx
      rw [List.mem_singleton.mp hx]
      rcases i n h with g | g
      · exact absurd g c
      · exact g
  | .again r, S, S', h, i, x, hx => fr_scR r S S' h i x hx
  | .oth w n r, S, S', h, i, x, hx => by
    unfold frP at hx
    unfold scP at h
    by_cases b : w.binds = true
    · rw [if_pos b] at hx h
      refine fr_scR r (S ++ [n]) (n :: S') h (fun y hy => ?_) x hx
      rcases List.mem_cons.mp hy with e | e
      · exact .inl (List.mem_append_right _ (by rw [e]; exact List.mem_singleton.mpr rfl))
      · rcases i y e with g | g
        · exact .inl (List.mem_append_left _ g)
        · exact .inr g
    · rw [if_neg b] at hx h
      rcases List.mem_append.mp hx with g | g
      · by_cases c : n ∈ S
        · rw [if_pos c] at g; cases g
        · rw [if_neg c] at g
          rw [List.mem_singleton.mp g]
          rcases i n h.1 with k | k
          · exact absurd k c
          · exact k
      · exact fr_scR r S S' h.2 i x g
theorem fr_scR {ss : List Str} : ∀ (r : List Part) (S S' : List Str), scR S' r → (∀ x ∈ S', x ∈ S ∨ x ∈ ss) → ∀ x ∈ frR S r, x ∈ ss
  | [], S, S', _, _, x, hx => nomatch hx
  | p :: r, S, S', h, i, x, hx => by
    rcases List.mem_append.mp (show x ∈ frP S p ++ frR S r from hx) with g | g
    · exact fr_scP p S S' h.1 i x g
    · exact fr_scR r S S' h.2 i x g
end
theorem names_nd {zs : List Str} {s : Nat} (hn : ∀ i z, zs[i]? = some z → NameOf ((s + 5 * i) % 26) z) (hl : zs.length ≤ 26) : zs.Nodup := by
  rw [List.nodup_iff_pairwise_ne, List.pairwise_iff_getElem]
  intro i j hi hj hij e
  have h1 : zs[i]? = some zs[i] := List.getElem?_eq_getElem hi
  have h2 : zs[j]? = some zs[i] := by rw [List.getElem?_eq_getElem hj, e]
  have := apart hn h1 h2 (by omega) (by omega)
  omega
theorem drawn_house {zs sp' : List Str} {s m : Nat} {r : List Part} (hn : ∀ i z, zs[i]? = some z → NameOf ((s + 5 * i) % 26) z) (hl : zs.length ≤ 26) (hm : m ≤ 4) (hsz : sizeR r ≤ 400)
    (hG : GR m (most m) (zs.take 5) (zs.drop 5) sp' r) : HouseR r ∧ Gd r := by
  have nd := names_nd hn hl
  have e5 : zs = zs.take 5 ++ zs.drop 5 := (List.take_append_drop 5 zs).symm
  have nd2 := nd
  rw [e5] at nd2
  obtain ⟨na, nb, nc⟩ := List.nodup_append.mp nd2
  have hin : okR (fun n => n ∈ zs) r := okR.imp (fun n h => by
    rcases h with g | g
    · exact List.mem_of_mem_take g
    · exact List.mem_of_mem_drop g) r hG.ok
  have nm : ∀ n ∈ zs, ∃ j, j < 26 ∧ NameOf j n := fun n h => by
    obtain ⟨i, hi⟩ := List.getElem?_of_mem h
    exact ⟨_, Nat.mod_lt _ (by decide), hn i n hi⟩
  have bdin : ∀ x ∈ bdR r, x ∈ zs.drop 5 := fun x hx => by
    rw [hG.bd]
    exact List.mem_append_right _ (List.mem_reverse.mpr hx)
  have bnd : (bdR r).Nodup := by
    have h := nb
    rw [hG.bd] at h
    exact (List.reverse_perm (bdR r)).nodup_iff.mp (List.nodup_append.mp h).2.1
  have dp := hG.deep
  refine ⟨⟨okR.imp (fun n h => ?_) r hin, hsz, by omega, bnd, fun x hx hf => ?_⟩, ⟨okR.imp (fun n h => ?_) r hin, fun x hx => ?_, bnd⟩⟩
  · obtain ⟨j, hj, h⟩ := nm n h
    exact ⟨name_ok h hj, by have := (name_len h).1; omega⟩
  · have h1 := fr_scR r [] (zs.take 5) hG.sc (fun y hy => .inr hy) x hf
    exact nc x h1 x (bdin x hx) rfl
  · obtain ⟨j, hj, h⟩ := nm n h
    exact (h.sh hj).mono (by decide)
  · obtain ⟨j, hj, h⟩ := nm x (List.mem_of_mem_drop (bdin x hx))
    exact h.sh hj
/-! ### rests of what is open -/
mutual
def rsP (c : Str) : Part → List (List Part)
  | .say _ => []
  | .again r => [r]
  | .oth w x r => match w with
    | .room => rsR c r
    | .hear => [lcR x c r]
    | _ => [r]
def rsR (c : Str) : List Part → List (List Part)
  | [] => []
  | p :: r => rsP c p ++ rsR c r
end
theorem rsR_app (c : Str) : ∀ r q : List Part, rsR c (r ++ q) = rsR c r ++ rsR c q
  | [], q => rfl
  | p :: r, q => by
    show rsP c p ++ rsR c (r ++ q) = (rsP c p ++ rsR c r) ++ rsR c q
    rw [rsR_app c r q, List.append_assoc]
mutual
theorem rsP_len (c : Str) : ∀ p : Part, (rsP c p).length ≤ sizeP p
  | .say _ => Nat.zero_le _
  | .again r => by show 1 ≤ sizeR r + 1; omega
  | .oth w x r => by
    have h := rsR_len c r
    cases w with
    | room => show (rsR c r).length ≤ sizeR r + 1; omega
    | _ => show 1 ≤ sizeR r + 1; omega
theorem rsR_len (c : Str) : ∀ r : List Part, (rsR c r).length ≤ sizeR r
  | [] => Nat.le_refl _
  | p :: r => by
    have h1 := rsP_len c p
    have h2 := rsR_len c r
    show (rsP c p ++ rsR c r).length ≤ sizeP p + sizeR r
    rw [List.length_append]
    omega
end
structure RsOk (d s : Nat) (q : List Part) : Prop where
  gd : Gd q
  deep : deepR q ≤ d
  size : sizeR q ≤ s
theorem lcR_deepsize {x c : Str} {r : List Part} (h : x ∉ bdR r) : deepR (lcR x c r) = deepR r ∧ sizeR (lcR x c r) = sizeR r := by
  rw [← called_lcR r h]
  exact ⟨calledR_deep x c r, calledR_size x c r⟩
mutual
theorem rsP_ok {c : Str} (hc : Sh 30 c) : ∀ p : Part, Gd [p] → ∀ q ∈ rsP c p, RsOk (deepP p) (sizeP p) q
  | .say _, g, q, hq => nomatch hq
  | .again r, g, q, hq => by
    rw [List.mem_singleton.mp hq]
    exact ⟨g.rest, Nat.le_succ _, Nat.le_succ _⟩
  | .oth w x r, g, q, hq => by
    cases w with
    | room =>
      have h := rsR_ok hc r g.rest q hq
      exact ⟨h.gd, Nat.le_trans h.deep (Nat.le_succ _), Nat.le_trans h.size (Nat.le_succ _)⟩
    | hear =>
      rw [List.mem_singleton.mp (show q ∈ [lcR x c r] from hq)]
      obtain ⟨hx, _⟩ := g.out rfl
      obtain ⟨e1, e2⟩ := lcR_deepsize (c := c) hx
      refine ⟨?_, by rw [e1]; exact Nat.le_succ _, by rw [e2]; exact Nat.le_succ _⟩
      rw [← called_lcR r hx]
      exact g.rest.called hx hc
    | inn =>
      rw [List.mem_singleton.mp (show q ∈ [r] from hq)]
      exact ⟨g.rest, Nat.le_succ _, Nat.le_succ _⟩
    | out =>
      rw [List.mem_singleton.mp (show q ∈ [r] from hq)]
      exact ⟨g.rest, Nat.le_succ _, Nat.le_succ _⟩
    | opn =>
      rw [List.mem_singleton.mp (show q ∈ [r] from hq)]
      exact ⟨g.rest, Nat.le_succ _, Nat.le_succ _⟩
    | new =>
      rw [List.mem_singleton.mp (show q ∈ [r] from hq)]
      exact ⟨g.rest, Nat.le_succ _, Nat.le_succ _⟩
theorem rsR_ok {c : Str} (hc : Sh 30 c) : ∀ r : List Part, Gd r → ∀ q ∈ rsR c r, RsOk (deepR r) (sizeR r) q
  | [], g, q, hq => nomatch hq
  | p :: r, g, q, hq => by
    rcases List.mem_append.mp (show q ∈ rsP c p ++ rsR c r from hq) with h | h
    · have k := rsP_ok hc p g.head q h
      have k1 := k.deep
      have k2 := k.size
      exact ⟨k.gd, (by show deepR q ≤ max (deepP p) (deepR r); omega), (by show sizeR q ≤ sizeP p + sizeR r; omega)⟩
    · have k := rsR_ok hc r g.tail q h
      have k1 := k.deep
      have k2 := k.size
      exact ⟨k.gd, (by show deepR q ≤ max (deepP p) (deepR r); omega), (by show sizeR q ≤ sizeP p + sizeR r; omega)⟩
end
def spRests (n : Nat) : Sp := fun vs H Q _ => ∃ (v : V) (c : Str) (r : List Part), vs = [v, .str c] ∧ RowAt H r v ∧ deepR r < n ∧ sizeR r ≤ 1000 ∧
  ∀ (H' : Hp) (p : Addr) (us : List V), Same H H' → H p = none → H' p = some (.lst us) → LvAt H' (rsR c r) us → Q (.ref p) H'
/-! ### told tuples compared -/
theorem told_shaped {k : Int} {r : List Part} (h : okR (Sh 30) r) (hd : deepR r ≤ 30) : SeqAt.shaped (.tuple [.int k, .tuple (dR r)]) = true := by
  unfold SeqAt.shaped
  have h1 := depR r
  have h2 := layR (f := Sh 30) (fun n h => h.ok) r h
  simp only [PyData.canLay0, PyData.canLayAll0, h2, PyData.depth, PyData.depthAll, Bool.true_and, Bool.and_self]
  exact decide_eq_true (by omega)
theorem told_eqv {k : Int} {r : List Part} (h : okR (Sh 30) r) : PyData.eqv (.tuple [.int k, .tuple (dR r)]) (.tuple [.int k, .tuple (dR r)]) = true :=
  SeqAt.eqv_refl _ (by
    have h2 := layR (f := Sh 30) (fun n h => h.ok) r h
    simp only [PyData.canLay0, PyData.canLayAll0, h2, Bool.and_self])
theorem ToldAt.dp {K : PySem.W.Frag} {H : Hp} {o : Nat × List Part} {v : V} (h : ToldAt H o v) : Dp K H v (.tuple [.int o.1, .tuple (dR o.2)]) := by
  obtain ⟨t, u, rfl, h1, h2⟩ := h
  exact .tup (SqT.of h1) (.cons (.int _) (.cons h2.dp .nil))
end Wk

set_option Elab.async false
set_option linter.all false
set_option maxRecDepth 100000
set_option maxHeartbeats 4000000
/-! Things of any kind, and which of them are small rows. -/
namespace Wk
open PySem PySem.Spec PyProof.Rows L2 GxR
inductive Th where
  | str (z : Str)
  | non
  | int (i : Int)
  | bl (b : Bool)
  | lst (xs : List Th)
  | tup (xs : List Th)
  | dct
mutual
def ThAt (H : Hp) : Th → V → Prop
  | .str z, v => v = .str z
  | .non, v => v = .non
  | .int i, v => v = .int i
  | .bl b, v => v = .bl b
  | .lst xs, v => ∃ a vs, v = .ref a ∧ H a = some (.lst vs) ∧ ThsAt H xs vs
  | .tup xs, v => ∃ a vs, v = .ref a ∧ H a = some (.tup vs) ∧ ThsAt H xs vs
  | .dct, v => ∃ a, v = .ref a ∧ H a = some (.dK [])
def ThsAt (H : Hp) : List Th → List V → Prop
  | [], vs => vs = []
  | t :: ts, vs => ∃ v us, vs = v :: us ∧ ThAt H t v ∧ ThsAt H ts us
end
/-- all but tables stays -/
def Kpt (H H' : Hp) : Prop := ∀ a o, (∀ ps, o ≠ HO.tbl ps) → H a = some o → H' a = some o
theorem Kpt.refl (H : Hp) : Kpt H H := fun _ _ _ e => e
theorem Kpt.trans {H H1 H2 : Hp} (a : Kpt H H1) (b : Kpt H1 H2) : Kpt H H2 := fun c o n e => b c o n (a c o n e)
theorem Kpt.of {Ts : List Addr} {H H' : Hp} (t : TabsG Ts H) (s : SamTs Ts H H') : Kpt H H' := fun a o n e => s.1 a o (fun m => by
  obtain ⟨ps, q, _⟩ := t a m
  rw [q] at e
  exact n ps (Option.some.inj e).symm) e
theorem Kpt.same {H H' : Hp} (s : Same H H') : Kpt H H' := fun a o _ e => s a o e
mutual
theorem ThAt.mono {H H' : Hp} (s : Kpt H H') : ∀ (t : Th) (v : V), ThAt H t v → ThAt H' t v
  | .str z, v, h => h
  | .non, v, h => h
  | .int i, v, h => h
  | .bl b, v, h => h
  | .lst xs, v, h => by
    obtain ⟨a, vs, e, h1, h2⟩ := h
    exact ⟨a, vs, e, s _ _ (fun _ z => by cases z) h1, ThsAt.mono s xs vs h2⟩
  | .tup xs, v, h => by
    obtain ⟨a, vs, e, h1, h2⟩ := h
    exact ⟨a, vs, e, s _ _ (fun _ z => by cases z) h1, ThsAt.mono s xs vs h2⟩
  | .dct, v, h => by
    obtain ⟨a, e, h1⟩ := h
    exact ⟨a, e, s _ _ (fun _ z => by cases z) h1⟩
theorem ThsAt.mono {H H' : Hp} (s : Kpt H H') : ∀ (ts : List Th) (vs : List V), ThsAt H ts vs → ThsAt H' ts vs
  | [], vs, h => h
  | t :: ts, vs, h => by
    obtain ⟨v, us, e, h1, h2⟩ := h
    exact ⟨v, us, e, ThAt.mono s t v h1, ThsAt.mono s ts us h2⟩
end
theorem ThsAt.len {H : Hp} : ∀ {ts : List Th} {vs : List V}, ThsAt H ts vs → vs.length = ts.length
  | [], vs, h => by rw [show vs = [] from h]; rfl
  | t :: ts, vs, h => by
    obtain ⟨v, us, e, _, h2⟩ := h
    rw [e, List.length_cons, List.length_cons, ThsAt.len h2]
theorem ThsAt.get {H : Hp} : ∀ {ts : List Th} {vs : List V}, ThsAt H ts vs → ∀ {i : Nat} {v : V}, vs[i]? = some v → ∃ t, ts[i]? = some t ∧ ThAt H t v
  | [], vs, h, i, v, e => by rw [show vs = [] from h] at e; simp at e
  | t :: ts, vs, h, 0, v, e => by
    obtain ⟨u, us, rfl, h1, _⟩ := h
    exact ⟨t, rfl, by rw [← Option.some.inj (show some u = some v from e)]; exact h1⟩
  | t :: ts, vs, h, i + 1, v, e => by
    obtain ⟨u, us, rfl, _, h2⟩ := h
    exact ThsAt.get h2 (i := i) (v := v) e
theorem ThsAt.app {H : Hp} {qs : List Th} {us : List V} (g : ThsAt H qs us) : ∀ {ts : List Th} {vs : List V}, ThsAt H ts vs → ThsAt H (ts ++ qs) (vs ++ us)
  | [], vs, h => by rw [show vs = [] from h]; exact g
  | t :: ts, vs, h => by
    obtain ⟨v, ws, rfl, h1, h2⟩ := h
    exact ⟨v, ws ++ us, rfl, h1, ThsAt.app g h2⟩
theorem ThsAt.one {H : Hp} {t : Th} {v : V} (h : ThAt H t v) : ThsAt H [t] [v] := ⟨v, [], rfl, h, rfl⟩
/-! ### rows as things -/
mutual
def thP : Part → Th
  | .say n => .tup [.str "say", .str n]
  | .again r => .tup [.str "again", .tup (thR r)]
  | .oth w n r => .tup [.str w.str, .str n, .tup (thR r)]
def thR : List Part → List Th
  | [] => []
  | p :: r => thP p :: thR r
end
def thRow (r : List Part) : Th := .tup (thR r)
theorem thR_map : ∀ r : List Part, thR r = r.map thP
  | [] => rfl
  | p :: r => by
    show thP p :: thR r = thP p :: r.map thP
    rw [thR_map r]
mutual
theorem thP_at {H : Hp} : ∀ (p : Part) (v : V), ThAt H (thP p) v → PartAt H p v
  | .say n, v, h => by
    obtain ⟨a, vs, e, h1, u1, w1, e1, h2, u2, w2, e2, h3, h4⟩ := h
    have z1 : u1 = .str "say" := h2
    have z2 : u2 = .str n := h3
    have z3 : w2 = [] := h4
    subst z1 z2 z3 e2 e1
    exact ⟨a, e, h1⟩
  | .again r, v, h => by
    obtain ⟨a, vs, e, h1, u1, w1, e1, h2, u2, w2, e2, ⟨b, xs, eb, hb, hx⟩, h4⟩ := h
    have z1 : u1 = .str "again" := h2
    have z3 : w2 = [] := h4
    subst z1 z3 eb e2 e1
    exact ⟨a, b, xs, e, h1, hb, thR_at r xs hx⟩
  | .oth w n r, v, h => by
    obtain ⟨a, vs, e, h1, u1, w1, e1, h2, u2, w2, e2, h3, u3, w3, e3, ⟨b, xs, eb, hb, hx⟩, h4⟩ := h
    have z1 : u1 = .str w.str := h2
    have z2 : u2 = .str n := h3
    have z3 : w3 = [] := h4
    subst z1 z2 z3 eb e3 e2 e1
    exact ⟨a, b, xs, e, h1, hb, thR_at r xs hx⟩
theorem thR_at {H : Hp} : ∀ (r : List Part) (vs : List V), ThsAt H (thR r) vs → PartsAt H r vs
  | [], vs, h => h
  | p :: r, vs, h => by
    obtain ⟨v, us, e, h1, h2⟩ := h
    exact ⟨v, us, e, thP_at p v h1, thR_at r us h2⟩
end
theorem thRow_at {H : Hp} {r : List Part} {v : V} (h : ThAt H (thRow r) v) : RowAt H r v := by
  obtain ⟨a, vs, e, h1, h2⟩ := h
  exact ⟨a, vs, e, h1, thR_at r vs h2⟩
mutual
theorem at_thP {H : Hp} : ∀ (p : Part) (v : V), PartAt H p v → ThAt H (thP p) v
  | .say n, v, h => by
    obtain ⟨a, e, h1⟩ := h
    exact ⟨a, _, e, h1, _, _, rfl, rfl, _, _, rfl, rfl, rfl⟩
  | .again r, v, h => by
    obtain ⟨a, b, xs, e, h1, h2, h3⟩ := h
    exact ⟨a, _, e, h1, _, _, rfl, rfl, _, _, rfl, ⟨b, xs, rfl, h2, at_thR r xs h3⟩, rfl⟩
  | .oth w n r, v, h => by
    obtain ⟨a, b, xs, e, h1, h2, h3⟩ := h
    exact ⟨a, _, e, h1, _, _, rfl, rfl, _, _, rfl, rfl, _, _, rfl, ⟨b, xs, rfl, h2, at_thR r xs h3⟩, rfl⟩
theorem at_thR {H : Hp} : ∀ (r : List Part) (vs : List V), PartsAt H r vs → ThsAt H (thR r) vs
  | [], vs, h => h
  | p :: r, vs, h => by
    obtain ⟨v, us, e, h1, h2⟩ := h
    exact ⟨v, us, e, at_thP p v h1, at_thR r us h2⟩
end
theorem at_thRow {H : Hp} {r : List Part} {v : V} (h : RowAt H r v) : ThAt H (thRow r) v := by
  obtain ⟨a, vs, e, h1, h2⟩ := h
  exact ⟨a, vs, e, h1, at_thR r vs h2⟩
/-! ### forms -/
def szOf (z : Str) : Option Nat :=
  if z = "room" then some 3 else if z = "in" then some 3 else if z = "out" then some 3 else if z = "open" then some 3 else if z = "say" then some 2 else if z = "hear" then some 3 else if z = "new" then some 3 else if z = "again" then some 2 else none
def isTup : Th → Bool
  | .tup _ => true
  | _ => false
def itemsT : Th → List Th
  | .tup xs => xs
  | _ => []
def formB : Th → Bool
  | .tup (.str z :: r) => decide (szOf z = some (r.length + 1))
  | _ => false
def nmT : Th → Bool
  | .str z => nameB z
  | _ => false
def npB : Th → Bool
  | .tup (.str z :: x :: r) => decide (szOf z = some (r.length + 2)) && (decide (z = "again") || nmT x)
  | _ => false
def restT : Th → Th
  | .tup (.str z :: r) => if z = "say" then .tup [] else (r.getLast?).getD .non
  | _ => .non
theorem sz_cases {z : Str} {n : Nat} (h : szOf z = some n) : (z = "say" ∧ n = 2) ∨ (z = "again" ∧ n = 2) ∨ ∃ w : Wd, z = w.str ∧ n = 3 := by
  unfold szOf at h
  by_cases c1 : z = "room"
  · rw [if_pos c1] at h; exact .inr (.inr ⟨.room, c1, (Option.some.inj h).symm⟩)
  rw [if_neg c1] at h
  by_cases c2 : z = "in"
  · rw [if_pos c2] at h; exact .inr (.inr ⟨.inn, c2, (Option.some.inj h).symm⟩)
  rw [if_neg c2] at h
  by_cases c3 : z = "out"
  · rw [if_pos c3] at h; exact .inr (.inr ⟨.out, c3, (Option.some.inj h).symm⟩)
  rw [if_neg c3] at h
  by_cases c4 : z = "open"
  · rw [if_pos c4] at h; exact .inr (.inr ⟨.opn, c4, (Option.some.inj h).symm⟩)
  rw [if_neg c4] at h
  by_cases c5 : z = "say"
  · rw [if_pos c5] at h; exact .inl ⟨c5, (Option.some.inj h).symm⟩
  rw [if_neg c5] at h
  by_cases c6 : z = "hear"
  · rw [if_pos c6] at h; exact .inr (.inr ⟨.hear, c6, (Option.some.inj h).symm⟩)
  rw [if_neg c6] at h
  by_cases c7 : z = "new"
  · rw [if_pos c7] at h; exact .inr (.inr ⟨.new, c7, (Option.some.inj h).symm⟩)
  rw [if_neg c7] at h
  by_cases c8 : z = "again"
  · rw [if_pos c8] at h; exact .inr (.inl ⟨c8, (Option.some.inj h).symm⟩)
  rw [if_neg c8] at h
  cases h
theorem wd_ne_again (w : Wd) : w.str ≠ "again" := by cases w <;> decide +kernel
theorem wd_ne_say (w : Wd) : w.str ≠ "say" := by cases w <;> decide +kernel
/-- a thing that is a part but for its rest -/
theorem np_cases {t : Th} (h : npB t = true) : (∃ n, t = .tup [.str "say", .str n] ∧ nameB n = true) ∨ (∃ x, t = .tup [.str "again", x]) ∨ ∃ (w : Wd) (n : Str) (x : Th), t = .tup [.str w.str, .str n, x] ∧ nameB n = true := by
  match t, h with
  | .tup (.str z :: x :: r), h =>
    obtain ⟨h1, h2⟩ := Bool.and_eq_true_iff.mp (show (decide (szOf z = some (r.length + 2)) && (decide (z = "again") || nmT x)) = true from h)
    have h1 := of_decide_eq_true h1
    have nm : z ≠ "again" → ∃ n, x = .str n ∧ nameB n = true := fun ne => by
      rw [decide_eq_false ne, Bool.false_or] at h2
      cases x with
      | str n => exact ⟨n, rfl, h2⟩
      | _ => cases h2
    rcases sz_cases h1 with ⟨e, l⟩ | ⟨e, l⟩ | ⟨w, e, l⟩
    · have lr : r = [] := List.length_eq_zero_iff.mp (by omega)
      obtain ⟨n, e2, hn⟩ := nm (by rw [e]; decide +kernel)
      subst e lr e2
      exact .inl ⟨n, rfl, hn⟩
    · have lr : r = [] := List.length_eq_zero_iff.mp (by omega)
      subst e lr
      exact .inr (.inl ⟨x, rfl⟩)
    · obtain ⟨y, rfl⟩ := List.length_eq_one_iff.mp (show r.length = 1 by omega)
      obtain ⟨n, e2, hn⟩ := nm (by rw [e]; exact wd_ne_again w)
      subst e e2
      exact .inr (.inr ⟨w, n, y, rfl, hn⟩)
theorem np_part {p : Part} (h : okP NmOk p) : npB (thP p) = true := by
  cases p with
  | say n =>
    have h1 : nameB n = true := h.1
    show (decide (szOf "say" = some 2) && (decide (("say" : Str) = "again") || nameB n)) = true
    rw [h1]
    decide +kernel
  | again r =>
    show (decide (szOf "again" = some 2) && (decide (("again" : Str) = "again") || nmT (Th.tup (thR r)))) = true
    rw [decide_eq_true (rfl : ("again" : Str) = "again"), Bool.true_or]
    decide +kernel
  | oth w n r =>
    have h1 : nameB n = true := h.1.1
    show (decide (szOf w.str = some 3) && (decide (w.str = "again") || nameB n)) = true
    rw [h1, Bool.or_true, Bool.and_true]
    cases w <;> decide +kernel
theorem rest_part (p : Part) : restT (thP p) = thRow (restP p) := by
  cases p with
  | say n => rfl
  | again r =>
    show (if ("again" : Str) = "say" then Th.tup [] else _) = _
    rw [if_neg (by decide +kernel)]
    rfl
  | oth w n r =>
    show (if w.str = "say" then Th.tup [] else _) = _
    rw [if_neg (wd_ne_say w)]
    rfl
/-! ### small rows -/
def smallT : Nat → Nat → List Th → Bool
  | 0, _, _ => false
  | n + 1, m, ts => if ts.all isTup = true then (if m + (ts.map itemsT).flatten.length ≤ 400 then (if (ts.map itemsT).flatten = [] then true else if (ts.map itemsT).flatten.all npB = true then smallT n (m + (ts.map itemsT).flatten.length) ((ts.map itemsT).flatten.map restT) else false) else false) else false
theorem flat_rows (ls : List (List Part)) : ((ls.map thRow).map itemsT).flatten = (flL ls).map thP := by
  induction ls with
  | nil => rfl
  | cons r ls ih =>
    show itemsT (thRow r) ++ ((ls.map thRow).map itemsT).flatten = (r ++ flL ls).map thP
    rw [ih, List.map_append]
    show thR r ++ _ = _
    rw [thR_map]
theorem all_tup (ls : List (List Part)) : (ls.map thRow).all isTup = true := by
  rw [List.all_map]
  exact List.all_eq_true.mpr fun _ _ => rfl
theorem rests_rows (ls : List (List Part)) : ((flL ls).map thP).map restT = (nxL ls).map thRow := by
  unfold nxL
  rw [List.map_map, List.map_map]
  exact List.map_congr_left fun p _ => rest_part p
/-- rows of parts are small where they are not too large -/
theorem small_of : ∀ (n m : Nat) (ls : List (List Part)), okLs NmOk ls → m + sizeL ls ≤ 400 → deepL ls < n → smallT n m (ls.map thRow) = true
  | 0, m, ls, _, _, h => absurd h (Nat.not_lt_zero _)
  | n + 1, m, ls, hok, hs, hd => by
    have sz := sizeL_rests ls
    have dl := deepL_rests ls
    unfold smallT
    rw [if_pos (all_tup ls), flat_rows, List.length_map, if_pos (by omega)]
    by_cases e : (flL ls).map thP = []
    · rw [if_pos e]
    · rw [if_neg e]
      have e2 : flL ls ≠ [] := fun z => e (by rw [z]; rfl)
      have dp := deepL_pos ls e2
      rw [if_pos (by
        rw [List.all_map]
        exact List.all_eq_true.mpr fun p hp => np_part (hok.parts p hp)), rests_rows]
      exact small_of n _ (nxL ls) hok.next (by omega) (by omega)
theorem tups_of : ∀ ts : List Th, ts.all isTup = true → ∃ xs : List (List Th), ts = xs.map Th.tup
  | [], _ => ⟨[], rfl⟩
  | t :: ts, h => by
    obtain ⟨h1, h2⟩ := Bool.and_eq_true_iff.mp (show (isTup t && ts.all isTup) = true from h)
    obtain ⟨xs, e⟩ := tups_of ts h2
    cases t with
    | tup ys => exact ⟨ys :: xs, by rw [e]; rfl⟩
    | _ => cases h1
/-- parts whose rests are rows -/
theorem parts_of : ∀ (ts : List Th) (ls : List (List Part)), ts.all npB = true → (∀ t ∈ ts, ∀ (z : Str) (r : List Th), t = Th.tup r → Th.str z ∈ r → z.length ≤ 1000) → ts.map restT = ls.map thRow → (∀ r ∈ ls, okR NmOk r) → ∃ ps : List Part, ts = ps.map thP ∧ ps.map restP = ls ∧ ∀ p ∈ ps, okP NmOk p
  | [], ls, _, _, e, _ => ⟨[], rfl, (by
      cases ls with
      | nil => rfl
      | cons a l => cases e), fun _ h => nomatch h⟩
  | t :: ts, [], _, _, e, _ => by cases e
  | t :: ts, l :: ls, h, hz, e, hok => by
    obtain ⟨h1, h2⟩ := Bool.and_eq_true_iff.mp (show (npB t && ts.all npB) = true from h)
    have e' : restT t :: ts.map restT = thRow l :: ls.map thRow := e
    obtain ⟨e1, e2⟩ := List.cons.inj e'
    obtain ⟨ps, p1, p2, p3⟩ := parts_of ts ls h2 (fun t ht => hz t (List.mem_cons_of_mem _ ht)) e2 (fun r hr => hok r (List.mem_cons_of_mem _ hr))
    have okl := hok l List.mem_cons_self
    obtain ⟨p, q1, q2, q3⟩ : ∃ p : Part, t = thP p ∧ restP p = l ∧ okP NmOk p := by
      rcases np_cases h1 with ⟨n, rfl, hn⟩ | ⟨y, rfl⟩ | ⟨w, n, y, rfl, hn⟩
      · have el : l = [] := by
          have q : Th.tup [] = thRow l := e1
          cases l with
          | nil => rfl
          | cons a b => cases (Th.tup.inj q)
        exact ⟨.say n, rfl, el.symm, hn, hz _ List.mem_cons_self n _ rfl (List.mem_cons_of_mem _ List.mem_cons_self)⟩
      · have q : restT (Th.tup [.str "again", y]) = y := by
          show (if ("again" : Str) = "say" then Th.tup [] else _) = _
          rw [if_neg (by decide +kernel)]
          rfl
        rw [q] at e1
        exact ⟨.again l, by rw [e1]; rfl, rfl, okl⟩
      · have q : restT (Th.tup [.str w.str, .str n, y]) = y := by
          show (if w.str = "say" then Th.tup [] else _) = _
          rw [if_neg (wd_ne_say w)]
          rfl
        rw [q] at e1
        exact ⟨.oth w n l, by rw [e1]; rfl, rfl, ⟨hn, hz _ List.mem_cons_self n _ rfl (List.mem_cons_of_mem _ List.mem_cons_self)⟩, okl⟩
    exact ⟨p :: ps, by rw [q1, p1]; rfl, by rw [List.map_cons, q2, p2], fun r hr => by
      rcases List.mem_cons.mp hr with z | z
      · rw [z]; exact q3
      · exact p3 r z⟩
/-! texts and rows within are not too long -/
mutual
def okT : Th → Prop
  | .str z => z.length ≤ 1000
  | .lst xs => xs.length ≤ 1000 ∧ okTs xs
  | .tup xs => xs.length ≤ 1000 ∧ okTs xs
  | _ => True
def okTs : List Th → Prop
  | [] => True
  | t :: ts => okT t ∧ okTs ts
end
theorem okTs.mem : ∀ {ts : List Th}, okTs ts → ∀ t ∈ ts, okT t
  | [], _, t, h => nomatch h
  | q :: ts, g, t, h => by
    rcases List.mem_cons.mp h with e | e
    · rw [e]; exact g.1
    · exact okTs.mem g.2 t e
theorem okTs.of : ∀ {ts : List Th}, (∀ t ∈ ts, okT t) → okTs ts
  | [], _ => trivial
  | q :: ts, h => ⟨h q List.mem_cons_self, okTs.of fun t ht => h t (List.mem_cons_of_mem _ ht)⟩
theorem okT.items {t : Th} (h : okT t) : (itemsT t).length ≤ 1000 ∧ ∀ q ∈ itemsT t, okT q := by
  cases t with
  | tup xs => exact ⟨h.1, h.2.mem⟩
  | _ => exact ⟨Nat.zero_le _, fun q hq => nomatch hq⟩
theorem okT.rest {t : Th} (h : okT t) : okT (restT t) := by
  match t, h with
  | .tup (.str z :: r), h =>
    show okT (if z = "say" then Th.tup [] else (r.getLast?).getD .non)
    by_cases c : z = "say"
    · rw [if_pos c]; exact ⟨Nat.zero_le _, trivial⟩
    · rw [if_neg c]
      cases e : r.getLast? with
      | none => trivial
      | some x => exact h.2.2.mem x (List.mem_of_getLast? e)
  | .tup [], h => trivial
  | .tup (.non :: r), h => trivial
  | .tup (.int _ :: r), h => trivial
  | .tup (.bl _ :: r), h => trivial
  | .tup (.lst _ :: r), h => trivial
  | .tup (.tup _ :: r), h => trivial
  | .tup (.dct :: r), h => trivial
  | .str _, h => trivial
  | .non, h => trivial
  | .int _, h => trivial
  | .bl _, h => trivial
  | .lst _, h => trivial
  | .dct, h => trivial
theorem split_flat : ∀ (xs : List (List Th)) (ps : List Part), xs.flatten = ps.map thP → ∃ ls : List (List Part), xs = ls.map (List.map thP) ∧ flL ls = ps
  | [], ps, e => ⟨[], rfl, by
      cases ps with
      | nil => rfl
      | cons a b => cases e⟩
  | x :: xs, ps, e => by
    have e' : ps.map thP = x ++ xs.flatten := e.symm
    obtain ⟨a, b, e1, e2, e3⟩ := List.map_eq_append_iff.mp e'
    obtain ⟨ls, l1, l2⟩ := split_flat xs b e3.symm
    exact ⟨a :: ls, by rw [List.map_cons, e2, l1], by rw [flL_cons, l2, e1]⟩
theorem deepR_up : ∀ r : List Part, deepR r ≤ deepL (r.map restP) + 1
  | [] => Nat.zero_le _
  | p :: r => by
    have h := deepR_up r
    have d := deep_rest p
    show max (deepP p) (deepR r) ≤ max (deepR (restP p)) (deepL (r.map restP)) + 1
    omega
theorem deepL_up : ∀ ls : List (List Part), deepL ls ≤ deepL (nxL ls) + 1
  | [] => Nat.zero_le _
  | r :: ls => by
    have h := deepL_up ls
    have h2 := deepR_up r
    show max (deepR r) (deepL ls) ≤ deepL ((r ++ flL ls).map restP) + 1
    rw [List.map_append, deepL_app]
    have e : deepL (nxL ls) = deepL ((flL ls).map restP) := rfl
    omega
/-- what is small is rows of parts -/
theorem rows_of : ∀ (n m : Nat) (ts : List Th), (∀ t ∈ ts, okT t) → smallT n m ts = true → ∃ ls : List (List Part), ts = ls.map thRow ∧ okLs NmOk ls ∧ m + sizeL ls ≤ 400 ∧ deepL ls < n
  | 0, m, ts, _, h => by cases h
  | n + 1, m, ts, ok, h => by
    unfold smallT at h
    by_cases c1 : ts.all isTup = true
    · rw [if_pos c1] at h
      obtain ⟨xs, rfl⟩ := tups_of ts c1
      have ei : ((xs.map Th.tup).map itemsT).flatten = xs.flatten := by
        rw [List.map_map, show itemsT ∘ Th.tup = id from rfl, List.map_id]
      rw [ei] at h
      by_cases c2 : m + xs.flatten.length ≤ 400
      · rw [if_pos c2] at h
        by_cases c3 : xs.flatten = []
        · have all0 : ∀ x ∈ xs, x = [] := List.flatten_eq_nil_iff.mp c3
          refine ⟨xs.map fun _ => [], ?_, fun r hr => ?_, ?_, ?_⟩
          · rw [List.map_map]
            exact List.map_congr_left fun x hx => by rw [all0 x hx]; rfl
          · obtain ⟨_, _, rfl⟩ := List.mem_map.mp hr
            trivial
          · have z : ∀ ys : List (List Th), sizeL (ys.map fun _ => ([] : List Part)) = 0 := by
              intro ys
              induction ys with
              | nil => rfl
              | cons y ys ih => show 0 + sizeL (ys.map fun _ => ([] : List Part)) = 0; omega
            rw [z]; omega
          · have z : ∀ ys : List (List Th), deepL (ys.map fun _ => ([] : List Part)) = 0 := by
              intro ys
              induction ys with
              | nil => rfl
              | cons y ys ih => show max 0 (deepL (ys.map fun _ => ([] : List Part))) = 0; omega
            rw [z]; omega
        · rw [if_neg c3] at h
          by_cases c4 : xs.flatten.all npB = true
          · rw [if_pos c4] at h
            have okp : ∀ t ∈ xs.flatten, okT t := fun t ht => by
              obtain ⟨x, hx, hx2⟩ := List.mem_flatten.mp ht
              exact (ok (.tup x) (List.mem_map.mpr ⟨x, hx, rfl⟩)).2.mem t hx2
            obtain ⟨ls', e', hok', hs', hd'⟩ := rows_of n _ _ (fun t ht => by
              obtain ⟨q, hq, rfl⟩ := List.mem_map.mp ht
              exact (okp q hq).rest) h
            obtain ⟨ps, p1, p2, p3⟩ := parts_of xs.flatten ls' c4 (fun t ht z r er hz => by
              have o := okp t ht
              rw [er] at o
              exact o.2.mem _ hz) e' hok'
            obtain ⟨ls, l1, l2⟩ := split_flat xs ps p1
            have enx : nxL ls = ls' := by unfold nxL; rw [l2, p2]
            have sz := sizeL_rests ls
            have du := deepL_up ls
            rw [enx] at sz du
            have el : (flL ls).length = xs.flatten.length := by rw [l2, p1, List.length_map]
            refine ⟨ls, ?_, fun r hr => ?_, by omega, by omega⟩
            · rw [l1, List.map_map]
              exact List.map_congr_left fun r _ => by
                show Th.tup (r.map thP) = Th.tup (thR r)
                rw [thR_map]
            · have sub : ∀ p ∈ r, p ∈ ps := fun p hp => by
                rw [← l2]
                exact List.mem_flatten.mpr ⟨r, hr, hp⟩
              have mk : ∀ q : List Part, (∀ p ∈ q, okP NmOk p) → okR NmOk q := by
                intro q
                induction q with
                | nil => intro _; trivial
                | cons p q ih => intro hh; exact ⟨hh p List.mem_cons_self, ih fun y hy => hh y (List.mem_cons_of_mem _ hy)⟩
              exact mk r fun p hp => p3 p (sub p hp)
          · rw [if_neg c4] at h; cases h
      · rw [if_neg c2] at h; cases h
    · rw [if_neg c1] at h; cases h
/-- a thing is a small row -/
theorem small_iff {t : Th} (ok : okT t) : smallT 25 0 [t] = true ↔ ∃ r : List Part, t = thRow r ∧ okR NmOk r ∧ sizeR r ≤ 400 ∧ deepR r ≤ 24 := by
  constructor
  · intro h
    obtain ⟨ls, e, hok, hs, hd⟩ := rows_of 25 0 [t] (fun q hq => by rw [List.mem_singleton.mp hq]; exact ok) h
    match ls, e, hok, hs, hd with
    | [r], e, hok, hs, hd =>
      have hs' : 0 + (sizeR r + 0) ≤ 400 := hs
      have hd' : max (deepR r) 0 < 25 := hd
      exact ⟨r, (List.cons.inj e).1, hok r List.mem_cons_self, by omega, by omega⟩
    | [], e, _, _, _ => cases e
    | _ :: _ :: _, e, _, _, _ => cases (List.cons.inj e).2
  · rintro ⟨r, rfl, hok, hs, hd⟩
    exact small_of 25 0 [r] (fun q hq => by rw [List.mem_singleton.mp hq]; exact hok) (by show 0 + (sizeR r + 0) ≤ 400; omega) (by show max (deepR r) 0 < 25; omega)
end Wk

set_option Elab.async false
set_option linter.all false
set_option maxRecDepth 100000
set_option maxHeartbeats 4000000
/-! Things of any kind: their types, promises. -/
namespace Wk
open PySem PySem.Spec PyProof.Rows L2 GxR
def isStrT : Th → Bool
  | .str _ => true
  | _ => false
theorem ThAt.tyT {K : PySem.W.Frag} {H : Hp} {t : Th} {v : V} (h : ThAt H t v) : ∃ ty : String, TyX K H v (.type ty) ∧ PySem.W.kitOne K (.type ty) (.type "tuple") = some (isTup t) ∧ PySem.W.kitOne K (.type ty) (.type "str") = some (isStrT t) := by
  cases t with
  | str z => cases h; exact ⟨_, .base (.str z), kit_ty (show kitB "str" "tuple" = some false by decide +kernel), kit_ty (show kitB "str" "str" = some true by decide +kernel)⟩
  | non => cases h; exact ⟨_, .base .non, kit_ty (show kitB "NoneType" "tuple" = some false by decide +kernel), kit_ty (show kitB "NoneType" "str" = some false by decide +kernel)⟩
  | int i => cases h; exact ⟨_, .base (.int i), kit_ty (show kitB "int" "tuple" = some false by decide +kernel), kit_ty (show kitB "int" "str" = some false by decide +kernel)⟩
  | bl b => cases h; exact ⟨_, .base (.bl b), kit_ty (show kitB "bool" "tuple" = some false by decide +kernel), kit_ty (show kitB "bool" "str" = some false by decide +kernel)⟩
  | lst xs =>
    obtain ⟨a, vs, rfl, e, _⟩ := h
    exact ⟨_, .base (.lst e), kit_ty (show kitB "list" "tuple" = some false by decide +kernel), kit_ty (show kitB "list" "str" = some false by decide +kernel)⟩
  | tup xs =>
    obtain ⟨a, vs, rfl, e, _⟩ := h
    exact ⟨_, .base (.tup e), kit_ty (show kitB "tuple" "tuple" = some true by decide +kernel), kit_ty (show kitB "tuple" "str" = some false by decide +kernel)⟩
  | dct =>
    obtain ⟨a, rfl, e⟩ := h
    exact ⟨_, .base (.dK e), kit_ty (show kitB "dict" "tuple" = some false by decide +kernel), kit_ty (show kitB "dict" "str" = some false by decide +kernel)⟩
theorem ThAt.thing {H : Hp} {t : Th} {v : V} (h : ThAt H t v) (ok : okT t) : Thing H v ∧ nmV v = nmT t := by
  cases t with
  | str z => cases h; exact ⟨.str z ok, rfl⟩
  | non => cases h; exact ⟨.non, rfl⟩
  | int i => cases h; exact ⟨.int i, rfl⟩
  | bl b => cases h; exact ⟨.bl b, rfl⟩
  | lst xs =>
    obtain ⟨a, vs, rfl, e, _⟩ := h
    exact ⟨.lst e, rfl⟩
  | tup xs =>
    obtain ⟨a, vs, rfl, e, _⟩ := h
    exact ⟨.tup e, rfl⟩
  | dct =>
    obtain ⟨a, rfl, e⟩ := h
    exact ⟨.dct e, rfl⟩
def szV (z : Str) : V := match szOf z with
  | some n => .int (n : Nat)
  | none => .non
def SizesG (K : PySem.W.Frag) (w : World) (d : Addr) : Prop := KGot K w d ∧ ∀ z : Str, ∃ (r : Option Value), PySem.W.nsIn K d z = some r ∧ RelV (szV z) (r.getD .none)
theorem szV_eq (z : Str) (n : Nat) : decide (szV z = V.int (n : Nat)) = decide (szOf z = some n) := by
  unfold szV
  cases e : szOf z with
  | none =>
    rw [decide_eq_false (by intro h; cases h), decide_eq_false (by intro h; cases h)]
  | some k =>
    by_cases c : k = n
    · rw [c, decide_eq_true rfl, decide_eq_true rfl]
    · rw [decide_eq_false (by intro h; exact c (by have := V.int.inj h; omega)), decide_eq_false (by intro h; exact c (Option.some.inj h))]
theorem szV_scal (z : Str) (n : Int) : scal (szV z) (.int n) = true := by
  unfold szV
  cases szOf z <;> rfl
theorem np_form {t : Th} (h : npB t = true) : formB t = true := by
  match t, h with
  | .tup (.str z :: x :: r), h => exact (Bool.and_eq_true_iff.mp h).1
theorem form_cases {t : Th} (h : formB t = true) : ∃ z x r, t = .tup (.str z :: x :: r) ∧ szOf z = some (r.length + 2) := by
  match t, h with
  | .tup (.str z :: []), h =>
    have h1 : szOf z = some 1 := of_decide_eq_true h
    rcases sz_cases h1 with ⟨_, l⟩ | ⟨_, l⟩ | ⟨_, _, l⟩ <;> omega
  | .tup (.str z :: x :: r), h => exact ⟨z, x, r, rfl, of_decide_eq_true h⟩
def spFormG : Sp := fun vs H Q _ => ∃ (v : V) (t : Th), vs = [v] ∧ ThAt H t v ∧ Q (.bl (formB t)) H
def spCallingG : Sp := fun vs H Q _ => ∃ (v : V) (z : Str) (x : Th) (r : List Th), vs = [v] ∧ ThAt H (.tup (.str z :: x :: r)) v ∧ ((z = "again" → Q .non H) ∧ (z ≠ "again" → ∀ u, ThAt H x u → Q u H))
/-- a thing of G, or a row without parts -/
def ThOr (G H : Hp) (t : Th) (v : V) : Prop := ThAt G t v ∨ (t = .tup [] ∧ ∃ a, v = .ref a ∧ H a = some (.tup []))
def OrsAt (G H : Hp) : List Th → List V → Prop
  | [], vs => vs = []
  | t :: ts, vs => ∃ v us, vs = v :: us ∧ ThOr G H t v ∧ OrsAt G H ts us
theorem OrsAt.mono {G H H' : Hp} (s : STup H H') : ∀ {ts : List Th} {vs : List V}, OrsAt G H ts vs → OrsAt G H' ts vs
  | [], _, h => h
  | t :: ts, _, h => by
    obtain ⟨v, us, e, h1, h2⟩ := h
    refine ⟨v, us, e, ?_, OrsAt.mono s h2⟩
    rcases h1 with h1 | ⟨e1, a, e2, h3⟩
    · exact .inl h1
    · exact .inr ⟨e1, a, e2, s _ _ h3⟩
theorem OrsAt.len {G H : Hp} : ∀ {ts : List Th} {vs : List V}, OrsAt G H ts vs → vs.length = ts.length
  | [], vs, h => by rw [show vs = [] from h]; rfl
  | t :: ts, vs, h => by
    obtain ⟨v, us, e, _, h2⟩ := h
    rw [e, List.length_cons, List.length_cons, OrsAt.len h2]
theorem OrsAt.snoc {G H : Hp} {q : Th} {u : V} (g : ThOr G H q u) : ∀ {ts : List Th} {vs : List V}, OrsAt G H ts vs → OrsAt G H (ts ++ [q]) (vs ++ [u])
  | [], vs, h => by rw [show vs = [] from h]; exact ⟨u, [], rfl, g, rfl⟩
  | t :: ts, vs, h => by
    obtain ⟨v, ws, rfl, h1, h2⟩ := h
    exact ⟨v, ws ++ [u], rfl, h1, OrsAt.snoc g h2⟩
theorem OrsAt.all {G H : Hp} (s : Kpt G H) : ∀ {ts : List Th} {vs : List V}, OrsAt G H ts vs → ThsAt H ts vs
  | [], _, h => h
  | t :: ts, _, h => by
    obtain ⟨v, us, e, h1, h2⟩ := h
    refine ⟨v, us, e, ?_, OrsAt.all s h2⟩
    rcases h1 with h1 | ⟨rfl, a, e2, h3⟩
    · exact ThAt.mono s t v h1
    · exact ⟨a, [], e2, h3, rfl⟩
def spRestG : Sp := fun vs H Q _ => ∃ (v : V) (t : Th) (G : Hp), vs = [v] ∧ ThAt G t v ∧ Kpt G H ∧ npB t = true ∧ ∀ (H' : Hp) (u : V), Same H H' → ThOr G H' (restT t) u → Q u H'
def spNPartG (Ts : List Addr) : Sp := fun vs H Q _ => ∃ (v : V) (t : Th), vs = [v] ∧ ThAt H t v ∧ okT t ∧ TabsG Ts H ∧ ∀ H', SamTs Ts H H' → Q (.bl (npB t)) H'
def spSmallG (Ts : List Addr) : Sp := fun vs H Q _ => ∃ (v : V) (t : Th), vs = [v] ∧ ThAt H t v ∧ okT t ∧ TabsG Ts H ∧ ∀ H', SamTs Ts H H' → Q (.bl (smallT 25 0 [t])) H'
def spHouseG (Ts : List Addr) : Sp := fun vs H Q _ => ∃ (v : V) (t : Th), vs = [v] ∧ ThAt H t v ∧ okT t ∧ TabsG Ts H ∧ ∀ (H' : Hp) (b : Bool), SamTs Ts H H' → (b = true ↔ ∃ r, t = thRow r ∧ HouseR r) → Q (.bl b) H'
theorem lens_sum : ∀ (ts : List Th) (i : Nat), i ≤ ts.length → preSum (fun j => ((ts[j]?).elim (0 : Int) fun t => ((itemsT t).length : Nat))) i = ((((ts.take i).map itemsT).flatten).length : Nat)
  | ts, 0, _ => by simp [preSum]
  | ts, i + 1, h => by
    have hi : i < ts.length := h
    rw [preSum, lens_sum ts i (Nat.le_of_lt hi), List.take_add_one, List.getElem?_eq_getElem hi, List.map_append, List.flatten_append, List.length_append]
    simp
theorem flat_le {ts : List Th} (ok : ∀ t ∈ ts, okT t) : ∀ i, (((ts.take i).map itemsT).flatten).length ≤ 1000 * i
  | 0 => by simp
  | i + 1 => by
    have h := flat_le ok i
    rw [List.take_add_one, List.map_append, List.flatten_append, List.length_append]
    cases e : ts[i]? with
    | none =>
      show (((ts.take i).map itemsT).flatten).length + 0 ≤ 1000 * (i + 1)
      omega
    | some t =>
      have o := (ok t (List.mem_of_getElem? e)).items.1
      show (((ts.take i).map itemsT).flatten).length + (itemsT t ++ []).length ≤ 1000 * (i + 1)
      rw [List.append_nil]
      omega
end Wk
namespace Wk
open PySem PySem.Spec PyProof.Rows L2 GxR
theorem wd_inj {w w' : Wd} (h : w.str = w'.str) : w = w' := by
  cases w <;> cases w' <;> first | rfl | exact absurd h (by decide +kernel)
mutual
theorem thP_inj : ∀ (p q : Part), thP p = thP q → p = q
  | .say n, .say m, h => by
    have := Th.tup.inj h
    have h1 := (List.cons.inj (List.cons.inj this).2).1
    rw [Th.str.inj h1]
  | .again r, .again t, h => by
    have := Th.tup.inj h
    have h1 := (List.cons.inj (List.cons.inj this).2).1
    rw [thR_inj r t (Th.tup.inj h1)]
  | .oth w n r, .oth w' m t, h => by
    have := Th.tup.inj h
    have h0 := (List.cons.inj this).1
    have h1 := (List.cons.inj (List.cons.inj this).2).1
    have h2 := (List.cons.inj (List.cons.inj (List.cons.inj this).2).2).1
    rw [wd_inj (Th.str.inj h0), Th.str.inj h1, thR_inj r t (Th.tup.inj h2)]
  | .say n, .again t, h => by
    have h0 := Th.str.inj (List.cons.inj (Th.tup.inj h)).1
    exact absurd h0 (by decide +kernel)
  | .again r, .say m, h => by
    have h0 := Th.str.inj (List.cons.inj (Th.tup.inj h)).1
    exact absurd h0 (by decide +kernel)
  | .say n, .oth w m t, h => by
    have h0 := Th.str.inj (List.cons.inj (Th.tup.inj h)).1
    exact absurd h0.symm (wd_ne_say w)
  | .oth w n r, .say m, h => by
    have h0 := Th.str.inj (List.cons.inj (Th.tup.inj h)).1
    exact absurd h0 (wd_ne_say w)
  | .again r, .oth w m t, h => by
    have h0 := Th.str.inj (List.cons.inj (Th.tup.inj h)).1
    exact absurd h0.symm (wd_ne_again w)
  | .oth w n r, .again t, h => by
    have h0 := Th.str.inj (List.cons.inj (Th.tup.inj h)).1
    exact absurd h0 (wd_ne_again w)
theorem thR_inj : ∀ (r q : List Part), thR r = thR q → r = q
  | [], [], _ => rfl
  | p :: r, q :: t, h => by
    have h' : thP p :: thR r = thP q :: thR t := h
    rw [thP_inj p q (List.cons.inj h').1, thR_inj r t (List.cons.inj h').2]
  | [], q :: t, h => by cases h
  | p :: r, [], h => by cases h
end
theorem thRow_inj {r q : List Part} (h : thRow r = thRow q) : r = q := thR_inj r q (Th.tup.inj h)
/-- as many as the unlike ones: each once -/
theorem nodup_of_len : ∀ {l D : List Str}, D.Nodup → (∀ x ∈ l, x ∈ D) → D.length = l.length → (∀ x ∈ D, x ∈ l) → l.Nodup
  | l, D, nd, sub, len, sup => by
    by_cases h : l.Nodup
    · exact h
    · exfalso
      -- some text stands twice
      have key : ∀ m : List Str, ¬ m.Nodup → ∃ a x b, m = a ++ x :: b ∧ x ∈ a ++ b := by
        intro m
        induction m with
        | nil => intro h; exact absurd List.nodup_nil h
        | cons y m ih =>
          intro h
          by_cases c : y ∈ m
          · exact ⟨[], y, m, rfl, c⟩
          · have h2 : ¬ m.Nodup := fun z => h (List.nodup_cons.mpr ⟨c, z⟩)
            obtain ⟨a, x, b, e, hx⟩ := ih h2
            exact ⟨y :: a, x, b, by rw [e]; rfl, List.mem_cons_of_mem _ hx⟩
      obtain ⟨a, x, b, e, hx⟩ := key l h
      have hsub : ∀ z ∈ D, z ∈ a ++ b := fun z hz => by
        have := sup z hz
        rw [e] at this
        rcases List.mem_append.mp this with g | g
        · exact List.mem_append_left _ g
        · rcases List.mem_cons.mp g with g | g
          · rw [g]; exact hx
          · exact List.mem_append_right _ g
      have := sub_len D (a ++ b) nd hsub
      rw [e, List.length_append, List.length_cons] at len
      rw [List.length_append] at this
      omega
end Wk

set_option Elab.async false
set_option linter.all false
set_option maxRecDepth 100000
set_option maxHeartbeats 4000000
/-! All parts of a row within bounds; what binds well: promises. -/
namespace Wk
open PySem PySem.Spec PyProof.Rows L2 GxR
def wordT : Th → Bool
  | .tup (.str _ :: _) => true
  | _ => false
def spBegins : Sp := fun vs H Q _ => ∃ (v : V) (t : Th), vs = [v] ∧ ThAt H t v ∧ Q (.bl (wordT t)) H
theorem form_word {t : Th} (h : wordT t = false) : formB t = false := by
  cases t with
  | tup xs =>
    cases xs with
    | nil => rfl
    | cons x r => cases x <;> first | rfl | cases h
  | _ => rfl
theorem word_cases {t : Th} (h : wordT t = true) : ∃ z r, t = .tup (.str z :: r) := by
  match t, h with
  | .tup (.str z :: r), _ => exact ⟨z, r, rfl⟩
theorem OrsAt.get {G H : Hp} : ∀ {ts : List Th} {vs : List V}, OrsAt G H ts vs → ∀ {i : Nat} {v : V}, vs[i]? = some v → ∃ t, ts[i]? = some t ∧ ThOr G H t v
  | [], vs, h, i, v, e => by
    rw [show vs = [] from h] at e
    cases e
  | t :: ts, vs, h, i, v, e => by
    obtain ⟨u, us, rfl, h1, h2⟩ := h
    cases i with
    | zero =>
      cases e
      exact ⟨t, rfl, h1⟩
    | succ i => exact OrsAt.get h2 e
theorem ThOr.tup {G H : Hp} {ys : List Th} {v : V} (s : Kpt G H) (h : ThOr G H (.tup ys) v) : ∃ a xs, v = .ref a ∧ H a = some (.tup xs) ∧ ThsAt G ys xs := by
  rcases h with h | ⟨e, a, rfl, h⟩
  · obtain ⟨a, xs, rfl, ha, hx⟩ := h
    exact ⟨a, xs, rfl, s _ _ (fun _ z => by cases z) ha, hx⟩
  · cases e
    exact ⟨a, [], rfl, h, rfl⟩
/-- the parts within the bounds of a house, or none -/
def spPartsG (Ts : List Addr) (fN fR : Addr) : Sp := fun vs H Q _ => ∃ (v : V) (t : Th), vs = [v, .int 400, .int 24, .ref fN, .ref fR] ∧ ThAt H t v ∧ okT t ∧ TabsG Ts H ∧
  (smallT 25 0 [t] = false → ∀ H', SamTs Ts H H' → Q .non H') ∧ (smallT 25 0 [t] = true → ∀ (H' : Hp) (a : Addr), SamTs Ts H H' → Q (.ref a) H')
/-- what is bound, and what is free -/
def spBinds (Ts : List Addr) : Sp := fun vs H Q _ => ∃ (Fl Bl : Addr) (fs bs : List Str), vs = [.ref Fl, .ref Bl] ∧ H Fl = some (.lst (fs.map V.str)) ∧ H Bl = some (.lst (bs.map V.str)) ∧ fs.length ≤ 1000 ∧ bs.length ≤ 1000 ∧ TabsG Ts H ∧
  ∀ (H' : Hp) (b : Bool), SamTs Ts H H' → (b = true ↔ bs.Nodup ∧ ∀ x ∈ bs, x ∉ fs) → Q (.bl b) H'
theorem thR_len (r : List Part) : (thR r).length = r.length := by rw [thR_map, List.length_map]
theorem wd_len (w : Wd) : w.str.length ≤ 1000 := by cases w <;> decide +kernel
theorem sizeP_pos (p : Part) : 1 ≤ sizeP p := by
  cases p <;> (show 1 ≤ _; unfold sizeP; omega)
mutual
theorem okT_P : ∀ p : Part, okP NmOk p → sizeP p ≤ 1000 → okT (thP p)
  | .say n, h, hs => by
    have h : NmOk n := h
    exact ⟨(show 2 ≤ 1000 by decide), (show ("say" : Str).length ≤ 1000 by decide +kernel), h.2, trivial⟩
  | .again r, h, hs => by
    have h : okR NmOk r := h
    have hs : sizeP (.again r) ≤ 1000 := hs
    unfold sizeP at hs
    have l := len_sizeR r
    exact ⟨(show 2 ≤ 1000 by decide), (show ("again" : Str).length ≤ 1000 by decide +kernel), ⟨by rw [thR_len]; omega, okT_R r h (by omega)⟩, trivial⟩
  | .oth w n r, h, hs => by
    have h : NmOk n ∧ okR NmOk r := h
    unfold sizeP at hs
    have l := len_sizeR r
    exact ⟨(show 3 ≤ 1000 by decide), wd_len w, h.1.2, ⟨by rw [thR_len]; omega, okT_R r h.2 (by omega)⟩, trivial⟩
theorem okT_R : ∀ r : List Part, okR NmOk r → sizeR r ≤ 1000 → okTs (thR r)
  | [], _, _ => trivial
  | p :: r, h, hs => by
    have h : okP NmOk p ∧ okR NmOk r := h
    unfold sizeR at hs
    exact ⟨okT_P p h.1 (by omega), okT_R r h.2 (by omega)⟩
end
theorem okT_row {r : List Part} (h : okR NmOk r) (hs : sizeR r ≤ 1000) : okT (thRow r) := by
  have l := len_sizeR r
  exact ⟨by rw [thR_len]; omega, okT_R r h hs⟩
/-- of a row that is a house -/
theorem house_of_G {P : Program} {w : World} {K : PySem.W.Frag} {mg : Str → Option Value} {base : Heap} {Ts : List Addr} {f : Addr} {fd : FuncData} {k n : Nat}
    (G : FnOk P w K mg base CX0 k f fd ["thing"] (spHouseG Ts)) : FnOk P w K mg base CX0 k f fd ["thing"] (spHouse Ts n) := by
  refine G.imp fun vs H Q E h => ?_
  obtain ⟨v, r, rfl, hR, hh, hd, tg, q⟩ := h
  have hz := hh.size
  refine ⟨v, thRow r, rfl, at_thRow hR, okT_row hh.ok (by omega), tg, fun H' b st e => ?_⟩
  have : b = true := e.mpr ⟨r, rfl, hh⟩
  rw [this]
  exact q H' st
end Wk

set_option Elab.async false
set_option linter.all false
set_option maxRecDepth 100000
set_option maxHeartbeats 4000000
/-! Defs that are called where nothing is being written out (repr): the call, the body, the end of a law. -/
namespace Wk
open PySem PySem.Spec PyProof.Rows L2
structure FnG (P : Program) (w : World) (K : PySem.W.Frag) (mg : Str → Option Value) (base : Heap) (k : Nat) (f : Addr) (fd : FuncData) (ps : List Str) (sp : Sp) : Prop where
  len : ∀ vs H Q E, sp vs H Q E → vs.length = ps.length
  go : ∀ {A : Around} {outer : List Env} {s : Shared} {H : Hp} {args : Args} {us : List Value} {vs : List V} {Q : VK} {E : XK}, A.guards = some [] → Room k A → Env0 P w K mg base A outer s H →
    BindsTo s fd args (ps.zip us) → Vals vs us → sp vs H Q E → codeAny (model P w) A (.call (.ref f) args) (CR CX0 outer P w H s Q E) s
section
variable {P : Program} {w : World} {K : PySem.W.Frag} {mg : Str → Option Value} {base : Heap}
/-- a def by its body -/
theorem FnG.of {x qual : Str} {st : Stmt} {f : Addr} {fd : FuncData} {N ps : List Str} {k : Nat} {sp : Sp} (F : Fun K x qual st f fd) (S : FnScope N ps (defScope st)) (len : ∀ vs H Q E, sp vs H Q E → vs.length = ps.length)
    (hb : ∀ (cdv : Value) (A : Around) (outer : List Env) (s : Shared) (H : Hp) (vs : List V) (Q : VK) (E : XK), A.guards = some [] → Room k (A.deeper (envOfC qual (defScope st) s.heap.objs.size f cdv)) → sp vs H Q E →
      ∃ t, PSs (cxOf CX0 P w K mg base N qual (defScope st) f cdv A outer s H E).nox (defBody st) t ∧ t { nx := fun _ H' => Q .non H', rt := Q } (start N vs) H) : FnG P w K mg base (k + 1) f fd ps sp := by
  obtain ⟨oc, od, kV, doc, pm, an, cdv, ct, osl, rfl, lk, hcd⟩ := F.ex
  refine ⟨len, ?_⟩
  intro A outer s H args us vs Q E gA hr e0 bt rv hq
  have keep : ∀ b o, base.get? b = some o → s.heap.get? b = some o := fun b o e => (e0.bs b o e).1
  have KX : K.In s.heap := e0.mod.kin.keeps keep
  have kinds : ∀ y ∈ ps.zip us, (defScope st).names.lookup y.1 = some .local ∨
      ((defScope st).names.lookup y.1 = some .cell ∧ ((cellsFrom (s.heap.objs.size + 1) (defScope st).names []).lookup y.1).isSome = true) := by
    rintro ⟨nm, v⟩ hy
    cases S.par nm (List.of_mem_zip hy).1 with
    | inl g => exact .inl g
    | inr g => exact .inr ⟨g, PySem.W.cellsFrom_some _ _ _ (.inl g)⟩
  refine codeAny_call_function hr.depth (KX _ _ lk) rfl S.co S.gen rfl (PySem.W.codeRec_of KX hcd) (bt _ _ _ _ ?_)
  refine wpAny_newFunctionEnv_cells S.kind kinds ?_
  intro env he s1 x1
  subst he
  refine ⟨(e0.mod.nolimit.keeps keep).keeps x1.toInCall.keep, codeAny_func ?_⟩
  obtain ⟨t, h1, h2⟩ := hb cdv A outer s H vs Q E gA (hr.deeper _) hq
  have I : Inv (cxOf CX0 P w K mg base N qual (defScope st) f cdv A outer s H E) [] (start N vs) H s1 := inv_start S hr.hd e0 (len _ _ _ _ hq) rv x1
  refine wpAny_mono (h1.nox.run [] s1 _ H _ I h2) ?_ (fun _ _ z => z)
  intro fl s2 hs
  cases fl with
  | ret u =>
    obtain ⟨v, τ, G, J, r1, q1⟩ := hs
    exact ⟨v, G, J.os, J.bare, J.base, J.hok, r1, q1⟩
  | next =>
    obtain ⟨τ, G, J, q1⟩ := hs
    exact ⟨V.non, G, J.os, J.bare, J.base, J.hok, rfl, q1⟩
  | brk =>
    obtain ⟨_, _, _, q1⟩ := hs
    exact q1.elim
  | cont =>
    obtain ⟨_, _, _, q1⟩ := hs
    exact q1.elim
end
section
variable {X : Cx} {k : Nat} {f : Addr} {fd : FuncData} {ps : List Str} {sp : Sp} {x : Str} {p pos : Pos} {e : Expr} {es : List Expr} {t : TA}
theorem pe_callG (F : FnG X.prog X.w X.K X.mg X.base k f fd ps sp) (gX : X.A.guards = some []) (hr : Room k X.A) (hg : Gl X x) (hm : X.mg x = some (.ref f)) (hk : PySem.W.keepIn X.K (.ref f) = true) (hb : Binds X.K fd ps []) (ha : PA X (e :: es) t)
    (hdb : (x == ("__debug__" : Str)) = false := by decide) (he : starEach (e :: es) X.env = (false, eval e X.env) :: starEach es X.env := by rfl) (hpl : (backTo pos (starEach es X.env)).any (·.1) = false := by rfl) :
    PE X (.Call (.Name x p) (e :: es) [] pos) (tCall sp [] E0 t) := by
  refine ⟨?_⟩
  intro pins s σ H Q I h
  refine wpAny_Call_Name_kw (ld_glob I hg hm (PySem.W.callWith_K (h₀ := X.base) I.ok.mod.kin hk (thn (ha.run pos pins s σ H _ I h) ?_) he hpl) hdb)
  rintro us s1 ⟨vs, H1, I1, r, q⟩
  refine ⟨I1.kIn, wpAny_call ?_⟩
  rw [List.append_nil] at q
  have hl : us.length = ps.length := r.length.symm.trans (F.len _ _ _ _ q)
  have bt := hb s1 us I1.kIn (by rw [List.append_nil]; exact hl)
  rw [List.append_nil] at bt
  refine codeAny_mono (F.go gX hr I1.env0 bt r q) ?_
  intro o s2 z
  cases o with
  | error e => exact z.elim
  | ok fl =>
    cases fl with
    | ret u => exact I1.after z
    | next => exact z.elim
    | brk => exact z.elim
    | cont => exact z.elim
end
/-- the law's call, from its promise -/
theorem law_endG {P : Program} {w : World} {K : PySem.W.Frag} {mg mb : Str → Option Value} {k : Nat} {fa a : Addr} {fd : FuncData} {x : Str} {sp : Sp} {s1 : Shared} {vs : List Value} {ns : List Int}
    (KX : K.In s1.heap) (hns : s1.heap.Ns mainGlobals mg) (hb : s1.heap.Ns builtinsNs mb) (hbb : ∀ y : Str, y ≠ "__name__" → mb y = bootBuiltins y) (hlim : s1.heap.NoLimit) (hg : s1.gens = #[])
    (ha : s1.heap.get? a = some { cls := .type "list", data := .seq vs.toArray }) (hi : IntsAre vs ns) (hl : ns.length ≤ sizeLine) (hr : Room k callerA)
    (F : ∀ base : Heap, K.In base → base.Ns mainGlobals mg → FnG P w K mg base k fa fd [x] sp) (hbind : ∀ (s : Shared) (u : Value), BindsTo s fd ⟨[u], []⟩ [(x, u)])
    (hsp : ∀ H : Hp, SqL K H a (ns.map V.int) → sp [.ref a] H (fun v _ => v = .bl true) fun _ _ _ => False) :
    codeAny (model P w) callerA (.call (.ref fa) ⟨[.ref a], []⟩) (fun r s' => r = .ok (.ret (.bool true)) ∧ OldK s1.heap s'.heap ∧ s'.os = s1.os ∧ AllBare s'.gens) s1 := by
  have rv := vals_ints hi
  have lv := hi.length
  obtain ⟨H, hA, hS⟩ : ∃ H : Hp, (∀ b u, H b = some u → b = a ∧ K.lookup a = none ∧ u = .frz { cls := .type "list", data := .seq vs.toArray } (.lst (ns.map V.int))) ∧ SqL K H a (ns.map V.int) := by
    cases hk : K.lookup a with
    | none =>
      refine ⟨fun b => if b = a then some (.frz { cls := .type "list", data := .seq vs.toArray } (.lst (ns.map V.int))) else none, ⟨?_, .inl (.inr ⟨_, if_pos rfl⟩)⟩⟩
      intro b u z
      by_cases c : b = a
      · have z' := (if_pos c).symm.trans z
        exact ⟨c, rfl, (Option.some.inj z').symm⟩
      · exact absurd ((if_neg c).symm.trans z) (by simp)
    | some ob =>
      have e := (KX a ob hk).symm.trans ha
      cases e
      exact ⟨fun _ => none, ⟨(fun b u z => absurd (show (none : Option HO) = some u from z) (by simp)), .inr ⟨_, vs.toArray, _, hk, rfl, rfl, rfl, by rw [List.size_toArray, lv]; exact hl, by simpa using rv⟩⟩⟩
  have hok : HOk P w H s1.heap := by
    intro b u z
    obtain ⟨rfl, _, rfl⟩ := hA b u z
    exact ⟨ha, by rw [List.length_map]; exact hl, vs, _, rv, ha⟩
  have free : ∀ {b : Addr} {o : Obj}, s1.heap.get? b = some o → (∀ xs n, o.data ≠ .seq xs n) → H b = none := by
    intro b o e1 e2
    cases q : H b with
    | none => rfl
    | some u =>
      obtain ⟨rfl, _, _⟩ := hA b u q
      rw [ha] at e1
      cases e1
      exact absurd rfl (e2 _ _)
  have nsK : ∀ {b : Addr} {m : Str → Option Value}, s1.heap.Ns b m → (hidT s1.heap H).Ns b m := by
    rintro b m ⟨o, es, ep, e1, e2, rest⟩
    exact ⟨o, es, ep, hidT_get e1 (free e1 fun xs n z => by rw [e2] at z; cases z), e2, rest⟩
  have kb : K.In (hidT s1.heap H) := by
    intro b o e1
    refine hidT_get (KX b o e1) ?_
    cases q : H b with
    | none => rfl
    | some u =>
      obtain ⟨rfl, z, _⟩ := hA b u q
      rw [z] at e1
      cases e1
  obtain ⟨mc, c1, c2⟩ := hlim
  have e0 : Env0 P w K mg (hidT s1.heap H) callerA [] s1 H :=
    ⟨rfl, ⟨kb, nsK hns, ⟨mb, nsK hb, hbb⟩, ⟨mc, nsK c1, c2⟩⟩, fun _ _ z => of_hidT z, Nat.le_of_eq (hidT_size _ _), trivial, fun b z => absurd (show b ∈ ([] : List Addr) from z) List.not_mem_nil, hok, .of_eq hg⟩
  refine codeAny_mono ((F _ kb (nsK hns)).go (us := [.ref a]) (vs := [.ref a]) rfl hr e0 (hbind s1 (.ref a)) (.cons rfl .nil) (hsp H hS)) ?_
  intro o s2 z
  cases o with
  | error e => exact z.elim
  | ok fl =>
    cases fl with
    | next => exact z.elim
    | brk => exact z.elim
    | cont => exact z.elim
    | ret u =>
      obtain ⟨v, G, os, bare, un, hok2, r2, q2⟩ := z
      have q3 : v = .bl true := q2
      subst q3
      obtain rfl : u = Value.bool true := r2
      refine ⟨rfl, OldK.of_keep ?_, os, bare⟩
      intro b ob e1
      cases q : H b with
      | none => exact un.keep b ob e1 q (fun m => absurd (show b ∈ ([] : List Addr) from m) List.not_mem_nil) List.not_mem_nil
      | some u =>
        obtain ⟨rfl, _, rfl⟩ := hA b u q
        obtain ⟨e2, _⟩ := hok2 _ _ (un.frzs _ _ _ q)
        rw [ha] at e1
        cases e1
        exact e2
theorem walk_endG {l : PySem.W.OpenLaw} {n k : Nat} {q : Program} {loose : List Str} {XP : (Str → Option Value) → Heap → Prop} {YP : World → Heap → Prop} {d : DefRec} {K : Params → PySem.W.Frag} {sp : World → Sp} {x : Str}
    (hn : l.most = some n) (hn2 : n ≤ sizeLine) (hdf : d.params.defaults = []) (hr : Room k callerA) (hY : ∀ (w : World) (h : Heap), YP w h → (K w.params).In h)
    (F : ∀ (w : World) (mg : Str → Option Value) (fa : Addr) (h : Heap), (K w.params).In h → h.Ns mainGlobals mg → mg d.name = some (.ref fa) →
      ∃ fd : FuncData, (∀ (s : Shared) (u : Value), BindsTo s fd ⟨[u], []⟩ [(x, u)]) ∧ ∀ base : Heap, (K w.params).In base → base.Ns mainGlobals mg → FnG l.prog w (K w.params) mg base k fa fd [x] (sp w))
    (hsp : ∀ (w : World) (H : Hp) (a : Addr) (ns : List Int), ns.length ≤ n → SqL (K w.params) H a (ns.map V.int) → sp w [.ref a] H (fun v _ => v = .bl true) fun _ _ _ => False) :
    PySem.W.WalkO q loose XP YP l.row.toRowW d [] (fun f vs => PySem.call f vs) := by
  refine Att.attach_callB hn hdf ?_
  intro w s0 s1 mg mb fa o pm cd doc a vs ns G Y ho hd hcd hmg hobj hints hlen hbits hg
  obtain ⟨fd, hb, hF⟩ := F w mg fa _ (hY w _ Y) G.T.g hmg
  exact law_endG (hY w _ Y) G.T.g G.T.b G.T.builtins G.T.nolimit hg hobj hints (Nat.le_trans hlen hn2) hr hF hb fun H hS => hsp w H a ns hlen hS
end Wk

set_option Elab.async false
set_option linter.all false
set_option maxRecDepth 100000
set_option maxHeartbeats 2000000
/-! Things of tuples alone; tuples joined; things that are no house. -/
namespace Wk
open PySem PySem.Spec PyProof.Rows L2 GxR
def rCatS : R2 := fun x y H Q => ∃ a b xs ys, x = .ref a ∧ y = .ref b ∧ H a = some (.tup xs) ∧ H b = some (.tup ys) ∧ xs.length + ys.length ≤ 1000 ∧ ∀ (H' : Hp) (c : Addr), Same H H' → H' c = some (.tup (xs ++ ys)) → Q (.ref c) H'
theorem op_catS {X : Cx} : OpR X (binaryOp .Add) rCatS := by
  intro pins s σ H x y v u Q I rx ry h
  obtain ⟨a, b, xs, ys, ex, ey, ha, hb, hz, q⟩ := h
  refine op_catA pins s σ H x y v u Q I rx ry ⟨a, b, xs, ys, ex, ey, SqT.of ha, SqT.of hb, small hz, fun e => ?_, fun _ e => ?_, fun _ _ p np => ?_⟩
  · exact q H b (fun _ _ e => e) (by rw [e]; exact hb)
  · exact q H a (fun _ _ e => e) (by rw [e, List.append_nil]; exact ha)
  · exact q _ p (same_new np) upd_same
mutual
def pureT : Th → Prop
  | .tup xs => pureTs xs
  | .lst _ => False
  | .dct => False
  | _ => True
def pureTs : List Th → Prop
  | [] => True
  | t :: ts => pureT t ∧ pureTs ts
end
mutual
theorem ThAt.monoT {H H' : Hp} (s : STup H H') : ∀ (t : Th) (v : V), pureT t → ThAt H t v → ThAt H' t v
  | .str z, v, _, h => h
  | .non, v, _, h => h
  | .int i, v, _, h => h
  | .bl b, v, _, h => h
  | .lst xs, v, p, _ => p.elim
  | .dct, v, p, _ => p.elim
  | .tup xs, v, p, h => by
    obtain ⟨a, vs, e, h1, h2⟩ := h
    exact ⟨a, vs, e, s _ _ h1, ThsAt.monoT s xs vs p h2⟩
theorem ThsAt.monoT {H H' : Hp} (s : STup H H') : ∀ (ts : List Th) (vs : List V), pureTs ts → ThsAt H ts vs → ThsAt H' ts vs
  | [], vs, _, h => h
  | t :: ts, vs, p, h => by
    obtain ⟨v, us, e, h1, h2⟩ := h
    exact ⟨v, us, e, ThAt.monoT s t v p.1 h1, ThsAt.monoT s ts us p.2 h2⟩
end
theorem pureTs_app : ∀ {l m : List Th}, pureTs l → pureTs m → pureTs (l ++ m)
  | [], _, _, g => g
  | _ :: _, _, h, g => ⟨h.1, pureTs_app h.2 g⟩
mutual
theorem pure_P : ∀ p : Part, pureT (thP p)
  | .say n => ⟨trivial, trivial, trivial⟩
  | .again r => ⟨trivial, pure_R r, trivial⟩
  | .oth w n r => ⟨trivial, trivial, pure_R r, trivial⟩
theorem pure_R : ∀ r : List Part, pureTs (thR r)
  | [] => trivial
  | p :: r => ⟨pure_P p, pure_R r⟩
end
theorem okTs_appP {l m : List Th} (h : okTs l) (g : okTs m) : okTs (l ++ m) :=
  okTs.of fun t ht => (List.mem_append.mp ht).elim (okTs.mem h t) (okTs.mem g t)
/-! ### no house -/
def NoHs (t : Th) : Prop := ¬ ∃ r, t = thRow r ∧ HouseR r
theorem nh_kind {t : Th} (h : isTup t = false) : NoHs t := fun ⟨r, e, _⟩ => by
  rw [e] at h
  cases h
theorem nh_mem {ts : List Th} {x : Th} (hx : x ∈ ts) (h : ∀ p, okP NmOk p → thP p ≠ x) : NoHs (.tup ts) := fun ⟨r, e, hh⟩ => by
  have e' : ts = thR r := Th.tup.inj e
  rw [e', thR_map] at hx
  obtain ⟨p, hp, rfl⟩ := List.mem_map.mp hx
  exact h p (okR.mem hh.ok p hp) rfl
theorem nh_name {z : Str} (h : nameB z = false) : ∀ p, okP NmOk p → thP p ≠ .tup [.str "say", .str z] := fun p ok e => by
  have e2 := thP_inj p (.say z) e
  rw [e2] at ok
  have : nameB z = true := ok.1
  rw [h] at this
  cases this
theorem nh_list {xs : List Th} : ∀ p, okP NmOk p → thP p ≠ .lst xs := fun p _ e => by
  cases p <;> cases e
theorem nh_str {z : Str} : ∀ p, okP NmOk p → thP p ≠ .str z := fun p _ e => by
  cases p <;> cases e
theorem nh_nil : ∀ p, okP NmOk p → thP p ≠ .tup [] := fun p _ e => by
  cases p <;> cases e
theorem nh_room : ∀ p, okP NmOk p → thP p ≠ .tup [.str "room", .str "a", .tup [.str "say", .str "a"]] := fun p _ e => by
  cases p with
  | say n => cases e
  | again r => cases e
  | oth w n r =>
    have h := (List.cons.inj (List.cons.inj (List.cons.inj (Th.tup.inj e)).2).2).1
    have h2 : thR r = [.str "say", .str "a"] := Th.tup.inj h
    cases r with
    | nil => cases h2
    | cons p r =>
      have h3 := (List.cons.inj h2).1
      exact absurd h3 (by cases p <;> (intro z; cases z))
theorem thR_snoc (r : List Part) (p : Part) : thR (r ++ [p]) = thR r ++ [thP p] := by
  rw [thR_map, thR_map, List.map_append]
  rfl
theorem nh_twice {r : List Part} {n : Str} (h : n ∈ bdR r) : NoHs (.tup (thR r ++ [thP (.oth .hear n [])])) := fun ⟨r', e, hh⟩ => by
  have e1 : thR r ++ [thP (.oth .hear n [])] = thR r' := Th.tup.inj e
  rw [← thR_snoc] at e1
  have e2 := thR_inj _ _ e1
  have nd := hh.nd
  rw [← e2, bdR_app] at nd
  exact (List.nodup_append.mp nd).2.2 n h n (by show n ∈ [n]; exact List.mem_singleton.mpr rfl) rfl
theorem nh_out {r : List Part} {n : Str} (h : n ∈ bdR r) : NoHs (.tup (thR r ++ [thP (.say n)])) := fun ⟨r', e, hh⟩ => by
  have e1 : thR r ++ [thP (.say n)] = thR r' := Th.tup.inj e
  rw [← thR_snoc] at e1
  have e2 := thR_inj _ _ e1
  have ap := hh.apart
  rw [← e2] at ap
  refine ap n ?_ ?_
  · rw [bdR_app]; exact List.mem_append_left _ h
  · rw [frR_app]
    refine List.mem_append_right _ ?_
    show n ∈ frR [] [.say n]
    simp [frR, frP]
theorem rep_size : ∀ k : Nat, sizeR (List.replicate k (Part.say "a")) = k
  | 0 => rfl
  | k + 1 => by
    show sizeP (.say "a") + sizeR (List.replicate k (Part.say "a")) = k + 1
    rw [rep_size k]
    show 1 + k = k + 1
    omega
theorem nh_many : NoHs (thRow (List.replicate 401 (Part.say "a"))) := fun ⟨r, e, hh⟩ => by
  have e2 := thRow_inj e
  have := hh.size
  rw [← e2, rep_size] at this
  omega
def dpR : Nat → List Part
  | 0 => []
  | n + 1 => [.oth .inn "a" (dpR n)]
theorem dpR_deep : ∀ n, deepR (dpR n) = n
  | 0 => rfl
  | n + 1 => by
    show max (deepR (dpR n) + 1) 0 = n + 1
    rw [dpR_deep n]
    omega
theorem nh_deep : NoHs (thRow (dpR 25)) := fun ⟨r, e, hh⟩ => by
  have e2 := thRow_inj e
  have := hh.deep
  rw [← e2, dpR_deep] at this
  omega
def spDeepRow : Sp := fun vs H Q _ => ∃ m : Nat, vs = [.int m] ∧ m ≤ 30 ∧ ∀ (H' : Hp) (u : V), Same H H' → RowAt H' (dpR m) u → Q u H'
/-! ### things that are none, as values -/
def NhV (H : Hp) (v : V) : Prop := ∃ t, ThAt H t v ∧ okT t ∧ NoHs t
theorem NhV.up {H H' : Hp} {v : V} (s : Same H H') (h : NhV H v) : NhV H' v := h.imp fun t g => ⟨ThAt.mono (Kpt.same s) t v g.1, g.2⟩
def NhA (H : Hp) (xs : List V) : Prop := ∀ v ∈ xs, NhV H v
theorem NhA.up {H H' : Hp} {xs : List V} (s : Same H H') (h : NhA H xs) : NhA H' xs := fun v hv => (h v hv).up s
theorem NhA.app {H : Hp} {xs ys : List V} (a : NhA H xs) (b : NhA H ys) : NhA H (xs ++ ys) := fun v hv => (List.mem_append.mp hv).elim (a v) (b v)
theorem NhA.nil {H : Hp} : NhA H [] := fun _ h => nomatch h
theorem NhA.cons {H : Hp} {v : V} {xs : List V} (a : NhV H v) (b : NhA H xs) : NhA H (v :: xs) := fun y hy => by
  rcases List.mem_cons.mp hy with e | e
  · rw [e]; exact a
  · exact b y e
theorem RowAt.parts {H : Hp} {r : List Part} {v : V} (h : RowAt H r v) : ∃ a vs, v = .ref a ∧ H a = some (.tup vs) ∧ ThsAt H (thR r) vs := by
  obtain ⟨a, vs, e, h1, h2⟩ := at_thRow h
  exact ⟨a, vs, e, h1, h2⟩
end Wk

set_option Elab.async false
set_option linter.all false
set_option maxRecDepth 100000
set_option maxHeartbeats 4000000
/-! repr of things of tuples, ints and texts; sum of a tuple of ints. -/
namespace Wk
open PySem PySem.Spec PyProof.Rows L2
mutual
def dataT : Th → PyData
  | .str z => .str z
  | .int i => .int i
  | .bl b => .bool b
  | .tup xs => .tuple (dataTs xs)
  | .lst xs => .list (dataTs xs)
  | _ => .none
def dataTs : List Th → List PyData
  | [] => []
  | t :: ts => dataT t :: dataTs ts
end
section
variable {X : Cx} {pins : List (Addr × Obj)} {σ : L2.St} {H : Hp} {s : Shared}
mutual
theorem th_reads (I : Inv X pins σ H s) : ∀ (t : Th) (v : V) (u : Value), pureT t → ThAt H t v → RelV v u → ∃ as, Reads s.heap u (dataT t) as
  | .str z, v, u, _, h, r => by
    have h : v = .str z := h
    subst h
    obtain ⟨k, rfl⟩ := (show ∃ k, u = Value.str z k from r)
    exact ⟨_, .str z k⟩
  | .int i, v, u, _, h, r => by
    have h : v = .int i := h
    subst h
    obtain ⟨k, rfl⟩ := (show ∃ k, u = Value.int i k from r)
    exact ⟨_, .int i k⟩
  | .non, v, u, _, h, r => by
    have h : v = .non := h
    subst h
    cases (show u = Value.none from r)
    exact ⟨_, .none⟩
  | .bl b, v, u, _, h, r => by
    have h : v = .bl b := h
    subst h
    cases (show u = Value.bool b from r)
    exact ⟨_, .bool b⟩
  | .lst xs, v, u, p, _, _ => p.elim
  | .dct, v, u, p, _, _ => p.elim
  | .tup xs, v, u, p, h, r => by
    obtain ⟨a, vs, rfl, h1, h2⟩ := h
    cases (show u = Value.ref a from r)
    obtain ⟨_, its, rv, o, e1, e2, n, e3⟩ := (show ObjOk X.prog X.w H s.heap a (.tup vs) from I.hok a _ h1)
    obtain ⟨as, ra⟩ := ths_reads I xs vs its p h2 rv
    exact ⟨as, .tuple e1 e2 e3 ra⟩
theorem ths_reads (I : Inv X pins σ H s) : ∀ (ts : List Th) (vs : List V) (us : List Value), pureTs ts → ThsAt H ts vs → Vals vs us → ∃ as, ReadsAll s.heap us (dataTs ts) as
  | [], vs, us, _, h, r => by
    have h : vs = [] := h
    subst h
    cases r
    exact ⟨_, .nil⟩
  | t :: ts, vs, us, p, h, r => by
    obtain ⟨v, ws, rfl, h1, h2⟩ := h
    cases r with
    | cons r1 r2 =>
      obtain ⟨as, g1⟩ := th_reads I t v _ p.1 h1 r1
      obtain ⟨bs, g2⟩ := ths_reads I ts ws _ p.2 h2 r2
      exact ⟨_, .cons g1 g2⟩
end
end
def rRepr : List V → Hp → VK → Prop := fun xs H Q => ∃ (a : Addr) (t : Th), xs = [.ref a] ∧ ThAt H t (.ref a) ∧ pureT t ∧ (dataT t).showable = true ∧ (dataT t).hasDict = false ∧ (dataT t).depth ≤ 30 ∧ (dataT t).shown.length ≤ sizeLine ∧ Q (.str (dataT t).shown) H
theorem call_reprT {X : Cx} (gX : X.A.guards = some []) (hu : X.A.units + 64 < cLine) : CallR X (.builtin "repr") rRepr := by
  intro pins s σ H xs us Q I r h
  obtain ⟨a, t, rfl, ht, pt, hs, hd, hdp, hz, q⟩ := h
  rw [Vals.ref1 r]
  obtain ⟨as, rd⟩ := th_reads I t (.ref a) (.ref a) pt ht rfl
  exact repr_of_reads' rd hs (fun z => by rw [hd] at z; cases z) gX (by omega) (fun _ _ e => e) (fun h' u tk hk => ⟨.str _, H, I.kept hk, ⟨u, rfl⟩, q⟩) hz
theorem preSum_take (ns : List Int) : ∀ k, k ≤ ns.length → preSum (fun i => (ns[i]?).getD 0) k = (ns.take k).sum
  | 0, _ => by simp [preSum]
  | k + 1, h => by
    have hk : k < ns.length := h
    rw [preSum, preSum_take ns k (Nat.le_of_lt hk), List.take_add_one, List.sum_append, List.getElem?_eq_getElem hk]
    simp
theorem vals_nth : ∀ {ns : List Int} {its : List Value}, Vals (ns.map V.int) its → ∀ {i : Nat} {v : Value}, its[i]? = some v → ∃ t, v = .int ((ns[i]?).getD 0) t
  | [], its, h, i, v, e => by
    rw [List.map_nil] at h
    cases h
    cases e
  | m :: ns, its, h, i, v, e => by
    rw [List.map_cons] at h
    cases h with
    | cons r1 r2 =>
      cases i with
      | zero =>
        cases e
        exact r1
      | succ i => exact vals_nth r2 e
def rSumT : List V → Hp → VK → Prop := fun vs H Q => ∃ (a : Addr) (ns : List Int), vs = [V.ref a] ∧ H a = some (.tup (ns.map V.int)) ∧ Q (.int ns.sum) H
theorem cr_sumT {X : Cx} (hc : X.calm = true) : CallR X (.builtin "sum") rSumT := by
  intro pins s σ H vs us Q I r h
  obtain ⟨a, ns, rfl, hT, q⟩ := h
  rw [Vals.ref1 r]
  obtain ⟨_, its, rv, ht⟩ := (show ObjOk X.prog X.w H s.heap a (.tup (ns.map V.int)) from I.hok a _ hT)
  have lt : a < s.heap.objs.size := ht.lt
  have ln : its.length = ns.length := by rw [← rv.length, List.length_map]
  refine call_sum_walkG (iter_tuple ht ?_)
  refine ⟨_, _, _, _, _, _, fun i => (ns[i]?).getD 0, rfl, Walks.tuple (A := X.A.in1) (I.ok.hd hc) _ a (Nat.ne_of_lt lt) its.toArray, ⟨⟨_, Heap.get?_push_size _ rfl, rfl, rfl⟩, ?_⟩, fun b hb => ?_, fun i v e => vals_nth rv (by simpa using e), fun h' tk t' hk => ?_⟩
  · exact ht.push _
  · rw [Heap.size_push]
    rcases List.mem_cons.mp hb with e | e
    · rw [e]; exact Nat.lt_succ_self _
    · rw [List.mem_singleton.mp e]; exact Nat.lt_succ_of_lt lt
  · have e : preSum (fun i => (ns[i]?).getD 0) its.toArray.size = ns.sum := by
      rw [List.size_toArray, ln, preSum_take ns _ (Nat.le_refl _), List.take_length]
    rw [e]
    refine ⟨.int _, H, I.kept fun b o z => hk b o (fun m => ?_) (Heap.get?_push_of_some _ z), ⟨t', rfl⟩, q⟩
    rw [List.mem_singleton.mp m] at z
    exact absurd (Heap.lt_size z) (Nat.lt_irrefl _)
end Wk

set_option Elab.async false
set_option linter.all false
set_option maxRecDepth 100000
set_option maxHeartbeats 4000000
/-! A tuple compared with the one without items. -/
namespace Wk
open PySem PySem.Spec PyProof.Rows L2 GxR
def rNeT0 (K : PySem.W.Frag) : R2 := fun x y H Q => ∃ (a b : Addr) (xs : List V), x = .ref a ∧ y = .ref b ∧ SqT K H a xs ∧ SqT K H b [] ∧ Q (.bl (!xs.isEmpty)) H
theorem op_neT0 {X : Cx} (hu : X.A.units + 64 < cLine) : OpR X (compareOp .NotEq) (rNeT0 X.K) := by
  intro pins s σ H x y v u Q I rx ry h
  obtain ⟨a, b, xs, rfl, rfl, ha, hb, q⟩ := h
  cases rx
  cases ry
  obtain ⟨its, r1, ⟨o, h1, h2, n, h3⟩, _⟩ := I.tuple ha
  obtain ⟨its2, r2, ⟨o2, k1, k2, n2, k3⟩, _⟩ := I.tuple hb
  cases r2
  have l1 := r1.length
  have t := SeqAt.RcNeAt.tuples (A := X.A) (s := s) (e := fun _ => true) (items := its.toArray) (items2 := #[]) ⟨o, h1, h2, n, h3⟩ ⟨o2, k1, k2, n2, k3⟩ (by omega) (fun j j1 j2 => absurd j2 (by simp))
  refine t X.prog X.w X.xe _ ?_
  have e : (!(((List.range (min its.toArray.size (#[] : Array Value).size)).all fun _ => true) && its.toArray.size == (#[] : Array Value).size)) = !xs.isEmpty := by
    have a1 : ((List.range (min its.toArray.size (#[] : Array Value).size)).all fun _ => true) = true := List.all_eq_true.mpr fun _ _ => rfl
    rw [a1, Bool.true_and, List.size_toArray, ← l1]
    cases xs <;> rfl
  exact ⟨.bl (!xs.isEmpty), H, I, by rw [← e]; rfl, q⟩
/-! ### the law's own look -/
def spLName : Sp := fun vs H Q _ => ∃ (v : V) (t : Th), vs = [v] ∧ ThAt H t v ∧ okT t ∧ ∀ H', Same H H' → Q (.bl (nmT t)) H'
def spLRow (n : Nat) : Sp := fun vs H Q _ => ∃ (v : V) (t : Th) (m : Nat), vs = [v, .int m] ∧ ThAt H t v ∧ okT t ∧ m < n ∧ ∀ (H' : Hp) (b : Bool), Same H H' → (b = true ↔ ∃ r, t = thRow r ∧ okR NmOk r ∧ deepR r ≤ m) → Q (.bl b) H'
theorem wordB_eq (z : Str) : wordB z abc = (decide (1 ≤ z.length) && (decide (z.length ≤ 6) && z.cps.toList.all fun c => decide (c ∈ abc.cps.toList))) := rfl
/-- one thing is a part of a row of at most m more levels -/
def PartT (m : Nat) (x : Th) : Prop := ∃ p, x = thP p ∧ okP NmOk p ∧ deepP p ≤ m
theorem row_parts : ∀ (xs : List Th) (m : Nat), (∀ x ∈ xs, PartT m x) → ∃ r : List Part, xs = thR r ∧ okR NmOk r ∧ deepR r ≤ m
  | [], m, _ => ⟨[], rfl, trivial, Nat.zero_le _⟩
  | x :: xs, m, h => by
    obtain ⟨p, e, h1, h2⟩ := h x List.mem_cons_self
    obtain ⟨r, e2, h3, h4⟩ := row_parts xs m fun y hy => h y (List.mem_cons_of_mem _ hy)
    exact ⟨p :: r, by rw [e, e2]; rfl, ⟨h1, h3⟩, by show max (deepP p) (deepR r) ≤ m; omega⟩
theorem parts_row {xs : List Th} {m : Nat} {r : List Part} (e : xs = thR r) (h : okR NmOk r) (hd : deepR r ≤ m) : ∀ x ∈ xs, PartT m x := fun x hx => by
  rw [e, thR_map] at hx
  obtain ⟨p, hp, rfl⟩ := List.mem_map.mp hx
  exact ⟨p, rfl, h.mem p hp, Nat.le_trans (deepR.mem p hp) hd⟩
def sizV : List (Key × V) := [(Sum.inr "say", .int 2), (Sum.inr "again", .int 2), (Sum.inr "room", .int 3), (Sum.inr "in", .int 3), (Sum.inr "out", .int 3), (Sum.inr "open", .int 3), (Sum.inr "hear", .int 3), (Sum.inr "new", .int 3)]
theorem sizV_get (z : Str) : (valV sizV (Sum.inr z)).getD .non = szV z := by
  have step : ∀ (k : Str) (v : V) (r : List (Key × V)), valV ((Sum.inr k, v) :: r) (Sum.inr z) = if z = k then some v else valV r (Sum.inr z) := fun k v r => by
    by_cases c : z = k
    · rw [if_pos c, c]; exact valV_pos rfl
    · rw [if_neg c]; exact valV_neg (fun e => c (Sum.inr.inj e).symm)
  unfold sizV szV szOf
  rw [step, step, step, step, step, step, step, step, valV_nil]
  by_cases c1 : z = "say"
  · subst c1; rfl
  by_cases c2 : z = "again"
  · subst c2; rfl
  by_cases c3 : z = "room"
  · subst c3; rfl
  by_cases c4 : z = "in"
  · subst c4; rfl
  by_cases c5 : z = "out"
  · subst c5; rfl
  by_cases c6 : z = "open"
  · subst c6; rfl
  by_cases c7 : z = "hear"
  · subst c7; rfl
  by_cases c8 : z = "new"
  · subst c8; rfl
  simp only [if_neg c1, if_neg c2, if_neg c3, if_neg c4, if_neg c5, if_neg c6, if_neg c7, if_neg c8]
  rfl
end Wk

set_option Elab.async false
set_option linter.all false
set_option maxRecDepth 100000
set_option maxHeartbeats 4000000
/-! A list compared with the one without items; the signs of a text that are none of some. -/
namespace Wk
open PySem PySem.Spec PyProof.Rows L2 GxR
def rEqL0 (K : PySem.W.Frag) (neg : Bool) : R2 := fun x y H Q => ∃ (a b : Addr) (xs : List V), x = .ref a ∧ y = .ref b ∧ SqL K H a xs ∧ SqL K H b [] ∧ Q (.bl (if neg then !xs.isEmpty else xs.isEmpty)) H
theorem op_eqL0 {X : Cx} (hu : X.A.units + 64 < cLine) : OpR X (compareOp .Eq) (rEqL0 X.K false) := by
  intro pins s σ H x y v u Q I rx ry h
  obtain ⟨a, b, xs, rfl, rfl, ha, hb, q⟩ := h
  cases rx
  cases ry
  obtain ⟨its, r1, ⟨o, n, h1, h2, _, h3⟩, _⟩ := I.list ha
  obtain ⟨its2, r2, ⟨o2, n2, k1, k2, _, k3⟩, _⟩ := I.list hb
  cases r2
  have l1 := r1.length
  cases xs with
  | nil =>
    have e0 : its = [] := List.length_eq_zero_iff.mp l1.symm
    subst e0
    have t := SeqAt.RcAt.lists (A := X.A) (s := s) (e := fun _ => true) (items := #[]) (items2 := #[]) ⟨o, h1, h2, n, h3⟩ ⟨o2, k1, k2, n2, k3⟩ rfl (by omega) (fun j j1 j2 => absurd j2 (by simp))
    refine t X.prog X.w X.xe _ ?_
    exact ⟨.bl true, H, I, rfl, q⟩
  | cons x0 xs0 =>
    have t := SeqAt.RcAt.lists_lengths (A := X.A) (s := s) (items := its.toArray) (items2 := #[]) ⟨o, h1, h2, n, h3⟩ ⟨o2, k1, k2, n2, k3⟩ (by rw [List.size_toArray, ← l1]; rfl) (by omega)
    refine t X.prog X.w X.xe _ ?_
    exact ⟨.bl false, H, I, rfl, q⟩
theorem op_neL0 {X : Cx} (hu : X.A.units + 64 < cLine) : OpR X (compareOp .NotEq) (rEqL0 X.K true) := by
  intro pins s σ H x y v u Q I rx ry h
  obtain ⟨a, b, xs, rfl, rfl, ha, hb, q⟩ := h
  cases rx
  cases ry
  obtain ⟨its, r1, ⟨o, n, h1, h2, _, h3⟩, _⟩ := I.list ha
  obtain ⟨its2, r2, ⟨o2, n2, k1, k2, _, k3⟩, _⟩ := I.list hb
  cases r2
  have l1 := r1.length
  cases xs with
  | nil =>
    have e0 : its = [] := List.length_eq_zero_iff.mp l1.symm
    subst e0
    have t := SeqAt.RcNeAt.lists (A := X.A) (s := s) (e := fun _ => true) (items := #[]) (items2 := #[]) ⟨o, h1, h2, n, h3⟩ ⟨o2, k1, k2, n2, k3⟩ rfl (by omega) (fun j j1 j2 => absurd j2 (by simp))
    refine t X.prog X.w X.xe _ ?_
    exact ⟨.bl false, H, I, rfl, q⟩
  | cons x0 xs0 =>
    have t := SeqAt.RcNeAt.lists_lengths (A := X.A) (s := s) (items := its.toArray) (items2 := #[]) ⟨o, h1, h2, n, h3⟩ ⟨o2, k1, k2, n2, k3⟩ (by rw [List.size_toArray, ← l1]; rfl) (by omega)
    refine t X.prog X.w X.xe _ ?_
    exact ⟨.bl true, H, I, rfl, q⟩
/-- the signs that are none of sg -/
def bad (sg : Str) (l : List Nat) : List Nat := l.filter fun c => !decide (c ∈ sg.cps.toList)
def badV (sg : Str) (l : List Nat) : List V := (bad sg l).map fun c => .str ⟨#[c]⟩
theorem badV_take {sg : Str} {l : List Nat} {i c : Nat} (h : l[i]? = some c) : badV sg (l.take (i + 1)) = badV sg (l.take i) ++ (if c ∈ sg.cps.toList then [] else [.str ⟨#[c]⟩]) := by
  unfold badV bad
  rw [List.take_add_one, h, List.filter_append, List.map_append]
  congr 1
  by_cases hc : c ∈ sg.cps.toList
  · rw [if_pos hc]
    simp only [Option.toList, List.filter, decide_eq_true hc, Bool.not_true, List.map_nil]
  · rw [if_neg hc]
    simp only [Option.toList, List.filter, decide_eq_false hc, Bool.not_false, List.map_cons, List.map_nil]
theorem badV_none (sg : Str) : ∀ l : List Nat, (badV sg l).isEmpty = l.all fun c => decide (c ∈ sg.cps.toList)
  | [] => rfl
  | c :: r => by
    by_cases hc : c ∈ sg.cps.toList
    · have e : badV sg (c :: r) = badV sg r := by
        unfold badV
        rw [show bad sg (c :: r) = bad sg r from List.filter_cons_of_neg (by rw [decide_eq_true hc]; decide)]
      rw [e, badV_none sg r, List.all_cons, decide_eq_true hc, Bool.true_and]
    · have e : bad sg (c :: r) = c :: bad sg r := List.filter_cons_of_pos (by rw [decide_eq_false hc]; rfl)
      unfold badV
      rw [e, List.all_cons, decide_eq_false hc, Bool.false_and, List.map_cons]
      rfl
theorem badV_len {sg z : Str} (h : z.length ≤ 6) (i : Nat) : (badV sg (z.cps.toList.take i)).length < sizeLine := by
  have h1 : (badV sg (z.cps.toList.take i)).length ≤ 6 := by
    unfold badV bad
    rw [List.length_map]
    refine Nat.le_trans (List.length_filter_le _ _) ?_
    rw [List.length_take, Array.length_toList]
    exact Nat.le_trans (Nat.min_le_right _ _) h
  have : 1000 < sizeLine := by decide
  omega
end Wk

set_option Elab.async false
set_option linter.all false
set_option maxRecDepth 100000
set_option maxHeartbeats 1000000
/-! Places and what they hold: reaching one from another; dicts of lists of pairs of texts. -/
namespace Wk
open PySem PySem.Spec PyProof.Rows L2 GxR
inductive RchP (g : Str → List Str) (b : Str) : Str → Prop
  | one {x : Str} : x ∈ g b → RchP g b x
  | step {y x : Str} : RchP g b y → x ∈ g y → RchP g b x
abbrev EntP := Str × Str
abbrev HldP := Str × List EntP
def entH (hs : List HldP) (p : Str) : List EntP := ((hs.find? fun h => decide (h.1 = p)).map (·.2)).getD []
def roomsE (es : List EntP) : List Str := (es.filter fun e => decide (e.1 = ("room" : Str))).map (·.2)
def adjH (hs : List HldP) (p : Str) : List Str := roomsE (entH hs p)
def univH (hs : List HldP) : List Str := (hs.map fun h => h.2.map (·.2)).flatten
theorem roomsE_app (a b : List EntP) : roomsE (a ++ b) = roomsE a ++ roomsE b := by unfold roomsE; rw [List.filter_append, List.map_append]
theorem roomsE_mem {es : List EntP} {x : Str} : x ∈ roomsE es ↔ (("room" : Str), x) ∈ es := by
  unfold roomsE
  constructor
  · intro h
    obtain ⟨e, he, rfl⟩ := List.mem_map.mp h
    obtain ⟨h1, h2⟩ := List.mem_filter.mp he
    have h3 : e.1 = "room" := of_decide_eq_true h2
    rw [← h3]
    exact h1
  · intro h
    exact List.mem_map.mpr ⟨_, List.mem_filter.mpr ⟨h, decide_eq_true rfl⟩, rfl⟩
theorem roomsE_len (es : List EntP) : (roomsE es).length ≤ es.length := by
  unfold roomsE
  rw [List.length_map]
  exact List.length_filter_le _ _
theorem entH_cases (hs : List HldP) (p : Str) : entH hs p = [] ∨ ∃ h ∈ hs, h.1 = p ∧ entH hs p = h.2 := by
  unfold entH
  cases e : hs.find? fun h => decide (h.1 = p) with
  | none => exact .inl rfl
  | some h => exact .inr ⟨h, List.mem_of_find?_eq_some e, of_decide_eq_true (List.find?_some (p := fun h : HldP => decide (h.1 = p)) e), rfl⟩
theorem adj_univ {hs : List HldP} {p x : Str} (h : x ∈ adjH hs p) : x ∈ univH hs := by
  have h := roomsE_mem.mp h
  rcases entH_cases hs p with e | ⟨k, hk, _, e⟩
  · rw [e] at h; cases h
  · rw [e] at h
    exact List.mem_flatten.mpr ⟨_, List.mem_map.mpr ⟨k, hk, rfl⟩, List.mem_map.mpr ⟨_, h, rfl⟩⟩
theorem entH_len {hs : List HldP} {n : Nat} (hl : ∀ h ∈ hs, h.2.length ≤ n) (p : Str) : (entH hs p).length ≤ n := by
  rcases entH_cases hs p with e | ⟨k, hk, _, e⟩
  · rw [e]; exact Nat.zero_le _
  · rw [e]; exact hl k hk
theorem univ_len {n : Nat} : ∀ {hs : List HldP}, (∀ h ∈ hs, h.2.length ≤ n) → (univH hs).length ≤ n * hs.length
  | [], _ => Nat.zero_le _
  | k :: hs, hl => by
    have ih := univ_len (hs := hs) fun h hh => hl h (List.mem_cons_of_mem _ hh)
    have h0 := hl k List.mem_cons_self
    have e : univH (k :: hs) = k.2.map (·.2) ++ univH hs := rfl
    rw [e, List.length_append, List.length_map, List.length_cons, Nat.mul_succ]
    omega
/-! ### in the heap -/
def EnsAt (H : Hp) : List EntP → List V → Prop
  | [], xs => xs = []
  | e :: es, xs => ∃ b us, xs = .ref b :: us ∧ H b = some (.tup [.str e.1, .str e.2]) ∧ EnsAt H es us
def HldsAt (H : Hp) : List HldP → List (Key × V) → Prop
  | [], kvs => kvs = []
  | h :: hs, kvs => ∃ l xs us, kvs = (Sum.inr h.1, .ref l) :: us ∧ H l = some (.lst xs) ∧ EnsAt H h.2 xs ∧ HldsAt H hs us
theorem EnsAt.tup {H H' : Hp} (s : STup H H') : ∀ {es : List EntP} {xs : List V}, EnsAt H es xs → EnsAt H' es xs
  | [], _, h => h
  | e :: es, _, h => by
    obtain ⟨b, us, rfl, h1, h2⟩ := h
    exact ⟨b, us, rfl, s _ _ h1, EnsAt.tup s h2⟩
theorem EnsAt.len {H : Hp} : ∀ {es : List EntP} {xs : List V}, EnsAt H es xs → xs.length = es.length
  | [], _, h => by rw [show _ = [] from h]; rfl
  | e :: es, _, h => by
    obtain ⟨b, us, rfl, h1, h2⟩ := h
    rw [List.length_cons, List.length_cons, EnsAt.len h2]
theorem EnsAt.get {H : Hp} : ∀ {es : List EntP} {xs : List V} {i : Nat} {v : V}, EnsAt H es xs → xs[i]? = some v → ∃ e b, es[i]? = some e ∧ v = .ref b ∧ H b = some (.tup [.str e.1, .str e.2])
  | [], _, i, v, h, e => by
    rw [show _ = [] from h] at e
    cases e
  | k :: es, _, i, v, h, e => by
    obtain ⟨b, us, rfl, h1, h2⟩ := h
    cases i with
    | zero =>
      cases e
      exact ⟨k, b, rfl, rfl, h1⟩
    | succ i => exact EnsAt.get (i := i) h2 e
theorem EnsAt.snoc {H : Hp} {e : EntP} {b : Addr} (hb : H b = some (.tup [.str e.1, .str e.2])) : ∀ {es : List EntP} {xs : List V}, EnsAt H es xs → EnsAt H (es ++ [e]) (xs ++ [.ref b])
  | [], _, h => by
    rw [show _ = [] from h]
    exact ⟨b, [], rfl, hb, rfl⟩
  | k :: es, _, h => by
    obtain ⟨b', us, rfl, h1, h2⟩ := h
    exact ⟨b', _, rfl, h1, EnsAt.snoc hb h2⟩
theorem HldsAt.same {H H' : Hp} (s : Same H H') : ∀ {hs : List HldP} {kvs : List (Key × V)}, HldsAt H hs kvs → HldsAt H' hs kvs
  | [], _, h => h
  | k :: hs, _, h => by
    obtain ⟨l, xs, us, rfl, h1, h2, h3⟩ := h
    exact ⟨l, xs, us, rfl, s _ _ h1, EnsAt.tup (STup.of s) h2, HldsAt.same s h3⟩
theorem HldsAt.len {H : Hp} : ∀ {hs : List HldP} {kvs : List (Key × V)}, HldsAt H hs kvs → kvs.length = hs.length
  | [], _, h => by rw [show _ = [] from h]; rfl
  | k :: hs, _, h => by
    obtain ⟨l, xs, us, rfl, h1, h2, h3⟩ := h
    rw [List.length_cons, List.length_cons, HldsAt.len h3]
theorem HldsAt.val {H : Hp} : ∀ {hs : List HldP} {kvs : List (Key × V)}, HldsAt H hs kvs → ∀ p : Str, (valV kvs (Sum.inr p) = none ∧ entH hs p = []) ∨ ∃ l xs, valV kvs (Sum.inr p) = some (.ref l) ∧ H l = some (.lst xs) ∧ EnsAt H (entH hs p) xs
  | [], _, h, p => by
    rw [show _ = [] from h]
    exact .inl ⟨rfl, rfl⟩
  | k :: hs, _, h, p => by
    obtain ⟨l, xs, us, rfl, h1, h2, h3⟩ := h
    by_cases c : k.1 = p
    · have e : entH (k :: hs) p = k.2 := by
        unfold entH
        rw [List.find?_cons_of_pos (p := fun h : HldP => decide (h.1 = p)) (decide_eq_true c)]
        rfl
      rw [e]
      exact .inr ⟨l, xs, valV_pos (by rw [c]), h1, h2⟩
    · have e : entH (k :: hs) p = entH hs p := by
        unfold entH
        rw [List.find?_cons_of_neg (p := fun h : HldP => decide (h.1 = p)) (fun z => c (of_decide_eq_true z))]
      rw [e, valV_neg (fun z => c (Sum.inr.inj z))]
      exact HldsAt.val h3 p
theorem HldsAt.key {H : Hp} : ∀ {hs : List HldP} {kvs : List (Key × V)} {i : Nat} {k : Key} {v : V}, HldsAt H hs kvs → kvs[i]? = some (k, v) → ∃ h, hs[i]? = some h ∧ k = Sum.inr h.1
  | [], _, i, k, v, h, e => by
    rw [show _ = [] from h] at e
    cases e
  | h0 :: hs, _, i, k, v, h, e => by
    obtain ⟨l, xs, us, rfl, h1, h2, h3⟩ := h
    cases i with
    | zero =>
      cases e
      exact ⟨h0, rfl, rfl⟩
    | succ i => exact HldsAt.key (i := i) h3 e
theorem HldsAt.snoc {H : Hp} {k : HldP} {l : Addr} {xs : List V} (h1 : H l = some (.lst xs)) (h2 : EnsAt H k.2 xs) : ∀ {hs : List HldP} {kvs : List (Key × V)}, HldsAt H hs kvs → HldsAt H (hs ++ [k]) (kvs ++ [(Sum.inr k.1, .ref l)])
  | [], _, h => by
    rw [show _ = [] from h]
    exact ⟨l, xs, [], rfl, h1, h2, rfl⟩
  | h0 :: hs, _, h => by
    obtain ⟨l', xs', us, rfl, g1, g2, g3⟩ := h
    exact ⟨l', xs', _, rfl, g1, g2, HldsAt.snoc h1 h2 g3⟩
/-- a value is none where no place is called so -/
theorem HldsAt.no {H : Hp} : ∀ {hs : List HldP} {kvs : List (Key × V)}, HldsAt H hs kvs → ∀ {p : Str}, (∀ h ∈ hs, h.1 ≠ p) → valV kvs (Sum.inr p) = none
  | [], _, h, p, _ => by
    rw [show _ = [] from h]
    rfl
  | k :: hs, _, h, p, no => by
    obtain ⟨l, xs, us, rfl, h1, h2, h3⟩ := h
    rw [valV_neg (fun z => no k List.mem_cons_self (Sum.inr.inj z))]
    exact HldsAt.no h3 fun x hx => no x (List.mem_cons_of_mem _ hx)
/-! ### a pair in a list of pairs -/
open Classical in
noncomputable def isPr (H : Hp) (w n : Str) : Value → Bool
  | .ref b => decide (H b = some (.tup [.str w, .str n]))
  | _ => false
def rInPair (K : PySem.W.Frag) : R2 := fun x y H Q => ∃ (c p : Addr) (w n : Str) (xs : List V) (es : List EntP), x = .ref c ∧ y = .ref p ∧ H c = some (.tup [.str w, .str n]) ∧ SqL K H p xs ∧ EnsAt H es xs ∧ Q (.bl (decide ((w, n) ∈ es))) H
section
variable {X : Cx}
theorem any_pr {H : Hp} {w n : Str} : ∀ {es : List EntP} {xs : List V} {us : List Value}, EnsAt H es xs → Vals xs us → us.any (isPr H w n) = decide ((w, n) ∈ es)
  | [], _, us, h, r => by
    rw [show _ = [] from h] at r
    cases r
    rfl
  | e :: es, _, us, h, r => by
    obtain ⟨b, vs, rfl, h1, h2⟩ := h
    cases r with
    | cons r1 r2 =>
      cases r1
      rw [List.any_cons, any_pr h2 r2]
      have e1 : isPr H w n (.ref b) = decide (e = (w, n)) := by
        unfold isPr
        rw [decide_eq_decide, h1]
        constructor
        · intro z
          have z2 := HO.tup.inj (Option.some.inj z)
          obtain ⟨z3, z4⟩ := List.cons.inj z2
          obtain ⟨z5, _⟩ := List.cons.inj z4
          exact Prod.ext (V.str.inj z3) (V.str.inj z5)
        · rintro rfl
          rfl
      rw [e1]
      by_cases c : e = (w, n)
      · rw [decide_eq_true c, Bool.true_or, decide_eq_true (by rw [c]; exact List.mem_cons_self)]
      · rw [decide_eq_false c, Bool.false_or, decide_eq_decide]
        exact ⟨fun z => List.mem_cons_of_mem _ z, fun z => (List.mem_cons.mp z).elim (fun z => absurd z.symm c) id⟩
theorem pr_eq {A : Around} {pins : List (Addr × Obj)} {σ : L2.St} {H : Hp} {s : Shared} (I : Inv X pins σ H s) (hu : A.units < cLine) {b c : Addr} {w n w' n' : Str} (hb : H b = some (.tup [.str w', .str n'])) (hc : H c = some (.tup [.str w, .str n])) :
    SeqAt.EqAt A s (.ref b) (.ref c) (isPr H w n (.ref b)) := by
  have e1 : isPr H w n (.ref b) = decide ((w', n') = (w, n)) := by
    unfold isPr
    rw [decide_eq_decide, hb]
    constructor
    · intro z
      have z2 := HO.tup.inj (Option.some.inj z)
      obtain ⟨z3, z4⟩ := List.cons.inj z2
      obtain ⟨z5, _⟩ := List.cons.inj z4
      exact Prod.ext (V.str.inj z3) (V.str.inj z5)
    · intro z
      cases z
      rfl
  by_cases ne : b = c
  · subst ne
    rw [hb] at hc
    have z2 := HO.tup.inj (Option.some.inj hc)
    obtain ⟨z3, z4⟩ := List.cons.inj z2
    obtain ⟨z5, _⟩ := List.cons.inj z4
    rw [e1, decide_eq_true (Prod.ext (V.str.inj z3) (V.str.inj z5))]
    exact SeqAt.EqAt.same _
  · refine SeqAt.EqAt.of_refs ne ?_
    obtain ⟨_, its, r1, o, h1, h2, m, h3⟩ := (show ObjOk X.prog X.w H s.heap b (.tup [.str w', .str n']) from I.hok b _ hb)
    obtain ⟨_, its2, r2, o2, k1, k2, m2, k3⟩ := (show ObjOk X.prog X.w H s.heap c (.tup [.str w, .str n]) from I.hok c _ hc)
    cases r1 with
    | cons a1 t1 =>
      cases t1 with
      | cons a2 t2 =>
        cases t2
        cases r2 with
        | cons b1 u1 =>
          cases u1 with
          | cons b2 u2 =>
            cases u2
            obtain ⟨t1, rfl⟩ := a1
            obtain ⟨t2, rfl⟩ := a2
            obtain ⟨t3, rfl⟩ := b1
            obtain ⟨t4, rfl⟩ := b2
            have t := SeqAt.RcAt.tuples (A := A) (s := s) (e := fun j => if j = 0 then w' == w else n' == n) ⟨o, h1, h2, m, h3⟩ ⟨o2, k1, k2, m2, k3⟩ hu (fun j j1 j2 => by
              match j, j1, j2 with
              | 0, _, _ => exact SeqAt.EqAt.str_str _ _ _ _
              | 1, _, _ => exact SeqAt.EqAt.str_str _ _ _ _
              | j + 2, j1, _ => exact absurd j1 (by show ¬ j + 2 < 2; omega))
            have e2 : (((List.range (min 2 2)).all fun j => if j = 0 then w' == w else n' == n) && (2 == 2)) = decide ((w', n') = (w, n)) := by
              show ((w' == w) && ((n' == n) && true) && true) = _
              rw [Bool.and_true, Bool.and_true, Bool.eq_iff_iff, Bool.and_eq_true_iff, decide_eq_true_iff, Prod.mk.injEq, beq_iff_eq, beq_iff_eq]
            rw [e1, ← e2]
            exact t
theorem op_inPair (hu : X.A.units + 64 < cLine) : OpR X (compareOp .In) (rInPair X.K) := by
  intro pins s σ H x y v u Q I rx ry h
  obtain ⟨c, p, w, n, xs, es, rfl, rfl, hc, hq, he, q⟩ := h
  cases rx
  cases ry
  obtain ⟨its, rv, hl, _⟩ := I.list hq
  have hu1 : X.A.in1.units < cLine := by show X.A.units + 1 < cLine; omega
  refine SeqAt.in_listAt (isPr H w n) hl.isList (fun z hz => ?_) ⟨.bl _, H, I, rfl, ?_⟩
  · have hz : z ∈ its := by simpa using hz
    obtain ⟨i, hi⟩ := List.getElem?_of_mem hz
    have hlt : i < xs.length := by
      rw [rv.length]
      exact (List.getElem?_eq_some_iff.mp hi).1
    obtain ⟨e, b, _, ev, hb⟩ := EnsAt.get he (List.getElem?_eq_getElem hlt)
    obtain ⟨u', hu', rz⟩ := rv.get (List.getElem?_eq_getElem hlt)
    have eu : u' = z := Option.some.inj (hu'.symm.trans hi)
    subst eu
    rw [ev] at rz
    cases rz
    exact pr_eq I hu1 hb hc
  · rw [show its.toArray.any (isPr H w n) = its.any (isPr H w n) by simp, any_pr he rv]
    exact q
end
/-! ### a dict comprehension over a walk -/
theorem dc_it {J : It} {n : Nat} {G : Hp → Prop} {Y : Nat → Hp → V → Hp → Prop} (wk : Walk J n G Y) {gt : TG} {tt : TT} {tk tv : TE} {own : List Nat} {τ : L2.St} {Ha : Hp} {D : Addr} {Qe : Hp → Prop} (Pd : Nat → Hp → Prop) (hz : Pd 0 (upd Ha D (.dK []))) (hGd : ∀ j Hj, j ≤ n → Pd j Hj → G Hj)
    (turn : ∀ j v Hj Hk, j < n → Pd j Hj → Y j Hj v Hk → gt v (wipe τ own) Hk fun τ2 Hb => wipe τ2 own = wipe τ own ∧ tt τ2 Hb fun yes Hc =>
      if yes = true then tk τ2 Hc fun kx Hd => tv τ2 Hd fun vx He => ∃ kvs k, kx = kV k ∧ He D = some (.dK kvs) ∧ kvs.length < sizeLine ∧ Pd (j + 1) (upd He D (.dK (putK kvs k vx))) else Pd (j + 1) Hc) (fin : ∀ Hj, Pd n Hj → Qe Hj) :
    ∃ Wd : Nat → Nat → Hp → Prop, (∃ m0, Wd 0 m0 (upd Ha D (.dK []))) ∧ ∀ j m0 Hj, Wd j m0 Hj →
      (J.stop j Hj ∧ Qe Hj) ∨ (J.go j Hj ∧ ∃ Nd : Hp → Prop, (∀ Hk, Nd Hk → ∃ m1, m1 < m0 ∧ Wd (j + 1) m1 Hk) ∧ ∀ v Hk, J.yld j Hj v Hk → gt v (wipe τ own) Hk fun τ2 Hb => wipe τ2 own = wipe τ own ∧ tt τ2 Hb fun yes Hc =>
        if yes = true then tk τ2 Hc fun kx Hd => tv τ2 Hd fun vx He => ∃ kvs k, kx = kV k ∧ He D = some (.dK kvs) ∧ kvs.length < sizeLine ∧ Nd (upd He D (.dK (putK kvs k vx))) else Nd Hc) := by
  refine ⟨fun j m0 Hj => (j ≤ n ∧ m0 + j = n) ∧ Pd j Hj, ⟨n, ⟨Nat.zero_le n, rfl⟩, hz⟩, fun j m0 Hj hW => ?_⟩
  obtain ⟨⟨hj, hm⟩, hP⟩ := hW
  rcases Nat.lt_or_ge j n with lt | ge
  · exact .inr ⟨wk.goes j Hj lt (hGd j Hj hj hP), Pd (j + 1), fun Hk hk => ⟨m0 - 1, by omega, ⟨lt, by omega⟩, hk⟩, fun v Hk hy => turn j v Hj Hk lt hP (wk.yields j Hj v Hk lt (hGd j Hj hj hP) hy)⟩
  · cases (show j = n by omega)
    exact .inl ⟨wk.stops Hj (hGd _ Hj hj hP), fin Hj hP⟩
section
variable {X : Cx}
/-- name = {k: v for ..} on one line -/
theorem ps_setDc {ix : Nat} {z : Str} {pz : Pos} {kx vx tg it : Expr} {ifs : List Expr} {sc : Scope} {own : List (Str × Nat)} {pc ps : Pos} {wi : TI} {gt : TG} {tt : TT} {tk tv : TE} (calm : X.calm = true) (nd : X.N.Nodup) (hz : X.N[ix]? = some z) (loc : X.env.scope.names.lookup z = some .local)
    (sw : swapsWith (.DictComp kx vx [⟨tg, it, ifs, 0⟩] sc pc) (some (.Name z pz)) ps.line X.env = pure true) (pi : PI X tg it wi) (bk : BlkOk X.N X.env.scope sc own)
    (pg : ∀ (s : Shared) (H : Hp) (C : Addr) (cl : List (Str × Addr)) (fp : List Addr), PG (X.blk s H sc (compEnvC sc cl C X.env) fp) tg gt)
    (pt : ∀ (s : Shared) (H : Hp) (C : Addr) (cl : List (Str × Addr)) (fp : List Addr), PTs (X.blk s H sc (compEnvC sc cl C X.env) fp) ifs tt)
    (pk : ∀ (s : Shared) (H : Hp) (C : Addr) (cl : List (Str × Addr)) (fp : List Addr), PE (X.blk s H sc (compEnvC sc cl C X.env) fp) kx tk)
    (pv : ∀ (s : Shared) (H : Hp) (C : Addr) (cl : List (Str × Addr)) (fp : List Addr), PE (X.blk s H sc (compEnvC sc cl C X.env) fp) vx tv) (fs : ∀ x, foldedSetIterable it X.env x = pure x := by intro _; rfl) :
    PS X (.Assign [.Name z pz] (.DictComp kx vx [⟨tg, it, ifs, 0⟩] sc pc) ps) (tAsg (tDc wi gt tt tk tv (own.map (·.2))) (gName ix)) := by
  constructor
  intro pins s σ H D I hw
  rw [exec_Assign_Name_used _ _ _ _ sw]
  apply wpAny_bind
  apply wpAny_standAt
  apply wpAny_bind
  show wpAny _ X.A (do let _ ← comprehension (.DictComp kx vx [⟨tg, it, ifs, 0⟩] sc pc) sc X.env (firstIterPos [⟨tg, it, ifs, 0⟩] pc) newDict false (eval it X.env) (some (assign (.Name z pz) X.env))) _ _ s
  have hw : tDc wi gt tt tk tv (own.map (·.2)) σ H (fun x Hx => gName ix x σ Hx D.nx) := hw
  refine wpAny_bind (thn (dc_core (Qf := fun _ s' => SP X pins D .next s') calm nd I pi bk pg pt pk pv fs hw ?_) (fun _ s' hq => wpAny_pure (wpAny_pure hq)))
  intro L C s' m H' I' q hn f
  show wpAny _ _ (assign (.Name z pz) X.env (.ref L)) _ _ _
  apply wpAny_assign_Name
  refine store_ok2 (v := V.ref L) I' nd hz (.inl loc) rfl ?_ (.inr loc)
  intro s2 I2 ⟨a, sb, ha⟩
  obtain ⟨fA, fB, _, fC, fD, fE⟩ := f
  have Ca : C ≠ a := ha.elim (fun e => by rw [e]; exact fB) (fun e z' => fD z a e z'.symm)
  refine ⟨m, hn.sameBut sb Ca, ?_⟩
  intro h3 sb3
  have I3 := I2.turned (t' := s2.toks) (h' := h3) (fun x ob hx ex => (sb3.2 x hx).trans ex) fA fB fC fD fE
  exact ⟨_, H', I3, q⟩
theorem sw_trueD {kx vx : Expr} {gs : List Comprehension} {sc : Scope} {pc pz : Pos} {z : Str} {l : Nat} {env : Env} (hk : env.scope.kind = .function) (hz : env.scope.names.lookup z = some .local) (hl : (pz.line == pc.line) = true)
    (own : (sc.names.any fun (n, k) => n == z && (k == .local || k == .cell)) = false) : swapsWith (.DictComp kx vx gs sc pc) (some (.Name z pz)) l env = pure true := by
  have e1 : env.kindOf z = some .local := hz
  have e2 : env.blockKind = .function := by
    unfold Env.blockKind
    rw [hk]
    rfl
  unfold swapsWith
  simp only [e2, e1, own, Expr.pos, hl]
  rfl
end
/-! ### promises -/
/-- lists by places: what they name -/
def LstsAt (H : Hp) (kvs : List (Key × V)) (g : Str → List Str) : Prop := ∀ p : Str, (∃ l, valV kvs (Sum.inr p) = some (.ref l) ∧ H l = some (.lst ((g p).map V.str))) ∨ (valV kvs (Sum.inr p) = none ∧ g p = [])
def spAllWithin : Sp := fun vs H Q _ => ∃ (d : Addr) (kvs : List (Key × V)) (g : Str → List Str) (U : List Str) (b : Str), vs = [.ref d, .str b] ∧ H d = some (.dK kvs) ∧ LstsAt H kvs g ∧ (∀ p x, x ∈ g p → x ∈ U) ∧ U.length ≤ 400 ∧ (∀ p, (g p).length ≤ 900) ∧
  ∀ (H' : Hp) (q : Addr) (M : List Str), Same H H' → H' q = some (.lst (M.map V.str)) → (∀ x, x ∈ M ↔ RchP g b x) → M.Nodup → Q (.ref q) H'
/-- may one place come within another -/
def spMayCome : Sp := fun vs H Q _ => ∃ (d : Addr) (kvs : List (Key × V)) (hs : List HldP) (a b : Str), vs = [.ref d, .str a, .str b] ∧ H d = some (.dK kvs) ∧ HldsAt H hs kvs ∧ hs.length ≤ 40 ∧ (∀ h ∈ hs, h.2.length ≤ 10) ∧
  ∀ (H' : Hp) (c : Bool), Same H H' → (c = true ↔ RchP (adjH hs) b a) → Q (.bl c) H'
/-- the way there -/
theorem rch_due {g : Str → List Str} {b a : Str} {R : List Str} (hb : b ∈ R) (hR : ∀ x ∈ R, x = b ∨ RchP g b x) (cl : ∀ p ∈ R, ∀ x ∈ g p, x ∈ R) : (∃ p ∈ R, a ∈ g p) ↔ RchP g b a := by
  constructor
  · rintro ⟨p, hp, ha⟩
    rcases hR p hp with rfl | h
    · exact .one ha
    · exact .step h ha
  · intro h
    have all : ∀ x, RchP g b x → x ∈ R ∧ ∃ p ∈ R, x ∈ g p := by
      intro x hx
      induction hx with
      | one h => exact ⟨cl _ hb _ h, b, hb, h⟩
      | step _ h ih => exact ⟨cl _ ih.1 _ h, _, ih.1, h⟩
    exact (all a h).2
theorem rch_met {g : Str → List Str} {b : Str} {M : List Str} (hM : ∀ x ∈ M, RchP g b x) (h0 : ∀ x ∈ g b, x ∈ M) (cl : ∀ p ∈ M, ∀ x ∈ g p, x ∈ M) (x : Str) : x ∈ M ↔ RchP g b x := by
  refine ⟨hM x, fun h => ?_⟩
  induction h with
  | one h => exact h0 _ h
  | step _ h ih => exact cl _ ih _ h
end Wk

set_option Elab.async false
set_option linter.all false
set_option maxRecDepth 100000
set_option maxHeartbeats 1000000
/-! The dict of what was met. -/
namespace Wk
open PySem PySem.Spec PyProof.Rows L2 GxR
/-- a block that takes no name from around -/
theorem blk_any {N : List Str} {sc sc' scope : Scope} {own : List (Str × Nat)} (b : BlkOk N sc scope own) (nf : (scope.names.all fun y => match y.2 with | .free => false | _ => true) = true) : BlkOk N sc' scope own :=
  ⟨b.kind, b.uniq, b.ix, (fun y hy e => by
    have z := List.all_eq_true.mp nf y hy
    rw [e] at z
    exact absurd z (by decide)), b.own⟩
def metK (M : List Str) : List (Key × V) := M.map fun x => (Sum.inr x, V.bl true)
theorem met_none : ∀ {M : List Str} {x : Str}, x ∉ M → valV (metK M) (Sum.inr x) = none
  | [], x, _ => rfl
  | y :: M, x, h => by
    show valV ((Sum.inr y, V.bl true) :: metK M) (Sum.inr x) = none
    rw [valV_neg (fun z => h (by rw [Sum.inr.inj z]; exact List.mem_cons_self))]
    exact met_none fun z => h (List.mem_cons_of_mem _ z)
theorem met_some : ∀ {M : List Str} {x : Str}, x ∈ M → valV (metK M) (Sum.inr x) = some (.bl true)
  | y :: M, x, h => by
    show valV ((Sum.inr y, V.bl true) :: metK M) (Sum.inr x) = _
    by_cases c : y = x
    · rw [valV_pos (by rw [c])]
    · rw [valV_neg (fun z => c (Sum.inr.inj z))]
      exact met_some ((List.mem_cons.mp h).elim (fun z => absurd z.symm c) id)
theorem met_put {M : List Str} {x : Str} (h : x ∉ M) : putK (metK M) (Sum.inr x) (.bl true) = metK (M ++ [x]) := by
  rw [putK_new _ (met_none h)]
  unfold metK
  rw [List.map_append]
  rfl
theorem met_keys (M : List Str) : ((metK M).map fun kv => kV kv.1) = M.map V.str := by
  unfold metK
  rw [List.map_map]
  rfl
theorem met_len (M : List Str) : (metK M).length = M.length := by unfold metK; rw [List.length_map]
theorem rch_univ {g : Str → List Str} {b : Str} {U : List Str} (hU : ∀ p x, x ∈ g p → x ∈ U) {x : Str} (h : RchP g b x) : x ∈ U := by
  cases h with
  | one h => exact hU _ _ h
  | step _ h => exact hU _ _ h
/-- what stands while places are met: M met, T still to be looked at -/
structure MetS (g : Str → List Str) (b : Str) (H0 : Hp) (m t : Addr) (M T : List Str) (H : Hp) : Prop where
  sm : Same H0 H
  hm : H m = some (.dK (metK M))
  ht : H t = some (.lst (T.map V.str))
  nd : M.Nodup
  ok : ∀ x ∈ M, RchP g b x
  tod : ∀ x ∈ T, x = b ∨ x ∈ M
  len : T.length ≤ M.length + 1
section
variable {g : Str → List Str} {b : Str} {H0 H : Hp} {m t : Addr} {M T : List Str}
theorem MetS.put (h : MetS g b H0 m t M T H) (n0m : H0 m = none) (n0t : H0 t = none) (ne : t ≠ m) {x : Str} (hx : x ∉ M) (hr : RchP g b x) :
    MetS g b H0 m t (M ++ [x]) (T ++ [x]) (upd (upd H m (.dK (metK (M ++ [x])))) t (.lst (T.map V.str ++ [.str x]))) := by
  refine ⟨fun a o e => ?_, ?_, ?_, ?_, ?_, ?_, ?_⟩
  · rw [upd_ne (fun z => by rw [z, n0t] at e; cases e), upd_ne (fun z => by rw [z, n0m] at e; cases e)]
    exact h.sm _ _ e
  · rw [upd_ne (Ne.symm ne), upd_same]
  · rw [upd_same, List.map_append]
    rfl
  · exact nd_snoc h.nd hx
  · intro y hy
    rcases List.mem_append.mp hy with z | z
    · exact h.ok y z
    · rw [List.mem_singleton.mp z]; exact hr
  · intro y hy
    rcases List.mem_append.mp hy with z | z
    · exact (h.tod y z).imp id fun w => List.mem_append_left _ w
    · exact .inr (List.mem_append_right _ z)
  · have := h.len
    rw [List.length_append, List.length_append]
    show T.length + 1 ≤ M.length + 1 + 1
    omega
theorem MetS.new (h : MetS g b H0 m t M T H) {p : Addr} {o : HO} (np : H p = none) : MetS g b H0 m t M T (upd H p o) :=
  ⟨fun a o' e => kn (h.sm _ _ e) np, kn h.hm np, kn h.ht np, h.nd, h.ok, h.tod, h.len⟩
theorem MetS.pop {T0 : List Str} {p : Str} (h : MetS g b H0 m t M (T0 ++ [p]) H) (n0t : H0 t = none) (ne : t ≠ m) : MetS g b H0 m t M T0 (upd H t (.lst (T0.map V.str))) := by
  refine ⟨fun a o e => ?_, ?_, upd_same, h.nd, h.ok, fun x hx => h.tod x (List.mem_append_left _ hx), ?_⟩
  · rw [upd_ne (fun z => by rw [z, n0t] at e; cases e)]
    exact h.sm _ _ e
  · rw [upd_ne (Ne.symm ne)]
    exact h.hm
  · have := h.len
    rw [List.length_append] at this
    have e : [p].length = 1 := rfl
    omega
end
end Wk

set_option Elab.async false
set_option linter.all false
set_option maxRecDepth 100000
set_option maxHeartbeats 1000000
/-! Kinds: the uses of a house, what its groups have to be. -/
namespace Wk
open PySem PySem.Spec PyProof.Rows L2 GxR
abbrev Use3 := Str × Str × Str
mutual
def usesP (pl : Str) : Part → List Use3
  | .say n => [(pl, "say", n)]
  | .again r => usesR pl r
  | .oth w n r => match w with
    | .room => usesR n r
    | .new => usesR pl r
    | w => (pl, w.str, n) :: usesR pl r
def usesR (pl : Str) : List Part → List Use3
  | [] => []
  | p :: r => usesP pl p ++ usesR pl r
end
theorem usesR_app (pl : Str) : ∀ r q : List Part, usesR pl (r ++ q) = usesR pl r ++ usesR pl q
  | [], q => rfl
  | p :: r, q => by
    show usesP pl p ++ usesR pl (r ++ q) = (usesP pl p ++ usesR pl r) ++ usesR pl q
    rw [usesR_app pl r q, List.append_assoc]
/-- the use that a part is, if it is one -/
def ownU (pl : Str) : Part → List Use3
  | .say n => [(pl, "say", n)]
  | .again _ => []
  | .oth w n _ => match w with
    | .room => []
    | .new => []
    | w => [(pl, w.str, n)]
/-- the place of a part's rest -/
def inPl (pl : Str) : Part → Str
  | .oth .room n _ => n
  | _ => pl
theorem usesP_eq (pl : Str) (p : Part) : usesP pl p = ownU pl p ++ usesR (inPl pl p) (restP p) := by
  cases p with
  | say n => rfl
  | again r => rfl
  | oth w n r => cases w <;> rfl
def saysW (w : Str) : Bool := decide (w = "say") || decide (w = "hear")
mutual
inductive SmK (U : List Use3) : Str → Str → Prop
  | refl (x : Str) : SmK U x x
  | symm {x y : Str} : SmK U x y → SmK U y x
  | trans {x y z : Str} : SmK U x y → SmK U y z → SmK U x z
  | say {p m n : Str} : SyK U p m → SyK U p n → SmK U m n
inductive SyK (U : List Use3) : Str → Str → Prop
  | use {p w n : Str} : (p, w, n) ∈ U → saysW w = true → SyK U p n
  | opn {p n m : Str} : (p, ("open" : Str), n) ∈ U → SyK U n m → SyK U p m
  | sml {p q m : Str} : SmK U p q → SyK U p m → SyK U q m
  | smr {p m n : Str} : SyK U p m → SmK U m n → SyK U p n
end
/-- groups as they are told: G, the group's name; S, what a group says -/
structure GrI (U : List Use3) (pls : List Str) (G : Str → Str) (S : Str → Option Str) : Prop where
  cl : ∀ x ∈ pls, G x ∈ pls
  idem : ∀ x ∈ pls, G (G x) = G x
  least : ∀ x ∈ pls, ∀ y ∈ pls, G x = G y → leS (G x) y
  snd : ∀ x ∈ pls, SmK U x (G x)
  sk : ∀ g m, S g = some m → g ∈ pls ∧ m ∈ pls ∧ SyK U g m
/-- a use that is heeded -/
def satU (G : Str → Str) (S : Str → Option Str) (u : Use3) : Prop :=
  (saysW u.2.1 = true → ∃ m, S (G u.1) = some m ∧ G m = G u.2.2) ∧ (u.2.1 = ("open" : Str) → ∀ s, S (G u.2.2) = some s → ∃ m, S (G u.1) = some m ∧ G m = G s)
mutual
theorem sm_cl {U : List Use3} {pls : List Str} {G : Str → Str} {S : Str → Option Str} (hU : ∀ u ∈ U, u.1 ∈ pls ∧ u.2.2 ∈ pls) (hs : ∀ u ∈ U, satU G S u) {x y : Str} : SmK U x y → (x ∈ pls ↔ y ∈ pls) ∧ G x = G y
  | .refl _ => ⟨Iff.rfl, rfl⟩
  | .symm h => have k := sm_cl hU hs h; ⟨k.1.symm, k.2.symm⟩
  | .trans h g => have k := sm_cl hU hs h; have l := sm_cl hU hs g; ⟨k.1.trans l.1, k.2.trans l.2⟩
  | .say h g => by
    obtain ⟨_, a2, s, a3, a4⟩ := sy_cl hU hs h
    obtain ⟨_, b2, t, b3, b4⟩ := sy_cl hU hs g
    rw [a3] at b3
    cases b3
    exact ⟨⟨fun _ => b2, fun _ => a2⟩, a4.symm.trans b4⟩
theorem sy_cl {U : List Use3} {pls : List Str} {G : Str → Str} {S : Str → Option Str} (hU : ∀ u ∈ U, u.1 ∈ pls ∧ u.2.2 ∈ pls) (hs : ∀ u ∈ U, satU G S u) {p m : Str} : SyK U p m → p ∈ pls ∧ m ∈ pls ∧ ∃ s, S (G p) = some s ∧ G s = G m
  | .use h w => ⟨(hU _ h).1, (hU _ h).2, (hs _ h).1 w⟩
  | .opn h g => by
    obtain ⟨a1, a2, s, a3, a4⟩ := sy_cl hU hs g
    obtain ⟨t, b1, b2⟩ := (hs _ h).2 rfl s a3
    exact ⟨(hU _ h).1, a2, t, b1, b2.trans a4⟩
  | .sml h g => by
    have k := sm_cl hU hs h
    obtain ⟨a1, a2, s, a3, a4⟩ := sy_cl hU hs g
    exact ⟨k.1.mp a1, a2, s, by rw [← k.2]; exact a3, a4⟩
  | .smr g h => by
    have k := sm_cl hU hs h
    obtain ⟨a1, a2, s, a3, a4⟩ := sy_cl hU hs g
    exact ⟨a1, k.1.mp a2, s, a3, a4.trans k.2⟩
end
/-- groups that are told at last -/
structure GrOk (U : List Use3) (pls : List Str) (G : Str → Str) (S : Str → Option Str) : Prop extends GrI U pls G S where
  sat : ∀ u ∈ U, satU G S u
theorem GrOk.sm {U : List Use3} {pls : List Str} {G : Str → Str} {S : Str → Option Str} (h : GrOk U pls G S) (hU : ∀ u ∈ U, u.1 ∈ pls ∧ u.2.2 ∈ pls) {x y : Str} (hx : x ∈ pls) (hy : y ∈ pls) : G x = G y ↔ SmK U x y :=
  ⟨fun e => (h.snd x hx).trans (by rw [e]; exact (h.snd y hy).symm), fun k => (sm_cl hU h.sat k).2⟩
theorem GrOk.says {U : List Use3} {pls : List Str} {G : Str → Str} {S : Str → Option Str} (h : GrOk U pls G S) (hU : ∀ u ∈ U, u.1 ∈ pls ∧ u.2.2 ∈ pls) {p m : Str} (hp : p ∈ pls) (hm : m ∈ pls) : (∃ s, S (G p) = some s ∧ G s = G m) ↔ SyK U p m := by
  refine ⟨fun ⟨s, h1, h2⟩ => ?_, fun k => (sy_cl hU h.sat k).2.2⟩
  obtain ⟨_, a2, a3⟩ := h.sk _ _ h1
  exact .smr (.sml (h.snd p hp).symm a3) ((h.sm hU a2 hm).mp h2)
/-- two tellings of the same groups are alike -/
theorem GrOk.uniq {U U' : List Use3} {pls : List Str} {G G' : Str → Str} {S S' : Str → Option Str} (h : GrOk U pls G S) (h' : GrOk U' pls G' S') (e : ∀ u, u ∈ U ↔ u ∈ U') (hU : ∀ u ∈ U, u.1 ∈ pls ∧ u.2.2 ∈ pls) :
    ∀ x ∈ pls, G x = G' x := fun x hx => by
  have hU' : ∀ u ∈ U', u.1 ∈ pls ∧ u.2.2 ∈ pls := fun u hu => hU u ((e u).mpr hu)
  have s1 : ∀ u ∈ U, satU G' S' u := fun u hu => h'.sat u ((e u).mp hu)
  have s2 : ∀ u ∈ U', satU G S u := fun u hu => h.sat u ((e u).mpr hu)
  have a := (sm_cl hU s1 (h.snd x hx)).2
  have b := (sm_cl hU' s2 (h'.snd x hx)).2
  exact (h.least x hx (G' x) (h'.cl x hx) b).anti (h'.least x hx (G x) (h.cl x hx) a)
theorem GrOk.uniqS {U U' : List Use3} {pls : List Str} {G G' : Str → Str} {S S' : Str → Option Str} (h : GrOk U pls G S) (h' : GrOk U' pls G' S') (e : ∀ u, u ∈ U ↔ u ∈ U') (hU : ∀ u ∈ U, u.1 ∈ pls ∧ u.2.2 ∈ pls) :
    ∀ x ∈ pls, (S (G x)).map G = (S' (G' x)).map G' := fun x hx => by
  have hU' : ∀ u ∈ U', u.1 ∈ pls ∧ u.2.2 ∈ pls := fun u hu => hU u ((e u).mpr hu)
  have s1 : ∀ u ∈ U, satU G' S' u := fun u hu => h'.sat u ((e u).mp hu)
  have s2 : ∀ u ∈ U', satU G S u := fun u hu => h.sat u ((e u).mpr hu)
  have ug := h.uniq h' e hU
  cases c : S (G x) with
  | some m =>
    obtain ⟨a1, a2, a3⟩ := h.sk _ _ c
    obtain ⟨_, _, s, b1, b2⟩ := sy_cl hU s1 a3
    have e1 : G' (G x) = G' x := by rw [ug x hx]; exact h'.idem x hx
    rw [e1] at b1
    rw [b1]
    show some (G m) = some (G' s)
    rw [b2, ug m a2]
  | none =>
    cases c' : S' (G' x) with
    | none => rfl
    | some m =>
      obtain ⟨a1, a2, a3⟩ := h'.sk _ _ c'
      obtain ⟨_, _, s, b1, b2⟩ := sy_cl hU' s2 a3
      have e1 : G (G' x) = G x := by rw [← ug x hx]; exact h.idem x hx
      rw [e1, c] at b1
      cases b1
/-- a model of the groups: names apart -/
theorem gr_id {U : List Use3} {pls : List Str} {S : Str → Option Str} (nd : True) (sk : ∀ g m, S g = some m → g ∈ pls ∧ m ∈ pls ∧ SyK U g m) (sat : ∀ u ∈ U, satU id S u) : GrOk U pls id S :=
  ⟨⟨fun _ h => h, fun _ _ => rfl, fun x _ y _ e => by rw [show x = y from e]; exact fun z => List.lt_irrefl _ z, fun x _ => .refl x, sk⟩, sat⟩
/-! what is told of a group -/
def pourU (U : List Use3) (G : Str → Str) (g : Str) : List Str := (U.filter fun u => decide (u.2.1 = ("open" : Str)) && decide (G u.1 = g)).map fun u => G u.2.2
def walkU (U : List Use3) (G : Str → Str) (g : Str) : List Str := (U.filter fun u => (decide (u.2.1 = ("in" : Str)) || decide (u.2.1 = ("out" : Str))) && decide (G u.1 = g)).map fun u => G u.2.2
def GoesU (U : List Use3) (G : Str → Str) (g n : Str) : Prop := ∃ i, (i = g ∨ RchP (pourU U G) g i) ∧ n ∈ walkU U G i
def OpenU (U : List Use3) (G : Str → Str) (g : Str) : Prop := ∃ u ∈ U, u.2.1 = ("open" : Str) ∧ G u.2.2 = g
theorem mem_pour {U : List Use3} {G : Str → Str} {g n : Str} : n ∈ pourU U G g ↔ ∃ p m, (p, ("open" : Str), m) ∈ U ∧ G p = g ∧ n = G m := by
  unfold pourU
  simp only [List.mem_map, List.mem_filter, Bool.and_eq_true, decide_eq_true_eq]
  constructor
  · rintro ⟨⟨p, w, m⟩, ⟨h1, h2, h3⟩, rfl⟩
    cases h2
    exact ⟨p, m, h1, h3, rfl⟩
  · rintro ⟨p, m, h1, h2, rfl⟩
    exact ⟨_, ⟨h1, rfl, h2⟩, rfl⟩
theorem mem_walk {U : List Use3} {G : Str → Str} {g n : Str} : n ∈ walkU U G g ↔ ∃ p w m, (p, w, m) ∈ U ∧ (w = ("in" : Str) ∨ w = ("out" : Str)) ∧ G p = g ∧ n = G m := by
  unfold walkU
  simp only [List.mem_map, List.mem_filter, Bool.and_eq_true, Bool.or_eq_true, decide_eq_true_eq]
  constructor
  · rintro ⟨⟨p, w, m⟩, ⟨h1, h2, h3⟩, rfl⟩
    exact ⟨p, w, m, h1, h2, h3, rfl⟩
  · rintro ⟨p, w, m, h1, h2, h3, rfl⟩
    exact ⟨_, ⟨h1, h2, h3⟩, rfl⟩
theorem RchP.congr {g g' : Str → List Str} {b : Str} (e : ∀ x y, y ∈ g x → y ∈ g' x) {z : Str} (h : RchP g b z) : RchP g' b z := by
  induction h with
  | one m => exact .one (e _ _ m)
  | step _ m k => exact .step k (e _ _ m)
theorem GoesU.congr {U U' : List Use3} {G G' : Str → Str} (e : ∀ u, u ∈ U → u ∈ U') (q : ∀ u ∈ U, G u.1 = G' u.1 ∧ G u.2.2 = G' u.2.2) {g n : Str} (h : GoesU U G g n) : GoesU U' G' g n := by
  obtain ⟨i, h1, h2⟩ := h
  have pc : ∀ x y, y ∈ pourU U G x → y ∈ pourU U' G' x := fun x y m => by
    obtain ⟨p, k, a, b, c⟩ := mem_pour.mp m
    exact mem_pour.mpr ⟨p, k, e _ a, (q _ a).1.symm.trans b, c.trans (q _ a).2⟩
  obtain ⟨p, w, k, a, b, c, d⟩ := mem_walk.mp h2
  exact ⟨i, h1.imp id fun r => r.congr pc, mem_walk.mpr ⟨p, w, k, e _ a, b, (q _ a).1.symm.trans c, d.trans (q _ a).2⟩⟩
end Wk

set_option Elab.async false
set_option linter.all false
set_option maxRecDepth 100000
set_option maxHeartbeats 1000000
/-! Groups put together, and let say. -/
namespace Wk
open PySem PySem.Spec PyProof.Rows L2 GxR
def sayL (sl : List (Str × Str)) (g : Str) : Option Str := (sl.find? fun q => decide (q.1 = g)).map (·.2)
def kvG (G : Str → Str) (pls : List Str) : List (Key × V) := pls.map fun x => ((Sum.inr x : Key), V.str (G x))
def kvS (sl : List (Str × Str)) : List (Key × V) := sl.map fun q => ((Sum.inr q.1 : Key), V.str q.2)
theorem kvG_some {G : Str → Str} : ∀ {pls : List Str} {x : Str}, x ∈ pls → valV (kvG G pls) (Sum.inr x) = some (.str (G x))
  | [], x, h => nomatch h
  | y :: r, x, h => by
    by_cases c : y = x
    · subst c
      show valV ((Sum.inr y, V.str (G y)) :: kvG G r) _ = _
      exact valV_pos rfl
    · show valV ((Sum.inr y, V.str (G y)) :: kvG G r) _ = _
      rw [valV_neg (fun z => c (Sum.inr.inj z))]
      rcases List.mem_cons.mp h with e | h
      · exact absurd e.symm c
      · exact kvG_some h
theorem kvG_none {G : Str → Str} : ∀ {pls : List Str} {x : Str}, x ∉ pls → valV (kvG G pls) (Sum.inr x) = none
  | [], x, h => rfl
  | y :: r, x, h => by
    show valV ((Sum.inr y, V.str (G y)) :: kvG G r) _ = _
    rw [valV_neg (fun z => h (by rw [← Sum.inr.inj z]; exact List.mem_cons_self))]
    exact kvG_none fun z => h (List.mem_cons_of_mem _ z)
theorem kvS_val : ∀ (sl : List (Str × Str)) (g : Str), valV (kvS sl) (Sum.inr g) = (sayL sl g).map V.str
  | [], g => rfl
  | (a, m) :: r, g => by
    show valV ((Sum.inr a, V.str m) :: kvS r) _ = _
    unfold sayL
    rw [List.find?_cons]
    by_cases c : a = g
    · subst c
      rw [show decide ((a, m).1 = a) = true from decide_eq_true rfl]
      exact valV_pos rfl
    · rw [valV_neg (fun z => c (Sum.inr.inj z)), show decide ((a, m).1 = g) = false from decide_eq_false c]
      exact kvS_val r g
theorem putK_new {kvs : List (Key × V)} {k : Key} {v : V} (h : valV kvs k = none) : putK kvs k v = kvs ++ [(k, v)] := by
  unfold putK
  rw [if_neg]
  rw [valV_any, h]
  simp
theorem kvG_put {G : Str → Str} {y : Str} : ∀ {pls : List Str} {x : Str}, pls.Nodup → x ∈ pls → putK (kvG G pls) (Sum.inr x) (.str y) = kvG (fun z => if z = x then y else G z) pls := fun {pls x} nd hx => by
  unfold putK
  rw [if_pos (by rw [valV_any, kvG_some hx]; rfl)]
  unfold kvG
  rw [List.map_map]
  refine List.map_congr_left fun z _ => ?_
  show (if (Sum.inr z : Key) = Sum.inr x then ((Sum.inr z : Key), V.str y) else (Sum.inr z, V.str (G z))) = (Sum.inr z, V.str (if z = x then y else G z))
  by_cases c : z = x
  · rw [if_pos (by rw [c]), if_pos c]
  · rw [if_neg (fun e => c (Sum.inr.inj e)), if_neg c]
theorem kvG_congr {G G' : Str → Str} {pls : List Str} (h : ∀ x ∈ pls, G x = G' x) : kvG G pls = kvG G' pls := List.map_congr_left fun x hx => by rw [h x hx]
theorem sayL_app (sl : List (Str × Str)) (g m x : Str) : sayL (sl ++ [(g, m)]) x = (sayL sl x).or (if g = x then some m else none) := by
  unfold sayL
  rw [List.find?_append, Option.map_or]
  congr 1
  by_cases c : g = x
  · rw [if_pos c, List.find?_cons, show decide ((g, m).1 = x) = true from decide_eq_true c]; rfl
  · rw [if_neg c, List.find?_cons, show decide ((g, m).1 = x) = false from decide_eq_false c]; rfl
theorem sayL_none {sl : List (Str × Str)} {g : Str} (h : sayL sl g = none) : g ∉ sl.map (·.1) := fun z => by
  obtain ⟨q, hq, e⟩ := List.mem_map.mp z
  unfold sayL at h
  rw [Option.map_eq_none_iff, List.find?_eq_none] at h
  exact h q hq (by simpa using e)
theorem sayL_mem {sl : List (Str × Str)} {g m : Str} (h : sayL sl g = some m) : (g, m) ∈ sl := by
  unfold sayL at h
  obtain ⟨q, h1, h2⟩ := Option.map_eq_some_iff.mp h
  have h3 := List.mem_of_find?_eq_some h1
  have h4 := List.find?_some h1
  obtain ⟨a, b⟩ := q
  have e : a = g := by simpa using h4
  rw [← e, ← h2]
  exact h3
def mrgG (G : Str → Str) (least last x : Str) : Str := if G x = last then least else G x
def gcnt (G : Str → Str) (pls : List Str) : Nat := (pls.filter fun x => decide (G x = x)).length
theorem filter_less {α : Type} {p q : α → Bool} : ∀ {l : List α}, (∀ x ∈ l, p x = true → q x = true) → (∃ x ∈ l, q x = true ∧ p x = false) → (l.filter p).length < (l.filter q).length
  | [], _, h => by obtain ⟨_, h, _⟩ := h; cases h
  | a :: r, h1, h2 => by
    have le : ∀ {l : List α}, (∀ x ∈ l, p x = true → q x = true) → (l.filter p).length ≤ (l.filter q).length := fun {l} => by
      induction l with
      | nil => intro _; exact Nat.le_refl _
      | cons b t ih =>
        intro h
        have k := ih fun x hx => h x (List.mem_cons_of_mem _ hx)
        rw [List.filter_cons, List.filter_cons]
        have hb := h b List.mem_cons_self
        cases e : p b with
        | true => rw [hb e, if_pos rfl, if_pos rfl, List.length_cons, List.length_cons]; omega
        | false =>
          cases e2 : q b with
          | true => rw [if_neg Bool.false_ne_true, if_pos rfl, List.length_cons]; omega
          | false => rw [if_neg Bool.false_ne_true, if_neg Bool.false_ne_true]; exact k
    rw [List.filter_cons, List.filter_cons]
    have ha := h1 a List.mem_cons_self
    have hr : ∀ x ∈ r, p x = true → q x = true := fun x hx => h1 x (List.mem_cons_of_mem _ hx)
    cases e : p a with
    | true =>
      rw [ha e, if_pos rfl, if_pos rfl, List.length_cons, List.length_cons]
      have k := filter_less hr (by
        obtain ⟨x, hx, a1, a2⟩ := h2
        rcases List.mem_cons.mp hx with z | z
        · rw [z, e] at a2; cases a2
        · exact ⟨x, z, a1, a2⟩)
      omega
    | false =>
      cases e2 : q a with
      | true => rw [if_neg Bool.false_ne_true, if_pos rfl, List.length_cons]; have := le hr; omega
      | false =>
        rw [if_neg Bool.false_ne_true, if_neg Bool.false_ne_true]
        exact filter_less hr (by
          obtain ⟨x, hx, a1, a2⟩ := h2
          rcases List.mem_cons.mp hx with z | z
          · rw [z, e2] at a1; cases a1
          · exact ⟨x, z, a1, a2⟩)
section
variable {U : List Use3} {pls : List Str} {G : Str → Str} {sl : List (Str × Str)}
theorem GrI.new (h : GrI U pls G (sayL sl)) {p n : Str} (hp : p ∈ pls) (hn : n ∈ pls) (hs : SyK U p n) (no : sayL sl (G p) = none) : GrI U pls G (sayL (sl ++ [(G p, n)])) :=
  ⟨h.cl, h.idem, h.least, h.snd, fun g m e => by
    rw [sayL_app] at e
    by_cases c : G p = g
    · rw [← c, no, if_pos rfl] at e
      cases e
      rw [← c]
      exact ⟨h.cl p hp, hn, .sml (h.snd p hp) hs⟩
    · rw [if_neg c, Option.or_none] at e
      exact h.sk g m e⟩
theorem GrI.mrg (h : GrI U pls G (sayL sl)) {a b s n : Str} (hs : s ∈ pls) (hn : n ∈ pls) (k : SmK U s n) (ne : G s ≠ G n) (ab : (a = G s ∧ b = G n) ∨ (a = G n ∧ b = G s)) (le : leS a b) :
    GrI U pls (mrgG G a b) (sayL sl) ∧ gcnt (mrgG G a b) pls < gcnt G pls := by
  have ka : a ∈ pls := by rcases ab with ⟨e, _⟩ | ⟨e, _⟩ <;> rw [e] <;> exact h.cl _ (by assumption)
  have kb : b ∈ pls := by rcases ab with ⟨_, e⟩ | ⟨_, e⟩ <;> rw [e] <;> exact h.cl _ (by assumption)
  have ga : G a = a := by rcases ab with ⟨e, _⟩ | ⟨e, _⟩ <;> rw [e] <;> exact h.idem _ (by assumption)
  have gb : G b = b := by rcases ab with ⟨_, e⟩ | ⟨_, e⟩ <;> rw [e] <;> exact h.idem _ (by assumption)
  have nab : a ≠ b := by
    rcases ab with ⟨e, f⟩ | ⟨e, f⟩ <;> rw [e, f]
    · exact ne
    · exact Ne.symm ne
  have sab : SmK U b a := by
    have z : SmK U (G s) (G n) := ((h.snd s hs).symm.trans k).trans (h.snd n hn)
    rcases ab with ⟨e, f⟩ | ⟨e, f⟩ <;> rw [e, f]
    · exact z.symm
    · exact z
  have lb : ∀ y ∈ pls, G y = b → leS b y := fun y hy e => by have := h.least y hy y hy rfl; rw [e] at this; exact this
  refine ⟨⟨fun x hx => ?_, fun x hx => ?_, fun x hx y hy e => ?_, fun x hx => ?_, h.sk⟩, ?_⟩
  · unfold mrgG
    split
    · exact ka
    · exact h.cl x hx
  · unfold mrgG
    by_cases c : G x = b
    · rw [if_pos c, ga, if_neg nab]
    · rw [if_neg c, h.idem x hx, if_neg c]
  · unfold mrgG at e ⊢
    by_cases c : G x = b
    · rw [if_pos c] at e ⊢
      by_cases d : G y = b
      · exact le.trans (lb y hy d)
      · rw [if_neg d] at e
        rw [e]
        exact h.least y hy y hy rfl
    · rw [if_neg c] at e ⊢
      by_cases d : G y = b
      · rw [if_pos d] at e
        rw [e]
        exact le.trans (lb y hy d)
      · rw [if_neg d] at e
        exact h.least x hx y hy e
  · unfold mrgG
    by_cases c : G x = b
    · rw [if_pos c]
      exact (by have := h.snd x hx; rw [c] at this; exact this.trans sab)
    · rw [if_neg c]; exact h.snd x hx
  · refine filter_less (fun x hx e => ?_) ⟨b, kb, decide_eq_true gb, decide_eq_false fun z => ?_⟩
    · have e : mrgG G a b x = x := of_decide_eq_true e
      refine decide_eq_true ?_
      unfold mrgG at e
      by_cases c : G x = b
      · rw [if_pos c] at e
        rw [← e, ga] at c
        exact absurd c nab
      · rw [if_neg c] at e; exact e
    · unfold mrgG at z
      rw [if_pos gb] at z
      exact nab z
theorem mrg_all {G : Str → Str} {a b : Str} (x : Str) : (if G x = b then a else G x) = mrgG G a b x := rfl
end
end Wk

set_option Elab.async false
set_option linter.all false
set_option maxRecDepth 100000
set_option maxHeartbeats 1000000
/-! What stands while places are reached, round by round. -/
namespace Wk
open PySem PySem.Spec PyProof.Rows L2 GxR
structure DueS (g : Str → List Str) (b : Str) (H0 : Hp) (rl : Addr) (R : List Str) (H : Hp) : Prop where
  sm : Same H0 H
  hr : H rl = some (.lst (R.map V.str))
  bR : b ∈ R
  nd : R.Nodup
  ok : ∀ x ∈ R, x = b ∨ RchP g b x
section
variable {g : Str → List Str} {b : Str} {H0 H H' : Hp} {rl : Addr} {R : List Str}
theorem DueS.same (h : DueS g b H0 rl R H) (s : Same H H') : DueS g b H0 rl R H' := ⟨h.sm.trans s, s _ _ h.hr, h.bR, h.nd, h.ok⟩
theorem DueS.len (h : DueS g b H0 rl R H) {U : List Str} (hU : ∀ p x, x ∈ g p → x ∈ U) : R.length ≤ U.length + 1 :=
  sub_len R (b :: U) h.nd fun x hx => (h.ok x hx).elim (fun e => by rw [e]; exact List.mem_cons_self) fun e => List.mem_cons_of_mem _ (rch_univ hU e)
theorem DueS.add (h : DueS g b H0 rl R H) (s : Same H H') {r2 : Addr} {x : Str} (hr2 : H' r2 = some (.lst (R.map V.str ++ [.str x]))) (hx : x ∉ R) (rx : RchP g b x) : DueS g b H0 r2 (R ++ [x]) H' := by
  refine ⟨h.sm.trans s, ?_, List.mem_append_left _ h.bR, nd_snoc h.nd hx, fun y hy => ?_⟩
  · rw [hr2, List.map_append]
    rfl
  · rcases List.mem_append.mp hy with z | z
    · exact h.ok y z
    · rw [List.mem_singleton.mp z]; exact .inr rx
end
/-- where d holds, the list of a place, or a new one without entries -/
theorem held_list {H H3 : Hp} {kvs : List (Key × V)} {hs : List HldP} (hH : HldsAt H hs kvs) (s : Same H H3) {e0 : Addr} (he0 : H3 e0 = some (.lst [])) (p : Str) :
    ∃ l xs, (valV kvs (Sum.inr p)).getD (.ref e0) = .ref l ∧ H3 l = some (.lst xs) ∧ EnsAt H3 (entH hs p) xs := by
  rcases hH.val p with ⟨h1, h2⟩ | ⟨l, xs, h1, h2, h3⟩
  · exact ⟨e0, [], by rw [h1]; rfl, he0, by rw [h2]; rfl⟩
  · exact ⟨l, xs, by rw [h1]; rfl, s _ _ h2, h3.tup (STup.of s)⟩
end Wk

set_option Elab.async false
set_option linter.all false
set_option maxRecDepth 100000
set_option maxHeartbeats 1000000
/-! repr of a dict of lists of pairs of texts. -/
namespace Wk
open PySem PySem.Spec PyProof.Rows L2 GxR
def dataE (es : List EntP) : List PyData := es.map fun e => .tuple [.str e.1, .str e.2]
def dataK (hs : List HldP) : List (PyData × PyData) := hs.map fun h => (.str h.1, .list (dataE h.2))
/-- a new list, that is not sys.modules -/
def tLstB (ta : TA) : TE := fun τ Ha Qa => ta τ Ha fun vs Hb => vs.length ≤ sizeLine ∧ ∀ l, Hb l = none → l ≠ sysModules → Qa (.ref l) (upd Hb l (.lst vs))
theorem pe_lstB {X : Cx} {es : List Expr} {ta : TA} {pl : Pos} (pa : PA X es ta) : PE X (.List es pl) (tLstB ta) := by
  constructor
  intro pins s σ H Q I hq
  apply wpAny_List_spliced
  refine thn (pa.run pl pins s σ H _ I hq) ?_
  rintro us s1 ⟨vs, Hb, Ib, rv, hz, q⟩
  refine ⟨by rw [← rv.length]; exact hz, ?_⟩
  have big : s1.heap.objs.size ≠ sysModules := Nat.ne_of_gt Ib.big
  have nf : Hb s1.heap.objs.size = none := Ib.hok.fresh (Nat.le_refl _)
  have ok : ObjOk X.prog X.w (upd Hb s1.heap.objs.size (.lst vs)) (s1.heap.push { cls := .type "list", data := .seq us.toArray 0 }) s1.heap.objs.size (.lst vs) := ⟨hz, us, 0, rv, Heap.get?_push_size _ rfl⟩
  exact ⟨.ref s1.heap.objs.size, _, Ib.laid (t' := s1.toks) (fun x y e => Heap.get?_push_of_some _ e) (Nat.le_refl _) ok, rfl, q _ nf big⟩
section
variable {X : Cx} {pins : List (Addr × Obj)} {σ : L2.St} {H : Hp} {s : Shared}
theorem ens_reads (I : Inv X pins σ H s) : ∀ {es : List EntP} {xs : List V} {us : List Value}, EnsAt H es xs → Vals xs us → ReadsAll s.heap us (dataE es) []
  | [], _, us, h, r => by
    rw [show _ = [] from h] at r
    cases r
    exact .nil
  | e :: es, _, us, h, r => by
    obtain ⟨b, vs, rfl, h1, h2⟩ := h
    cases r with
    | cons r1 r2 =>
      cases r1
      obtain ⟨_, its, rv, o, e1, e2, n, e3⟩ := (show ObjOk X.prog X.w H s.heap b (.tup [.str e.1, .str e.2]) from I.hok b _ h1)
      cases rv with
      | cons q1 q2 =>
        cases q2 with
        | cons q2 q3 =>
          cases q3
          obtain ⟨t1, rfl⟩ := q1
          obtain ⟨t2, rfl⟩ := q2
          have one : Reads s.heap (.ref b) (.tuple [.str e.1, .str e.2]) [] := .tuple (as := []) e1 e2 e3 (.cons (as := []) (bs := []) (.str _ _) (.cons (as := []) (bs := []) (.str _ _) .nil))
          exact .cons (as := []) (bs := []) one (ens_reads I h2 r2)
/-- none of the lists is sys.modules -/
def LowK (kvs : List (Key × V)) : Prop := ∀ p ∈ kvs, ∀ l, p.2 = V.ref l → l ≠ sysModules
theorem hlds_reads (I : Inv X pins σ H s) : ∀ {hs : List HldP} {kvs : List (Key × V)} {vs : List (Key × Value)} {es : List DictEntry}, HldsAt H hs kvs → LowK kvs → KV kvs vs → Pairs (mixKind X.prog X.w) es vs →
    ReadsAll s.heap (es.map (·.key)) ((dataK hs).map (·.1)) [] ∧ ∃ bs, ReadsAll s.heap (es.map (·.val)) ((dataK hs).map (·.2)) bs ∧ sysModules ∉ bs
  | [], _, vs, es, h, _, r, p => by
    rw [show _ = [] from h] at r
    cases r
    cases p
    exact ⟨.nil, [], .nil, List.not_mem_nil⟩
  | h0 :: hs, _, vs, es, h, lo, r, p => by
    obtain ⟨l, xs, us, rfl, h1, h2, h3⟩ := h
    cases r with
    | cons r1 r2 =>
      cases p with
      | cons p1 p2 p3 =>
        obtain ⟨ih1, bs, ih2, ih3⟩ := hlds_reads I h3 (fun x hx => lo x (List.mem_cons_of_mem _ hx)) r2 p3
        obtain ⟨k1, k2⟩ := r1
        rw [← k1] at p1
        rcases keyIs_shape (show keyIs (Sum.inr h0.1) _ = true from p1) with ⟨i, t, e, _⟩ | ⟨z, t, e, ek⟩
        · cases e
        · have ez : h0.1 = z := Sum.inr.inj e
          subst ez
          have ev := k2
          obtain ⟨_, its, n, rv, hg⟩ := (show ObjOk X.prog X.w H s.heap l (.lst xs) from I.hok l _ h1)
          have rl : Reads s.heap (.ref l) (.list (dataE h0.2)) (l :: []) := .list hg rfl rfl (by rw [List.toList_toArray]; exact ens_reads I h2 rv)
          refine ⟨?_, (l :: []) ++ bs, ?_, ?_⟩
          · show ReadsAll s.heap (_ :: _) (.str h0.1 :: _) ([] ++ [])
            refine .cons ?_ ih1
            show Reads s.heap (DictEntry.key _) _ _
            rw [ek]
            exact .str _ _
          · show ReadsAll s.heap (_ :: _) (.list (dataE h0.2) :: _) _
            refine .cons ?_ ih2
            show Reads s.heap (DictEntry.val _) _ _
            rw [p2, show _ = Value.ref l from ev]
            exact rl
          · intro z
            rcases List.mem_append.mp z with z | z
            · exact lo _ List.mem_cons_self l rfl (List.mem_singleton.mp z).symm
            · exact ih3 z
end
/-! ### it is not long -/
theorem textFrom_up : ∀ (ts : List Str) (k : Nat) (acc : Str), (textFrom k acc ts).length ≤ acc.length + piled ts
  | [], k, acc => Nat.le_add_right _ _
  | t :: ts, k, acc => by
    have ih := textFrom_up ts (k + 1) (acc ++ (if k > 0 then ", " else "" : String) ++ t)
    have e : (acc ++ ((if k > 0 then ", " else "" : String) : Str) ++ t).length ≤ acc.length + 2 + t.length := by
      rw [strLen_append, strLen_append]
      split
      · show acc.length + 2 + t.length ≤ _; omega
      · show acc.length + 0 + t.length ≤ _; omega
    rw [piled_cons]
    show (textFrom (k + 1) (acc ++ (if k > 0 then ", " else "" : String) ++ t) ts).length ≤ _
    omega
theorem listText_up (ts : List Str) : (listText ts).length ≤ piled ts + 2 := by
  unfold listText
  rw [strLen_append]
  have := textFrom_up ts 0 "["
  have e1 : ("[" : Str).length = 1 := rfl
  have e2 : ("]" : Str).length = 1 := rfl
  omega
theorem dictText_up (ts : List Str) : (dictText ts).length ≤ piled ts + 2 := by
  unfold dictText
  rw [strLen_append, strLen_append]
  have e1 : ("{" : Str).length = 1 := rfl
  have e2 : ("}" : Str).length = 1 := rfl
  by_cases c : ts = []
  · subst c
    show 1 + 0 + 1 ≤ _
    omega
  · have := join_length_add ts c
    omega
/-- a short text -/
def ShS (z : Str) : Prop := z.length ≤ 10 ∧ ∀ c ∈ z.cps.toList, c < 16 ^ 8
theorem shS_len {z : Str} (h : ShS z) : (reprText z).length ≤ 102 := by
  have := StrLaws.reprText_len z h.2
  have := h.1
  omega
theorem en_len {es : List EntP} (h : ∀ e ∈ es, ShS e.1 ∧ ShS e.2) : piled (PyData.shownAll (dataE es)) ≤ 250 * es.length := by
  induction es with
  | nil => exact Nat.le_refl 0
  | cons e es ih =>
    have i := ih fun x hx => h x (List.mem_cons_of_mem _ hx)
    obtain ⟨h1, h2⟩ := h e List.mem_cons_self
    show piled (tupleText [reprText e.1, reprText e.2] :: PyData.shownAll (dataE es)) ≤ _
    rw [piled_cons, List.length_cons]
    have l1 := shS_len h1
    have l2 := shS_len h2
    have l3 := fmt_text [reprText e.1, reprText e.2]
    have l4 : piled [reprText e.1, reprText e.2] = (reprText e.1).length + 2 + ((reprText e.2).length + 2 + 0) := by rw [piled_cons, piled_cons]; rfl
    omega
structure HldOk (hs : List HldP) : Prop where
  few : hs.length ≤ 40
  each : ∀ h ∈ hs, h.2.length ≤ 10
  keys : ∀ h ∈ hs, ShS h.1
  ents : ∀ h ∈ hs, ∀ e ∈ h.2, ShS e.1 ∧ ShS e.2
theorem kv_len : ∀ {hs : List HldP}, (∀ h ∈ hs, h.2.length ≤ 10) → (∀ h ∈ hs, ShS h.1) → (∀ h ∈ hs, ∀ e ∈ h.2, ShS e.1 ∧ ShS e.2) → piled (PyData.shownKv (dataK hs)) ≤ 3000 * hs.length
  | [], _, _, _ => Nat.le_refl 0
  | k :: hs, a, b, c => by
    have ih := kv_len (hs := hs) (fun h hh => a h (List.mem_cons_of_mem _ hh)) (fun h hh => b h (List.mem_cons_of_mem _ hh)) (fun h hh => c h (List.mem_cons_of_mem _ hh))
    have h1 := shS_len (b k List.mem_cons_self)
    have h2 := en_len (c k List.mem_cons_self)
    have h3 := a k List.mem_cons_self
    have h4 := listText_up (PyData.shownAll (dataE k.2))
    show piled ((reprText k.1 ++ ": " ++ listText (PyData.shownAll (dataE k.2))) :: PyData.shownKv (dataK hs)) ≤ _
    rw [piled_cons, strLen_append, strLen_append, List.length_cons]
    have e2 : (": " : Str).length = 2 := rfl
    omega
theorem show_e : ∀ es : List EntP, PyData.showableAll (dataE es) = true
  | [] => rfl
  | e :: es => by
    show ((true && (true && true)) && PyData.showableAll (dataE es)) = true
    rw [show_e es]
    rfl
theorem show_k : ∀ hs : List HldP, PyData.showableKv (dataK hs) = true
  | [] => rfl
  | h :: hs => by
    show (true && PyData.showableAll (dataE h.2) && PyData.showableKv (dataK hs)) = true
    rw [show_e, show_k hs]
    rfl
theorem deep_e : ∀ es : List EntP, PyData.depthAll (dataE es) ≤ 1
  | [] => Nat.zero_le _
  | e :: es => by
    show max 1 (PyData.depthAll (dataE es)) ≤ 1
    have := deep_e es
    omega
theorem deep_k : ∀ hs : List HldP, PyData.depthKv (dataK hs) ≤ 2
  | [] => Nat.zero_le _
  | h :: hs => by
    show max (max 0 (PyData.depthAll (dataE h.2) + 1)) (PyData.depthKv (dataK hs)) ≤ 2
    have := deep_e h.2
    have := deep_k hs
    omega
def shownH (hs : List HldP) : Str := PyData.shown (.dict (dataK hs))
def rReprH : List V → Hp → VK → Prop := fun xs H Q => ∃ (d : Addr) (kvs : List (Key × V)) (hs : List HldP), xs = [.ref d] ∧ H d = some (.dK kvs) ∧ HldsAt H hs kvs ∧ LowK kvs ∧ HldOk hs ∧ Q (.str (shownH hs)) H
theorem call_reprH {X : Cx} (gX : X.A.guards = some []) (hu : X.A.units + 64 < cLine) : CallR X (.builtin "repr") rReprH := by
  intro pins s σ H xs us Q I r h
  obtain ⟨d, kvs, hs, rfl, hd, hH, lo, ok, q⟩ := h
  rw [Vals.ref1 r]
  obtain ⟨_, hm, vs, kv, o, es, ep, g1, g2, g3, _, g4, _⟩ := (show ObjOk X.prog X.w H s.heap d (.dK kvs) from I.hok d _ hd)
  obtain ⟨ra, bs, rb, nb⟩ := hlds_reads I hH lo kv g4
  have rd : Reads s.heap (.ref d) (.dict (dataK hs)) (d :: [] ++ bs) := .dict g1 g2.1 g3 ra rb
  have hz : (PyData.shown (.dict (dataK hs))).length ≤ sizeLine := by
    have h1 := kv_len ok.each ok.keys ok.ents
    have h2 := dictText_up (PyData.shownKv (dataK hs))
    have h3 := ok.few
    have h4 : sizeLine = 16777216 := rfl
    show (dictText (PyData.shownKv (dataK hs))).length ≤ _
    omega
  have hdp : (PyData.dict (dataK hs)).depth ≤ 3 := by
    have := deep_k hs
    show PyData.depthKv (dataK hs) + 1 ≤ 3
    omega
  refine repr_of_reads' rd (show_k hs) (fun _ z => ?_) gX (by omega) (fun _ _ e => e) (fun h' u tk hk => ⟨.str _, H, I.kept hk, ⟨u, rfl⟩, q⟩) hz
  rcases List.mem_append.mp z with z | z
  · rw [← List.mem_singleton.mp z] at hm
    exact absurd hm (by decide)
  · exact nb z
end Wk

set_option Elab.async false
set_option linter.all false
set_option maxRecDepth 100000
set_option maxHeartbeats 1000000
/-! What places hold, while it is drawn. -/
namespace Wk
open PySem PySem.Spec PyProof.Rows L2 GxR
theorem HldsAt.stl {L : Addr} {H H' : Hp} {n : Int} (hL : H L = some (.lst [.int n])) (k : StL L H H') : ∀ {hs : List HldP} {kvs : List (Key × V)}, HldsAt H hs kvs → HldsAt H' hs kvs
  | [], _, h => h
  | h0 :: hs, _, h => by
    obtain ⟨l, xs, us, rfl, h1, h2, h3⟩ := h
    have lL : l ≠ L := fun z => by
      rw [z, hL] at h1
      have e := HO.lst.inj (Option.some.inj h1)
      subst e
      obtain ⟨w0, es0⟩ := h0
      cases es0 with
      | nil => cases (show [V.int n] = [] from h2)
      | cons e es =>
        obtain ⟨b, vs, z2, _⟩ := h2
        cases (List.cons.inj z2).1
    have st : STup H H' := fun a ys e => k.1 a _ (fun z => by rw [z, hL] at e; cases e) e
    exact ⟨l, xs, us, rfl, k.1 l _ lL h1, h2.tup st, HldsAt.stl hL k h3⟩
theorem HldsAt.out {H : Hp} {l : Addr} {ys : List V} {o : HO} (hl : H l = some (.lst ys)) : ∀ {hs : List HldP} {kvs : List (Key × V)}, HldsAt H hs kvs → (∀ p ∈ kvs, p.2 ≠ .ref l) → HldsAt (upd H l o) hs kvs
  | [], _, h, _ => h
  | h0 :: hs, _, h, no => by
    obtain ⟨l', xs, us, rfl, h1, h2, h3⟩ := h
    have ne : l' ≠ l := fun z => no _ List.mem_cons_self (by rw [z])
    exact ⟨l', xs, us, rfl, by rw [upd_ne ne]; exact h1, h2.tup (STup.lst hl), HldsAt.out hl h3 fun x hx => no x (List.mem_cons_of_mem _ hx)⟩
theorem HldsAt.dput {H : Hp} {d : Addr} {ks : List (Key × V)} {o : HO} (hd : H d = some (.dK ks)) : ∀ {hs : List HldP} {kvs : List (Key × V)}, HldsAt H hs kvs → HldsAt (upd H d o) hs kvs
  | [], _, h => h
  | h0 :: hs, _, h => by
    obtain ⟨l', xs, us, rfl, h1, h2, h3⟩ := h
    have st : STup H (upd H d o) := fun a ys e => (upd_ne (fun z => by rw [z, hd] at e; cases e)).trans e
    exact ⟨l', xs, us, rfl, (upd_ne (fun z => by rw [z, hd] at h1; cases h1)).trans h1, h2.tup st, HldsAt.dput hd h3⟩
/-- a list that is new is none of those held -/
theorem HldsAt.fresh {H : Hp} {l : Addr} (nl : H l = none) : ∀ {hs : List HldP} {kvs : List (Key × V)}, HldsAt H hs kvs → ∀ p ∈ kvs, p.2 ≠ .ref l
  | [], _, h, p, hp => by
    rw [show _ = [] from h] at hp
    cases hp
  | h0 :: hs, _, h, p, hp => by
    obtain ⟨l', xs, us, rfl, h1, h2, h3⟩ := h
    rcases List.mem_cons.mp hp with e | e
    · rw [e]
      intro z
      have z : l' = l := V.ref.inj z
      rw [z, nl] at h1
      cases h1
    · exact HldsAt.fresh nl h3 p e
/-- while a place's list is filled -/
structure FilS (p pn c L d l : Addr) (items : List V) (zs pl : List Str) (hs : List HldP) (kvs : List (Key × V)) (z : Str) (es : List EntP) (H : Hp) : Prop where
  hp : H p = some (.lst items)
  hn : H pn = some (.lst (zs.map V.str))
  hc : H c = some (.lst (pl.map V.str))
  hL : ∃ n : Int, H L = some (.lst [.int n])
  hd : H d = some (.dK (kvs ++ [(Sum.inr z, .ref l)]))
  hh : HldsAt H hs kvs
  hl : ∃ xs, H l = some (.lst xs) ∧ EnsAt H es xs
/-- while places are gone through -/
structure BldS (p pn c L d : Addr) (items : List V) (zs pl : List Str) (hs : List HldP) (kvs : List (Key × V)) (H : Hp) : Prop where
  hp : H p = some (.lst items)
  hn : H pn = some (.lst (zs.map V.str))
  hc : H c = some (.lst (pl.map V.str))
  hL : ∃ n : Int, H L = some (.lst [.int n])
  hd : H d = some (.dK kvs)
  hh : HldsAt H hs kvs
section
variable {p pn c L d l : Addr} {items : List V} {zs pl : List Str} {hs : List HldP} {kvs : List (Key × V)} {z : Str} {es : List EntP} {H H' : Hp}
theorem BldS.stl (x : BldS p pn c L d items zs pl hs kvs H) (k : StL L H H') (pL : p ≠ L) (nL : pn ≠ L) (cL : c ≠ L) : BldS p pn c L d items zs pl hs kvs H' := by
  obtain ⟨n, hn⟩ := x.hL
  exact ⟨k.1 _ _ pL x.hp, k.1 _ _ nL x.hn, k.1 _ _ cL x.hc, k.2, k.1 _ _ (fun e => by have h := x.hd; rw [e, hn] at h; cases h) x.hd, x.hh.stl hn k⟩
theorem FilS.stl (x : FilS p pn c L d l items zs pl hs kvs z es H) (k : StL L H H') (pL : p ≠ L) (nL : pn ≠ L) (cL : c ≠ L) (lL : l ≠ L) : FilS p pn c L d l items zs pl hs kvs z es H' := by
  obtain ⟨n, hn⟩ := x.hL
  obtain ⟨xs, h1, h2⟩ := x.hl
  have st : STup H H' := fun a ys e => k.1 a _ (fun z => by rw [z, hn] at e; cases e) e
  exact ⟨k.1 _ _ pL x.hp, k.1 _ _ nL x.hn, k.1 _ _ cL x.hc, k.2, k.1 _ _ (fun e => by have h := x.hd; rw [e, hn] at h; cases h) x.hd, x.hh.stl hn k, xs, k.1 _ _ lL h1, h2.tup st⟩
theorem FilS.same (x : FilS p pn c L d l items zs pl hs kvs z es H) (s : Same H H') : FilS p pn c L d l items zs pl hs kvs z es H' := by
  obtain ⟨n, hn⟩ := x.hL
  obtain ⟨xs, h1, h2⟩ := x.hl
  exact ⟨s _ _ x.hp, s _ _ x.hn, s _ _ x.hc, ⟨n, s _ _ hn⟩, s _ _ x.hd, x.hh.same s, xs, s _ _ h1, h2.tup (STup.of s)⟩
/-- a place more, its list new -/
theorem BldS.place (x : BldS p pn c L d items zs pl hs kvs H) (nl : H l = none) : FilS p pn c L d l items zs pl hs kvs z [] (upd (upd H l (.lst [])) d (.dK (kvs ++ [(Sum.inr z, .ref l)]))) := by
  obtain ⟨n, hn⟩ := x.hL
  have hd1 : upd H l (.lst []) d = some (.dK kvs) := kn x.hd nl
  have ne : ∀ {q : Addr} {ys : List V}, upd H l (.lst []) q = some (.lst ys) → q ≠ d := fun {q ys} e z => by rw [z, hd1] at e; cases e
  have k : ∀ {q : Addr} {ys : List V}, H q = some (.lst ys) → upd (upd H l (.lst [])) d (.dK (kvs ++ [(Sum.inr z, .ref l)])) q = some (.lst ys) := fun {q ys} e => (upd_ne (ne (kn e nl))).trans (kn e nl)
  refine ⟨k x.hp, k x.hn, k x.hc, ⟨n, k hn⟩, upd_same, HldsAt.dput hd1 (x.hh.same (same_new nl)), [], ?_, rfl⟩
  exact (upd_ne (ne upd_same)).trans upd_same
/-- a pair more -/
theorem FilS.push (x : FilS p pn c L d l items zs pl hs kvs z es H) (pl' : p ≠ l) (nl : pn ≠ l) (cl : c ≠ l) (lL : l ≠ L) (no : ∀ q ∈ kvs, q.2 ≠ .ref l) {xs : List V} (hl : H l = some (.lst xs)) {e : EntP} {b : Addr} (hb : H b = some (.tup [.str e.1, .str e.2])) :
    FilS p pn c L d l items zs pl hs kvs z (es ++ [e]) (upd H l (.lst (xs ++ [.ref b]))) := by
  obtain ⟨n, hn⟩ := x.hL
  obtain ⟨xs', h1, h2⟩ := x.hl
  have ex : xs' = xs := HO.lst.inj (Option.some.inj (h1.symm.trans hl))
  subst ex
  have st : STup H (upd H l (.lst (xs' ++ [.ref b]))) := STup.lst hl
  refine ⟨(upd_ne pl').trans x.hp, (upd_ne nl).trans x.hn, (upd_ne cl).trans x.hc, ⟨n, (upd_ne (Ne.symm lL)).trans hn⟩, (upd_ne (fun e => by have h := x.hd; rw [e, hl] at h; cases h)).trans x.hd, x.hh.out hl no, _, upd_same, EnsAt.snoc (st _ _ hb) (h2.tup st)⟩
theorem FilS.done (x : FilS p pn c L d l items zs pl hs kvs z es H) : BldS p pn c L d items zs pl (hs ++ [(z, es)]) (kvs ++ [(Sum.inr z, .ref l)]) H := by
  obtain ⟨xs, h1, h2⟩ := x.hl
  exact ⟨x.hp, x.hn, x.hc, x.hL, x.hd, HldsAt.snoc (k := (z, es)) h1 h2 x.hh⟩
end
/-! ### names that differ, and the dot -/
theorem names26_nd {s : Nat} {zs : List Str} (l : zs.length ≤ 26) (h : ∀ i z, zs[i]? = some z → NameOf ((s + 5 * i) % 26) z) : zs.Nodup := by
  refine List.pairwise_iff_getElem.mpr fun i j hi hj hij e => ?_
  have h1 := h i zs[i] (List.getElem?_eq_getElem hi)
  have h2 := h j zs[j] (List.getElem?_eq_getElem hj)
  rw [← e] at h2
  have := h1.inj h2
  omega
theorem name_nodot {j : Nat} {z : Str} (h : NameOf j z) : z ≠ "." := fun e => by
  obtain ⟨r, er, _⟩ := h
  rw [e] at er
  have : (46 : Nat) = 97 + j := (List.cons.inj (show [46] = (97 + j) :: r from er)).1
  omega
theorem places_nd {s : Nat} {zs : List Str} (l : zs.length ≤ 26) (h : ∀ i z, zs[i]? = some z → NameOf ((s + 5 * i) % 26) z) (k : Nat) : (zs.take k ++ [("." : Str)]).Nodup := by
  refine nd_snoc (List.Nodup.sublist (List.take_sublist _ _) (names26_nd l h)) fun z => ?_
  obtain ⟨i, hi⟩ := List.getElem?_of_mem (List.mem_of_mem_take z)
  exact name_nodot (h i _ hi) rfl
theorem shS_of {z : Str} (h : Sh 6 z) : ShS z := ⟨Nat.le_trans h.len (by decide), fun c hc => Nat.lt_trans (h.2 c hc) (by decide)⟩
theorem shS_dot : ShS "." := ⟨by decide +kernel, by decide +kernel⟩
def wds8 : List V := [.str "room", .str "room", .str "room", .str "in", .str "out", .str "open", .str "say", .str "hear"]
theorem wds8_sh : ∀ v ∈ wds8, ∃ z, v = .str z ∧ ShS z := by
  intro v hv
  simp only [wds8, List.mem_cons, List.not_mem_nil, or_false] at hv
  rcases hv with rfl | rfl | rfl | rfl | rfl | rfl | rfl | rfl
  · exact ⟨_, rfl, by decide +kernel, by decide +kernel⟩
  · exact ⟨_, rfl, by decide +kernel, by decide +kernel⟩
  · exact ⟨_, rfl, by decide +kernel, by decide +kernel⟩
  · exact ⟨_, rfl, by decide +kernel, by decide +kernel⟩
  · exact ⟨_, rfl, by decide +kernel, by decide +kernel⟩
  · exact ⟨_, rfl, by decide +kernel, by decide +kernel⟩
  · exact ⟨_, rfl, by decide +kernel, by decide +kernel⟩
  · exact ⟨_, rfl, by decide +kernel, by decide +kernel⟩
end Wk

set_option Elab.async false
set_option linter.all false
set_option maxRecDepth 100000
set_option maxHeartbeats 2000000
/-! first, *words = a list. -/
namespace Wk
open PySem PySem.Spec PyProof.Rows L2 PySem.Calls
def gStarL (t : TGs) : TG := fun v σ H Q => ∃ a x xs, v = .ref a ∧ H a = some (.lst (x :: xs)) ∧ xs.length ≤ 1000 ∧ ∀ D, H D = none → t [x, .ref D] σ (upd H D (.lst xs)) Q
section
variable {X : Cx} {pos : Pos}
theorem pgs_two {e1 e2 : Expr} {p : Pos} {t1 t2 : TG} (h1 : PG X e1 t1) (h2 : PG X e2 t2)
    (hs : (assignEach [e1, .Starred e2 p] X.env).map (·.2) = [assign e1 X.env, assign e2 X.env] := by rfl) : PGs X [e1, .Starred e2 p] (gCons t1 (gCons t2 gNil)) := by
  refine ⟨fun pins s σ H vs us Q I r h => ?_⟩
  obtain ⟨v, vr, e1', h⟩ := h
  subst e1'
  cases r with
  | cons r rr =>
    rw [hs]
    refine assignInOrder_cons (thn (h1.run pins s σ H _ _ _ I r h) fun _ s1 ⟨σ1, H1, I1, q1⟩ => ?_)
    obtain ⟨v2, vr2, e2', q1⟩ := q1
    subst e2'
    cases rr with
    | cons r2 rr2 =>
      refine assignInOrder_cons (thn (h2.run pins s1 σ1 H1 _ _ _ I1 r2 q1) fun _ s2 ⟨σ2, H2, I2, q2⟩ => ?_)
      obtain ⟨e3, q3⟩ := q2
      subst e3
      cases rr2
      exact assignInOrder_nil ⟨σ2, H2, I2, q3⟩
theorem pg_starL {es : List Expr} {k : Nat} {t : TGs} (hc : X.calm = true) (h : PGs X es t)
    (hn : (assignEach es X.env).length = 2 := by rfl) (hst : (assignEach es X.env).findIdx? (·.1) = some 1 := by rfl) : PG X (.Tuple es k pos) (gStarL t) := by
  refine ⟨fun pins s σ H v u Q I r hw => ?_⟩
  obtain ⟨a, x, xs, e1, hq, hl, hw⟩ := hw
  subst e1
  cases r
  obtain ⟨its, rv, pl, hz⟩ := I.list (SqL.of (K := X.K) hq)
  have hlist := pl.isList
  rw [PyProof.Rows.assign_Tuple]
  refine wpAny_bind (wpAny_standAt ?_)
  unfold unpack
  rw [hn, hst]
  have hlen : its.length = xs.length + 1 := by rw [← rv.length]; rfl
  cases rv with
  | cons rx rxs =>
  rename_i u0 us
  have hh := I.ok.hd hc
  have hlt : a ≠ s.heap.objs.size := by obtain ⟨o, ho, _⟩ := hlist; exact Nat.ne_of_lt (Heap.lt_size ho)
  refine wpAny_bind (wpAny_holding ?_)
  unfold unpackItems
  refine wpAny_bind ?_
  unfold notIterableAtAll
  refine wpAny_bind (wpAny_specialOf hlist.typeIs slot_list_iter.lookup ?_)
  refine wpAny_pure ?_
  simp only [Bool.false_eq_true, if_false]
  refine wpAny_bind (wpAny_holding (wpAny_pyIter_list hlist ?_))
  refine wpAny_bind (wpAny_holding (PySem.W.kun_draw hlt 1 0 _ _ ⟨_, Heap.get?_push_size _ rfl, rfl, rfl⟩ (hlist.push _) (by simp) fun h₁ hit₁ hs₁ => ?_))
  have hl₁ : h₁.IsList a (u0 :: us).toArray := (hlist.push _).extBut hs₁.extBut hlt
  rw [Nat.zero_add] at hit₁
  have hit₁' := hit₁
  obtain ⟨oi, hoi, _⟩ := hit₁'
  have hl₁' := hl₁
  obtain ⟨ol, hol, _⟩ := hl₁'
  rw [List.drop_zero]
  have e1 : (u0 :: us).toArray.toList.take 1 = [u0] := rfl
  rw [e1, if_neg (show ¬ ([u0].length < 1) by simp)]
  have hz2 : (u0 :: us).toArray.size ≤ sizeLine := by
    rw [List.size_toArray, hlen]
    exact Nat.le_trans (show _ ≤ 1001 by omega) (by decide)
  refine wpAny_bind (wpAny_holding (PySem.W.kun_collect (s := { s with heap := h₁ }) (T := "list_iterator") (.inr (.inr (.inl rfl))) (Walks.list (A := X.A.in1) hh s.heap.objs.size a hlt (u0 :: us).toArray) (fun j u st => st.1.typeIs) (k := 1) (by simp) ⟨hit₁, hl₁⟩ (Heap.lt_size hoi) (Heap.lt_size hol) (fun h₂ tk hk => ?_) hz2))
  have e2 : (u0 :: us).toArray.toList.drop 1 = us := rfl
  rw [e2]
  show wpAny _ _ (if us.length < 2 - 1 - 1 then _ else _) _ _ _
  rw [if_neg (by omega)]
  show wpAny _ _ (newList (us.take (us.length - (2 - 1 - 1))) >>= fun d => pure ([u0] ++ [d] ++ us.drop (us.length - (2 - 1 - 1)))) _ _ _
  rw [show us.length - (2 - 1 - 1) = us.length by omega, List.take_length, List.drop_length]
  have he : ∀ b o, s.heap.get? b = some o → h₂.get? b = some o := fun b o e => by
    have hb := Heap.lt_size e
    exact hk b o (Nat.ne_of_lt hb) (hs₁.extBut b o (Nat.ne_of_lt hb) (Heap.get?_push_of_some _ e))
  have I1 : Inv X pins σ H { s with heap := h₂, toks := tk } := I.kept (t' := tk) he
  have lx : us.length = xs.length := by simpa using hlen
  refine wpAny_bind (wpAny_newList ?_ (by rw [lx]; exact Nat.le_trans hl (by decide)))
  refine wpAny_pure ?_
  have hf : H h₂.objs.size = none := I1.hok.fresh (Nat.le_refl _)
  have hoL : (h₂.push (seqObj "list" us.toArray 0)).get? h₂.objs.size = some (seqObj "list" us.toArray 0) := Heap.get?_push_size _ rfl
  have I2 : Inv X pins σ (upd H h₂.objs.size (.lst xs)) { s with heap := h₂.push (seqObj "list" us.toArray 0), toks := tk } :=
    I1.laid (t' := tk) (fun b u e => Heap.get?_push_of_some _ e) (Nat.le_refl _) (show ObjOk X.prog X.w _ _ _ (.lst xs) from ⟨Nat.le_trans hl (by decide), us, 0, rxs, hoL⟩)
  exact h.run pins _ σ _ [x, .ref h₂.objs.size] _ Q I2 (.cons rx (.cons rfl .nil)) (hw _ hf)
end
end Wk

set_option Elab.async false
set_option linter.all false
set_option maxRecDepth 100000
set_option maxHeartbeats 4000000
/-! All parts of a row within bounds, whatever a part is: promises. -/
namespace Wk
open PySem PySem.Spec PyProof.Rows L2 GxR
def flT (ts : List Th) : List Th := (ts.map itemsT).flatten
/-- the rows ts, and so on: at most mp parts with the m ahead, less than n deep -/
def smQ (np : Th → Bool) (rst : Th → Th) (mp : Nat) : Nat → Nat → List Th → Bool
  | 0, _, _ => false
  | n + 1, m, ts => if ts.all isTup = true then (if m + (ts.map itemsT).flatten.length ≤ mp then (if (ts.map itemsT).flatten = [] then true else if (ts.map itemsT).flatten.all np = true then smQ np rst mp n (m + (ts.map itemsT).flatten.length) ((ts.map itemsT).flatten.map rst) else false) else false) else false
/-- their parts, level by level -/
def allQ (rst : Th → Th) : Nat → List Th → List Th
  | 0, _ => []
  | n + 1, ts => if (ts.map itemsT).flatten = [] then [] else (ts.map itemsT).flatten ++ allQ rst n ((ts.map itemsT).flatten.map rst)
def spNPQ (Ts : List Addr) (np : Th → Bool) : Sp := fun vs H Q _ => ∃ (v : V) (t : Th), vs = [v] ∧ ThAt H t v ∧ okT t ∧ TabsG Ts H ∧ ∀ H', SamTs Ts H H' → Q (.bl (np t)) H'
def spRestQ (np : Th → Bool) (rst : Th → Th) : Sp := fun vs H Q _ => ∃ (v : V) (t : Th) (G : Hp), vs = [v] ∧ ThAt G t v ∧ Kpt G H ∧ np t = true ∧ ∀ (H' : Hp) (u : V), Same H H' → ThOr G H' (rst t) u → Q u H'
def spWithinQ (Ts : List Addr) (np : Th → Bool) (rst : Th → Th) (mp md : Nat) (fN fR : Addr) : Sp := fun vs H Q _ => ∃ (v : V) (t : Th), vs = [v, .int (mp : Nat), .int (md : Nat), .ref fN, .ref fR] ∧ ThAt H t v ∧ okT t ∧ TabsG Ts H ∧
  (smQ np rst mp (md + 1) 0 [t] = false → ∀ H', SamTs Ts H H' → Q .non H') ∧
  (smQ np rst mp (md + 1) 0 [t] = true → ∀ (H' : Hp) (a : Addr) (tv : List V), SamTs Ts H H' → H a = none → H' a = some (.lst tv) → ThsAt H (allQ rst (md + 1) [t]) tv → Q (.ref a) H')
end Wk

set_option Elab.async false
set_option linter.all false
set_option maxRecDepth 100000
set_option maxHeartbeats 4000000
/-! Mail: parts that send and get, rows of them, which things are such rows. -/
namespace Wk
open PySem PySem.Spec PyProof.Rows L2 GxR
inductive MP where
  | send (n m : Str)
  | get (n x : Str) (r : List MP)
def mnB (z : Str) : Bool := nameB z && (decide (z.length ≤ 4) && !decide (z.cps.toList.head? = some 122))
def mnT : Th → Bool
  | .str z => mnB z
  | _ => false
mutual
def thM : MP → Th
  | .send n m => .tup [.str "send", .str n, .str m]
  | .get n x r => .tup [.str "get", .str n, .str x, .tup (thMs r)]
def thMs : List MP → List Th
  | [] => []
  | p :: r => thM p :: thMs r
end
def thMR (r : List MP) : Th := .tup (thMs r)
theorem thMs_map : ∀ r : List MP, thMs r = r.map thM
  | [] => rfl
  | p :: r => by
    show thM p :: thMs r = thM p :: r.map thM
    rw [thMs_map r]
def restM : MP → List MP
  | .send _ _ => []
  | .get _ _ r => r
mutual
def okM : MP → Prop
  | .send n m => mnB n = true ∧ mnB m = true
  | .get n x r => mnB n = true ∧ mnB x = true ∧ okMs r
def okMs : List MP → Prop
  | [] => True
  | p :: r => okM p ∧ okMs r
end
mutual
def deepM : MP → Nat
  | .send _ _ => 1
  | .get _ _ r => deepMs r + 1
def deepMs : List MP → Nat
  | [] => 0
  | p :: r => max (deepM p) (deepMs r)
end
mutual
def sizeM : MP → Nat
  | .send _ _ => 1
  | .get _ _ r => sizeMs r + 1
def sizeMs : List MP → Nat
  | [] => 0
  | p :: r => sizeM p + sizeMs r
end
mutual
def bdM : MP → List Str
  | .send _ _ => []
  | .get _ x r => x :: bdMs r
def bdMs : List MP → List Str
  | [] => []
  | p :: r => bdM p ++ bdMs r
end
def fltM (S l : List Str) : List Str := l.filter fun n => decide (n ∉ S)
mutual
def frM (S : List Str) : MP → List Str
  | .send n m => fltM S [n, m]
  | .get n x r => fltM S [n] ++ frMs (S ++ [x]) r
def frMs (S : List Str) : List MP → List Str
  | [] => []
  | p :: r => frM S p ++ frMs S r
end
theorem size_restM (p : MP) : sizeM p = sizeMs (restM p) + 1 := by cases p <;> rfl
theorem deep_restM (p : MP) : deepM p = deepMs (restM p) + 1 := by cases p <;> rfl
theorem rest_okM {p : MP} (h : okM p) : okMs (restM p) := by
  cases p with
  | send _ _ => exact trivial
  | get _ _ _ => exact h.2.2
theorem okMs.mem : ∀ {r : List MP}, okMs r → ∀ p ∈ r, okM p
  | [], _, p, h => nomatch h
  | q :: r, h, p, hp => by
    rcases List.mem_cons.mp hp with e | e
    · rw [e]; exact h.1
    · exact okMs.mem h.2 p e
theorem okMs.of : ∀ {r : List MP}, (∀ p ∈ r, okM p) → okMs r
  | [], _ => trivial
  | q :: r, h => ⟨h q List.mem_cons_self, okMs.of fun p hp => h p (List.mem_cons_of_mem _ hp)⟩
theorem len_sizeMs : ∀ r : List MP, r.length ≤ sizeMs r
  | [] => Nat.le_refl _
  | p :: r => by
    have h := len_sizeMs r
    have s := size_restM p
    show r.length + 1 ≤ sizeM p + sizeMs r
    omega
mutual
theorem bd_sizeM : ∀ p : MP, (bdM p).length ≤ sizeM p
  | .send _ _ => Nat.zero_le _
  | .get _ x r => by
    have h := bd_sizeMs r
    show (bdMs r).length + 1 ≤ sizeMs r + 1
    omega
theorem bd_sizeMs : ∀ r : List MP, (bdMs r).length ≤ sizeMs r
  | [] => Nat.le_refl _
  | p :: r => by
    have h := bd_sizeM p
    have h2 := bd_sizeMs r
    show (bdM p ++ bdMs r).length ≤ sizeM p + sizeMs r
    rw [List.length_append]
    omega
end
theorem flt_len (S l : List Str) : (fltM S l).length ≤ l.length := List.length_filter_le _ _
mutual
theorem fr_sizeM : ∀ (p : MP) (S : List Str), (frM S p).length ≤ 2 * sizeM p
  | .send n m, S => by
    have := flt_len S [n, m]
    show (fltM S [n, m]).length ≤ 2 * 1
    exact this
  | .get n x r, S => by
    have h := fr_sizeMs r (S ++ [x])
    have := flt_len S [n]
    show (fltM S [n] ++ frMs (S ++ [x]) r).length ≤ 2 * (sizeMs r + 1)
    rw [List.length_append]
    have e : [n].length = 1 := rfl
    omega
theorem fr_sizeMs : ∀ (r : List MP) (S : List Str), (frMs S r).length ≤ 2 * sizeMs r
  | [], S => Nat.le_refl _
  | p :: r, S => by
    have h := fr_sizeM p S
    have h2 := fr_sizeMs r S
    show (frM S p ++ frMs S r).length ≤ 2 * (sizeM p + sizeMs r)
    rw [List.length_append]
    omega
end
theorem mn_len {z : Str} (h : mnB z = true) : z.length ≤ 4 := of_decide_eq_true (Bool.and_eq_true_iff.mp (Bool.and_eq_true_iff.mp h).2).1
/-! ### levels -/
def flM (ls : List (List MP)) : List MP := ls.flatten
def nxM (ls : List (List MP)) : List (List MP) := (flM ls).map restM
def deepMl : List (List MP) → Nat
  | [] => 0
  | r :: ls => max (deepMs r) (deepMl ls)
def sizeMl : List (List MP) → Nat
  | [] => 0
  | r :: ls => sizeMs r + sizeMl ls
def bdMl : List (List MP) → Nat
  | [] => 0
  | r :: ls => (bdMs r).length + bdMl ls
theorem deepMl_app : ∀ a b, deepMl (a ++ b) = max (deepMl a) (deepMl b)
  | [], b => by show deepMl b = max 0 (deepMl b); omega
  | r :: a, b => by
    show max (deepMs r) (deepMl (a ++ b)) = max (max (deepMs r) (deepMl a)) (deepMl b)
    rw [deepMl_app a b]; omega
theorem sizeMl_app : ∀ a b, sizeMl (a ++ b) = sizeMl a + sizeMl b
  | [], b => by show sizeMl b = 0 + sizeMl b; omega
  | r :: a, b => by
    show sizeMs r + sizeMl (a ++ b) = sizeMs r + sizeMl a + sizeMl b
    rw [sizeMl_app a b]; omega
theorem bdMl_app : ∀ a b, bdMl (a ++ b) = bdMl a + bdMl b
  | [], b => by show bdMl b = 0 + bdMl b; omega
  | r :: a, b => by
    show (bdMs r).length + bdMl (a ++ b) = (bdMs r).length + bdMl a + bdMl b
    rw [bdMl_app a b]; omega
theorem sizeMs_rests : ∀ r : List MP, sizeMs r = r.length + sizeMl (r.map restM)
  | [] => rfl
  | p :: r => by
    have h := sizeMs_rests r
    have s := size_restM p
    show sizeM p + sizeMs r = r.length + 1 + (sizeMs (restM p) + sizeMl (r.map restM))
    omega
theorem sizeMl_rests : ∀ ls : List (List MP), sizeMl ls = (flM ls).length + sizeMl (nxM ls)
  | [] => rfl
  | r :: ls => by
    have h := sizeMl_rests ls
    have h2 := sizeMs_rests r
    show sizeMs r + sizeMl ls = (r ++ flM ls).length + sizeMl ((r ++ flM ls).map restM)
    rw [List.length_append, List.map_append, sizeMl_app]
    have e : sizeMl (nxM ls) = sizeMl ((flM ls).map restM) := rfl
    omega
theorem deepMs_rests : ∀ r : List MP, deepMl (r.map restM) ≤ deepMs r - 1
  | [] => Nat.le_refl _
  | p :: r => by
    have h := deepMs_rests r
    have d := deep_restM p
    show max (deepMs (restM p)) (deepMl (r.map restM)) ≤ max (deepM p) (deepMs r) - 1
    omega
theorem deepMl_rests : ∀ ls : List (List MP), deepMl (nxM ls) ≤ deepMl ls - 1
  | [] => Nat.le_refl _
  | r :: ls => by
    have h := deepMl_rests ls
    have h2 := deepMs_rests r
    show deepMl ((r ++ flM ls).map restM) ≤ max (deepMs r) (deepMl ls) - 1
    rw [List.map_append, deepMl_app]
    have e : deepMl (nxM ls) = deepMl ((flM ls).map restM) := rfl
    omega
theorem deepMs_up : ∀ r : List MP, deepMs r ≤ deepMl (r.map restM) + 1
  | [] => Nat.zero_le _
  | p :: r => by
    have h := deepMs_up r
    have d := deep_restM p
    show max (deepM p) (deepMs r) ≤ max (deepMs (restM p)) (deepMl (r.map restM)) + 1
    omega
theorem deepMl_up : ∀ ls : List (List MP), deepMl ls ≤ deepMl (nxM ls) + 1
  | [] => Nat.zero_le _
  | r :: ls => by
    have h := deepMl_up ls
    have h2 := deepMs_up r
    show max (deepMs r) (deepMl ls) ≤ deepMl ((r ++ flM ls).map restM) + 1
    rw [List.map_append, deepMl_app]
    have e : deepMl (nxM ls) = deepMl ((flM ls).map restM) := rfl
    omega
theorem deepMl_pos : ∀ ls : List (List MP), flM ls ≠ [] → 1 ≤ deepMl ls
  | [], h => absurd rfl h
  | [] :: ls, h => by
    have := deepMl_pos ls h
    show 1 ≤ max (deepMs []) (deepMl ls)
    omega
  | (p :: r) :: ls, h => by
    have := deep_restM p
    show 1 ≤ max (max (deepM p) (deepMs r)) (deepMl ls)
    omega
def isGetM : MP → Bool
  | .send _ _ => false
  | .get _ _ _ => true
def getsM (r : List MP) : Nat := (r.filter isGetM).length
theorem getsM_app (a b : List MP) : getsM (a ++ b) = getsM a + getsM b := by
  unfold getsM
  rw [List.filter_append, List.length_append]
theorem bdMs_rests : ∀ r : List MP, (bdMs r).length = getsM r + bdMl (r.map restM)
  | [] => rfl
  | p :: r => by
    have h := bdMs_rests r
    have e : getsM (p :: r) = getsM [p] + getsM r := getsM_app [p] r
    have e2 : (bdM p).length = getsM [p] + (bdMs (restM p)).length := by
      cases p with
      | send _ _ => rfl
      | get n x q => show (bdMs q).length + 1 = 1 + (bdMs q).length; omega
    show (bdM p ++ bdMs r).length = getsM (p :: r) + ((bdMs (restM p)).length + bdMl (r.map restM))
    rw [List.length_append]
    omega
theorem bdMl_rests : ∀ ls : List (List MP), bdMl ls = getsM (flM ls) + bdMl (nxM ls)
  | [] => rfl
  | r :: ls => by
    have h := bdMl_rests ls
    have h2 := bdMs_rests r
    show (bdMs r).length + bdMl ls = getsM (r ++ flM ls) + bdMl ((r ++ flM ls).map restM)
    rw [getsM_app, List.map_append, bdMl_app]
    have e : bdMl (nxM ls) = bdMl ((flM ls).map restM) := rfl
    omega
def okMl (ls : List (List MP)) : Prop := ∀ r ∈ ls, okMs r
theorem okMl.parts {ls : List (List MP)} (h : okMl ls) : ∀ p ∈ flM ls, okM p := fun p hp => by
  obtain ⟨r, hr, hp⟩ := List.mem_flatten.mp hp
  exact (h r hr).mem p hp
theorem okMl.next {ls : List (List MP)} (h : okMl ls) : okMl (nxM ls) := fun r hr => by
  obtain ⟨p, hp, rfl⟩ := List.mem_map.mp hr
  exact rest_okM (h.parts p hp)
/-! ### forms -/
def msOf (z : Str) : Option Nat := if z = "send" then some 3 else if z = "get" then some 4 else none
def mpB : Th → Bool
  | .tup (.str z :: r) => decide (msOf z = some (r.length + 1)) && (r.take 2).all mnT
  | _ => false
def rstM : Th → Th
  | .tup (.str z :: r) => if z = "get" then (r[2]?).getD .non else .tup []
  | _ => .non
theorem mp_cases {t : Th} (h : mpB t = true) : (∃ n m, t = .tup [.str "send", .str n, .str m] ∧ mnB n = true ∧ mnB m = true) ∨ ∃ n x y, t = .tup [.str "get", .str n, .str x, y] ∧ mnB n = true ∧ mnB x = true := by
  match t, h with
  | .tup (.str z :: r), h =>
    obtain ⟨h1, h2⟩ := Bool.and_eq_true_iff.mp (show (decide (msOf z = some (r.length + 1)) && (r.take 2).all mnT) = true from h)
    have h1 := of_decide_eq_true h1
    have nm : ∀ x : Th, mnT x = true → ∃ n, x = .str n ∧ mnB n = true := fun x hx => by
      cases x with
      | str n => exact ⟨n, rfl, hx⟩
      | _ => cases hx
    unfold msOf at h1
    by_cases c : z = "send"
    · rw [if_pos c] at h1
      have l : r.length = 2 := by have := Option.some.inj h1; omega
      obtain ⟨a, b, rfl⟩ : ∃ a b, r = [a, b] := by
        match r, l with
        | [a, b], _ => exact ⟨a, b, rfl⟩
      obtain ⟨g1, g2⟩ := Bool.and_eq_true_iff.mp (show (mnT a && (mnT b && true)) = true from h2)
      obtain ⟨n, rfl, hn⟩ := nm a g1
      obtain ⟨m, rfl, hm⟩ := nm b (Bool.and_eq_true_iff.mp g2).1
      exact .inl ⟨n, m, by rw [c], hn, hm⟩
    · rw [if_neg c] at h1
      by_cases c2 : z = "get"
      · rw [if_pos c2] at h1
        have l : r.length = 3 := by have := Option.some.inj h1; omega
        obtain ⟨a, b, y, rfl⟩ : ∃ a b y, r = [a, b, y] := by
          match r, l with
          | [a, b, y], _ => exact ⟨a, b, y, rfl⟩
        obtain ⟨g1, g2⟩ := Bool.and_eq_true_iff.mp (show (mnT a && (mnT b && true)) = true from h2)
        obtain ⟨n, rfl, hn⟩ := nm a g1
        obtain ⟨m, rfl, hm⟩ := nm b (Bool.and_eq_true_iff.mp g2).1
        exact .inr ⟨n, m, y, by rw [c2], hn, hm⟩
      · rw [if_neg c2] at h1
        cases h1
theorem mp_part {p : MP} (h : okM p) : mpB (thM p) = true := by
  cases p with
  | send n m =>
    have h1 : mnB n = true := h.1
    have h2 : mnB m = true := h.2
    show (decide (msOf "send" = some 3) && (mnB n && (mnB m && true))) = true
    rw [h1, h2]
    decide +kernel
  | get n x r =>
    have h1 : mnB n = true := h.1
    have h2 : mnB x = true := h.2.1
    show (decide (msOf "get" = some 4) && (mnB n && (mnB x && true))) = true
    rw [h1, h2]
    decide +kernel
theorem rst_part (p : MP) : rstM (thM p) = thMR (restM p) := by
  cases p with
  | send n m =>
    show (if ("send" : Str) = "get" then (([.str n, .str m] : List Th)[2]?).getD .non else Th.tup []) = _
    rw [if_neg (by decide +kernel)]
    rfl
  | get n x r =>
    show (if ("get" : Str) = "get" then _ else Th.tup []) = _
    rw [if_pos rfl]
    rfl
theorem mflat_rows (ls : List (List MP)) : ((ls.map thMR).map itemsT).flatten = (flM ls).map thM := by
  induction ls with
  | nil => rfl
  | cons r ls ih =>
    show itemsT (thMR r) ++ ((ls.map thMR).map itemsT).flatten = (r ++ flM ls).map thM
    rw [ih, List.map_append]
    show thMs r ++ _ = _
    rw [thMs_map]
theorem mall_tup (ls : List (List MP)) : (ls.map thMR).all isTup = true := by
  rw [List.all_map]
  exact List.all_eq_true.mpr fun _ _ => rfl
theorem mrests_rows (ls : List (List MP)) : ((flM ls).map thM).map rstM = (nxM ls).map thMR := by
  unfold nxM
  rw [List.map_map, List.map_map]
  exact List.map_congr_left fun p _ => rst_part p
theorem msmall_of : ∀ (n m : Nat) (ls : List (List MP)), okMl ls → m + sizeMl ls ≤ 20 → deepMl ls < n → smQ mpB rstM 20 n m (ls.map thMR) = true
  | 0, m, ls, _, _, h => absurd h (Nat.not_lt_zero _)
  | n + 1, m, ls, hok, hs, hd => by
    have sz := sizeMl_rests ls
    have dl := deepMl_rests ls
    unfold smQ
    rw [if_pos (mall_tup ls), mflat_rows, List.length_map, if_pos (by omega)]
    by_cases e : (flM ls).map thM = []
    · rw [if_pos e]
    · rw [if_neg e]
      have e2 : flM ls ≠ [] := fun z => e (by rw [z]; rfl)
      have dp := deepMl_pos ls e2
      rw [if_pos (by
        rw [List.all_map]
        exact List.all_eq_true.mpr fun p hp => mp_part (hok.parts p hp)), mrests_rows]
      exact msmall_of n _ (nxM ls) hok.next (by omega) (by omega)
theorem mparts_of : ∀ (ts : List Th) (ls : List (List MP)), ts.all mpB = true → ts.map rstM = ls.map thMR → (∀ r ∈ ls, okMs r) → ∃ ps : List MP, ts = ps.map thM ∧ ps.map restM = ls ∧ ∀ p ∈ ps, okM p
  | [], ls, _, e, _ => ⟨[], rfl, (by
      cases ls with
      | nil => rfl
      | cons a l => cases e), fun _ h => nomatch h⟩
  | t :: ts, [], _, e, _ => by cases e
  | t :: ts, l :: ls, h, e, hok => by
    obtain ⟨h1, h2⟩ := Bool.and_eq_true_iff.mp (show (mpB t && ts.all mpB) = true from h)
    have e' : rstM t :: ts.map rstM = thMR l :: ls.map thMR := e
    obtain ⟨e1, e2⟩ := List.cons.inj e'
    obtain ⟨ps, p1, p2, p3⟩ := mparts_of ts ls h2 e2 (fun r hr => hok r (List.mem_cons_of_mem _ hr))
    have okl := hok l List.mem_cons_self
    obtain ⟨p, q1, q2, q3⟩ : ∃ p : MP, t = thM p ∧ restM p = l ∧ okM p := by
      rcases mp_cases h1 with ⟨n, m, rfl, hn, hm⟩ | ⟨n, x, y, rfl, hn, hx⟩
      · have q : rstM (Th.tup [.str "send", .str n, .str m]) = .tup [] := by
          show (if ("send" : Str) = "get" then (([.str n, .str m] : List Th)[2]?).getD .non else Th.tup []) = _
          rw [if_neg (by decide +kernel)]
        rw [q] at e1
        have el : l = [] := by
          cases l with
          | nil => rfl
          | cons a b => cases (Th.tup.inj e1)
        exact ⟨.send n m, rfl, el.symm, hn, hm⟩
      · have q : rstM (Th.tup [.str "get", .str n, .str x, y]) = y := by
          show (if ("get" : Str) = "get" then _ else Th.tup []) = _
          rw [if_pos rfl]
          rfl
        rw [q] at e1
        exact ⟨.get n x l, by rw [e1]; rfl, rfl, hn, hx, okl⟩
    exact ⟨p :: ps, by rw [q1, p1]; rfl, by rw [List.map_cons, q2, p2], fun r hr => by
      rcases List.mem_cons.mp hr with z | z
      · rw [z]; exact q3
      · exact p3 r z⟩
theorem msplit_flat : ∀ (xs : List (List Th)) (ps : List MP), xs.flatten = ps.map thM → ∃ ls : List (List MP), xs = ls.map (List.map thM) ∧ flM ls = ps
  | [], ps, e => ⟨[], rfl, by
      cases ps with
      | nil => rfl
      | cons a b => cases e⟩
  | x :: xs, ps, e => by
    have e' : ps.map thM = x ++ xs.flatten := e.symm
    obtain ⟨a, b, e1, e2, e3⟩ := List.map_eq_append_iff.mp e'
    obtain ⟨ls, l1, l2⟩ := msplit_flat xs b e3.symm
    exact ⟨a :: ls, by rw [List.map_cons, e2, l1], by show a ++ flM ls = ps; rw [l2, e1]⟩
theorem mrows_of : ∀ (n m : Nat) (ts : List Th), smQ mpB rstM 20 n m ts = true → ∃ ls : List (List MP), ts = ls.map thMR ∧ okMl ls ∧ m + sizeMl ls ≤ 20 ∧ deepMl ls < n
  | 0, m, ts, h => by cases h
  | n + 1, m, ts, h => by
    unfold smQ at h
    by_cases c1 : ts.all isTup = true
    · rw [if_pos c1] at h
      obtain ⟨xs, rfl⟩ := tups_of ts c1
      have ei : ((xs.map Th.tup).map itemsT).flatten = xs.flatten := by
        rw [List.map_map, show itemsT ∘ Th.tup = id from rfl, List.map_id]
      rw [ei] at h
      by_cases c2 : m + xs.flatten.length ≤ 20
      · rw [if_pos c2] at h
        by_cases c3 : xs.flatten = []
        · have all0 : ∀ x ∈ xs, x = [] := List.flatten_eq_nil_iff.mp c3
          refine ⟨xs.map fun _ => [], ?_, fun r hr => ?_, ?_, ?_⟩
          · rw [List.map_map]
            exact List.map_congr_left fun x hx => by rw [all0 x hx]; rfl
          · obtain ⟨_, _, rfl⟩ := List.mem_map.mp hr
            trivial
          · have z : ∀ ys : List (List Th), sizeMl (ys.map fun _ => ([] : List MP)) = 0 := by
              intro ys
              induction ys with
              | nil => rfl
              | cons y ys ih => show 0 + sizeMl (ys.map fun _ => ([] : List MP)) = 0; omega
            rw [z]; omega
          · have z : ∀ ys : List (List Th), deepMl (ys.map fun _ => ([] : List MP)) = 0 := by
              intro ys
              induction ys with
              | nil => rfl
              | cons y ys ih => show max 0 (deepMl (ys.map fun _ => ([] : List MP))) = 0; omega
            rw [z]; omega
        · rw [if_neg c3] at h
          by_cases c4 : xs.flatten.all mpB = true
          · rw [if_pos c4] at h
            obtain ⟨ls', e', hok', hs', hd'⟩ := mrows_of n _ _ h
            obtain ⟨ps, p1, p2, p3⟩ := mparts_of xs.flatten ls' c4 e' hok'
            obtain ⟨ls, l1, l2⟩ := msplit_flat xs ps p1
            have enx : nxM ls = ls' := by unfold nxM; rw [l2, p2]
            have sz := sizeMl_rests ls
            have du := deepMl_up ls
            rw [enx] at sz du
            have el : (flM ls).length = xs.flatten.length := by rw [l2, p1, List.length_map]
            refine ⟨ls, ?_, fun r hr => ?_, by omega, by omega⟩
            · rw [l1, List.map_map]
              exact List.map_congr_left fun r _ => by
                show Th.tup (r.map thM) = Th.tup (thMs r)
                rw [thMs_map]
            · have sub : ∀ p ∈ r, p ∈ ps := fun p hp => by
                rw [← l2]
                exact List.mem_flatten.mpr ⟨r, hr, hp⟩
              exact okMs.of fun p hp => p3 p (sub p hp)
          · rw [if_neg c4] at h; cases h
      · rw [if_neg c2] at h; cases h
    · rw [if_neg c1] at h; cases h
theorem mail_iff {t : Th} : smQ mpB rstM 20 5 0 [t] = true ↔ ∃ r : List MP, t = thMR r ∧ okMs r ∧ sizeMs r ≤ 20 ∧ deepMs r ≤ 4 := by
  constructor
  · intro h
    obtain ⟨ls, e, hok, hs, hd⟩ := mrows_of 5 0 [t] h
    match ls, e, hok, hs, hd with
    | [r], e, hok, hs, hd =>
      have hs' : 0 + (sizeMs r + 0) ≤ 20 := hs
      have hd' : max (deepMs r) 0 < 5 := hd
      exact ⟨r, (List.cons.inj e).1, hok r List.mem_cons_self, by omega, by omega⟩
    | [], e, _, _, _ => cases e
    | _ :: _ :: _, e, _, _, _ => cases (List.cons.inj e).2
  · rintro ⟨r, rfl, hok, hs, hd⟩
    exact msmall_of 5 0 [r] (fun q hq => by rw [List.mem_singleton.mp hq]; exact hok) (by show 0 + (sizeMs r + 0) ≤ 20; omega) (by show max (deepMs r) 0 < 5; omega)
/-- all parts, level by level -/
def allM : Nat → List (List MP) → List MP
  | 0, _ => []
  | n + 1, ls => if flM ls = [] then [] else flM ls ++ allM n (nxM ls)
theorem allQ_rows : ∀ (n : Nat) (ls : List (List MP)), allQ rstM n (ls.map thMR) = (allM n ls).map thM
  | 0, ls => rfl
  | n + 1, ls => by
    unfold allQ allM
    rw [mflat_rows]
    by_cases e : flM ls = []
    · rw [e]; rfl
    · rw [if_neg e, if_neg (fun z => e (List.map_eq_nil_iff.mp z)), mrests_rows, allQ_rows n (nxM ls), List.map_append]
theorem allM_gets : ∀ (n : Nat) (ls : List (List MP)), deepMl ls < n → getsM (allM n ls) = bdMl ls
  | 0, ls, h => absurd h (Nat.not_lt_zero _)
  | n + 1, ls, h => by
    have b := bdMl_rests ls
    have d := deepMl_rests ls
    unfold allM
    by_cases e : flM ls = []
    · rw [if_pos e]
      have e2 : nxM ls = [] := by unfold nxM; rw [e]; rfl
      rw [e, e2] at b
      exact b.symm
    · rw [if_neg e, getsM_app]
      have dp := deepMl_pos ls e
      rw [allM_gets n (nxM ls) (by omega)]
      exact b.symm
theorem allM_len : ∀ (n : Nat) (ls : List (List MP)), deepMl ls < n → (allM n ls).length = sizeMl ls
  | 0, ls, h => absurd h (Nat.not_lt_zero _)
  | n + 1, ls, h => by
    have b := sizeMl_rests ls
    have d := deepMl_rests ls
    unfold allM
    by_cases e : flM ls = []
    · rw [if_pos e]
      have e2 : nxM ls = [] := by unfold nxM; rw [e]; rfl
      rw [e, e2] at b
      exact b.symm
    · rw [if_neg e, List.length_append]
      have dp := deepMl_pos ls e
      rw [allM_len n (nxM ls) (by omega)]
      exact b.symm
/-- a row that is mail -/
structure MailR (r : List MP) : Prop where
  ok : okMs r
  size : sizeMs r ≤ 20
  deep : deepMs r ≤ 4
  gets : (bdMs r).length ≤ 10
  nd : (bdMs r).Nodup
  apart : ∀ x ∈ bdMs r, x ∉ frMs [] r
mutual
theorem thM_inj : ∀ (p q : MP), thM p = thM q → p = q
  | .send n m, .send n' m', h => by
    have := Th.tup.inj h
    have h1 := (List.cons.inj (List.cons.inj this).2).1
    have h2 := (List.cons.inj (List.cons.inj (List.cons.inj this).2).2).1
    rw [Th.str.inj h1, Th.str.inj h2]
  | .get n x r, .get n' x' r', h => by
    have := Th.tup.inj h
    have h1 := (List.cons.inj (List.cons.inj this).2).1
    have h2 := (List.cons.inj (List.cons.inj (List.cons.inj this).2).2).1
    have h3 := (List.cons.inj (List.cons.inj (List.cons.inj (List.cons.inj this).2).2).2).1
    rw [Th.str.inj h1, Th.str.inj h2, thMs_inj r r' (Th.tup.inj h3)]
  | .send n m, .get n' x' r', h => by
    have h0 := Th.str.inj (List.cons.inj (Th.tup.inj h)).1
    exact absurd h0 (by decide +kernel)
  | .get n x r, .send n' m', h => by
    have h0 := Th.str.inj (List.cons.inj (Th.tup.inj h)).1
    exact absurd h0 (by decide +kernel)
theorem thMs_inj : ∀ (r q : List MP), thMs r = thMs q → r = q
  | [], [], _ => rfl
  | p :: r, q :: t, h => by
    have h' : thM p :: thMs r = thM q :: thMs t := h
    rw [thM_inj p q (List.cons.inj h').1, thMs_inj r t (List.cons.inj h').2]
  | [], q :: t, h => by cases h
  | p :: r, [], h => by cases h
end
theorem thMR_inj {r q : List MP} (h : thMR r = thMR q) : r = q := thMs_inj r q (Th.tup.inj h)
theorem thMs_len (r : List MP) : (thMs r).length = r.length := by rw [thMs_map, List.length_map]
mutual
theorem okT_M : ∀ p : MP, okM p → sizeM p ≤ 1000 → okT (thM p)
  | .send n m, h, hs => by
    have l1 := mn_len h.1
    have l2 := mn_len h.2
    exact ⟨(show 3 ≤ 1000 by decide), (show ("send" : Str).length ≤ 1000 by decide +kernel), (show n.length ≤ 1000 by omega), (show m.length ≤ 1000 by omega), trivial⟩
  | .get n x r, h, hs => by
    have l1 := mn_len h.1
    have l2 := mn_len h.2.1
    unfold sizeM at hs
    have l := len_sizeMs r
    exact ⟨(show 4 ≤ 1000 by decide), (show ("get" : Str).length ≤ 1000 by decide +kernel), (show n.length ≤ 1000 by omega), (show x.length ≤ 1000 by omega), ⟨by rw [thMs_len]; omega, okT_Ms r h.2.2 (by omega)⟩, trivial⟩
theorem okT_Ms : ∀ r : List MP, okMs r → sizeMs r ≤ 1000 → okTs (thMs r)
  | [], _, _ => trivial
  | p :: r, h, hs => by
    unfold sizeMs at hs
    exact ⟨okT_M p h.1 (by omega), okT_Ms r h.2 (by omega)⟩
end
theorem okT_mail {r : List MP} (h : okMs r) (hs : sizeMs r ≤ 1000) : okT (thMR r) := by
  have l := len_sizeMs r
  exact ⟨by rw [thMs_len]; omega, okT_Ms r h hs⟩
theorem okT.rstM {t : Th} (h : okT t) (g : mpB t = true) : okT (rstM t) := by
  rcases mp_cases g with ⟨n, m, rfl, _, _⟩ | ⟨n, x, y, rfl, _, _⟩
  · have q : Wk.rstM (Th.tup [.str "send", .str n, .str m]) = .tup [] := by
      show (if ("send" : Str) = "get" then (([.str n, .str m] : List Th)[2]?).getD .non else Th.tup []) = _
      rw [if_neg (by decide +kernel)]
    rw [q]
    exact ⟨Nat.zero_le _, trivial⟩
  · have q : Wk.rstM (Th.tup [.str "get", .str n, .str x, y]) = y := by
      show (if ("get" : Str) = "get" then _ else Th.tup []) = _
      rw [if_pos rfl]
      rfl
    rw [q]
    exact h.2.2.2.2.1
end Wk

set_option Elab.async false
set_option linter.all false
set_option maxRecDepth 100000
set_option maxHeartbeats 4000000
/-! Mail: promises. -/
namespace Wk
open PySem PySem.Spec PyProof.Rows L2 GxR
def mnV : V → Bool
  | .str z => mnB z
  | _ => false
theorem ThAt.mthing {H : Hp} {t : Th} {v : V} (h : ThAt H t v) (ok : okT t) : Thing H v ∧ mnV v = mnT t := by
  refine ⟨(h.thing ok).1, ?_⟩
  cases t with
  | str z => cases h; rfl
  | non => cases h; rfl
  | int i => cases h; rfl
  | bl b => cases h; rfl
  | lst xs =>
    obtain ⟨a, vs, rfl, e, _⟩ := h
    rfl
  | tup xs =>
    obtain ⟨a, vs, rfl, e, _⟩ := h
    rfl
  | dct =>
    obtain ⟨a, rfl, e⟩ := h
    rfl
theorem mword_pos {z s : Str} (h : wordB z s = true) : ∃ c r, z.cps.toList = c :: r := by
  unfold wordB at h
  rw [Bool.and_eq_true] at h
  have h1 := of_decide_eq_true h.1
  cases e : z.cps.toList with
  | nil =>
    have : z.length = z.cps.toList.length := (Array.length_toList).symm
    rw [e, List.length_nil] at this
    omega
  | cons c r => exact ⟨c, r, rfl⟩
theorem msign_eq {c d : Nat} {z : Str} (hz : z = ⟨#[d]⟩) : decide (V.str ⟨#[c]⟩ = V.str z) = decide (c = d) := by
  subst hz
  by_cases h : c = d
  · rw [h, decide_eq_true rfl, decide_eq_true rfl]
  · rw [decide_eq_false h, decide_eq_false (fun g => h (by
      have := congrArg (fun s : Str => s.cps.toList) (V.str.inj g)
      simpa using this))]
def msV (z : Str) : V := match msOf z with
  | some n => .int (n : Nat)
  | none => .non
def MSizesG (K : PySem.W.Frag) (w : World) (d : Addr) : Prop := KGot K w d ∧ ∀ z : Str, ∃ (r : Option Value), PySem.W.nsIn K d z = some r ∧ RelV (msV z) (r.getD .none)
theorem msV_eq (z : Str) (n : Nat) : decide (msV z = V.int (n : Nat)) = decide (msOf z = some n) := by
  unfold msV
  cases e : msOf z with
  | none =>
    rw [decide_eq_false (by intro h; cases h), decide_eq_false (by intro h; cases h)]
  | some k =>
    by_cases c : k = n
    · rw [c, decide_eq_true rfl, decide_eq_true rfl]
    · rw [decide_eq_false (by intro h; exact c (by have := V.int.inj h; omega)), decide_eq_false (by intro h; exact c (Option.some.inj h))]
theorem msV_scal (z : Str) (n : Int) : scal (msV z) (.int n) = true := by
  unfold msV
  cases msOf z <;> rfl
theorem mp_word {t : Th} (h : wordT t = false) : mpB t = false := by
  cases t with
  | tup xs =>
    cases xs with
    | nil => rfl
    | cons x r => cases x <;> first | rfl | cases h
  | _ => rfl
mutual
theorem thM_tup {H H' : Hp} (s : STup H H') : ∀ (p : MP) (v : V), ThAt H (thM p) v → ThAt H' (thM p) v
  | .send n m, v, h => by
    obtain ⟨a, vs, e, h1, h2⟩ := h
    exact ⟨a, vs, e, s _ _ h1, h2⟩
  | .get n x r, v, h => by
    obtain ⟨a, vs, e, h1, u1, w1, e1, g1, u2, w2, e2, g2, u3, w3, e3, g3, u4, w4, e4, ⟨b, xs, eb, hb, hx⟩, g5⟩ := h
    exact ⟨a, vs, e, s _ _ h1, u1, w1, e1, g1, u2, w2, e2, g2, u3, w3, e3, g3, u4, w4, e4, ⟨b, xs, eb, s _ _ hb, thMs_tup s r xs hx⟩, g5⟩
theorem thMs_tup {H H' : Hp} (s : STup H H') : ∀ (r : List MP) (vs : List V), ThsAt H (thMs r) vs → ThsAt H' (thMs r) vs
  | [], vs, h => h
  | p :: r, vs, h => by
    obtain ⟨v, us, e, h1, h2⟩ := h
    exact ⟨v, us, e, thM_tup s p v h1, thMs_tup s r us h2⟩
end
theorem thMR_tup {H H' : Hp} (s : STup H H') {r : List MP} {v : V} (h : ThAt H (thMR r) v) : ThAt H' (thMR r) v := by
  obtain ⟨a, vs, e, h1, h2⟩ := h
  exact ⟨a, vs, e, s _ _ h1, thMs_tup s r vs h2⟩
theorem thMs_get {H : Hp} {r : List MP} {vs : List V} (h : ThsAt H (thMs r) vs) {i : Nat} {v : V} (e : vs[i]? = some v) : ∃ p, r[i]? = some p ∧ ThAt H (thM p) v := by
  obtain ⟨t, ht, hv⟩ := ThsAt.get h e
  rw [thMs_map, List.getElem?_map] at ht
  cases ep : r[i]? with
  | none => rw [ep] at ht; cases ht
  | some p =>
    rw [ep] at ht
    cases ht
    exact ⟨p, rfl, hv⟩
theorem deepMs.mem : ∀ {r : List MP} (p : MP), p ∈ r → deepM p ≤ deepMs r
  | q :: r, p, h => by
    show deepM p ≤ max (deepM q) (deepMs r)
    rcases List.mem_cons.mp h with e | e
    · rw [e]; omega
    · have := deepMs.mem p e
      omega
theorem sizeMs_app : ∀ r q : List MP, sizeMs (r ++ q) = sizeMs r + sizeMs q
  | [], q => by show sizeMs q = 0 + sizeMs q; omega
  | p :: r, q => by
    have := sizeMs_app r q
    show sizeM p + sizeMs (r ++ q) = sizeM p + sizeMs r + sizeMs q
    omega
theorem sizeMs_take (r : List MP) (i : Nat) : sizeMs (r.take i) ≤ sizeMs r := by
  have e := sizeMs_app (r.take i) (r.drop i)
  rw [List.take_append_drop] at e
  omega
theorem bdMs_app : ∀ r q : List MP, bdMs (r ++ q) = bdMs r ++ bdMs q
  | [], q => rfl
  | p :: r, q => by
    show bdM p ++ bdMs (r ++ q) = (bdM p ++ bdMs r) ++ bdMs q
    rw [bdMs_app r q, List.append_assoc]
theorem frMs_app (S : List Str) : ∀ r q : List MP, frMs S (r ++ q) = frMs S r ++ frMs S q
  | [], q => rfl
  | p :: r, q => by
    show frM S p ++ frMs S (r ++ q) = (frM S p ++ frMs S r) ++ frMs S q
    rw [frMs_app S r q, List.append_assoc]
def spGatherM (n : Nat) : Sp := fun vs H Q _ => ∃ (v : V) (r : List MP) (aS F B : Addr) (S fs bs : List Str), vs = [v, .ref aS, .ref F, .ref B] ∧ ThAt H (thMR r) v ∧ H aS = some (.tup (S.map V.str)) ∧ H F = some (.lst (fs.map V.str)) ∧ H B = some (.lst (bs.map V.str)) ∧ F ≠ B ∧
  deepMs r < n ∧ 2 * sizeMs r + fs.length ≤ 1000 ∧ sizeMs r + bs.length ≤ 1000 ∧ S.length + deepMs r ≤ 1000 ∧
  ∀ H', Sam2 F B H H' → H' F = some (.lst ((fs ++ frMs S r).map V.str)) → H' B = some (.lst ((bs ++ bdMs r).map V.str)) → Q .non H'
def spCallingsM (n : Nat) : Sp := fun vs H Q _ => ∃ (v : V) (r : List MP), vs = [v] ∧ ThAt H (thMR r) v ∧ deepMs r < n ∧ sizeMs r ≤ 500 ∧ deepMs r ≤ 1000 ∧
  ∀ (H' : Hp) (t F B : Addr), Same H H' → H F = none → H B = none → F ≠ B → H' t = some (.tup [.ref F, .ref B]) → H' F = some (.lst ((frMs [] r).map V.str)) → H' B = some (.lst ((bdMs r).map V.str)) → Q (.ref t) H'
def spMail (Ts : List Addr) : Sp := fun vs H Q _ => ∃ (v : V) (t : Th), vs = [v] ∧ ThAt H t v ∧ okT t ∧ TabsG Ts H ∧ ∀ (H' : Hp) (b : Bool), SamTs Ts H H' → (b = true ↔ ∃ r, t = thMR r ∧ MailR r) → Q (.bl b) H'
end Wk

set_option Elab.async false
set_option linter.all false
set_option maxRecDepth 100000
set_option maxHeartbeats 4000000
/-! A tuple's items among written ones: ( *t, x). -/
namespace Wk
open PySem PySem.Spec PyProof.Rows L2 GxR
def tStar (K : PySem.W.Frag) (te : TE) (t : TA) : TA := fun σ H Q => te σ H fun x H1 => ∃ a xs, x = .ref a ∧ SqT K H1 a xs ∧ t σ H1 fun ys H2 => Q (xs ++ ys) H2
section
variable {X : Cx} {e : Expr} {es : List Expr} {te : TE} {t : TA} {p : Pos}
theorem pa_star (ha : PE X e te) (hr : PA X es t) (hs : starEach (.Starred e p :: es) X.env = (true, eval e X.env) :: starEach es X.env := by rfl) : PA X (.Starred e p :: es) (tStar X.K te t) := by
  refine ⟨fun pos pins s σ H Q I h => ?_⟩
  rw [hs]
  show wpAny _ _ (spliced ((true, (do let v ← eval e X.env; standAt pos; pure v)) :: backTo pos (starEach es X.env))) _ _ s
  refine PySem.W.ks_spliced (thn (ha.run pins s σ H _ I h) fun u s1 ⟨x, H1, I1, r1, a, xs, ex, hq, q1⟩ => ?_)
  subst ex
  obtain rfl : u = Value.ref a := r1
  refine star_tup I1 hq fun us s2 I2 rv => ?_
  exact thn (hr.run pos pins s2 σ H1 _ I2 q1) fun vs s3 ⟨ys, H2, I3, r2, q2⟩ => ⟨xs ++ ys, H2, I3, rv.append r2, q2⟩
end
end Wk
namespace Wk
open PySem PySem.Spec PyProof.Rows L2 GxR
/-- the names that a part uses -/
def usedM : MP → List Str
  | .send n m => [n, m]
  | .get n _ _ => [n]
theorem frM_used (S : List Str) (p : MP) : frM S p = fltM S (usedM p) ++ (match p with | .send _ _ => [] | .get _ x r => frMs (S ++ [x]) r) := by
  cases p with
  | send n m => exact (List.append_nil _).symm
  | get n x r => rfl
theorem used_len (p : MP) : (usedM p).length ≤ 2 := by
  cases p with
  | send _ _ => exact Nat.le_refl 2
  | get _ _ _ => exact Nat.le_succ 1
theorem fltM_take (S : List Str) {us : List Str} {j : Nat} {x : Str} (h : us[j]? = some x) : fltM S (us.take (j + 1)) = fltM S (us.take j) ++ (if x ∈ S then [] else [x]) := by
  unfold fltM
  rw [List.take_add_one, h, List.filter_append]
  by_cases c : x ∈ S
  · rw [if_pos c]
    simp [c]
  · rw [if_neg c]
    simp [c]
end Wk
namespace Wk
open PySem PySem.Spec PyProof.Rows L2 GxR
def spMNames (n : Nat) : Sp := fun vs H Q _ => ∃ (v : V) (r : List MP), vs = [v] ∧ ThAt H (thMR r) v ∧ deepMs r < n ∧ sizeMs r ≤ 20 ∧ deepMs r ≤ 1000 ∧
  ∀ (H' : Hp) (p : Addr) (ys : List Str), Same H H' → H p = none → ys.Nodup → (∀ x, x ∈ ys ↔ x ∈ frMs [] r) → sortedS ys = true → H' p = some (.lst (ys.map V.str)) → Q (.ref p) H'
theorem getsM_take {r : List MP} {j : Nat} {p : MP} (h : r[j]? = some p) : getsM (r.take (j + 1)) = getsM (r.take j) + (if isGetM p = true then 1 else 0) := by
  rw [List.take_add_one, h, getsM_app]
  cases p <;> rfl
end Wk

set_option Elab.async false
set_option linter.all false
set_option maxRecDepth 100000
set_option maxHeartbeats 2000000
namespace K52
open PySem PySem.Spec PyProof.Rows L2 Wk GxR
def topS (i : Nat) : Stmt := PySem.Challenge.pw_walkrooms_k52_kinds_one_by_one.main.body.getD i (.Pass ⟨0, 0, 0, 0⟩)
end K52

set_option Elab.async false
set_option linter.all false
set_option maxRecDepth 100000
set_option maxHeartbeats 1000000
/-! Uses in the heap; what is left to be gone through. -/
namespace Wk
open PySem PySem.Spec PyProof.Rows L2 GxR
def EnsU (H : Hp) : List Use3 → List V → Prop
  | [], xs => xs = []
  | u :: us, xs => ∃ b ys, xs = .ref b :: ys ∧ H b = some (.tup [.str u.1, .str u.2.1, .str u.2.2]) ∧ EnsU H us ys
theorem EnsU.tup {H H' : Hp} (s : STup H H') : ∀ {us : List Use3} {xs : List V}, EnsU H us xs → EnsU H' us xs
  | [], _, h => h
  | _ :: _, _, ⟨b, ys, e, h1, h2⟩ => ⟨b, ys, e, s _ _ h1, EnsU.tup s h2⟩
theorem EnsU.len {H : Hp} : ∀ {us : List Use3} {xs : List V}, EnsU H us xs → xs.length = us.length
  | [], _, h => by rw [show _ = [] from h]; rfl
  | _ :: _, _, ⟨b, ys, e, h1, h2⟩ => by rw [e, List.length_cons, List.length_cons, EnsU.len h2]
theorem EnsU.get {H : Hp} : ∀ {us : List Use3} {xs : List V} {i : Nat} {v : V}, EnsU H us xs → xs[i]? = some v → ∃ u b, us[i]? = some u ∧ v = .ref b ∧ H b = some (.tup [.str u.1, .str u.2.1, .str u.2.2])
  | [], _, i, v, h, e => by rw [show _ = [] from h] at e; cases e
  | u :: us, _, i, v, ⟨b, ys, ex, h1, h2⟩, e => by
    subst ex
    cases i with
    | zero => cases e; exact ⟨u, b, rfl, rfl, h1⟩
    | succ i => exact EnsU.get (us := us) h2 e
theorem EnsU.snoc {H : Hp} {u : Use3} {b : Addr} (hb : H b = some (.tup [.str u.1, .str u.2.1, .str u.2.2])) : ∀ {us : List Use3} {xs : List V}, EnsU H us xs → EnsU H (us ++ [u]) (xs ++ [.ref b])
  | [], _, h => by rw [show _ = [] from h]; exact ⟨b, [], rfl, hb, rfl⟩
  | _ :: _, _, ⟨c, ys, e, h1, h2⟩ => by subst e; exact ⟨c, ys ++ [.ref b], rfl, h1, EnsU.snoc hb h2⟩
abbrev PlR := Str × List Part
def PlsAt (H : Hp) : List PlR → List V → Prop
  | [], xs => xs = []
  | u :: us, xs => ∃ b v ys, xs = .ref b :: ys ∧ H b = some (.tup [.str u.1, v]) ∧ RowAt H u.2 v ∧ PlsAt H us ys
theorem PlsAt.tup {H H' : Hp} (s : STup H H') : ∀ {us : List PlR} {xs : List V}, PlsAt H us xs → PlsAt H' us xs
  | [], _, h => h
  | _ :: _, _, ⟨b, v, ys, e, h1, h2, h3⟩ => ⟨b, v, ys, e, s _ _ h1, h2.mono s, PlsAt.tup s h3⟩
theorem PlsAt.len {H : Hp} : ∀ {us : List PlR} {xs : List V}, PlsAt H us xs → xs.length = us.length
  | [], _, h => by rw [show _ = [] from h]; rfl
  | _ :: _, _, ⟨b, v, ys, e, h1, h2, h3⟩ => by rw [e, List.length_cons, List.length_cons, PlsAt.len h3]
theorem PlsAt.snoc {H : Hp} {u : PlR} {b : Addr} {v : V} (hb : H b = some (.tup [.str u.1, v])) (hr : RowAt H u.2 v) : ∀ {us : List PlR} {xs : List V}, PlsAt H us xs → PlsAt H (us ++ [u]) (xs ++ [.ref b])
  | [], _, h => by rw [show _ = [] from h]; exact ⟨b, v, [], rfl, hb, hr, rfl⟩
  | _ :: _, _, ⟨c, v', ys, e, h1, h2, h3⟩ => by subst e; exact ⟨c, v', ys ++ [.ref b], rfl, h1, h2, PlsAt.snoc hb hr h3⟩
/-- the last one -/
theorem PlsAt.last {H : Hp} {u : PlR} : ∀ {us : List PlR} {xs : List V}, PlsAt H (us ++ [u]) xs → ∃ ys b v, xs = ys ++ [.ref b] ∧ H b = some (.tup [.str u.1, v]) ∧ RowAt H u.2 v ∧ PlsAt H us ys
  | [], _, ⟨b, v, ys, e, h1, h2, h3⟩ => ⟨[], b, v, by rw [e, show ys = [] from h3]; rfl, h1, h2, rfl⟩
  | a :: us, _, ⟨b, v, ys, e, h1, h2, h3⟩ => by
    obtain ⟨zs, c, t, ez, g1, g2, g3⟩ := PlsAt.last h3
    exact ⟨.ref b :: zs, c, t, by rw [e, ez]; rfl, g1, g2, b, v, zs, rfl, h1, h2, g3⟩
/-- how much is left -/
def leftN : List PlR → Nat
  | [] => 0
  | q :: r => 1 + sizeR q.2 + leftN r
theorem leftN_app : ∀ a b : List PlR, leftN (a ++ b) = leftN a + leftN b
  | [], b => by show leftN b = 0 + leftN b; omega
  | q :: r, b => by show 1 + sizeR q.2 + leftN (r ++ b) = 1 + sizeR q.2 + leftN r + leftN b; rw [leftN_app r b]; omega
theorem leftN_len : ∀ a : List PlR, a.length ≤ leftN a
  | [] => Nat.le_refl 0
  | q :: r => by have := leftN_len r; show r.length + 1 ≤ 1 + sizeR q.2 + leftN r; omega
def leftS : List PlR → Nat
  | [] => 0
  | q :: r => sizeR q.2 + leftS r
theorem leftS_app : ∀ a b : List PlR, leftS (a ++ b) = leftS a + leftS b
  | [], b => by show leftS b = 0 + leftS b; omega
  | q :: r, b => by show sizeR q.2 + leftS (r ++ b) = sizeR q.2 + leftS r + leftS b; rw [leftS_app r b]; omega
def leftU (td : List PlR) (u : Use3) : Prop := ∃ q ∈ td, u ∈ usesR q.1 q.2
theorem leftU_app {a b : List PlR} {u : Use3} : leftU (a ++ b) u ↔ leftU a u ∨ leftU b u := by
  constructor
  · rintro ⟨q, hq, h⟩
    rcases List.mem_append.mp hq with g | g
    · exact .inl ⟨q, g, h⟩
    · exact .inr ⟨q, g, h⟩
  · rintro (⟨q, hq, h⟩ | ⟨q, hq, h⟩)
    · exact ⟨q, List.mem_append_left _ hq, h⟩
    · exact ⟨q, List.mem_append_right _ hq, h⟩
theorem leftU_one {q : PlR} {u : Use3} : leftU [q] u ↔ u ∈ usesR q.1 q.2 :=
  ⟨fun ⟨p, hp, h⟩ => by rw [List.mem_singleton.mp hp] at h; exact h, fun h => ⟨q, List.mem_singleton.mpr rfl, h⟩⟩
theorem size_own (pl : Str) (p : Part) : 1 + sizeR (restP p) ≤ sizeP p := by
  have := size_rest p
  omega
theorem ownU_len (pl : Str) (p : Part) : (ownU pl p).length ≤ 1 := by
  cases p with
  | say n => exact Nat.le_refl 1
  | again r => exact Nat.zero_le 1
  | oth w n r => cases w <;> first | exact Nat.le_refl 1 | exact Nat.zero_le 1
theorem usesR_take (pl : Str) {r : List Part} {i : Nat} {p : Part} (h : r[i]? = some p) : usesR pl (r.take (i + 1)) = usesR pl (r.take i) ++ usesP pl p := by
  rw [List.take_add_one, h, usesR_app]
  show _ ++ (usesP pl p ++ []) = _
  rw [List.append_nil]
def useW : List V := [.str "in", .str "out", .str "open", .str "say", .str "hear"]
def isUse (p : Part) : Bool := match p with
  | .say _ => true
  | .again _ => false
  | .oth w _ _ => match w with
    | .room => false
    | .new => false
    | _ => true
theorem inV_use : ∀ p : Part, inV (.str (wordP p)) useW = isUse p
  | .say _ => (by decide +kernel : inV (.str "say") useW = true)
  | .again _ => (by decide +kernel : inV (.str "again") useW = false)
  | .oth .room _ _ => (by decide +kernel : inV (.str "room") useW = false)
  | .oth .inn _ _ => (by decide +kernel : inV (.str "in") useW = true)
  | .oth .out _ _ => (by decide +kernel : inV (.str "out") useW = true)
  | .oth .opn _ _ => (by decide +kernel : inV (.str "open") useW = true)
  | .oth .hear _ _ => (by decide +kernel : inV (.str "hear") useW = true)
  | .oth .new _ _ => (by decide +kernel : inV (.str "new") useW = false)
theorem ownU_use {pl : Str} {p : Part} (h : isUse p = true) : ∃ n, callP p = .str n ∧ ownU pl p = [(pl, wordP p, n)] := by
  cases p with
  | say n => exact ⟨n, rfl, rfl⟩
  | again r => cases h
  | oth w n r => cases w <;> first | exact ⟨n, rfl, rfl⟩ | cases h
theorem ownU_not {pl : Str} {p : Part} (h : isUse p = false) : ownU pl p = [] := by
  cases p with
  | say n => cases h
  | again r => rfl
  | oth w n r => cases w <;> first | rfl | cases h
/-- where a part's rest lies -/
theorem inPl_room (pl : Str) : ∀ p : Part, (decide (V.str (wordP p) = V.str "room") = true ∧ callP p = .str (inPl pl p)) ∨ (decide (V.str (wordP p) = V.str "room") = false ∧ inPl pl p = pl)
  | .say _ => .inr ⟨(by decide +kernel : decide (V.str "say" = V.str "room") = false), rfl⟩
  | .again _ => .inr ⟨(by decide +kernel : decide (V.str "again" = V.str "room") = false), rfl⟩
  | .oth .room _ _ => .inl ⟨(by decide +kernel : decide (V.str "room" = V.str "room") = true), rfl⟩
  | .oth .inn _ _ => .inr ⟨(by decide +kernel : decide (V.str "in" = V.str "room") = false), rfl⟩
  | .oth .out _ _ => .inr ⟨(by decide +kernel : decide (V.str "out" = V.str "room") = false), rfl⟩
  | .oth .opn _ _ => .inr ⟨(by decide +kernel : decide (V.str "open" = V.str "room") = false), rfl⟩
  | .oth .hear _ _ => .inr ⟨(by decide +kernel : decide (V.str "hear" = V.str "room") = false), rfl⟩
  | .oth .new _ _ => .inr ⟨(by decide +kernel : decide (V.str "new" = V.str "room") = false), rfl⟩
def spUsesIn : Sp := fun vs H Q _ => ∃ (v : V) (r : List Part), vs = [v] ∧ RowAt H r v ∧ sizeR r ≤ 900 ∧
  ∀ (H' : Hp) (p : Addr) (us : List Use3) (xs : List V), Same H H' → H p = none → H' p = some (.lst xs) → EnsU H' us xs → us.length ≤ 900 → (∀ u, u ∈ us ↔ u ∈ usesR "." r) → Q (.ref p) H'
end Wk

set_option Elab.async false
set_option linter.all false
set_option maxRecDepth 100000
set_option maxHeartbeats 1000000
/-! The object that keeps groups. -/
namespace Wk
open PySem PySem.Spec PyProof.Rows L2 GxR
def gf1 (D : Addr) : List (Str × V) := putF "group_by_name" (.ref D) []
def gf2 (D S : Addr) : List (Str × V) := putF "said" (.ref S) (gf1 D)
def gfl (D S : Addr) (n : Int) : List (Str × V) := putF "changes" (.int n) (gf2 D S)
theorem k_gs : ¬ (("group_by_name" : Str) = "said") := by decide +kernel
theorem k_gc : ¬ (("group_by_name" : Str) = "changes") := by decide +kernel
theorem k_sc : ¬ (("said" : Str) = "changes") := by decide +kernel
theorem gf2_eq (D S : Addr) : gf2 D S = ([("group_by_name", V.ref D), ("said", V.ref S)] : List (Str × V)) := by
  show (if ("group_by_name" : Str) = "said" then [(("group_by_name" : Str), V.ref S)] else (("group_by_name" : Str), V.ref D) :: putF "said" (.ref S) []) = _
  rw [if_neg k_gs]; rfl
theorem gfl_eq (D S : Addr) (n : Int) : gfl D S n = ([("group_by_name", V.ref D), ("said", V.ref S), ("changes", V.int n)] : List (Str × V)) := by
  unfold gfl
  rw [gf2_eq]
  show (if ("group_by_name" : Str) = "changes" then [(("group_by_name" : Str), V.int n), (("said" : Str), V.ref S)] else (("group_by_name" : Str), V.ref D) :: (if ("said" : Str) = "changes" then [(("said" : Str), V.int n)] else (("said" : Str), V.ref S) :: putF "changes" (.int n) [])) = _
  rw [if_neg k_gc, if_neg k_sc]; rfl
theorem gfl_put (D S : Addr) (n m : Int) : putF "changes" (.int m) (gfl D S n) = gfl D S m := by
  rw [gfl_eq, gfl_eq]
  show (if ("group_by_name" : Str) = "changes" then [(("group_by_name" : Str), V.int m), (("said" : Str), V.ref S), (("changes" : Str), V.int n)] else (("group_by_name" : Str), V.ref D) :: (if ("said" : Str) = "changes" then [(("said" : Str), V.int m), (("changes" : Str), V.int n)] else (("said" : Str), V.ref S) :: (if ("changes" : Str) = "changes" then [(("changes" : Str), V.int m)] else (("changes" : Str), V.int n) :: putF "changes" (.int m) []))) = _
  rw [if_neg k_gc, if_neg k_sc, if_pos rfl]
theorem gfl_g (D S : Addr) (n : Int) : (gfl D S n).lookup ("group_by_name" : Str) = some (.ref D) := by
  unfold gfl gf2 gf1
  rw [lookup_putF, if_neg k_gc, lookup_putF, if_neg k_gs, lookup_putF, if_pos rfl]
theorem gfl_s (D S : Addr) (n : Int) : (gfl D S n).lookup ("said" : Str) = some (.ref S) := by
  unfold gfl gf2
  rw [lookup_putF, if_neg k_sc, lookup_putF, if_pos rfl]
theorem gfl_c (D S : Addr) (n : Int) : (gfl D S n).lookup ("changes" : Str) = some (.int n) := by
  unfold gfl
  rw [lookup_putF, if_pos rfl]
theorem gfl_no (D S : Addr) (n : Int) {m : Str} (h1 : ¬ m = "group_by_name") (h2 : ¬ m = "said") (h3 : ¬ m = "changes") : (gfl D S n).lookup m = none := by
  unfold gfl gf2 gf1
  rw [lookup_putF, if_neg h3, lookup_putF, if_neg h2, lookup_putF, if_neg h1]
  rfl
theorem gfl_len (D S : Addr) (n : Int) : (gfl D S n).length < 1000 := by
  rw [gfl_eq]; show 3 < 1000; decide
/-- groups at p: its names at D, what they say at S -/
structure GpAt (C : Addr) (H : Hp) (p D S : Addr) (n : Nat) (pls : List Str) (G : Str → Str) (sl : List (Str × Str)) : Prop where
  ob : ∃ dx, H p = some (.ins C dx (gfl D S n))
  gd : H D = some (.dK (kvG G pls))
  sd : H S = some (.dK (kvS sl))
  ne : D ≠ S
structure GpC (K : PySem.W.Frag) (C : Addr) : Prop where
  cl : Cls K C
  nG : NoAttr K C "group_by_name"
  nS : NoAttr K C "said"
  nC : NoAttr K C "changes"
def KpG (p D S : Addr) (H H' : Hp) : Prop := ∀ b o, b ≠ p → b ≠ D → b ≠ S → H b = some o → H' b = some o
def SlOk (pls : List Str) (sl : List (Str × Str)) : Prop := (sl.map (·.1)).Nodup ∧ ∀ q ∈ sl, q.1 ∈ pls
theorem SlOk.len {pls : List Str} {sl : List (Str × Str)} (h : SlOk pls sl) : sl.length ≤ pls.length := by
  have := sub_len (sl.map (·.1)) pls h.1 fun x hx => by
    obtain ⟨q, hq, rfl⟩ := List.mem_map.mp hx
    exact h.2 q hq
  rw [List.length_map] at this
  exact this
def muG (G : Str → Str) (sl : List (Str × Str)) (pls : List Str) : Nat := gcnt G pls + (pls.length - sl.length)
def gsV (G : Str → Str) : Option Str → V
  | some m => .str (G m)
  | none => .non
/-- what was let say is so -/
def saidG (G : Str → Str) (sl : List (Str × Str)) (pl nm : Str) : Prop := ∃ m, sayL sl (G pl) = some m ∧ G m = G nm
section
variable {C p D S : Addr} {H H' : Hp} {n : Nat} {pls : List Str} {G : Str → Str} {sl : List (Str × Str)}
theorem GpAt.pne (g : GpAt C H p D S n pls G sl) : p ≠ D ∧ p ≠ S := by
  obtain ⟨dx, h⟩ := g.ob
  exact ⟨ne_of h g.gd (by intro z; cases z), ne_of h g.sd (by intro z; cases z)⟩
theorem GpAt.same (g : GpAt C H p D S n pls G sl) (s : Same H H') : GpAt C H' p D S n pls G sl := by
  obtain ⟨dx, h⟩ := g.ob
  exact ⟨⟨dx, s _ _ h⟩, s _ _ g.gd, s _ _ g.sd, g.ne⟩
theorem KpG.refl : KpG p D S H H := fun _ _ _ _ _ e => e
theorem KpG.trans {H2 : Hp} (a : KpG p D S H H') (b : KpG p D S H' H2) : KpG p D S H H2 := fun c o n1 n2 n3 e => b c o n1 n2 n3 (a c o n1 n2 n3 e)
theorem KpG.same {H2 : Hp} (a : KpG p D S H H') (b : Same H' H2) : KpG p D S H H2 := fun c o n1 n2 n3 e => b c o (a c o n1 n2 n3 e)
theorem KpG.of (b : Same H H') : KpG p D S H H' := fun c o _ _ _ e => b c o e
theorem KpG.put {o : HO} (a : KpG p D S H H') {x : Addr} (h : x = p ∨ x = D ∨ x = S) : KpG p D S H (upd H' x o) := fun c u n1 n2 n3 e => by
  have : c ≠ x := by rcases h with z | z | z <;> rw [z] <;> assumption
  rw [upd_ne this]
  exact a c u n1 n2 n3 e
theorem dget_G (h : H D = some (.dK (kvG G pls))) {x : Str} (hx : x ∈ pls) : DGet H D (.str x) (some (.str (G x))) := by
  have := DGet.k (k := Sum.inr x) h
  rw [kvG_some hx] at this
  exact this
theorem dget_S (h : H S = some (.dK (kvS sl))) (g : Str) : DGet H S (.str g) ((sayL sl g).map V.str) := by
  have := DGet.k (k := Sum.inr g) h
  rw [kvS_val] at this
  exact this
theorem kvG_len : (kvG G pls).length = pls.length := by unfold kvG; rw [List.length_map]
theorem kvS_len : (kvS sl).length = sl.length := by unfold kvS; rw [List.length_map]
theorem kvS_put {g m : Str} (h : sayL sl g = none) : putK (kvS sl) (Sum.inr g) (.str m) = kvS (sl ++ [(g, m)]) := by
  rw [Wk.putK_new (by rw [kvS_val, h]; rfl)]
  unfold kvS
  rw [List.map_append]
  rfl
theorem SlOk.snoc {g m : Str} (h : SlOk pls sl) (hg : g ∈ pls) (no : sayL sl g = none) : SlOk pls (sl ++ [(g, m)]) := by
  refine ⟨?_, fun q hq => ?_⟩
  · rw [List.map_append]
    exact nd_snoc h.1 (sayL_none no)
  · rcases List.mem_append.mp hq with z | z
    · exact h.2 q z
    · rw [List.mem_singleton.mp z]; exact hg
end
theorem two_perm {a b : Str} {ys : List Str} (h : ys.Perm [a, b]) : ∃ x y, ys = [x, y] ∧ ((x = a ∧ y = b) ∨ (x = b ∧ y = a)) := by
  have hl := h.length_eq
  match ys, hl with
  | [x, y], _ =>
    refine ⟨x, y, rfl, ?_⟩
    have hx : x ∈ [a, b] := h.mem_iff.mp List.mem_cons_self
    rcases List.mem_cons.mp hx with rfl | hx
    · left
      have h2 := (List.perm_cons x).mp h
      exact ⟨rfl, List.singleton_perm_singleton.mp h2⟩
    · have e : x = b := List.mem_singleton.mp hx
      right
      subst e
      have h2 := h.trans (List.Perm.swap x a [])
      exact ⟨rfl, List.singleton_perm_singleton.mp ((List.perm_cons x).mp h2)⟩
theorem two_le {x y : Str} (h : sortedS [x, y] = true) : leS x y := by
  have := sorted_pw _ h
  exact (List.pairwise_cons.mp this).1 y List.mem_cons_self
theorem nodup_take {l : List Str} {i : Nat} {z : Str} (nd : l.Nodup) (h : l[i]? = some z) : z ∉ l.take i := fun hm => by
  have hi := (List.getElem?_eq_some_iff.mp h).1
  have e : l = l.take i ++ z :: l.drop (i + 1) := by
    have d : l.drop i = z :: l.drop (i + 1) := by
      rw [List.drop_eq_getElem_cons hi, (List.getElem?_eq_some_iff.mp h).2]
    rw [← d, List.take_append_drop]
  rw [e, List.nodup_append] at nd
  exact nd.2.2 _ hm _ List.mem_cons_self rfl
/-! ### promises -/
def spGSaid (C : Addr) : Sp := fun vs H Q _ => ∃ (p D S : Addr) (n : Nat) (pls : List Str) (G : Str → Str) (sl : List (Str × Str)) (g : Str), vs = [.ref p, .str g] ∧ GpAt C H p D S n pls G sl ∧ (∀ m, sayL sl g = some m → m ∈ pls) ∧ Q (gsV G (sayL sl g)) H
def spGPut (C : Addr) : Sp := fun vs H Q _ => ∃ (p D S : Addr) (n : Nat) (pls : List Str) (G : Str → Str) (sl : List (Str × Str)) (a b : Str), vs = [.ref p, .str a, .str b] ∧ GpAt C H p D S n pls G sl ∧ pls.Nodup ∧ pls.length < 64 ∧
  ∀ (H' : Hp) (x y : Str), ((x = a ∧ y = b) ∨ (x = b ∧ y = a)) → leS x y → KpG p D S H H' → GpAt C H' p D S (n + 1) pls (mrgG G x y) sl → Q .non H'
def spGLet (C : Addr) : Sp := fun vs H Q _ => ∃ (U : List Use3) (p D S : Addr) (n : Nat) (pls : List Str) (G : Str → Str) (sl : List (Str × Str)) (pl nm : Str), vs = [.ref p, .str pl, .str nm] ∧ GpAt C H p D S n pls G sl ∧ GrI U pls G (sayL sl) ∧ SlOk pls sl ∧ pl ∈ pls ∧ nm ∈ pls ∧ SyK U pl nm ∧ pls.Nodup ∧ pls.length < 64 ∧
  (saidG G sl pl nm → ∀ H', Same H H' → Q .non H') ∧
  ∀ (H' : Hp) (G' : Str → Str) (sl' : List (Str × Str)), ¬ saidG G sl pl nm → KpG p D S H H' → GpAt C H' p D S (n + 1) pls G' sl' → GrI U pls G' (sayL sl') → SlOk pls sl' → muG G' sl' pls < muG G sl pls → Q .non H'
def spGInit (C : Addr) : Sp := fun vs H Q _ => ∃ (p dx L : Addr) (pls : List Str), vs = [.ref p, .ref L] ∧ H p = some (.ins C dx []) ∧ H L = some (.lst (pls.map V.str)) ∧ pls.Nodup ∧ pls.length < 64 ∧
  ∀ (H' : Hp) (D S : Addr), (∀ b o, b ≠ p → H b = some o → H' b = some o) → H D = none → H S = none → GpAt C H' p D S 0 pls id [] → Q .non H'
def sayT : List V := [.str "say", .str "hear"]
theorem inV_say (w : Str) : inV (.str w) sayT = saysW w := by
  show (eqV (.str "say") (.str w) || (eqV (.str "hear") (.str w) || false)) = _
  unfold saysW
  rw [Bool.or_false]
  have e : ∀ a b : Str, eqV (.str a) (.str b) = decide (b = a) := fun a b => by
    show (a == b) = _
    rw [Bool.eq_iff_iff, beq_iff_eq, decide_eq_true_eq]
    exact ⟨Eq.symm, Eq.symm⟩
  rw [e, e]
def spGTold (C : Addr) : Sp := fun vs H Q _ => ∃ (L La : Addr) (pls : List Str) (us : List Use3) (xs : List V), vs = [.ref L, .ref La] ∧ H L = some (.lst (pls.map V.str)) ∧ pls.Nodup ∧ pls.length < 64 ∧ H La = some (.lst xs) ∧ EnsU H us xs ∧ (∀ u ∈ us, u.1 ∈ pls ∧ u.2.2 ∈ pls) ∧
  ∀ (H' : Hp) (p D S : Addr) (n : Nat) (G : Str → Str) (sl : List (Str × Str)), Same H H' → GpAt C H' p D S n pls G sl → SlOk pls sl → GrOk us pls G (sayL sl) → Q (.ref p) H'
end Wk

set_option Elab.async false
set_option linter.all false
set_option maxRecDepth 100000
set_option maxHeartbeats 1000000
namespace K52
open PySem PySem.Spec PyProof.Rows L2 Wk GxR
abbrev sGInit : Stmt := inClass (topS 17) 0
abbrev sGSaid : Stmt := inClass (topS 17) 1
abbrev sGLet : Stmt := inClass (topS 17) 2
abbrev sGPut : Stmt := inClass (topS 17) 3
abbrev nmGPut : List Str := ["self", "one", "other", "least", "last", "name"]
theorem scGInit : FnScope ["self", "places", "place"] ["self", "places"] (defScope sGInit) := ⟨rfl, rfl, rfl, by decide +kernel, rfl, by decide +kernel, by decide +kernel⟩
theorem scGSaid : FnScope ["self", "group"] ["self", "group"] (defScope sGSaid) := ⟨rfl, rfl, rfl, by decide +kernel, rfl, by decide +kernel, by decide +kernel⟩
theorem scGLet : FnScope ["self", "place", "name", "group"] ["self", "place", "name"] (defScope sGLet) := ⟨rfl, rfl, rfl, by decide +kernel, rfl, by decide +kernel, by decide +kernel⟩
theorem scGPut : FnScope nmGPut ["self", "one", "other"] (defScope sGPut) := ⟨rfl, rfl, rfl, by decide +kernel, rfl, by decide +kernel, by decide +kernel⟩
section
variable {P : Program} {w : World} {K : PySem.W.Frag} {mg : Str → Option Value} {base : Heap} {C : Addr}
theorem ok_gsaid {f : Addr} {fd : FuncData} {k : Nat} (F : Fun K "group_said" "Groups.group_said" sGSaid f fd) (T : GpC K C) : FnOk P w K mg base CX0 (k + 1) f fd ["self", "group"] (spGSaid C) := by
  refine F.ok scGSaid (fun vs H Q E h => ?_) (fun cdv A outer s H vs Q E hr h => ?_)
  · obtain ⟨_, _, _, _, _, _, _, _, rfl, _⟩ := h
    rfl
  obtain ⟨p, D, S, n, pls, G, sl, g, rfl, hg, hm, q⟩ := h
  obtain ⟨dx, hp⟩ := hg.ob
  have hu := hu_of hr
  refine ⟨_, pss_one (ps_ret (pe_ifExp (pt_cmp (pc_din hu (pv 1) (pe_fld (pv 0) rfl))) (pe_dget hu (pe_fld (pv 0) rfl) (pe_dget hu (pe_fld (pv 0) rfl) (pv 1) (fun _ _ => rfl)) (fun _ _ => rfl)) pe_non)), ?_⟩
  refine ⟨_, rfl, _, rfl, p, C, dx, _, _, rfl, hp, T.cl, T.nS, gfl_s _ _ _, S, _, rfl, dget_S hg.sd g, _, rfl, ?_⟩
  cases e : sayL sl g with
  | none =>
    rw [e] at q
    exact iteF q
  | some m =>
    rw [e] at q
    refine iteT ?_
    exact ⟨_, rfl, p, C, dx, _, _, rfl, hp, T.cl, T.nG, gfl_g _ _ _, _, rfl, p, C, dx, _, _, rfl, hp, T.cl, T.nS, gfl_s _ _ _, _, rfl, S, _, rfl, (by have := dget_S hg.sd g; rw [e] at this; exact this), D, _, rfl, dget_G hg.gd (hm m e), q⟩
theorem ok_ginit {f : Addr} {fd : FuncData} {k : Nat} (F : Fun K "__init__" "Groups.__init__" sGInit f fd) (T : GpC K C) : FnOk P w K mg base CX0 (k + 1) f fd ["self", "places"] (spGInit C) := by
  refine F.ok scGInit (fun vs H Q E h => ?_) (fun cdv A outer s H vs Q E hr h => ?_)
  · obtain ⟨_, _, _, _, rfl, _⟩ := h
    rfl
  obtain ⟨p, dx, L, pls, rfl, hp, hL, nd, l64, q⟩ := h
  refine ⟨_, pss_cons (ps_fld (pv 0) (pe_dc (own := [("place", 2)]) (g := gName 2) (tt := tYes) (tk := tVar 2) (tv := tVar 2) rfl scGInit.nd (pi_list (pv 1)) (blkOk_by (own := [("place", 2)]) (N := ["self", "places", "place"]) (sc := defScope sGInit) (by decide +kernel)) (fun _ _ _ _ _ => pg_name (i := 2) scGInit.nd rfl (.inl rfl)) (fun _ _ _ _ _ => pts_nil) (fun _ _ _ _ _ => pv 2) (fun _ _ _ _ _ => pv 2)) rfl)
    (pss_cons (ps_fld (pv 0) pe_dnewK rfl) (pss_one (ps_fld (pv 0) pe_int rfl))), ?_⟩
  refine ⟨_, rfl, L, rfl, ⟨_, SqL.of hL⟩, fun D nD => ?_⟩
  have pD : p ≠ D := fun z => by rw [z, nD] at hp; cases hp
  have LD : L ≠ D := fun z => by rw [z, nD] at hL; cases hL
  refine dc_it (walk_list (K := K) (a := L) (xs := pls.map V.str)) (fun i H' => (∀ b o, b ≠ D → H b = some o → H' b = some o) ∧ H' D = some (.dK (kvG id (pls.take i)))) ⟨fun b o n e => by rw [upd_ne n]; exact e, by rw [upd_same]; rfl⟩ (fun i H' _ h => SqL.of (h.1 _ _ LD hL)) (fun i v H3 H4 hi hP hY => ?_) (fun H' hP => ?_)
  · obtain ⟨kp, hD⟩ := hP
    obtain ⟨rfl, hv⟩ := hY
    rw [List.getElem?_map] at hv
    obtain ⟨z, hz, rfl⟩ := Option.map_eq_some_iff.mp hv
    have ztk : z ∉ pls.take i := nodup_take nd hz
    refine ⟨rfl, ?_⟩
    show ∃ v, _ ∧ _
    refine ⟨_, rfl, _, rfl, kvG id (pls.take i), Sum.inr z, rfl, hD, ?_, fun b o n e => by rw [upd_ne n]; exact kp b o n e, ?_⟩
    · rw [kvG_len, List.length_take]
      exact Nat.lt_of_le_of_lt (Nat.min_le_right _ _) (Nat.lt_of_lt_of_le l64 (by decide))
    · rw [upd_same, Wk.putK_new (kvG_none ztk), List.take_add_one, hz]
      unfold kvG
      rw [List.map_append]
      rfl
  · obtain ⟨kp, hD⟩ := hP
    rw [List.length_map, List.take_length] at hD
    have hp1 := kp _ _ pD hp
    refine ⟨_, rfl, p, C, dx, _, rfl, hp1, T.cl, T.nG, (by show 0 < 1000; decide), ?_⟩
    intro S nS
    have pS : p ≠ S := fun z => by rw [← z, upd_same] at nS; cases nS
    have nS1 : H' S = none := by rw [upd_ne (Ne.symm pS)] at nS; exact nS
    have DS : D ≠ S := fun z => by rw [z, nS1] at hD; cases hD
    have nS0 : H S = none := by
      cases e : H S with
      | none => rfl
      | some o => rw [kp _ _ (Ne.symm DS) e] at nS1; cases nS1
    refine ⟨_, rfl, p, C, dx, _, rfl, kn upd_same nS, T.cl, T.nS, (by show 1 < 1000; decide), ?_⟩
    refine ⟨_, rfl, p, C, dx, _, rfl, upd_same, T.cl, T.nC, (by rw [show putF "said" (V.ref S) (putF "group_by_name" (V.ref D) []) = gf2 D S from rfl, gf2_eq]; show 2 < 1000; decide), ?_⟩
    refine q _ D S (fun b o n e => ?_) nD nS0 ⟨⟨dx, upd_same⟩, ?_, ?_, DS⟩
    · have nb : b ≠ D := fun z => by rw [z, nD] at e; cases e
      have nb2 : b ≠ S := fun z => by rw [z, nS0] at e; cases e
      rw [upd_ne n, upd_ne n, upd_ne nb2, upd_ne n]
      exact kp b o nb e
    · rw [upd_ne (Ne.symm pD), upd_ne (Ne.symm pD), upd_ne DS, upd_ne (Ne.symm pD)]
      exact hD
    · rw [upd_ne (Ne.symm pS), upd_ne (Ne.symm pS)]
      exact upd_same
theorem ok_gput {f : Addr} {fd : FuncData} {k : Nat} (F : Fun K "put_together" "Groups.put_together" sGPut f fd) (T : GpC K C) (mo : mg "sorted" = none) (mli : mg "list" = none) : FnOk P w K mg base CX0 (k + 1) f fd ["self", "one", "other"] (spGPut C) := by
  refine F.ok scGPut (fun vs H Q E h => ?_) (fun cdv A outer s H vs Q E hr h => ?_)
  · obtain ⟨_, _, _, _, _, _, _, _, _, rfl, _⟩ := h
    rfl
  obtain ⟨p, D, S, n, pls, G, sl, a, b, rfl, hg, nd, l64, q⟩ := h
  obtain ⟨dx, hp⟩ := hg.ob
  have hu := hu_of hr
  refine ⟨_, pss_cons (ps_asg (pe_callB cr_sortedS (by rfl) mo (by decide +kernel) (pa_cons (pe_lst (pa_cons (pv 1) (pa_cons (pv 2) pa_nil))) pa_nil)) (pg_lst rfl (pgs_cons (pg_name (i := 3) scGPut.nd rfl (.inl rfl)) (pgs_cons (pg_name (i := 4) scGPut.nd rfl (.inl rfl)) pgs_nil))))
    (pss_cons (ps_for PassesOwn.never rfl (pi_list (pe_callTy (call_list_dK rfl) (by rfl) mli (by decide +kernel) (pa_cons (pe_fld (pv 0) rfl) pa_nil))) (pg_name (i := 5) scGPut.nd rfl (.inl rfl))
      (pss_one (ps_if (pt_cmpR op_eq (pe_dget hu (pe_fld (pv 0) rfl) (pv 5) (fun _ _ => rfl)) (pv 4) (nomark _)) (pss_one (ps_dput hu (pe_fld (pv 0) rfl) (pv 5) (pv 3) rfl)) pss_nil)))
    (pss_one (ps_fldaug (pv 0) pe_int in_add))), ?_⟩
  refine ⟨_, rfl, _, rfl, (show 2 ≤ sizeLine by decide), fun L0 nL0 => ?_⟩
  refine ⟨L0, [a, b], rfl, SqL.of upd_same, (by show 2 < 64; decide), fun ys L1 pm so nL1 => ?_⟩
  have sm1 : Same H (upd (upd H L0 (.lst [.str a, .str b])) L1 (.lst (ys.map V.str))) := (same_new nL0).trans (same_new nL1)
  have hg1 := hg.same sm1
  have hL1 : upd (upd H L0 (.lst [.str a, .str b])) L1 (.lst (ys.map V.str)) L1 = some (.lst (ys.map V.str)) := upd_same
  generalize upd (upd H L0 (.lst [.str a, .str b])) L1 (.lst (ys.map V.str)) = H1 at *
  obtain ⟨x, y, rfl, hxy⟩ : ∃ x y, ys = [x, y] ∧ ((x = a ∧ y = b) ∨ (x = b ∧ y = a)) := two_perm pm
  have hle : leS x y := two_le so
  obtain ⟨dx1, hp1⟩ := hg1.ob
  have pn := hg1.pne
  refine ⟨L1, _, rfl, SqL.of hL1, rfl, _, _, rfl, _, _, rfl, rfl, ?_⟩
  refine ⟨_, rfl, p, C, dx1, _, _, rfl, hp1, T.cl, T.nG, gfl_g _ _ _, D, _, rfl, hg1.gd, fun L2 nL2 => ?_⟩
  have hL2 : upd H1 L2 (.lst ((kvG G pls).map fun kv => kV kv.1)) L2 = some (.lst (pls.map V.str)) := by
    rw [upd_same]
    unfold kvG
    rw [List.map_map]
    rfl
  have hg2 := hg1.same (same_new (o := .lst ((kvG G pls).map fun kv => kV kv.1)) nL2)
  have sm2 := sm1.trans (same_new (o := .lst ((kvG G pls).map fun kv => kV kv.1)) nL2)
  have nDL : L2 ≠ D := fun z => by rw [z, hg1.gd] at nL2; cases nL2
  generalize upd H1 L2 (.lst ((kvG G pls).map fun kv => kV kv.1)) = H2 at *
  refine ⟨L2, rfl, ⟨_, SqL.of hL2⟩, for_it (walk_list (xs := pls.map V.str)) (fun i σ H' => ∃ s5, σ = [some (.ref p), some (.str a), some (.str b), some (.str x), some (.str y), s5] ∧ KpG p D S H H' ∧ H' L2 = some (.lst (pls.map V.str)) ∧ GpAt C H' p D S n pls (fun z => if z ∈ pls.take i then mrgG G x y z else G z) sl)
    ⟨none, rfl, KpG.of sm2, hL2, by
      refine ⟨hg2.ob, ?_, hg2.sd, hg2.ne⟩
      rw [hg2.gd, kvG_congr fun z _ => (if_neg (List.not_mem_nil)).symm]
      rfl⟩ (fun i σ H' _ hP => ?_) (fun i v σ H3 H4 hi hP hY => ?_) (fun σ H' hP => ?_)⟩
  · obtain ⟨_, _, _, h, _⟩ := hP
    exact SqL.of h
  · obtain ⟨s5, rfl, kp, hL3, hg3⟩ := hP
    obtain ⟨rfl, hv⟩ := hY
    rw [List.getElem?_map] at hv
    obtain ⟨z, hz, rfl⟩ := Option.map_eq_some_iff.mp hv
    have zm : z ∈ pls := List.mem_of_getElem? hz
    have ztk : z ∉ pls.take i := nodup_take nd hz
    have tk1 : pls.take (i + 1) = pls.take i ++ [z] := by rw [List.take_add_one, hz]; rfl
    obtain ⟨dx3, hp3⟩ := hg3.ob
    have gz := dget_G hg3.gd zm
    rw [if_neg ztk] at gz
    refine ⟨_, rfl, p, C, dx3, _, _, rfl, hp3, T.cl, T.nG, gfl_g _ _ _, _, rfl, D, _, rfl, gz, _, rfl, rfl, _, rfl, ?_⟩
    by_cases c : G z = y
    · refine iteU (decide_eq_true (by rw [c])) ?_
      refine ⟨_, rfl, _, rfl, p, C, dx3, _, _, rfl, hp3, T.cl, T.nG, gfl_g _ _ _, _, rfl, D, _, rfl, DPut.k (k := Sum.inr z) hg3.gd (by rw [kvG_len]; exact Nat.lt_of_lt_of_le l64 (by decide)), ?_⟩
      refine ⟨_, rfl, kp.put (.inr (.inl rfl)), (by rw [upd_ne nDL]; exact hL3), ⟨dx3, by rw [upd_ne pn.1]; exact hp3⟩, ?_, (by rw [upd_ne (Ne.symm hg3.ne)]; exact hg3.sd), hg3.ne⟩
      rw [upd_same, kvG_put nd zm, tk1]
      refine congrArg (fun l => some (HO.dK l)) (kvG_congr fun u hu => ?_)
      by_cases e : u = z
      · subst e
        rw [if_pos rfl, if_pos (List.mem_append_right _ (List.mem_singleton.mpr rfl))]
        unfold mrgG
        rw [if_pos c]
      · rw [if_neg e]
        by_cases m : u ∈ pls.take i
        · rw [if_pos m, if_pos (List.mem_append_left _ m)]
        · rw [if_neg m, if_neg (fun h => (List.mem_append.mp h).elim m fun h => e (List.mem_singleton.mp h))]
    · refine iteD (decide_eq_false fun e => c (V.str.inj e)) ?_
      refine ⟨_, rfl, kp, hL3, hg3.ob, ?_, hg3.sd, hg3.ne⟩
      rw [hg3.gd, tk1]
      refine congrArg (fun l => some (HO.dK l)) (kvG_congr fun u hu => ?_)
      by_cases m : u ∈ pls.take i
      · rw [if_pos m, if_pos (List.mem_append_left _ m)]
      · rw [if_neg m]
        by_cases e : u = z
        · subst e
          rw [if_pos (List.mem_append_right _ (List.mem_singleton.mpr rfl))]
          unfold mrgG
          rw [if_neg c]
        · rw [if_neg (fun h => (List.mem_append.mp h).elim m fun h => e (List.mem_singleton.mp h))]
  · obtain ⟨s5, rfl, kp, hL3, hg3⟩ := hP
    obtain ⟨dx3, hp3⟩ := hg3.ob
    refine ⟨_, rfl, p, C, dx3, _, _, rfl, hp3, T.cl, T.nC, gfl_c _ _ _, _, _, rfl, rfl, dx3, _, hp3, gfl_len _ _ _, ?_⟩
    rw [gfl_put]
    have hp4 : upd H' p (.ins C dx3 (gfl D S ((n : Int) + 1))) p = some (.ins C dx3 (gfl D S ((n : Int) + 1))) := upd_same
    refine q _ x y hxy hle (kp.put (.inl rfl)) ⟨⟨dx3, upd_same⟩, ?_, (by rw [upd_ne (Ne.symm pn.2)]; exact hg3.sd), hg3.ne⟩
    rw [upd_ne (Ne.symm pn.1), hg3.gd, List.length_map, List.take_length]
    exact congrArg (fun l => some (HO.dK l)) (kvG_congr fun u hu => if_pos hu)
theorem ok_glet {f fS fP : Addr} {fd fdS fdP : FuncData} {k : Nat} (F : Fun K "let_say" "Groups.let_say" sGLet f fd) (T : GpC K C)
    (GS : FnOk P w K mg base CX0 (k + 1) fS fdS ["self", "group"] (spGSaid C)) (bS : Binds K fdS ["self", "group"] []) (mS : Meth K C "group_said" fS)
    (GP : FnOk P w K mg base CX0 (k + 1) fP fdP ["self", "one", "other"] (spGPut C)) (bP : Binds K fdP ["self", "one", "other"] []) (mP : Meth K C "put_together" fP) : FnOk P w K mg base CX0 (k + 2) f fd ["self", "place", "name"] (spGLet C) := by
  refine F.ok scGLet (fun vs H Q E h => ?_) (fun cdv A outer s H vs Q E hr h => ?_)
  · obtain ⟨_, _, _, _, _, _, _, _, _, _, rfl, _⟩ := h
    rfl
  obtain ⟨U, p, D, S, n, pls, G, sl, pl, nm, rfl, hg, gi, so, hpl, hnm, sy, nd, l64, q1, q2⟩ := h
  obtain ⟨dx, hp⟩ := hg.ob
  have pn := hg.pne
  have hu := hu_of hr
  refine ⟨_, pss_cons (ps_set (i := 3) scGLet.nd rfl (.inl rfl) (pe_dget hu (pe_fld (pv 0) rfl) (pv 1) (fun _ _ => rfl)))
    (pss_one (ps_if (pt_cmp (pc_dnotin hu (pv 3) (pe_fld (pv 0) rfl)))
      (pss_cons (ps_dput hu (pe_fld (pv 0) rfl) (pv 3) (pv 2) rfl) (pss_one (ps_fldaug (pv 0) pe_int in_add)))
      (pss_one (ps_if (pt_cmpR op_ne (pe_meth (pv 0) T.cl mS GS hr bS .nil pass0 (pa_cons (pv 3) pa_nil)) (pe_dget hu (pe_fld (pv 0) rfl) (pv 2) (fun _ _ => rfl)) (nomark _))
        (pss_one (ps_expr (pe_meth (pv 0) T.cl mP GP hr bP .nil pass0 (pa_cons (pe_meth (pv 0) T.cl mS GS hr bS .nil pass0 (pa_cons (pv 3) pa_nil)) (pa_cons (pe_dget hu (pe_fld (pv 0) rfl) (pv 2) (fun _ _ => rfl)) pa_nil))))) pss_nil)))), ?_⟩
  refine ⟨_, rfl, p, C, dx, _, _, rfl, hp, T.cl, T.nG, gfl_g _ _ _, _, rfl, D, _, rfl, dget_G hg.gd hpl, ?_⟩
  refine ⟨_, rfl, _, rfl, p, C, dx, _, _, rfl, hp, T.cl, T.nS, gfl_s _ _ _, S, _, rfl, dget_S hg.sd (G pl), _, rfl, ?_⟩
  have nM : ∀ m : Str, ¬ m = "group_by_name" → ¬ m = "said" → ¬ m = "changes" → (gfl D S n).lookup m = none := fun m => gfl_no D S n
  cases e : sayL sl (G pl) with
  | none =>
    refine iteT ?_
    have hG : G pl ∈ pls := gi.cl pl hpl
    have so' := so.snoc (m := nm) hG e
    have ll := so.len
    have ll' := so'.len
    refine ⟨_, rfl, _, rfl, p, C, dx, _, _, rfl, hp, T.cl, T.nS, gfl_s _ _ _, _, rfl, S, _, rfl, DPut.k (k := Sum.inr (G pl)) hg.sd (by rw [kvS_len]; exact Nat.lt_of_lt_of_le (show sl.length < 64 by omega) (by decide)), ?_⟩
    rw [kvS_put e]
    have hp1 : upd H S (.dK (kvS (sl ++ [(G pl, nm)]))) p = some (.ins C dx (gfl D S n)) := by rw [upd_ne pn.2]; exact hp
    refine ⟨_, rfl, p, C, dx, _, _, rfl, hp1, T.cl, T.nC, gfl_c _ _ _, _, _, rfl, rfl, dx, _, hp1, gfl_len _ _ _, ?_⟩
    rw [gfl_put]
    refine q2 _ G (sl ++ [(G pl, nm)]) (fun ⟨m, h, _⟩ => by rw [e] at h; cases h) ((KpG.refl.put (.inr (.inr rfl))).put (.inl rfl)) ⟨⟨dx, upd_same⟩, ?_, ?_, hg.ne⟩ (gi.new hpl hnm sy e) so' ?_
    · rw [upd_ne (Ne.symm pn.1), upd_ne hg.ne]; exact hg.gd
    · rw [upd_ne (Ne.symm pn.2)]; exact upd_same
    · unfold muG
      rw [List.length_append, List.length_singleton] at *
      omega
  | some m =>
    obtain ⟨hGp, hm, sk⟩ := gi.sk _ _ e
    refine iteF ?_
    have kM : ∀ g m, sayL sl g = some m → m ∈ pls := fun g m h => (gi.sk g m h).2.1
    refine ⟨_, rfl, p, dx, _, rfl, hp, nM _ (by decide +kernel) (by decide +kernel) (by decide +kernel), _, rfl, p, D, S, n, pls, G, sl, G pl, rfl, hg, kM _, ?_⟩
    rw [e]
    refine ⟨_, rfl, p, C, dx, _, _, rfl, hp, T.cl, T.nG, gfl_g _ _ _, _, rfl, D, _, rfl, dget_G hg.gd hnm, rfl, _, rfl, ?_⟩
    by_cases c : G m = G nm
    · refine iteD ?_ (q1 ⟨m, e, c⟩ _ fun _ _ h => h)
      show (!decide (V.str (G m) = V.str (G nm))) = false
      rw [decide_eq_true (by rw [c])]
      rfl
    · refine iteU ?_ ?_
      · show (!decide (V.str (G m) = V.str (G nm))) = true
        rw [decide_eq_false fun z => c (V.str.inj z)]
        rfl
      refine ⟨_, rfl, p, dx, _, rfl, hp, nM _ (by decide +kernel) (by decide +kernel) (by decide +kernel), _, rfl, p, dx, _, rfl, hp, nM _ (by decide +kernel) (by decide +kernel) (by decide +kernel), _, rfl, p, D, S, n, pls, G, sl, G pl, rfl, hg, kM _, ?_⟩
      rw [e]
      refine ⟨_, rfl, p, C, dx, _, _, rfl, hp, T.cl, T.nG, gfl_g _ _ _, _, rfl, D, _, rfl, dget_G hg.gd hnm, p, D, S, n, pls, G, sl, G m, G nm, rfl, hg, nd, l64, fun H' x y hxy hle kp hg' => ?_⟩
      have smn : SmK U m nm := .say (.sml (gi.snd pl hpl).symm sk) sy
      obtain ⟨gi', lt⟩ := gi.mrg hm hnm smn c hxy hle
      refine q2 H' _ sl (fun ⟨m', h, h2⟩ => by rw [e] at h; cases h; exact c h2) kp hg' gi' so ?_
      unfold muG
      omega
end
end K52

set_option Elab.async false
set_option linter.all false
set_option maxRecDepth 100000
set_option maxHeartbeats 1000000
namespace K52
open PySem PySem.Spec PyProof.Rows L2 Wk GxR
abbrev sGTold : Stmt := topS 19
abbrev nmGTold : List Str := ["places", "uses", "groups", "before", "place", "word", "name", "said"]
theorem scGTold : FnScope nmGTold ["places", "uses"] (defScope sGTold) := ⟨rfl, rfl, rfl, by decide +kernel, rfl, by decide +kernel, by decide +kernel⟩
section
variable {P : Program} {w : World} {K : PySem.W.Frag} {mg : Str → Option Value} {base : Heap} {C : Addr}
theorem ok_gtold {f fI fS fL : Addr} {fd fdI fdS fdL : FuncData} {k : Nat} (F : Fun K "groups_told" "groups_told" sGTold f fd) (T : GpC K C) (MK : Mk K C fI) (mC : mg "Groups" = some (.ref C))
    (GI : FnOk P w K mg base CX0 (k + 1) fI fdI ["self", "places"] (spGInit C)) (bI : Binds K fdI ["self", "places"] [])
    (GS : FnOk P w K mg base CX0 (k + 1) fS fdS ["self", "group"] (spGSaid C)) (bS : Binds K fdS ["self", "group"] []) (mS : Meth K C "group_said" fS)
    (GL : FnOk P w K mg base CX0 (k + 2) fL fdL ["self", "place", "name"] (spGLet C)) (bL : Binds K fdL ["self", "place", "name"] []) (mL : Meth K C "let_say" fL) : FnOk P w K mg base CX0 (k + 3) f fd ["places", "uses"] (spGTold C) := by
  refine F.ok scGTold (fun vs H Q E h => ?_) (fun cdv A outer s H vs Q E hr h => ?_)
  · obtain ⟨_, _, _, _, _, rfl, _⟩ := h
    rfl
  obtain ⟨L, La, pls, us, xs, rfl, hL, nd, l64, hLa, hE, hU, q⟩ := h
  have hu := hu_of hr
  have hr1 : Room (k + 1) (A.deeper (envOfC "groups_told" (defScope sGTold) s.heap.objs.size f cdv)) := hr.mono (by omega)
  refine ⟨_, pss_cons (ps_set (i := 2) scGTold.nd rfl (.inl rfl) (pe_make MK GI hr (by rfl) mC bI .nil pass0 (pa_cons (pv 0) pa_nil)))
    (pss_cons (ps_set (i := 3) scGTold.nd rfl (.inl rfl) (pe_un un_neg pe_int))
    (pss_cons (ps_while PassesOwn.never (pt_cmpR op_ne (pe_fld (pv 2) rfl) (pv 3) (nomark _))
      (pss_cons (ps_set (i := 3) scGTold.nd rfl (.inl rfl) (pe_fld (pv 2) rfl))
      (pss_one (ps_for PassesOwn.never rfl (pi_list (pv 1)) (pg_tup rfl (pgs_cons (pg_name (i := 4) scGTold.nd rfl (.inl rfl)) (pgs_cons (pg_name (i := 5) scGTold.nd rfl (.inl rfl)) (pgs_cons (pg_name (i := 6) scGTold.nd rfl (.inl rfl)) pgs_nil))))
        (pss_one (ps_if (pt_cmpR op_in_seq (pv 5) (pe_tup (pa_cons pe_str (pa_cons pe_str pa_nil))) rfl)
          (pss_one (ps_expr (pe_meth (pv 2) T.cl mL GL hr bL .nil pass0 (pa_cons (pv 4) (pa_cons (pv 6) pa_nil)))))
          (pss_one (ps_if (pt_cmpR op_eq (pv 5) pe_str (nomark _))
            (pss_cons (ps_set (i := 7) scGTold.nd rfl (.inl rfl) (pe_meth (pv 2) T.cl mS GS (hr.mono (by omega)) bS .nil pass0 (pa_cons (pe_dget hu (pe_fld (pv 2) rfl) (pv 6) (fun _ _ => rfl)) pa_nil)))
            (pss_one (ps_if (pt_cmp (pc_notN (pv 7))) (pss_one (ps_expr (pe_meth (pv 2) T.cl mL GL hr bL .nil pass0 (pa_cons (pv 4) (pa_cons (pv 7) pa_nil))))) pss_nil)))
            pss_nil))))))))
    (pss_one (ps_ret (pv 2))))), ?_⟩
  refine ⟨_, rfl, fun p dx np ndx nxd => ?_⟩
  have sm0 : Same H (upd (upd H dx (.own p)) p (.ins C dx [])) := (same_new (o := HO.own p) ndx).trans (same_new (o := HO.ins C dx []) (by rw [upd_ne (Ne.symm nxd)]; exact np))
  refine ⟨p, dx, L, pls, rfl, upd_same, sm0 _ _ hL, nd, l64, fun H0 D S k0 nD nS g0 => ⟨rfl, ?_⟩⟩
  have old0 : Same H H0 := fun b o e => k0 b o (ne_of_none e np) (sm0 b o e)
  have nD0 : H D = none := by
    cases e : H D with
    | none => rfl
    | some o => rw [sm0 _ _ e] at nD; cases nD
  have nS0 : H S = none := by
    cases e : H S with
    | none => rfl
    | some o => rw [sm0 _ _ e] at nS; cases nS
  have old : ∀ {H1 H2 : Hp}, Same H H1 → KpG p D S H1 H2 → Same H H2 := fun s kp b o e => kp b o (ne_of_none e np) (ne_of_none e nD0) (ne_of_none e nS0) (s b o e)
  refine ⟨1, rfl, ?_⟩
  refine ⟨fun m σ H' => ∃ (n : Nat) (b : Int) (G : Str → Str) (sl : List (Str × Str)) (s4 s5 s6 s7 : Option V), σ = [some (.ref L), some (.ref La), some (.ref p), some (.int b), s4, s5, s6, s7] ∧ Same H H' ∧ GpAt C H' p D S n pls G sl ∧ GrI us pls G (sayL sl) ∧ SlOk pls sl ∧ (b = n → ∀ u ∈ us, satU G (sayL sl) u) ∧ m = 2 * muG G sl pls + (if b = n then 0 else 1),
    ⟨_, 0, -1, id, [], _, _, _, _, rfl, old0, g0, ⟨fun _ h => h, fun _ _ => rfl, fun x _ y _ e => by rw [show x = y from e]; exact fun z => List.lt_irrefl _ z, fun x _ => .refl x, fun g m h => nomatch h⟩, ⟨List.nodup_nil, fun _ h => nomatch h⟩, (fun h => by cases h), rfl⟩, ?_⟩
  rintro m σ H1 ⟨n, b, G, sl, s4, s5, s6, s7, rfl, sm, hg, gi, so, hb, rfl⟩
  obtain ⟨dx1, hp1⟩ := hg.ob
  refine ⟨_, rfl, p, C, dx1, _, _, rfl, hp1, T.cl, T.nC, gfl_c _ _ _, _, rfl, rfl, _, rfl, ?_⟩
  by_cases c : b = n
  · refine iteD ?_ ?_
    · show (!decide (V.int (n : Int) = V.int b)) = false
      rw [decide_eq_true (by rw [c])]
      rfl
    exact ⟨_, rfl, q H1 p D S n G sl sm hg so ⟨gi, hb c⟩⟩
  refine iteU ?_ ?_
  · show (!decide (V.int (n : Int) = V.int b)) = true
    rw [decide_eq_false fun z => c (V.int.inj z).symm]
    rfl
  refine ⟨_, fun σ' H' h => h, ?_⟩
  refine ⟨_, rfl, p, C, dx1, _, _, rfl, hp1, T.cl, T.nC, gfl_c _ _ _, ?_⟩
  rw [if_neg c]
  refine ⟨_, rfl, La, rfl, ⟨_, SqL.of (sm _ _ hLa)⟩, for_it (walk_list (xs := xs)) (fun i σ H' => ∃ (n' : Nat) (G' : Str → Str) (sl' : List (Str × Str)) (s4 s5 s6 s7 : Option V), σ = [some (.ref L), some (.ref La), some (.ref p), some (.int n), s4, s5, s6, s7] ∧ Same H H' ∧ GpAt C H' p D S n' pls G' sl' ∧ GrI us pls G' (sayL sl') ∧ SlOk pls sl' ∧ ((n' = n ∧ G' = G ∧ sl' = sl ∧ ∀ j u, j < i → us[j]? = some u → satU G (sayL sl) u) ∨ (n < n' ∧ muG G' sl' pls < muG G sl pls)))
    ⟨n, G, sl, _, _, _, _, rfl, sm, hg, gi, so, .inl ⟨rfl, rfl, rfl, fun j u h => absurd h (Nat.not_lt_zero _)⟩⟩ (fun i σ H' _ hP => ?_) (fun i y σ H3 H4 hi hP hY => ?_) (fun σ H' hP => ?_)⟩
  · obtain ⟨_, _, _, _, _, _, _, _, s', _⟩ := hP
    exact SqL.of (s' _ _ hLa)
  · obtain ⟨n', G', sl', s4, s5, s6, s7, rfl, sm3, hg3, gi3, so3, alt⟩ := hP
    obtain ⟨rfl, hy⟩ := hY
    obtain ⟨u, t, hu1, rfl, ht⟩ := hE.get hy
    have ht3 := sm3 _ _ ht
    obtain ⟨pl, wd, nm⟩ := u
    have um := List.mem_of_getElem? hu1
    obtain ⟨hpl, hnm⟩ := hU _ um
    obtain ⟨dx3, hp3⟩ := hg3.ob
    have nM : ∀ m : Str, ¬ m = "group_by_name" → ¬ m = "said" → ¬ m = "changes" → (gfl D S n').lookup m = none := fun m => gfl_no D S n'
    -- how a turn ends
    have stay : ∀ (H5 : Hp) (z4 z5 z6 z7 : Option V), Same H H5 → GpAt C H5 p D S n' pls G' sl' → satU G' (sayL sl') (pl, wd, nm) → ∃ (n2 : Nat) (G2 : Str → Str) (sl2 : List (Str × Str)) (t4 t5 t6 t7 : Option V), [some (V.ref L), some (.ref La), some (.ref p), some (.int n), z4, z5, z6, z7] = [some (.ref L), some (.ref La), some (.ref p), some (.int n), t4, t5, t6, t7] ∧ Same H H5 ∧ GpAt C H5 p D S n2 pls G2 sl2 ∧ GrI us pls G2 (sayL sl2) ∧ SlOk pls sl2 ∧ ((n2 = n ∧ G2 = G ∧ sl2 = sl ∧ ∀ j u, j < i + 1 → us[j]? = some u → satU G (sayL sl) u) ∨ (n < n2 ∧ muG G2 sl2 pls < muG G sl pls)) := fun H5 z4 z5 z6 z7 sm5 hg5 sat => ⟨n', G', sl', _, _, _, _, rfl, sm5, hg5, gi3, so3, alt.imp (fun ⟨a1, a2, a3, a4⟩ => ⟨a1, a2, a3, fun j u hj hju => by
        rcases Nat.lt_or_ge j i with h | h
        · exact a4 j u h hju
        · have : j = i := by omega
          subst this
          rw [hu1] at hju
          cases hju
          rw [← a2, ← a3]
          exact sat⟩) id⟩
    have went : ∀ (H5 : Hp) (z4 z5 z6 z7 : Option V) (G2 : Str → Str) (sl2 : List (Str × Str)), Same H H5 → GpAt C H5 p D S (n' + 1) pls G2 sl2 → GrI us pls G2 (sayL sl2) → SlOk pls sl2 → muG G2 sl2 pls < muG G' sl' pls → ∃ (n2 : Nat) (G2 : Str → Str) (sl2 : List (Str × Str)) (t4 t5 t6 t7 : Option V), [some (V.ref L), some (.ref La), some (.ref p), some (.int n), z4, z5, z6, z7] = [some (.ref L), some (.ref La), some (.ref p), some (.int n), t4, t5, t6, t7] ∧ Same H H5 ∧ GpAt C H5 p D S n2 pls G2 sl2 ∧ GrI us pls G2 (sayL sl2) ∧ SlOk pls sl2 ∧ ((n2 = n ∧ G2 = G ∧ sl2 = sl ∧ ∀ j u, j < i + 1 → us[j]? = some u → satU G (sayL sl) u) ∨ (n < n2 ∧ muG G2 sl2 pls < muG G sl pls)) := fun H5 z4 z5 z6 z7 G2 sl2 sm5 hg5 gi5 so5 lt => ⟨n' + 1, G2, sl2, _, _, _, _, rfl, sm5, hg5, gi5, so5, .inr (by
        rcases alt with ⟨a1, a2, a3, _⟩ | ⟨a1, a2⟩
        · subst a1 a2 a3
          exact ⟨Nat.lt_succ_self _, lt⟩
        · exact ⟨by omega, by omega⟩)⟩
    refine ⟨t, _, rfl, SqT.of ht3, rfl, _, _, rfl, _, _, rfl, _, _, rfl, rfl, ?_⟩
    refine ⟨_, rfl, (show 2 ≤ sizeLine by decide), fun t2 nt2 => ?_⟩
    have sT : Same H4 (upd H4 t2 (.tup [V.str "say", V.str "hear"])) := same_new nt2
    have smT := sm3.trans sT
    have hgT := hg3.same sT
    have hpT := sT _ _ hp3
    refine ⟨t2, sayT, rfl, .inr (SqT.of upd_same), rfl, rfl, _, rfl, ?_⟩
    rw [inV_say]
    generalize upd H4 t2 (.tup [V.str "say", V.str "hear"]) = HT at *
    cases cs : saysW wd with
    | true =>
      refine iteT ?_
      have notOpen : wd ≠ ("open" : Str) := fun z => by
        rw [z] at cs
        exact absurd cs (by decide +kernel)
      refine ⟨_, rfl, p, dx3, _, rfl, hpT, nM _ (by decide +kernel) (by decide +kernel) (by decide +kernel), _, rfl, _, rfl, us, p, D, S, n', pls, G', sl', pl, nm, rfl, hgT, gi3, so3, hpl, hnm, .use um cs, nd, l64, fun sd H5 s5 => ?_, fun H5 G2 sl2 _ kp hg5 gi5 so5 lt => ?_⟩
      · exact stay H5 _ _ _ _ (smT.trans s5) (hgT.same s5) ⟨fun _ => sd, fun z => absurd z notOpen⟩
      · exact went H5 _ _ _ _ G2 sl2 (old smT kp) hg5 gi5 so5 lt
    | false =>
      refine iteF ?_
      refine ⟨_, rfl, rfl, _, rfl, ?_⟩
      by_cases co : wd = ("open" : Str)
      rotate_left
      · refine iteD (decide_eq_false fun z => co (V.str.inj z)) ?_
        exact stay HT _ _ _ _ smT hgT ⟨fun z => absurd (cs.symm.trans z) Bool.false_ne_true, fun z => absurd z co⟩
      refine iteU (decide_eq_true (by rw [co])) ?_
      have hGn : G' nm ∈ pls := gi3.cl nm hnm
      refine ⟨_, rfl, p, dx3, _, rfl, hpT, nM _ (by decide +kernel) (by decide +kernel) (by decide +kernel), _, rfl, p, C, dx3, _, _, rfl, hpT, T.cl, T.nG, gfl_g _ _ _, _, rfl, D, _, rfl, dget_G hgT.gd hnm, p, D, S, n', pls, G', sl', G' nm, rfl, hgT, fun m h => (gi3.sk _ _ h).2.1, ?_⟩
      cases cm : sayL sl' (G' nm) with
      | none =>
        refine ⟨_, rfl, _, rfl, ?_⟩
        refine iteF ?_
        exact stay HT _ _ _ _ smT hgT ⟨fun z => absurd (cs.symm.trans z) Bool.false_ne_true, fun _ s hs => by rw [cm] at hs; cases hs⟩
      | some m0 =>
        refine ⟨_, rfl, _, rfl, ?_⟩
        refine iteT ?_
        obtain ⟨h1, h2, h3⟩ := gi3.sk _ _ cm
        have hGm : G' m0 ∈ pls := gi3.cl m0 h2
        have sy : SyK us pl (G' m0) := .smr (.opn (by rw [← co]; exact um) (.sml (gi3.snd nm hnm).symm h3)) (gi3.snd m0 h2)
        refine ⟨_, rfl, p, dx3, _, rfl, hpT, nM _ (by decide +kernel) (by decide +kernel) (by decide +kernel), _, rfl, _, rfl, us, p, D, S, n', pls, G', sl', pl, G' m0, rfl, hgT, gi3, so3, hpl, hGm, sy, nd, l64, fun sd H5 s5 => ?_, fun H5 G2 sl2 _ kp hg5 gi5 so5 lt => ?_⟩
        · refine stay H5 _ _ _ _ (smT.trans s5) (hgT.same s5) ⟨fun z => absurd (cs.symm.trans z) Bool.false_ne_true, fun _ s hs => ?_⟩
          rw [cm] at hs
          cases hs
          obtain ⟨m1, e1, e2⟩ := sd
          exact ⟨m1, e1, e2.trans (gi3.idem m0 h2)⟩
        · exact went H5 _ _ _ _ G2 sl2 (old smT kp) hg5 gi5 so5 lt
  · obtain ⟨n', G', sl', s4, s5, s6, s7, rfl, sm3, hg3, gi3, so3, alt⟩ := hP
    rcases alt with ⟨a1, a2, a3, a4⟩ | ⟨a1, a2⟩
    · subst a1 a2 a3
      refine ⟨2 * muG G' sl' pls, by omega, n', n', G', sl', _, _, _, _, rfl, sm3, hg3, gi3, so3, fun _ u hu => ?_, by rw [if_pos rfl]; rfl⟩
      obtain ⟨j, hj⟩ := List.getElem?_of_mem hu
      have lj := (List.getElem?_eq_some_iff.mp hj).1
      exact a4 j u (by rw [hE.len]; exact lj) hj
    · refine ⟨2 * muG G' sl' pls + 1, by omega, n', n, G', sl', _, _, _, _, rfl, sm3, hg3, gi3, so3, fun z => ?_, ?_⟩
      · omega
      · rw [if_neg (by omega)]
end
end K52

set_option Elab.async false
set_option linter.all false
set_option maxRecDepth 100000
set_option maxHeartbeats 1000000
/-! list(d.values()) -/
namespace Wk
open PySem PySem.Spec PyProof.Rows L2 GxR
def tListVals (td : TE) : TE := fun σ H Q => td σ H fun x H1 => ∃ a kvs, x = V.ref a ∧ H1 a = some (.dK kvs) ∧ ∀ q, H1 q = none → Q (.ref q) (upd H1 q (.lst (kvs.map (·.2))))
section
variable {X : Cx} {o : Expr} {p pos apos mpos : Pos} {td : TE}
theorem pe_listVals (hc : X.calm = true) (hg : Gl X "list") (hm : X.mg "list" = none) (hd : PE X o td) (hbase : attributeBase o "values" X.env (eval o X.env) = eval o X.env := by rfl) (hline : (apos.endLine == mpos.line) = true := by rfl)
    (hse : starEach [Expr.Call (.Attribute o "values" apos) [] [] mpos] X.env = [(false, eval (Expr.Call (.Attribute o "values" apos) [] [] mpos) X.env)] := by rfl) :
    PE X (.Call (.Name "list" p) [.Call (.Attribute o "values" apos) [] [] mpos] [] pos) (tListVals td) := by
  refine ⟨fun pins s σ H Q I h => ?_⟩
  refine wpAny_Call_Name_kw (ld_blt I hg hm (u := .type "list") boot_list ?_ (by first | decide +kernel | decide) (by first | decide +kernel | decide))
  rw [hse]
  refine PySem.callWith_type1 (wpAny_Call_method0_late hbase hline (thn (hd.run pins s σ H _ I h) fun v s1 ⟨x, H1, I1, r1, a, kvs, ex, ha, q⟩ => ?_))
  subst ex
  obtain rfl : v = Value.ref a := r1
  obtain ⟨z, hsys, vs, rel, dof⟩ := dk_of I1.hok ha
  obtain ⟨ep, dat⟩ := dof.dictAt
  have dat' := dat
  obtain ⟨ob, es, ho, ex, hdat, hko, hpr, hnd⟩ := dat'
  refine ⟨"dict", "dict.values", F.plainAttrs_dict, F.slot_dict_values, F.type_dict_values, ⟨ob, ho, ex.1⟩, fun b e => ?_, Calls.callWith_builtin rfl (PySem.evalArgs_none ?_)⟩
  · cases e
    exact ⟨ob, ho, ex.2.1⟩
  refine call_meetsIn F.slot_dict_values ⟨ob, ho, ex.1⟩ F.entry_dict_values (F.args_dict_values_1 _) (meets_dict_values (mixKind X.prog X.w) a hsys) ⟨⟨vs, dof⟩, ?_⟩
  have k1 : ∀ b u, s1.heap.get? b = some u → (s1.heap.push { cls := .type "dict_values", data := .fields #[.ref a] }).get? b = some u := fun b u e => Heap.get?_push_of_some _ e
  have dat1 : (s1.heap.push { cls := .type "dict_values", data := .fields #[.ref a] }).DictAt (mixKind X.prog X.w) a vs ep := dat.keep k1
  have hl : kvs.length = vs.length := KV.length rel
  refine PySem.W.kdl_call (PySem.W.kdl_values (knd := mixKind X.prog X.w) (r := s1.heap.objs.size) (d := a) (kvs := vs) (ep := ep)) (I.ok.hd hc) ⟨⟨_, Heap.get?_push_size _ rfl, rfl, rfl⟩, dat1⟩ (by rw [← hl]; exact z) fun h' tk acc' c' hkeep hS hacc => ?_
  have hsz : (s1.heap.push { cls := .type "dict_values", data := .fields #[.ref a] }).objs.size = s1.heap.objs.size + 1 := Heap.size_push _ _
  have lt : s1.heap.objs.size ≤ (s1.heap.push { cls := .type "dict_values", data := .fields #[.ref a] }).objs.size := by rw [hsz]; exact Nat.le_succ _
  refine ⟨.ref _, upd H1 (s1.heap.push { cls := .type "dict_values", data := .fields #[.ref a] }).objs.size (.lst (kvs.map (·.2))), I1.laid (t' := tk) (fun b o e => hkeep _ _ (k1 _ _ e)) lt (show ObjOk X.prog X.w _ _ _ (.lst (kvs.map (·.2))) from ⟨?_, acc'.toList, c', ?_, ?_⟩), rfl, q _ (I1.hok.fresh lt)⟩
  · rw [List.length_map]; exact z
  · have el : acc'.toList.length = acc'.size := by simp
    refine vals_of_at (by rw [List.length_map, el, hacc.1, hl]) fun j x w h1 h2 => ?_
    obtain ⟨k, hky⟩ := hacc.2 j w (by rw [← Array.getElem?_toList]; exact h2)
    obtain ⟨x', e1, e2⟩ := KV.at' rel hky
    rw [List.getElem?_map, e1] at h1
    cases h1
    exact e2
  · rw [Array.toArray_toList]; exact hS
end
end Wk

set_option Elab.async false
set_option linter.all false
set_option maxRecDepth 100000
set_option maxHeartbeats 1000000
/-! Groups that are used; what is told of kinds. -/
namespace Wk
open PySem PySem.Spec PyProof.Rows L2 GxR
def usedU (f : Str → Bool) (U : List Use3) (G : Str → Str) (g : Str) : List Str := (U.filter fun u => f u.2.1 && decide (G u.1 = g)).map fun u => G u.2.2
theorem usedU_app (f : Str → Bool) (U : List Use3) (u : Use3) (G : Str → Str) (g : Str) : usedU f (U ++ [u]) G g = usedU f U G g ++ (if f u.2.1 = true ∧ G u.1 = g then [G u.2.2] else []) := by
  unfold usedU
  rw [List.filter_append, List.map_append]
  congr 1
  by_cases c : f u.2.1 = true ∧ G u.1 = g
  · rw [if_pos c, List.filter_cons, if_pos (by rw [c.1, decide_eq_true c.2]; rfl)]
    rfl
  · rw [if_neg c, List.filter_cons, if_neg]
    · rfl
    · intro z
      obtain ⟨z1, z2⟩ := Bool.and_eq_true_iff.mp z
      exact c ⟨z1, of_decide_eq_true z2⟩
theorem usedU_len (f : Str → Bool) (U : List Use3) (G : Str → Str) (g : Str) : (usedU f U G g).length ≤ U.length := by
  unfold usedU
  rw [List.length_map]
  exact List.length_filter_le _ _
theorem usedU_mem {f : Str → Bool} {U : List Use3} {G : Str → Str} {g x : Str} (h : x ∈ usedU f U G g) : ∃ u ∈ U, x = G u.2.2 := by
  obtain ⟨u, hu, rfl⟩ := List.mem_map.mp h
  exact ⟨u, (List.mem_filter.mp hu).1, rfl⟩
theorem pour_used (U : List Use3) (G : Str → Str) : pourU U G = usedU (fun w => decide (w = ("open" : Str))) U G := rfl
theorem walk_used (U : List Use3) (G : Str → Str) : walkU U G = usedU (fun w => decide (w = ("in" : Str)) || decide (w = ("out" : Str))) U G := rfl
abbrev EnL := Str × Addr
def kvL (es : List EnL) : List (Key × V) := es.map fun e => ((Sum.inr e.1 : Key), V.ref e.2)
/-- lists by groups -/
structure UsedAt (H : Hp) (es : List EnL) (g : Str → List Str) : Prop where
  nd : (es.map (·.1)).Nodup
  na : (es.map (·.2)).Nodup
  ls : ∀ e ∈ es, H e.2 = some (.lst ((g e.1).map V.str))
  no : ∀ p, (∀ e ∈ es, e.1 ≠ p) → g p = []
theorem kvL_some : ∀ {es : List EnL} {e : EnL}, (es.map (·.1)).Nodup → e ∈ es → valV (kvL es) (Sum.inr e.1) = some (.ref e.2)
  | [], e, _, h => nomatch h
  | a :: es, e, nd, h => by
    rw [List.map_cons, List.nodup_cons] at nd
    show valV ((Sum.inr a.1, V.ref a.2) :: kvL es) _ = _
    rcases List.mem_cons.mp h with rfl | h
    · exact valV_pos rfl
    · rw [valV_neg (fun z => nd.1 (by rw [Sum.inr.inj z]; exact List.mem_map.mpr ⟨e, h, rfl⟩))]
      exact kvL_some nd.2 h
theorem kvL_none : ∀ {es : List EnL} {p : Str}, (∀ e ∈ es, e.1 ≠ p) → valV (kvL es) (Sum.inr p) = none
  | [], p, h => rfl
  | a :: es, p, h => by
    show valV ((Sum.inr a.1, V.ref a.2) :: kvL es) _ = _
    rw [valV_neg (fun z => h a List.mem_cons_self (Sum.inr.inj z))]
    exact kvL_none fun e he => h e (List.mem_cons_of_mem _ he)
theorem kvL_len (es : List EnL) : (kvL es).length = es.length := by unfold kvL; rw [List.length_map]
theorem UsedAt.lsts {H : Hp} {es : List EnL} {g : Str → List Str} (u : UsedAt H es g) : LstsAt H (kvL es) g := fun p => by
  by_cases c : ∃ e ∈ es, e.1 = p
  · obtain ⟨e, he, rfl⟩ := c
    exact .inl ⟨e.2, kvL_some u.nd he, u.ls e he⟩
  · have c : ∀ e ∈ es, e.1 ≠ p := fun e he z => c ⟨e, he, z⟩
    exact .inr ⟨kvL_none c, u.no p c⟩
theorem UsedAt.same {H H' : Hp} {es : List EnL} {g : Str → List Str} (u : UsedAt H es g) (s : Same H H') : UsedAt H' es g := ⟨u.nd, u.na, fun e he => s _ _ (u.ls e he), u.no⟩
theorem UsedAt.congr {H : Hp} {es : List EnL} {g g' : Str → List Str} (u : UsedAt H es g) (h : g = g') : UsedAt H es g' := h ▸ u
/-- one more in a list that stands -/
theorem UsedAt.add {H : Hp} {es : List EnL} {g g' : Str → List Str} {p x : Str} {l : Addr} (u : UsedAt H es g) (h : (p, l) ∈ es) (h1 : g' p = g p ++ [x]) (h2 : ∀ q, q ≠ p → g' q = g q) : UsedAt (upd H l (.lst ((g p ++ [x]).map V.str))) es g' := by
  refine ⟨u.nd, u.na, fun e he => ?_, fun q hq => ?_⟩
  · by_cases c : e.2 = l
    · have : e = (p, l) := nodup_snd u.na he h c
      subst this
      rw [upd_same, h1]
    · rw [upd_ne c]
      by_cases d : e.1 = p
      · have : e = (p, l) := nodup_fst u.nd he h d
        exact absurd (by rw [this]) c
      · rw [h2 _ d]
        exact u.ls e he
  · have : q ≠ p := fun z => hq _ h z.symm
    rw [h2 _ this]
    exact u.no q hq
where
  nodup_snd {es : List EnL} {e : EnL} {p : Str} {l : Addr} (nd : (es.map (·.2)).Nodup) (he : e ∈ es) (h : (p, l) ∈ es) (c : e.2 = l) : e = (p, l) := by
    induction es with
    | nil => cases he
    | cons a es ih =>
      rw [List.map_cons, List.nodup_cons] at nd
      rcases List.mem_cons.mp he with rfl | he
      · rcases List.mem_cons.mp h with h | h
        · exact h.symm
        · exact absurd (List.mem_map.mpr ⟨_, h, c.symm⟩) nd.1
      · rcases List.mem_cons.mp h with h | h
        · exact absurd (List.mem_map.mpr ⟨e, he, by rw [← h]; exact c⟩) nd.1
        · exact ih nd.2 he h
  nodup_fst {es : List EnL} {e : EnL} {p : Str} {l : Addr} (nd : (es.map (·.1)).Nodup) (he : e ∈ es) (h : (p, l) ∈ es) (c : e.1 = p) : e = (p, l) := by
    induction es with
    | nil => cases he
    | cons a es ih =>
      rw [List.map_cons, List.nodup_cons] at nd
      rcases List.mem_cons.mp he with rfl | he
      · rcases List.mem_cons.mp h with h | h
        · exact h.symm
        · exact absurd (List.mem_map.mpr ⟨_, h, c.symm⟩) nd.1
      · rcases List.mem_cons.mp h with h | h
        · exact absurd (List.mem_map.mpr ⟨e, he, by rw [← h]; exact c⟩) nd.1
        · exact ih nd.2 he h
/-- a list that is new -/
theorem UsedAt.snoc {H : Hp} {es : List EnL} {g g' : Str → List Str} {p x : Str} {l : Addr} (u : UsedAt H es g) (h : ∀ e ∈ es, e.1 ≠ p) (hl : H l = some (.lst [])) (hn : ∀ e ∈ es, e.2 ≠ l) (h1 : g' p = g p ++ [x]) (h2 : ∀ q, q ≠ p → g' q = g q) : UsedAt (upd H l (.lst [V.str x])) (es ++ [(p, l)]) g' := by
  refine ⟨?_, ?_, fun e he => ?_, fun q hq => ?_⟩
  · rw [List.map_append]
    exact nd_snoc u.nd fun z => by
      obtain ⟨e, he, e2⟩ := List.mem_map.mp z
      exact h e he e2
  · rw [List.map_append]
    exact List.nodup_append.mpr ⟨u.na, List.nodup_cons.mpr ⟨List.not_mem_nil, List.nodup_nil⟩, fun a ha b hb => by
      rw [List.mem_singleton.mp hb]
      obtain ⟨e, he, e2⟩ := List.mem_map.mp ha
      rw [← e2]
      exact hn e he⟩
  · rcases List.mem_append.mp he with he | he
    · rw [upd_ne (hn e he), h2 _ (h e he)]
      exact u.ls e he
    · rw [List.mem_singleton.mp he, upd_same, h1, u.no p h]
      rfl
  · have a : ∀ e ∈ es, e.1 ≠ q := fun e he => hq e (List.mem_append_left _ he)
    have b : q ≠ p := fun z => hq (p, l) (List.mem_append_right _ (List.mem_singleton.mpr rfl)) z.symm
    rw [h2 _ b]
    exact u.no q a
def spGUsed : Sp := fun vs H Q _ => ∃ (Dg La tW : Addr) (G : Str → Str) (pls : List Str) (us : List Use3) (xs : List V) (ws : List Str), vs = [.ref Dg, .ref La, .ref tW] ∧ H Dg = some (.dK (kvG G pls)) ∧ H La = some (.lst xs) ∧ EnsU H us xs ∧ (∀ u ∈ us, u.1 ∈ pls ∧ u.2.2 ∈ pls) ∧ us.length ≤ 900 ∧ H tW = some (.tup (ws.map V.str)) ∧
  ∀ (H' : Hp) (d : Addr) (es : List EnL), Same H H' → H' d = some (.dK (kvL es)) → UsedAt H' es (usedU (fun w => inV (.str w) (ws.map V.str)) us G) → Q (.ref d) H'
end Wk

set_option Elab.async false
set_option linter.all false
set_option maxRecDepth 100000
set_option maxHeartbeats 1000000
namespace K52
open PySem PySem.Spec PyProof.Rows L2 Wk GxR
abbrev sGUsed : Stmt := topS 20
abbrev nmGUsed : List Str := ["told", "uses", "words", "used", "place", "word", "name"]
theorem scGUsed : FnScope nmGUsed ["told", "uses", "words"] (defScope sGUsed) := ⟨rfl, rfl, rfl, by decide +kernel, rfl, by decide +kernel, by decide +kernel⟩
section
variable {P : Program} {w : World} {K : PySem.W.Frag} {mg : Str → Option Value} {base : Heap} {C : Addr}
theorem ok_gused {f : Addr} {fd : FuncData} {k : Nat} (F : Fun K "groups_used" "groups_used" sGUsed f fd) : FnOk P w K mg base CX0 (k + 1) f fd ["told", "uses", "words"] spGUsed := by
  refine F.ok scGUsed (fun vs H Q E h => ?_) (fun cdv A outer s H vs Q E hr h => ?_)
  · obtain ⟨_, _, _, _, _, _, _, _, rfl, _⟩ := h
    rfl
  obtain ⟨Dg, La, tW, G, pls, us, xs, ws, rfl, hDg, hLa, hE, hU, lu, hW, q⟩ := h
  have hu := hu_of hr
  refine ⟨_, pss_cons (ps_set (i := 3) scGUsed.nd rfl (.inl rfl) pe_dnewK)
    (pss_cons (ps_for PassesOwn.never rfl (pi_list (pv 1)) (pg_tup rfl (pgs_cons (pg_name (i := 4) scGUsed.nd rfl (.inl rfl)) (pgs_cons (pg_name (i := 5) scGUsed.nd rfl (.inl rfl)) (pgs_cons (pg_name (i := 6) scGUsed.nd rfl (.inl rfl)) pgs_nil))))
      (pss_one (ps_if (pt_cmpR op_in_seq (pv 5) (pv 2) rfl) (pss_one (ps_expr (pe_bm PySem.F.plainAttrs_list PySem.F.slot_list_append PySem.F.type_list_append mt_append (pe_dsetd (pv 3) (pe_dget hu (pv 0) (pv 4) (fun _ _ => rfl)) (pe_lst pa_nil) ⟨rfl, rfl, rfl, rfl⟩) (pa_cons (pe_dget hu (pv 0) (pv 6) (fun _ _ => rfl)) pa_nil)))) pss_nil)))
    (pss_one (ps_ret (pv 3)))), ?_⟩
  intro d nd
  have i0 : Same H (upd H d (.dK [])) := same_new nd
  generalize hf : (fun w : Str => inV (.str w) (ws.map V.str)) = f at *
  refine ⟨_, rfl, La, rfl, ⟨_, SqL.of (i0 _ _ hLa)⟩, for_it (walk_list (xs := xs)) (fun i σ H' => ∃ (es : List EnL) (s4 s5 s6 : Option V), σ = [some (.ref Dg), some (.ref La), some (.ref tW), some (.ref d), s4, s5, s6] ∧ Same H H' ∧ H' d = some (.dK (kvL es)) ∧ UsedAt H' es (usedU f (us.take i) G) ∧ (∀ e ∈ es, H e.2 = none) ∧ es.length ≤ i)
    ⟨[], _, _, _, rfl, i0, upd_same, ⟨List.nodup_nil, List.nodup_nil, (fun e he => nomatch he), fun p _ => rfl⟩, (fun e he => nomatch he), Nat.le_refl 0⟩ (fun i σ H' _ hP => ?_) (fun i y σ H3 H4 hi hP hY => ?_) (fun σ H' hP => ?_)⟩
  · obtain ⟨_, _, _, _, _, s', _⟩ := hP
    exact SqL.of (s' _ _ hLa)
  · obtain ⟨es, s4, s5, s6, rfl, sm, hd, hA, hn, le⟩ := hP
    obtain ⟨rfl, hy⟩ := hY
    obtain ⟨u, t, hu1, rfl, ht⟩ := hE.get hy
    have ht4 := sm _ _ ht
    obtain ⟨pl, wd, nm⟩ := u
    have um := List.mem_of_getElem? hu1
    obtain ⟨hpl, hnm⟩ := hU _ um
    have ilt : i < us.length := (List.getElem?_eq_some_iff.mp hu1).1
    have tk : us.take (i + 1) = us.take i ++ [(pl, wd, nm)] := by rw [List.take_add_one, hu1]; rfl
    have gnew : ∀ g, usedU f (us.take (i + 1)) G g = usedU f (us.take i) G g ++ (if f wd = true ∧ G pl = g then [G nm] else []) := fun g => by rw [tk, usedU_app]
    refine ⟨t, _, rfl, SqT.of ht4, rfl, _, _, rfl, _, _, rfl, _, _, rfl, rfl, ?_⟩
    refine ⟨_, rfl, _, rfl, tW, ws.map V.str, rfl, .inr (SqT.of (sm _ _ hW)), rfl, Wk.flat_strs ws, _, rfl, ?_⟩
    have ef : inV (.str wd) (ws.map V.str) = f wd := congrFun hf wd
    rw [ef]
    cases cf : f wd with
    | false =>
      refine iteF ⟨es, _, _, _, rfl, sm, hd, hA.congr (funext fun g => ?_), hn, by omega⟩
      rw [gnew, if_neg (fun z => Bool.false_ne_true (cf.symm.trans z.1)), List.append_nil]
    | true =>
      refine iteT ?_
      have hDg4 := sm _ _ hDg
      have g1 : usedU f (us.take (i + 1)) G (G pl) = usedU f (us.take i) G (G pl) ++ [G nm] := by rw [gnew, if_pos ⟨cf, rfl⟩]
      have g2 : ∀ q, q ≠ G pl → usedU f (us.take (i + 1)) G q = usedU f (us.take i) G q := fun q hq => by rw [gnew, if_neg (fun z => hq z.2.symm), List.append_nil]
      have ll := usedU_len f (us.take i) G (G pl)
      rw [List.length_take] at ll
      refine ⟨_, rfl, d, rfl, .inl ⟨_, .inl hd⟩, _, rfl, _, rfl, Dg, _, rfl, dget_G hDg4 hpl, (show 0 ≤ sizeLine by decide), fun e0 ne0 => ?_⟩
      have s0 : Same H4 (upd H4 e0 (.lst [])) := same_new ne0
      have sm0 := sm.trans s0
      have hd0 := s0 _ _ hd
      have hA0 := hA.same s0
      have he0 : upd H4 e0 (.lst []) e0 = some (.lst []) := upd_same
      have ne : ∀ e ∈ es, e.2 ≠ e0 := fun e he z => by rw [← z, hA.ls e he] at ne0; cases ne0
      have hDg0 := s0 _ _ hDg4
      have n0 : H e0 = none := by
        cases c : H e0 with
        | none => rfl
        | some o => rw [sm _ _ c] at ne0; cases ne0
      have de : d ≠ e0 := ne_of_none hd ne0
      generalize upd H4 e0 (.lst []) = H5 at *
      refine ⟨kvL es, Sum.inr (G pl), hd0, rfl, by rw [kvL_len]; exact Nat.lt_of_le_of_lt (show es.length ≤ 1000 by omega) (by decide), fun v hv => ?_, fun hv => ?_⟩
      · have c : ∃ e ∈ es, e.1 = G pl := Classical.byContradiction fun c => by
          rw [kvL_none fun e he z => c ⟨e, he, z⟩] at hv
          cases hv
        obtain ⟨⟨p, l⟩, he, ep⟩ := c
        have ep : p = G pl := ep
        subst ep
        rw [kvL_some hA.nd he] at hv
        cases hv
        have hl := hA0.ls _ he
        refine ⟨.inl ⟨rfl, _, SqL.of hl⟩, _, rfl, _, rfl, Dg, _, rfl, dget_G hDg0 hnm, l, _, _, rfl, rfl, hl, ?_, ?_⟩
        · rw [List.length_map]
          exact Nat.lt_of_le_of_lt (Nat.le_trans ll (Nat.le_trans (Nat.min_le_right _ _) lu)) (by decide)
        have nl : H l = none := hn _ he
        have dl : d ≠ l := fun z => by rw [← z, hd0] at hl; cases hl
        refine ⟨es, _, _, _, rfl, fun b o e => by rw [upd_ne (ne_of_none e nl)]; exact sm0 b o e, by rw [upd_ne dl]; exact hd0, ?_, hn, by omega⟩
        have := hA0.add he g1 g2
        rw [List.map_append] at this
        exact this
      · have c : ∀ e ∈ es, e.1 ≠ G pl := fun e he z => by
          rw [← z, kvL_some hA.nd he] at hv
          cases hv
        rw [Wk.putK_new hv]
        have e1 : kvL es ++ [((Sum.inr (G pl) : Key), V.ref e0)] = kvL (es ++ [(G pl, e0)]) := by unfold kvL; rw [List.map_append]; rfl
        rw [e1]
        have hl : upd H5 d (.dK (kvL (es ++ [(G pl, e0)]))) e0 = some (.lst []) := by rw [upd_ne (Ne.symm de)]; exact he0
        have hDg6 : upd H5 d (.dK (kvL (es ++ [(G pl, e0)]))) Dg = some (.dK (kvG G pls)) := by rw [upd_ne (ne_of_none hDg nd)]; exact hDg0
        refine ⟨.inl ⟨rfl, _, SqL.of hl⟩, _, rfl, _, rfl, Dg, _, rfl, dget_G hDg6 hnm, e0, _, _, rfl, rfl, hl, (by decide), ?_⟩
        refine ⟨es ++ [(G pl, e0)], _, _, _, rfl, fun b o e => by rw [upd_ne (ne_of_none e n0), upd_ne (ne_of_none e nd)]; exact sm0 b o e, by rw [upd_ne de]; exact upd_same, ?_, fun e he => ?_, by rw [List.length_append, List.length_singleton]; omega⟩
        · have hA6 : UsedAt (upd H5 d (.dK (kvL (es ++ [(G pl, e0)])))) es (usedU f (us.take i) G) := ⟨hA0.nd, hA0.na, fun e he => by
            have := hA0.ls e he
            rw [upd_ne (fun z => by rw [z, hd0] at this; cases this)]
            exact this, hA0.no⟩
          exact hA6.snoc c hl ne g1 g2
        · rcases List.mem_append.mp he with he | he
          · exact hn e he
          · rw [List.mem_singleton.mp he]; exact n0
  · obtain ⟨es, s4, s5, s6, rfl, sm, hd, hA, hn, le⟩ := hP
    rw [hE.len, List.take_length] at hA
    exact ⟨_, rfl, q H' d es sm hd hA⟩
end
end K52

set_option Elab.async false
set_option linter.all false
set_option maxRecDepth 100000
set_option maxHeartbeats 2000000
namespace K52
open PySem PySem.Spec PyProof.Rows L2 Wk
abbrev sBinder : Stmt := topS 4
theorem scBinder : FnScope ["part"] ["part"] (defScope sBinder) := ⟨rfl, rfl, rfl, by decide +kernel, rfl, by decide +kernel, by decide +kernel⟩
section
variable {P : Program} {w : World} {K : PySem.W.Frag} {mg : Str → Option Value} {base : Heap}
theorem ok_binder {f aB : Addr} {fd : FuncData} {k : Nat} (F : Fun K "is_binder" "is_binder" sBinder f fd) (mB : mg "BINDING_WORDS" = some (.ref aB)) (hB : ∀ H, SqT K H aB bindV) : FnOk P w K mg base CX0 (k + 1) f fd ["part"] spBinder := by
  refine F.ok scBinder (fun vs H Q E h => ?_) (fun cdv A outer s H vs Q E hr h => ?_)
  · obtain ⟨_, _, rfl, _⟩ := h
    rfl
  obtain ⟨v, p, rfl, hp, q⟩ := h
  refine ⟨_, pss_one (ps_ret (pe_cmpR op_in_seq (pe_ix ix_tup (pv 0) pe_int (fun _ _ => rfl)) (pe_glob (v := .ref aB) (by rfl) mB rfl) rfl)), ?_⟩
  obtain ⟨a, xs, rfl, ha, h0⟩ := hp.word
  refine ⟨_, rfl, a, xs, 0, _, rfl, rfl, SqT.of ha, atI_nat (j := 0) h0, aB, bindV, rfl, .inr (hB _), rfl, rfl, ?_⟩
  have e : inV (.str (wordP p)) bindV = bindsP p := inV_binds p
  show Q (.bl (inV (.str (wordP p)) bindV)) H
  rw [e]
  exact q
abbrev ps3 : List Str := ["row", "x", "calling"]
abbrev ps3p : List Str := ["part", "x", "calling"]
end
end K52

set_option Elab.async false
set_option linter.all false
set_option maxRecDepth 100000
set_option maxHeartbeats 2000000
namespace K52
open PySem PySem.Spec PyProof.Rows L2 Wk GxR
abbrev sRest : Stmt := topS 3
theorem scRest : FnScope ["part"] ["part"] (defScope sRest) := ⟨rfl, rfl, rfl, by decide +kernel, rfl, by decide +kernel, by decide +kernel⟩
abbrev sCalling : Stmt := topS 2
abbrev sCallings : Stmt := topS 8
abbrev sGather : Stmt := topS 9
theorem scCalling : FnScope ["part"] ["part"] (defScope sCalling) := ⟨rfl, rfl, rfl, by decide +kernel, rfl, by decide +kernel, by decide +kernel⟩
theorem scGather : FnScope ["row", "around", "free", "bound", "part", "calling", "within"] ["row", "around", "free", "bound"] (defScope sGather) := ⟨rfl, rfl, rfl, by decide +kernel, rfl, by decide +kernel, by decide +kernel⟩
theorem scCallings : FnScope ["row", "free", "bound"] ["row"] (defScope sCallings) := ⟨rfl, rfl, rfl, by decide +kernel, rfl, by decide +kernel, by decide +kernel⟩
theorem atI_last {xs : List V} {k : Nat} {y : V} (hl : xs.length = k + 1) (h : xs[k]? = some y) : atI xs (-1) = some y := by
  unfold atI ixN
  rw [if_neg (by omega), if_pos (by omega), show ((-1 : Int) + (xs.length : Int)).toNat = k by omega]
  exact h
section
variable {P : Program} {w : World} {K : PySem.W.Frag} {mg : Str → Option Value} {base : Heap}
theorem ok_rest {f : Addr} {fd : FuncData} {k : Nat} (F : Fun K "rest_of" "rest_of" sRest f fd) : FnOk P w K mg base CX0 (k + 1) f fd ["part"] spRest := by
  refine F.ok scRest (fun vs H Q E h => ?_) (fun cdv A outer s H vs Q E hr h => ?_)
  · obtain ⟨_, _, rfl, _⟩ := h
    rfl
  obtain ⟨v, p, rfl, hp, q⟩ := h
  refine ⟨_, pss_one (ps_ret (pe_ifExp (pt_cmpR op_eq (pe_ix ix_tup (pv 0) pe_int (fun _ _ => rfl)) pe_str (nomark _)) (pe_tup pa_nil) (pe_ix ix_tup (pv 0) (pe_un un_neg pe_int) (fun _ _ => rfl)))), ?_⟩
  cases p with
  | say n =>
    obtain ⟨a, rfl, ha⟩ := hp
    refine ⟨_, rfl, a, _, 0, _, rfl, rfl, SqT.of ha, atI_nat (j := 0) rfl, rfl, _, rfl, iteT ?_⟩
    refine ⟨(show 0 ≤ sizeLine by decide), fun t nt => q _ _ (same_new nt) ⟨t, [], rfl, upd_same, rfl⟩⟩
  | again r =>
    obtain ⟨a, b, xs, rfl, ha, hb, hps⟩ := hp
    refine ⟨_, rfl, a, _, 0, _, rfl, rfl, SqT.of ha, atI_nat (j := 0) rfl, rfl, _, rfl, iteD (by decide +kernel) ?_⟩
    exact ⟨_, rfl, _, rfl, a, _, -1, _, rfl, rfl, SqT.of ha, atI_last (k := 1) rfl rfl, q _ _ (fun _ _ e => e) ⟨b, xs, rfl, hb, hps⟩⟩
  | oth w n r =>
    obtain ⟨a, b, xs, rfl, ha, hb, hps⟩ := hp
    refine ⟨_, rfl, a, _, 0, _, rfl, rfl, SqT.of ha, atI_nat (j := 0) rfl, rfl, _, rfl, iteD (wd_say w) ?_⟩
    exact ⟨_, rfl, _, rfl, a, _, -1, _, rfl, rfl, SqT.of ha, atI_last (k := 2) rfl rfl, q _ _ (fun _ _ e => e) ⟨b, xs, rfl, hb, hps⟩⟩
theorem ok_calling {f : Addr} {fd : FuncData} {k : Nat} (F : Fun K "calling_of" "calling_of" sCalling f fd) : FnOk P w K mg base CX0 (k + 1) f fd ["part"] spCalling := by
  refine F.ok scCalling (fun vs H Q E h => ?_) (fun cdv A outer s H vs Q E hr h => ?_)
  · obtain ⟨_, _, rfl, _⟩ := h
    rfl
  obtain ⟨v, p, rfl, hp, q⟩ := h
  refine ⟨_, pss_one (ps_ret (pe_ifExp (pt_cmpR op_eq (pe_ix ix_tup (pv 0) pe_int (fun _ _ => rfl)) pe_str (nomark _)) pe_non (pe_ix ix_tup (pv 0) pe_int (fun _ _ => rfl)))), ?_⟩
  cases p with
  | say n =>
    obtain ⟨a, rfl, ha⟩ := hp
    refine ⟨_, rfl, a, _, 0, _, rfl, rfl, SqT.of ha, atI_nat (j := 0) rfl, rfl, _, rfl, iteD say_again ?_⟩
    exact ⟨_, rfl, a, _, 1, _, rfl, rfl, SqT.of ha, atI_nat (j := 1) rfl, q⟩
  | again r =>
    obtain ⟨a, b, xs, rfl, ha, hb, hps⟩ := hp
    exact ⟨_, rfl, a, _, 0, _, rfl, rfl, SqT.of ha, atI_nat (j := 0) rfl, rfl, _, rfl, iteU (by decide +kernel) q⟩
  | oth w n r =>
    obtain ⟨a, b, xs, rfl, ha, hb, hps⟩ := hp
    refine ⟨_, rfl, a, _, 0, _, rfl, rfl, SqT.of ha, atI_nat (j := 0) rfl, rfl, _, rfl, iteD (wd_again w) ?_⟩
    exact ⟨_, rfl, a, _, 1, _, rfl, rfl, SqT.of ha, atI_nat (j := 1) rfl, q⟩
abbrev ps4g : List Str := ["row", "around", "free", "bound"]
theorem ok_gather {f fC fB fR : Addr} {fd fdC fdB fdR : FuncData} {n : Nat} (F : Fun K "gather_callings" "gather_callings" sGather f fd)
    (GC : FnOk P w K mg base CX0 1 fC fdC ["part"] spCalling) (bC : Binds K fdC ["part"] []) (kC : PySem.W.keepIn K (.ref fC) = true) (mC : mg "calling_of" = some (.ref fC))
    (GB : FnOk P w K mg base CX0 1 fB fdB ["part"] spBinder) (bB : Binds K fdB ["part"] []) (kB : PySem.W.keepIn K (.ref fB) = true) (mB : mg "is_binder" = some (.ref fB))
    (GR : FnOk P w K mg base CX0 1 fR fdR ["part"] spRest) (bR : Binds K fdR ["part"] []) (kR : PySem.W.keepIn K (.ref fR) = true) (mR : mg "rest_of" = some (.ref fR))
    (G : FnOk P w K mg base CX0 (n + 1) f fd ps4g (spGather n)) (bF : Binds K fd ps4g []) (mF : mg "gather_callings" = some (.ref f)) : FnOk P w K mg base CX0 (n + 1 + 1) f fd ps4g (spGather (n + 1)) := by
  refine F.ok scGather (fun vs H Q E h => ?_) (fun cdv A outer s H vs Q E hr h => ?_)
  · obtain ⟨_, _, _, _, _, _, _, _, rfl, _⟩ := h
    rfl
  obtain ⟨v, r, aS, Fl, Bl, S, fs, bs, rfl, hR, hS, hF, hB, hne, hd, hsf, hsb, hsS, q⟩ := h
  have hr1 : Room 1 _ := hr.mono (by omega)
  refine ⟨_, pss_one (ps_for PassesOwn.never rfl (pi_tup (pv 0)) (pg_name (i := 4) scGather.nd rfl (.inl rfl))
    (pss_cons (ps_set (i := 5) scGather.nd rfl (.inl rfl) (pe_call GC hr1 (by rfl) mC kC bC .nil pass0 (pa_cons (pv 4) pa_nil)))
    (pss_cons (ps_set (i := 6) scGather.nd rfl (.inl rfl) (pv 1))
    (C8.pss_cut (ps_if (pt_val (pe_call GB hr1 (by rfl) mB kB bB .nil pass0 (pa_cons (pv 4) pa_nil)))
      (pss_cons (ps_expr (pe_bm PySem.F.plainAttrs_list PySem.F.slot_list_append PySem.F.type_list_append mt_append (pv 3) (pa_cons (pv 5) pa_nil)))
        (pss_one (ps_set (i := 6) scGather.nd rfl (.inl rfl) (pe_op op_catA (pv 1) (pe_tup (pa_cons (pv 5) pa_nil))))))
      (pss_one (ps_if (PW.pt (pw_and (pt_cmp (pc_notN (pv 5))) (pw_and1 (pt_cmpR op_notIn_seq (pv 5) (pv 1) rfl)))) (pss_one (ps_expr (pe_bm PySem.F.plainAttrs_list PySem.F.slot_list_append PySem.F.type_list_append mt_append (pv 2) (pa_cons (pv 5) pa_nil)))) pss_nil)))
    (pss_one (ps_expr (pe_call G hr (by rfl) mF F.kp bF .nil pass0 (pa_cons (pe_call GR hr1 (by rfl) mR kR bR .nil pass0 (pa_cons (pv 4) pa_nil)) (pa_cons (pv 6) (pa_cons (pv 2) (pa_cons (pv 3) pa_nil))))))))))), ?_⟩
  obtain ⟨a, xs, rfl, ha, hps⟩ := hR
  have lx := PartsAt.len hps
  refine ⟨_, rfl, a, rfl, ⟨_, SqT.of ha⟩, for_it (walk_tup (xs := xs)) (fun i σ H' => Sam2 Fl Bl H H' ∧ H' Fl = some (.lst ((fs ++ frR S (r.take i)).map V.str)) ∧ H' Bl = some (.lst ((bs ++ bdR (r.take i)).map V.str)) ∧
      ∃ s4 s5 s6 : Option V, σ = [some (.ref a), some (.ref aS), some (.ref Fl), some (.ref Bl), s4, s5, s6])
    ⟨fun _ _ _ _ e => e, by simpa [frR] using hF, by simpa [bdR] using hB, _, _, _, rfl⟩ (fun i σ H' _ hP => SqT.of (hP.1.tup hF hB _ _ ha)) (fun i y σ H1 H2 hi hP hY => ?_) (fun σ H' hP => ?_)⟩
  · obtain ⟨rfl, hy⟩ := hY
    obtain ⟨sm, hF1, hB1, s4, s5, s6, rfl⟩ := hP
    obtain ⟨p, hp, hpa⟩ := PartsAt.get hps hy
    have pm : p ∈ r := List.mem_of_getElem? hp
    have d1 := deepR.mem p pm
    have d2 := deep_rest p
    have st := sm.tup hF hB
    have hpa2 := PartAt.mono st p y hpa
    have hS2 := st _ _ hS
    have tk : r.take (i + 1) = r.take i ++ [p] := by rw [List.take_add_one, hp]; rfl
    have z1 := sizeR_take r (i + 1)
    rw [tk, sizeR_app] at z1
    have z2 : sizeR [p] = sizeP p := by show sizeP p + 0 = sizeP p; omega
    have z3 := size_rest p
    have lf := frR_len (r.take i) S
    have lb := bdR_len (r.take i)
    refine ⟨_, rfl, y, p, rfl, hpa2, ?_⟩
    refine ⟨_, rfl, ?_⟩
    refine ⟨fun σ' H' => ∃ aW, σ' = [some (.ref a), some (.ref aS), some (.ref Fl), some (.ref Bl), some y, some (callP p), some (.ref aW)] ∧ Sam2 Fl Bl H2 H' ∧ H' aW = some (.tup ((inP S p).map V.str)) ∧
      H' Fl = some (.lst ((fs ++ frR S (r.take i) ++ fhP S p).map V.str)) ∧ H' Bl = some (.lst ((bs ++ bdR (r.take i) ++ bhP p).map V.str)), ?_, fun σ' H3 hm => ?_⟩
    · refine ⟨_, rfl, y, p, rfl, hpa2, _, rfl, ?_⟩
      have bF1 : ((fs ++ frR S (r.take i)).map V.str).length < sizeLine := by
        rw [List.length_map, List.length_append]; exact small1000 (by omega)
      have bB1 : ((bs ++ bdR (r.take i)).map V.str).length < sizeLine := by
        rw [List.length_map, List.length_append]; exact small1000 (by omega)
      -- a calling that is not bound by its part
      have go : ∀ m : Str, callP p = .str m → inP S p = S → bhP p = [] → fhP S p = (if m ∈ S then [] else [m]) →
          (fun σ' H' => ∃ aW, σ' = [some (.ref a), some (.ref aS), some (.ref Fl), some (.ref Bl), some y, some (callP p), some (.ref aW)] ∧ Sam2 Fl Bl H2 H' ∧ H' aW = some (.tup ((inP S p).map V.str)) ∧
            H' Fl = some (.lst ((fs ++ frR S (r.take i) ++ fhP S p).map V.str)) ∧ H' Bl = some (.lst ((bs ++ bdR (r.take i) ++ bhP p).map V.str)) : L2.St → Hp → Prop)
            [some (.ref a), some (.ref aS), some (.ref Fl), some (.ref Bl), some y, some (callP p), some (.ref aS)] (if m ∈ S then H2 else upd H2 Fl (.lst ((fs ++ frR S (r.take i)).map V.str ++ [.str m]))) := by
        intro m e1 e2 e3 e4
        refine ⟨aS, rfl, ?_, ?_, ?_, ?_⟩
        · split
          · exact fun _ _ _ _ e => e
          · exact fun b o n1 _ e => by rw [upd_ne n1]; exact e
        · rw [e2]
          split
          · exact hS2
          · rw [upd_ne (fun z => by rw [z, hF1] at hS2; cases hS2)]; exact hS2
        · rw [e4]
          split
          · rw [List.append_nil]; exact hF1
          · rw [upd_same]; simp
        · rw [e3, List.append_nil]
          split
          · exact hB1
          · rw [upd_ne (Ne.symm hne)]; exact hB1
      cases p with
      | say m =>
        refine iteF ?_
        refine ⟨_, rfl, _, rfl, iteU rfl ?_⟩
        refine ⟨_, rfl, _, rfl, aS, _, rfl, .inr (SqT.of hS2), rfl, Wk.flat_strs S, _, rfl, ite2 (fun e => ?_) (fun e => ?_)⟩
        · have e : m ∉ S := by
            have z : (!inV (.str m) (S.map V.str)) = true := e
            rw [inV_strs] at z
            simpa using z
          have g := go m rfl rfl rfl rfl
          rw [if_neg e] at g
          exact ⟨_, rfl, .inl ⟨rfl, _, SqL.of hF1⟩, _, rfl, Fl, _, _, rfl, rfl, hF1, bF1, g⟩
        · have e : m ∈ S := by
            have z : ¬ (!inV (.str m) (S.map V.str)) = true := e
            rw [inV_strs] at z
            simpa using z
          have g := go m rfl rfl rfl rfl
          rw [if_pos e] at g
          exact g
      | again r' =>
        refine iteF ?_
        refine ⟨_, rfl, _, rfl, iteF ?_⟩
        exact ⟨aS, rfl, fun _ _ _ _ e => e, hS2, by rw [show fhP S (.again r') = [] from rfl, List.append_nil]; exact hF1, by rw [show bhP (.again r') = [] from rfl, List.append_nil]; exact hB1⟩
      | oth wd m r' =>
        refine ite2 (fun hw => ?_) (fun hw => ?_)
        · have hw : wd.binds = true := hw
          have e1 : inP S (.oth wd m r') = S ++ [m] := if_pos hw
          have e2 : fhP S (.oth wd m r') = [] := if_pos hw
          have e3 : bhP (.oth wd m r') = [m] := if_pos hw
          refine ⟨_, rfl, .inl ⟨rfl, _, SqL.of hB1⟩, _, rfl, Bl, _, _, rfl, rfl, hB1, bB1, ?_⟩
          have nSB : aS ≠ Bl := fun z => by rw [z, hB1] at hS2; cases hS2
          have hS3 : upd H2 Bl (.lst ((bs ++ bdR (r.take i)).map V.str ++ [.str m])) aS = some (.tup (S.map V.str)) := by rw [upd_ne nSB]; exact hS2
          refine ⟨_, rfl, _, rfl, (show 1 ≤ sizeLine by decide), fun t nt => ?_⟩
          have sm3 : Sam2 Fl Bl H2 (upd (upd H2 Bl (.lst ((bs ++ bdR (r.take i)).map V.str ++ [.str m]))) t (.tup [.str m])) := fun b o n1 n2 e => kn (by rw [upd_ne n2]; exact e) nt
          have hF3 : upd (upd H2 Bl (.lst ((bs ++ bdR (r.take i)).map V.str ++ [.str m]))) t (.tup [.str m]) Fl = some (.lst ((fs ++ frR S (r.take i)).map V.str)) := kn (by rw [upd_ne hne]; exact hF1) nt
          have hB3 : upd (upd H2 Bl (.lst ((bs ++ bdR (r.take i)).map V.str ++ [.str m]))) t (.tup [.str m]) Bl = some (.lst ((bs ++ bdR (r.take i)).map V.str ++ [.str m])) := kn upd_same nt
          refine ⟨aS, t, _, _, rfl, rfl, SqT.of (kn hS3 nt), SqT.of upd_same, by rw [List.length_map]; exact small (by show S.length + 1 ≤ 1000; omega), fun e => ?_, (fun _ e => by cases e), fun _ _ u nu => ?_⟩
          · have e : S = [] := List.map_eq_nil_iff.mp e
            refine ⟨t, rfl, sm3, ?_, ?_, ?_⟩
            · rw [e1, e]; exact upd_same
            · rw [e2, List.append_nil]; exact hF3
            · rw [e3]; exact hB3.trans (by simp)
          · refine ⟨u, rfl, fun b o n1 n2 e => kn (sm3 b o n1 n2 e) nu, ?_, ?_, ?_⟩
            · rw [e1]; exact upd_same.trans (by show _ = some (HO.tup ((S ++ [m]).map V.str)); rw [List.map_append]; rfl)
            · rw [e2, List.append_nil]; exact kn hF3 nu
            · rw [e3]; exact (kn hB3 nu).trans (by simp)
        · have hw : ¬ wd.binds = true := hw
          have e1 : inP S (.oth wd m r') = S := if_neg hw
          have e2 : fhP S (.oth wd m r') = if m ∈ S then [] else [m] := if_neg hw
          have e3 : bhP (.oth wd m r') = [] := if_neg hw
          refine ⟨_, rfl, _, rfl, iteU rfl ?_⟩
          refine ⟨_, rfl, _, rfl, aS, _, rfl, .inr (SqT.of hS2), rfl, Wk.flat_strs S, _, rfl, ite2 (fun e => ?_) (fun e => ?_)⟩
          · have e : m ∉ S := by
              have z : (!inV (.str m) (S.map V.str)) = true := e
              rw [inV_strs] at z
              simpa using z
            have g := go m rfl e1 e3 e2
            rw [if_neg e] at g
            exact ⟨_, rfl, .inl ⟨rfl, _, SqL.of hF1⟩, _, rfl, Fl, _, _, rfl, rfl, hF1, bF1, g⟩
          · have e : m ∈ S := by
              have z : ¬ (!inV (.str m) (S.map V.str)) = true := e
              rw [inV_strs] at z
              simpa using z
            have g := go m rfl e1 e3 e2
            rw [if_pos e] at g
            exact g
    · obtain ⟨aW, rfl, sm3, hW, hF3, hB3⟩ := hm
      have hpa3 := PartAt.mono (sm3.tup hF1 hB1) p y hpa2
      have lh := fhP_len S p
      have lbh := bhP_len p
      have li := inP_len S p
      refine ⟨_, rfl, y, p, rfl, hpa3, fun H4 u sm4 hu => ?_⟩
      refine ⟨_, rfl, _, rfl, _, rfl, u, restP p, aW, Fl, Bl, inP S p, fs ++ frR S (r.take i) ++ fhP S p, bs ++ bdR (r.take i) ++ bhP p, rfl, hu, sm4 _ _ hW, sm4 _ _ hF3, sm4 _ _ hB3, hne, by omega, ?_, ?_, by omega, fun H5 sm5 hF5 hB5 => ?_⟩
      · rw [List.length_append, List.length_append]; omega
      · rw [List.length_append, List.length_append]; omega
      · refine ⟨sm.trans (sm3.trans ((Sam2.of sm4).trans sm5)), ?_, ?_, _, _, _, rfl⟩
        · rw [hF5, tk, frR_app, show frR S [p] = frP S p ++ [] from rfl, List.append_nil, frP_eq S p]
          simp only [List.append_assoc]
        · rw [hB5, tk, bdR_app, show bdR [p] = bdP p ++ [] from rfl, List.append_nil, bdP_eq p]
          simp only [List.append_assoc]
  · obtain ⟨sm, hF1, hB1, s4, s5, s6, rfl⟩ := hP
    rw [lx, List.take_length] at hF1 hB1
    exact q H' sm hF1 hB1
theorem gather_none {f : Addr} {fd : FuncData} {k : Nat} : FnOk P w K mg base CX0 k f fd ps4g (spGather 0) := by
  have no : ∀ vs H Q E, ¬ spGather 0 vs H Q E := fun vs H Q E h => by
    obtain ⟨_, _, _, _, _, _, _, _, _, _, _, _, _, _, h1, _⟩ := h
    omega
  exact ⟨fun vs H Q E h => absurd h (no vs H Q E), fun A outer s H args us vs Q E _ _ _ _ h => absurd h (no vs H Q E)⟩
theorem gather_ok {f fC fB fR : Addr} {fd fdC fdB fdR : FuncData} (F : Fun K "gather_callings" "gather_callings" sGather f fd)
    (GC : FnOk P w K mg base CX0 1 fC fdC ["part"] spCalling) (bC : Binds K fdC ["part"] []) (kC : PySem.W.keepIn K (.ref fC) = true) (mC : mg "calling_of" = some (.ref fC))
    (GB : FnOk P w K mg base CX0 1 fB fdB ["part"] spBinder) (bB : Binds K fdB ["part"] []) (kB : PySem.W.keepIn K (.ref fB) = true) (mB : mg "is_binder" = some (.ref fB))
    (GR : FnOk P w K mg base CX0 1 fR fdR ["part"] spRest) (bR : Binds K fdR ["part"] []) (kR : PySem.W.keepIn K (.ref fR) = true) (mR : mg "rest_of" = some (.ref fR))
    (bF : Binds K fd ps4g []) (mF : mg "gather_callings" = some (.ref f)) : ∀ n : Nat, FnOk P w K mg base CX0 (n + 1) f fd ps4g (spGather n)
  | 0 => gather_none
  | n + 1 => ok_gather F GC bC kC mC GB bB kB mB GR bR kR mR (gather_ok F GC bC kC mC GB bB kB mB GR bR kR mR bF mF n) bF mF
theorem ok_callings {f fG : Addr} {fd fdG : FuncData} {n : Nat} (F : Fun K "callings_of" "callings_of" sCallings f fd)
    (G : FnOk P w K mg base CX0 (n + 1) fG fdG ps4g (spGather n)) (bG : Binds K fdG ps4g []) (kG : PySem.W.keepIn K (.ref fG) = true) (mG : mg "gather_callings" = some (.ref fG)) : FnOk P w K mg base CX0 (n + 1 + 1) f fd ["row"] (spCallings n) := by
  refine F.ok scCallings (fun vs H Q E h => ?_) (fun cdv A outer s H vs Q E hr h => ?_)
  · obtain ⟨_, _, rfl, _⟩ := h
    rfl
  obtain ⟨v, r, rfl, hR, hd, hs, hd2, q⟩ := h
  refine ⟨_, pss_cons (ps_set (i := 1) scCallings.nd rfl (.inl rfl) (pe_lst pa_nil)) (pss_cons (ps_set (i := 2) scCallings.nd rfl (.inl rfl) (pe_lst pa_nil))
    (pss_cons (ps_expr (pe_call G hr (by rfl) mG kG bG .nil pass0 (pa_cons (pv 0) (pa_cons (pe_tup pa_nil) (pa_cons (pv 1) (pa_cons (pv 2) pa_nil))))))
    (pss_one (ps_ret (pe_tup (pa_cons (pv 1) (pa_cons (pv 2) pa_nil))))))), ?_⟩
  refine ⟨(show 0 ≤ sizeLine by decide), fun Fl nF => ?_⟩
  refine ⟨(show 0 ≤ sizeLine by decide), fun Bl nB => ?_⟩
  have hne : Fl ≠ Bl := fun z => by rw [← z, upd_same] at nB; cases nB
  have nB0 : H Bl = none := by rw [← nB, upd_ne (Ne.symm hne)]
  refine ⟨_, rfl, (show 0 ≤ sizeLine by decide), fun t nt => ?_⟩
  have k3 : ∀ b o, H b = some o → upd (upd (upd H Fl (.lst [])) Bl (.lst [])) t (.tup []) b = some o := fun b o e => kn (kn (kn e nF) nB) nt
  refine ⟨_, rfl, _, rfl, v, r, t, Fl, Bl, [], [], [], rfl, RowAt.mono (fun a xs e => k3 a _ e) hR, upd_same, kn (kn upd_same nB) nt, kn upd_same nt, hne, hd, hs, hs, by simpa using hd2, fun H' sm hF hB => ?_⟩
  refine ⟨_, rfl, _, rfl, (show 2 ≤ sizeLine by decide), fun u nu => ?_⟩
  refine q _ u Fl Bl (fun b o e => kn (sm b o (fun z => by rw [z, nF] at e; cases e) (fun z => by rw [z, nB0] at e; cases e) (k3 b o e)) nu) nF nB0 hne upd_same (kn hF nu) (kn hB nu)
end
end K52

set_option Elab.async false
set_option linter.all false
set_option maxRecDepth 100000
set_option maxHeartbeats 400000
namespace K52
open PySem PySem.Spec PyProof.Rows L2 Wk GxR
abbrev sAll : Stmt := topS 15
abbrev nmAll : List Str := ["lists", "place", "met", "todo", "inner", "other"]
theorem scAll : FnScope nmAll ["lists", "place"] (defScope sAll) := ⟨rfl, rfl, rfl, by decide +kernel, rfl, by decide +kernel, by decide +kernel⟩
section
variable {P : Program} {w : World} {K : PySem.W.Frag} {mg : Str → Option Value} {base : Heap}
theorem ok_all {f : Addr} {fd : FuncData} {k : Nat} (F : Fun K "all_within" "all_within" sAll f fd) (ml : mg "list" = none) : FnOk P w K mg base CX0 (k + 1) f fd ["lists", "place"] spAllWithin := by
  refine F.ok scAll (fun vs H Q E h => ?_) (fun cdv A outer s H vs Q E hr h => ?_)
  · obtain ⟨_, _, _, _, _, rfl, _⟩ := h
    rfl
  obtain ⟨d, kvs, g, U, b, rfl, hd, hg, hU, lU, lg, q⟩ := h
  have hu := Nat.lt_of_le_of_lt (Nat.add_le_add_left (show 1 ≤ 64 by decide) _) hr.units
  refine ⟨_, pss_cons (ps_set (i := 2) scAll.nd rfl (.inl rfl) pe_dnewK)
    (pss_cons (ps_set (i := 3) scAll.nd rfl (.inl rfl) (pe_lst (pa_cons (pv 1) pa_nil)))
    (pss_cons (ps_while PassesOwn.never (pt_truth (pv 3) (by intro _; rfl))
      (pss_cons (ps_set (i := 4) scAll.nd rfl (.inl rfl) (pe_bm0 PySem.F.plainAttrs_list PySem.F.slot_list_pop PySem.F.type_list_pop mt_pop (pv 3)))
      (pss_one (ps_for PassesOwn.never rfl (pi_list (pe_dget2 hu (pv 0) (pv 4) (pe_lst pa_nil) ⟨rfl, rfl, rfl, rfl⟩)) (pg_name (i := 5) scAll.nd rfl (.inl rfl))
        (pss_one (ps_if (pt_cmp (pc_dnotin hu (pv 5) (pv 2))) (pss_cons (ps_dput hu (pv 2) (pv 5) pe_bl rfl)
          (pss_one (ps_expr (pe_bm PySem.F.plainAttrs_list PySem.F.slot_list_append PySem.F.type_list_append mt_append (pv 3) (pa_cons (pv 5) pa_nil))))) pss_nil))))))
    (pss_one (ps_ret (pe_callTy (call_list_dK rfl) (by rfl) ml (by decide +kernel) (pa_cons (pv 2) pa_nil)))))), ?_⟩
  intro m nm
  refine ⟨_, rfl, (show 1 ≤ sizeLine by decide), fun t nt => ?_⟩
  have ne : t ≠ m := fun z => by rw [z, upd_same] at nt; cases nt
  have nt0 : H t = none := by rw [← nt, upd_ne ne]
  have s0 : MetS g b H m t [] [b] (upd (upd H m (.dK [])) t (.lst [.str b])) := ⟨fun a o e => kn (kn e nm) nt, kn upd_same nt, upd_same, List.nodup_nil, (fun x hx => nomatch hx), (fun x hx => .inl (List.mem_singleton.mp hx)), Nat.le_refl 1⟩
  refine ⟨fun n σ H' => ∃ (M T : List Str) (s4 s5 : Option V), σ = [some (.ref d), some (.str b), some (.ref m), some (.ref t), s4, s5] ∧ MetS g b H m t M T H' ∧ (∀ p, p = b ∨ p ∈ M → p ∈ T ∨ ∀ x ∈ g p, x ∈ M) ∧ n = 2 * (U.length - M.length) + T.length,
    ⟨_, [], [b], _, _, rfl, s0, (fun p hp => .inl (hp.elim (fun e => by rw [e]; exact List.mem_singleton.mpr rfl) (fun z => nomatch z))), rfl⟩, ?_⟩
  rintro n σ H1 ⟨M, T, s4, s5, rfl, hS, hcl, rfl⟩
  have lM : M.length ≤ U.length := sub_len M U hS.nd fun x hx => rch_univ hU (hS.ok x hx)
  refine ⟨_, rfl, _, .inl ⟨_, SqL.of hS.ht, rfl⟩, ?_⟩
  rcases List.eq_nil_or_concat T with rfl | ⟨T0, p, rfl⟩
  · refine iteF ?_
    refine ⟨_, rfl, m, _, rfl, hS.hm, fun q' nq => ?_⟩
    rw [met_keys]
    refine q _ q' M (fun a o e => kn (hS.sm _ _ e) nq) upd_same (rch_met hS.ok (fun x hx => ?_) (fun p hp x hx => ?_)) hS.nd
    · exact (hcl b (.inl rfl)).elim (fun z => nomatch z) (fun z => z x hx)
    · exact (hcl p (.inr hp)).elim (fun z => nomatch z) (fun z => z x hx)
  rw [List.concat_eq_append] at *
  refine iteU (by rw [List.map_append]; cases T0 <;> rfl) ?_
  refine ⟨_, fun σ' H' h => h, ?_⟩
  have em : (T0 ++ [p]).map V.str = T0.map V.str ++ [.str p] := by rw [List.map_append]; rfl
  have ht := hS.ht
  rw [em] at ht
  refine ⟨_, rfl, .inl ⟨rfl, _, SqL.of ht⟩, t, _, .str p, rfl, rfl, ht, ?_, ?_⟩
  · rw [List.length_append, List.length_singleton, Nat.add_sub_cancel, List.getElem?_append_right (Nat.le_refl _), Nat.sub_self]
    rfl
  rw [List.dropLast_concat]
  have hS2 := hS.pop nt0 ne
  have pOk : p = b ∨ RchP g b p := (hS.tod p (List.mem_append_right _ (List.mem_singleton.mpr rfl))).imp id (hS.ok p)
  generalize upd H1 t (.lst (T0.map V.str)) = H2 at *
  have hd2 := hS2.sm _ _ hd
  refine ⟨_, rfl, d, rfl, .inl ⟨kvs, .inl hd2⟩, _, rfl, (show 0 ≤ sizeLine by decide), fun e0 ne0 => ?_⟩
  refine ⟨_, DGet.k (k := Sum.inr p) (kn hd2 ne0), ?_⟩
  have hS3 := hS2.new (o := .lst []) ne0
  have he0 : upd H2 e0 (.lst []) e0 = some (.lst []) := upd_same
  have et : e0 ≠ t := Ne.symm (ne_of_none hS2.ht ne0)
  generalize upd H2 e0 (.lst []) = H3 at *
  -- the list that is gone through
  obtain ⟨l, el, hl, lt⟩ : ∃ l, (valV kvs (Sum.inr p)).getD (.ref e0) = .ref l ∧ H3 l = some (.lst ((g p).map V.str)) ∧ l ≠ t := by
    rcases hg p with ⟨l, h1, h2⟩ | ⟨h1, h2⟩
    · exact ⟨l, by rw [h1]; rfl, hS3.sm _ _ h2, ne_of_none h2 nt0⟩
    · exact ⟨e0, by rw [h1]; rfl, by rw [h2]; exact he0, et⟩
  rw [el]
  have lm : l ≠ m := fun z => by rw [z, hS3.hm] at hl; cases hl
  refine ⟨l, rfl, ⟨_, SqL.of hl⟩, for_it (walk_list (xs := (g p).map V.str)) (fun i σ H' => ∃ (M' T' : List Str) (s5 : Option V), σ = [some (.ref d), some (.str b), some (.ref m), some (.ref t), some (.str p), s5] ∧ MetS g b H m t M' T' H' ∧ H' l = some (.lst ((g p).map V.str)) ∧
      (∀ x ∈ M, x ∈ M') ∧ (∀ x ∈ T0, x ∈ T') ∧ (∀ x ∈ M', x ∈ M ∨ x ∈ T') ∧ (∀ x ∈ (g p).take i, x ∈ M') ∧ M.length + T'.length = M'.length + T0.length)
    ⟨M, T0, _, rfl, hS3, hl, (fun x hx => hx), (fun x hx => hx), (fun x hx => .inl hx), (fun x hx => nomatch hx), rfl⟩ (fun i σ H' _ hP => ?_) (fun i x σ H4 H5 hi hP hY => ?_) (fun σ H' hP => ?_)⟩
  · obtain ⟨_, _, _, _, _, h, _⟩ := hP
    exact SqL.of h
  · obtain ⟨M', T', s5, rfl, hS4, hl4, a1, a2, a3, a4, a5⟩ := hP
    obtain ⟨rfl, hx⟩ := hY
    rw [List.getElem?_map] at hx
    obtain ⟨z, hz, rfl⟩ := Option.map_eq_some_iff.mp hx
    have zg : z ∈ g p := List.mem_of_getElem? hz
    have tk : (g p).take (i + 1) = (g p).take i ++ [z] := by rw [List.take_add_one, hz]; rfl
    have rz : RchP g b z := pOk.elim (fun e => by rw [e] at zg; exact .one zg) (fun h => .step h zg)
    refine ⟨_, rfl, _, rfl, m, _, rfl, DGet.k (k := Sum.inr z) hS4.hm, _, rfl, ?_⟩
    by_cases c : z ∈ M'
    · rw [met_some c]
      refine iteF ⟨M', T', _, rfl, hS4, hl4, a1, a2, a3, fun x hx => ?_, a5⟩
      rw [tk] at hx
      rcases List.mem_append.mp hx with h | h
      · exact a4 x h
      · rw [List.mem_singleton.mp h]; exact c
    · rw [met_none c]
      refine iteT ?_
      have lM' : M'.length ≤ U.length := sub_len M' U hS4.nd fun x hx => rch_univ hU (hS4.ok x hx)
      refine ⟨_, rfl, _, rfl, m, _, rfl, DPut.k (k := Sum.inr z) hS4.hm (by rw [met_len]; exact Nat.lt_of_le_of_lt lM' (Nat.lt_of_le_of_lt lU (show 400 < sizeLine by decide))), ?_⟩
      rw [met_put c]
      have ht4 : upd H5 m (.dK (metK (M' ++ [z]))) t = some (.lst (T'.map V.str)) := by rw [upd_ne ne]; exact hS4.ht
      have lT := hS4.len
      refine ⟨_, rfl, .inl ⟨rfl, _, SqL.of ht4⟩, _, rfl, t, _, _, rfl, rfl, ht4, small1000 (by rw [List.length_map]; omega), ?_⟩
      refine ⟨M' ++ [z], T' ++ [z], _, rfl, hS4.put nm nt0 ne c rz, ?_, (fun x hx => List.mem_append_left _ (a1 x hx)), (fun x hx => List.mem_append_left _ (a2 x hx)), fun x hx => ?_, fun x hx => ?_, ?_⟩
      · rw [upd_ne lt, upd_ne lm]; exact hl4
      · rcases List.mem_append.mp hx with h | h
        · exact (a3 x h).imp id fun w => List.mem_append_left _ w
        · exact .inr (List.mem_append_right _ h)
      · rw [tk] at hx
        rcases List.mem_append.mp hx with h | h
        · exact List.mem_append_left _ (a4 x h)
        · exact List.mem_append_right _ h
      · rw [List.length_append, List.length_append]
        show M.length + (T'.length + 1) = M'.length + 1 + T0.length
        omega
  · obtain ⟨M', T', s5, rfl, hS4, _, a1, a2, a3, a4, a5⟩ := hP
    rw [List.length_map, List.take_length] at a4
    have lM' : M'.length ≤ U.length := sub_len M' U hS4.nd fun x hx => rch_univ hU (hS4.ok x hx)
    have l0 : M.length ≤ M'.length := sub_len M M' hS.nd a1
    refine ⟨_, ?_, M', T', _, _, rfl, hS4, fun x hx => ?_, rfl⟩
    · rw [List.length_append, List.length_singleton]
      omega
    · by_cases cp : x = p
      · exact .inr fun y hy => by rw [cp] at hy; exact a4 y hy
      have base : x = b ∨ x ∈ M → x ∈ T' ∨ ∀ y ∈ g x, y ∈ M' := fun h => by
        rcases hcl x h with z | z
        · rcases List.mem_append.mp z with z | z
          · exact .inl (a2 x z)
          · exact absurd (List.mem_singleton.mp z) cp
        · exact .inr fun y hy => a1 y (z y hy)
      rcases hx with e | e
      · exact base (.inl e)
      · exact (a3 x e).elim (fun z => base (.inr z)) .inl
end
end K52

set_option Elab.async false
set_option linter.all false
set_option maxRecDepth 100000
set_option maxHeartbeats 1000000
namespace K52
open PySem PySem.Spec PyProof.Rows L2 Wk GxR
abbrev sFree : Stmt := topS 6
abbrev sBound : Stmt := topS 7
abbrev sPlaces : Stmt := topS 13
theorem scFree : FnScope ["row", "free", "bound"] ["row"] (defScope sFree) := ⟨rfl, rfl, rfl, by decide +kernel, rfl, by decide +kernel, by decide +kernel⟩
theorem scBound : FnScope ["house", "free", "bound"] ["house"] (defScope sBound) := ⟨rfl, rfl, rfl, by decide +kernel, rfl, by decide +kernel, by decide +kernel⟩
theorem scPlaces : FnScope ["house"] ["house"] (defScope sPlaces) := ⟨rfl, rfl, rfl, by decide +kernel, rfl, by decide +kernel, by decide +kernel⟩
section
variable {P : Program} {w : World} {K : PySem.W.Frag} {mg : Str → Option Value} {base : Heap}
theorem ok_free {f fC : Addr} {fd fdC : FuncData} {n k : Nat} (F : Fun K "free_in" "free_in" sFree f fd) (ms : mg "set" = none) (mo : mg "sorted" = none)
    (G : FnOk P w K mg base CX0 k fC fdC ["row"] (spCallings n)) (bC : Binds K fdC ["row"] []) (kC : PySem.W.keepIn K (.ref fC) = true) (mC : mg "callings_of" = some (.ref fC)) : FnOk P w K mg base CX0 (k + 1) f fd ["row"] (spSorted (frR []) n) := by
  refine F.ok scFree (fun vs H Q E h => ?_) (fun cdv A outer s H vs Q E hr h => ?_)
  · obtain ⟨_, _, rfl, _⟩ := h
    rfl
  obtain ⟨v, r, rfl, hR, hd, hs, hd2, h64, q⟩ := h
  refine ⟨_, pss_cons (ps_asg (pe_call G hr (by rfl) mC kC bC .nil pass0 (pa_cons (pv 0) pa_nil)) (pg_tup rfl (pgs_cons (pg_name (i := 1) scFree.nd rfl (.inl rfl)) (pgs_cons (pg_name (i := 2) scFree.nd rfl (.inl rfl)) pgs_nil))))
    (pss_one (ps_ret (pe_callB (cr_sortedTx rfl) (by rfl) mo (by decide +kernel) (pa_cons (pe_callTy (cr_setTx rfl) (by rfl) ms (by decide +kernel) (pa_cons (pv 1) pa_nil)) pa_nil)))), ?_⟩
  refine ⟨_, rfl, v, r, rfl, hR, hd, hs, hd2, fun H1 t Fl Bl sm nF nB hne ht hF hB => ?_⟩
  refine ⟨t, _, rfl, SqT.of ht, rfl, _, _, rfl, _, _, rfl, rfl, ?_⟩
  have ln : (frR [] r).length + 1 < scanBound := by
    have := frR_len r []
    have e : scanBound = 4096 := rfl
    omega
  refine ⟨_, rfl, Fl, frR [] r, rfl, SqL.of hF, ln, fun p L np nd hm _ => ?_⟩
  refine ⟨p, L, rfl, upd_same, h64 L nd hm, fun ys u pm so nu => ?_⟩
  have sm2 : Same H (upd (upd H1 p (TxO P w p L)) u (.lst (ys.map V.str))) := fun b o e => kn (kn (sm b o e) np) nu
  refine q _ u ys sm2 ?_ (pm.nodup_iff.mpr nd) (fun x => by rw [pm.mem_iff, hm x]) so upd_same
  cases e : H u with
  | none => rfl
  | some o => rw [kn (sm u o e) np] at nu; cases nu
theorem ok_bound {f fC : Addr} {fd fdC : FuncData} {n k : Nat} (F : Fun K "bound_in" "bound_in" sBound f fd) (ms : mg "set" = none) (mo : mg "sorted" = none)
    (G : FnOk P w K mg base CX0 k fC fdC ["row"] (spCallings n)) (bC : Binds K fdC ["row"] []) (kC : PySem.W.keepIn K (.ref fC) = true) (mC : mg "callings_of" = some (.ref fC)) : FnOk P w K mg base CX0 (k + 1) f fd ["house"] (spSorted bdR n) := by
  refine F.ok scBound (fun vs H Q E h => ?_) (fun cdv A outer s H vs Q E hr h => ?_)
  · obtain ⟨_, _, rfl, _⟩ := h
    rfl
  obtain ⟨v, r, rfl, hR, hd, hs, hd2, h64, q⟩ := h
  refine ⟨_, pss_cons (ps_asg (pe_call G hr (by rfl) mC kC bC .nil pass0 (pa_cons (pv 0) pa_nil)) (pg_tup rfl (pgs_cons (pg_name (i := 1) scBound.nd rfl (.inl rfl)) (pgs_cons (pg_name (i := 2) scBound.nd rfl (.inl rfl)) pgs_nil))))
    (pss_one (ps_ret (pe_callB (cr_sortedTx rfl) (by rfl) mo (by decide +kernel) (pa_cons (pe_callTy (cr_setTx rfl) (by rfl) ms (by decide +kernel) (pa_cons (pv 2) pa_nil)) pa_nil)))), ?_⟩
  refine ⟨_, rfl, v, r, rfl, hR, hd, hs, hd2, fun H1 t Fl Bl sm nF nB hne ht hF hB => ?_⟩
  refine ⟨t, _, rfl, SqT.of ht, rfl, _, _, rfl, _, _, rfl, rfl, ?_⟩
  have ln : (bdR r).length + 1 < scanBound := by
    have := bdR_len r
    have e : scanBound = 4096 := rfl
    omega
  refine ⟨_, rfl, Bl, bdR r, rfl, SqL.of hB, ln, fun p L np nd hm _ => ?_⟩
  refine ⟨p, L, rfl, upd_same, h64 L nd hm, fun ys u pm so nu => ?_⟩
  have sm2 : Same H (upd (upd H1 p (TxO P w p L)) u (.lst (ys.map V.str))) := fun b o e => kn (kn (sm b o e) np) nu
  refine q _ u ys sm2 ?_ (pm.nodup_iff.mpr nd) (fun x => by rw [pm.mem_iff, hm x]) so upd_same
  cases e : H u with
  | none => rfl
  | some o => rw [kn (sm u o e) np] at nu; cases nu
/-- the places: the house's own row, its free names, its own -/
def spPlaces (n : Nat) : Sp := fun vs H Q _ => ∃ (v : V) (r : List Part), vs = [v] ∧ RowAt H r v ∧ deepR r < n ∧ sizeR r ≤ 1000 ∧ deepR r ≤ 1000 ∧ (∀ L : List Str, L.Nodup → (∀ x ∈ L, x ∈ frR [] r ∨ x ∈ bdR r) → L.length < 64) ∧
  ∀ (H' : Hp) (p : Addr) (ys zs : List Str), Same H H' → H p = none → ys.Nodup → zs.Nodup → (∀ x, x ∈ ys ↔ x ∈ frR [] r) → (∀ x, x ∈ zs ↔ x ∈ bdR r) → H' p = some (.lst (((("." : Str) :: ys) ++ zs).map V.str)) → Q (.ref p) H'
theorem ok_places {f fF fB : Addr} {fd fdF fdB : FuncData} {n k : Nat} {tA : Tok} (F : Fun K "places_of" "places_of" sPlaces f fd) (mA : mg "AROUND" = some (.str "." tA))
    (GF : FnOk P w K mg base CX0 k fF fdF ["row"] (spSorted (frR []) n)) (bF : Binds K fdF ["row"] []) (kF : PySem.W.keepIn K (.ref fF) = true) (mF : mg "free_in" = some (.ref fF))
    (GB : FnOk P w K mg base CX0 k fB fdB ["house"] (spSorted bdR n)) (bB : Binds K fdB ["house"] []) (kB : PySem.W.keepIn K (.ref fB) = true) (mB : mg "bound_in" = some (.ref fB)) : FnOk P w K mg base CX0 (k + 1) f fd ["house"] (spPlaces n) := by
  refine F.ok scPlaces (fun vs H Q E h => ?_) (fun cdv A outer s H vs Q E hr h => ?_)
  · obtain ⟨_, _, rfl, _⟩ := h
    rfl
  obtain ⟨v, r, rfl, hR, hd, hs, hd2, h64, q⟩ := h
  refine ⟨_, pss_one (ps_ret (pe_lst (pa_cons (pe_glob (v := .str ".") (by rfl) mA ⟨_, rfl⟩) (StX.pa_star (pe_call GF hr (by rfl) mF kF bF .nil pass0 (pa_cons (pv 0) pa_nil)) (StX.pa_star (pe_call GB hr (by rfl) mB kB bB .nil pass0 (pa_cons (pv 0) pa_nil)) pa_nil))))), ?_⟩
  refine ⟨_, rfl, v, r, rfl, hR, hd, hs, hd2, fun L nd h => h64 L nd fun x hx => .inl ((h x).mp hx), fun H1 p1 ys sm1 np1 nd1 m1 so1 h1 => ?_⟩
  refine ⟨p1, _, rfl, .inr (SqL.of h1), ?_⟩
  refine ⟨_, rfl, v, r, rfl, hR.mono (STup.of sm1), hd, hs, hd2, fun L nd h => h64 L nd fun x hx => .inr ((h x).mp hx), fun H2 p2 zs sm2 np2 nd2 m2 so2 h2 => ?_⟩
  refine ⟨p2, _, rfl, .inr (SqL.of h2), ?_⟩
  have l1 : ys.length < 64 := h64 ys nd1 fun x hx => .inl ((m1 x).mp hx)
  have l2 : zs.length < 64 := h64 zs nd2 fun x hx => .inr ((m2 x).mp hx)
  refine ⟨Nat.le_of_lt (small1000 (by simp only [List.length_append, List.length_cons, List.length_map, List.length_nil]; omega)), fun p np => ?_⟩
  have np0 : H p = none := by
    cases e : H p with
    | none => rfl
    | some o => rw [sm2 _ _ (sm1 _ _ e)] at np; cases np
  refine q _ p ys zs ((sm1.trans sm2).trans (same_new np)) np0 nd1 nd2 m1 m2 ?_
  rw [upd_same]
  simp only [List.map_append, List.map_cons, List.append_assoc, List.cons_append, List.nil_append, List.append_nil]
end
end K52

set_option Elab.async false
set_option linter.all false
set_option maxRecDepth 100000
set_option maxHeartbeats 1000000
namespace K52
open PySem PySem.Spec PyProof.Rows L2 Wk GxR
abbrev sUsesIn : Stmt := topS 14
abbrev nmUses : List Str := ["house", "told", "todo", "place", "row", "part", "word", "calling"]
theorem scUses : FnScope nmUses ["house"] (defScope sUsesIn) := ⟨rfl, rfl, rfl, by decide +kernel, rfl, by decide +kernel, by decide +kernel⟩
section
variable {P : Program} {w : World} {K : PySem.W.Frag} {mg : Str → Option Value} {base : Heap}
theorem ok_uses {f fC fR tU : Addr} {fd fdC fdR : FuncData} {tA : Tok} (F : Fun K "uses_in" "uses_in" sUsesIn f fd) (mA : mg "AROUND" = some (.str "." tA)) (mU : mg "USE_WORDS" = some (.ref tU)) (hU : ∀ H, SqT K H tU useW)
    (GC : FnOk P w K mg base CX0 1 fC fdC ["part"] spCalling) (bC : Binds K fdC ["part"] []) (kC : PySem.W.keepIn K (.ref fC) = true) (mC : mg "calling_of" = some (.ref fC))
    (GR : FnOk P w K mg base CX0 1 fR fdR ["part"] spRest) (bR : Binds K fdR ["part"] []) (kR : PySem.W.keepIn K (.ref fR) = true) (mR : mg "rest_of" = some (.ref fR)) : FnOk P w K mg base CX0 2 f fd ["house"] spUsesIn := by
  refine F.ok scUses (fun vs H Q E h => ?_) (fun cdv A outer s H vs Q E hr h => ?_)
  · obtain ⟨_, _, rfl, _⟩ := h
    rfl
  obtain ⟨v, r, rfl, hR, lr, q⟩ := h
  refine ⟨_, pss_cons (ps_set (i := 1) scUses.nd rfl (.inl rfl) (pe_lst pa_nil))
    (pss_cons (ps_set (i := 2) scUses.nd rfl (.inl rfl) (pe_lst (pa_cons (pe_tup (pa_cons (pe_glob (v := .str ".") (by rfl) mA ⟨_, rfl⟩) (pa_cons (pv 0) pa_nil))) pa_nil)))
    (pss_cons (ps_while PassesOwn.never (pt_truth (pv 2) (by intro _; rfl))
      (pss_cons (ps_asg (pe_bm0 PySem.F.plainAttrs_list PySem.F.slot_list_pop PySem.F.type_list_pop mt_pop (pv 2)) (pg_tup rfl (pgs_cons (pg_name (i := 3) scUses.nd rfl (.inl rfl)) (pgs_cons (pg_name (i := 4) scUses.nd rfl (.inl rfl)) pgs_nil))))
      (pss_one (ps_for PassesOwn.never rfl (pi_tup (pv 4)) (pg_name (i := 5) scUses.nd rfl (.inl rfl))
        (pss_cons (ps_set (i := 6) scUses.nd rfl (.inl rfl) (pe_ix ix_tup (pv 5) pe_int (fun _ _ => rfl)))
        (pss_cons (ps_set (i := 7) scUses.nd rfl (.inl rfl) (pe_call GC hr (by rfl) mC kC bC .nil pass0 (pa_cons (pv 5) pa_nil)))
        (C8.pss_cut (ps_if (pt_cmpR op_in_seq (pv 6) (pe_glob (v := .ref tU) (by rfl) mU rfl) rfl) (pss_one (ps_expr (pe_bm PySem.F.plainAttrs_list PySem.F.slot_list_append PySem.F.type_list_append mt_append (pv 1) (pa_cons (pe_tup (pa_cons (pv 3) (pa_cons (pv 6) (pa_cons (pv 7) pa_nil)))) pa_nil)))) pss_nil)
        (pss_one (ps_expr (pe_bm PySem.F.plainAttrs_list PySem.F.slot_list_append PySem.F.type_list_append mt_append (pv 2) (pa_cons (pe_tup (pa_cons (pe_ifExp (pt_cmpR op_eq (pv 6) pe_str (nomark _)) (pv 7) (pv 3)) (pa_cons (pe_call GR hr (by rfl) mR kR bR .nil pass0 (pa_cons (pv 5) pa_nil)) pa_nil))) pa_nil)))))))))))
    (pss_one (ps_ret (pv 1))))), ?_⟩
  refine ⟨(show 0 ≤ sizeLine by decide), fun Tl nT => ?_⟩
  refine ⟨_, rfl, (show 2 ≤ sizeLine by decide), fun t0 nt0 => ?_⟩
  refine ⟨(show 1 ≤ sizeLine by decide), fun Dl nD => ?_⟩
  have ne : Tl ≠ Dl := fun z => by rw [← z] at nD; rw [kn upd_same nt0] at nD; cases nD
  have nT0 : H Tl = none := nT
  have nD0 : H Dl = none := by
    cases e : H Dl with
    | none => rfl
    | some o => rw [kn (kn e nT) nt0] at nD; cases nD
  have i0 : Sam2 Tl Dl H (upd (upd (upd H Tl (.lst [])) t0 (.tup [.str ".", v])) Dl (.lst [.ref t0])) := fun b o n1 n2 e => kn (kn (kn e nT) nt0) nD
  have iT : (upd (upd (upd H Tl (.lst [])) t0 (.tup [.str ".", v])) Dl (.lst [.ref t0])) Tl = some (.lst []) := kn (kn upd_same nt0) nD
  have iD : (upd (upd (upd H Tl (.lst [])) t0 (.tup [.str ".", v])) Dl (.lst [.ref t0])) Dl = some (.lst [.ref t0]) := upd_same
  have iP : PlsAt (upd (upd (upd H Tl (.lst [])) t0 (.tup [.str ".", v])) Dl (.lst [.ref t0])) [(".", r)] [.ref t0] := ⟨t0, v, [], rfl, kn upd_same nD, hR.mono (fun a xs e => kn (kn (kn e nT) nt0) nD), rfl⟩
  refine ⟨fun n σ H' => ∃ (us : List Use3) (td : List PlR) (xs ys : List V) (s3 s4 s5 s6 s7 : Option V), σ = [some v, some (.ref Tl), some (.ref Dl), s3, s4, s5, s6, s7] ∧ Sam2 Tl Dl H H' ∧ H' Tl = some (.lst xs) ∧ H' Dl = some (.lst ys) ∧ EnsU H' us xs ∧ PlsAt H' td ys ∧
      us.length + leftS td ≤ sizeR r ∧ leftN td ≤ sizeR r + 1 ∧ (∀ u, (u ∈ us ∨ leftU td u) ↔ u ∈ usesR "." r) ∧ n = leftN td,
    ⟨_, [], [(".", r)], _, _, _, _, _, _, _, rfl, i0, iT, iD, rfl, iP, (by show 0 + (sizeR r + 0) ≤ sizeR r; omega), (by show 1 + sizeR r + 0 ≤ sizeR r + 1; omega), (fun u => ⟨fun h => ?_, fun h => .inr ⟨_, List.mem_singleton.mpr rfl, h⟩⟩), rfl⟩, ?_⟩
  · rcases h with h | ⟨q', hq, h⟩
    · cases h
    · rw [List.mem_singleton.mp hq] at h; exact h
  clear iP iD iT i0 nD nt0
  rintro n σ H1 ⟨us, td, xs, ys, s3, s4, s5, s6, s7, rfl, sm, hT, hD, hE, hP, ln, ln2, hu, rfl⟩
  refine ⟨_, rfl, _, .inl ⟨_, SqL.of hD, rfl⟩, ?_⟩
  rcases List.eq_nil_or_concat td with rfl | ⟨td0, z, rfl⟩
  · rw [show ys = [] from hP]
    refine iteF ?_
    refine ⟨_, rfl, ?_⟩
    refine q H1 Tl us xs (fun b o e => sm b o (fun z => by rw [z, nT0] at e; cases e) (fun z => by rw [z, nD0] at e; cases e) e) nT0 hT hE (by have : leftS ([] : List PlR) = 0 := rfl; omega) (fun u => ?_)
    rw [← hu u]
    exact ⟨.inl, fun h => h.elim id fun ⟨q', hq, _⟩ => nomatch hq⟩
  rw [List.concat_eq_append] at *
  obtain ⟨ys0, b, rv, rfl, hb, hrv, hP0⟩ := hP.last
  refine iteU (by cases ys0 <;> rfl) ?_
  refine ⟨_, fun σ' H' h => h, ?_⟩
  refine ⟨_, rfl, .inl ⟨rfl, _, SqL.of hD⟩, Dl, _, .ref b, rfl, rfl, hD, ?_, ?_⟩
  · rw [List.length_append, List.length_singleton, Nat.add_sub_cancel, List.getElem?_append_right (Nat.le_refl _), Nat.sub_self]
    rfl
  rw [List.dropLast_concat]
  have st : STup H1 (upd H1 Dl (.lst ys0)) := STup.lst hD
  have hT2 : upd H1 Dl (.lst ys0) Tl = some (.lst xs) := by rw [upd_ne ne]; exact hT
  have hD2 : upd H1 Dl (.lst ys0) Dl = some (.lst ys0) := upd_same
  have sm2 : Sam2 Tl Dl H (upd H1 Dl (.lst ys0)) := fun c o n1 n2 e => by rw [upd_ne n2]; exact sm c o n1 n2 e
  have hE2 := hE.tup st
  have hP2 := hP0.tup st
  have hb2 := st _ _ hb
  have hrv2 := hrv.mono st
  generalize upd H1 Dl (.lst ys0) = H2 at *
  obtain ⟨pl, rr⟩ := z
  refine ⟨b, _, rfl, SqT.of hb2, rfl, _, _, rfl, _, _, rfl, rfl, ?_⟩
  have hrv2 : RowAt H2 rr rv := hrv2
  obtain ⟨ra, rx, rfl, hra, hps⟩ := hrv2
  have lx := PartsAt.len hps
  have eN : leftN [(pl, rr)] = 1 + sizeR rr + 0 := rfl
  have eS : leftS [(pl, rr)] = sizeR rr + 0 := rfl
  rw [leftN_app, eN] at ln2
  rw [leftS_app, eS] at ln
  refine ⟨_, rfl, ra, rfl, ⟨_, SqT.of hra⟩, for_it (walk_tup (xs := rx)) (fun i σ H' => ∃ (us' : List Use3) (td' : List PlR) (xs' ys' : List V) (s5 s6 s7 : Option V), σ = [some v, some (.ref Tl), some (.ref Dl), some (.str pl), some (.ref ra), s5, s6, s7] ∧ Sam2 Tl Dl H2 H' ∧ H' Tl = some (.lst xs') ∧ H' Dl = some (.lst ys') ∧ EnsU H' us' xs' ∧ PlsAt H' td' ys' ∧
      us'.length + leftS td' ≤ us.length + leftS td0 + sizeR (rr.take i) ∧ leftN td' ≤ leftN td0 + sizeR (rr.take i) ∧ (∀ u, (u ∈ us' ∨ leftU td' u) ↔ ((u ∈ us ∨ leftU td0 u) ∨ u ∈ usesR pl (rr.take i))))
    ⟨us, td0, xs, ys0, _, _, _, rfl, (fun _ _ _ _ e => e), hT2, hD2, hE2, hP2, (by show _ ≤ _ + 0; omega), (by show _ ≤ _ + 0; omega), (fun u => ⟨.inl, fun h => h.elim id fun z => nomatch z⟩)⟩
    (fun i σ H' _ hP => ?_) (fun i y σ H3 H4 hi hI hY => ?_) (fun σ H' hI => ?_)⟩
  · obtain ⟨_, _, _, _, _, _, _, _, s', _⟩ := hP
    exact SqT.of (s'.tup hT2 hD2 _ _ hra)
  · obtain ⟨rfl, hy⟩ := hY
    obtain ⟨us', td', xs', ys', s5, s6, s7, rfl, sm3, hT3, hD3, hE3, hP3, l3, l4, hu3⟩ := hI
    obtain ⟨p, hp, hpa⟩ := PartsAt.get hps hy
    have hpa3 := PartAt.mono (sm3.tup hT2 hD2) p y hpa
    have tk := usesR_take pl hp
    have zt : sizeR (rr.take (i + 1)) = sizeR (rr.take i) + sizeP p := by
      rw [List.take_add_one, hp, sizeR_app]
      show _ + (sizeP p + 0) = _
      omega
    have zl := sizeR_take rr (i + 1)
    have sr := size_rest p
    have h0 := hpa3.word
    obtain ⟨pa, px, rfl, hpx, hw0⟩ := h0
    refine ⟨_, rfl, pa, px, 0, _, rfl, rfl, SqT.of hpx, atI_nat (j := 0) hw0, ?_⟩
    refine ⟨_, rfl, .ref pa, p, rfl, hpa3, ?_⟩
    have lE := hE3.len
    have lP := hP3.len
    have lt := leftN_len td'
    refine ⟨fun σ' H' => ∃ us2 xs2, σ' = [some v, some (.ref Tl), some (.ref Dl), some (.str pl), some (.ref ra), some (.ref pa), some (.str (wordP p)), some (callP p)] ∧ Sam2 Tl Dl H4 H' ∧ H' Tl = some (.lst xs2) ∧ H' Dl = some (.lst ys') ∧ EnsU H' us2 xs2 ∧ us2 = us' ++ ownU pl p, ?_, fun σ' H5 hm => ?_⟩
    · refine ⟨_, rfl, tU, useW, rfl, .inr (hU _), rfl, rfl, _, rfl, ?_⟩
      rw [inV_use p]
      cases c : isUse p with
      | false => exact iteF ⟨us', xs', rfl, (fun _ _ _ _ e => e), hT3, hD3, hE3, by rw [ownU_not c, List.append_nil]⟩
      | true =>
        obtain ⟨m, e1, e2⟩ := ownU_use (pl := pl) c
        refine iteT ?_
        refine ⟨_, rfl, .inl ⟨rfl, _, SqL.of hT3⟩, _, rfl, _, rfl, _, rfl, (show 3 ≤ sizeLine by decide), fun u nu => ?_⟩
        rw [e1]
        have sN := same_new (H := H4) (o := HO.tup [V.str pl, V.str (wordP p), V.str m]) nu
        refine ⟨Tl, xs', .ref u, rfl, rfl, sN _ _ hT3, small1000 (by omega), ?_⟩
        have nTu : u ≠ Tl := fun z => by rw [z, hT3] at nu; cases nu
        refine ⟨us' ++ ownU pl p, xs' ++ [.ref u], rfl, fun c o n1 n2 e => by rw [upd_ne n1]; exact sN _ _ e, upd_same, by rw [upd_ne (Ne.symm ne)]; exact sN _ _ hD3, ?_, rfl⟩
        rw [e2]
        have s5 : STup H4 (upd (upd H4 u (.tup [V.str pl, V.str (wordP p), V.str m])) Tl (.lst (xs' ++ [.ref u]))) := (STup.new nu).trans (STup.lst (sN _ _ hT3))
        exact EnsU.snoc (u := (pl, wordP p, m)) (by rw [upd_ne nTu]; exact upd_same) (hE3.tup s5)
    · obtain ⟨us2, xs2, rfl, sm5, hT5, hD5, hE5, rfl⟩ := hm
      have st5 := sm5.tup hT3 hD3
      have hP5 := hP3.tup st5
      have hpa5 := PartAt.mono st5 p _ hpa3
      refine ⟨_, rfl, .inl ⟨rfl, _, SqL.of hD5⟩, ?_⟩
      have go : ∀ (H6 : Hp) (rw_ : V), Same H5 H6 → RowAt H6 (restP p) rw_ → ∀ u, H6 u = none → PlsAt (upd (upd H6 u (.tup [.str (inPl pl p), rw_])) Dl (.lst (ys' ++ [.ref u]))) (td' ++ [(inPl pl p, restP p)]) (ys' ++ [.ref u]) ∧ Sam2 Tl Dl H5 (upd (upd H6 u (.tup [.str (inPl pl p), rw_])) Dl (.lst (ys' ++ [.ref u]))) ∧
          (upd (upd H6 u (.tup [.str (inPl pl p), rw_])) Dl (.lst (ys' ++ [.ref u]))) Tl = some (.lst xs2) ∧ STup H5 (upd (upd H6 u (.tup [.str (inPl pl p), rw_])) Dl (.lst (ys' ++ [.ref u]))) := fun H6 rw_ s6 hr6 u nu => by
        have sN := same_new (H := H6) (o := HO.tup [V.str (inPl pl p), rw_]) nu
        have hD6 := sN _ _ (s6 _ _ hD5)
        have nDu : u ≠ Dl := fun z => by rw [z, s6 _ _ hD5] at nu; cases nu
        have s67 := (STup.new (o := HO.tup [V.str (inPl pl p), rw_]) nu).trans (STup.lst (o := HO.lst (ys' ++ [.ref u])) hD6)
        have s57 := (STup.of s6).trans s67
        exact ⟨PlsAt.snoc (u := (inPl pl p, restP p)) (by rw [upd_ne nDu]; exact upd_same) (hr6.mono s67) (hP5.tup s57), fun c o n1 n2 e => by rw [upd_ne n2]; exact sN _ _ (s6 _ _ e), by rw [upd_ne ne]; exact sN _ _ (s6 _ _ hT5), s57⟩
      have lo := ownU_len pl p
      have eN1 : leftN [(inPl pl p, restP p)] = 1 + sizeR (restP p) + 0 := rfl
      have eS1 : leftS [(inPl pl p, restP p)] = sizeR (restP p) + 0 := rfl
      have fin : ∀ (H6 : Hp) (rw_ : V), Same H5 H6 → RowAt H6 (restP p) rw_ → ∀ u, H6 u = none → ∃ (us3 : List Use3) (td3 : List PlR) (xs3 ys3 : List V) (s5 s6 s7 : Option V), [some v, some (.ref Tl), some (.ref Dl), some (.str pl), some (.ref ra), some (.ref pa), some (.str (wordP p)), some (callP p)] = [some v, some (.ref Tl), some (.ref Dl), some (.str pl), some (.ref ra), s5, s6, s7] ∧
          Sam2 Tl Dl H2 (upd (upd H6 u (.tup [.str (inPl pl p), rw_])) Dl (.lst (ys' ++ [.ref u]))) ∧ (upd (upd H6 u (.tup [.str (inPl pl p), rw_])) Dl (.lst (ys' ++ [.ref u]))) Tl = some (.lst xs3) ∧ (upd (upd H6 u (.tup [.str (inPl pl p), rw_])) Dl (.lst (ys' ++ [.ref u]))) Dl = some (.lst ys3) ∧
          EnsU (upd (upd H6 u (.tup [.str (inPl pl p), rw_])) Dl (.lst (ys' ++ [.ref u]))) us3 xs3 ∧ PlsAt (upd (upd H6 u (.tup [.str (inPl pl p), rw_])) Dl (.lst (ys' ++ [.ref u]))) td3 ys3 ∧
          us3.length + leftS td3 ≤ us.length + leftS td0 + sizeR (rr.take (i + 1)) ∧ leftN td3 ≤ leftN td0 + sizeR (rr.take (i + 1)) ∧ (∀ u, (u ∈ us3 ∨ leftU td3 u) ↔ ((u ∈ us ∨ leftU td0 u) ∨ u ∈ usesR pl (rr.take (i + 1)))) := fun H6 rw_ s6 hr6 u nu => by
        obtain ⟨g1, g2, g3, g4⟩ := go H6 rw_ s6 hr6 u nu
        refine ⟨us' ++ ownU pl p, td' ++ [(inPl pl p, restP p)], xs2, ys' ++ [.ref u], _, _, _, rfl, fun c o n1 n2 e => g2 c o n1 n2 (sm5 c o n1 n2 (sm3 c o n1 n2 e)), g3, upd_same, hE5.tup g4, g1, ?_, ?_, fun u => ?_⟩
        · rw [List.length_append, leftS_app, eS1, zt]
          omega
        · rw [leftN_app, eN1, zt]
          omega
        · rw [List.mem_append, leftU_app, leftU_one, tk, List.mem_append, usesP_eq, List.mem_append, ← or_assoc (a := u ∈ us ∨ leftU td0 u), ← hu3 u]
          constructor
          · rintro ((h | h) | (h | h))
            · exact .inl (.inl h)
            · exact .inr (.inl h)
            · exact .inl (.inr h)
            · exact .inr (.inr h)
          · rintro ((h | h) | (h | h))
            · exact .inl (.inl h)
            · exact .inr (.inl h)
            · exact .inl (.inr h)
            · exact .inr (.inr h)
      have hDs : ∀ (H6 : Hp) (o : HO) (u : Addr), Same H5 H6 → H6 u = none → upd H6 u o Dl = some (.lst ys') := fun H6 o u s6 nu => kn (s6 _ _ hD5) nu
      refine ⟨_, rfl, rfl, _, rfl, ?_⟩
      rcases inPl_room pl p with ⟨e1, e2⟩ | ⟨e1, e2⟩
      · refine iteU e1 ⟨_, rfl, ?_⟩
        refine ⟨_, rfl, .ref pa, p, rfl, hpa5, fun H6 rw_ s6 hr6 => ⟨(show 2 ≤ sizeLine by decide), fun u nu => ⟨Dl, ys', .ref u, rfl, rfl, hDs H6 _ u s6 nu, small1000 (by omega), ?_⟩⟩⟩
        have g := fin H6 rw_ s6 hr6 u nu
        rw [← e2] at g
        exact g
      · refine iteD e1 ⟨_, rfl, ?_⟩
        refine ⟨_, rfl, .ref pa, p, rfl, hpa5, fun H6 rw_ s6 hr6 => ⟨(show 2 ≤ sizeLine by decide), fun u nu => ⟨Dl, ys', .ref u, rfl, rfl, hDs H6 _ u s6 nu, small1000 (by omega), ?_⟩⟩⟩
        have g := fin H6 rw_ s6 hr6 u nu
        rw [e2] at g
        exact g
  · obtain ⟨us', td', xs', ys', s5, s6, s7, rfl, sm3, hT3, hD3, hE3, hP3, l3, l4, hu3⟩ := hI
    rw [lx, List.take_length] at l3 l4
    refine ⟨leftN td', by rw [leftN_app, eN]; omega, us', td', xs', ys', _, _, _, _, _, rfl, fun c o n1 n2 e => sm3 c o n1 n2 (sm2 c o n1 n2 e), hT3, hD3, hE3, hP3, by omega, by omega, fun u => ?_, rfl⟩
    rw [hu3 u, lx, List.take_length, ← hu u, leftU_app, leftU_one, or_assoc]
end
end K52

set_option Elab.async false
set_option linter.all false
set_option maxRecDepth 100000
set_option maxHeartbeats 1000000
/-! Steps of a stand: told as tuples, sorted. -/
namespace Wk
open PySem PySem.Spec PyProof.Rows L2 GxR
structure Stp where
  w : Str
  p : List Nat
  r : List Nat
deriving DecidableEq
def iN (l : List Nat) : List Int := l.map fun n : Nat => (n : Int)
def vN (l : List Nat) : List V := (iN l).map V.int
def keyS (s : Stp) : List Int := (s.w.cps.toList.map fun c : Nat => (c : Int) + 1) ++ 0 :: ((s.p.map fun n : Nat => (n : Int) + 1) ++ 0 :: iN s.r)
def ltSt (a b : Stp) : Bool := HT.lexLt (keyS a) (keyS b)
theorem lex_irr : ∀ l : List Int, HT.lexLt l l = false
  | [] => rfl
  | x :: l => by
    rw [HT.lexLt_cons, if_pos rfl]
    exact lex_irr l
theorem lex_term : ∀ (X Y : List Nat) (A B : List Int), HT.lexLt ((X.map fun n : Nat => (n : Int) + 1) ++ 0 :: A) ((Y.map fun n : Nat => (n : Int) + 1) ++ 0 :: B) = if X = Y then HT.lexLt A B else HT.lexLt (iN X) (iN Y)
  | [], [], A, B => by
    rw [if_pos rfl]
    show HT.lexLt (0 :: A) (0 :: B) = _
    rw [HT.lexLt_cons, if_pos rfl]
  | [], y :: Y, A, B => by
    rw [if_neg (fun z => by cases z)]
    show HT.lexLt (0 :: A) (((y : Int) + 1) :: _) = true
    rw [HT.lexLt_cons, if_neg (by omega)]
    exact decide_eq_true (by omega)
  | x :: X, [], A, B => by
    rw [if_neg (fun z => by cases z)]
    show HT.lexLt (((x : Int) + 1) :: _) (0 :: B) = false
    rw [HT.lexLt_cons, if_neg (by omega)]
    exact decide_eq_false (by omega)
  | x :: X, y :: Y, A, B => by
    show HT.lexLt (((x : Int) + 1) :: ((X.map fun n : Nat => (n : Int) + 1) ++ 0 :: A)) (((y : Int) + 1) :: ((Y.map fun n : Nat => (n : Int) + 1) ++ 0 :: B)) = if x :: X = y :: Y then HT.lexLt A B else HT.lexLt ((x : Int) :: iN X) ((y : Int) :: iN Y)
    rw [HT.lexLt_cons, HT.lexLt_cons, lex_term X Y A B]
    by_cases c : x = y
    · subst c
      rw [if_pos rfl, if_pos rfl]
      by_cases d : X = Y
      · rw [if_pos d, if_pos (by rw [d])]
      · rw [if_neg d, if_neg (fun z => d (List.cons.inj z).2)]
    · rw [if_neg (by omega), if_neg (fun z => c (List.cons.inj z).1), if_neg (by omega)]
      exact decide_eq_decide.mpr (by omega)
theorem nat_lex : ∀ X Y : List Nat, decide (X < Y) = HT.lexLt (iN X) (iN Y)
  | [], [] => rfl
  | [], y :: Y => decide_eq_true (List.nil_lt_cons _ _)
  | x :: X, [] => decide_eq_false (List.not_lt_nil _)
  | x :: X, y :: Y => by
    show _ = HT.lexLt ((x : Int) :: iN X) ((y : Int) :: iN Y)
    rw [HT.lexLt_cons, ← nat_lex X Y]
    by_cases c : x = y
    · subst c
      rw [if_pos rfl, decide_eq_decide, List.cons_lt_cons_iff]
      exact ⟨fun h => h.elim (fun z => absurd z (Nat.lt_irrefl _)) And.right, fun h => .inr ⟨rfl, h⟩⟩
    · rw [if_neg (by omega), decide_eq_decide, List.cons_lt_cons_iff]
      exact ⟨fun h => h.elim (fun z => by omega) (fun z => absurd z.1 c), fun h => .inl (by omega)⟩
theorem ltSt_eq (a b : Stp) : ltSt a b = if a.w = b.w then (if a.p = b.p then HT.lexLt (iN a.r) (iN b.r) else HT.lexLt (iN a.p) (iN b.p)) else decide (a.w.cps.toList < b.w.cps.toList) := by
  unfold ltSt keyS
  rw [lex_term, nat_lex, lex_term]
  by_cases c : a.w = b.w
  · rw [if_pos c, if_pos (by rw [c])]
  · rw [if_neg c, if_neg (fun z => c (Str.ext' (Array.toList_inj.mp z)))]
theorem ltSt_swo {α : Type} (k : α → Stp) : SrtO.Swo (fun v u : α => ltSt (k v) (k u)) := NtL.swo_lexL (fun v => keyS (k v))
/-! ### in the model's heap -/
structure IsStp (h : Heap) (v : Value) (s : Stp) : Prop where
  ex : ∃ (a pa : Addr) (o : Obj) (tk : Tok) (us qs : List Value) (n : Nat), v = .ref a ∧ h.get? a = some o ∧ o.cls = .type "tuple" ∧ o.data = .seq (.str s.w tk :: .ref pa :: us).toArray n ∧ Vals (vN s.r) us ∧ IsTup h pa qs.toArray ∧ Vals (vN s.p) qs
section
variable {prog : Program} {w : World} {A : Around} {E : Value → Shared → Prop} {s : Shared}
theorem kat_ints {fin : Bool} {Q : Bool → Shared → Prop} : ∀ (ns ms : List Int) (us us' : List Value) (i : Nat), Vals (ns.map V.int) us → Vals (ms.map V.int) us' → fin = decide (ns.length < ms.length) → Q (HT.lexLt ns ms) s → PySem.W.KatLex prog w A true fin Q (us.zip us') (i + 1) s
  | [], ms, us, us', i, r1, r2, hf, h => by
    cases r1
    refine PySem.W.kat_nil ?_
    rw [hf]
    cases ms with
    | nil => exact h
    | cons m ms => exact h
  | n :: ns, [], us, us', i, r1, r2, hf, h => by
    cases r2
    rw [List.zip_nil_right]
    refine PySem.W.kat_nil ?_
    rw [hf]
    exact h
  | n :: ns, m :: ms, us, us', i, r1, r2, hf, h => by
    cases r1 with
    | cons a1 t1 =>
      cases r2 with
      | cons a2 t2 =>
        obtain ⟨k1, rfl⟩ := a1
        obtain ⟨k2, rfl⟩ := a2
        rw [HT.lexLt_cons] at h
        refine PySem.W.kat_cons (SeqAt.EqAt.int_int n k1 m k2 prog w _ _ ?_)
        refine PySem.W.kat_go (fun e => ?_) (fun e => ?_)
        · have ex : n = m := by simpa using e
          rw [if_pos ex] at h
          exact PySem.W.kat_yes (kat_ints ns ms _ _ (i + 1) t1 t2 (by rw [hf, decide_eq_decide, List.length_cons, List.length_cons]; omega) h)
        · have ex : ¬ n = m := by simpa using e
          rw [if_neg ex] at h
          exact PySem.W.kat_no (PySem.W.kat_one _ _ (PyProof.Rows.lt_int h))
/-- tuples of whole numbers, alike or not -/
theorem eq_tups {pa pb : Addr} {qs qs' : List Value} {ns ms : List Int} (ha : IsTup s.heap pa qs.toArray) (hb : IsTup s.heap pb qs'.toArray) (r1 : Vals (ns.map V.int) qs) (r2 : Vals (ms.map V.int) qs') (hu : A.units < cLine) :
    SeqAt.EqAt A s (.ref pa) (.ref pb) (decide (ns = ms)) := by
  by_cases ne : pa = pb
  · subst ne
    obtain ⟨o, h1, h2, n, h3⟩ := id ha
    obtain ⟨o', k1, k2, m, k3⟩ := id hb
    rw [h1] at k1
    cases k1
    rw [h3] at k3
    have e : qs = qs' := by
      have z := (Data.seq.inj k3).1
      have z2 := congrArg Array.toList z
      simpa using z2
    subst e
    have e2 : ns = ms := by
      clear ha hb h1 h2 h3 k2 k3
      induction qs generalizing ns ms with
      | nil =>
        cases ns with
        | nil =>
          cases ms with
          | nil => rfl
          | cons _ _ => cases r2
        | cons _ _ => cases r1
      | cons q qs ih =>
        cases ns with
        | nil => cases r1
        | cons n ns =>
          cases ms with
          | nil => cases r2
          | cons m ms =>
            cases r1 with
            | cons a1 t1 =>
              cases r2 with
              | cons a2 t2 =>
                obtain ⟨k1, e1⟩ := a1
                obtain ⟨k2, e2⟩ := a2
                rw [e1] at e2
                have e3 := (Value.int.inj e2).1
                rw [e3, ih t1 t2]
    rw [decide_eq_true e2]
    exact SeqAt.EqAt.same _
  · refine SeqAt.EqAt.of_refs ne ?_
    have l1 := r1.length
    have l2 := r2.length
    rw [List.length_map] at l1 l2
    have t := SeqAt.RcAt.tuples (A := A) (s := s) (e := fun j => decide (ns[j]? = ms[j]?)) (items := qs.toArray) (items2 := qs'.toArray) ha hb hu (fun j j1 j2 => by
      have j1' : j < qs.length := by simpa using j1
      have j2' : j < qs'.length := by simpa using j2
      have n1 : j < ns.length := by omega
      have n2 : j < ms.length := by omega
      obtain ⟨u, hu', ru⟩ := r1.get (i := j) (x := .int ns[j]) (by rw [List.getElem?_map, List.getElem?_eq_getElem n1]; rfl)
      obtain ⟨u2, hu2, ru2⟩ := r2.get (i := j) (x := .int ms[j]) (by rw [List.getElem?_map, List.getElem?_eq_getElem n2]; rfl)
      obtain ⟨t1, rfl⟩ := ru
      obtain ⟨t2, rfl⟩ := ru2
      have e1 : qs.toArray[j] = Value.int ns[j] t1 := by
        have z := List.getElem?_eq_getElem j1'
        rw [hu'] at z
        simpa using (Option.some.inj z).symm
      have e2 : qs'.toArray[j] = Value.int ms[j] t2 := by
        have z := List.getElem?_eq_getElem j2'
        rw [hu2] at z
        simpa using (Option.some.inj z).symm
      rw [e1, e2]
      have e3 : decide (ns[j]? = ms[j]?) = (ns[j] == ms[j]) := by
        rw [List.getElem?_eq_getElem n1, List.getElem?_eq_getElem n2, Bool.eq_iff_iff, decide_eq_true_iff, beq_iff_eq]
        exact ⟨fun z => Option.some.inj z, fun z => by rw [z]⟩
      rw [e3]
      exact SeqAt.EqAt.int_int _ _ _ _)
    have e : (((List.range (min qs.toArray.size qs'.toArray.size)).all fun j => decide (ns[j]? = ms[j]?)) && qs.toArray.size == qs'.toArray.size) = decide (ns = ms) := by
      rw [Bool.eq_iff_iff, Bool.and_eq_true_iff, List.all_eq_true, decide_eq_true_iff, beq_iff_eq, List.size_toArray, List.size_toArray, ← l1, ← l2]
      constructor
      · rintro ⟨h1, h2⟩
        refine List.ext_getElem? fun j => ?_
        by_cases c : j < ns.length
        · exact of_decide_eq_true (h1 j (List.mem_range.mpr (by omega)))
        · rw [List.getElem?_eq_none (by omega), List.getElem?_eq_none (by omega)]
      · rintro rfl
        exact ⟨fun j _ => decide_eq_true rfl, rfl⟩
    rw [← e]
    exact t
theorem stp_cmp {vs : List Value} {k : Value → Stp} (hu : A.units + 1 < cLine) (hp : ∀ v ∈ vs, IsStp s.heap v (k v)) : SrtO.Cmp prog w A s (tuples' true) (fun p => p.1 ∈ vs) (SrtO.lt2 fun v u => ltSt (k v) (k u)) := by
  intro p q hm hm'
  obtain ⟨a, pa, o, tk, us, qs, n, e, ho, hc, hd, r1, hp1, r2⟩ := (hp _ hm).ex
  obtain ⟨a', pa', o', tk', us', qs', n', e', ho', hc', hd', r1', hp1', r2'⟩ := (hp _ hm').ex
  show wpAny (model prog w) A (keyLt' (tuples' true) p.1 q.1) (fun r s' => s' = s ∧ r = ltSt (k p.1) (k q.1)) (fun _ _ => False) s
  rw [ltSt_eq]
  generalize k p.1 = x at *
  generalize k q.1 = y at *
  rw [e, e']
  refine PySem.W.kat_lt ho hd ho' hd' ?_
  show PySem.W.KatLex prog w A true _ _ ((Value.str x.w tk, Value.str y.w tk') :: (Value.ref pa, Value.ref pa') :: us.zip us') 0 s
  have l1 := r1.length
  have l2 := r1'.length
  refine PySem.W.kat_cons (SeqAt.EqAt.str_str x.w tk y.w tk' prog w _ _ ?_)
  refine PySem.W.kat_go (fun e1 => ?_) (fun e1 => ?_)
  · have ex : x.w = y.w := by simpa using e1
    rw [if_pos ex]
    refine PySem.W.kat_yes (PySem.W.kat_cons (eq_tups hp1 hp1' r2 r2' (by omega) prog w _ _ ?_))
    have ip : (iN x.p = iN y.p) ↔ x.p = y.p := by
      constructor
      · intro z
        exact (List.map_inj_right (fun a b h => Int.ofNat.inj h)).mp z
      · intro z; rw [z]
    refine PySem.W.kat_go (fun e2 => ?_) (fun e2 => ?_)
    · have ey := ip.mp (of_decide_eq_true e2)
      rw [if_pos ey]
      refine PySem.W.kat_yes (kat_ints (iN x.r) (iN y.r) us us' 1 r1 r1' ?_ ⟨rfl, rfl⟩)
      rw [decide_eq_decide]
      unfold vN at l1 l2
      rw [List.length_map] at l1 l2
      simp only [List.size_toArray, List.length_cons]
      omega
    · have ey : ¬ x.p = y.p := fun z => of_decide_eq_false e2 (ip.mpr z)
      rw [if_neg ey]
      refine PySem.W.kat_no (PySem.W.kat_one _ _ (HT.lt_tupInts hp1 hp1' (L2.intsAre_of (by rw [List.toList_toArray]; exact r2)) (L2.intsAre_of (by rw [List.toList_toArray]; exact r2')) (by omega) ?_))
      exact (show s = s ∧ HT.lexLt (iN x.p) (iN y.p) = HT.lexLt (iN x.p) (iN y.p) from ⟨rfl, rfl⟩)
  · have ex : ¬ x.w = y.w := by simpa using e1
    rw [if_neg ex]
    exact PySem.W.kat_no (oneLt_str ⟨rfl, rfl⟩)
end
end Wk

set_option Elab.async false
set_option linter.all false
set_option maxRecDepth 100000
set_option maxHeartbeats 1000000
/-! Steps: sorted lists of them, one among them. -/
namespace Wk
open PySem PySem.Spec PyProof.Rows L2 GxR
section
variable {prog : Program} {w : World} {A : Around} {E : Value → Shared → Prop} {s : Shared}
theorem IsStp.keeps {h h' : Heap} {v : Value} {x : Stp} (p : IsStp h v x) (k : ∀ b o, h.get? b = some o → o.cls = .type "tuple" → h'.get? b = some o) : IsStp h' v x := by
  obtain ⟨a, pa, o, tk, us, qs, n, e, ho, hc, hd, r1, ⟨oq, q1, q2, m, q3⟩, r2⟩ := p.ex
  exact ⟨a, pa, o, tk, us, qs, n, e, k _ _ ho hc, hc, hd, r1, ⟨oq, k _ _ q1 q2, q2, m, q3⟩, r2⟩
theorem stp_firsts {h : Heap} : ∀ {vs : List Value}, (∀ v ∈ vs, ∃ x, IsStp h v x) → ∃ fs : List Value, PySem.W.KatTups h vs fs ∧ fs.length = vs.length ∧ ∀ f ∈ fs, ∃ z t, f = Value.str z t
  | [], _ => ⟨[], PySem.W.KatTups.nil, rfl, fun f hf => nomatch hf⟩
  | v :: vs, hp => by
    obtain ⟨fs, k1, k2, k3⟩ := stp_firsts (vs := vs) fun u hu => hp u (List.mem_cons_of_mem _ hu)
    obtain ⟨x, hx⟩ := hp v List.mem_cons_self
    obtain ⟨a, pa, o, tk, us, qs, n, rfl, ho, hc, hd, _⟩ := hx.ex
    refine ⟨.str x.w tk :: fs, PySem.W.KatTups.cons ho hc hd rfl k1, by rw [List.length_cons, List.length_cons, k2], fun f hf => ?_⟩
    rcases List.mem_cons.mp hf with e | e
    · exact ⟨_, _, e⟩
    · exact k3 f e
theorem stp_sortable {a : Addr} {vs : List Value} {k : Value → Stp} (h0 : 0 < vs.length) (hu : A.units + 1 < cLine) (hp : ∀ v ∈ vs, IsStp s.heap v (k v)) (ha : ∀ o, s.heap.get? a = some o → o.cls ≠ .type "tuple") : SrtO.SortableO prog w A s a vs fun v u => ltSt (k v) (k u) := by
  intro h' keep
  have hp' : ∀ v ∈ vs, IsStp h' v (k v) := fun v hm => (hp v hm).keeps fun b o e c => keep b o (fun z => by rw [z] at e; exact ha o e c) e
  obtain ⟨fs, f1, f2, f3⟩ := stp_firsts fun v hm => ⟨_, hp' v hm⟩
  refine ⟨tuples' true, fun Q E hq => ?_, stp_cmp (s := { s with heap := h' }) hu hp'⟩
  refine PySem.W.kat_kind (T := .type "str") f1 (by omega) (fun f hm => ?_) (by rfl) ?_
  · obtain ⟨z, t, rfl⟩ := f3 f hm
    exact PySem.W.Looks.now
  · have e : (Value.type "str" != Value.type "tuple") = true := by first | decide +kernel | rfl | decide
    rw [e]
    exact hq
theorem sorted_stps {l : Addr} {vs : List Value} {k : Value → Stp} {Q : Value → Shared → Prop} (hu : A.units + 8 < cLine) (hl : s.heap.IsList l vs.toArray) (hz : vs.length ≤ sizeLine) (hp : ∀ v ∈ vs, IsStp s.heap v (k v))
    (h : ∀ (h' : Heap) (d : Addr) (out : List Value), SrtO.Srtd (fun v u => ltSt (k v) (k u)) out → SrtO.Stb (fun v u => ltSt (k v) (k u)) out vs → (∀ b o, s.heap.get? b = some o → h'.get? b = some o) → s.heap.objs.size ≤ d → (∃ n, h'.get? d = some (seqObj "list" out.toArray n)) → Q (.ref d) { s with heap := h' }) :
    wpAny (model prog w) A (call (.builtin "sorted") [.ref l]) Q E s := by
  refine SrtO.sorted_ord (ltSt_swo k) hl hz (fun h2 h₁ a ha kk => ?_) fun out hs hb => ?_
  · refine stp_sortable (s := { s with heap := h₁ }) (by omega) (by show A.units + 1 + 1 + 1 < cLine; omega) (fun v hm => (hp v hm).keeps fun b o e _ => (kk b o e).2) fun o e => ?_
    rw [ha] at e
    cases e
    intro c
    exact absurd (Value.type.inj c) (by decide)
  · exact h _ _ out hs hb (fun b o e => sortedAll_old e) (Nat.le_succ _) (sortedAll_at s.heap vs out.toArray)
end
/-! ### in the heap of rules -/
def StpAt (H : Hp) (x : Stp) (v : V) : Prop := ∃ t pa, v = .ref t ∧ H t = some (.tup (.str x.w :: .ref pa :: vN x.r)) ∧ H pa = some (.tup (vN x.p))
def StpsAt (H : Hp) : List Stp → List V → Prop
  | [], vs => vs = []
  | x :: xs, vs => ∃ v us, vs = v :: us ∧ StpAt H x v ∧ StpsAt H xs us
theorem vN_inj {a b : List Nat} (h : vN a = vN b) : a = b := by
  unfold vN iN at h
  rw [List.map_map, List.map_map] at h
  exact (List.map_inj_right (fun x y z => Int.ofNat.inj (V.int.inj z))).mp h
theorem StpAt.uniq {H : Hp} {x y : Stp} {v : V} (a : StpAt H x v) (b : StpAt H y v) : x = y := by
  obtain ⟨t, pa, e, h1, h2⟩ := a
  obtain ⟨t', pa', e', h1', h2'⟩ := b
  rw [e] at e'
  cases e'
  rw [h1] at h1'
  obtain ⟨z1, z2⟩ := List.cons.inj (HO.tup.inj (Option.some.inj h1'))
  obtain ⟨z3, z4⟩ := List.cons.inj z2
  cases z3
  rw [h2] at h2'
  have z5 := vN_inj (HO.tup.inj (Option.some.inj h2'))
  obtain ⟨w1, p1, r1⟩ := x
  obtain ⟨w2, p2, r2⟩ := y
  have e1 : w1 = w2 := V.str.inj z1
  have e2 : r1 = r2 := vN_inj z4
  have e3 : p1 = p2 := z5
  rw [e1, e2, e3]
theorem StpAt.tup {H H' : Hp} (s : STup H H') {x : Stp} {v : V} (h : StpAt H x v) : StpAt H' x v := by
  obtain ⟨t, pa, e, h1, h2⟩ := h
  exact ⟨t, pa, e, s _ _ h1, s _ _ h2⟩
theorem StpsAt.tup {H H' : Hp} (s : STup H H') : ∀ {xs : List Stp} {vs : List V}, StpsAt H xs vs → StpsAt H' xs vs
  | [], _, h => h
  | x :: xs, _, h => by
    obtain ⟨v, us, e, h1, h2⟩ := h
    exact ⟨v, us, e, h1.tup s, h2.tup s⟩
theorem StpsAt.len {H : Hp} : ∀ {xs : List Stp} {vs : List V}, StpsAt H xs vs → vs.length = xs.length
  | [], _, h => by rw [show _ = [] from h]; rfl
  | x :: xs, _, h => by
    obtain ⟨v, us, rfl, h1, h2⟩ := h
    rw [List.length_cons, List.length_cons, h2.len]
theorem StpsAt.app {H : Hp} : ∀ {xs ys : List Stp} {vs us : List V}, StpsAt H xs vs → StpsAt H ys us → StpsAt H (xs ++ ys) (vs ++ us)
  | [], ys, vs, us, h, g => by rw [show vs = [] from h]; exact g
  | x :: xs, ys, vs, us, h, g => by
    obtain ⟨v, ws, rfl, h1, h2⟩ := h
    exact ⟨v, ws ++ us, rfl, h1, h2.app g⟩
theorem StpsAt.mem {H : Hp} : ∀ {xs : List Stp} {vs : List V} {v : V}, StpsAt H xs vs → v ∈ vs → ∃ x ∈ xs, StpAt H x v
  | [], vs, v, h, m => by
    rw [show vs = [] from h] at m
    cases m
  | x :: xs, vs, v, h, m => by
    obtain ⟨v0, us, rfl, h1, h2⟩ := h
    rcases List.mem_cons.mp m with e | e
    · rw [e]; exact ⟨x, List.mem_cons_self, h1⟩
    · obtain ⟨y, hy, h3⟩ := h2.mem e
      exact ⟨y, List.mem_cons_of_mem _ hy, h3⟩
/-- what a value tells -/
noncomputable def stpOf (H : Hp) (v : V) : Stp := open Classical in if h : ∃ x, StpAt H x v then h.choose else ⟨"", [], []⟩
theorem stpOf_eq {H : Hp} {x : Stp} {v : V} (h : StpAt H x v) : stpOf H v = x := by
  unfold stpOf
  rw [dif_pos ⟨x, h⟩]
  exact (Exists.choose_spec (⟨x, h⟩ : ∃ x, StpAt H x v)).uniq h
theorem StpsAt.map {H : Hp} : ∀ {xs : List Stp} {vs : List V}, StpsAt H xs vs → vs.map (stpOf H) = xs
  | [], vs, h => by rw [show vs = [] from h]; rfl
  | x :: xs, vs, h => by
    obtain ⟨v, us, rfl, h1, h2⟩ := h
    rw [List.map_cons, stpOf_eq h1, h2.map]
theorem StpsAt.of {H : Hp} : ∀ {vs : List V}, (∀ v ∈ vs, ∃ x, StpAt H x v) → StpsAt H (vs.map (stpOf H)) vs
  | [], _ => rfl
  | v :: vs, h => by
    obtain ⟨x, hx⟩ := h v List.mem_cons_self
    refine ⟨v, vs, rfl, ?_, StpsAt.of fun u hu => h u (List.mem_cons_of_mem _ hu)⟩
    rw [stpOf_eq hx]
    exact hx
section
variable {X : Cx} {pins : List (Addr × Obj)} {σ : L2.St} {H : Hp} {s : Shared}
theorem stp_is (I : Inv X pins σ H s) {x : Stp} {t : Addr} (h : StpAt H x (.ref t)) : IsStp s.heap (.ref t) x := by
  obtain ⟨t', pa, e, h1, h2⟩ := h
  cases e
  obtain ⟨_, its, r1, o, o1, o2, n, o3⟩ := (show ObjOk X.prog X.w H s.heap t (.tup (.str x.w :: .ref pa :: vN x.r)) from I.hok t _ h1)
  obtain ⟨_, qs, r2, hq⟩ := (show ObjOk X.prog X.w H s.heap pa (.tup (vN x.p)) from I.hok pa _ h2)
  cases r1 with
  | cons a1 t1 =>
    cases t1 with
    | cons a2 t2 =>
      obtain ⟨tk, rfl⟩ := a1
      cases a2
      exact ⟨_, _, o, tk, _, qs, n, rfl, o1, o2, o3, t2, hq, r2⟩
end
/-- sorted(steps) -/
def rSortedSt (K : PySem.W.Frag) : List V → Hp → VK → Prop := fun vs H Q => ∃ (a : Addr) (xs : List V) (ss : List Stp), vs = [.ref a] ∧ SqL K H a xs ∧ StpsAt H ss xs ∧
  ∀ (ts : List Stp) (ys : List V) (p : Addr), ts.Perm ss → SrtO.Srtd ltSt ts → StpsAt H ts ys → H p = none → Q (.ref p) (upd H p (.lst ys))
theorem cr_sortedSt {X : Cx} (hu : X.A.units + 64 < cLine) : CallR X (.builtin "sorted") (rSortedSt X.K) := by
  intro pins s σ H vs us Q I r h
  obtain ⟨a, xs, ss, rfl, hs, hx, q⟩ := h
  obtain ⟨its, rv, hl, hz⟩ := I.list hs
  obtain ⟨u, rfl, ru⟩ := vals1 r
  obtain rfl : u = Value.ref a := ru
  have hx1 : ∀ v ∈ xs, ∃ x, StpAt H x v := fun v hv => (hx.mem hv).imp fun x y => y.2
  obtain ⟨e1, e2⟩ := refs_back rv fun x m => by
    obtain ⟨_, t, _, e, _⟩ := hx1 x m
    exact ⟨t, e⟩
  refine sorted_stps (k := fun u => stpOf H (backV u)) (by omega) hl.isList (by rw [← rv.length]; exact hz) (fun v hv => ?_) fun h' d out o1 o2 kp hd hn => ?_
  · obtain ⟨t, rfl⟩ := e2 v hv
    have hm : V.ref t ∈ xs := by rw [e1]; exact List.mem_map.mpr ⟨_, hv, rfl⟩
    obtain ⟨x, hxt⟩ := hx1 _ hm
    show IsStp s.heap (.ref t) (stpOf H (.ref t))
    rw [stpOf_eq hxt]
    exact stp_is I hxt
  · have h3 : ∀ u ∈ out, ∃ a, u = Value.ref a := fun u hu => e2 u (o2.perm.mem_iff.mp hu)
    obtain ⟨n, hn⟩ := hn
    have pm : (out.map backV).Perm xs := by rw [e1]; exact o2.perm.map backV
    have hy : ∀ v ∈ out.map backV, ∃ x, StpAt H x v := fun v hv => hx1 v (pm.mem_iff.mp hv)
    have lo : (out.map backV).length ≤ sizeLine := by rw [pm.length_eq]; exact hz
    refine ⟨.ref d, upd H d (.lst (out.map backV)), I.laid (t' := s.toks) kp hd ⟨lo, out, n, vals_back h3, hn⟩, rfl, q ((out.map backV).map (stpOf H)) _ d ?_ ?_ (StpsAt.of hy) (I.hok.fresh hd)⟩
    · have z := pm.map (stpOf H)
      rw [hx.map] at z
      exact z
    · rw [List.map_map]
      exact SrtO.srtd_map (f := stpOf H ∘ backV) o1
end Wk

set_option Elab.async false
set_option linter.all false
set_option maxRecDepth 100000
set_option maxHeartbeats 1000000
/-! One thing among others, of any shape. -/
namespace Wk
open PySem PySem.Spec PyProof.Rows L2 GxR
def rInD (K : PySem.W.Frag) (neg : Bool) : R2 := fun x y H Q => ∃ (d : PyData) (xs : List PyData), Dp K H x d ∧ Dp K H y (.list xs) ∧ SeqAt.shaped (.list xs) = true ∧ SeqAt.shaped d = true ∧ Q (.bl (if neg then !(xs.any fun e => PyData.eqv e d) else xs.any fun e => PyData.eqv e d)) H
theorem op_notInD {X : Cx} (hu : X.A.units + 65 < cLine) : OpR X (compareOp .NotIn) (rInD X.K true) := by
  intro pins s σ H x y v u Q I rx ry h
  obtain ⟨d, xs, hd, hx, s1, s2, q⟩ := h
  obtain ⟨as, r1⟩ := Dp.reads I d x v hd rx
  obtain ⟨bs, r2⟩ := Dp.reads I _ y u hx ry
  exact SeqAt.notIn_list_reads r2 r1 (SeqAt.canLay_of_shaped s1) (SeqAt.canLay_of_shaped s2) (room_in_shaped s2 hu) ⟨.bl _, H, I, rfl, q⟩
/-! ### steps as data -/
def dataN (l : List Nat) : List PyData := l.map fun n : Nat => PyData.int (n : Int)
def dataS (x : Stp) : PyData := .tuple (.str x.w :: .tuple (dataN x.p) :: dataN x.r)
theorem dpN {K : PySem.W.Frag} {H : Hp} : ∀ l : List Nat, DpAll K H (vN l) (dataN l)
  | [] => .nil
  | n :: l => .cons (.int n) (dpN l)
theorem StpAt.dp {K : PySem.W.Frag} {H : Hp} {x : Stp} {v : V} (h : StpAt H x v) : Dp K H v (dataS x) := by
  obtain ⟨t, pa, rfl, h1, h2⟩ := h
  exact .tup (SqT.of h1) (.cons (.str x.w) (.cons (.tup (SqT.of h2) (dpN x.p)) (dpN x.r)))
theorem StpsAt.dp {K : PySem.W.Frag} {H : Hp} : ∀ {xs : List Stp} {vs : List V}, StpsAt H xs vs → DpAll K H vs (xs.map dataS)
  | [], vs, h => by rw [show vs = [] from h]; exact .nil
  | x :: xs, vs, h => by
    obtain ⟨v, us, rfl, h1, h2⟩ := h
    exact .cons h1.dp h2.dp
theorem layN : ∀ l : List Nat, PyData.canLayAll0 (dataN l) = true
  | [] => rfl
  | n :: l => by
    show (true && PyData.canLayAll0 (dataN l)) = true
    rw [layN l]; rfl
theorem depN : ∀ l : List Nat, PyData.depthAll (dataN l) = 0
  | [] => rfl
  | n :: l => by
    show max 0 (PyData.depthAll (dataN l)) = 0
    rw [depN l]; rfl
theorem layS {x : Stp} (h : PyData.strOk x.w = true) : PyData.canLay0 (dataS x) = true := by
  show (PyData.strOk x.w && (PyData.canLayAll0 (dataN x.p) && PyData.canLayAll0 (dataN x.r))) = true
  rw [h, layN, layN]; rfl
theorem depS (x : Stp) : PyData.depth (dataS x) ≤ 2 := by
  show max 0 (max (PyData.depthAll (dataN x.p) + 1) (PyData.depthAll (dataN x.r))) + 1 ≤ 2
  rw [depN, depN]
  decide
theorem shapedS {x : Stp} (h : PyData.strOk x.w = true) : SeqAt.shaped (dataS x) = true := by
  unfold SeqAt.shaped
  rw [layS h, decide_eq_true (Nat.le_trans (depS x) (by decide))]; rfl
theorem layAll : ∀ {xs : List Stp}, (∀ x ∈ xs, PyData.strOk x.w = true) → PyData.canLayAll0 (xs.map dataS) = true
  | [], _ => rfl
  | x :: xs, h => by
    show (PyData.canLay0 (dataS x) && PyData.canLayAll0 (xs.map dataS)) = true
    rw [layS (h x List.mem_cons_self), layAll fun y hy => h y (List.mem_cons_of_mem _ hy)]; rfl
theorem depAll : ∀ xs : List Stp, PyData.depthAll (xs.map dataS) ≤ 2
  | [] => Nat.zero_le _
  | x :: xs => by
    show max (PyData.depth (dataS x)) (PyData.depthAll (xs.map dataS)) ≤ 2
    exact Nat.max_le.mpr ⟨depS x, depAll xs⟩
theorem shapedL {xs : List Stp} (h : ∀ x ∈ xs, PyData.strOk x.w = true) : SeqAt.shaped (.list (xs.map dataS)) = true := by
  have e1 : PyData.canLay0 (.list (xs.map dataS)) = true := layAll h
  have e2 : PyData.depth (.list (xs.map dataS)) ≤ 64 := by
    have := depAll xs
    show PyData.depthAll (xs.map dataS) + 1 ≤ 64
    omega
  unfold SeqAt.shaped
  rw [e1, decide_eq_true e2]; rfl
theorem eqvN : ∀ l m : List Nat, PyData.eqvAll (dataN l) (dataN m) = decide (l = m)
  | [], [] => rfl
  | [], m :: ms => rfl
  | n :: l, [] => rfl
  | n :: l, m :: ms => by
    show (((n : Int) == (m : Int)) && PyData.eqvAll (dataN l) (dataN ms)) = _
    rw [eqvN l ms, Bool.eq_iff_iff, Bool.and_eq_true_iff, beq_iff_eq, decide_eq_true_iff, decide_eq_true_iff, List.cons.injEq]
    exact ⟨fun ⟨a, b⟩ => ⟨by omega, b⟩, fun ⟨a, b⟩ => ⟨by omega, b⟩⟩
theorem eqvS (x y : Stp) : PyData.eqv (dataS x) (dataS y) = decide (x = y) := by
  show ((x.w == y.w) && (PyData.eqvAll (dataN x.p) (dataN y.p) && PyData.eqvAll (dataN x.r) (dataN y.r))) = _
  rw [eqvN, eqvN, Bool.eq_iff_iff, Bool.and_eq_true_iff, Bool.and_eq_true_iff, beq_iff_eq, decide_eq_true_iff, decide_eq_true_iff, decide_eq_true_iff]
  obtain ⟨w, p, r⟩ := x
  obtain ⟨w', p', r'⟩ := y
  exact ⟨fun ⟨a, b, c⟩ => by rw [show w = w' from a, show p = p' from b, show r = r' from c], fun e => by cases e; exact ⟨rfl, rfl, rfl⟩⟩
theorem anyS (x : Stp) (xs : List Stp) : ((xs.map dataS).any fun e => PyData.eqv e (dataS x)) = decide (x ∈ xs) := by
  rw [Bool.eq_iff_iff, List.any_eq_true, decide_eq_true_iff]
  constructor
  · rintro ⟨e, he, h⟩
    obtain ⟨y, hy, rfl⟩ := List.mem_map.mp he
    rw [eqvS] at h
    rw [← of_decide_eq_true h]
    exact hy
  · intro h
    exact ⟨_, List.mem_map.mpr ⟨x, h, rfl⟩, by rw [eqvS]; exact decide_eq_true rfl⟩
/-! ### a local name called, with a tuple's items behind -/
section
variable {X : Cx} {CX : CXT} {k i : Nat} {f : Addr} {fd : FuncData} {ps : List Str} {sp : Sp} {dvs : List V} {ds : List Value} {E : XK} {x : Str} {p pos : Pos} {e : Expr} {es : List Expr} {t : TA}
theorem pe_callLS (F : FnOk X.prog X.w X.K X.mg X.base CX k f fd ps sp) (hr : Room k X.A) (hN : X.N[i]? = some x) (hv : Vis X.env.scope x) (hk : PySem.W.keepIn X.K (.ref f) = true) (hb : Binds X.K fd ps ds) (hd : Vals dvs ds) (hx : Passes CX X E) (ha : PA X (e :: es) t)
    (hdb : (x == ("__debug__" : Str)) = false := by decide) (hcd : (x == ("__classdict__" : Str)) = false := by decide)
    (he : starEach (e :: es) X.env = (false, eval e X.env) :: starEach es X.env := by rfl) (hst : (backTo pos (starEach es X.env)).any (·.1) = true := by rfl) : PE X (.Call (.Name x p) (e :: es) [] pos) (tCallL i f sp dvs E t) := by
  constructor
  intro pins s σ H Q I hq
  obtain ⟨hs, ht⟩ := hq
  apply wpAny_Call_Name_kw
  refine thn ((pe_var (pos := p) hN hv hdb hcd).run pins s σ H (fun v Hv => v = .ref f ∧ Hv = H) I ⟨.ref f, hs, rfl, rfl⟩) ?_
  rintro u s1 ⟨v, Hv, Iv, rv, ev, eH⟩
  subst ev eH
  cases rv
  refine PySem.W.callWith_S2 (h₀ := X.base) I.ok.mod.kin hk (thn (ha.run pos pins s1 σ _ _ Iv ht) ?_) he hst
  rintro us s2 ⟨vs, H2, I2, r, q⟩
  exact ⟨I2.kIn, run_fn F hr hb hd hx I2 r q⟩
end
end Wk

set_option Elab.async false
set_option linter.all false
set_option maxRecDepth 100000
set_option maxHeartbeats 2000000
/-! enumerate of a tuple. -/
namespace Wk
open PySem PySem.Spec PyProof.Rows L2 GxR
open AutoSeq1 (wpAny_loadPart')
theorem enum_newT (t : Addr) (its : Array Value) (k : Nat) (od : Option Addr) (os : Array (Option Value)) :
    Meets (Builtin.«enumerate.__new__» ⟨[.type "enumerate", .ref t], []⟩) (fun _ R s => s.heap.get? t = some { cls := .type "tuple", dict := od, data := .seq its k, slots := os } ∧
      R (.ok (.ret (.ref (s.heap.push { cls := .type "tuple_iterator", data := .fields #[.ref t, .int 0 0] }).objs.size)))
        { s with heap := (s.heap.push { cls := .type "tuple_iterator", data := .fields #[.ref t, .int 0 0] }).push { cls := .type "enumerate", data := .fields #[.none, .bool false, .ref s.heap.objs.size, rawInt 0, .none, .none] } }) :=
  .of_wp fun prog w A R s hR => by
    obtain ⟨hp, gs, dr, tk, o⟩ := s
    obtain ⟨ht, hR⟩ := hR
    have hs := sub_enumerate
    have hT : Heap.IsTuple (Shared.heap ⟨hp, gs, dr, tk, o⟩) t its := ⟨_, ht, rfl, k, rfl⟩
    wp_walk using wpAny_loadPart' ht
    refine wpAny_stack_any fun st => wpAny_pure ?_
    split
    · rename_i c _ _ _ _ _
      cases (c == Value.type "enumerate")
      · wp_walk using wpAny_loadPart' ht, wpAny_pyIter_tuple hT
        exact ⟨_, rfl, hR⟩
      · wp_walk using wpAny_loadPart' ht, wpAny_pyIter_tuple hT
        exact ⟨_, rfl, hR⟩
    · wp_walk using wpAny_loadPart' ht, wpAny_pyIter_tuple hT
      exact ⟨_, rfl, hR⟩
section
variable {prog : Program} {w : World} {A : Around} {E : Value → Shared → Prop} {s : Shared}
theorem call_enumT {t : Addr} {its : Array Value} {Q : Value → Shared → Prop} (hT : s.heap.IsTuple t its)
    (hQ : ∀ h', IsEnum h' (s.heap.objs.size + 1) s.heap.objs.size 0 .none → h'.IsTupleIter s.heap.objs.size t 0 → (∀ b o, s.heap.get? b = some o → h'.get? b = some o) → Q (.ref (s.heap.objs.size + 1)) { s with heap := h' }) :
    wpAny (model prog w) A (call (.type "enumerate") [.ref t]) Q E s := by
  obtain ⟨⟨c, od, dt, os⟩, ht, hc, k, hd⟩ := hT
  simp only at hc hd
  subst hc hd
  refine callType_new F.called_enumerate (by decide) (F.typeCall_enumerate_1 _) (F.newCall_enumerate_1 _) (fun obj => F.args_object_init_2 obj _) F.entry_enumerate_new (enum_newT t its k od os) ⟨ht, ?_⟩
  generalize e1 : s.heap.push { cls := .type "tuple_iterator", data := .fields #[.ref t, .int 0 0] } = h1
  have z1 : h1.objs.size = s.heap.objs.size + 1 := by rw [← e1]; exact Heap.size_push ..
  have g1 : h1.get? s.heap.objs.size = some { cls := .type "tuple_iterator", data := .fields #[.ref t, .int 0 0] } := by rw [← e1]; exact Heap.get?_push_size _ rfl
  have k1 : ∀ b o, s.heap.get? b = some o → h1.get? b = some o := fun b o e => by rw [← e1]; exact Heap.get?_push_of_some _ e
  have he : IsEnum (h1.push { cls := .type "enumerate", data := .fields #[.none, .bool false, .ref s.heap.objs.size, rawInt 0, .none, .none] }) (s.heap.objs.size + 1) s.heap.objs.size 0 .none := by
    rw [← z1]
    exact Heap.get?_push_size h1 rfl
  show _ ∧ _
  rw [z1]
  exact ⟨⟨_, he, rfl⟩, hQ _ he ⟨_, Heap.get?_push_of_some _ g1, rfl, rfl⟩ fun b o e => Heap.get?_push_of_some _ (k1 b o e)⟩
theorem draws_tup (hh : A.handled = none) (it t : Addr) (ne : t ≠ it) (its : Array Value) :
    Draws prog w A it [it, t] its.size (fun i v => its[i]? = some v) (fun i h => h.IsTupleIter it t i ∧ h.IsTuple t its) where
  live := fun _ _ st => let ⟨o, ho, _⟩ := st.1; ⟨o, ho⟩
  frame := fun _ _ _ st k => by
    obtain ⟨i1, o, h1, h2, m, h3⟩ := st
    exact ⟨i1.at fun o e => k it (by simp) o e, o, k t (by simp) o h1, h2, m, h3⟩
  item := fun i s Q E hi st hQ => by
    refine RZ.nextOf_tuple_item st.1 st.2 (x := its[i]) (by simp [hi]) fun h' i' sb => ?_
    obtain ⟨_, o, h1, h2, m, h3⟩ := st
    exact hQ _ h' s.toks (by simp [hi]) ⟨i', o, (sb.2 t ne).trans h1, h2, m, h3⟩ sb
  done := fun s Q E st hE => RZ.nextOf_tuple_end hh st.1 st.2 (by simp) hE
end
/-- the tuple at a, each item in a new pair -/
def IteT (K : PySem.W.Frag) (a : Addr) : It :=
  ⟨fun i H => ∃ (xs : List V) (x : V), SqT K H a xs ∧ xs[i]? = some x, fun i H v H' => ∃ T x, v = .ref T ∧ H T = none ∧ H' = upd H T (.tup [.int (i : Nat), x]) ∧ ∀ xs, SqT K H a xs → xs[i]? = some x, fun i H => ∃ xs : List V, SqT K H a xs ∧ xs.length ≤ i⟩
theorem turn_enumT {P : Program} {w : World} {K : PySem.W.Frag} {elts : List Expr} {kk : Nat} {tpos : Pos} (a e it : Addr) :
    Turn P w K (.Tuple elts kk tpos) (IteT K a) [e, it] e (fun i h => (∃ old, IsEnum h e it ((i : Nat) : Int) old) ∧ h.IsTupleIter it a i ∧ e ≠ it) where
  mem := by simp
  obj := fun i h st b hb => by
    obtain ⟨⟨old, he⟩, ⟨o, ho, hc, hd⟩, _⟩ := st
    rcases (show b = e ∨ b = it by simpa using hb) with z | z
    · subst z; exact ⟨_, he, fun v q => nomatch q⟩
    · subst z; exact ⟨o, ho, fun v q => by rw [hd] at q; cases q⟩
  keep := fun i h h' st k => by
    obtain ⟨⟨old, he⟩, hi, ne⟩ := st
    exact ⟨⟨old, k e (by simp) _ he⟩, hi.at fun o q => k it (by simp) o q, ne⟩
  item := by
    intro X hP hw hK hc i pins s σ H E I hf st hg
    subst hP hw hK
    obtain ⟨⟨old, he⟩, hit, ne⟩ := st
    obtain ⟨xs, x, hq, hx⟩ := hg
    obtain ⟨its, rv, p, hz⟩ := I.tuple hq
    obtain ⟨u, hu, ru⟩ := rv.get hx
    have le : e < s.heap.objs.size := Heap.lt_size he
    have li : it < s.heap.objs.size := by
      obtain ⟨_, q, _⟩ := hit
      exact Heap.lt_size q
    have ai : a ≠ it := fun z => by
      obtain ⟨o1, q1, q2, _⟩ := hit
      obtain ⟨o2, q3, q4, _⟩ := (show s.heap.IsTuple a its.toArray from p)
      rw [z, q1] at q3
      cases q3
      rw [q2] at q4
      exact absurd (Value.type.inj q4) (by decide)
    have ae : e ≠ a := fun z => by
      obtain ⟨o2, q3, q4, _⟩ := (show s.heap.IsTuple a its.toArray from p)
      have he' := he
      rw [z] at he'
      have q5 : s.heap.get? a = some _ := he'
      rw [q3] at q5
      cases q5
      exact absurd (Value.type.inj q4) (by decide)
    have hlt : i < its.toArray.size := by
      have := (List.getElem?_eq_some_iff.mp hu).1
      simpa using this
    refine wpAny_pyNext_enum_itemD (draws_tup (A := X.A.in1) (I.ok.hd hc) it a ai its.toArray) he ⟨hit, p⟩ hlt ne (by simp [ne, ae]) ?_
    intro x' h' tk hP ho hst' hT hsz hk
    have ex : x' = u := by
      have z : its.toArray[i]? = some u := by simpa using hu
      exact Option.some.inj (hP.symm.trans z)
    subst ex
    refine ⟨_, rfl, wpAny_letOwnedTupleGo_enum (s := { s with heap := h', toks := tk + 1 }) ho fun h'' he' sb => ?_⟩
    have hT2 : h''.get? s.heap.objs.size = some { cls := .type "tuple", data := .seq #[.int i tk, x'] } := (sb.2 _ (Nat.ne_of_gt le)).trans hT
    have pairOk : ∀ Hn : Hp, ObjOk X.prog X.w Hn h'' s.heap.objs.size (.tup [.int (i : Nat), x]) := fun Hn => ⟨(show 2 ≤ sizeLine by decide), [.int i tk, x'], .cons ⟨_, rfl⟩ (.cons ru .nil), ⟨_, hT2, rfl, _, rfl⟩⟩
    have stay : ∀ c oc, c ∉ [e, it] → s.heap.get? c = some oc → h''.get? c = some oc := fun c oc nc q => by
      have n1 : c ≠ e := fun z => nc (by simp [z])
      have n2 : c ≠ it := fun z => nc (by simp [z])
      exact (sb.2 c n1).trans (hk c oc n1 n2 q)
    have In := I.turnedNew (ch := [e, it]) (t' := tk + 1) stay hf (Nat.le_refl _) (pairOk _)
    refine ⟨.ref s.heap.objs.size, _, In, rfl, ⟨_, x, rfl, I.hok.fresh (Nat.le_refl _), rfl, fun ys hy => by rw [I.tuple_inj hy hq]; exact hx⟩, ⟨⟨x', ?_⟩, hst'.1.at fun o q => (sb.2 it (Ne.symm ne)).trans q, ne⟩, fun b hb => ?_⟩
    · rw [show ((i + 1 : Nat) : Int) = (i : Int) + 1 by omega]
      exact he'
    · have lb : b < s.heap.objs.size := by
        rcases (show b = e ∨ b = it by simpa using hb) with z | z
        · rw [z]; exact le
        · rw [z]; exact li
      rw [upd_ne (Nat.ne_of_lt lb)]
      exact (hf b hb).1
  done := by
    intro X hP hw hK hc i pins s σ H E I hf st hg
    subst hP hw hK
    obtain ⟨⟨old, he⟩, hit, ne⟩ := st
    obtain ⟨xs, hq, hx⟩ := hg
    obtain ⟨its, rv, p, hz⟩ := I.tuple hq
    obtain ⟨fA, fB, _, fC, fD, fE⟩ := hf it (by simp)
    have hl := rv.length
    have T : s.heap.IsTuple a its.toArray := p
    have TyE : s.TypeIs (.ref e) "enumerate" := ⟨_, he, rfl⟩
    unfold pyNext
    refine wpAny_bind (wpAny_attempt (wpAny_callSpecial?_slot (name := Str.ofString "__next__") TyE F.slot_enumerate_next (wpAny_call_entry F.slot_enumerate_next TyE F.entry_enumerate_next ?_ (F.args_enumerate_next_1 _))))
    show wpAny _ _ (field (.ref e) 2 >>= _) _ _ _
    refine wpAny_bind (wpAny_field he rfl (x := .ref it) rfl ?_)
    refine wpAny_bind (RZ.nextOf_tuple_end (I.ok.hd hc) hit T (by simp; omega) fun h' y eb hy => ?_)
    obtain ⟨o, ho, hcl⟩ := hy
    refine wpAny_bind (wpAny_isInstance (T := "StopIteration") (b := true) ⟨o, ho, hcl⟩ isSubtype_stop ?_)
    exact wpAny_pure ⟨rfl, I.turned (t' := s.toks) (fun b o hb q => eb b o hb q) fA fB fC fD fE⟩
  self := fun A i s Q E st h => by
    obtain ⟨⟨_, he⟩, _⟩ := st
    exact wpAny_pyIter_enum he h
def iEnumT (K : PySem.W.Frag) (ta : TA) : TI := fun σ H R => ta σ H fun vs H1 => ∃ a xs, vs = [.ref a] ∧ SqT K H1 a xs ∧ R (IteT K a) H1
theorem pi_enumT {X : Cx} {e : Expr} {ta : TA} {p pos tpos : Pos} {elts : List Expr} {kk : Nat} (hg : Gl X "enumerate") (hm : X.mg "enumerate" = none) (ha : PA X [e] ta) (hs : starEach [e] X.env = [(false, eval e X.env)] := by rfl) :
    PI X (.Tuple elts kk tpos) (.Call (.Name "enumerate" p) [e] [] pos) (iEnumT X.K ta) := by
  constructor
  intro pins s σ H R I hq
  refine Call_ (ld_blt I hg hm boot_enumerate (PyProof.Rows.callWith_type1 (thn (ha.run pos pins s σ H _ I hq) ?_) hs rfl))
  rintro us s1 ⟨vs, H1, I1, r1, a, xs, ex, hT, q⟩
  subst ex
  cases r1 with
  | cons r rr =>
    cases rr
    cases r
    obtain ⟨its, rv, T, hz⟩ := I1.tuple hT
    refine call_enumT (show s1.heap.IsTuple a its.toArray from T) fun h' he hit hk => wpAny_pyIter_enum he ?_
    have Ik := I1.kept (t' := s1.toks) hk
    refine ⟨s1.heap.objs.size + 1, [s1.heap.objs.size + 1, s1.heap.objs.size], _, _, H1, rfl, Ik, turn_enumT a (s1.heap.objs.size + 1) s1.heap.objs.size, ⟨⟨.none, he⟩, hit, Nat.succ_ne_self _⟩, fun b hb => ?_, q⟩
    have lb : s1.heap.objs.size ≤ b := by
      rcases (show b = s1.heap.objs.size + 1 ∨ b = s1.heap.objs.size by simpa using hb) with z | z
      · rw [z]; exact Nat.le_succ _
      · rw [z]; exact Nat.le_refl _
    exact I1.fpOk lb (I1.hok.fresh lb)
theorem walk_enumT {K : PySem.W.Frag} {a : Addr} {xs : List V} : Walk (IteT K a) xs.length (fun H => SqT K H a xs) (fun i H v H' => ∃ T x, v = .ref T ∧ H T = none ∧ H' = upd H T (.tup [.int (i : Nat), x]) ∧ xs[i]? = some x) := by
  refine ⟨fun i H hi q => ⟨xs, xs[i], q, by simp [hi]⟩, fun H q => ⟨xs, q, Nat.le_refl _⟩, fun i H v H' hi q y => ?_⟩
  obtain ⟨T, x, h1, h2, h3, h4⟩ := y
  exact ⟨T, x, h1, h2, h3, h4 xs q⟩
end Wk

set_option Elab.async false
set_option linter.all false
set_option maxRecDepth 100000
set_option maxHeartbeats 4000000
/-! Mail as it is drawn. -/
namespace Wk
open PySem PySem.Spec PyProof.Rows L2 GxR
def cntM : Nat → Nat
  | 0 => 1
  | m + 1 => 1 + 2 * cntM m
theorem deepMs_app : ∀ r q : List MP, deepMs (r ++ q) = max (deepMs r) (deepMs q)
  | [], q => by show deepMs q = max 0 (deepMs q); omega
  | p :: r, q => by
    have := deepMs_app r q
    show max (deepM p) (deepMs (r ++ q)) = max (max (deepM p) (deepMs r)) (deepMs q)
    omega
theorem okMs_app : ∀ {r q : List MP}, okMs r → okMs q → okMs (r ++ q)
  | [], q, _, h => h
  | p :: r, q, g, h => ⟨g.1, okMs_app g.2 h⟩
structure MGP (m : Nat) (ss sp sp' : List Str) (p : MP) : Prop where
  deep : deepM p ≤ m + 1
  size : sizeM p ≤ cntM m
  fr : ∀ S x, x ∈ frM S p → x ∈ ss ∧ x ∉ S
  bd : sp = sp' ++ (bdM p).reverse
  ok : (∀ n ∈ ss, mnB n = true) → (∀ n ∈ sp, mnB n = true) → okM p
structure MGR (m k : Nat) (ss sp sp' : List Str) (r : List MP) : Prop where
  deep : deepMs r ≤ m + 1
  size : sizeMs r ≤ k * cntM m
  fr : ∀ S x, x ∈ frMs S r → x ∈ ss ∧ x ∉ S
  bd : sp = sp' ++ (bdMs r).reverse
  ok : (∀ n ∈ ss, mnB n = true) → (∀ n ∈ sp, mnB n = true) → okMs r
theorem MGR.nil {m : Nat} {ss sp : List Str} : MGR m 0 ss sp sp [] := ⟨Nat.zero_le _, Nat.zero_le _, fun _ _ h => (nomatch h), by simp [bdMs], fun _ _ => trivial⟩
theorem MGR.snoc {m k : Nat} {ss sp sp1 sp2 : List Str} {r : List MP} {p : MP} (h : MGR m k ss sp sp1 r) (g : MGP m ss sp1 sp2 p) : MGR m (k + 1) ss sp sp2 (r ++ [p]) := by
  have mem1 : ∀ n ∈ sp1, n ∈ sp := fun n hn => by rw [h.bd]; exact List.mem_append_left _ hn
  refine ⟨?_, ?_, fun S x hx => ?_, ?_, fun a b => okMs_app (h.ok a b) ⟨g.ok a fun n hn => b n (mem1 n hn), trivial⟩⟩
  · rw [deepMs_app]
    have h1 := h.deep
    have h2 := g.deep
    show max (deepMs r) (max (deepM p) 0) ≤ m + 1
    omega
  · rw [sizeMs_app, Nat.succ_mul]
    have h1 := h.size
    have h2 := g.size
    show sizeMs r + (sizeM p + 0) ≤ _
    omega
  · rw [frMs_app, show frMs S [p] = frM S p ++ [] from rfl, List.append_nil] at hx
    rcases List.mem_append.mp hx with q | q
    · exact h.fr S x q
    · exact g.fr S x q
  · rw [bdMs_app, List.reverse_append, show bdMs [p] = bdM p from List.append_nil _, ← List.append_assoc, ← g.bd]
    exact h.bd
theorem MGR.up {m k j : Nat} {ss sp sp' : List Str} {r : List MP} (h : MGR m k ss sp sp' r) (hk : k ≤ j) : MGR m j ss sp sp' r :=
  ⟨h.deep, Nat.le_trans h.size (Nat.mul_le_mul_right _ hk), h.fr, h.bd, h.ok⟩
theorem cntM_pos (m : Nat) : 1 ≤ cntM m := by
  cases m with
  | zero => exact Nat.le_refl 1
  | succ m => show 1 ≤ 1 + 2 * cntM m; omega
theorem MGP.send {m : Nat} {ss sp : List Str} {a b : Str} (ha : a ∈ ss) (hb : b ∈ ss) : MGP m ss sp sp (.send a b) := by
  refine ⟨by show 1 ≤ m + 1; omega, cntM_pos m, fun S x hx => ?_, by simp [bdM], fun h _ => ⟨h a ha, h b hb⟩⟩
  have hx : x ∈ [a, b].filter fun n => decide (n ∉ S) := hx
  obtain ⟨h1, h2⟩ := List.mem_filter.mp hx
  refine ⟨?_, of_decide_eq_true h2⟩
  rcases List.mem_cons.mp h1 with e | e
  · rw [e]; exact ha
  · rw [List.mem_singleton.mp e]; exact hb
theorem MGP.get {m : Nat} {ss sp1 sp' : List Str} {r : List MP} {a n : Str} (ha : a ∈ ss) (h : MGR m 2 (ss ++ [n, n]) sp1 sp' r) : MGP (m + 1) ss (sp1 ++ [n]) sp' (.get a n r) := by
  have h1 := h.deep
  have h2 := h.size
  refine ⟨?_, ?_, fun S x hx => ?_, ?_, fun ho hp => ⟨ho a ha, hp n (List.mem_append_right _ List.mem_cons_self), h.ok (fun k hk => ?_) fun k hk => hp k (List.mem_append_left _ hk)⟩⟩
  · show deepMs r + 1 ≤ m + 1 + 1
    omega
  · show sizeMs r + 1 ≤ 1 + 2 * cntM m
    omega
  · have hx : x ∈ fltM S [a] ++ frMs (S ++ [n]) r := hx
    rcases List.mem_append.mp hx with q | q
    · obtain ⟨h1, h2⟩ := List.mem_filter.mp (show x ∈ [a].filter fun n => decide (n ∉ S) from q)
      rw [List.mem_singleton.mp h1] at h2 ⊢
      exact ⟨ha, of_decide_eq_true h2⟩
    · obtain ⟨g1, g2⟩ := h.fr _ _ q
      have nS : x ∉ S := fun z => g2 (List.mem_append_left _ z)
      have nn : x ≠ n := fun z => g2 (by rw [z]; exact List.mem_append_right _ List.mem_cons_self)
      rcases List.mem_append.mp g1 with u | u
      · exact ⟨u, nS⟩
      · have : x = n := by simpa using u
        exact absurd this nn
  · show _ = sp' ++ (n :: bdMs r).reverse
    rw [List.reverse_cons, ← List.append_assoc, ← h.bd]
  · rcases List.mem_append.mp hk with u | u
    · exact ho k u
    · have : k = n := by simpa using u
      rw [this]
      exact hp n (List.mem_append_right _ List.mem_cons_self)
def spMP (n : Nat) : Sp := fun vs H Q _ => ∃ (L S A : Addr) (nL : Int) (m : Nat) (ss sp : List Str), GArg vs H L S A nL m ss sp ∧ m ≤ n ∧
  ∀ (H' : Hp) (v : V) (sp' : List Str) (p : MP), StG L S H H' sp' → ThAt H' (thM p) v → MGP m ss sp sp' p → Q v H'
def spMRow (n : Nat) : Sp := fun vs H Q _ => ∃ (L S A : Addr) (nL : Int) (m : Nat) (ss sp : List Str), GArg vs H L S A nL m ss sp ∧ m < n ∧
  ∀ (H' : Hp) (v : V) (sp' : List Str) (r : List MP), StG L S H H' sp' → ThAt H' (thMR r) v → MGR m 2 ss sp sp' r → Q v H'
/-- a letter but z by its number, and up to three more of eight -/
def MNameOf (j : Nat) (z : Str) : Prop := ∃ r, z.cps.toList = (97 + j) :: r ∧ r.length ≤ 3 ∧ ∀ c ∈ r, c ∈ vow.cps.toList
theorem MNameOf.name {j : Nat} {z : Str} (h : MNameOf j z) : NameOf j z := by
  obtain ⟨r, e, h1, h2⟩ := h
  exact ⟨r, e, by omega, h2⟩
theorem MNameOf.ok {j : Nat} {z : Str} (h : MNameOf j z) (hj : j < 25) : mnB z = true := by
  have h1 := name_ok h.name (by omega)
  obtain ⟨r, e, h2, h3⟩ := h
  have l : z.length = r.length + 1 := by
    have : z.length = z.cps.toList.length := (Array.length_toList).symm
    rw [this, e, List.length_cons]
  unfold mnB
  rw [h1, decide_eq_true (by omega), e, List.head?_cons, decide_eq_false (by intro q; have := Option.some.inj q; omega)]
  rfl
abbrev abd : Str := "abcdefghijklmnopqrstuvwxy"
theorem abd_at : ∀ j : Nat, j < 25 → abd.cps.toList[j]? = some (97 + j) := by decide +kernel
def spMNm : Sp := fun vs H Q _ => ∃ (L : Addr) (n : Int) (m : Nat), vs = [.ref L, .int m] ∧ H L = some (.lst [.int n]) ∧ m ≤ 100 ∧
  ∀ (H' : Hp) (p : Addr) (s : Nat) (zs : List Str), StL L H H' → H p = none → H' p = some (.lst (zs.map V.str)) → zs.length = m → s < 25 → (∀ i z, zs[i]? = some z → MNameOf ((s + 4 * i) % 25) z) → Q (.ref p) H'
/-- drawn names differ -/
theorem mnames_nodup {s : Nat} {zs : List Str} (l : zs.length ≤ 25) (h : ∀ i z, zs[i]? = some z → MNameOf ((s + 4 * i) % 25) z) : zs.Nodup := by
  refine List.pairwise_iff_getElem.mpr fun i j hi hj hij e => ?_
  have h1 := h i zs[i] (List.getElem?_eq_getElem hi)
  have h2 := h j zs[j] (List.getElem?_eq_getElem hj)
  rw [← e] at h2
  have := h1.name.inj h2.name
  omega
end Wk

set_option Elab.async false
set_option linter.all false
set_option maxRecDepth 100000
set_option maxHeartbeats 4000000
/-! Mail drawn: rows joined, sizes. -/
namespace Wk
open PySem PySem.Spec PyProof.Rows L2 GxR
def rCatM : R2 := fun x y H Q => ∃ a b xs ys, x = .ref a ∧ y = .ref b ∧ H a = some (.tup xs) ∧ H b = some (.tup ys) ∧ xs.length + ys.length ≤ 1000 ∧ ∀ (H' : Hp) (c : Addr), Same H H' → H' c = some (.tup (xs ++ ys)) → Q (.ref c) H'
theorem op_catM {X : Cx} : OpR X (binaryOp .Add) rCatM := by
  intro pins s σ H x y v u Q I rx ry h
  obtain ⟨a, b, xs, ys, ex, ey, ha, hb, hz, q⟩ := h
  refine op_catA pins s σ H x y v u Q I rx ry ⟨a, b, xs, ys, ex, ey, SqT.of ha, SqT.of hb, small hz, fun e => ?_, fun _ e => ?_, fun _ _ p np => ?_⟩
  · exact q H b (fun _ _ e => e) (by rw [e]; exact hb)
  · exact q H a (fun _ _ e => e) (by rw [e, List.append_nil]; exact ha)
  · exact q _ p (same_new np) upd_same
def spMSize (n : Nat) : Sp := fun vs H Q _ => ∃ (v : V) (r : List MP), vs = [v] ∧ ThAt H (thMR r) v ∧ deepMs r < n ∧ Q (.int (sizeMs r : Nat)) H
/-- drawn so far: parts of names, what is bound taken out of the spare ones -/
structure MDr (zs sc sp : List Str) (r : List MP) : Prop where
  ok : okMs r
  size : sizeMs r ≤ 20
  deep : deepMs r ≤ 4
  fr : ∀ x ∈ frMs [] r, x ∈ sc
  bd : ∃ dn, zs = sp ++ dn ∧ (∀ x ∈ bdMs r, x ∈ dn)
  nd : (bdMs r).Nodup
theorem MDr.none {zs sc : List Str} : MDr zs sc zs [] := ⟨trivial, Nat.zero_le _, Nat.zero_le _, fun _ h => (nomatch h), ⟨[], (List.append_nil _).symm, fun _ h => (nomatch h)⟩, List.nodup_nil⟩
/-- what is drawn and not kept -/
theorem MDr.less {zs sc sp sp' : List Str} {r q : List MP} (h : MDr zs sc sp r) (g : MGR 3 2 sc sp sp' q) : MDr zs sc sp' r := by
  obtain ⟨dn, e, hd⟩ := h.bd
  exact ⟨h.ok, h.size, h.deep, h.fr, ⟨(bdMs q).reverse ++ dn, by rw [← List.append_assoc, ← g.bd]; exact e, fun x hx => List.mem_append_right _ (hd x hx)⟩, h.nd⟩
theorem MDr.more {zs sc sp sp' : List Str} {r q : List MP} (nz : zs.Nodup) (hs : ∀ n ∈ sc, mnB n = true) (hz : ∀ n ∈ zs, mnB n = true) (h : MDr zs sc sp r) (g : MGR 3 2 sc sp sp' q) (hl : sizeMs (r ++ q) ≤ 20) : MDr zs sc sp' (r ++ q) := by
  obtain ⟨dn, e, hd⟩ := h.bd
  have e2 : zs = sp' ++ ((bdMs q).reverse ++ dn) := by rw [← List.append_assoc, ← g.bd]; exact e
  have n2 : ((bdMs q).reverse ++ dn).Nodup := by
    rw [e2] at nz
    exact (List.nodup_append.mp nz).2.1
  obtain ⟨nq, _, dj⟩ := List.nodup_append.mp n2
  have hsp : ∀ n ∈ sp, mnB n = true := fun n hn => hz n (by rw [e]; exact List.mem_append_left _ hn)
  refine ⟨okMs_app h.ok (g.ok hs hsp), hl, ?_, fun x hx => ?_, ⟨_, e2, fun x hx => ?_⟩, ?_⟩
  · rw [deepMs_app]
    have := h.deep
    have := g.deep
    omega
  · rw [frMs_app] at hx
    rcases List.mem_append.mp hx with u | u
    · exact h.fr x u
    · exact (g.fr _ x u).1
  · rw [bdMs_app] at hx
    rcases List.mem_append.mp hx with u | u
    · exact List.mem_append_right _ (hd x u)
    · exact List.mem_append_left _ (List.mem_reverse.mpr u)
  · rw [bdMs_app]
    refine List.nodup_append.mpr ⟨h.nd, (List.reverse_perm _).nodup_iff.mp nq, fun a ha b hb e => ?_⟩
    exact dj b (List.mem_reverse.mpr hb) a (hd a ha) e.symm
theorem MDr.mail {zs sc sp : List Str} {r : List MP} (h : MDr zs sc sp r) (hl : zs.length ≤ 10) (hd : ∀ x ∈ zs, x ∉ sc) : MailR r := by
  obtain ⟨dn, e, hdn⟩ := h.bd
  have sub : ∀ x ∈ bdMs r, x ∈ zs := fun x hx => by rw [e]; exact List.mem_append_right _ (hdn x hx)
  refine ⟨h.ok, h.size, h.deep, ?_, h.nd, fun x hx hf => hd x (sub x hx) (h.fr x hf)⟩
  have := sub_len (bdMs r) zs h.nd sub
  omega
def spMailD : Sp := fun vs H Q _ => ∃ (L N : Addr) (n : Int) (zs : List Str), vs = [.ref L, .ref N] ∧ H L = some (.lst [.int n]) ∧ H N = some (.lst (zs.map V.str)) ∧ N ≠ L ∧ zs.length = 12 ∧ zs.Nodup ∧ (∀ z ∈ zs, mnB z = true ∧ Sh 6 z) ∧
  ∀ (H' : Hp) (v : V) (r : List MP), StL L H H' → ThAt H' (thMR r) v → MailR r → Q v H'
end Wk

set_option Elab.async false
set_option linter.all false
set_option maxRecDepth 100000
set_option maxHeartbeats 4000000
/-! Mail: the law's own look. -/
namespace Wk
open PySem PySem.Spec PyProof.Rows L2 GxR
theorem three : ∀ {ws : List Th}, 3 ≤ ws.length → ∃ x0 x1 x2 wr, ws = x0 :: x1 :: x2 :: wr
  | [], h => by simp at h
  | [_], h => by simp at h
  | [_, _], h => by simp at h
  | x0 :: x1 :: x2 :: wr, _ => ⟨x0, x1, x2, wr, rfl⟩
def isSc : Th → Bool
  | .str _ => true
  | .non => true
  | .int _ => true
  | .bl _ => true
  | _ => false
/-- where two names stand in a part, its first thing is no row -/
def hdT : Nat → Th → Prop
  | 0, _ => True
  | n + 1, t => ∀ x ∈ itemsT t, ∀ y a b r, x = .tup (y :: a :: b :: r) → mnT a = true → mnT b = true → isSc y = true ∧ ∀ z, r = [z] → hdT n z
def hdX (n : Nat) (x : Th) : Prop := ∀ y a b r, x = .tup (y :: a :: b :: r) → mnT a = true → mnT b = true → isSc y = true ∧ ∀ z, r = [z] → hdT n z
theorem hdT_row {n : Nat} {xs : List Th} (h : ∀ x ∈ xs, hdX n x) : hdT (n + 1) (.tup xs) := h
mutual
theorem hdX_part : ∀ (p : MP) (n : Nat), hdX n (thM p)
  | .send n m, k => fun y a b r e _ _ => by
    have e' := Th.tup.inj e
    obtain ⟨e1, e2⟩ := List.cons.inj e'
    obtain ⟨_, e3⟩ := List.cons.inj e2
    obtain ⟨_, e4⟩ := List.cons.inj e3
    refine ⟨by rw [← e1]; rfl, fun z hz => ?_⟩
    rw [hz] at e4
    cases e4
  | .get n x q, k => fun y a b r e _ _ => by
    have e' := Th.tup.inj e
    obtain ⟨e1, e2⟩ := List.cons.inj e'
    obtain ⟨_, e3⟩ := List.cons.inj e2
    obtain ⟨_, e4⟩ := List.cons.inj e3
    refine ⟨by rw [← e1]; rfl, fun z hz => ?_⟩
    rw [hz] at e4
    obtain ⟨e5, _⟩ := List.cons.inj e4
    rw [← e5]
    exact hdT_mail q k
theorem hdT_mail : ∀ (r : List MP) (n : Nat), hdT n (thMR r)
  | _, 0 => trivial
  | r, n + 1 => fun x hx => hdXs r n x hx
theorem hdXs : ∀ (r : List MP) (n : Nat), ∀ x ∈ thMs r, hdX n x
  | [], n, x, h => nomatch h
  | p :: r, n, x, h => by
    rcases List.mem_cons.mp (show x ∈ thM p :: thMs r from h) with e | e
    · rw [e]; exact hdX_part p n
    · exact hdXs r n x e
end
def PartM (m : Nat) (x : Th) : Prop := ∃ p, x = thM p ∧ okM p ∧ deepM p ≤ m
theorem mrow_parts : ∀ (xs : List Th) (m : Nat), (∀ x ∈ xs, PartM m x) → ∃ r : List MP, xs = thMs r ∧ okMs r ∧ deepMs r ≤ m
  | [], m, _ => ⟨[], rfl, trivial, Nat.zero_le _⟩
  | x :: xs, m, h => by
    obtain ⟨p, e, h1, h2⟩ := h x List.mem_cons_self
    obtain ⟨r, e2, h3, h4⟩ := mrow_parts xs m fun y hy => h y (List.mem_cons_of_mem _ hy)
    exact ⟨p :: r, by rw [e, e2]; rfl, ⟨h1, h3⟩, by show max (deepM p) (deepMs r) ≤ m; omega⟩
theorem mparts_row {xs : List Th} {m : Nat} {r : List MP} (e : xs = thMs r) (h : okMs r) (hd : deepMs r ≤ m) : ∀ x ∈ xs, PartM m x := fun x hx => by
  rw [e, thMs_map] at hx
  obtain ⟨p, hp, rfl⟩ := List.mem_map.mp hx
  exact ⟨p, rfl, h.mem p hp, Nat.le_trans (deepMs.mem p hp) hd⟩
theorem PartM.mp {m : Nat} {x : Th} (h : PartM m x) : mpB x = true := by
  obtain ⟨p, rfl, h1, _⟩ := h
  exact mp_part h1
def spLMName : Sp := fun vs H Q _ => ∃ (v : V) (t : Th), vs = [v] ∧ ThAt H t v ∧ okT t ∧ ∀ H', Same H H' → Q (.bl (mnT t)) H'
def spLParts (n : Nat) : Sp := fun vs H Q _ => ∃ (v : V) (t : Th) (m : Nat), vs = [v, .int m] ∧ ThAt H t v ∧ okT t ∧ hdT m t ∧ m < n ∧ ∀ (H' : Hp) (b : Bool), Same H H' → (b = true ↔ ∃ r, t = thMR r ∧ okMs r ∧ deepMs r ≤ m) → Q (.bl b) H'
theorem sc_scal {H : Hp} {y : Th} {v : V} (h : ThAt H y v) (hs : isSc y = true) (z : Str) : scal v (.str z) = true := by
  cases y with
  | str _ => cases h; rfl
  | non => cases h; rfl
  | int _ => cases h; rfl
  | bl _ => cases h; rfl
  | _ => cases hs
theorem sc_str {H : Hp} {y : Th} {v : V} {z : Str} (h : ThAt H y v) (hs : isSc y = true) : v = .str z ↔ y = .str z := by
  cases y with
  | str _ => cases h; exact ⟨fun e => by rw [V.str.inj e], fun e => by rw [Th.str.inj e]⟩
  | non => cases h; exact ⟨fun e => (by cases e), fun e => (by cases e)⟩
  | int _ => cases h; exact ⟨fun e => (by cases e), fun e => (by cases e)⟩
  | bl _ => cases h; exact ⟨fun e => (by cases e), fun e => (by cases e)⟩
  | _ => cases hs
end Wk

set_option Elab.async false
set_option linter.all false
set_option maxRecDepth 100000
set_option maxHeartbeats 400000
/-! Mail: names as the law meets them. -/
namespace Wk
open PySem PySem.Spec PyProof.Rows L2 GxR
/-- kind, name, whether it is bound around -/
abbrev MEnt : Type := Str × Str × Bool
mutual
def meM (S : List Str) : MP → List MEnt
  | .send n m => [("name", n, decide (n ∈ S)), ("name", m, decide (m ∈ S))]
  | .get n x r => ("name", n, decide (n ∈ S)) :: ("bound", x, false) :: meMs (S ++ [x]) r
def meMs (S : List Str) : List MP → List MEnt
  | [] => []
  | p :: r => meM S p ++ meMs S r
end
theorem meMs_app (S : List Str) : ∀ r q : List MP, meMs S (r ++ q) = meMs S r ++ meMs S q
  | [], q => rfl
  | p :: r, q => by
    show meM S p ++ meMs S (r ++ q) = (meM S p ++ meMs S r) ++ meMs S q
    rw [meMs_app S r q, List.append_assoc]
mutual
theorem meM_len : ∀ (p : MP) (S : List Str), (meM S p).length = 2 * sizeM p
  | .send n m, S => rfl
  | .get n x r, S => by
    have := meMs_len r (S ++ [x])
    show (meMs (S ++ [x]) r).length + 1 + 1 = 2 * (sizeMs r + 1)
    omega
theorem meMs_len : ∀ (r : List MP) (S : List Str), (meMs S r).length = 2 * sizeMs r
  | [], S => rfl
  | p :: r, S => by
    have h1 := meM_len p S
    have h2 := meMs_len r S
    show (meM S p ++ meMs S r).length = 2 * (sizeM p + sizeMs r)
    rw [List.length_append]
    omega
end
def bndE (es : List MEnt) : List Str := (es.filter fun e => decide (e.1 = ("bound" : Str))).map (·.2.1)
def freE (es : List MEnt) : List Str := (es.filter fun e => decide (e.1 = ("name" : Str)) && !e.2.2).map (·.2.1)
theorem bndE_app (a b : List MEnt) : bndE (a ++ b) = bndE a ++ bndE b := by unfold bndE; rw [List.filter_append, List.map_append]
theorem freE_app (a b : List MEnt) : freE (a ++ b) = freE a ++ freE b := by unfold freE; rw [List.filter_append, List.map_append]
theorem nb_ne : ¬ ("name" : Str) = "bound" := by decide +kernel
theorem bn_ne : ¬ ("bound" : Str) = "name" := by decide +kernel
theorem freE_name (n : Str) (S : List Str) : freE [("name", n, decide (n ∈ S))] = fltM S [n] := by
  unfold freE fltM
  by_cases c : n ∈ S
  · simp [c]
  · simp [c]
theorem bndE_name (n : Str) (b : Bool) : bndE [("name", n, b)] = [] := by
  unfold bndE
  simp [nb_ne]
mutual
theorem me_frM : ∀ (p : MP) (S : List Str), freE (meM S p) = frM S p
  | .send n m, S => by
    show freE ([(("name" : Str), n, decide (n ∈ S))] ++ [(("name" : Str), m, decide (m ∈ S))]) = fltM S [n, m]
    rw [freE_app, freE_name, freE_name]
    unfold fltM
    rw [← List.filter_append]
    rfl
  | .get n x r, S => by
    show freE ([(("name" : Str), n, decide (n ∈ S))] ++ ([(("bound" : Str), x, false)] ++ meMs (S ++ [x]) r)) = fltM S [n] ++ frMs (S ++ [x]) r
    rw [freE_app, freE_app, freE_name, me_frMs r (S ++ [x]), show freE [("bound", x, false)] = [] from by unfold freE; simp [bn_ne]]
    rfl
theorem me_frMs : ∀ (r : List MP) (S : List Str), freE (meMs S r) = frMs S r
  | [], S => rfl
  | p :: r, S => by
    show freE (meM S p ++ meMs S r) = frM S p ++ frMs S r
    rw [freE_app, me_frM p S, me_frMs r S]
end
mutual
theorem me_bdM : ∀ (p : MP) (S : List Str), bndE (meM S p) = bdM p
  | .send n m, S => by
    show bndE ([(("name" : Str), n, decide (n ∈ S))] ++ [(("name" : Str), m, decide (m ∈ S))]) = []
    rw [bndE_app, bndE_name, bndE_name]
    rfl
  | .get n x r, S => by
    show bndE ([(("name" : Str), n, decide (n ∈ S))] ++ ([(("bound" : Str), x, false)] ++ meMs (S ++ [x]) r)) = x :: bdMs r
    rw [bndE_app, bndE_app, bndE_name, me_bdMs r (S ++ [x]), show bndE [("bound", x, false)] = [x] from by unfold bndE; simp]
    rfl
theorem me_bdMs : ∀ (r : List MP) (S : List Str), bndE (meMs S r) = bdMs r
  | [], S => rfl
  | p :: r, S => by
    show bndE (meM S p ++ meMs S r) = bdM p ++ bdMs r
    rw [bndE_app, me_bdM p S, me_bdMs r S]
end
/-! ### in memory -/
def MEntAt (H : Hp) (e : MEnt) (v : V) : Prop := ∃ t, v = .ref t ∧ H t = some (.tup [.str e.1, .str e.2.1, .bl e.2.2])
def MEntsAt (H : Hp) : List MEnt → List V → Prop
  | [], vs => vs = []
  | e :: es, vs => ∃ v ws, vs = v :: ws ∧ MEntAt H e v ∧ MEntsAt H es ws
theorem MEntsAt.mono {H H' : Hp} (s : STup H H') : ∀ {es : List MEnt} {vs : List V}, MEntsAt H es vs → MEntsAt H' es vs
  | [], _, h => h
  | e :: es, _, h => by
    obtain ⟨v, ws, rfl, ⟨t, rfl, ht⟩, h2⟩ := h
    exact ⟨_, ws, rfl, ⟨t, rfl, s _ _ ht⟩, MEntsAt.mono s h2⟩
theorem MEntsAt.len {H : Hp} : ∀ {es : List MEnt} {vs : List V}, MEntsAt H es vs → vs.length = es.length
  | [], _, h => by rw [h]; rfl
  | e :: es, _, h => by
    obtain ⟨v, ws, rfl, _, h2⟩ := h
    rw [List.length_cons, List.length_cons, MEntsAt.len h2]
theorem MEntsAt.get {H : Hp} : ∀ {es : List MEnt} {vs : List V}, MEntsAt H es vs → ∀ {i : Nat} {v : V}, vs[i]? = some v → ∃ e, es[i]? = some e ∧ MEntAt H e v
  | [], _, h, i, v, hv => by rw [show _ = [] from h] at hv; simp at hv
  | e :: es, _, h, 0, v, hv => by
    obtain ⟨u, ws, rfl, h1, _⟩ := h
    have z : u = v := by simpa using hv
    exact ⟨e, rfl, z ▸ h1⟩
  | e :: es, _, h, i + 1, v, hv => by
    obtain ⟨u, ws, rfl, _, h2⟩ := h
    obtain ⟨e', h3, h4⟩ := MEntsAt.get h2 (i := i) (v := v) (by simpa using hv)
    exact ⟨e', by simpa using h3, h4⟩
theorem MEntsAt.app {H : Hp} {es' : List MEnt} {us : List V} (g : MEntsAt H es' us) : ∀ {es : List MEnt} {vs : List V}, MEntsAt H es vs → MEntsAt H (es ++ es') (vs ++ us)
  | [], _, h => by
    rw [show _ = [] from h]
    exact g
  | e :: es, _, h => by
    obtain ⟨v, ws, rfl, h1, h2⟩ := h
    exact ⟨v, ws ++ us, rfl, h1, MEntsAt.app g h2⟩
theorem MEntsAt.one {H : Hp} {e : MEnt} {v : V} (h : MEntAt H e v) : MEntsAt H [e] [v] := ⟨v, [], rfl, h, rfl⟩
def spMMet (n : Nat) : Sp := fun vs H Q _ => ∃ (v : V) (r : List MP) (aS : Addr) (S : List Str), vs = [v, .ref aS] ∧ ThAt H (thMR r) v ∧ H aS = some (.lst (S.map V.str)) ∧ deepMs r < n ∧ 2 * sizeMs r ≤ 900 ∧ S.length + deepMs r ≤ 900 ∧
  ∀ (H' : Hp) (p : Addr) (us : List V), Same H H' → H p = none → H' p = some (.lst us) → MEntsAt H' (meMs S r) us → Q (.ref p) H'
end Wk

set_option Elab.async false
set_option linter.all false
namespace Wk
open PySem PySem.Spec PyProof.Rows L2 GxR
def spLMail : Sp := fun vs H Q _ => ∃ (v : V) (t : Th), vs = [v] ∧ ThAt H t v ∧ okT t ∧ hdT 4 t ∧ ∀ (H' : Hp) (b : Bool), Same H H' → (b = true ↔ ∃ r, t = thMR r ∧ MailR r) → Q (.bl b) H'
end Wk

set_option Elab.async false
set_option linter.all false
set_option maxRecDepth 100000
set_option maxHeartbeats 400000
namespace Wk
open PySem PySem.Spec PyProof.Rows L2 GxR
theorem abc_lt : ∀ c ∈ abc.cps.toList, c < 128 := by decide +kernel
theorem mn_sh {z : Str} (h : mnB z = true) : Sh 6 z := by
  have l := mn_len h
  have hw := (Bool.and_eq_true_iff.mp (Bool.and_eq_true_iff.mp h).1).2
  have ha := (Bool.and_eq_true_iff.mp (Bool.and_eq_true_iff.mp hw).2).2
  refine ⟨?_, fun c hc => abc_lt c (of_decide_eq_true (List.all_eq_true.mp ha c hc))⟩
  have : z.length = z.cps.toList.length := (Array.length_toList).symm
  omega
mutual
theorem fr_mnM : ∀ (p : MP) (S : List Str), okM p → ∀ x ∈ frM S p, mnB x = true
  | .send n m, S, h, x, hx => by
    have hx : x ∈ [n, m].filter fun n => decide (n ∉ S) := hx
    rcases List.mem_cons.mp (List.mem_filter.mp hx).1 with e | e
    · rw [e]; exact h.1
    · rw [List.mem_singleton.mp e]; exact h.2
  | .get n y r, S, h, x, hx => by
    have hx : x ∈ fltM S [n] ++ frMs (S ++ [y]) r := hx
    rcases List.mem_append.mp hx with e | e
    · rw [List.mem_singleton.mp (List.mem_filter.mp (show x ∈ [n].filter fun n => decide (n ∉ S) from e)).1]
      exact h.1
    · exact fr_mnMs r (S ++ [y]) h.2.2 x e
theorem fr_mnMs : ∀ (r : List MP) (S : List Str), okMs r → ∀ x ∈ frMs S r, mnB x = true
  | [], S, _, x, hx => nomatch hx
  | p :: r, S, h, x, hx => by
    have hx : x ∈ frM S p ++ frMs S r := hx
    rcases List.mem_append.mp hx with e | e
    · exact fr_mnM p S h.1 x e
    · exact fr_mnMs r S h.2 x e
end
def spMAsked (Ts : List Addr) : Sp := fun vs H Q _ => ∃ (v : V) (t : Th), vs = [v] ∧ ThAt H t v ∧ okT t ∧ hdT 4 t ∧ TabsG Ts H ∧ ∀ H', SamTs Ts H H' → Q (.bl true) H'
end Wk

set_option Elab.async false
set_option linter.all false
set_option maxRecDepth 100000
set_option maxHeartbeats 400000
/-! Mail bent: tuples cut; what stays. -/
namespace Wk
open PySem PySem.Spec PyProof.Rows L2 GxR
def rSlS : V → Option Int → Option Int → Hp → VK → Prop := fun x lo hi H Q => ∃ a xs, x = .ref a ∧ H a = some (.tup xs) ∧
  ¬ (HT.sIx xs.length 0 lo = 0 ∧ HT.sIx xs.length xs.length hi = xs.length) ∧ ∀ (H' : Hp) (c : Addr), Same H H' → H' c = some (.tup (cutV xs lo hi)) → Q (.ref c) H'
theorem sl_tupS {X : Cx} : SlR X rSlS := by
  intro pins s σ H x v vl vu lo hi sl Q I rx hs pl pu h
  obtain ⟨a, xs, ex, ha, hw, q⟩ := h
  exact sl_tup pins s σ H x v vl vu lo hi sl Q I rx hs pl pu ⟨a, xs, ex, SqT.of ha, hw, fun p np => q _ p (same_new np) upd_same⟩
/-! ### cut lists of things -/
theorem ThsAt.drop {H : Hp} : ∀ {ts : List Th} {vs : List V} (n : Nat), ThsAt H ts vs → ThsAt H (ts.drop n) (vs.drop n)
  | ts, vs, 0, h => h
  | [], vs, n + 1, h => by rw [show vs = [] from h]; rfl
  | t :: ts, vs, n + 1, h => by
    obtain ⟨v, us, rfl, _, h2⟩ := h
    exact ThsAt.drop n h2
theorem ThsAt.take {H : Hp} : ∀ {ts : List Th} {vs : List V} (n : Nat), ThsAt H ts vs → ThsAt H (ts.take n) (vs.take n)
  | ts, vs, 0, h => by rw [List.take_zero, List.take_zero]; rfl
  | [], vs, n + 1, h => by rw [show vs = [] from h]; rfl
  | t :: ts, vs, n + 1, h => by
    obtain ⟨v, us, rfl, h1, h2⟩ := h
    exact ⟨v, us.take n, rfl, h1, ThsAt.take n h2⟩
def cutG (ts : List Th) (lo hi : Option Int) : List Th := (ts.drop (HT.sIx ts.length 0 lo)).take (HT.sIx ts.length ts.length hi - HT.sIx ts.length 0 lo)
theorem ThsAt.cut {H : Hp} {ts : List Th} {vs : List V} (lo hi : Option Int) (h : ThsAt H ts vs) : ThsAt H (cutG ts lo hi) (cutV vs lo hi) := by
  unfold cutG cutV
  rw [ThsAt.len h]
  exact ThsAt.take _ (ThsAt.drop _ h)
theorem len_cut (ts : List Th) (lo hi : Option Int) : (cutG ts lo hi).length ≤ ts.length := by
  unfold cutG
  rw [List.length_take, List.length_drop]
  omega
theorem ok_cut {ts : List Th} (lo hi : Option Int) (h : okTs ts) : okTs (cutG ts lo hi) :=
  okTs.of fun t ht => okTs.mem h t (List.mem_of_mem_drop (List.mem_of_mem_take ht))
theorem okTs_app {l m : List Th} (h : okTs l) (g : okTs m) : okTs (l ++ m) :=
  okTs.of fun t ht => (List.mem_append.mp ht).elim (okTs.mem h t) (okTs.mem g t)
/-- all but the list at L stays; L holds one number -/
def KpM (L : Addr) (H H' : Hp) : Prop := (∀ b o, b ≠ L → H b = some o → H' b = some o) ∧ ∃ n : Int, H' L = some (.lst [.int n])
theorem KpM.digit {L : Addr} {H : Hp} {n' : Int} : KpM L H (upd H L (.lst [.int n'])) := ⟨fun b o nb e => (upd_ne nb).trans e, n', upd_same⟩
theorem KpM.sm {L : Addr} {H H1 H2 : Hp} (a : KpM L H H1) (s : Same H1 H2) : KpM L H H2 := ⟨fun b o nb e => s _ _ (a.1 b o nb e), a.2.imp fun n e => s _ _ e⟩
theorem KpM.trans {L : Addr} {H H1 H2 : Hp} (a : KpM L H H1) (b : KpM L H1 H2) : KpM L H H2 := ⟨fun c o nc e => b.1 c o nc (a.1 c o nc e), b.2⟩
theorem KpM.refl {L : Addr} {H : Hp} {n : Int} (h : H L = some (.lst [.int n])) : KpM L H H := ⟨fun _ _ _ e => e, n, h⟩
theorem KpM.tup {L : Addr} {H H' : Hp} {n : Int} (h : H L = some (.lst [.int n])) (k : KpM L H H') : STup H H' := fun a xs e => k.1 a _ (fun z => by rw [z, h] at e; cases e) e
def itemsM : MP → List Th
  | .send n m => [.str "send", .str n, .str m]
  | .get n x r => [.str "get", .str n, .str x, .tup (thMs r)]
theorem thM_items (p : MP) : thM p = .tup (itemsM p) := by cases p <;> rfl
/-- a mail with one thing in it bent -/
def spMBent (n : Nat) : Sp := fun vs H Q _ => ∃ (v : V) (r : List MP) (L Bd : Addr) (x : Int) (bs : List Str), vs = [v, .ref L, .ref Bd] ∧ ThAt H (thMR r) v ∧ okMs r ∧ sizeMs r ≤ 20 ∧ deepMs r < n ∧ H L = some (.lst [.int x]) ∧ H Bd = some (.lst (bs.map V.str)) ∧ Bd ≠ L ∧ (∀ z ∈ bs, mnB z = true) ∧ bs.length ≤ 100 ∧
  ∀ (H' : Hp) (u : V) (t : Th), KpM L H H' → ThAt H' t u → okT t → (∀ k, hdT k t) → Q u H'
def rEqT0 (K : PySem.W.Frag) : R2 := fun x y H Q => ∃ (a b : Addr) (xs : List V), x = .ref a ∧ y = .ref b ∧ SqT K H a xs ∧ SqT K H b [] ∧ Q (.bl xs.isEmpty) H
theorem op_eqT0 {X : Cx} (hu : X.A.units + 64 < cLine) : OpR X (compareOp .Eq) (rEqT0 X.K) := by
  intro pins s σ H x y v u Q I rx ry h
  obtain ⟨a, b, xs, rfl, rfl, ha, hb, q⟩ := h
  cases rx
  cases ry
  obtain ⟨its, r1, ⟨o, h1, h2, n, h3⟩, _⟩ := I.tuple ha
  obtain ⟨its2, r2, ⟨o2, k1, k2, n2, k3⟩, _⟩ := I.tuple hb
  cases r2
  have l1 := r1.length
  have t := SeqAt.RcAt.tuples (A := X.A) (s := s) (e := fun _ => true) (items := its.toArray) (items2 := #[]) ⟨o, h1, h2, n, h3⟩ ⟨o2, k1, k2, n2, k3⟩ (by omega) (fun j j1 j2 => absurd j2 (by simp))
  refine t X.prog X.w X.xe _ ?_
  have e : (((List.range (min its.toArray.size (#[] : Array Value).size)).all fun _ => true) && its.toArray.size == (#[] : Array Value).size) = xs.isEmpty := by
    have a1 : ((List.range (min its.toArray.size (#[] : Array Value).size)).all fun _ => true) = true := List.all_eq_true.mpr fun _ _ => rfl
    rw [a1, Bool.true_and, List.size_toArray, ← l1]
    cases xs <;> rfl
  exact ⟨.bl xs.isEmpty, H, I, by rw [← e]; rfl, q⟩
end Wk

set_option Elab.async false
set_option linter.all false
set_option maxRecDepth 100000
set_option maxHeartbeats 400000
/-! Mail bent: the row told. -/
namespace Wk
open PySem PySem.Spec PyProof.Rows L2 GxR
theorem cutTo {xs : List V} {j : Nat} (h : j ≤ xs.length) : cutV xs none (some (j : Int)) = xs.take j := by
  unfold cutV
  rw [HT.sIx_none, HT.sIx_nat, Nat.min_eq_left h, List.drop_zero, Nat.sub_zero]
theorem cutOff {xs : List V} {j : Nat} (h : j ≤ xs.length) : cutV xs (some (j : Int)) none = xs.drop j := by
  unfold cutV
  rw [HT.sIx_none, HT.sIx_nat, Nat.min_eq_left h]
  exact List.take_of_length_le (by rw [List.length_drop]; omega)
abbrev tBRet : TE := tOp rCatM (tOp rCatM (tSl rSlS (tVar 0) tNoPart (tPart (tVar 3))) (tTup (tCons (tVar 4) tNil))) (tSl rSlS (tVar 0) (tPart (tOp (rI0 fun i j => .int (i + j)) (tVar 3) (tC (.int 1)))) tNoPart)
/-- mail[:at] + (part,) + mail[at + 1:] -/
theorem bent_ret {σ : L2.St} {H H5 : Hp} {Q : VK} {L a : Addr} {xs : List V} {r : List MP} {j : Nat} {u : V} {xT : Th} {n5 : Int} (hn5 : H5 L = some (.lst [.int n5])) (ha : H5 a = some (.tup xs)) (hps : ThsAt H5 (thMs r) xs) (hj : j < xs.length) (hok : okMs r) (hsz : sizeMs r ≤ 20)
    (σ0 : σ[0]? = some (some (.ref a))) (σ3 : σ[3]? = some (some (.int (j : Nat)))) (σ4 : σ[4]? = some (some u)) (k5 : KpM L H H5) (hu : ThAt H5 xT u) (oku : okT xT) (hdu : ∀ k, hdX k xT)
    (q : ∀ (H' : Hp) (u : V) (t : Th), KpM L H H' → ThAt H' t u → okT t → (∀ k, hdT k t) → Q u H') : tBRet σ H5 Q := by
  have lx : xs.length = r.length := (ThsAt.len hps).trans (thMs_len r)
  have l20 := len_sizeMs r
  refine ⟨_, σ0, _, σ3, _, rfl, a, xs, rfl, ha, ?_, fun H6 c1 s6 hc1 => ?_⟩
  · rw [HT.sIx_nat]
    rintro ⟨_, e⟩
    omega
  rw [cutTo (by omega)] at hc1
  refine ⟨_, σ4, (show 1 ≤ sizeLine by decide), fun t1 nt1 => ?_⟩
  refine ⟨c1, t1, _, _, rfl, rfl, kn hc1 nt1, upd_same, by rw [List.length_take, List.length_singleton]; omega, fun H7 c2 s7 hc2 => ?_⟩
  have s57 : Same H5 H7 := s6.trans ((same_new nt1).trans s7)
  have ej : ((j : Nat) : Int) + 1 = ((j + 1 : Nat) : Int) := by omega
  refine ⟨_, σ0, _, σ3, _, _, rfl, rfl, _, rfl, a, xs, rfl, s57 _ _ ha, ?_, fun H8 c3 s8 hc3 => ?_⟩
  · rw [ej, HT.sIx_nat]
    rintro ⟨e, _⟩
    omega
  rw [ej, cutOff (by omega)] at hc3
  refine ⟨c2, c3, _, _, rfl, rfl, s8 _ _ hc2, hc3, by rw [List.length_append, List.length_take, List.length_singleton, List.length_drop]; omega, fun H9 c4 s9 hc4 => ?_⟩
  have s59 : Same H5 H9 := s57.trans (s8.trans s9)
  have okr : okTs (thMs r) := okT_Ms r hok (by omega)
  refine q H9 (.ref c4) (.tup (((thMs r).take j ++ [xT]) ++ (thMs r).drop (j + 1))) (k5.sm s59) ⟨c4, _, rfl, hc4, ?_⟩ ⟨?_, ?_⟩ fun k => ?_
  · exact ThsAt.mono (Kpt.same s59) _ _ (ThsAt.app (ThsAt.drop (j + 1) hps) (ThsAt.app (ThsAt.one hu) (ThsAt.take j hps)))
  · rw [List.length_append, List.length_append, List.length_take, List.length_singleton, List.length_drop, thMs_len]
    omega
  · exact okTs_app (okTs_app (okTs.of fun t ht => okr.mem t (List.mem_of_mem_take ht)) ⟨oku, trivial⟩) (okTs.of fun t ht => okr.mem t (List.mem_of_mem_drop ht))
  · cases k with
    | zero => trivial
    | succ k =>
      refine hdT_row fun x hx => ?_
      rcases List.mem_append.mp hx with h | h
      · rcases List.mem_append.mp h with h | h
        · exact hdXs r k x (List.mem_of_mem_take h)
        · rw [List.mem_singleton.mp h]; exact hdu k
      · exact hdXs r k x (List.mem_of_mem_drop h)
end Wk

set_option Elab.async false
set_option linter.all false
set_option maxRecDepth 100000
set_option maxHeartbeats 1000000
/-! Rows within rows: where they stand, and others put there. -/
namespace Wk
open PySem PySem.Spec PyProof.Rows L2 GxR
/-- the row within the room at a place -/
def roomAt (r : List Part) (i : Nat) : Option (List Part) := match r[i]? with
  | some (.oth .room _ q) => some q
  | _ => none
def rowAt (r : List Part) : List Nat → Option (List Part)
  | [] => some r
  | i :: p => (roomAt r i).bind fun q => rowAt q p
theorem rowAt_app (r : List Part) : ∀ p q : List Nat, rowAt r (p ++ q) = (rowAt r p).bind fun s => rowAt s q
  | [], q => rfl
  | i :: p, q => by
    show (roomAt r i).bind (fun s => rowAt s (p ++ q)) = ((roomAt r i).bind fun s => rowAt s p).bind fun s => rowAt s q
    cases roomAt r i with
    | none => rfl
    | some s => exact rowAt_app s p q
def putAt (r : List Part) : List Nat → List Part → List Part
  | [], q => q
  | i :: p, q => match r[i]? with
    | some (.oth w n s) => r.set i (.oth w n (putAt s p q))
    | _ => r
theorem roomAt_some {r : List Part} {i : Nat} {q : List Part} (h : roomAt r i = some q) : ∃ n, r[i]? = some (.oth .room n q) := by
  unfold roomAt at h
  split at h
  · rename_i n q' e
    cases h
    exact ⟨n, e⟩
  · cases h
def spPartAt : Sp := fun vs H Q _ => ∃ (a : Addr) (xs : List V) (r : List Part) (i : Int) (w : Str), vs = [.ref a, .int i, .str w] ∧ H a = some (.tup xs) ∧ PartsAt H r xs ∧ r.length ≤ 100000 ∧
  (∀ (j : Nat) (p : Part) (v : V), i = (j : Nat) → r[j]? = some p → xs[j]? = some v → wordP p = w → Q v H) ∧ ((∀ (j : Nat) (p : Part), i = (j : Nat) → r[j]? = some p → wordP p ≠ w) → Q .non H)
def spRowAt : Sp := fun vs H Q _ => ∃ (s pa : Addr) (n : Int) (rv : V) (r : List Part) (path : List Nat), vs = [.ref s, .ref pa] ∧ H s = some (.tup [.int n, rv]) ∧ RowAt H r rv ∧ sizeR r ≤ 100000 ∧ H pa = some (.tup (vN path)) ∧
  (∀ q v, rowAt r path = some q → RowAt H q v → Q v H) ∧ (rowAt r path = none → Q .non H)
def spWithRow : Sp := fun vs H Q _ => ∃ (v rv : V) (w : Wd) (n : Str) (q r : List Part), vs = [v, rv] ∧ PartAt H (.oth w n q) v ∧ RowAt H r rv ∧ ∀ H' u, Same H H' → PartAt H' (.oth w n r) u → Q u H'
def spWithPart : Sp := fun vs H Q _ => ∃ (v pv : V) (r : List Part) (k : Nat) (p : Part), vs = [v, .int (k : Nat), pv] ∧ RowAt H r v ∧ r.length ≤ 100000 ∧ k < r.length ∧ PartAt H p pv ∧ ∀ H' u, Same H H' → RowAt H' (r.set k p) u → Q u H'
def spPutAt (n : Nat) : Sp := fun vs H Q _ => ∃ (v tv : V) (r q : List Part) (pa : Addr) (path : List Nat), vs = [v, .ref pa, tv] ∧ RowAt H r v ∧ sizeR r ≤ 100000 ∧ H pa = some (.tup (vN path)) ∧ path.length < n ∧ path.length ≤ 1000 ∧ (rowAt r path).isSome = true ∧ RowAt H q tv ∧
  ∀ H' u, Same H H' → RowAt H' (putAt r path q) u → Q u H'
theorem vN_get {l : List Nat} {i : Nat} {v : V} (h : (vN l)[i]? = some v) : ∃ n, l[i]? = some n ∧ v = .int (n : Nat) := by
  unfold vN iN at h
  rw [List.map_map, List.getElem?_map] at h
  obtain ⟨n, h1, rfl⟩ := Option.map_eq_some_iff.mp h
  exact ⟨n, h1, rfl⟩
theorem vN_len (l : List Nat) : (vN l).length = l.length := by
  unfold vN iN
  rw [List.length_map, List.length_map]
theorem vN_drop (l : List Nat) (k : Nat) : (vN l).drop k = vN (l.drop k) := by
  unfold vN iN
  rw [List.map_drop, List.map_drop]
theorem vN_app (a b : List Nat) : vN (a ++ b) = vN a ++ vN b := by
  unfold vN iN
  rw [List.map_append, List.map_append]
theorem PartsAt.at {H : Hp} : ∀ {r : List Part} {xs : List V} {i : Nat} {p : Part}, PartsAt H r xs → r[i]? = some p → ∃ v, xs[i]? = some v ∧ PartAt H p v
  | [], _, i, p, _, e => by cases e
  | p0 :: r, xs, i, p, h, e => by
    obtain ⟨v, us, rfl, h1, h2⟩ := h
    cases i with
    | zero =>
      cases e
      exact ⟨v, rfl, h1⟩
    | succ i => exact PartsAt.at (i := i) h2 e
theorem PartsAt.take {H : Hp} : ∀ {r : List Part} {xs : List V} (n : Nat), PartsAt H r xs → PartsAt H (r.take n) (xs.take n)
  | r, xs, 0, h => by rw [List.take_zero, List.take_zero]; rfl
  | [], xs, n + 1, h => by rw [show xs = [] from h]; rfl
  | p :: r, xs, n + 1, h => by
    obtain ⟨v, us, rfl, h1, h2⟩ := h
    exact ⟨v, us.take n, rfl, h1, h2.take n⟩
theorem PartsAt.drop {H : Hp} : ∀ {r : List Part} {xs : List V} (n : Nat), PartsAt H r xs → PartsAt H (r.drop n) (xs.drop n)
  | r, xs, 0, h => h
  | [], xs, n + 1, h => by rw [show xs = [] from h]; rfl
  | p :: r, xs, n + 1, h => by
    obtain ⟨v, us, rfl, h1, h2⟩ := h
    exact h2.drop n
theorem set_split {r : List Part} {k : Nat} (p : Part) (h : k < r.length) : r.set k p = r.take k ++ (p :: r.drop (k + 1)) := List.set_eq_take_append_cons_drop.trans (if_pos h)
theorem word_room {p : Part} (h : wordP p = "room") : ∃ n q, p = .oth .room n q := by
  cases p with
  | say n => exact absurd (show ("say" : Str) = "room" from h) (by decide +kernel)
  | again q => exact absurd (show ("again" : Str) = "room" from h) (by decide +kernel)
  | oth w n q =>
    cases w with
    | room => exact ⟨n, q, rfl⟩
    | inn => exact absurd (show Wd.str .inn = "room" from h) (by decide +kernel)
    | out => exact absurd (show Wd.str .out = "room" from h) (by decide +kernel)
    | opn => exact absurd (show Wd.str .opn = "room" from h) (by decide +kernel)
    | hear => exact absurd (show Wd.str .hear = "room" from h) (by decide +kernel)
    | new => exact absurd (show Wd.str .new = "room" from h) (by decide +kernel)
theorem word_again {p : Part} (h : wordP p = "again") : ∃ q, p = .again q := by
  cases p with
  | say n => exact absurd (show ("say" : Str) = "again" from h) (by decide +kernel)
  | again q => exact ⟨q, rfl⟩
  | oth w n q =>
    cases w with
    | room => exact absurd (show Wd.str .room = "again" from h) (by decide +kernel)
    | inn => exact absurd (show Wd.str .inn = "again" from h) (by decide +kernel)
    | out => exact absurd (show Wd.str .out = "again" from h) (by decide +kernel)
    | opn => exact absurd (show Wd.str .opn = "again" from h) (by decide +kernel)
    | hear => exact absurd (show Wd.str .hear = "again" from h) (by decide +kernel)
    | new => exact absurd (show Wd.str .new = "again" from h) (by decide +kernel)
theorem room_size {r : List Part} {i : Nat} {w : Wd} {n : Str} {q : List Part} (h : r[i]? = some (.oth w n q)) : sizeR q ≤ sizeR r := by
  have := sizeR.mem _ (List.mem_of_getElem? h)
  have e : sizeP (.oth w n q) = sizeR q + 1 := by
    simp only [sizeP]
  omega
end Wk

set_option Elab.async false
set_option linter.all false
set_option maxRecDepth 100000
set_option maxHeartbeats 1000000
/-! Two walks in one comprehension; what steps there are. -/
namespace Wk
open PySem PySem.Spec PyProof.Rows L2 GxR
theorem lc2_in {J : It} {n : Nat} {G : Hp → Prop} {Y : Nat → Hp → V → Hp → Prop} (wk : Walk J n G Y) {g1 : TG} {tt1 : TT} {te : TE} {vs1 : List Nat} {τ : L2.St} {Ha : Hp} {D : Addr} {Qe : Hp → Prop} (Pd : Nat → Hp → Prop) (hz : Pd 0 Ha) (hGd : ∀ j Hj, j ≤ n → Pd j Hj → G Hj)
    (turn : ∀ j v Hj Hk, j < n → Pd j Hj → Y j Hj v Hk → g1 v (wipe τ vs1) Hk fun τ2 Hb => wipe τ2 vs1 = wipe τ vs1 ∧ tt1 τ2 Hb fun yes Hc =>
      if yes = true then te τ2 Hc fun y He => ∃ acc, He D = some (.lst acc) ∧ acc.length < sizeLine ∧ Pd (j + 1) (upd He D (.lst (acc ++ [y]))) else Pd (j + 1) Hc) (fin : ∀ Hj, Pd n Hj → Qe Hj) :
    ∃ Wd : Nat → Nat → Hp → Prop, (∃ m0, Wd 0 m0 Ha) ∧ ∀ j m0 Hj, Wd j m0 Hj →
      (J.stop j Hj ∧ Qe Hj) ∨ (J.go j Hj ∧ ∃ Nd : Hp → Prop, (∀ Hk, Nd Hk → ∃ m1, m1 < m0 ∧ Wd (j + 1) m1 Hk) ∧ ∀ v Hk, J.yld j Hj v Hk → g1 v (wipe τ vs1) Hk fun τ2 Hb => wipe τ2 vs1 = wipe τ vs1 ∧ tt1 τ2 Hb fun yes Hc =>
        if yes = true then te τ2 Hc fun y He => ∃ acc, He D = some (.lst acc) ∧ acc.length < sizeLine ∧ Nd (upd He D (.lst (acc ++ [y]))) else Nd Hc) := by
  refine ⟨fun j m0 Hj => (j ≤ n ∧ m0 + j = n) ∧ Pd j Hj, ⟨n, ⟨Nat.zero_le n, rfl⟩, hz⟩, fun j m0 Hj hW => ?_⟩
  obtain ⟨⟨hj, hm⟩, hP⟩ := hW
  rcases Nat.lt_or_ge j n with lt | ge
  · exact .inr ⟨wk.goes j Hj lt (hGd j Hj hj hP), Pd (j + 1), fun Hk hk => ⟨m0 - 1, by omega, ⟨lt, by omega⟩, hk⟩, fun v Hk hy => turn j v Hj Hk lt hP (wk.yields j Hj v Hk lt (hGd j Hj hj hP) hy)⟩
  · cases (show j = n by omega)
    exact .inl ⟨wk.stops Hj (hGd _ Hj hj hP), fin Hj hP⟩
/-- both -/
theorem lc2_it {J : It} {n : Nat} {G : Hp → Prop} {Y : Nat → Hp → V → Hp → Prop} (wk : Walk J n G Y) {g g1 : TG} {tt tt1 : TT} {wi1 : TI} {te : TE} {vs vs1 : List Nat} {τ : L2.St} {Ha : Hp} {D : Addr} {Qe : Hp → Prop} (Pd : Nat → Hp → Prop) (hz : Pd 0 (upd Ha D (.lst []))) (hGd : ∀ j Hj, j ≤ n → Pd j Hj → G Hj)
    (turn : ∀ j v Hj Hk, j < n → Pd j Hj → Y j Hj v Hk → g v (wipe τ vs) Hk fun τ2 Hb => wipe τ2 vs = wipe τ vs ∧ tt τ2 Hb fun yes Hc =>
      if yes = true then wi1 τ2 Hc fun J1 Hd => ∃ W1 : Nat → Nat → Hp → Prop, (∃ m, W1 0 m Hd) ∧ ∀ j1 k He, W1 j1 k He →
        (J1.stop j1 He ∧ Pd (j + 1) He) ∨ (J1.go j1 He ∧ ∃ Nx1 : Hp → Prop, (∀ Hf, Nx1 Hf → ∃ k', k' < k ∧ W1 (j1 + 1) k' Hf) ∧ ∀ x Hf, J1.yld j1 He x Hf → g1 x (wipe τ2 vs1) Hf fun τ3 Hg => wipe τ3 vs1 = wipe τ2 vs1 ∧ tt1 τ3 Hg fun b Hh =>
          if b = true then te τ3 Hh fun y Hi => ∃ acc, Hi D = some (.lst acc) ∧ acc.length < sizeLine ∧ Nx1 (upd Hi D (.lst (acc ++ [y]))) else Nx1 Hh)
      else Pd (j + 1) Hc) (fin : ∀ Hj, Pd n Hj → Qe Hj) :
    ∃ Wd : Nat → Nat → Hp → Prop, (∃ m0, Wd 0 m0 (upd Ha D (.lst []))) ∧ ∀ j m0 Hj, Wd j m0 Hj →
      (J.stop j Hj ∧ Qe Hj) ∨ (J.go j Hj ∧ ∃ Nd : Hp → Prop, (∀ Hk, Nd Hk → ∃ m1, m1 < m0 ∧ Wd (j + 1) m1 Hk) ∧ ∀ v Hk, J.yld j Hj v Hk → g v (wipe τ vs) Hk fun τ2 Hb => wipe τ2 vs = wipe τ vs ∧ tt τ2 Hb fun yes Hc =>
        if yes = true then wi1 τ2 Hc fun J1 Hd => ∃ W1 : Nat → Nat → Hp → Prop, (∃ m, W1 0 m Hd) ∧ ∀ j1 k He, W1 j1 k He →
          (J1.stop j1 He ∧ Nd He) ∨ (J1.go j1 He ∧ ∃ Nx1 : Hp → Prop, (∀ Hf, Nx1 Hf → ∃ k', k' < k ∧ W1 (j1 + 1) k' Hf) ∧ ∀ x Hf, J1.yld j1 He x Hf → g1 x (wipe τ2 vs1) Hf fun τ3 Hg => wipe τ3 vs1 = wipe τ2 vs1 ∧ tt1 τ3 Hg fun b Hh =>
            if b = true then te τ3 Hh fun y Hi => ∃ acc, Hi D = some (.lst acc) ∧ acc.length < sizeLine ∧ Nx1 (upd Hi D (.lst (acc ++ [y]))) else Nx1 Hh)
        else Nd Hc) := by
  refine ⟨fun j m0 Hj => (j ≤ n ∧ m0 + j = n) ∧ Pd j Hj, ⟨n, ⟨Nat.zero_le n, rfl⟩, hz⟩, fun j m0 Hj hW => ?_⟩
  obtain ⟨⟨hj, hm⟩, hP⟩ := hW
  rcases Nat.lt_or_ge j n with lt | ge
  · exact .inr ⟨wk.goes j Hj lt (hGd j Hj hj hP), Pd (j + 1), fun Hk hk => ⟨m0 - 1, by omega, ⟨lt, by omega⟩, hk⟩, fun v Hk hy => turn j v Hj Hk lt hP (wk.yields j Hj v Hk lt (hGd j Hj hj hP) hy)⟩
  · cases (show j = n by omega)
    exact .inl ⟨wk.stops Hj (hGd _ Hj hj hP), fin Hj hP⟩
/-! ### steps -/
def hasAt (f : Part → Bool) (r : List Part) (j : Nat) : Bool := match r[j]? with
  | some p => f p
  | none => false
def idx (f : Part → Bool) (r : List Part) (n : Nat) : List Nat := (List.range n).filter (hasAt f r)
theorem idx_succ {f : Part → Bool} {r : List Part} {n : Nat} {p : Part} (h : r[n]? = some p) : idx f r (n + 1) = idx f r n ++ (if f p = true then [n] else []) := by
  unfold idx
  rw [List.range_succ, List.filter_append]
  congr 1
  have e : hasAt f r n = f p := by unfold hasAt; rw [h]
  by_cases c : f p = true
  · rw [if_pos c, List.filter_cons_of_pos (by rw [e]; exact c)]; rfl
  · rw [if_neg c, List.filter_cons_of_neg (by rw [e]; exact c)]; rfl
theorem idx_len (f : Part → Bool) (r : List Part) (n : Nat) : (idx f r n).length ≤ n := by
  unfold idx
  exact Nat.le_trans (List.length_filter_le _ _) (by rw [List.length_range]; exact Nat.le_refl _)
def isRoomC (c : Str) : Part → Bool
  | .oth .room n _ => decide (n = c)
  | _ => false
def isHear : Part → Bool
  | .oth .hear _ _ => true
  | _ => false
def isOutC (c : Str) : Part → Bool
  | .oth .out n _ => decide (n = c)
  | _ => false
def roomsC (r : List Part) (c : Str) : List Nat := idx (isRoomC c) r r.length
def goalsD (r : List Part) (k : Nat) (q : List Part) (d : Nat) : List (Nat × Nat) := match q[d]? with
  | some (.oth .inn c _) => ((roomsC r c).filter fun j => decide (j ≠ k)).map fun j => (d, j)
  | _ => []
def goalsN (r : List Part) (k : Nat) (q : List Part) (n : Nat) : List (Nat × Nat) := ((List.range n).map (goalsD r k q)).flatten
def leavD (c : Str) (q : List Part) (j : Nat) : List (Nat × Nat) := match q[j]? with
  | some (.oth .room _ s) => (idx (isOutC c) s s.length).map fun d => (j, d)
  | _ => []
def leavN (c : Str) (q : List Part) (n : Nat) : List (Nat × Nat) := ((List.range n).map (leavD c q)).flatten
theorem goalsN_succ (r : List Part) (k : Nat) (q : List Part) (n : Nat) : goalsN r k q (n + 1) = goalsN r k q n ++ goalsD r k q n := by
  unfold goalsN
  rw [List.range_succ, List.map_append, List.flatten_append]
  show _ ++ (goalsD r k q n ++ []) = _
  rw [List.append_nil]
theorem leavN_succ (c : Str) (q : List Part) (n : Nat) : leavN c q (n + 1) = leavN c q n ++ leavD c q n := by
  unfold leavN
  rw [List.range_succ, List.map_append, List.flatten_append]
  show _ ++ (leavD c q n ++ []) = _
  rw [List.append_nil]
mutual
def gsP (path : List Nat) (r : List Part) (k : Nat) : Part → List Stp
  | .oth .room c q => ((goalsN r k q q.length).map fun x => ⟨"in", path, [k, x.1, x.2]⟩) ++ (((leavN c q q.length).map fun x => ⟨"out", path, [k, x.1, x.2]⟩) ++ gsL (path ++ [k]) q 0 q)
  | .oth .opn c _ => (roomsC r c).map fun j => ⟨"open", path, [k, j]⟩
  | .say _ => (idx isHear r r.length).map fun j => ⟨"letter", path, [k, j]⟩
  | .again _ => [⟨"again", path, [k]⟩]
  | _ => []
def gsL (path : List Nat) (r : List Part) (k : Nat) : List Part → List Stp
  | [] => []
  | p :: ps => gsP path r k p ++ gsL path r (k + 1) ps
end
def gsR (path : List Nat) (r : List Part) : List Stp := gsL path r 0 r
theorem gsL_snoc (path : List Nat) (r : List Part) (p : Part) : ∀ (k : Nat) (l : List Part), gsL path r k (l ++ [p]) = gsL path r k l ++ gsP path r (k + l.length) p
  | k, [] => by
    show gsP path r k p ++ gsL path r (k + 1) [] = [] ++ gsP path r (k + 0) p
    simp only [gsL, List.append_nil, List.nil_append, Nat.add_zero]
  | k, x :: l => by
    show gsP path r k x ++ gsL path r (k + 1) (l ++ [p]) = gsP path r k x ++ gsL path r (k + 1) l ++ gsP path r (k + (l.length + 1)) p
    rw [gsL_snoc path r p (k + 1) l, List.append_assoc, show k + 1 + l.length = k + (l.length + 1) by omega]
/-- lists of pairs of places -/
def PrsAt (H : Hp) : List (Nat × Nat) → List V → Prop
  | [], vs => vs = []
  | x :: xs, vs => ∃ t us, vs = .ref t :: us ∧ H t = some (.tup [.int (x.1 : Nat), .int (x.2 : Nat)]) ∧ PrsAt H xs us
theorem PrsAt.tup {H H' : Hp} (s : STup H H') : ∀ {xs : List (Nat × Nat)} {vs : List V}, PrsAt H xs vs → PrsAt H' xs vs
  | [], _, h => h
  | x :: xs, _, h => by
    obtain ⟨t, us, e, h1, h2⟩ := h
    exact ⟨t, us, e, s _ _ h1, h2.tup s⟩
theorem PrsAt.len {H : Hp} : ∀ {xs : List (Nat × Nat)} {vs : List V}, PrsAt H xs vs → vs.length = xs.length
  | [], _, h => by rw [show _ = [] from h]; rfl
  | x :: xs, _, h => by
    obtain ⟨t, us, rfl, h1, h2⟩ := h
    rw [List.length_cons, List.length_cons, h2.len]
theorem PrsAt.snoc {H : Hp} {x : Nat × Nat} {t : Addr} (ht : H t = some (.tup [.int (x.1 : Nat), .int (x.2 : Nat)])) : ∀ {xs : List (Nat × Nat)} {vs : List V}, PrsAt H xs vs → PrsAt H (xs ++ [x]) (vs ++ [.ref t])
  | [], _, h => by
    rw [show _ = [] from h]
    exact ⟨t, [], rfl, ht, rfl⟩
  | y :: xs, _, h => by
    obtain ⟨t', us, rfl, h1, h2⟩ := h
    exact ⟨t', _, rfl, h1, h2.snoc ht⟩
theorem PrsAt.get {H : Hp} : ∀ {xs : List (Nat × Nat)} {vs : List V} {i : Nat} {v : V}, PrsAt H xs vs → vs[i]? = some v → ∃ x t, xs[i]? = some x ∧ v = .ref t ∧ H t = some (.tup [.int (x.1 : Nat), .int (x.2 : Nat)])
  | [], _, i, v, h, e => by
    rw [show _ = [] from h] at e
    cases e
  | x :: xs, _, i, v, h, e => by
    obtain ⟨t, us, rfl, h1, h2⟩ := h
    cases i with
    | zero =>
      cases e
      exact ⟨x, t, rfl, rfl, h1⟩
    | succ i => exact PrsAt.get (i := i) h2 e
theorem rooms_len (r : List Part) (c : Str) : (roomsC r c).length ≤ r.length := idx_len _ _ _
theorem goalsD_len (r : List Part) (k : Nat) (q : List Part) (d : Nat) : (goalsD r k q d).length ≤ r.length := by
  unfold goalsD
  split
  · rename_i c _ _
    rw [List.length_map]
    exact Nat.le_trans (List.length_filter_le _ _) (rooms_len r c)
  · exact Nat.zero_le _
theorem goalsN_len (r : List Part) (k : Nat) (q : List Part) : ∀ n, (goalsN r k q n).length ≤ n * r.length
  | 0 => Nat.zero_le _
  | n + 1 => by
    have h1 := goalsN_len r k q n
    have h2 := goalsD_len r k q n
    rw [goalsN_succ, List.length_append, Nat.succ_mul]
    omega
theorem leavD_len {m : Nat} (c : Str) (q : List Part) (hq : sizeR q ≤ m) (d : Nat) : (leavD c q d).length ≤ m := by
  unfold leavD
  split
  · rename_i n s e
    rw [List.length_map]
    have h1 := idx_len (isOutC c) s s.length
    have h2 := len_sizeR s
    have h3 := room_size e
    omega
  · exact Nat.zero_le _
theorem leavN_len {m : Nat} (c : Str) (q : List Part) (hq : sizeR q ≤ m) : ∀ n, (leavN c q n).length ≤ n * m
  | 0 => Nat.zero_le _
  | n + 1 => by
    have h1 := leavN_len c q hq n
    have h2 := leavD_len c q hq n
    rw [leavN_succ, List.length_append, Nat.succ_mul]
    omega
theorem goalsD_no {r : List Part} {k : Nat} {q : List Part} {d : Nat} {p : Part} (h : q[d]? = some p) (no : ∀ c s, p ≠ .oth .inn c s) : goalsD r k q d = [] := by
  unfold goalsD
  rw [h]
  split
  · rename_i c s e
    exact absurd (Option.some.inj e) (no c s)
  · rfl
theorem leavD_no {c : Str} {q : List Part} {d : Nat} {p : Part} (h : q[d]? = some p) (no : ∀ c s, p ≠ .oth .room c s) : leavD c q d = [] := by
  unfold leavD
  rw [h]
  split
  · rename_i c s e
    exact absurd (Option.some.inj e) (no c s)
  · rfl
theorem word_in {p : Part} (h : wordP p = "in") : ∃ n q, p = .oth .inn n q := by
  cases p with
  | say n => exact absurd (show ("say" : Str) = "in" from h) (by decide +kernel)
  | again q => exact absurd (show ("again" : Str) = "in" from h) (by decide +kernel)
  | oth w n q =>
    cases w with
    | inn => exact ⟨n, q, rfl⟩
    | room => exact absurd (show Wd.str .room = "in" from h) (by decide +kernel)
    | out => exact absurd (show Wd.str .out = "in" from h) (by decide +kernel)
    | opn => exact absurd (show Wd.str .opn = "in" from h) (by decide +kernel)
    | hear => exact absurd (show Wd.str .hear = "in" from h) (by decide +kernel)
    | new => exact absurd (show Wd.str .new = "in" from h) (by decide +kernel)
theorem word_out {p : Part} (h : wordP p = "out") : ∃ n q, p = .oth .out n q := by
  cases p with
  | say n => exact absurd (show ("say" : Str) = "out" from h) (by decide +kernel)
  | again q => exact absurd (show ("again" : Str) = "out" from h) (by decide +kernel)
  | oth w n q =>
    cases w with
    | out => exact ⟨n, q, rfl⟩
    | room => exact absurd (show Wd.str .room = "out" from h) (by decide +kernel)
    | inn => exact absurd (show Wd.str .inn = "out" from h) (by decide +kernel)
    | opn => exact absurd (show Wd.str .opn = "out" from h) (by decide +kernel)
    | hear => exact absurd (show Wd.str .hear = "out" from h) (by decide +kernel)
    | new => exact absurd (show Wd.str .new = "out" from h) (by decide +kernel)
def flK (k : Nat) (d : Nat) (l : List Nat) : List (Nat × Nat) := (l.filter fun j => decide (j ≠ k)).map fun j => (d, j)
theorem flK_snoc (k d j : Nat) (l : List Nat) : flK k d (l ++ [j]) = flK k d l ++ (if j = k then [] else [(d, j)]) := by
  unfold flK
  rw [List.filter_append, List.map_append]
  by_cases c : j = k
  · rw [if_pos c, List.filter_cons_of_neg (by simp [c])]; rfl
  · rw [if_neg c, List.filter_cons_of_pos (by simp [c])]; rfl
theorem flK_len (k d : Nat) (l : List Nat) : (flK k d l).length ≤ l.length := by
  unfold flK
  rw [List.length_map]
  exact List.length_filter_le _ _
theorem goalsD_in {r : List Part} {k : Nat} {q : List Part} {d : Nat} {c : Str} {s : List Part} (h : q[d]? = some (.oth .inn c s)) : goalsD r k q d = flK k d (roomsC r c) := by
  unfold goalsD
  rw [h]
  rfl
theorem leavD_room {c : Str} {q : List Part} {j : Nat} {n : Str} {s : List Part} (h : q[j]? = some (.oth .room n s)) : leavD c q j = (idx (isOutC c) s s.length).map fun d => (j, d) := by
  unfold leavD
  rw [h]
def spRoomsC : Sp := fun vs H Q _ => ∃ (v : V) (r : List Part) (c : Str), vs = [v, .str c] ∧ RowAt H r v ∧ sizeR r ≤ 1000 ∧ ∀ (H' : Hp) (p : Addr), Same H H' → H p = none → H' p = some (.lst (vN (roomsC r c))) → Q (.ref p) H'
def spGoals : Sp := fun vs H Q _ => ∃ (v : V) (r : List Part) (k : Nat) (c : Str) (q : List Part), vs = [v, .int (k : Nat)] ∧ RowAt H r v ∧ sizeR r ≤ 1000 ∧ r[k]? = some (.oth .room c q) ∧ ∀ (H' : Hp) (p : Addr) (us : List V), Same H H' → H p = none → H' p = some (.lst us) → PrsAt H' (goalsN r k q q.length) us → Q (.ref p) H'
def spLeavers : Sp := fun vs H Q _ => ∃ (v : V) (c : Str) (q : List Part), vs = [v] ∧ PartAt H (.oth .room c q) v ∧ sizeR q ≤ 1000 ∧ ∀ (H' : Hp) (p : Addr) (us : List V), Same H H' → H p = none → H' p = some (.lst us) → PrsAt H' (leavN c q q.length) us → Q (.ref p) H'
end Wk

set_option Elab.async false
set_option linter.all false
set_option maxRecDepth 100000
set_option maxHeartbeats 1000000
/-! Two pairs of dicts are alike. -/
namespace Wk
open PySem PySem.Spec PyProof.Rows L2 GxR
open PySem.AutoSeq1 (wpAny_loadPart')
def EqIn (P : Program) (w : World) (A : Around) (s : Shared) (y x : Value) : Prop := ∀ (E : Value → Shared → Prop) (Q : Bool → Shared → Prop), Q true s → wpAny (model P w) A (eqBool y x) Q E s
theorem tup2_eq {P : Program} {w : World} (l b : Addr) (x1 x2 y1 y2 : Value) (n n2 : Nat) (dd dd2 : Option Addr) (sl sl2 : Array (Option Value)) :
    MeetsIn P w (Builtin.«tuple.__eq__» ⟨[.ref l, .ref b], []⟩) (fun A R s => (s.heap.get? l = some { cls := .type "tuple", dict := dd, data := .seq #[x1, x2] n, slots := sl }) ∧ (s.heap.get? b = some { cls := .type "tuple", dict := dd2, data := .seq #[y1, y2] n2, slots := sl2 }) ∧
      EqIn P w A.in1 s x1 y1 ∧ EqIn P w A.in1 s x2 y2 ∧ R (.ok (.ret (.bool true))) s) := .of_wp fun A R s h => by
  obtain ⟨hp, g, d, tk, os⟩ := s
  obtain ⟨hl, hb, e1, e2, hR⟩ := h
  have ft := AutoSeq1.sub_tuple_tuple
  wp_walk using wpAny_loadPart' hl, wpAny_loadPart' hb, wpAny_forIn_list _ (fun rest b s' => b.1 = none ∧ s' = ⟨hp, g, d, tk, os⟩ ∧ (rest = [(x1, y1), (x2, y2)] ∨ rest = [(x2, y2)] ∨ rest = [])) _
  case turn =>
    rintro ⟨p, q⟩ rest b s' ⟨_, rfl, hz⟩
    rcases hz with hz | hz | hz
    · cases hz
      refine wpAny_bind (e1 _ _ ?_)
      wp_walk
      exact ⟨rfl, rfl, .inr (.inl rfl)⟩
    · cases hz
      refine wpAny_bind (e2 _ _ ?_)
      wp_walk
      exact ⟨rfl, rfl, .inr (.inr rfl)⟩
    · cases hz
  case fin =>
    rintro ⟨b1, b2⟩ s' ⟨hb', rfl, _⟩
    simp only at hb'
    subst hb'
    wp_walk
    exact ⟨_, rfl, hR⟩
  case h => exact ⟨rfl, rfl, .inl rfl⟩
theorem tup2_ne {P : Program} {w : World} (l b : Addr) (x1 x2 y1 y2 : Value) (n n2 : Nat) (dd dd2 : Option Addr) (sl sl2 : Array (Option Value)) :
    MeetsIn P w (Builtin.«tuple.__ne__» ⟨[.ref l, .ref b], []⟩) (fun A R s => (s.heap.get? l = some { cls := .type "tuple", dict := dd, data := .seq #[x1, x2] n, slots := sl }) ∧ (s.heap.get? b = some { cls := .type "tuple", dict := dd2, data := .seq #[y1, y2] n2, slots := sl2 }) ∧
      EqIn P w A.in1 s x1 y1 ∧ EqIn P w A.in1 s x2 y2 ∧ R (.ok (.ret (.bool false))) s) := .of_wp fun A R s h => by
  obtain ⟨hp, g, d, tk, os⟩ := s
  obtain ⟨hl, hb, e1, e2, hR⟩ := h
  have ft := AutoSeq1.sub_tuple_tuple
  wp_walk using wpAny_loadPart' hl, wpAny_loadPart' hb, wpAny_forIn_list _ (fun rest b s' => b.1 = none ∧ s' = ⟨hp, g, d, tk, os⟩ ∧ (rest = [(x1, y1), (x2, y2)] ∨ rest = [(x2, y2)] ∨ rest = [])) _
  case turn =>
    rintro ⟨p, q⟩ rest b s' ⟨_, rfl, hz⟩
    rcases hz with hz | hz | hz
    · cases hz
      refine wpAny_bind (e1 _ _ ?_)
      wp_walk
      exact ⟨rfl, rfl, .inr (.inl rfl)⟩
    · cases hz
      refine wpAny_bind (e2 _ _ ?_)
      wp_walk
      exact ⟨rfl, rfl, .inr (.inr rfl)⟩
    · cases hz
  case fin =>
    rintro ⟨b1, b2⟩ s' ⟨hb', rfl, _⟩
    simp only at hb'
    subst hb'
    wp_walk
    exact ⟨_, rfl, hR⟩
  case h => exact ⟨rfl, rfl, .inl rfl⟩
/-- two values of the same data -/
def Alk (K : PySem.W.Frag) (H : Hp) (x y : V) : Prop := ∃ d, Dp K H x d ∧ Dp K H y d ∧ SeqAt.shaped d = true
/-- two dicts with the same keys, by each of them the same data -/
def DkEq (K : PySem.W.Frag) (H : Hp) (ks ls : List (Key × V)) : Prop := ks.length = ls.length ∧ ∀ p ∈ ks, ∃ v, valV ls p.1 = some v ∧ Alk K H p.2 v
section
variable {X : Cx} {pins : List (Addr × Obj)} {σ : L2.St} {H : Hp} {s : Shared}
theorem Alk.at (I : Inv X pins σ H s) {A : Around} (hu : A.units + 64 < cLine) {x y : V} {u v : Value} (h : Alk X.K H x y) (rx : RelV x u) (ry : RelV y v) : SeqAt.EqAt A s u v true := by
  obtain ⟨d, h1, h2, sd⟩ := h
  obtain ⟨as, r1⟩ := Dp.reads I d x u h1 rx
  obtain ⟨bs, r2⟩ := Dp.reads I d y v h2 ry
  have c := SeqAt.canLay_of_shaped sd
  have e := SeqAt.eqAt_reads d d A s u v as bs r1 r2 c c (SeqAt.room_of_shaped sd hu)
  rw [SeqAt.eqv_refl d c] at e
  exact e
theorem dk_hits (I : Inv X pins σ H s) {A : Around} (hu : A.units + 64 < cLine) {ls : List (Key × V)} {vb : List (Key × Value)} (rb : KV ls vb) : ∀ {ks : List (Key × V)} {va : List (Key × Value)}, KV ks va → (∀ p ∈ ks, ∃ v, valV ls p.1 = some v ∧ Alk X.K H p.2 v) → PySem.W.KeqHits A s vb va true := by
  intro ks va ra
  unfold KV at ra
  induction ra with
  | nil => intro _; exact .nil
  | @cons p q ps qs h t ih =>
    intro hp
    obtain ⟨h1, h2⟩ := h
    obtain ⟨v0, e, f⟩ := hp p List.mem_cons_self
    have rr := rb.val p.1
    rw [e] at rr
    obtain ⟨z, hz, rz⟩ := RelO.some_of rr
    obtain ⟨k, v⟩ := q
    have h1' : p.1 = k := h1
    rw [h1'] at hz
    show PySem.W.KeqHits A s vb ((k, v) :: _) (true && true)
    exact .hit hz (f.at I hu h2 rz) (ih fun p' hm => hp p' (List.mem_cons_of_mem _ hm))
theorem dk_eqIn (I : Inv X pins σ H s) {A : Around} (hu : A.units + 65 < cLine) {a b : Addr} {ks ls : List (Key × V)} (ea : H a = some (.dK ks)) (eb : H b = some (.dK ls)) (h : DkEq X.K H ks ls) : EqIn X.prog X.w A s (.ref a) (.ref b) := by
  intro E Q q
  by_cases c : a = b
  · subst c
    exact SeqAt.EqAt.same _ X.prog X.w E Q q
  obtain ⟨_, ya, va, ra, da⟩ := dk_of I.hok ea
  obtain ⟨_, yb, vb, rb, db⟩ := dk_of I.hok eb
  have hl : va.length = vb.length := by rw [← ra.length, ← rb.length]; exact h.1
  unfold eqBool
  refine wpAny_holding ?_
  refine wpAny_ite_split (fun hab => absurd (by have := eq_of_beq hab; injection this) c) (fun _ => ?_)
  have hu1 : A.in1.units + 64 < cLine := by show A.units + 1 + 64 < cLine; omega
  exact wpAny_bind (PySem.W.keq_eq (knd := mixKind X.prog X.w) (r := true) ya yb da db (by omega) (fun _ => dk_hits I hu1 rb ra h.2) (wpAny_truthy_bool (by rw [hl]; simpa using q)))
end
/-- (d, e) == (d', e'), alike -/
def rEq2 (K : PySem.W.Frag) (r : Bool) : R2 := fun x y H Q => ∃ (t u a b a' b' : Addr) (ks ls ks' ls' : List (Key × V)), x = .ref t ∧ y = .ref u ∧ H t = some (.tup [.ref a, .ref b]) ∧ H u = some (.tup [.ref a', .ref b']) ∧ H a = some (.dK ks) ∧ H a' = some (.dK ks') ∧ H b = some (.dK ls) ∧ H b' = some (.dK ls') ∧ DkEq K H ks ks' ∧ DkEq K H ls ls' ∧ Q (.bl r) H
section
variable {X : Cx}
theorem op_eq2 (hu : X.A.units + 70 < cLine) : OpR X (compareOp .Eq) (rEq2 X.K true) := by
  intro pins s σ H x y v0 u0 Q I rx ry h
  obtain ⟨t, u, a, b, a', b', ks, ls, ks', ls', rfl, rfl, ht, hu1, ha, ha', hb, hb', d1, d2, q⟩ := h
  cases rx
  cases ry
  obtain ⟨_, its, rv, o, ho, hc, m, hd⟩ := (show ObjOk X.prog X.w H s.heap t (.tup [.ref a, .ref b]) from I.hok t _ ht)
  obtain ⟨_, its', rv', o', ho', hc', m', hd'⟩ := (show ObjOk X.prog X.w H s.heap u (.tup [.ref a', .ref b']) from I.hok u _ hu1)
  cases rv with
  | cons r1 rv =>
  cases rv with
  | cons r2 rv =>
  cases rv
  cases rv' with
  | cons r1' rv' =>
  cases rv' with
  | cons r2' rv' =>
  cases rv'
  cases r1
  cases r2
  cases r1'
  cases r2'
  obtain ⟨c1, dd, data, sl⟩ := o
  obtain ⟨c2, dd2, data2, sl2⟩ := o'
  simp only at hc hd hc' hd'
  subst hc hd hc' hd'
  have g1 : X.A.in1.units + 65 < cLine := by show X.A.units + 1 + 65 < cLine; omega
  refine wpAny_richCompare_same_room (op := .Eq) ⟨_, ho, rfl⟩ ⟨_, ho', rfl⟩ F.slot_tuple_eq (call_meetsIn F.slot_tuple_eq ⟨_, ho, rfl⟩ F.entry_tuple_eq (F.args_tuple_eq_2 _ _) (tup2_eq t u _ _ _ _ m m' dd dd2 sl sl2) ⟨ho, ho', dk_eqIn I g1 ha ha' d1, dk_eqIn I g1 hb hb' d2, show Value.bool true ≠ Value.notImplemented ∧ _ from ⟨(fun x => nomatch x), ?_⟩⟩) (by omega)
  exact ⟨.bl true, H, I, rfl, q⟩
theorem op_ne2 (hu : X.A.units + 70 < cLine) : OpR X (compareOp .NotEq) (rEq2 X.K false) := by
  intro pins s σ H x y v0 u0 Q I rx ry h
  obtain ⟨t, u, a, b, a', b', ks, ls, ks', ls', rfl, rfl, ht, hu1, ha, ha', hb, hb', d1, d2, q⟩ := h
  cases rx
  cases ry
  obtain ⟨_, its, rv, o, ho, hc, m, hd⟩ := (show ObjOk X.prog X.w H s.heap t (.tup [.ref a, .ref b]) from I.hok t _ ht)
  obtain ⟨_, its', rv', o', ho', hc', m', hd'⟩ := (show ObjOk X.prog X.w H s.heap u (.tup [.ref a', .ref b']) from I.hok u _ hu1)
  cases rv with
  | cons r1 rv =>
  cases rv with
  | cons r2 rv =>
  cases rv
  cases rv' with
  | cons r1' rv' =>
  cases rv' with
  | cons r2' rv' =>
  cases rv'
  cases r1
  cases r2
  cases r1'
  cases r2'
  obtain ⟨c1, dd, data, sl⟩ := o
  obtain ⟨c2, dd2, data2, sl2⟩ := o'
  simp only at hc hd hc' hd'
  subst hc hd hc' hd'
  have g1 : X.A.in1.units + 65 < cLine := by show X.A.units + 1 + 65 < cLine; omega
  refine wpAny_richCompare_same_room (op := .NotEq) ⟨_, ho, rfl⟩ ⟨_, ho', rfl⟩ F.slot_tuple_ne (call_meetsIn F.slot_tuple_ne ⟨_, ho, rfl⟩ F.entry_tuple_ne (F.args_tuple_ne_2 _ _) (tup2_ne t u _ _ _ _ m m' dd dd2 sl sl2) ⟨ho, ho', dk_eqIn I g1 ha ha' d1, dk_eqIn I g1 hb hb' d2, show Value.bool false ≠ Value.notImplemented ∧ _ from ⟨(fun x => nomatch x), ?_⟩⟩) (by omega)
  exact ⟨.bl false, H, I, rfl, q⟩
end
end Wk

set_option Elab.async false
set_option linter.all false
set_option maxRecDepth 100000
set_option maxHeartbeats 1000000
/-! What is told of kinds. -/
namespace Wk
open PySem PySem.Spec PyProof.Rows L2 GxR
structure RuleV where
  wk : Bool
  op : Bool
  go : List Str
  sy : Option Str
def osV : Option Str → V
  | some m => .str m
  | none => .non
def RulAt (H : Hp) : List (Str × RuleV) → List (Key × V) → Prop
  | [], kvs => kvs = []
  | r :: rs, kvs => ∃ t l us, kvs = ((Sum.inr r.1 : Key), V.ref t) :: us ∧ H t = some (.tup [.bl r.2.wk, .bl r.2.op, .ref l, osV r.2.sy]) ∧ H l = some (.lst (r.2.go.map V.str)) ∧ RulAt H rs us
theorem RulAt.same {H H' : Hp} (s : Same H H') : ∀ {rs : List (Str × RuleV)} {kvs : List (Key × V)}, RulAt H rs kvs → RulAt H' rs kvs
  | [], _, h => h
  | _ :: _, _, ⟨t, l, us, e, h1, h2, h3⟩ => ⟨t, l, us, e, s _ _ h1, s _ _ h2, RulAt.same s h3⟩
theorem RulAt.off {H : Hp} {D : Addr} {ps qs : List (Key × V)} (hD : H D = some (.dK ps)) : ∀ {rs : List (Str × RuleV)} {kvs : List (Key × V)}, RulAt H rs kvs → RulAt (upd H D (.dK qs)) rs kvs
  | [], _, h => h
  | _ :: _, _, ⟨t, l, us, e, h1, h2, h3⟩ => ⟨t, l, us, e, by rw [upd_ne (ne_of h1 hD (by intro z; cases z))]; exact h1, by rw [upd_ne (ne_of h2 hD (by intro z; cases z))]; exact h2, RulAt.off hD h3⟩
theorem RulAt.snoc {H : Hp} {r : Str × RuleV} {t l : Addr} (h1 : H t = some (.tup [.bl r.2.wk, .bl r.2.op, .ref l, osV r.2.sy])) (h2 : H l = some (.lst (r.2.go.map V.str))) : ∀ {rs : List (Str × RuleV)} {kvs : List (Key × V)}, RulAt H rs kvs → RulAt H (rs ++ [r]) (kvs ++ [((Sum.inr r.1 : Key), V.ref t)])
  | [], _, h => by rw [show _ = [] from h]; exact ⟨t, l, [], rfl, h1, h2, rfl⟩
  | _ :: _, _, ⟨t', l', us, e, g1, g2, g3⟩ => by rw [e]; exact ⟨t', l', _, rfl, g1, g2, RulAt.snoc h1 h2 g3⟩
theorem RulAt.len {H : Hp} : ∀ {rs : List (Str × RuleV)} {kvs : List (Key × V)}, RulAt H rs kvs → kvs.length = rs.length
  | [], _, h => by rw [show _ = [] from h]; rfl
  | _ :: _, _, ⟨_, _, us, e, _, _, h3⟩ => by rw [e, List.length_cons, List.length_cons, RulAt.len h3]
theorem RulAt.none {H : Hp} {g : Str} : ∀ {rs : List (Str × RuleV)} {kvs : List (Key × V)}, RulAt H rs kvs → (∀ r ∈ rs, r.1 ≠ g) → valV kvs (Sum.inr g) = Option.none
  | [], _, h, _ => by rw [show _ = [] from h]; rfl
  | r :: _, _, ⟨_, _, us, e, _, _, h3⟩, no => by
    rw [e, valV_neg (fun z => no r List.mem_cons_self (Sum.inr.inj z))]
    exact RulAt.none h3 fun x hx => no x (List.mem_cons_of_mem _ hx)
theorem RulAt.some {H : Hp} {r : Str × RuleV} : ∀ {rs : List (Str × RuleV)} {kvs : List (Key × V)}, RulAt H rs kvs → (rs.map (·.1)).Nodup → r ∈ rs → ∃ t l, valV kvs (Sum.inr r.1) = some (.ref t) ∧ H t = some (.tup [.bl r.2.wk, .bl r.2.op, .ref l, osV r.2.sy]) ∧ H l = some (.lst (r.2.go.map V.str))
  | [], _, _, _, h => nomatch h
  | a :: rs, _, ⟨t, l, us, e, h1, h2, h3⟩, nd, h => by
    rw [List.map_cons] at nd
    obtain ⟨n1, n2⟩ := List.nodup_cons.mp nd
    rcases List.mem_cons.mp h with e2 | h
    · subst e2
      exact ⟨t, l, by rw [e]; exact valV_pos rfl, h1, h2⟩
    · obtain ⟨t', l', g1, g2, g3⟩ := RulAt.some h3 n2 h
      exact ⟨t', l', by rw [e, valV_neg (fun z => n1 (by rw [Sum.inr.inj z]; exact List.mem_map.mpr ⟨r, h, rfl⟩))]; exact g1, g2, g3⟩
/-- a group's rule, as it is told -/
structure RuleOk (us : List Use3) (G : Str → Str) (S : Str → Option Str) (g : Str) (r : RuleV) : Prop where
  wk : r.wk = !r.go.isEmpty
  op : r.op = true ↔ OpenU us G g
  so : sortedS r.go = true
  nd : r.go.Nodup
  go : ∀ n, n ∈ r.go ↔ GoesU us G g n
  sy : r.sy = (S g).map G
def spKinds (n : Nat) : Sp := fun vs H Q _ => ∃ (v : V) (r : List Part), vs = [v] ∧ RowAt H r v ∧ deepR r < n ∧ sizeR r ≤ 900 ∧ deepR r ≤ 1000 ∧ (∀ L : List Str, L.Nodup → (∀ x ∈ L, x ∈ frR [] r ∨ x ∈ bdR r) → L.length < 60) ∧ (∀ x ∈ frR [] r, x ∉ bdR r) ∧ (("." : Str) ∉ frR [] r) ∧ (("." : Str) ∉ bdR r) ∧
  ∀ (H' : Hp) (t Dt Dr : Addr) (pls : List Str) (G : Str → Str) (us : List Use3) (S : Str → Option Str) (rs : List (Str × RuleV)) (kvs : List (Key × V)), Same H H' → pls.Nodup → (∀ x, x ∈ pls ↔ x = "." ∨ x ∈ frR [] r ∨ x ∈ bdR r) → (∀ u, u ∈ us ↔ u ∈ usesR "." r) → GrOk us pls G S →
    H' t = some (.tup [.ref Dt, .ref Dr]) → H' Dt = some (.dK (kvG G pls)) → H' Dr = some (.dK kvs) → RulAt H' rs kvs → (rs.map (·.1)).Nodup → (∀ g, g ∈ rs.map (·.1) ↔ ∃ x ∈ pls, G x = g) → (∀ r ∈ rs, RuleOk us G S r.1 r.2) → H Dt = none → H Dr = none → Q (.ref t) H'
theorem met_again {M : List Str} {x : Str} (h : x ∈ M) : putK (metK M) (Sum.inr x) (.bl true) = metK M := by
  unfold putK
  rw [if_pos (by rw [valV_any, met_some h]; rfl)]
  unfold metK
  rw [List.map_map]
  refine List.map_congr_left fun z _ => ?_
  show (if (Sum.inr z : Key) = Sum.inr x then ((Sum.inr z : Key), V.bl true) else (Sum.inr z, V.bl true)) = _
  rw [ite_self]
theorem eqV_str (a b : Str) : eqV (.str a) (.str b) = decide (b = a) := by
  show (a == b) = _
  rw [Bool.eq_iff_iff, beq_iff_eq, decide_eq_true_eq]
  exact eq_comm
theorem inV_inout (w : Str) : inV (.str w) (([("in" : Str), ("out" : Str)]).map V.str) = (decide (w = ("in" : Str)) || decide (w = ("out" : Str))) := by
  show (eqV (.str "in") (.str w) || (eqV (.str "out") (.str w) || false)) = _
  rw [eqV_str, eqV_str, Bool.or_false]
theorem inV_open (w : Str) : inV (.str w) (([("open" : Str)]).map V.str) = decide (w = ("open" : Str)) := by
  show (eqV (.str "open") (.str w) || false) = _
  rw [eqV_str, Bool.or_false]
theorem usedU_congr {f g : Str → Bool} {us : List Use3} {G : Str → Str} (h : ∀ w, f w = g w) : usedU f us G = usedU g us G := by rw [show f = g from funext h]
theorem pour_in {U : List Use3} {G : Str → Str} {g x : Str} (h : x ∈ pourU U G g) : ∃ u ∈ U, x = G u.2.2 := by
  rw [pour_used] at h
  exact usedU_mem h
theorem walk_in {U : List Use3} {G : Str → Str} {g x : Str} (h : x ∈ walkU U G g) : ∃ u ∈ U, x = G u.2.2 := by
  rw [walk_used] at h
  exact usedU_mem h
theorem yes_at {σ : L2.St} {H : Hp} {Q : Bool → Hp → Prop} (h : Q true H) : tYes σ H Q := h
/-! where uses are -/
def InC (S : List Str) (p : Part) (x : Str) : Prop := x ∈ S ∨ x ∈ frP S p ∨ x ∈ bdP p
def InR (S : List Str) (r : List Part) (x : Str) : Prop := x ∈ S ∨ x ∈ frR S r ∨ x ∈ bdR r
theorem inC_own (S : List Str) (w : Wd) (n : Str) (r : List Part) : InC S (.oth w n r) n := by
  cases b : w.binds with
  | true => exact .inr (.inr (by show n ∈ (if w.binds then [n] else []) ++ bdR r; rw [b]; exact List.mem_append_left _ (List.mem_singleton.mpr rfl)))
  | false =>
    by_cases c : n ∈ S
    · exact .inl c
    · refine .inr (.inl ?_)
      show n ∈ (if w.binds = true then frR (S ++ [n]) r else (if n ∈ S then [] else [n]) ++ frR S r)
      rw [b, if_neg Bool.false_ne_true, if_neg c]
      exact List.mem_append_left _ (List.mem_singleton.mpr rfl)
theorem inC_rest {S : List Str} {w : Wd} {n : Str} {r : List Part} {x : Str} (h : InR (if w.binds = true then S ++ [n] else S) r x) : InC S (.oth w n r) x := by
  have hb : ∀ y, y ∈ bdR r → InC S (.oth w n r) y := fun y hy => .inr (.inr (List.mem_append_right _ hy))
  cases b : w.binds with
  | true =>
    rw [b, if_pos rfl] at h
    rcases h with h | h | h
    · rcases List.mem_append.mp h with h | h
      · exact .inl h
      · rw [List.mem_singleton.mp h]; exact inC_own S w n r
    · refine .inr (.inl ?_)
      show x ∈ (if w.binds = true then frR (S ++ [n]) r else (if n ∈ S then [] else [n]) ++ frR S r)
      rw [b, if_pos rfl]; exact h
    · exact hb x h
  | false =>
    rw [b, if_neg Bool.false_ne_true] at h
    rcases h with h | h | h
    · exact .inl h
    · refine .inr (.inl ?_)
      show x ∈ (if w.binds = true then frR (S ++ [n]) r else (if n ∈ S then [] else [n]) ++ frR S r)
      rw [b, if_neg Bool.false_ne_true]; exact List.mem_append_right _ h
    · exact hb x h
mutual
theorem usesP_pl : ∀ (S : List Str) (pl : Str) (p : Part) (u : Use3), u ∈ usesP pl p → (u.1 = pl ∨ InC S p u.1) ∧ InC S p u.2.2
  | S, pl, .say n, u, h => by
    rw [List.mem_singleton.mp (show u ∈ [(pl, ("say" : Str), n)] from h)]
    refine ⟨.inl rfl, ?_⟩
    by_cases c : n ∈ S
    · exact .inl c
    · exact .inr (.inl (by show n ∈ (if n ∈ S then [] else [n]); rw [if_neg c]; exact List.mem_singleton.mpr rfl))
  | S, pl, .again r, u, h => usesR_pl S pl r u h
  | S, pl, .oth w n r, u, h => by
    rw [usesP_eq] at h
    rcases List.mem_append.mp h with h | h
    · have e : u.1 = pl ∧ u.2.2 = n := by
        cases w <;> first | (cases h; done) | (rw [List.mem_singleton.mp h]; exact ⟨rfl, rfl⟩)
      rw [e.1, e.2]
      exact ⟨.inl rfl, inC_own S w n r⟩
    · obtain ⟨h1, h2⟩ := usesR_pl (if w.binds = true then S ++ [n] else S) (inPl pl (.oth w n r)) r u h
      refine ⟨?_, inC_rest h2⟩
      rcases h1 with h1 | h1
      · rw [h1]
        cases w <;> first | exact .inl rfl | exact .inr (inC_own S _ n r)
      · exact .inr (inC_rest h1)
theorem usesR_pl : ∀ (S : List Str) (pl : Str) (r : List Part) (u : Use3), u ∈ usesR pl r → (u.1 = pl ∨ InR S r u.1) ∧ InR S r u.2.2
  | S, pl, [], u, h => nomatch h
  | S, pl, p :: r, u, h => by
    have a : ∀ {x}, InC S p x → InR S (p :: r) x := fun h => h.imp id fun h => h.imp (fun h => List.mem_append_left _ h) fun h => List.mem_append_left _ h
    have b : ∀ {x}, InR S r x → InR S (p :: r) x := fun h => h.imp id fun h => h.imp (fun h => List.mem_append_right _ h) fun h => List.mem_append_right _ h
    rcases List.mem_append.mp (show u ∈ usesP pl p ++ usesR pl r from h) with h | h
    · obtain ⟨h1, h2⟩ := usesP_pl S pl p u h
      exact ⟨h1.imp id a, a h2⟩
    · obtain ⟨h1, h2⟩ := usesR_pl S pl r u h
      exact ⟨h1.imp id b, b h2⟩
end
theorem uses_in {r : List Part} {u : Use3} (h : u ∈ usesR "." r) : (u.1 = "." ∨ u.1 ∈ frR [] r ∨ u.1 ∈ bdR r) ∧ (u.2.2 = "." ∨ u.2.2 ∈ frR [] r ∨ u.2.2 ∈ bdR r) := by
  obtain ⟨h1, h2⟩ := usesR_pl [] "." r u h
  exact ⟨h1.imp id fun h => h.elim (fun z => nomatch z) id, .inr (h2.elim (fun z => nomatch z) id)⟩
/-! how many goals -/
theorem used_sum (f : Str → Bool) (G : Str → Str) {M : List Str} (nd : M.Nodup) : ∀ U : List Use3, (M.map fun x => (usedU f U G x).length).sum ≤ U.length
  | [] => by
    have : ∀ M : List Str, (M.map fun x => (usedU f [] G x).length).sum = 0 := fun M => by
      induction M with
      | nil => rfl
      | cons a M ih => rw [List.map_cons, List.sum_cons, ih]; rfl
    rw [this]
    exact Nat.zero_le _
  | u :: U => by
    have ih := used_sum f G nd U
    have e : ∀ x, (usedU f (u :: U) G x).length = (if f u.2.1 = true ∧ G u.1 = x then 1 else 0) + (usedU f U G x).length := fun x => by
      unfold usedU
      rw [List.filter_cons]
      by_cases c : f u.2.1 = true ∧ G u.1 = x
      · rw [if_pos c, if_pos (by rw [c.1, decide_eq_true c.2]; rfl), List.map_cons, List.length_cons]
        omega
      · rw [if_neg c, if_neg, Nat.zero_add]
        intro z
        obtain ⟨z1, z2⟩ := Bool.and_eq_true_iff.mp z
        exact c ⟨z1, of_decide_eq_true z2⟩
    have one : ∀ M : List Str, M.Nodup → (M.map fun x => (usedU f (u :: U) G x).length).sum ≤ 1 + (M.map fun x => (usedU f U G x).length).sum ∧ (G u.1 ∉ M → (M.map fun x => (usedU f (u :: U) G x).length).sum ≤ (M.map fun x => (usedU f U G x).length).sum) := fun M => by
      induction M with
      | nil => intro _; exact ⟨Nat.zero_le _, fun _ => Nat.le_refl _⟩
      | cons a M ih =>
        intro nd
        obtain ⟨n1, n2⟩ := List.nodup_cons.mp nd
        obtain ⟨i1, i2⟩ := ih n2
        simp only [List.map_cons, List.sum_cons]
        rw [e a]
        by_cases c : f u.2.1 = true ∧ G u.1 = a
        · have i3 := i2 (by rw [c.2]; exact n1)
          rw [if_pos c]
          exact ⟨by omega, fun z => absurd (by rw [c.2]; exact List.mem_cons_self) z⟩
        · rw [if_neg c]
          exact ⟨by omega, fun z => by have := i2 fun h => z (List.mem_cons_of_mem _ h); omega⟩
    have := (one M nd).1
    rw [List.length_cons]
    omega
/-- all goals of a group -/
def goalsL (f : Str → Bool) (us : List Use3) (G : Str → Str) (is : List Str) : List Str := (is.map fun i => usedU f us G i).flatten
theorem goalsL_len {f : Str → Bool} {us : List Use3} {G : Str → Str} {M : List Str} (nd : M.Nodup) (g : Str) : (goalsL f us G (g :: M)).length ≤ 2 * us.length := by
  have h1 := usedU_len f us G g
  have h2 := used_sum f G nd us
  unfold goalsL
  rw [List.map_cons, List.flatten_cons, List.length_append, List.length_flatten, List.map_map]
  have e : (M.map (List.length ∘ fun i => usedU f us G i)).sum = (M.map fun x => (usedU f us G x).length).sum := rfl
  rw [e]
  omega
theorem goalsL_take (f : Str → Bool) (us : List Use3) (G : Str → Str) {is : List Str} {i : Nat} {x : Str} (h : is[i]? = some x) : goalsL f us G (is.take (i + 1)) = goalsL f us G (is.take i) ++ usedU f us G x := by
  unfold goalsL
  rw [List.take_add_one, h, List.map_append, List.flatten_append]
  show _ ++ (usedU f us G x ++ []) = _
  rw [List.append_nil]
theorem goalsL_mono (f : Str → Bool) (us : List Use3) (G : Str → Str) (is : List Str) (i : Nat) : (goalsL f us G (is.take i)).length ≤ (goalsL f us G is).length := by
  have e : goalsL f us G is = goalsL f us G (is.take i) ++ goalsL f us G (is.drop i) := by
    unfold goalsL
    rw [← List.flatten_append, ← List.map_append, List.take_append_drop]
  rw [e, List.length_append]
  omega
theorem goalsL_mem {f : Str → Bool} {us : List Use3} {G : Str → Str} {is : List Str} {n : Str} : n ∈ goalsL f us G is ↔ ∃ i ∈ is, n ∈ usedU f us G i := by
  unfold goalsL
  rw [List.mem_flatten]
  constructor
  · rintro ⟨l, hl, hn⟩
    obtain ⟨i, hi, rfl⟩ := List.mem_map.mp hl
    exact ⟨i, hi, hn⟩
  · rintro ⟨i, hi, hn⟩
    exact ⟨_, List.mem_map.mpr ⟨i, hi, rfl⟩, hn⟩
end Wk

set_option Elab.async false
set_option linter.all false
set_option maxRecDepth 100000
set_option maxHeartbeats 1000000
namespace K52
open PySem PySem.Spec PyProof.Rows L2 Wk GxR
abbrev sKinds : Stmt := topS 18
abbrev nmKinds : List Str := ["house", "uses", "groups", "told", "opened", "walked", "poured", "rules", "group", "goes", "place", "word", "name", "inner", "goal"]
theorem scKinds : FnScope nmKinds ["house"] (defScope sKinds) := ⟨rfl, rfl, rfl, by decide +kernel, rfl, by decide +kernel, by decide +kernel⟩
section
variable {P : Program} {w : World} {K : PySem.W.Frag} {mg : Str → Option Value} {base : Heap} {C : Addr}
theorem ok_kinds {f fU fP fG fW fA fS : Addr} {fd fdU fdP fdG fdW fdA fdS : FuncData} {n k : Nat} (F : Fun K "told_kinds" "told_kinds" sKinds f fd) (T : GpC K C)
    (GU : FnOk P w K mg base CX0 k fU fdU ["house"] spUsesIn) (bU : Binds K fdU ["house"] []) (kU : PySem.W.keepIn K (.ref fU) = true) (mU : mg "uses_in" = some (.ref fU))
    (GP : FnOk P w K mg base CX0 k fP fdP ["house"] (spPlaces n)) (bP : Binds K fdP ["house"] []) (kP : PySem.W.keepIn K (.ref fP) = true) (mP : mg "places_of" = some (.ref fP))
    (GG : FnOk P w K mg base CX0 k fG fdG ["places", "uses"] (spGTold C)) (bG : Binds K fdG ["places", "uses"] []) (kG : PySem.W.keepIn K (.ref fG) = true) (mG : mg "groups_told" = some (.ref fG))
    (GW : FnOk P w K mg base CX0 k fW fdW ["told", "uses", "words"] spGUsed) (bW : Binds K fdW ["told", "uses", "words"] []) (kW : PySem.W.keepIn K (.ref fW) = true) (mW : mg "groups_used" = some (.ref fW))
    (GA : FnOk P w K mg base CX0 k fA fdA ["lists", "place"] spAllWithin) (bA : Binds K fdA ["lists", "place"] []) (kA : PySem.W.keepIn K (.ref fA) = true) (mA : mg "all_within" = some (.ref fA))
    (GS : FnOk P w K mg base CX0 k fS fdS ["self", "group"] (spGSaid C)) (bS : Binds K fdS ["self", "group"] []) (mS : Meth K C "group_said" fS)
    (md : mg "dict" = none) (mo : mg "sorted" = none) (ms : mg "set" = none) (mli : mg "list" = none) (ml : mg "len" = none) : FnOk P w K mg base CX0 (k + 1) f fd ["house"] (spKinds n) := by
  refine F.ok scKinds (fun vs H Q E h => ?_) (fun cdv A outer s H vs Q E hr h => ?_)
  · obtain ⟨_, _, rfl, _⟩ := h
    rfl
  obtain ⟨v, r, rfl, hR, hd, hz, hd2, h60, hdis, hdf, hdb, q⟩ := h
  have hu := hu_of hr
  refine ⟨_, pss_cons (ps_set (i := 1) scKinds.nd rfl (.inl rfl) (pe_call GU hr (by rfl) mU kU bU .nil pass0 (pa_cons (pv 0) pa_nil)))
    (pss_cons (ps_set (i := 2) scKinds.nd rfl (.inl rfl) (pe_call GG hr (by rfl) mG kG bG .nil pass0 (pa_cons (pe_call GP hr (by rfl) mP kP bP .nil pass0 (pa_cons (pv 0) pa_nil)) (pa_cons (pv 1) pa_nil))))
    (pss_cons (ps_set (i := 3) scKinds.nd rfl (.inr rfl) (pe_callTy call_dictD (by rfl) md (by decide +kernel) (pa_cons (pe_fld (pv 2) rfl) pa_nil)))
    (pss_cons (ps_setDc (ix := 4) (own := [("place", 10), ("word", 11), ("name", 12)]) (gt := gTup K 3 (gCons (gName 10) (gCons (gName 11) (gCons (gName 12) gNil)))) (tt := tTest (tOp rEq (tVar 11) (tC (.str "open")))) (tk := tDGet (tVar 3) (tVar 12)) (tv := tC (.bl true)) (by rfl) scKinds.nd rfl rfl (sw_trueD rfl rfl rfl (by decide +kernel)) (pi_list (pv 1))
        (blkOk_by (own := [("place", 10), ("word", 11), ("name", 12)]) (N := nmKinds) (sc := defScope sKinds) (by decide +kernel)) (fun _ _ _ _ _ => pg_tup rfl (pgs_cons (pg_name (i := 10) scKinds.nd rfl (.inl rfl)) (pgs_cons (pg_name (i := 11) scKinds.nd rfl (.inl rfl)) (pgs_cons (pg_name (i := 12) scKinds.nd rfl (.inl rfl)) pgs_nil)))) (fun _ _ _ _ _ => pts_one (pt_cmpR op_eq (pv 11) pe_str (nomark _))) (fun _ _ _ _ _ => pe_dget hu (pv 3) (pv 12) (fun _ _ => rfl)) (fun _ _ _ _ _ => pe_bl))
    (pss_cons (ps_set (i := 5) scKinds.nd rfl (.inr rfl) (pe_call GW hr (by rfl) mW kW bW .nil pass0 (pa_cons (pv 3) (pa_cons (pv 1) (pa_cons (pe_tup (pa_cons pe_str (pa_cons pe_str pa_nil))) pa_nil)))))
    (pss_cons (ps_set (i := 6) scKinds.nd rfl (.inl rfl) (pe_call GW hr (by rfl) mW kW bW .nil pass0 (pa_cons (pv 3) (pa_cons (pv 1) (pa_cons (pe_tup (pa_cons pe_str pa_nil)) pa_nil)))))
    (pss_cons (ps_set (i := 7) scKinds.nd rfl (.inl rfl) pe_dnewK)
    (pss_cons (ps_for PassesOwn.never rfl (pi_list (pe_callB (cr_sortedTx rfl) (by rfl) mo (by decide +kernel) (pa_cons (pe_callTy (cr_setTx rfl) (by rfl) ms (by decide +kernel) (pa_cons (pe_listVals rfl (by rfl) mli (pv 3)) pa_nil)) pa_nil))) (pg_name (i := 8) scKinds.nd rfl (.inl rfl))
      (pss_cons (ps_set (i := 9) scKinds.nd rfl (.inl rfl) (pe_callB (cr_sortedTx rfl) (by rfl) mo (by decide +kernel) (pa_cons (pe_callTy (cr_setTx rfl) (by rfl) ms (by decide +kernel) (pa_cons
          (pe_lc2 (own := [("inner", 13), ("goal", 14)]) (vs1 := [14]) (g := gName 13) (g1 := gName 14) (tt := tYes) (tt1 := tYes) (wi1 := iList K (tDGet2 (tVar 5) (tVar 13) (tLst tNil))) (te := tVar 14) (by rfl) scKinds.nd (pi_list (pe_lst (pa_cons (pv 8) (StX.pa_star (pe_call GA hr (by rfl) mA kA bA .nil pass0 (pa_cons (pv 6) (pa_cons (pv 8) pa_nil))) pa_nil))))
            (blkOk_by (own := [("inner", 13), ("goal", 14)]) (N := nmKinds) (sc := defScope sKinds) (by decide +kernel)) (by decide) (fun _ _ _ _ _ => pg_name (i := 13) scKinds.nd rfl (.inl rfl)) (fun _ _ _ _ _ => pts_nil) (fun _ _ _ _ _ => pi_list (pe_dget2 hu (pv 5) (pv 13) (pe_lst pa_nil) ⟨rfl, rfl, rfl, rfl⟩)) (fun _ _ _ _ _ => pg_name (i := 14) scKinds.nd rfl (.inl rfl)) (fun _ _ _ _ _ => pts_nil) (fun _ _ _ _ _ => pv 14))
          pa_nil)) pa_nil)))
      (pss_one (ps_dput hu (pv 7) (pv 8) (pe_tup (pa_cons (pe_cmpR op_gt (pe_callB call_len_seq (by rfl) ml PySem.boot_len (pa_cons (pv 9) pa_nil)) pe_int (nomark _)) (pa_cons (pe_cmp (pc_din hu (pv 8) (pv 4)) rfl) (pa_cons (pv 9) (pa_cons (pe_meth (pv 2) T.cl mS GS hr bS .nil pass0 (pa_cons (pv 8) pa_nil)) pa_nil))))) rfl))))
    (pss_one (ps_ret (pe_tup (pa_cons (pv 3) (pa_cons (pv 7) pa_nil)))))))))))), ?_⟩
  refine ⟨_, rfl, v, r, rfl, hR, hz, fun H1 La us xs s1 nLa hLa hE lu hus => ?_⟩
  refine ⟨_, rfl, v, r, rfl, hR.mono (STup.of s1), hd, by omega, hd2, fun L nd h => Nat.lt_of_lt_of_le (h60 L nd h) (by decide), fun H2 L ys zs s2 nL ndy ndz my mz hL => ?_⟩
  have lyz : (ys ++ zs).length < 60 := h60 _ (List.nodup_append.mpr ⟨ndy, ndz, fun a ha b hb e => hdis a ((my a).mp ha) (by rw [e]; exact (mz b).mp hb)⟩) fun x hx => (List.mem_append.mp hx).imp (my x).mp (mz x).mp
  generalize hpls : (("." : Str) :: ys) ++ zs = pls at hL
  have ndp : pls.Nodup := by
    rw [← hpls, List.cons_append, List.nodup_cons]
    refine ⟨fun h => ?_, List.nodup_append.mpr ⟨ndy, ndz, fun a ha b hb e => hdis a ((my a).mp ha) (by rw [e]; exact (mz b).mp hb)⟩⟩
    rcases List.mem_append.mp h with h | h
    · exact hdf ((my _).mp h)
    · exact hdb ((mz _).mp h)
  have mpl : ∀ x, x ∈ pls ↔ x = "." ∨ x ∈ frR [] r ∨ x ∈ bdR r := fun x => by
    rw [← hpls, List.cons_append, List.mem_cons, List.mem_append, my x, mz x]
  have lpl : pls.length < 62 := by
    rw [← hpls, List.cons_append, List.length_cons]
    omega
  clear hpls
  have hU : ∀ u ∈ us, u.1 ∈ pls ∧ u.2.2 ∈ pls := fun u h => by
    obtain ⟨a, b⟩ := uses_in ((hus u).mp h)
    exact ⟨(mpl _).mpr a, (mpl _).mpr b⟩
  have hE2 := hE.tup (STup.of s2)
  have hLa2 := s2 _ _ hLa
  refine ⟨_, rfl, L, La, pls, us, xs, rfl, hL, ndp, by omega, hLa2, hE2, hU, fun H3 p D S nn G sl s3 hg so gr => ?_⟩
  obtain ⟨dx, hp⟩ := hg.ob
  have hE3 := hE2.tup (STup.of s3)
  have hLa3 := s3 _ _ hLa2
  have s13 := s1.trans (s2.trans s3)
  refine ⟨_, rfl, p, C, dx, _, _, rfl, hp, T.cl, T.nG, gfl_g _ _ _, D, kvG G pls, rfl, .inl hg.gd, fun Dt nDt => ?_⟩
  have sDt : Same H3 (upd H3 Dt (.dK (kvG G pls))) := same_new nDt
  have s14 := s13.trans sDt
  have hg4 := hg.same sDt
  have hLa4 := sDt _ _ hLa3
  have hE4 := hE3.tup (STup.of sDt)
  have hDt4 : upd H3 Dt (.dK (kvG G pls)) Dt = some (.dK (kvG G pls)) := upd_same
  have nDt0 : H Dt = none := by
    cases c : H Dt with
    | none => rfl
    | some o => rw [s13 _ _ c] at nDt; cases nDt
  clear hg hp hLa3 hE3 hL hLa2 hE2 sDt
  generalize upd H3 Dt (.dK (kvG G pls)) = H4 at *
  -- opened
  refine ⟨_, rfl, La, rfl, ⟨_, SqL.of hLa4⟩, fun Do nDo => ?_⟩
  have nDoG : Do ≠ Dt := fun z => by rw [z, hDt4] at nDo; cases nDo
  have nDoL : La ≠ Do := ne_of_none hLa4 nDo
  refine dc_it (walk_list (K := K) (a := La) (xs := xs)) (fun i H' => (∀ b o, b ≠ Do → H4 b = some o → H' b = some o) ∧ ∃ M : List Str, H' Do = some (.dK (metK M)) ∧ M.length ≤ i ∧ ∀ g, g ∈ M ↔ OpenU (us.take i) G g)
    ⟨fun b o ne e => by rw [upd_ne ne]; exact e, [], upd_same, Nat.le_refl 0, fun g => ⟨(fun h => nomatch h), (fun ⟨u, hu, _⟩ => nomatch hu)⟩⟩ (fun i H' _ h => SqL.of (h.1 _ _ nDoL hLa4)) (fun i y H5 H6 hi hP hY => ?_) (fun H5 hP => ?_)
  · obtain ⟨kp, M, hM, lM, mM⟩ := hP
    obtain ⟨rfl, hy⟩ := hY
    obtain ⟨u, t, hu1, rfl, ht⟩ := hE4.get hy
    obtain ⟨pl, wd, nm⟩ := u
    have um := List.mem_of_getElem? hu1
    obtain ⟨hpl, hnm⟩ := hU _ um
    have ilt : i < us.length := (List.getElem?_eq_some_iff.mp hu1).1
    have tk : us.take (i + 1) = us.take i ++ [(pl, wd, nm)] := by rw [List.take_add_one, hu1]; rfl
    have ht6 := kp _ _ (fun z => by rw [z, nDo] at ht; cases ht) ht
    have op1 : ∀ g, OpenU (us.take (i + 1)) G g ↔ OpenU (us.take i) G g ∨ (wd = ("open" : Str) ∧ G nm = g) := fun g => by
      rw [tk]
      constructor
      · rintro ⟨u, hu, h1, h2⟩
        rcases List.mem_append.mp hu with hu | hu
        · exact .inl ⟨u, hu, h1, h2⟩
        · rw [List.mem_singleton.mp hu] at h1 h2; exact .inr ⟨h1, h2⟩
      · rintro (⟨u, hu, h1, h2⟩ | ⟨h1, h2⟩)
        · exact ⟨u, List.mem_append_left _ hu, h1, h2⟩
        · exact ⟨_, List.mem_append_right _ (List.mem_singleton.mpr rfl), h1, h2⟩
    refine ⟨t, _, rfl, SqT.of ht6, rfl, _, _, rfl, _, _, rfl, _, _, rfl, rfl, rfl, _, rfl, rfl, _, rfl, ?_⟩
    by_cases c : wd = ("open" : Str)
    rotate_left
    · refine iteD (decide_eq_false fun e => c (V.str.inj e)) ⟨kp, M, hM, by omega, fun g => ?_⟩
      rw [mM g, op1 g]
      exact ⟨.inl, fun h => h.elim id fun h => absurd h.1 c⟩
    refine iteU (decide_eq_true (by rw [c])) ?_
    refine ⟨_, rfl, _, rfl, Dt, _, rfl, dget_G (kp _ _ (Ne.symm nDoG) hDt4) hnm, ?_⟩
    refine ⟨metK M, Sum.inr (G nm), rfl, hM, by rw [met_len]; exact Nat.lt_of_le_of_lt (show M.length ≤ 1000 by omega) (by decide), fun b o ne e => by rw [upd_ne ne]; exact kp b o ne e, ?_⟩
    by_cases m : G nm ∈ M
    · refine ⟨M, by rw [upd_same, met_again m], by omega, fun g => ?_⟩
      rw [mM g, op1 g]
      exact ⟨.inl, fun h => h.elim id fun h => by rw [← h.2]; exact (mM _).mp m⟩
    · refine ⟨M ++ [G nm], by rw [upd_same, met_put m], by rw [List.length_append, List.length_singleton]; omega, fun g => ?_⟩
      rw [List.mem_append, mM g, op1 g, List.mem_singleton]
      exact or_congr Iff.rfl ⟨fun e => ⟨c, e.symm⟩, fun h => h.2.symm⟩
  obtain ⟨kp5, Mo, hMo, lMo, mMo⟩ := hP
  rw [hE4.len, List.take_length] at mMo
  have s45 : Same H4 H5 := fun b o e => kp5 b o (fun z => by rw [z, nDo] at e; cases e) e
  have s15 := s14.trans s45
  have hg5 := hg4.same s45
  have hLa5 := s45 _ _ hLa4
  have hE5 := hE4.tup (STup.of s45)
  have hDt5 := s45 _ _ hDt4
  -- walked, poured
  refine ⟨_, rfl, _, rfl, (show 2 ≤ sizeLine by decide), fun tW ntW => ?_⟩
  have sW := same_new (o := HO.tup [V.str "in", V.str "out"]) ntW
  refine ⟨Dt, La, tW, G, pls, us, xs, ["in", "out"], rfl, sW _ _ hDt5, sW _ _ hLa5, hE5.tup (STup.of sW), hU, lu, upd_same, fun H6 dw ew s6 hdw hAw => ?_⟩
  have s56 := sW.trans s6
  have hDt6 := s56 _ _ hDt5
  have hLa6 := s56 _ _ hLa5
  have hE6 := hE5.tup (STup.of s56)
  refine ⟨_, rfl, _, rfl, (show 1 ≤ sizeLine by decide), fun tO ntO => ?_⟩
  have sO := same_new (o := HO.tup [V.str "open"]) ntO
  refine ⟨Dt, La, tO, G, pls, us, xs, ["open"], rfl, sO _ _ hDt6, sO _ _ hLa6, hE6.tup (STup.of sO), hU, lu, upd_same, fun H7 dp ep s7 hdp hAp => ?_⟩
  have s67 := sO.trans s7
  have ew1 : usedU (fun w : Str => inV (.str w) (([("in" : Str), ("out" : Str)]).map V.str)) us G = walkU us G := by
    rw [walk_used, usedU_congr inV_inout]
  have ep1 : usedU (fun w : Str => inV (.str w) (([("open" : Str)]).map V.str)) us G = pourU us G := by
    rw [pour_used, usedU_congr inV_open]
  have hAw7 := ((hAw.same s67).congr ew1).lsts
  have hAp7 := (hAp.congr ep1).lsts
  have hdw7 := s67 _ _ hdw
  have s57 := s56.trans s67
  have s17 := s15.trans s57
  have hg7 := hg5.same s57
  have hDt7 := s57 _ _ hDt5
  have hMo7 := s57 _ _ hMo
  clear hAw hAp hdw s6 s7 sO sW s67 s56 hg5 hDt6 hLa6 hE6 hLa5 hE5 hDt5 ew1 ep1 hDt4 hLa4 hE4 hg4 s45 kp5 hMo nDo
  -- rules
  intro Dr nDr
  have sR : Same H7 (upd H7 Dr (.dK [])) := same_new nDr
  have hDr0 : upd H7 Dr (.dK []) Dr = some (.dK []) := upd_same
  have nDr0 : H Dr = none := by
    cases c : H Dr with
    | none => rfl
    | some o => rw [s17 _ _ c] at nDr; cases nDr
  have hDt8 := sR _ _ hDt7
  refine ⟨_, rfl, Dt, kvG G pls, rfl, hDt8, fun Lv nLv => ?_⟩
  have ev : (kvG G pls).map (·.2) = (pls.map G).map V.str := by unfold kvG; rw [List.map_map, List.map_map]; rfl
  rw [ev]
  refine ⟨Lv, pls.map G, rfl, SqL.of upd_same, by rw [List.length_map]; exact Nat.lt_of_le_of_lt (show pls.length + 1 ≤ 100 by omega) (by decide), fun pS gl npS ndS mS1 lS => ?_⟩
  rw [List.length_map] at lS
  generalize hoS : TxO _ _ pS gl = oS
  refine ⟨pS, gl, rfl, upd_same.trans (congrArg some hoS.symm), by omega, fun gs pG pm sog npG => ?_⟩
  have ndg : gs.Nodup := pm.nodup_iff.mpr ndS
  have mgs : ∀ g, g ∈ gs ↔ ∃ x ∈ pls, G x = g := fun g => by rw [pm.mem_iff, mS1 g, List.mem_map]
  have sV := (same_new nLv).trans ((same_new npS).trans (same_new (o := HO.lst (gs.map V.str)) npG))
  have hG0 : (upd (upd (upd (upd H7 Dr (.dK [])) Lv (.lst ((pls.map G).map V.str))) pS oS) pG (.lst (gs.map V.str))) pG = some (.lst (gs.map V.str)) := upd_same
  have hDr9 := sV _ _ hDr0
  have s79 := sR.trans sV
  have nDrG : pG ≠ Dr := fun z => by rw [z] at npG; rw [((same_new nLv).trans (same_new npS)) _ _ hDr0] at npG; cases npG
  clear sV nLv npS sR hDr0 hDt8
  generalize (upd (upd (upd (upd H7 Dr (.dK [])) Lv (.lst ((pls.map G).map V.str))) pS oS) pG (.lst (gs.map V.str))) = H9 at *
  refine ⟨pG, rfl, ⟨_, SqL.of hG0⟩, for_it (walk_list (xs := gs.map V.str)) (fun i σ H' => ∃ (rs : List (Str × RuleV)) (kvs : List (Key × V)) (s8 s9 : Option V), σ = [some v, some (.ref La), some (.ref p), some (.ref Dt), some (.ref Do), some (.ref dw), some (.ref dp), some (.ref Dr), s8, s9, none, none, none, none, none] ∧ (∀ b o, b ≠ Dr → H9 b = some o → H' b = some o) ∧ H' Dr = some (.dK kvs) ∧ RulAt H' rs kvs ∧ rs.map (·.1) = gs.take i ∧ ∀ x ∈ rs, RuleOk us G (sayL sl) x.1 x.2)
    ⟨[], [], _, _, rfl, fun _ _ _ e => e, hDr9, rfl, rfl, fun _ h => nomatch h⟩ (fun i σ H' _ hP => ?_) (fun i y σ Ha Hb hi hP hY => ?_) (fun σ H' hP => ?_)⟩
  · obtain ⟨_, _, _, _, _, kp, _⟩ := hP
    exact SqL.of (kp _ _ nDrG hG0)
  rotate_left
  · obtain ⟨rs, kvs, s8, s9, rfl, kp, hDr, hRu, hrs, hok⟩ := hP
    rw [List.length_map, List.take_length] at hrs
    have s9' : Same H7 H' := fun b o e => kp b o (ne_of_none e nDr) (s79 _ _ e)
    refine ⟨_, rfl, _, rfl, (show 2 ≤ sizeLine by decide), fun tt ntt => ?_⟩
    have sT := same_new (o := HO.tup [V.ref Dt, V.ref Dr]) ntt
    exact q _ tt Dt Dr pls G us (sayL sl) rs kvs (s17.trans (s9'.trans sT)) ndp mpl hus gr upd_same (sT _ _ (s9' _ _ hDt7)) (sT _ _ hDr) (hRu.same sT) (by rw [hrs]; exact ndg) (by rw [hrs]; exact mgs) hok nDt0 nDr0
  obtain ⟨rs, kvs, s8, s9, rfl, kp, hDr, hRu, hrs, hok⟩ := hP
  obtain ⟨rfl, hy⟩ := hY
  rw [List.getElem?_map] at hy
  obtain ⟨g, hgi, rfl⟩ := Option.map_eq_some_iff.mp hy
  have sa : Same H7 Hb := fun b o e => kp b o (ne_of_none e nDr) (s79 _ _ e)
  have gm : g ∈ gs := List.mem_of_getElem? hgi
  have gtk : g ∉ gs.take i := nodup_take ndg hgi
  have lenA : ∀ p, (pourU us G p).length ≤ 900 := fun p => by
    rw [pour_used]
    exact Nat.le_trans (usedU_len _ _ _ _) lu
  have lstsA : ∀ {Hc : Hp}, Same Hb Hc → LstsAt Hc (kvL ep) (pourU us G) := fun sc p => (hAp7 p).imp (fun ⟨l, h1, h2⟩ => ⟨l, h1, sc _ _ (sa _ _ h2)⟩) id
  -- the goals
  refine ⟨_, rfl, _, rfl, _, rfl, dp, kvL ep, pourU us G, pls, g, rfl, sa _ _ hdp, lstsA (fun _ _ e => e), (fun p x hx => by
      obtain ⟨u, hu, rfl⟩ := pour_in hx
      exact gr.cl _ (hU u hu).2), by omega, lenA, fun Hc lA M sc hlA hMA ndM => ?_⟩
  refine ⟨lA, _, rfl, .inr (SqL.of hlA), ?_⟩
  have lM : M.length ≤ pls.length := sub_len M pls ndM fun x hx => rch_univ (U := pls) (fun p x hx => by
      obtain ⟨u, hu, rfl⟩ := pour_in hx
      exact gr.cl _ (hU u hu).2) ((hMA x).mp hx)
  have eI : V.str g :: (M.map V.str ++ []) = (g :: M).map V.str := by rw [List.append_nil]; rfl
  refine ⟨?_, fun Li nLi => ?_⟩
  · rw [eI, List.length_map]
    exact Nat.le_of_lt (small1000 (by rw [List.length_cons]; omega))
  rw [eI]
  have sLi := same_new (o := HO.lst ((g :: M).map V.str)) nLi
  have hLi : upd Hc Li (.lst ((g :: M).map V.str)) Li = some (.lst ((g :: M).map V.str)) := upd_same
  have sd := sc.trans sLi
  clear sLi nLi eI
  generalize upd Hc Li (.lst ((g :: M).map V.str)) = Hd at *
  refine ⟨Li, rfl, ⟨_, SqL.of hLi⟩, fun Lg nLg => ?_⟩
  have nLL : Li ≠ Lg := ne_of_none hLi nLg
  have lgl := goalsL_len (f := fun w : Str => decide (w = ("in" : Str)) || decide (w = ("out" : Str))) (us := us) (G := G) ndM g
  refine lc2_it (walk_list (K := K) (a := Li) (xs := (g :: M).map V.str)) (fun j H' => Same Hd H' ∧ H' Lg = some (.lst ((goalsL (fun w : Str => decide (w = ("in" : Str)) || decide (w = ("out" : Str))) us G ((g :: M).take j)).map V.str)))
    ⟨same_new nLg, by rw [upd_same]; rfl⟩ (fun j H' _ h => SqL.of (h.1 _ _ hLi)) (fun j x He Hf hj hP hY => ?_) (fun He hP => ?_)
  · obtain ⟨se, hLg⟩ := hP
    obtain ⟨rfl, hx⟩ := hY
    rw [List.getElem?_map] at hx
    obtain ⟨z, hz1, rfl⟩ := Option.map_eq_some_iff.mp hx
    refine ⟨rfl, ?_⟩
    refine yes_at ?_
    refine iteT ?_
    have hdwf := se _ _ (sd _ _ (sa _ _ hdw7))
    refine ⟨_, rfl, dw, rfl, .inl ⟨_, .inl hdwf⟩, _, rfl, (show 0 ≤ sizeLine by decide), fun e0 ne0 => ?_⟩
    have s0 := same_new (o := HO.lst []) ne0
    refine ⟨_, DGet.k (k := Sum.inr z) (s0 _ _ hdwf), ?_⟩
    obtain ⟨l, el, hl⟩ : ∃ l, (valV (kvL ew) (Sum.inr z)).getD (.ref e0) = .ref l ∧ upd Hf e0 (.lst []) l = some (.lst ((walkU us G z).map V.str)) := by
      rcases hAw7 z with ⟨l, h1, h2⟩ | ⟨h1, h2⟩
      · exact ⟨l, by rw [h1]; rfl, s0 _ _ (se _ _ (sd _ _ (sa _ _ h2)))⟩
      · exact ⟨e0, by rw [h1]; rfl, by rw [h2]; exact upd_same⟩
    rw [el]
    have hLg0 := s0 _ _ hLg
    have nlg : l ≠ Lg := by
      rcases hAw7 z with ⟨l', h1, h2⟩ | ⟨h1, h2⟩
      · have : l = l' := by rw [h1] at el; cases el; rfl
        rw [this]
        exact ne_of_none (sd _ _ (sa _ _ h2)) nLg
      · have : l = e0 := by rw [h1] at el; cases el; rfl
        rw [this]
        exact fun z => by rw [z, hLg] at ne0; cases ne0
    refine ⟨l, rfl, ⟨_, SqL.of hl⟩, ?_⟩
    have se0 := se.trans s0
    clear s0 el ne0 hx
    generalize upd Hf e0 (.lst []) = H0 at *
    refine lc2_in (walk_list (K := K) (a := l) (xs := (walkU us G z).map V.str)) (fun i1 H' => Same Hd H' ∧ H' l = some (.lst ((walkU us G z).map V.str)) ∧ H' Lg = some (.lst ((goalsL (fun w : Str => decide (w = ("in" : Str)) || decide (w = ("out" : Str))) us G ((g :: M).take j) ++ (walkU us G z).take i1).map V.str)))
      ⟨se0, hl, by rw [List.take_zero, List.append_nil]; exact hLg0⟩ (fun _ H' _ h => SqL.of h.2.1) (fun i1 y1 Hg Hh hi1 hP1 hY1 => ?_) (fun Hg hP1 => ?_)
    · obtain ⟨sg, hl1, hLg1⟩ := hP1
      obtain ⟨rfl, hy1⟩ := hY1
      rw [List.getElem?_map] at hy1
      obtain ⟨z1, hz2, rfl⟩ := Option.map_eq_some_iff.mp hy1
      refine ⟨rfl, ?_⟩
      show ∃ v, _ ∧ _
      refine ⟨_, rfl, _, hLg1, ?_, fun b o e => by rw [upd_ne (ne_of_none e nLg)]; exact sg b o e, by rw [upd_ne nlg]; exact hl1, ?_⟩
      · rw [List.length_map, List.length_append, List.length_take]
        have a1 := goalsL_mono (fun w : Str => decide (w = ("in" : Str)) || decide (w = ("out" : Str))) us G (g :: M) j
        have a2 : (walkU us G z).length ≤ us.length := by rw [walk_used]; exact usedU_len _ _ _ _
        have a3 : 10000 < sizeLine := by decide
        have a4 := Nat.min_le_right i1 (walkU us G z).length
        omega
      · rw [upd_same, List.take_add_one, hz2]
        simp only [List.map_append, List.append_assoc]
        rfl
    · obtain ⟨sg, hl1, hLg1⟩ := hP1
      rw [List.length_map, List.take_length] at hLg1
      refine ⟨sg, ?_⟩
      rw [goalsL_take _ _ _ hz1]
      exact hLg1
  obtain ⟨se, hLg⟩ := hP
  rw [List.length_map, List.take_length] at hLg
  refine ⟨Lg, goalsL (fun w : Str => decide (w = ("in" : Str)) || decide (w = ("out" : Str))) us G (g :: M), rfl, SqL.of hLg, ?_, fun pS2 L2' npS2 ndL2 mL2 lL2 => ?_⟩
  · exact Nat.lt_of_le_of_lt (show _ + 1 ≤ 1801 by omega) (by decide)
  have mL3 : ∀ n, n ∈ L2' ↔ GoesU us G g n := fun n => by
    rw [mL2 n, goalsL_mem]
    constructor
    · rintro ⟨i, hi, hn⟩
      exact ⟨i, (List.mem_cons.mp hi).imp id (hMA i).mp, hn⟩
    · rintro ⟨i, hi, hn⟩
      exact ⟨i, List.mem_cons.mpr (hi.imp id (hMA i).mpr), hn⟩
  have sub2 : L2'.length ≤ pls.length := sub_len L2' pls ndL2 fun x hx => by
    obtain ⟨i, _, hn⟩ := (mL3 x).mp hx
    obtain ⟨u, hu, rfl⟩ := walk_in hn
    exact gr.cl _ (hU u hu).2
  generalize hoS2 : TxO _ _ pS2 L2' = oS2
  refine ⟨pS2, L2', rfl, upd_same.trans (congrArg some hoS2.symm), by omega, fun go pGo pmG soG npGo => ?_⟩
  have sGo := (same_new npS2).trans (same_new (o := HO.lst (go.map V.str)) npGo)
  have hGo : upd (upd He pS2 oS2) pGo (.lst (go.map V.str)) pGo = some (.lst (go.map V.str)) := upd_same
  have sz := se.trans sGo
  have szb := sd.trans sz
  clear sGo npS2 npGo
  generalize upd (upd He pS2 oS2) pGo (.lst (go.map V.str)) = Hz at *
  have sz7 := sa.trans szb
  have hgz := hg7.same sz7
  obtain ⟨dxz, hpz⟩ := hgz.ob
  have hDrz := szb _ _ hDr
  -- the rule
  refine ⟨_, rfl, pGo, _, rfl, .inl (SqL.of hGo), _, 0, rfl, rfl, _, rfl, _, rfl, Do, _, rfl, DGet.k (k := Sum.inr g) (sz7 _ _ hMo7), _, rfl, _, rfl, p, dxz, _, rfl, hpz, gfl_no _ _ _ (by decide +kernel) (by decide +kernel) (by decide +kernel), _, rfl, p, D, S, nn, pls, G, sl, g, rfl, hgz, (fun m h => (gr.sk _ _ h).2.1), (show 4 ≤ sizeLine by decide), fun tr ntr => ?_⟩
  have sTr := same_new (o := HO.tup [V.bl (decide (((go.map V.str).length : Int) > 0)), V.bl (valV (metK Mo) (Sum.inr g)).isSome, V.ref pGo, gsV G (sayL sl g)]) ntr
  refine ⟨_, rfl, _, rfl, Dr, _, rfl, DPut.k (k := Sum.inr g) (sTr _ _ hDrz) (by rw [hRu.len]; have e := congrArg List.length hrs; rw [List.length_map, List.length_take] at e; have l2 : gs.length ≤ gl.length := Nat.le_of_eq pm.length_eq; exact Nat.lt_of_le_of_lt (show rs.length ≤ 1000 by omega) (by decide)), ?_⟩
  have no : ∀ x ∈ rs, x.1 ≠ g := fun x hx z => gtk (by rw [← hrs, ← z]; exact List.mem_map.mpr ⟨x, hx, rfl⟩)
  have hRz : RulAt Hz rs kvs := hRu.same szb
  rw [Wk.putK_new (hRz.none no)]
  have ndGo : go.Nodup := pmG.nodup_iff.mpr ndL2
  refine ⟨rs ++ [(g, ⟨!go.isEmpty, decide (g ∈ Mo), go, (sayL sl g).map G⟩)], _, _, _, rfl, fun b o ne e => ?_, upd_same, ?_, ?_, fun x hx => ?_⟩
  · rw [upd_ne ne]
    exact sTr _ _ (szb _ _ (kp b o ne e))
  · have e1 : decide (((go.map V.str).length : Int) > 0) = !go.isEmpty := by
      cases go with
      | nil => rfl
      | cons a l => exact decide_eq_true (by rw [List.length_map, List.length_cons]; omega)
    have e2 : (valV (metK Mo) (Sum.inr g)).isSome = decide (g ∈ Mo) := by
      by_cases c : g ∈ Mo
      · rw [met_some c, decide_eq_true c]; rfl
      · rw [met_none c, decide_eq_false c]; rfl
    have e3 : gsV G (sayL sl g) = osV ((sayL sl g).map G) := by cases sayL sl g <;> rfl
    have hT : upd (upd Hz tr (.tup [V.bl (decide (((go.map V.str).length : Int) > 0)), V.bl (valV (metK Mo) (Sum.inr g)).isSome, V.ref pGo, gsV G (sayL sl g)])) Dr (.dK (kvs ++ [((Sum.inr g : Key), V.ref tr)])) tr = some (.tup [.bl (!go.isEmpty), .bl (decide (g ∈ Mo)), .ref pGo, osV ((sayL sl g).map G)]) := by
      have ne : tr ≠ Dr := fun z => by rw [z, hDrz] at ntr; cases ntr
      rw [upd_ne ne, upd_same, e1, e2, e3]
    have hl : upd (upd Hz tr (.tup [V.bl (decide (((go.map V.str).length : Int) > 0)), V.bl (valV (metK Mo) (Sum.inr g)).isSome, V.ref pGo, gsV G (sayL sl g)])) Dr (.dK (kvs ++ [((Sum.inr g : Key), V.ref tr)])) pGo = some (.lst (go.map V.str)) := by
      have ne : pGo ≠ Dr := fun z => by rw [z, hDrz] at hGo; cases hGo
      rw [upd_ne ne]
      exact sTr _ _ hGo
    exact RulAt.snoc (r := (g, ⟨!go.isEmpty, decide (g ∈ Mo), go, (sayL sl g).map G⟩)) hT hl (RulAt.off (sTr _ _ hDrz) (hRz.same sTr))
  · rw [List.map_append, hrs, List.take_add_one, hgi]
    rfl
  · rcases List.mem_append.mp hx with hx | hx
    · exact hok x hx
    · rw [List.mem_singleton.mp hx]
      exact ⟨rfl, by rw [decide_eq_true_eq]; exact mMo g, soG, ndGo, fun n => by rw [pmG.mem_iff]; exact mL3 n, rfl⟩
end
end K52

set_option Elab.async false
set_option linter.all false
set_option maxRecDepth 100000
set_option maxHeartbeats 1000000
/-! What written things tell: nothing that stands is changed. -/
namespace Wk
open PySem PySem.Spec PyProof.Rows L2 GxR
def Tells (H0 : Hp) (σ : L2.St) (t : TE) (P : Hp → V → Prop) : Prop := ∀ (H : Hp) (Q : V → Hp → Prop), Same H0 H → (∀ H' v, Same H H' → P H' v → Q v H') → t σ H Q
def TellsA (H0 : Hp) (σ : L2.St) (t : TA) (P : Hp → List V → Prop) : Prop := ∀ (H : Hp) (Q : List V → Hp → Prop), Same H0 H → (∀ H' vs, Same H H' → P H' vs → Q vs H') → t σ H Q
def Stb (P : Hp → V → Prop) : Prop := ∀ H H' v, Same H H' → P H v → P H' v
def StbA (P : Hp → List V → Prop) : Prop := ∀ H H' v, Same H H' → P H v → P H' v
section
variable {H0 : Hp} {σ : L2.St} {t : TE} {ts : TA} {P : Hp → V → Prop} {Ps : Hp → List V → Prop}
theorem Tells.of {H1 : Hp} (h : Tells H0 σ t P) (s : Same H0 H1) : Tells H1 σ t P := fun H Q s' k => h H Q (s.trans s') k
theorem Tells.imp {P' : Hp → V → Prop} (h : Tells H0 σ t P) (k : ∀ H v, P H v → P' H v) : Tells H0 σ t P' := fun H Q s q => h H Q s fun H' v s' p => q H' v s' (k H' v p)
theorem TellsA.imp {P' : Hp → List V → Prop} (h : TellsA H0 σ ts Ps) (k : ∀ H v, Ps H v → P' H v) : TellsA H0 σ ts P' := fun H Q s q => h H Q s fun H' v s' p => q H' v s' (k H' v p)
theorem tells_c (v : V) : Tells H0 σ (tC v) (fun _ u => u = v) := fun H Q _ q => q H v (fun _ _ e => e) rfl
theorem tells_var {i : Nat} {v : V} (h : σ[i]? = some (some v)) (p : ∀ H, Same H0 H → P H v) : Tells H0 σ (tVar i) P := fun H Q s q => ⟨v, h, q H v (fun _ _ e => e) (p H s)⟩
theorem tells_nil : TellsA H0 σ tNil (fun _ vs => vs = []) := fun H Q _ q => q H [] (fun _ _ e => e) rfl
theorem tells_cons (h1 : Tells H0 σ t P) (sP : Stb P) (h2 : TellsA H0 σ ts Ps) : TellsA H0 σ (tCons t ts) (fun H vs => ∃ v us, vs = v :: us ∧ P H v ∧ Ps H us) := fun H Q s q =>
  h1 H _ s fun H1 v s1 p1 => h2 H1 _ (s.trans s1) fun H2 us s2 p2 => q H2 (v :: us) (s1.trans s2) ⟨v, us, rfl, sP _ _ _ s2 p1, p2⟩
theorem tells_tup (h : TellsA H0 σ ts Ps) (st : StbA Ps) (n : ∀ H vs, Ps H vs → vs.length ≤ 1000) : Tells H0 σ (tTup ts) (fun H v => ∃ a xs, v = .ref a ∧ H a = some (.tup xs) ∧ Ps H xs) := fun H Q s q =>
  h H _ s fun H1 vs s1 p1 => ⟨Nat.le_trans (n _ _ p1) (by decide), fun p np => q _ _ (s1.trans (same_new np)) ⟨p, vs, rfl, upd_same, st _ _ _ (same_new np) p1⟩⟩
theorem tells_lst (h : TellsA H0 σ ts Ps) (st : StbA Ps) (n : ∀ H vs, Ps H vs → vs.length ≤ 1000) : Tells H0 σ (tLst ts) (fun H v => ∃ a xs, v = .ref a ∧ H a = some (.lst xs) ∧ Ps H xs) := fun H Q s q =>
  h H _ s fun H1 vs s1 p1 => ⟨Nat.le_trans (n _ _ p1) (by decide), fun p np => q _ _ (s1.trans (same_new np)) ⟨p, vs, rfl, upd_same, st _ _ _ (same_new np) p1⟩⟩
theorem ret_at {t : TE} {D : Ends} {H : Hp} (h : t σ H D.rt) : tRet t D σ H := h
theorem Tells.ret {D : Ends} {H : Hp} (T : Tells H σ t P) (k : ∀ H' v, Same H H' → P H' v → D.rt v H') : tRet t D σ H := ret_at (T H D.rt (fun _ _ e => e) k)
/-! ### parts -/
theorem stb_eq (v : V) : Stb (fun _ u => u = v) := fun _ _ _ _ h => h
theorem stb_row (r : List Part) : Stb (fun H v => RowAt H r v) := fun _ _ _ s h => h.mono (STup.of s)
theorem stb_part (p : Part) : Stb (fun H v => PartAt H p v) := fun _ _ v s h => PartAt.mono (STup.of s) p v h
theorem PartsAt.tup' {H H' : Hp} (s : STup H H') : ∀ {r : List Part} {vs : List V}, PartsAt H r vs → PartsAt H' r vs
  | [], _, h => h
  | p :: r, _, ⟨v, us, e, h1, h2⟩ => ⟨v, us, e, PartAt.mono s p v h1, PartsAt.tup' s h2⟩
theorem parts_nil : TellsA H0 σ tNil (fun H vs => PartsAt H [] vs) := tells_nil
theorem parts_cons {p : Part} {r : List Part} (h1 : Tells H0 σ t (fun H v => PartAt H p v)) (h2 : TellsA H0 σ ts (fun H vs => PartsAt H r vs)) : TellsA H0 σ (tCons t ts) (fun H vs => PartsAt H (p :: r) vs) :=
  (tells_cons h1 (stb_part p) h2).imp fun _ _ ⟨v, us, e, a, b⟩ => ⟨v, us, e, a, b⟩
theorem tells_row {r : List Part} (h : TellsA H0 σ ts (fun H vs => PartsAt H r vs)) (n : r.length ≤ 1000) : Tells H0 σ (tTup ts) (fun H v => RowAt H r v) :=
  (tells_tup h (fun _ _ _ s p => PartsAt.tup' (STup.of s) p) (fun _ _ p => by rw [PartsAt.len p]; exact n)).imp fun _ _ ⟨a, xs, e, h1, h2⟩ => ⟨a, xs, e, h1, h2⟩
theorem tells_say {t1 t2 : TE} {n : Str} (h1 : Tells H0 σ t1 (fun _ v => v = .str "say")) (h2 : Tells H0 σ t2 (fun _ v => v = .str n)) : Tells H0 σ (tTup (tCons t1 (tCons t2 tNil))) (fun H v => PartAt H (.say n) v) :=
  (tells_tup (tells_cons h1 (stb_eq _) (tells_cons h2 (stb_eq _) tells_nil)) (fun _ _ _ _ p => p) (fun _ _ ⟨_, _, e, _, _, _, e2, _, e3⟩ => by rw [e, e2, e3]; exact Nat.le_of_ble_eq_true rfl)).imp
    fun _ _ ⟨a, xs, e, h, v, us, e1, p1, v2, us2, e2, p2, e3⟩ => ⟨a, e, by rw [h, e1, e2, e3, p1, p2]⟩
theorem tells_oth {t1 t2 t3 : TE} (w : Wd) {n : Str} {r : List Part} (h1 : Tells H0 σ t1 (fun _ v => v = .str w.str)) (h2 : Tells H0 σ t2 (fun _ v => v = .str n)) (h3 : Tells H0 σ t3 (fun H v => RowAt H r v)) :
    Tells H0 σ (tTup (tCons t1 (tCons t2 (tCons t3 tNil)))) (fun H v => PartAt H (.oth w n r) v) :=
  (tells_tup (tells_cons h1 (stb_eq _) (tells_cons h2 (stb_eq _) (tells_cons h3 (stb_row r) tells_nil))) (fun _ _ _ s ⟨v, us, e, p1, v2, us2, e2, p2, v3, us3, e3, p3, e4⟩ => ⟨v, us, e, p1, v2, us2, e2, p2, v3, us3, e3, p3.mono (STup.of s), e4⟩)
    (fun _ _ ⟨_, _, e, _, _, _, e2, _, _, _, e3, _, e4⟩ => by rw [e, e2, e3, e4]; exact Nat.le_of_ble_eq_true rfl)).imp
    fun _ _ ⟨a, xs, e, h, v, us, e1, p1, v2, us2, e2, p2, v3, us3, e3, ⟨b, ys, eb, hb, hp⟩, e4⟩ => ⟨a, b, ys, e, by rw [h, e1, e2, e3, e4, p1, p2, eb], hb, hp⟩
theorem tells_othS {t1 t2 t3 : TE} (s : Str) (w : Wd) (hs : s = w.str) {n : Str} {r : List Part} (h1 : Tells H0 σ t1 (fun _ v => v = .str s)) (h2 : Tells H0 σ t2 (fun _ v => v = .str n)) (h3 : Tells H0 σ t3 (fun H v => RowAt H r v)) :
    Tells H0 σ (tTup (tCons t1 (tCons t2 (tCons t3 tNil)))) (fun H v => PartAt H (.oth w n r) v) := tells_oth w (by rw [← hs]; exact h1) h2 h3
theorem wd_room : ("room" : Str) = Wd.room.str := rfl
theorem wd_inn : ("in" : Str) = Wd.inn.str := rfl
theorem wd_out : ("out" : Str) = Wd.out.str := rfl
theorem wd_opn : ("open" : Str) = Wd.opn.str := rfl
theorem wd_hear : ("hear" : Str) = Wd.hear.str := rfl
theorem wd_new : ("new" : Str) = Wd.new.str := rfl
theorem tells_again {t1 t3 : TE} {r : List Part} (h1 : Tells H0 σ t1 (fun _ v => v = .str "again")) (h3 : Tells H0 σ t3 (fun H v => RowAt H r v)) :
    Tells H0 σ (tTup (tCons t1 (tCons t3 tNil))) (fun H v => PartAt H (.again r) v) :=
  (tells_tup (tells_cons h1 (stb_eq _) (tells_cons h3 (stb_row r) tells_nil)) (fun _ _ _ s ⟨v, us, e, p1, v3, us3, e3, p3, e4⟩ => ⟨v, us, e, p1, v3, us3, e3, p3.mono (STup.of s), e4⟩)
    (fun _ _ ⟨_, _, e, _, _, _, e3, _, e4⟩ => by rw [e, e3, e4]; exact Nat.le_of_ble_eq_true rfl)).imp
    fun _ _ ⟨a, xs, e, h, v, us, e1, p1, v3, us3, e3, ⟨b, ys, eb, hb, hp⟩, e4⟩ => ⟨a, b, ys, e, by rw [h, e1, e3, e4, p1, eb], hb, hp⟩
/-! ### lists of texts -/
def TxsAt (xs : List Str) (H : Hp) (v : V) : Prop := ∃ a, v = .ref a ∧ H a = some (.lst (xs.map V.str))
theorem stb_txs (xs : List Str) : Stb (TxsAt xs) := fun _ _ _ s ⟨a, e, h⟩ => ⟨a, e, s _ _ h⟩
theorem txs_nil : TellsA H0 σ tNil (fun _ vs => vs = ([] : List Str).map V.str) := tells_nil
theorem txs_cons {n : Str} {xs : List Str} (h1 : Tells H0 σ t (fun _ v => v = .str n)) (h2 : TellsA H0 σ ts (fun _ vs => vs = xs.map V.str)) : TellsA H0 σ (tCons t ts) (fun _ vs => vs = (n :: xs).map V.str) :=
  (tells_cons h1 (stb_eq _) h2).imp fun _ _ ⟨v, us, e, a, b⟩ => by rw [e, a, b]; rfl
theorem tells_txs {xs : List Str} (h : TellsA H0 σ ts (fun _ vs => vs = xs.map V.str)) (n : xs.length ≤ 1000) : Tells H0 σ (tLst ts) (TxsAt xs) :=
  (tells_lst h (fun _ _ _ _ p => p) (fun _ _ p => by rw [p, List.length_map]; exact n)).imp fun _ _ ⟨a, ys, e, h1, h2⟩ => ⟨a, e, by rw [h1, h2]⟩
/-! ### lists of anything -/
def LAt {α : Type} (P : α → Hp → V → Prop) (H : Hp) : List α → List V → Prop
  | [], vs => vs = []
  | x :: xs, vs => ∃ v us, vs = v :: us ∧ P x H v ∧ LAt P H xs us
theorem LAt.stb {α : Type} {P : α → Hp → V → Prop} (h : ∀ x, Stb (P x)) {H H' : Hp} (s : Same H H') : ∀ {xs : List α} {vs : List V}, LAt P H xs vs → LAt P H' xs vs
  | [], _, h => h
  | x :: xs, _, ⟨v, us, e, p, q⟩ => ⟨v, us, e, h x _ _ _ s p, LAt.stb h s q⟩
theorem LAt.len {α : Type} {P : α → Hp → V → Prop} {H : Hp} : ∀ {xs : List α} {vs : List V}, LAt P H xs vs → vs.length = xs.length
  | [], _, h => by rw [show _ = [] from h]; rfl
  | x :: xs, _, ⟨v, us, e, p, q⟩ => by rw [e, List.length_cons, List.length_cons, LAt.len q]
theorem LAt.get {α : Type} {P : α → Hp → V → Prop} {H : Hp} : ∀ {xs : List α} {vs : List V} {i : Nat} {v : V}, LAt P H xs vs → vs[i]? = some v → ∃ x, xs[i]? = some x ∧ P x H v
  | [], _, i, v, h, e => by rw [show _ = [] from h] at e; cases e
  | x :: xs, _, i, v, ⟨u, us, ee, p, q⟩, e => by
    subst ee
    cases i with
    | zero => cases e; exact ⟨x, rfl, p⟩
    | succ i => exact LAt.get (xs := xs) q e
theorem LAt.app {α : Type} {P : α → Hp → V → Prop} {H : Hp} {ys : List α} {us : List V} (h2 : LAt P H ys us) : ∀ {xs : List α} {vs : List V}, LAt P H xs vs → LAt P H (xs ++ ys) (vs ++ us)
  | [], _, h => by rw [show _ = [] from h]; exact h2
  | x :: xs, _, ⟨v, ws, e, p, q⟩ => by rw [e]; exact ⟨v, _, rfl, p, LAt.app h2 q⟩
def LsAt {α : Type} (P : α → Hp → V → Prop) (xs : List α) (H : Hp) (v : V) : Prop := ∃ a vs, v = .ref a ∧ H a = some (.lst vs) ∧ LAt P H xs vs
theorem stb_ls {α : Type} {P : α → Hp → V → Prop} (h : ∀ x, Stb (P x)) (xs : List α) : Stb (LsAt P xs) := fun _ _ _ s ⟨a, vs, e, h1, h2⟩ => ⟨a, vs, e, s _ _ h1, h2.stb h s⟩
theorem ls_nil {α : Type} {P : α → Hp → V → Prop} : TellsA H0 σ tNil (fun H vs => LAt P H [] vs) := tells_nil
theorem ls_cons {α : Type} {P : α → Hp → V → Prop} (st : ∀ x, Stb (P x)) {x : α} {xs : List α} (h1 : Tells H0 σ t (P x)) (h2 : TellsA H0 σ ts (fun H vs => LAt P H xs vs)) : TellsA H0 σ (tCons t ts) (fun H vs => LAt P H (x :: xs) vs) :=
  (tells_cons h1 (st x) h2).imp fun _ _ ⟨v, us, e, a, b⟩ => ⟨v, us, e, a, b⟩
theorem tells_ls {α : Type} {P : α → Hp → V → Prop} (st : ∀ x, Stb (P x)) {xs : List α} (h : TellsA H0 σ ts (fun H vs => LAt P H xs vs)) (n : xs.length ≤ 1000) : Tells H0 σ (tLst ts) (LsAt P xs) :=
  (tells_lst h (fun _ _ _ s p => p.stb st s) (fun _ _ p => by rw [p.len]; exact n)).imp fun _ _ ⟨a, vs, e, h1, h2⟩ => ⟨a, vs, e, h1, h2⟩
/-! ### rules, cases -/
abbrev RuT := Str × Bool × Bool × List Str × Str
def RuOne (r : RuT) (H : Hp) (v : V) : Prop := ∃ t l, v = .ref t ∧ H t = some (.tup [.str r.1, .bl r.2.1, .bl r.2.2.1, .ref l, .str r.2.2.2.2]) ∧ H l = some (.lst (r.2.2.2.1.map V.str))
theorem stb_ru (r : RuT) : Stb (RuOne r) := fun _ _ _ s ⟨t, l, e, h1, h2⟩ => ⟨t, l, e, s _ _ h1, s _ _ h2⟩
theorem tells_ru {t1 t2 t3 t4 t5 : TE} {n : Str} {w o : Bool} {go : List Str} {sy : Str} (h1 : Tells H0 σ t1 (fun _ v => v = .str n)) (h2 : Tells H0 σ t2 (fun _ v => v = .bl w)) (h3 : Tells H0 σ t3 (fun _ v => v = .bl o)) (h4 : Tells H0 σ t4 (TxsAt go)) (h5 : Tells H0 σ t5 (fun _ v => v = .str sy)) :
    Tells H0 σ (tTup (tCons t1 (tCons t2 (tCons t3 (tCons t4 (tCons t5 tNil)))))) (RuOne (n, w, o, go, sy)) :=
  (tells_tup (tells_cons h1 (stb_eq _) (tells_cons h2 (stb_eq _) (tells_cons h3 (stb_eq _) (tells_cons h4 (stb_txs go) (tells_cons h5 (stb_eq _) tells_nil)))))
    (fun _ _ _ s ⟨v1, u1, e1, p1, v2, u2, e2, p2, v3, u3, e3, p3, v4, u4, e4, p4, v5, u5, e5, p5, e6⟩ => ⟨v1, u1, e1, p1, v2, u2, e2, p2, v3, u3, e3, p3, v4, u4, e4, stb_txs go _ _ _ s p4, v5, u5, e5, p5, e6⟩)
    (fun _ _ ⟨v1, u1, e1, p1, v2, u2, e2, p2, v3, u3, e3, p3, v4, u4, e4, p4, v5, u5, e5, p5, e6⟩ => by rw [e1, e2, e3, e4, e5, e6]; exact Nat.le_of_ble_eq_true rfl)).imp
    fun _ _ ⟨a, xs, e, h, v1, u1, e1, p1, v2, u2, e2, p2, v3, u3, e3, p3, v4, u4, e4, ⟨l, el, hl⟩, v5, u5, e5, p5, e6⟩ => ⟨a, l, e, by rw [h, e1, e2, e3, e4, e5, e6, p1, p2, p3, el, p5], hl⟩
structure Cs where
  r : List Part
  nm : List Str
  al : List (List Str)
  ru : List RuT
def CaseAt (c : Cs) (H : Hp) (v : V) : Prop := ∃ q hv ln la lr, v = .ref q ∧ H q = some (.lst [hv, ln, la, lr]) ∧ RowAt H c.r hv ∧ TxsAt c.nm H ln ∧ LsAt TxsAt c.al H la ∧ LsAt RuOne c.ru H lr
theorem stb_case (c : Cs) : Stb (CaseAt c) := fun _ _ _ s ⟨q, hv, ln, la, lr, e, h, h1, h2, h3, h4⟩ => ⟨q, hv, ln, la, lr, e, s _ _ h, h1.mono (STup.of s), stb_txs _ _ _ _ s h2, stb_ls stb_txs _ _ _ _ s h3, stb_ls stb_ru _ _ _ _ s h4⟩
theorem tells_case {t1 t2 t3 t4 : TE} {r : List Part} {nm : List Str} {al : List (List Str)} {ru : List RuT} (h1 : Tells H0 σ t1 (fun H v => RowAt H r v)) (h2 : Tells H0 σ t2 (TxsAt nm)) (h3 : Tells H0 σ t3 (LsAt TxsAt al)) (h4 : Tells H0 σ t4 (LsAt RuOne ru)) :
    Tells H0 σ (tLst (tCons t1 (tCons t2 (tCons t3 (tCons t4 tNil))))) (CaseAt ⟨r, nm, al, ru⟩) :=
  (tells_lst (tells_cons h1 (stb_row r) (tells_cons h2 (stb_txs nm) (tells_cons h3 (stb_ls stb_txs al) (tells_cons h4 (stb_ls stb_ru ru) tells_nil))))
    (fun _ _ _ s ⟨v1, u1, e1, p1, v2, u2, e2, p2, v3, u3, e3, p3, v4, u4, e4, p4, e5⟩ => ⟨v1, u1, e1, p1.mono (STup.of s), v2, u2, e2, stb_txs _ _ _ _ s p2, v3, u3, e3, stb_ls stb_txs _ _ _ _ s p3, v4, u4, e4, stb_ls stb_ru _ _ _ _ s p4, e5⟩)
    (fun _ _ ⟨v1, u1, e1, p1, v2, u2, e2, p2, v3, u3, e3, p3, v4, u4, e4, p4, e5⟩ => by rw [e1, e2, e3, e4, e5]; exact Nat.le_of_ble_eq_true rfl)).imp
    fun _ _ ⟨a, xs, e, h, v1, u1, e1, p1, v2, u2, e2, p2, v3, u3, e3, p3, v4, u4, e4, p4, e5⟩ => ⟨a, v1, v2, v3, v4, e, by rw [h, e1, e2, e3, e4, e5], p1, p2, p3, p4⟩
end
end Wk

set_option Elab.async false
set_option linter.all false
set_option maxRecDepth 100000
set_option maxHeartbeats 1000000
/-! min of a list of texts. -/
namespace Wk
open PySem PySem.Spec PyProof.Rows L2 GxR
theorem best_le (bt : Nat → Nat → Bool) : ∀ n, argBest bt n ≤ n
  | 0 => Nat.le_refl 0
  | n + 1 => by
    show (if bt (n + 1) (argBest bt n) = true then n + 1 else argBest bt n) ≤ n + 1
    have := best_le bt n
    split <;> omega
theorem best_least (f : Nat → Str) : ∀ n j, j ≤ n → leS (f (argBest (fun i j => decide ((f i).cps.toList < (f j).cps.toList)) n)) (f j)
  | 0, j, h => by
    rw [show j = 0 by omega]
    exact fun z => List.lt_irrefl _ z
  | n + 1, j, h => by
    show leS (f (if decide ((f (n + 1)).cps.toList < (f (argBest _ n)).cps.toList) = true then n + 1 else argBest _ n)) (f j)
    have ih := best_least f n
    by_cases c : (f (n + 1)).cps.toList < (f (argBest (fun i j => decide ((f i).cps.toList < (f j).cps.toList)) n)).cps.toList
    · rw [if_pos (decide_eq_true c)]
      rcases Nat.lt_or_ge n j with g | g
      · rw [show j = n + 1 by omega]
        exact fun z => List.lt_irrefl _ z
      · have a : leS (f (n + 1)) (f (argBest (fun i j => decide ((f i).cps.toList < (f j).cps.toList)) n)) := fun z => List.lt_irrefl _ (List.lt_trans c z)
        exact a.trans (ih j g)
    · rw [if_neg (fun z => c (of_decide_eq_true z))]
      rcases Nat.lt_or_ge n j with g | g
      · rw [show j = n + 1 by omega]
        exact c
      · exact ih j g
def rMinS (K : PySem.W.Frag) : List V → Hp → VK → Prop := fun vs H Q => ∃ (a : Addr) (xs : List Str), vs = [V.ref a] ∧ SqL K H a (xs.map V.str) ∧ 0 < xs.length ∧ ∀ m, m ∈ xs → (∀ y ∈ xs, leS m y) → Q (.str m) H
section
variable {X : Cx}
theorem cr_minS (hc : X.calm = true) : CallR X (.builtin "min") (rMinS X.K) := by
  intro pins s σ H vs us Q I r h
  obtain ⟨a, xs, rfl, hs, ne, q⟩ := h
  obtain ⟨its, rv, hl, _⟩ := I.list hs
  rw [Vals.ref1 r]
  have hlen : xs.length = its.length := by
    have := rv.length
    rw [List.length_map] at this
    exact this
  have hval : ∀ (i : Nat) (v : Value), its.toArray[i]? = some v → ∃ t, v = Value.str (xs.getD i "") t := fun i v hv => by
    have hv : its[i]? = some v := by simpa using hv
    have hlt : i < xs.length := by rw [hlen]; exact (List.getElem?_eq_some_iff.mp hv).1
    have e1 : (xs.map V.str)[i]? = some (V.str xs[i]) := by rw [List.getElem?_map, List.getElem?_eq_getElem hlt]; rfl
    obtain ⟨u, hu, ru⟩ := rv.get e1
    rw [hv] at hu
    cases hu
    obtain ⟨t, rfl⟩ := ru
    exact ⟨t, by rw [List.getD_eq_getElem?_getD, List.getElem?_eq_getElem hlt]; rfl⟩
  obtain ⟨o0, ho0, _⟩ := id hl.isList
  have hlt : a < s.heap.objs.size := Heap.lt_size ho0
  refine PySem.call_min_walk (wpAny_pyIter_list hl.isList ?_)
  refine ⟨_, _, _, _, _, _, _, rfl, Walks.list (A := X.A.in1) (I.ok.hd hc) s.heap.objs.size a (Nat.ne_of_lt hlt) its.toArray, ⟨⟨_, Heap.get?_push_size _ rfl, rfl, rfl⟩, hl.isList.push _⟩, fun b hb => ?_, ?_,
    (fun i j vi vj s0 Q0 E0 hi hj h0 => ?_ : CmpOf X.prog X.w X.A.in1 .Lt _ (fun i j => decide ((xs.getD i "").cps.toList < (xs.getD j "").cps.toList))), fun v h' tk hP hk => ?_⟩
  · show b < (s.heap.push _).objs.size
    rw [Heap.size_push]
    rcases List.mem_cons.mp hb with e | hb
    · rw [e]; exact Nat.lt_succ_self _
    · rw [List.mem_singleton.mp hb]; exact Nat.lt_succ_of_lt hlt
  · simpa [← hlen] using ne
  · obtain ⟨t, rfl⟩ := hval i vi hi
    obtain ⟨u, rfl⟩ := hval j vj hj
    exact lt_str h0
  · obtain ⟨t, rfl⟩ := hval _ v hP
    have bl := best_le (fun i j => decide ((xs.getD i "").cps.toList < (xs.getD j "").cps.toList)) (its.toArray.size - 1)
    have hz : its.toArray.size = xs.length := by simp [hlen]
    rw [hz] at bl ⊢
    have bz : argBest (fun i j => decide ((xs.getD i "").cps.toList < (xs.getD j "").cps.toList)) (xs.length - 1) < xs.length := by omega
    refine ⟨.str _, H, I.kept (t' := tk) fun b o e => ?_, ⟨_, rfl⟩, q _ ?_ fun y hy => ?_⟩
    · refine hk b o (fun hm => ?_) (Heap.get?_push_of_some _ e)
      rw [List.mem_singleton.mp hm] at e
      exact Nat.lt_irrefl _ (Heap.lt_size e)
    · rw [List.getD_eq_getElem?_getD, List.getElem?_eq_getElem bz]
      exact List.getElem_mem bz
    · obtain ⟨j, hj⟩ := List.getElem?_of_mem hy
      have lj := (List.getElem?_eq_some_iff.mp hj).1
      have := best_least (fun i => xs.getD i "") (xs.length - 1) j (by omega)
      rw [show xs.getD j "" = y by rw [List.getD_eq_getElem?_getD, hj]; rfl] at this
      exact this
end
end Wk

set_option Elab.async false
set_option linter.all false
set_option maxRecDepth 100000
set_option maxHeartbeats 1000000
/-! What is due of kinds. -/
namespace Wk
open PySem PySem.Spec PyProof.Rows L2 GxR
def GdOk : List (List Str) → (Str → Str) → Prop
  | [], G => G = id
  | l :: _, G => ∃ m, m ∈ l ∧ (∀ y ∈ l, leS m y) ∧ ∀ x, G x = if x ∈ l then m else x
def dueL (G : Str → Str) (ru : List RuT) (g : Str) : Option RuT := (ru.filter fun u => decide (G u.1 = g)).getLast?
theorem dueL_snoc (G : Str → Str) (ru : List RuT) (u : RuT) (g : Str) : dueL G (ru ++ [u]) g = if G u.1 = g then some u else dueL G ru g := by
  unfold dueL
  rw [List.filter_append, List.filter_cons]
  by_cases c : G u.1 = g
  · rw [if_pos c, if_pos (decide_eq_true c)]
    show (_ ++ [u]).getLast? = _
    rw [List.getLast?_append]
    rfl
  · rw [if_neg c, if_neg (fun z => c (of_decide_eq_true z))]
    show (_ ++ []).getLast? = _
    rw [List.append_nil]
def DueR (G : Str → Str) (o : Option RuT) (r : RuleV) : Prop := match o with
  | none => r = ⟨false, false, [], none⟩
  | some u => r.wk = u.2.1 ∧ r.op = u.2.2.1 ∧ sortedS r.go = true ∧ r.go.Nodup ∧ (∀ n, n ∈ r.go ↔ ∃ x ∈ u.2.2.2.1, G x = n) ∧ r.sy = if u.2.2.2.2 = "" then none else some (G u.2.2.2.2)
/-- rules, one put in the stead of another or behind all -/
def putR : List (Str × RuleV) → Str → RuleV → List (Str × RuleV)
  | [], g, r => [(g, r)]
  | a :: rs, g, r => if a.1 = g then (g, r) :: rs else a :: putR rs g r
theorem putR_key : ∀ (rs : List (Str × RuleV)) (g : Str) (r : RuleV) (x : Str), x ∈ (putR rs g r).map (·.1) ↔ x = g ∨ x ∈ rs.map (·.1)
  | [], g, r, x => by show x ∈ [g] ↔ _; simp
  | a :: rs, g, r, x => by
    unfold putR
    by_cases c : a.1 = g
    · rw [if_pos c, List.map_cons, List.map_cons, List.mem_cons, List.mem_cons, c]
      exact ⟨fun h => h.imp id .inr, fun h => h.elim .inl id⟩
    · rw [if_neg c, List.map_cons, List.map_cons, List.mem_cons, List.mem_cons, putR_key rs g r x]
      exact or_left_comm
theorem putR_nd : ∀ {rs : List (Str × RuleV)} (g : Str) (r : RuleV), (rs.map (·.1)).Nodup → ((putR rs g r).map (·.1)).Nodup
  | [], g, r, _ => by show [g].Nodup; exact List.nodup_cons.mpr ⟨List.not_mem_nil, List.nodup_nil⟩
  | a :: rs, g, r, h => by
    rw [List.map_cons] at h
    obtain ⟨h1, h2⟩ := List.nodup_cons.mp h
    unfold putR
    by_cases c : a.1 = g
    · rw [if_pos c, List.map_cons, ← c]
      exact List.nodup_cons.mpr ⟨h1, h2⟩
    · rw [if_neg c, List.map_cons]
      refine List.nodup_cons.mpr ⟨fun z => ?_, putR_nd g r h2⟩
      rcases (putR_key rs g r a.1).mp z with z | z
      · exact c z
      · exact h1 z
theorem putR_mem : ∀ {rs : List (Str × RuleV)} {g : Str} {r : RuleV} {x : Str × RuleV}, (rs.map (·.1)).Nodup → x ∈ putR rs g r → x = (g, r) ∨ (x ∈ rs ∧ x.1 ≠ g)
  | [], g, r, x, _, h => .inl (List.mem_singleton.mp h)
  | a :: rs, g, r, x, nd, h => by
    rw [List.map_cons] at nd
    obtain ⟨n1, n2⟩ := List.nodup_cons.mp nd
    unfold putR at h
    by_cases c : a.1 = g
    · rw [if_pos c] at h
      rcases List.mem_cons.mp h with z | z
      · exact .inl z
      · exact .inr ⟨List.mem_cons_of_mem _ z, fun e => n1 (by rw [c, ← e]; exact List.mem_map.mpr ⟨x, z, rfl⟩)⟩
    · rw [if_neg c] at h
      rcases List.mem_cons.mp h with z | z
      · rw [z]; exact .inr ⟨List.mem_cons_self, c⟩
      · exact (putR_mem n2 z).imp id fun ⟨z1, z2⟩ => ⟨List.mem_cons_of_mem _ z1, z2⟩
theorem putR_len : ∀ (rs : List (Str × RuleV)) (g : Str) (r : RuleV), (putR rs g r).length ≤ rs.length + 1
  | [], g, r => Nat.le_refl _
  | a :: rs, g, r => by
    have := putR_len rs g r
    unfold putR
    split <;> rw [List.length_cons, List.length_cons] <;> omega
theorem rul_put {H : Hp} {g : Str} {r : RuleV} {t l : Addr} (h1 : H t = some (.tup [.bl r.wk, .bl r.op, .ref l, osV r.sy])) (h2 : H l = some (.lst (r.go.map V.str))) : ∀ {rs : List (Str × RuleV)} {kvs : List (Key × V)}, (rs.map (·.1)).Nodup → RulAt H rs kvs → RulAt H (putR rs g r) (putK kvs (Sum.inr g) (.ref t))
  | [], _, _, h => by rw [show _ = [] from h]; exact ⟨t, l, [], rfl, h1, h2, rfl⟩
  | a :: rs, kvs, nd, hh => by
    obtain ⟨t', l', us, e, g1, g2, g3⟩ := id hh
    rw [List.map_cons] at nd
    obtain ⟨n1, n2⟩ := List.nodup_cons.mp nd
    unfold putR
    by_cases c : a.1 = g
    · rw [if_pos c]
      have e2 : putK kvs (Sum.inr g) (.ref t) = ((Sum.inr g : Key), V.ref t) :: us := by
        rw [e]
        unfold putK
        rw [List.any_cons, decide_eq_true (show (Sum.inr a.1 : Key) = Sum.inr g by rw [c]), Bool.true_or, if_pos rfl, List.map_cons, if_pos (show (Sum.inr a.1 : Key) = Sum.inr g by rw [c]), c]
        congr 1
        have : ∀ p ∈ us, (if p.1 = (Sum.inr g : Key) then (p.1, V.ref t) else p) = p := fun p hp => by
          rw [if_neg]
          intro z
          have := RulAt.none g3 (g := g) fun x hx z => n1 (by rw [c, ← z]; exact List.mem_map.mpr ⟨x, hx, rfl⟩)
          have h0 : (us.any fun q => decide (q.1 = (Sum.inr g : Key))) = true := List.any_eq_true.mpr ⟨p, hp, decide_eq_true z⟩
          rw [valV_any, this] at h0
          cases h0
        rw [List.map_congr_left this, List.map_id']
      rw [e2]
      exact ⟨t, l, us, rfl, h1, h2, g3⟩
    · rw [if_neg c]
      have ih := rul_put (g := g) h1 h2 n2 g3
      have ne : ¬ (Sum.inr a.1 : Key) = Sum.inr g := fun z => c (Sum.inr.inj z)
      have e2 : putK kvs (Sum.inr g) (.ref t) = ((Sum.inr a.1 : Key), V.ref t') :: putK us (Sum.inr g) (.ref t) := by
        rw [e]
        unfold putK
        rw [List.any_cons, decide_eq_false ne, Bool.false_or, List.map_cons, if_neg ne]
        split <;> rfl
      rw [e2]
      exact ⟨t', l', _, rfl, g1, g2, ih⟩
theorem mergeK_nd : ∀ (xs : List Str) (f : Str → V) (acc : List (Key × V)), xs.Nodup → (∀ x ∈ xs, valV acc (Sum.inr x) = none) → mergeK acc (xs.map fun x => ((Sum.inr x : Key), f x)) = acc ++ xs.map fun x => ((Sum.inr x : Key), f x)
  | [], f, acc, _, _ => by show acc = acc ++ []; rw [List.append_nil]
  | x :: xs, f, acc, nd, h => by
    obtain ⟨n1, n2⟩ := List.nodup_cons.mp nd
    show mergeK (putK acc (Sum.inr x) (f x)) (xs.map fun x => ((Sum.inr x : Key), f x)) = _
    rw [Wk.putK_new (h x List.mem_cons_self), mergeK_nd xs f _ n2 fun y hy => ?_, List.append_assoc]
    · rfl
    · have ne : y ≠ x := fun z => n1 (z ▸ hy)
      unfold valV
      rw [List.find?_append]
      have h0 := h y (List.mem_cons_of_mem _ hy)
      unfold valV at h0
      cases c : acc.find? fun kv => decide (kv.1 = (Sum.inr y : Key)) with
      | some z => rw [c] at h0; cases h0
      | none =>
        rw [Option.none_or, List.find?_cons, show decide (((Sum.inr x : Key), f x).1 = Sum.inr y) = false from decide_eq_false fun z => ne (Sum.inr.inj z).symm]
        rfl
def PrL (H : Hp) : List Addr → List Str → Prop
  | [], [] => True
  | p :: ps, x :: xs => H p = some (.tup [.str x, .str x]) ∧ PrL H ps xs
  | _, _ => False
theorem PrL.len {H : Hp} : ∀ {ps : List Addr} {xs : List Str}, PrL H ps xs → ps.length = xs.length
  | [], [], _ => rfl
  | p :: ps, x :: xs, h => by rw [List.length_cons, List.length_cons, PrL.len h.2]
  | [], _ :: _, h => h.elim
  | _ :: _, [], h => h.elim
theorem PrL.tup {H H' : Hp} (s : STup H H') : ∀ {ps : List Addr} {xs : List Str}, PrL H ps xs → PrL H' ps xs
  | [], [], _ => True.intro
  | p :: ps, x :: xs, h => ⟨s _ _ h.1, PrL.tup s h.2⟩
  | [], _ :: _, h => h.elim
  | _ :: _, [], h => h.elim
theorem PrL.snoc {H : Hp} {p : Addr} {x : Str} (hp : H p = some (.tup [.str x, .str x])) : ∀ {ps : List Addr} {xs : List Str}, PrL H ps xs → PrL H (ps ++ [p]) (xs ++ [x])
  | [], [], _ => ⟨hp, True.intro⟩
  | q :: ps, y :: xs, h => ⟨h.1, PrL.snoc hp h.2⟩
  | [], _ :: _, h => h.elim
  | _ :: _, [], h => h.elim
theorem PrL.paired {K : PySem.W.Frag} {H : Hp} : ∀ {ps : List Addr} {xs : List Str}, PrL H ps xs → Paired (fun p kv => SqT K H p [kV kv.1, kv.2]) ps (xs.map fun x => ((Sum.inr x : Key), V.str x))
  | [], [], _ => .nil
  | p :: ps, x :: xs, h => .cons (SqT.of h.1) (PrL.paired h.2)
  | [], _ :: _, h => h.elim
  | _ :: _, [], h => h.elim
theorem min_ex {l : List Str} (h : 0 < l.length) : ∃ m, m ∈ l ∧ ∀ y ∈ l, leS m y := by
  have b := best_le (fun i j => decide ((l.getD i "").cps.toList < (l.getD j "").cps.toList)) (l.length - 1)
  have bz : argBest (fun i j => decide ((l.getD i "").cps.toList < (l.getD j "").cps.toList)) (l.length - 1) < l.length := by omega
  refine ⟨l.getD (argBest (fun i j => decide ((l.getD i "").cps.toList < (l.getD j "").cps.toList)) (l.length - 1)) "", ?_, fun y hy => ?_⟩
  · rw [List.getD_eq_getElem?_getD, List.getElem?_eq_getElem bz]
    exact List.getElem_mem bz
  · obtain ⟨j, hj⟩ := List.getElem?_of_mem hy
    have lj := (List.getElem?_eq_some_iff.mp hj).1
    have := best_least (fun i => l.getD i "") (l.length - 1) j (by omega)
    rw [show l.getD j "" = y by rw [List.getD_eq_getElem?_getD, hj]; rfl] at this
    exact this
theorem rul_keep {H H' : Hp} (s : STup H H') (l : ∀ a xs, H a = some (HO.lst xs) → H' a = some (HO.lst xs)) : ∀ {rs : List (Str × RuleV)} {kvs : List (Key × V)}, RulAt H rs kvs → RulAt H' rs kvs
  | [], _, h => h
  | _ :: _, _, ⟨t, q, us, e, h1, h2, h3⟩ => ⟨t, q, us, e, s _ _ h1, l _ _ h2, rul_keep s l h3⟩
def spDueK : Sp := fun vs H Q _ => ∃ (Ln : Addr) (la lr : V) (nm : List Str) (al : List (List Str)) (ru : List RuT), vs = [.ref Ln, la, lr] ∧ H Ln = some (.lst (nm.map V.str)) ∧ (("." : Str) :: nm).Nodup ∧ nm.length < 60 ∧ LsAt TxsAt al H la ∧ al.length ≤ 1 ∧ (∀ l ∈ al, 0 < l.length ∧ l.length ≤ 60 ∧ ∀ x ∈ l, x ∈ nm) ∧
  LsAt RuOne ru H lr ∧ ru.length ≤ 60 ∧ (∀ u ∈ ru, u.1 ∈ ("." : Str) :: nm ∧ u.2.2.2.1.length < 60 ∧ (∀ x ∈ u.2.2.2.1, x ∈ ("." : Str) :: nm) ∧ (u.2.2.2.2 = "" ∨ u.2.2.2.2 ∈ ("." : Str) :: nm)) ∧
  ∀ (H' : Hp) (t Dg Df : Addr) (G : Str → Str) (kvs : List (Key × V)) (rs : List (Str × RuleV)), Same H H' → H' t = some (.tup [.ref Dg, .ref Df]) → H' Dg = some (.dK (kvG G (("." : Str) :: nm))) → GdOk al G → H' Df = some (.dK kvs) → RulAt H' rs kvs → (rs.map (·.1)).Nodup → (∀ g, g ∈ rs.map (·.1) ↔ ∃ x ∈ ("." : Str) :: nm, G x = g) → (∀ r ∈ rs, DueR G (dueL G ru r.1) r.2) → Q (.ref t) H'
end Wk

set_option Elab.async false
set_option linter.all false
set_option maxRecDepth 100000
set_option maxHeartbeats 1000000
namespace K52
open PySem PySem.Spec PyProof.Rows L2 Wk GxR
abbrev sDu : Stmt := topS 25
abbrev nmDu : List Str := ["_law_names_here", "_law_alike", "_law_rules", "_law_name", "_law_groups", "_law_some", "_law_found", "_law_walks", "_law_opened", "_law_goes", "_law_says", "_law_told", "_law_one"]
abbrev psDu : List Str := ["_law_names_here", "_law_alike", "_law_rules"]
theorem scDu : FnScope nmDu psDu (defScope sDu) := ⟨rfl, rfl, rfl, by decide +kernel, rfl, by decide +kernel, by decide +kernel⟩
section
variable {P : Program} {w : World} {K : PySem.W.Frag} {mg : Str → Option Value} {base : Heap}
theorem ok_due {f : Addr} {fd : FuncData} {k : Nat} (F : Fun K "_law_due" "_law_due" sDu f fd) (md : mg "dict" = none) (mmin : mg "min" = none) (mo : mg "sorted" = none) (ms : mg "set" = none) : FnOk P w K mg base CX0 (k + 1) f fd psDu spDueK := by
  refine F.ok scDu (fun vs H Q E h => ?_) (fun cdv A outer s H vs Q E hr h => ?_)
  · obtain ⟨_, _, _, _, _, _, rfl, _⟩ := h
    rfl
  obtain ⟨Ln, la, lr, nm, al, ru, rfl, hLn, ndp, ln, hla, lal, hal, hlr, lru, hru, q⟩ := h
  obtain ⟨La, va, rfl, hLa, hAl⟩ := hla
  obtain ⟨Lr, vr, rfl, hLr, hRu⟩ := hlr
  have hu := hu_of hr
  refine ⟨_, pss_cons (ps_set (i := 4) scDu.nd rfl (.inr rfl) (pe_callTy (call_dictP rfl) (by rfl) md (by decide +kernel) (pa_cons (pe_lc (own := [("_law_name", 3)]) (g := gName 3) (tt := tYes) (te := tTup (tCons (tVar 3) (tCons (tVar 3) tNil))) (by rfl) scDu.nd (pi_list (pe_op op_cat (pe_lst (pa_cons pe_str pa_nil)) (pv 0)))
        (blkOk_by (own := [("_law_name", 3)]) (N := nmDu) (sc := defScope sDu) (by decide +kernel)) (fun _ _ _ _ _ => pg_name (i := 3) scDu.nd rfl (.inl rfl)) (fun _ _ _ _ _ => pts_nil) (fun _ _ _ _ _ => pe_tup (pa_cons (pv 3) (pa_cons (pv 3) pa_nil)))) pa_nil)))
    (pss_cons (ps_for PassesOwn.never rfl (pi_list (pv 1)) (pg_name (i := 5) scDu.nd rfl (.inl rfl)) (pss_one (ps_for PassesOwn.never rfl (pi_list (pv 5)) (pg_name (i := 3) scDu.nd rfl (.inl rfl)) (pss_one (ps_dput hu (pv 4) (pv 3) (pe_callB (cr_minS rfl) (by rfl) mmin (by decide +kernel) (pa_cons (pv 5) pa_nil)) rfl)))))
    (pss_cons (ps_set (i := 6) scDu.nd rfl (.inl rfl) pe_dnewK)
    (pss_cons (ps_lock (ps_for PassesOwn.never rfl (pi_keys (pv 4)) (pg_name (i := 3) scDu.nd rfl (.inl rfl)) (pss_one (ps_dput hu (pv 6) (pe_dget hu (pv 4) (pv 3) (fun _ _ => rfl)) (pe_tup (pa_cons pe_bl (pa_cons pe_bl (pa_cons (pe_lst pa_nil) (pa_cons pe_non pa_nil))))) rfl))))
    (pss_cons (ps_for PassesOwn.never rfl (pi_list (pv 2)) (pg_tup rfl (pgs_cons (pg_name (i := 3) scDu.nd rfl (.inl rfl)) (pgs_cons (pg_name (i := 7) scDu.nd rfl (.inl rfl)) (pgs_cons (pg_name (i := 8) scDu.nd rfl (.inl rfl)) (pgs_cons (pg_name (i := 9) scDu.nd rfl (.inl rfl)) (pgs_cons (pg_name (i := 10) scDu.nd rfl (.inl rfl)) pgs_nil))))))
      (pss_cons (ps_set (i := 11) scDu.nd rfl (.inl rfl) pe_non)
      (C8.pss_cut (ps_if (pt_cmpR op_ne (pv 10) pe_str (nomark _)) (pss_one (ps_set (i := 11) scDu.nd rfl (.inl rfl) (pe_dget hu (pv 4) (pv 10) (fun _ _ => rfl)))) pss_nil)
      (pss_one (ps_dput hu (pv 6) (pe_dget hu (pv 4) (pv 3) (fun _ _ => rfl)) (pe_tup (pa_cons (pv 7) (pa_cons (pv 8) (pa_cons (pe_callB (cr_sortedTx rfl) (by rfl) mo (by decide +kernel) (pa_cons (pe_callTy (cr_setTx rfl) (by rfl) ms (by decide +kernel) (pa_cons
          (pe_lc (own := [("_law_one", 12)]) (g := gName 12) (tt := tYes) (te := tDGet (tVar 4) (tVar 12)) (by rfl) scDu.nd (pi_list (pv 9)) (blkOk_by (own := [("_law_one", 12)]) (N := nmDu) (sc := defScope sDu) (by decide +kernel)) (fun _ _ _ _ _ => pg_name (i := 12) scDu.nd rfl (.inl rfl)) (fun _ _ _ _ _ => pts_nil) (fun _ _ _ _ _ => pe_dget hu (pv 4) (pv 12) (fun _ _ => rfl)))
          pa_nil)) pa_nil)) (pa_cons (pv 11) pa_nil))))) rfl)))))
    (pss_one (ps_ret (pe_tup (pa_cons (pv 4) (pa_cons (pv 6) pa_nil))))))))), ?_⟩
  generalize hpl : (("." : Str) :: nm) = pls at *
  have lpl : pls.length < 62 := by rw [← hpl, List.length_cons]; omega
  have nmp : ∀ x ∈ nm, x ∈ pls := fun x hx => by rw [← hpl]; exact List.mem_cons_of_mem _ hx
  -- the groups, each by itself
  refine ⟨(show 1 ≤ sizeLine by decide), fun l1 n1 => ⟨_, rfl, ?_⟩⟩
  have s1 := same_new (o := HO.lst [V.str "."]) n1
  refine ⟨_, _, _, _, rfl, rfl, upd_same, s1 _ _ hLn, (by show 1 + _ ≤ sizeLine; rw [List.length_map]; exact Nat.le_of_lt (small1000 (by omega))), fun l2 n2 => ?_⟩
  have e0 : [V.str "."] ++ nm.map V.str = pls.map V.str := by rw [← hpl]; rfl
  rw [e0]
  have hl2 : upd (upd H l1 (.lst [V.str "."])) l2 (.lst (pls.map V.str)) l2 = some (.lst (pls.map V.str)) := upd_same
  have s2 := s1.trans (same_new (o := HO.lst (pls.map V.str)) n2)
  clear s1 n1 n2
  generalize upd (upd H l1 (.lst [V.str "."])) l2 (.lst (pls.map V.str)) = H2 at *
  refine ⟨l2, rfl, ⟨_, SqL.of hl2⟩, fun D nD => ?_⟩
  refine lc_it (walk_list (K := K) (a := l2) (xs := pls.map V.str)) (fun i H' => Same H2 H' ∧ ∃ ps : List Addr, H' D = some (.lst (ps.map V.ref)) ∧ PrL H' ps (pls.take i)) ⟨same_new nD, [], upd_same, True.intro⟩ (fun i H' _ h => SqL.of (h.1 _ _ hl2)) (fun i v H3 H4 hi hP hY => ?_) (fun H3 hP => ?_)
  · obtain ⟨sm, ps, hD, hps⟩ := hP
    obtain ⟨rfl, hv⟩ := hY
    rw [List.getElem?_map] at hv
    obtain ⟨z, hz, rfl⟩ := Option.map_eq_some_iff.mp hv
    refine ⟨rfl, ?_⟩
    refine yes_at ?_
    refine iteT ?_
    refine ⟨_, rfl, _, rfl, (show 2 ≤ sizeLine by decide), fun t nt => ?_⟩
    have sT := same_new (o := HO.tup [V.str z, V.str z]) nt
    have lps := hps.len
    refine ⟨_, sT _ _ hD, by rw [List.length_map, lps, List.length_take]; exact small1000 (by omega), fun b o e => by rw [upd_ne (ne_of_none e nD)]; exact sT _ _ (sm _ _ e), ps ++ [t], by rw [upd_same, List.map_append]; rfl, ?_⟩
    rw [List.take_add_one, hz]
    have nt0 : t ≠ D := fun z => by rw [z, hD] at nt; cases nt
    have stu := (STup.of sT).trans (STup.lst (o := HO.lst (ps.map V.ref ++ [V.ref t])) (sT _ _ hD))
    exact (hps.tup stu).snoc (by rw [upd_ne nt0]; exact upd_same)
  obtain ⟨sm, ps, hD, hps⟩ := hP
  rw [List.length_map, List.take_length] at hps
  have s3 := s2.trans sm
  refine ⟨D, ps, pls.map fun x => ((Sum.inr x : Key), V.str x), rfl, SqL.of hD, hps.paired, fun Dg nDg => ?_⟩
  rw [mergeK_nd pls V.str [] ndp fun _ _ => rfl]
  have e1 : [] ++ pls.map (fun x => ((Sum.inr x : Key), V.str x)) = kvG id pls := rfl
  rw [e1]
  have s4 := s3.trans (same_new (o := HO.dK (kvG id pls)) nDg)
  have hDg : upd H3 Dg (.dK (kvG id pls)) Dg = some (.dK (kvG id pls)) := upd_same
  have nDg0 : H Dg = none := by
    cases c : H Dg with
    | none => rfl
    | some o => rw [s3 _ _ c] at nDg; cases nDg
  clear nDg s3 sm hD hps nD hl2 s2
  generalize upd H3 Dg (.dK (kvG id pls)) = H4 at *
  -- names that are alike
  refine ⟨_, rfl, La, rfl, ⟨_, SqL.of (s4 _ _ hLa)⟩, for_it (walk_list (xs := va)) (fun i σ H' => ∃ (G : Str → Str) (s3 s5 : Option V), σ = [some (.ref Ln), some (.ref La), some (.ref Lr), s3, some (.ref Dg), s5, none, none, none, none, none, none, none] ∧ (∀ b o, b ≠ Dg → H4 b = some o → H' b = some o) ∧ H' Dg = some (.dK (kvG G pls)) ∧ GdOk (al.take i) G)
    ⟨id, _, _, rfl, fun _ _ _ e => e, hDg, rfl⟩ (fun i σ H' _ hP => ?_) (fun i v σ H5 H6 hi hP hY => ?_) (fun σ H5 hP => ?_)⟩
  · obtain ⟨_, _, _, _, kp, _⟩ := hP
    exact SqL.of (kp _ _ (ne_of (s4 _ _ hLa) hDg (by intro z; cases z)) (s4 _ _ hLa))
  · obtain ⟨G, s3, s5, rfl, kp, hDg5, hG⟩ := hP
    obtain ⟨rfl, hv⟩ := hY
    obtain ⟨l, hl, Ll, rfl, hLl⟩ := hAl.get hv
    have i0 : i = 0 := by have := (List.getElem?_eq_some_iff.mp hl).1; omega
    subst i0
    cases (show G = id from hG)
    obtain ⟨l0, l60, hsub⟩ := hal l (List.mem_of_getElem? hl)
    obtain ⟨m0, hm0, hle0⟩ := min_ex l0
    have hLl4 := s4 _ _ hLl
    have nLl : Ll ≠ Dg := ne_of hLl4 hDg (by intro z; cases z)
    refine ⟨_, rfl, Ll, rfl, ⟨_, SqL.of (kp _ _ nLl hLl4)⟩, for_it (walk_list (xs := l.map V.str)) (fun j σ H' => ∃ (s3 : Option V), σ = [some (.ref Ln), some (.ref La), some (.ref Lr), s3, some (.ref Dg), some (.ref Ll), none, none, none, none, none, none, none] ∧ (∀ b o, b ≠ Dg → H4 b = some o → H' b = some o) ∧ H' Dg = some (.dK (kvG (fun x => if x ∈ l.take j then m0 else x) pls)))
      ⟨_, rfl, kp, by rw [hDg5]; exact congrArg (fun z => some (HO.dK z)) (kvG_congr fun x _ => (if_neg (List.not_mem_nil)).symm)⟩ (fun j σ H' _ hP => ?_) (fun j u σ H7 H8 hj hP hY => ?_) (fun σ H7 hP => ?_)⟩
    · obtain ⟨_, _, kp', _⟩ := hP
      exact SqL.of (kp' _ _ nLl hLl4)
    · obtain ⟨s3', rfl, kp7, hDg7⟩ := hP
      obtain ⟨rfl, hu1⟩ := hY
      rw [List.getElem?_map] at hu1
      obtain ⟨z, hz, rfl⟩ := Option.map_eq_some_iff.mp hu1
      have zl := List.mem_of_getElem? hz
      refine ⟨_, rfl, Ll, l, rfl, SqL.of (kp7 _ _ nLl hLl4), l0, fun m hm hle => ?_⟩
      have em : m = m0 := (hle m0 hm0).anti (hle0 m hm)
      subst em
      refine ⟨_, rfl, _, rfl, Dg, _, rfl, DPut.k (k := Sum.inr z) hDg7 (by rw [kvG_len]; exact small1000 (by omega)), ?_⟩
      refine ⟨_, rfl, fun b o nb e => by rw [upd_ne nb]; exact kp7 b o nb e, ?_⟩
      have tk : l.take (j + 1) = l.take j ++ [z] := by rw [List.take_add_one, hz]; rfl
      rw [upd_same, kvG_put ndp (nmp z (hsub z zl)), tk]
      refine congrArg (fun y => some (HO.dK y)) (kvG_congr fun x _ => ?_)
      by_cases c : x = z
      · rw [if_pos c, if_pos (by rw [c]; exact List.mem_append_right _ (List.mem_singleton.mpr rfl))]
      · rw [if_neg c]
        by_cases d : x ∈ l.take j
        · rw [if_pos d, if_pos (List.mem_append_left _ d)]
        · rw [if_neg d, if_neg (fun h => (List.mem_append.mp h).elim d fun h => c (List.mem_singleton.mp h))]
    · obtain ⟨s3', rfl, kp7, hDg7⟩ := hP
      rw [List.length_map, List.take_length] at hDg7
      refine ⟨fun x => if x ∈ l then m0 else x, _, _, rfl, kp7, hDg7, ?_⟩
      rw [List.take_add_one, hl]
      exact ⟨m0, hm0, hle0, fun _ => rfl⟩
  obtain ⟨G, s3, s5, rfl, kp5, hDg5, hG⟩ := hP
  rw [hAl.len, List.take_length] at hG
  have s5' : Same H H5 := fun b o e => kp5 b o (ne_of_none e nDg0) (s4 _ _ e)
  have hGp : ∀ x ∈ pls, G x ∈ pls := fun x hx => by
    cases al with
    | nil => rw [show G = id from hG]; exact hx
    | cons l _ =>
      obtain ⟨m, hm, _, hx2⟩ := hG
      rw [hx2 x]
      by_cases c : x ∈ l
      · rw [if_pos c]; exact nmp m ((hal l List.mem_cons_self).2.2 m hm)
      · rw [if_neg c]; exact hx
  clear kp5 s4 hDg
  -- no rules as yet
  intro Df nDf
  have nDf0 : H Df = none := by
    cases c : H Df with
    | none => rfl
    | some o => rw [s5' _ _ c] at nDf; cases nDf
  have s6 := s5'.trans (same_new (o := HO.dK []) nDf)
  have hDg6 := same_new (o := HO.dK []) nDf _ _ hDg5
  have hDf6 : upd H5 Df (.dK []) Df = some (.dK []) := upd_same
  have nfg : Df ≠ Dg := fun z => by rw [z, hDg5] at nDf; cases nDf
  clear nDf s5' hDg5
  generalize upd H5 Df (.dK []) = H6 at *
  refine ⟨Dg, .dK (kvG G pls), hDg6, trivial, fun od => ?_⟩
  refine ⟨_, rfl, Dg, od, rfl, .inl ⟨kvG G pls, upd_same, for_it walk_keys (fun i σ H' => ∃ (rs : List (Str × RuleV)) (kvs : List (Key × V)) (s3 : Option V), σ = [some (.ref Ln), some (.ref La), some (.ref Lr), s3, some (.ref Dg), s5, some (.ref Df), none, none, none, none, none, none] ∧ (∀ b o, b ≠ Dg → b ≠ Df → H6 b = some o → H' b = some o) ∧ H' Dg = some (.frz od (.dK (kvG G pls))) ∧ H' Df = some (.dK kvs) ∧ RulAt H' rs kvs ∧ (rs.map (·.1)).Nodup ∧ (∀ g, g ∈ rs.map (·.1) ↔ ∃ x ∈ pls.take i, G x = g) ∧ (∀ r ∈ rs, r.2 = ⟨false, false, [], none⟩) ∧ rs.length ≤ i)
    ⟨[], [], _, rfl, fun b o n1 n2 e => by rw [upd_ne n1]; exact e, upd_same, by rw [upd_ne nfg]; exact hDf6, rfl, List.nodup_nil, fun g => ⟨(fun h => nomatch h), (fun ⟨x, hx, _⟩ => nomatch hx)⟩, (fun _ h => nomatch h), Nat.le_refl 0⟩ (fun i σ H' _ hP => ?_) (fun i v σ H7 H8 hi hP hY => ?_) (fun σ H7 hP => ?_)⟩⟩
  · obtain ⟨_, _, _, _, _, h, _⟩ := hP
    exact h
  · obtain ⟨rs, kvs, s3', rfl, kp, hDg7, hDf7, hRl, ndr, hk, hdef, lrs⟩ := hP
    obtain ⟨rfl, kx, vx, hkx, rfl⟩ := hY
    have hkx' : ((pls.map fun x => ((Sum.inr x : Key), V.str (G x))))[i]? = some (kx, vx) := hkx
    rw [List.getElem?_map] at hkx'
    obtain ⟨z, hz, ez⟩ := Option.map_eq_some_iff.mp hkx'
    cases ez
    have zp := List.mem_of_getElem? hz
    have ilt := (List.getElem?_eq_some_iff.mp hz).1
    refine ⟨(show 0 ≤ sizeLine by decide), fun e0 ne0 => ⟨(show 4 ≤ sizeLine by decide), fun t nt => ?_⟩⟩
    have sA := (same_new (o := HO.lst []) ne0).trans (same_new (o := HO.tup [V.bl false, V.bl false, V.ref e0, V.non]) nt)
    have hDg8 := sA _ _ hDg7
    have hDf8 := sA _ _ hDf7
    have he0 : upd (upd H8 e0 (.lst [])) t (.tup [V.bl false, V.bl false, V.ref e0, V.non]) e0 = some (.lst []) := kn upd_same nt
    have ht : upd (upd H8 e0 (.lst [])) t (.tup [V.bl false, V.bl false, V.ref e0, V.non]) t = some (.tup [V.bl false, V.bl false, V.ref e0, V.non]) := upd_same
    have hR8 := hRl.same sA
    clear ne0 nt
    generalize upd (upd H8 e0 (.lst [])) t (.tup [V.bl false, V.bl false, V.ref e0, V.non]) = H9 at *
    have DG : DGet H9 Dg (.str z) (some (.str (G z))) := .inl ⟨kvG G pls, Sum.inr z, .inr ⟨od, hDg8⟩, rfl, (kvG_some zp).symm⟩
    refine ⟨_, rfl, _, rfl, _, rfl, Dg, _, rfl, DG, Df, _, rfl, DPut.k (k := Sum.inr (G z)) hDf8 (by rw [hRl.len]; exact small1000 (by omega)), ?_⟩
    have tD : t ≠ Df := ne_of ht hDf8 (by intro z; cases z)
    have eD : e0 ≠ Df := ne_of he0 hDf8 (by intro z; cases z)
    have hR9 := rul_put (g := G z) (r := ⟨false, false, [], none⟩) (t := t) (l := e0) (by rw [upd_ne tD]; exact ht) (by rw [upd_ne eD]; exact he0) ndr (RulAt.off (qs := putK kvs (Sum.inr (G z)) (.ref t)) hDf8 hR8)
    refine ⟨putR rs (G z) ⟨false, false, [], none⟩, _, _, rfl, fun b o n1 n2 e => by rw [upd_ne n2]; exact sA _ _ (kp b o n1 n2 e), by rw [upd_ne (Ne.symm nfg)]; exact hDg8, upd_same, hR9, putR_nd _ _ ndr, fun g => ?_, fun r hr => ?_, by have := putR_len rs (G z) ⟨false, false, [], none⟩; omega⟩
    · rw [putR_key, hk g, List.take_add_one, hz]
      constructor
      · rintro (h | ⟨x, hx, h⟩)
        · exact ⟨z, List.mem_append_right _ (List.mem_singleton.mpr rfl), h.symm⟩
        · exact ⟨x, List.mem_append_left _ hx, h⟩
      · rintro ⟨x, hx, h⟩
        rcases List.mem_append.mp hx with hx | hx
        · exact .inr ⟨x, hx, h⟩
        · rw [List.mem_singleton.mp hx] at h
          exact .inl h.symm
    · rcases putR_mem ndr hr with e | ⟨h, _⟩
      · rw [e]
      · exact hdef r h
  obtain ⟨rs, kvs, s3', rfl, kp, hDg7, hDf7, hRl, ndr, hk, hdef, lrs⟩ := hP
  rw [kvG_len] at lrs
  rw [kvG_len, List.take_length] at hk
  refine ⟨hDg7, ?_⟩
  have hDg8 : upd H7 Dg (.dK (kvG G pls)) Dg = some (.dK (kvG G pls)) := upd_same
  have s8 : Same H (upd H7 Dg (.dK (kvG G pls))) := fun b o e => by
    have n1 := ne_of_none e nDg0
    rw [upd_ne n1]
    exact kp b o n1 (ne_of_none e nDf0) (s6 _ _ e)
  have hDf8 : upd H7 Dg (.dK (kvG G pls)) Df = some (.dK kvs) := by rw [upd_ne nfg]; exact hDf7
  have hR8 : RulAt (upd H7 Dg (.dK (kvG G pls))) rs kvs := rul_keep (fun a xs e => by rw [upd_ne (fun z => by rw [z, hDg7] at e; cases e)]; exact e) (fun a xs e => by rw [upd_ne (fun z => by rw [z, hDg7] at e; cases e)]; exact e) hRl
  clear hDf7 hRl kp hDg7 hDf6 hDg6 s6
  generalize upd H7 Dg (.dK (kvG G pls)) = H8 at *
  -- the rules
  refine ⟨_, rfl, Lr, rfl, ⟨_, SqL.of (s8 _ _ hLr)⟩, for_it (walk_list (xs := vr)) (fun i σ H' => ∃ (rs : List (Str × RuleV)) (kvs : List (Key × V)) (s3 s7 s8 s9 s10 s11 : Option V), σ = [some (.ref Ln), some (.ref La), some (.ref Lr), s3, some (.ref Dg), s5, some (.ref Df), s7, s8, s9, s10, s11, none] ∧ (∀ b o, b ≠ Df → H8 b = some o → H' b = some o) ∧ H' Df = some (.dK kvs) ∧ RulAt H' rs kvs ∧ (rs.map (·.1)).Nodup ∧ (∀ g, g ∈ rs.map (·.1) ↔ ∃ x ∈ pls, G x = g) ∧ (∀ r ∈ rs, DueR G (dueL G (ru.take i) r.1) r.2) ∧ rs.length ≤ 62 + i)
    ⟨rs, kvs, _, _, _, _, _, _, rfl, fun _ _ _ e => e, hDf8, hR8, ndr, hk, (fun r hr => hdef r hr), by omega⟩ (fun i σ H' _ hP => ?_) (fun i v σ Ha Hb hi hP hY => ?_) (fun σ Ha hP => ?_)⟩
  · obtain ⟨_, _, _, _, _, _, _, _, _, kp, _⟩ := hP
    exact SqL.of (kp _ _ (ne_of (s8 _ _ hLr) hDf8 (by intro z; cases z)) (s8 _ _ hLr))
  rotate_left
  · obtain ⟨rs, kvs, _, _, _, _, _, _, rfl, kp, hDf, hR, nd', hk', hdu, _⟩ := hP
    rw [hRu.len, List.take_length] at hdu
    have sa : Same H Ha := fun b o e => kp b o (ne_of_none e nDf0) (s8 _ _ e)
    refine ⟨_, rfl, _, rfl, (show 2 ≤ sizeLine by decide), fun t nt => ?_⟩
    have sT := same_new (o := HO.tup [V.ref Dg, V.ref Df]) nt
    exact q _ t Dg Df G kvs rs (sa.trans sT) upd_same (sT _ _ (kp _ _ (Ne.symm nfg) hDg8)) hG (sT _ _ hDf) (hR.same sT) nd' hk' hdu
  obtain ⟨rs', kvs', s3'', s7, s8', s9, s10, s11, rfl, kpa, hDfa, hRa, nda, hka, hdua, lra⟩ := hP
  obtain ⟨rfl, hv⟩ := hY
  obtain ⟨u, hu1, t, lg, rfl, ht, hlg⟩ := hRu.get hv
  obtain ⟨nu, wu, ou, gu, su⟩ := u
  obtain ⟨h1, h2, h3, h4⟩ := hru _ (List.mem_of_getElem? hu1)
  dsimp only at h1 h2 h3 h4 ht hlg
  have ilt := (List.getElem?_eq_some_iff.mp hu1).1
  have hta := kpa _ _ (ne_of (s8 _ _ ht) hDf8 (by intro z; cases z)) (s8 _ _ ht)
  have nlg := ne_of (s8 _ _ hlg) hDf8 (by intro z; cases z)
  have hlga := kpa _ _ nlg (s8 _ _ hlg)
  have hDga := kpa _ _ (Ne.symm nfg) hDg8
  refine ⟨t, _, rfl, SqT.of hta, rfl, _, _, rfl, _, _, rfl, _, _, rfl, _, _, rfl, _, _, rfl, rfl, ?_⟩
  refine ⟨fun σ' H' => H' = Hb ∧ σ' = [some (.ref Ln), some (.ref La), some (.ref Lr), some (.str nu), some (.ref Dg), s5, some (.ref Df), some (.bl wu), some (.bl ou), some (.ref lg), some (.str su), some (osV (if su = "" then none else some (G su))), none], ?_, fun σ' Hc hm => ?_⟩
  · refine ⟨_, rfl, rfl, _, rfl, ?_⟩
    by_cases c : su = ""
    · refine iteD ?_ ⟨rfl, ?_⟩
      · show (!decide (V.str su = V.str "")) = false
        rw [decide_eq_true (by rw [c])]
        rfl
      · rw [if_pos c]
        rfl
    · refine iteU ?_ ?_
      · show (!decide (V.str su = V.str "")) = true
        rw [decide_eq_false fun z => c (V.str.inj z)]
        rfl
      refine ⟨_, rfl, _, rfl, Dg, _, rfl, dget_G hDga (h4.elim (fun z => absurd z c) id), rfl, ?_⟩
      rw [if_neg c]
      rfl
  obtain ⟨rfl, rfl⟩ := hm
  refine ⟨_, rfl, _, rfl, _, rfl, lg, rfl, ⟨_, SqL.of hlga⟩, fun D2 nD2 => ?_⟩
  have nlD : lg ≠ D2 := ne_of_none hlga nD2
  refine lc_it (walk_list (K := K) (a := lg) (xs := gu.map V.str)) (fun j H' => Same Hc H' ∧ H' D2 = some (.lst (((gu.take j).map G).map V.str))) ⟨same_new nD2, upd_same⟩ (fun j H' _ h => SqL.of (h.1 _ _ hlga)) (fun j y Hd He hj hP hY => ?_) (fun Hd hP => ?_)
  · obtain ⟨sd, hD2⟩ := hP
    obtain ⟨rfl, hy⟩ := hY
    rw [List.getElem?_map] at hy
    obtain ⟨z, hz, rfl⟩ := Option.map_eq_some_iff.mp hy
    refine ⟨rfl, ?_⟩
    refine yes_at ?_
    refine iteT ?_
    refine ⟨_, rfl, _, rfl, Dg, _, rfl, dget_G (sd _ _ hDga) (h3 z (List.mem_of_getElem? hz)), _, hD2, by rw [List.length_map, List.length_map, List.length_take]; exact small1000 (by omega), fun b o e => by rw [upd_ne (ne_of_none e nD2)]; exact sd _ _ e, ?_⟩
    rw [upd_same, List.take_add_one, hz]
    simp only [List.map_append]
    rfl
  obtain ⟨sd, hD2⟩ := hP
  rw [List.length_map, List.take_length] at hD2
  refine ⟨D2, gu.map G, rfl, SqL.of hD2, by rw [List.length_map]; exact Nat.lt_of_le_of_lt (show gu.length + 1 ≤ 100 by omega) (by decide), fun pS L npS ndL mL lL => ?_⟩
  rw [List.length_map] at lL
  generalize hoS : TxO _ _ pS L = oS
  refine ⟨pS, L, rfl, upd_same.trans (congrArg some hoS.symm), by omega, fun go pG pm sog npG => ?_⟩
  have sG := (same_new npS).trans (same_new (o := HO.lst (go.map V.str)) npG)
  have hgo : upd (upd Hd pS oS) pG (.lst (go.map V.str)) pG = some (.lst (go.map V.str)) := upd_same
  have sf := sd.trans sG
  clear sG npS npG
  generalize upd (upd Hd pS oS) pG (.lst (go.map V.str)) = Hf at *
  refine ⟨_, rfl, (show 4 ≤ sizeLine by decide), fun tr ntr => ?_⟩
  have sT := same_new (o := HO.tup [V.bl wu, V.bl ou, V.ref pG, osV (if su = "" then none else some (G su))]) ntr
  have st := sf.trans sT
  have hDft := st _ _ hDfa
  have htr : upd Hf tr (.tup [V.bl wu, V.bl ou, V.ref pG, osV (if su = "" then none else some (G su))]) tr = some (.tup [V.bl wu, V.bl ou, V.ref pG, osV (if su = "" then none else some (G su))]) := upd_same
  have hgt := sT _ _ hgo
  have hRt := hRa.same st
  clear ntr sT
  generalize upd Hf tr (.tup [V.bl wu, V.bl ou, V.ref pG, osV (if su = "" then none else some (G su))]) = Ht at *
  refine ⟨_, rfl, _, rfl, _, rfl, Dg, _, rfl, dget_G (st _ _ hDga) h1, Df, _, rfl, DPut.k (k := Sum.inr (G nu)) hDft (by rw [hRa.len]; exact small1000 (by omega)), ?_⟩
  have tD : tr ≠ Df := ne_of htr hDft (by intro z; cases z)
  have eD : pG ≠ Df := ne_of hgt hDft (by intro z; cases z)
  have hR9 := rul_put (g := G nu) (r := ⟨wu, ou, go, if su = "" then none else some (G su)⟩) (t := tr) (l := pG) (by rw [upd_ne tD]; exact htr) (by rw [upd_ne eD]; exact hgt) nda (RulAt.off (qs := putK kvs' (Sum.inr (G nu)) (.ref tr)) hDft hRt)
  refine ⟨putR rs' (G nu) ⟨wu, ou, go, if su = "" then none else some (G su)⟩, _, _, _, _, _, _, _, rfl, fun b o n2 e => by rw [upd_ne n2]; exact st _ _ (kpa b o n2 e), upd_same, hR9, putR_nd _ _ nda, fun g => ?_, fun r hr => ?_, by have := putR_len rs' (G nu) ⟨wu, ou, go, if su = "" then none else some (G su)⟩; omega⟩
  · rw [putR_key, hka g]
    exact ⟨fun h => h.elim (fun h => ⟨nu, h1, h.symm⟩) id, .inr⟩
  · rw [List.take_add_one, hu1]
    show DueR G (dueL G (ru.take i ++ [(nu, wu, ou, gu, su)]) r.1) r.2
    rw [dueL_snoc]
    rcases putR_mem nda hr with e | ⟨h, ne⟩
    · rw [e, if_pos rfl]
      refine ⟨rfl, rfl, sog, pm.nodup_iff.mpr ndL, fun n => ?_, rfl⟩
      rw [pm.mem_iff, mL n, List.mem_map]
    · rw [if_neg (fun z => ne z.symm)]
      exact hdua r h
end
end K52

set_option Elab.async false
set_option linter.all false
set_option maxRecDepth 100000
set_option maxHeartbeats 1000000
/-! Cases of kinds: what is due is what is told. -/
namespace Wk
open PySem PySem.Spec PyProof.Rows L2 GxR
def DueK (U : List Use3) (G : Str → Str) (S : Str → Option Str) (g : Str) : Option RuT → Prop
  | none => (∀ n, ¬ GoesU U G g n) ∧ ¬ OpenU U G g ∧ S g = none
  | some u => (u.2.1 = true ↔ ∃ n, GoesU U G g n) ∧ (u.2.2.1 = true ↔ OpenU U G g) ∧ (∀ n, (∃ y ∈ u.2.2.2.1, G y = n) ↔ GoesU U G g n) ∧ (S g).map G = (if u.2.2.2.2 = "" then none else some (G u.2.2.2.2))
structure CsOk (c : Cs) : Prop where
  dp : deepR c.r < 13
  sz : sizeR c.r ≤ 900
  nd : (("." : Str) :: c.nm).Nodup
  ln : c.nm.length < 58
  nm : ∀ x, x ∈ c.nm ↔ x ∈ frR [] c.r ∨ x ∈ bdR c.r
  dis : ∀ x ∈ frR [] c.r, x ∉ bdR c.r
  ok : ∀ x ∈ c.nm, PyData.strOk x = true
  al1 : c.al.length ≤ 1
  al2 : ∀ l ∈ c.al, 0 < l.length ∧ l.length ≤ 60 ∧ ∀ x ∈ l, x ∈ c.nm
  ru1 : c.ru.length ≤ 60
  ru2 : ∀ u ∈ c.ru, u.1 ∈ ("." : Str) :: c.nm ∧ u.2.2.2.1.length < 60 ∧ (∀ x ∈ u.2.2.2.1, x ∈ ("." : Str) :: c.nm) ∧ (u.2.2.2.2 = "" ∨ u.2.2.2.2 ∈ ("." : Str) :: c.nm)
  key : ∀ G, GdOk c.al G → ∃ S, GrOk (usesR "." c.r) (("." : Str) :: c.nm) G S ∧ ∀ x ∈ ("." : Str) :: c.nm, DueK (usesR "." c.r) G S (G x) (dueL G c.ru (G x))
theorem CsOk.small {c : Cs} (h : CsOk c) {L : List Str} (nd : L.Nodup) (hL : ∀ x ∈ L, x ∈ frR [] c.r ∨ x ∈ bdR c.r) : L.length < 60 := by
  have := sub_len L c.nm nd fun x hx => (h.nm x).mpr (hL x hx)
  have := h.ln
  omega
theorem CsOk.dot {c : Cs} (h : CsOk c) : (("." : Str) ∉ frR [] c.r) ∧ (("." : Str) ∉ bdR c.r) := by
  have n := (List.nodup_cons.mp h.nd).1
  exact ⟨fun z => n ((h.nm _).mpr (.inl z)), fun z => n ((h.nm _).mpr (.inr z))⟩
theorem dot_ok : PyData.strOk ("." : Str) = true := by decide +kernel
def osD : Option Str → PyData
  | some m => .str m
  | none => .none
theorem rule_shaped (a b : Bool) {go : List Str} (h : ∀ x ∈ go, PyData.strOk x = true) {o : Option Str} (ho : ∀ m, o = some m → PyData.strOk m = true) : SeqAt.shaped (.tuple [.bool a, .bool b, .list (go.map PyData.str), osD o]) = true := by
  unfold SeqAt.shaped
  cases o with
  | none =>
    simp only [osD, PyData.canLay0, PyData.canLayAll0, strs_lay go h, PyData.depth, PyData.depthAll, strs_dep go, Bool.true_and, Bool.and_true]
    decide
  | some m =>
    simp only [osD, PyData.canLay0, PyData.canLayAll0, strs_lay go h, ho m rfl, PyData.depth, PyData.depthAll, strs_dep go, Bool.true_and, Bool.and_true]
    decide
theorem alk_str {K : PySem.W.Frag} {H : Hp} {x : Str} (h : PyData.strOk x = true) : Alk K H (.str x) (.str x) := ⟨.str x, .str x, .str x, by
  unfold SeqAt.shaped
  simp only [PyData.canLay0, h, PyData.depth, Bool.true_and]
  rfl⟩
theorem alk_rule {K : PySem.W.Frag} {H : Hp} {t l t' l' : Addr} {a b : Bool} {go : List Str} {o : Option Str} (h1 : H t = some (.tup [.bl a, .bl b, .ref l, osV o])) (h2 : H l = some (.lst (go.map V.str))) (h3 : H t' = some (.tup [.bl a, .bl b, .ref l', osV o])) (h4 : H l' = some (.lst (go.map V.str)))
    (hg : ∀ x ∈ go, PyData.strOk x = true) (ho : ∀ m, o = some m → PyData.strOk m = true) : Alk K H (.ref t) (.ref t') := by
  have e : ∀ {l : Addr}, H l = some (.lst (go.map V.str)) → Dp K H (.ref l) (.list (go.map PyData.str)) := fun h => .lst (SqL.of h) (strs_dp go)
  have eo : Dp K H (osV o) (osD o) := by cases o; exact .non; exact .str _
  exact ⟨_, .tup (SqT.of h1) (.cons (.bl a) (.cons (.bl b) (.cons (e h2) (.cons eo .nil)))), .tup (SqT.of h3) (.cons (.bl a) (.cons (.bl b) (.cons (e h4) (.cons eo .nil)))), rule_shaped a b hg ho⟩
theorem same_len {xs ys : List Str} (h1 : xs.Nodup) (h2 : ys.Nodup) (h : ∀ x, x ∈ xs ↔ x ∈ ys) : xs.length = ys.length := ((List.perm_ext_iff_of_nodup h1 h2).mpr h).length_eq
theorem OpenU.congr {U U' : List Use3} {G G' : Str → Str} (e : ∀ u, u ∈ U → u ∈ U') (q : ∀ u ∈ U, G u.1 = G' u.1 ∧ G u.2.2 = G' u.2.2) {g : Str} (h : OpenU U G g) : OpenU U' G' g := by
  obtain ⟨u, hu, h1, h2⟩ := h
  exact ⟨u, e u hu, h1, (q u hu).2.symm.trans h2⟩
theorem rul_mem {H : Hp} : ∀ {rs : List (Str × RuleV)} {kvs : List (Key × V)} {p : Key × V}, RulAt H rs kvs → p ∈ kvs → ∃ r ∈ rs, ∃ t l, p = ((Sum.inr r.1 : Key), V.ref t) ∧ H t = some (HO.tup [.bl r.2.wk, .bl r.2.op, .ref l, osV r.2.sy]) ∧ H l = some (HO.lst (r.2.go.map V.str))
  | [], _, _, h, hp => by rw [show _ = [] from h] at hp; cases hp
  | r :: rs, _, p, ⟨t, l, us, e, h1, h2, h3⟩, hp => by
    rw [e] at hp
    rcases List.mem_cons.mp hp with hp | hp
    · exact ⟨r, List.mem_cons_self, t, l, hp, h1, h2⟩
    · obtain ⟨r', hr, x⟩ := rul_mem h3 hp
      exact ⟨r', List.mem_cons_of_mem _ hr, x⟩
/-- told and due are alike -/
theorem cs_same {K : PySem.W.Frag} {H : Hp} {c : Cs} (h : CsOk c) {pls : List Str} {G Gd : Str → Str} {us : List Use3} {S : Str → Option Str} {rs rs' : List (Str × RuleV)} {kvs kvs' : List (Key × V)} (ndp : pls.Nodup) (mpl : ∀ x, x ∈ pls ↔ x = "." ∨ x ∈ frR [] c.r ∨ x ∈ bdR c.r) (mus : ∀ u, u ∈ us ↔ u ∈ usesR "." c.r) (gr : GrOk us pls G S)
    (hR : RulAt H rs kvs) (ndr : (rs.map (·.1)).Nodup) (kr : ∀ g, g ∈ rs.map (·.1) ↔ ∃ x ∈ pls, G x = g) (okr : ∀ r ∈ rs, RuleOk us G S r.1 r.2)
    (gd : GdOk c.al Gd) (hR' : RulAt H rs' kvs') (ndr' : (rs'.map (·.1)).Nodup) (kr' : ∀ g, g ∈ rs'.map (·.1) ↔ ∃ x ∈ ("." : Str) :: c.nm, Gd x = g) (okr' : ∀ r ∈ rs', DueR Gd (dueL Gd c.ru r.1) r.2) :
    DkEq K H (kvG G pls) (kvG Gd (("." : Str) :: c.nm)) ∧ DkEq K H kvs kvs' := by
  obtain ⟨Sd, grd, dk⟩ := h.key Gd gd
  have same : ∀ x, x ∈ pls ↔ x ∈ ("." : Str) :: c.nm := fun x => by rw [mpl x, List.mem_cons, h.nm x]
  have hU : ∀ u ∈ us, u.1 ∈ pls ∧ u.2.2 ∈ pls := fun u hu => by
    obtain ⟨a, b⟩ := uses_in ((mus u).mp hu)
    exact ⟨(mpl _).mpr a, (mpl _).mpr b⟩
  have grd' : GrOk (usesR "." c.r) pls Gd Sd := ⟨⟨fun x hx => (same _).mpr (grd.cl x ((same x).mp hx)), fun x hx => grd.idem x ((same x).mp hx), fun x hx y hy e => grd.least x ((same x).mp hx) y ((same y).mp hy) e, fun x hx => grd.snd x ((same x).mp hx), fun g m e => by
    obtain ⟨a, b, d⟩ := grd.sk g m e
    exact ⟨(same _).mpr a, (same _).mpr b, d⟩⟩, grd.sat⟩
  have ug := gr.uniq grd' mus hU
  have us' := gr.uniqS grd' mus hU
  have okp : ∀ x ∈ pls, PyData.strOk x = true := fun x hx => by
    rcases List.mem_cons.mp ((same x).mp hx) with e | e
    · rw [e]; exact dot_ok
    · exact h.ok x e
  have qU : ∀ u ∈ us, G u.1 = Gd u.1 ∧ G u.2.2 = Gd u.2.2 := fun u hu => ⟨ug _ (hU u hu).1, ug _ (hU u hu).2⟩
  have qU' : ∀ u ∈ usesR "." c.r, Gd u.1 = G u.1 ∧ Gd u.2.2 = G u.2.2 := fun u hu => ⟨(qU u ((mus u).mpr hu)).1.symm, (qU u ((mus u).mpr hu)).2.symm⟩
  have goe : ∀ g n, GoesU us G g n ↔ GoesU (usesR "." c.r) Gd g n := fun g n => ⟨fun k => k.congr (fun u hu => (mus u).mp hu) qU, fun k => k.congr (fun u hu => (mus u).mpr hu) qU'⟩
  have ope : ∀ g, OpenU us G g ↔ OpenU (usesR "." c.r) Gd g := fun g => ⟨fun k => k.congr (fun u hu => (mus u).mp hu) qU, fun k => k.congr (fun u hu => (mus u).mpr hu) qU'⟩
  have lens : pls.length = (("." : Str) :: c.nm).length := same_len ndp h.nd same
  refine ⟨⟨by unfold kvG; rw [List.length_map, List.length_map]; exact lens, fun p hp => ?_⟩, ?_, fun p hp => ?_⟩
  · obtain ⟨x, hx, rfl⟩ := List.mem_map.mp hp
    refine ⟨.str (Gd x), kvG_some ((same x).mp hx), ?_⟩
    show Alk K H (.str (G x)) _
    rw [ug x hx]
    exact alk_str (okp _ (by rw [← ug x hx]; exact gr.cl x hx))
  · rw [hR.len, hR'.len]
    have := same_len ndr ndr' fun g => by
      rw [kr g, kr' g]
      exact ⟨fun ⟨x, hx, e⟩ => ⟨x, (same x).mp hx, by rw [← ug x hx]; exact e⟩, fun ⟨x, hx, e⟩ => ⟨x, (same x).mpr hx, by rw [ug x ((same x).mpr hx)]; exact e⟩⟩
    rw [List.length_map, List.length_map] at this
    exact this
  · obtain ⟨r, hr, t, l, rfl, h1, h2⟩ := rul_mem hR hp
    obtain ⟨x, hx, ex⟩ := (kr r.1).mp (List.mem_map.mpr ⟨r, hr, rfl⟩)
    have ex' : Gd x = r.1 := (ug x hx).symm.trans ex
    obtain ⟨r', hr', er⟩ := List.mem_map.mp ((kr' r.1).mpr ⟨x, (same x).mp hx, ex'⟩)
    obtain ⟨t', l', v', h3, h4⟩ := hR'.some ndr' hr'
    have er : r'.1 = r.1 := er
    rw [er] at v'
    have ok := okr r hr
    have ok' := okr' r' hr'
    have dx := dk x ((same x).mp hx)
    rw [er] at ok'
    rw [ex'] at dx
    have sx := us' x hx
    rw [ex, ex'] at sx
    have eq : r.2.wk = r'.2.wk ∧ r.2.op = r'.2.op ∧ r.2.go = r'.2.go ∧ r.2.sy = r'.2.sy := by
      cases q : dueL Gd c.ru r.1 with
      | none =>
        rw [q] at ok' dx
        obtain ⟨d1, d2, d3⟩ := dx
        have e : r'.2 = ⟨false, false, [], none⟩ := ok'
        have g0 : r.2.go = [] := by
          cases q2 : r.2.go with
          | nil => rfl
          | cons a b => exact absurd ((goe _ _).mp ((ok.go a).mp (by rw [q2]; exact List.mem_cons_self))) (d1 a)
        rw [e]
        refine ⟨by rw [ok.wk, g0]; rfl, ?_, g0, ?_⟩
        · cases q2 : r.2.op with
          | false => rfl
          | true => exact absurd ((ope _).mp (ok.op.mp q2)) d2
        · rw [ok.sy, sx, d3]; rfl
      | some u =>
        rw [q] at ok' dx
        obtain ⟨d1, d2, d3, d4⟩ := dx
        obtain ⟨o1, o2, o3, o4, o5, o6⟩ := ok'
        have gg : r.2.go = r'.2.go := sorted_uniq ok.so o3 ok.nd o4 fun n => by rw [ok.go n, goe, o5 n, d3 n]
        refine ⟨?_, ?_, gg, by rw [ok.sy, sx, d4, o6]⟩
        · rw [o1, ok.wk, Bool.eq_iff_iff, d1]
          constructor
          · intro z
            cases q2 : r.2.go with
            | nil => rw [q2] at z; cases z
            | cons a b => exact ⟨a, (goe _ _).mp ((ok.go a).mp (by rw [q2]; exact List.mem_cons_self))⟩
          · rintro ⟨n, hn⟩
            have := (ok.go n).mpr ((goe _ _).mpr hn)
            cases q2 : r.2.go with
            | nil => rw [q2] at this; cases this
            | cons a b => rfl
        · rw [o2, Bool.eq_iff_iff, ok.op, d2, ope]
    obtain ⟨e1, e2, e3, e4⟩ := eq
    rw [← e1, ← e2, ← e4] at h3
    rw [← e3] at h4
    refine ⟨.ref t', v', alk_rule h1 h2 h3 h4 (fun n hn => ?_) (fun m hm => ?_)⟩
    · obtain ⟨i, _, hw⟩ := (ok.go n).mp hn
      obtain ⟨u, hu, rfl⟩ := walk_in hw
      exact okp _ (gr.cl _ (hU u hu).2)
    · rw [ok.sy] at hm
      obtain ⟨m', e, rfl⟩ := Option.map_eq_some_iff.mp hm
      exact okp _ (gr.cl _ (gr.sk _ _ e).2.1)
end Wk

set_option Elab.async false
set_option linter.all false
set_option maxRecDepth 100000
set_option maxHeartbeats 1000000
/-! Kinds by numbers of names. -/
namespace Wk
open PySem PySem.Spec PyProof.Rows L2 GxR
def io (I : List Str) (i : Nat) : Str := I.getD i ""
def decW : Nat → Str
  | 0 => "in"
  | 1 => "out"
  | 2 => "open"
  | 3 => "say"
  | _ => "hear"
abbrev U3N := Nat × Nat × Nat
abbrev RuN := Nat × Bool × Bool × List Nat × Option Nat
def decU (I : List Str) (u : U3N) : Use3 := (io I u.1, decW u.2.1, io I u.2.2)
def sayZ (I : List Str) : Option Nat → Str
  | none => ""
  | some m => io I m
def decR (I : List Str) (r : RuN) : RuT := (io I r.1, r.2.1, r.2.2.1, r.2.2.2.1.map (io I), sayZ I r.2.2.2.2)
structure KC where
  n : Nat
  u : List U3N
  s : List (Nat × Nat)
  r : List RuN
section
variable (k : KC) (g : Nat → Nat)
def pourN (x : Nat) : List Nat := (k.u.filter fun u => u.2.1 == 2 && g u.1 == x).map fun u => g u.2.2
def walkN (x : Nat) : List Nat := (k.u.filter fun u => (u.2.1 == 0 || u.2.1 == 1) && g u.1 == x).map fun u => g u.2.2
def openN (x : Nat) : Bool := k.u.any fun u => u.2.1 == 2 && g u.2.2 == x
def clN : Nat → List Nat → List Nat
  | 0, L => L
  | n + 1, L => clN n (L ++ (L.flatMap (pourN k g)).filter fun y => !L.contains y)
def goesN (x : Nat) : List Nat := (clN k g k.n [x]).flatMap (walkN k g)
def sayN (x : Nat) : Option Nat := (k.s.find? fun q => q.1 == x).map (·.2)
def dueN (x : Nat) : Option RuN := (k.r.filter fun u => g u.1 == x).getLast?
def chkX (x : Nat) : Bool := ((clN k g k.n [x]).all fun y => (pourN k g y).all fun z => (clN k g k.n [x]).contains z) && (match dueN k g x with
  | none => (goesN k g x).isEmpty && (!openN k g x && (sayN k x).isNone)
  | some u => (u.2.1 == !(goesN k g x).isEmpty) && ((u.2.2.1 == openN k g x) && (((goesN k g x).all fun m => (u.2.2.2.1.map g).contains m) && (((u.2.2.2.1.map g).all fun m => (goesN k g x).contains m) && ((sayN k x).map g == u.2.2.2.2.map g)))))
def satB (u : U3N) : Bool := (!(u.2.1 == 3 || u.2.1 == 4) || (match sayN k (g u.1) with
  | some m => g m == g u.2.2
  | none => false)) && (!(u.2.1 == 2) || (match sayN k (g u.2.2) with
  | none => true
  | some s => match sayN k (g u.1) with
    | some m => g m == g s
    | none => false))
def rngB : Bool := (k.u.all fun u => decide (u.1 < k.n) && (decide (u.2.1 < 5) && decide (u.2.2 < k.n))) && ((k.s.all fun q => decide (q.1 < k.n) && decide (q.2 < k.n)) && ((k.r.all fun r => decide (r.1 < k.n) && ((r.2.2.2.1.all fun m => decide (m < k.n)) && (match r.2.2.2.2 with
  | none => true
  | some m => decide (m < k.n)))) && (List.range k.n).all fun i => decide (g i < k.n)))
def chkB : Bool := rngB k g && ((k.u.all (satB k g)) && (List.range k.n).all fun i => chkX k g (g i))
end
theorem io_inj {I : List Str} (nd : I.Nodup) {i j : Nat} (hi : i < I.length) (hj : j < I.length) (e : io I i = io I j) : i = j := by
  unfold io at e
  rw [List.getD_eq_getElem?_getD, List.getD_eq_getElem?_getD, List.getElem?_eq_getElem hi, List.getElem?_eq_getElem hj] at e
  exact (List.getElem_inj nd).mp (show I[i] = I[j] from e)
theorem io_mem {I : List Str} {i : Nat} (hi : i < I.length) : io I i ∈ I := by
  unfold io
  rw [List.getD_eq_getElem?_getD, List.getElem?_eq_getElem hi]
  exact List.getElem_mem hi
theorem io_of {I : List Str} {x : Str} (h : x ∈ I) : ∃ i, i < I.length ∧ x = io I i := by
  obtain ⟨i, hi⟩ := List.getElem?_of_mem h
  refine ⟨i, (List.getElem?_eq_some_iff.mp hi).1, ?_⟩
  unfold io
  rw [List.getD_eq_getElem?_getD, hi]
  rfl
theorem decW_open : ∀ w, w < 5 → (decW w = ("open" : Str) ↔ w = 2) := by decide +kernel
theorem decW_in : ∀ w, w < 5 → ((decW w = ("in" : Str) ∨ decW w = ("out" : Str)) ↔ (w = 0 ∨ w = 1)) := by decide +kernel
theorem decW_say : ∀ w, w < 5 → saysW (decW w) = (w == 3 || w == 4) := by decide +kernel
/-- what numbers and texts have to do with one another -/
structure Cod (k : KC) (g : Nat → Nat) (I : List Str) (G : Str → Str) : Prop where
  nd : I.Nodup
  ln : I.length = k.n
  ne : ∀ x ∈ I, x ≠ ""
  gg : ∀ i, i < k.n → G (io I i) = io I (g i)
  ok : chkB k g = true
section
variable {k : KC} {g : Nat → Nat} {I : List Str} {G : Str → Str}
theorem Cod.rng (h : Cod k g I G) : (∀ u ∈ k.u, u.1 < k.n ∧ u.2.1 < 5 ∧ u.2.2 < k.n) ∧ (∀ q ∈ k.s, q.1 < k.n ∧ q.2 < k.n) ∧ (∀ r ∈ k.r, r.1 < k.n ∧ (∀ m ∈ r.2.2.2.1, m < k.n) ∧ ∀ m, r.2.2.2.2 = some m → m < k.n) ∧ ∀ i, i < k.n → g i < k.n := by
  have o := (Bool.and_eq_true_iff.mp h.ok).1
  unfold rngB at o
  simp only [Bool.and_eq_true, List.all_eq_true, decide_eq_true_eq] at o
  obtain ⟨o1, o2, o3, o4⟩ := o
  refine ⟨fun u hu => ⟨(o1 u hu).1, (o1 u hu).2.1, (o1 u hu).2.2⟩, fun q hq => o2 q hq, fun r hr => ⟨(o3 r hr).1, (o3 r hr).2.1, fun m e => ?_⟩, fun i hi => o4 i (List.mem_range.mpr hi)⟩
  have := (o3 r hr).2.2
  rw [e] at this
  exact of_decide_eq_true this
theorem Cod.inj (h : Cod k g I G) {i j : Nat} (hi : i < k.n) (hj : j < k.n) (e : io I i = io I j) : i = j := io_inj h.nd (by rw [h.ln]; exact hi) (by rw [h.ln]; exact hj) e
theorem Cod.pour (h : Cod k g I G) {x : Nat} (hx : x < k.n) {n : Str} : n ∈ pourU (k.u.map (decU I)) G (io I x) ↔ ∃ y ∈ pourN k g x, n = io I y := by
  obtain ⟨r1, _, _, r4⟩ := h.rng
  rw [mem_pour]
  constructor
  · rintro ⟨p, m, hu, e1, e2⟩
    obtain ⟨u, hu, e⟩ := List.mem_map.mp hu
    obtain ⟨a, b, c⟩ := r1 u hu
    obtain ⟨ea, eb, ec⟩ : io I u.1 = p ∧ decW u.2.1 = "open" ∧ io I u.2.2 = m := ⟨congrArg (·.1) e, congrArg (·.2.1) e, congrArg (·.2.2) e⟩
    rw [← ea, h.gg _ a] at e1
    refine ⟨g u.2.2, List.mem_map.mpr ⟨u, List.mem_filter.mpr ⟨hu, ?_⟩, rfl⟩, by rw [e2, ← ec, h.gg _ c]⟩
    rw [Bool.and_eq_true, beq_iff_eq, beq_iff_eq]
    exact ⟨(decW_open _ b).mp eb, h.inj (r4 _ a) hx e1⟩
  · rintro ⟨y, hy, rfl⟩
    obtain ⟨u, hu, rfl⟩ := List.mem_map.mp hy
    obtain ⟨hu, hc⟩ := List.mem_filter.mp hu
    rw [Bool.and_eq_true, beq_iff_eq, beq_iff_eq] at hc
    obtain ⟨a, b, c⟩ := r1 u hu
    refine ⟨io I u.1, io I u.2.2, List.mem_map.mpr ⟨u, hu, ?_⟩, by rw [h.gg _ a, hc.2], (h.gg _ c).symm⟩
    show (io I u.1, decW u.2.1, io I u.2.2) = _
    rw [(decW_open _ b).mpr hc.1]
theorem Cod.walk (h : Cod k g I G) {x : Nat} (hx : x < k.n) {n : Str} : n ∈ walkU (k.u.map (decU I)) G (io I x) ↔ ∃ y ∈ walkN k g x, n = io I y := by
  obtain ⟨r1, _, _, r4⟩ := h.rng
  rw [mem_walk]
  constructor
  · rintro ⟨p, w, m, hu, ew, e1, e2⟩
    obtain ⟨u, hu, e⟩ := List.mem_map.mp hu
    obtain ⟨a, b, c⟩ := r1 u hu
    obtain ⟨ea, eb, ec⟩ : io I u.1 = p ∧ decW u.2.1 = w ∧ io I u.2.2 = m := ⟨congrArg (·.1) e, congrArg (·.2.1) e, congrArg (·.2.2) e⟩
    rw [← ea, h.gg _ a] at e1
    refine ⟨g u.2.2, List.mem_map.mpr ⟨u, List.mem_filter.mpr ⟨hu, ?_⟩, rfl⟩, by rw [e2, ← ec, h.gg _ c]⟩
    rw [Bool.and_eq_true, Bool.or_eq_true, beq_iff_eq, beq_iff_eq, beq_iff_eq]
    rw [← eb] at ew
    exact ⟨(decW_in _ b).mp ew, h.inj (r4 _ a) hx e1⟩
  · rintro ⟨y, hy, rfl⟩
    obtain ⟨u, hu, rfl⟩ := List.mem_map.mp hy
    obtain ⟨hu, hc⟩ := List.mem_filter.mp hu
    rw [Bool.and_eq_true, Bool.or_eq_true, beq_iff_eq, beq_iff_eq, beq_iff_eq] at hc
    obtain ⟨a, b, c⟩ := r1 u hu
    exact ⟨io I u.1, decW u.2.1, io I u.2.2, List.mem_map.mpr ⟨u, hu, rfl⟩, (decW_in _ b).mpr hc.1, by rw [h.gg _ a, hc.2], (h.gg _ c).symm⟩
theorem Cod.opn (h : Cod k g I G) {x : Nat} (hx : x < k.n) : OpenU (k.u.map (decU I)) G (io I x) ↔ openN k g x = true := by
  obtain ⟨r1, _, _, r4⟩ := h.rng
  unfold openN
  rw [List.any_eq_true]
  constructor
  · rintro ⟨u', hu', e1, e2⟩
    obtain ⟨u, hu, rfl⟩ := List.mem_map.mp hu'
    obtain ⟨a, b, c⟩ := r1 u hu
    have e2 : G (io I u.2.2) = io I x := e2
    rw [h.gg _ c] at e2
    refine ⟨u, hu, ?_⟩
    rw [Bool.and_eq_true, beq_iff_eq, beq_iff_eq]
    exact ⟨(decW_open _ b).mp e1, h.inj (r4 _ c) hx e2⟩
  · rintro ⟨u, hu, hc⟩
    rw [Bool.and_eq_true, beq_iff_eq, beq_iff_eq] at hc
    obtain ⟨a, b, c⟩ := r1 u hu
    exact ⟨decU I u, List.mem_map.mpr ⟨u, hu, rfl⟩, (decW_open _ b).mpr hc.1, by show G (io I u.2.2) = _; rw [h.gg _ c, hc.2]⟩
theorem Cod.pourLt (h : Cod k g I G) {x y : Nat} (hy : y ∈ pourN k g x) : y < k.n := by
  obtain ⟨r1, _, _, r4⟩ := h.rng
  obtain ⟨u, hu, rfl⟩ := List.mem_map.mp hy
  exact r4 _ (r1 u (List.mem_filter.mp hu).1).2.2
theorem clN_sub (k : KC) (g : Nat → Nat) : ∀ (n : Nat) (L : List Nat) (x : Nat), x ∈ L → x ∈ clN k g n L
  | 0, _, _, h => h
  | n + 1, L, x, h => clN_sub k g n _ x (List.mem_append_left _ h)
theorem clN_all {P : Nat → Prop} (k : KC) (g : Nat → Nat) (st : ∀ x y, P x → y ∈ pourN k g x → P y) : ∀ (n : Nat) (L : List Nat), (∀ x ∈ L, P x) → ∀ x ∈ clN k g n L, P x
  | 0, _, h => h
  | n + 1, L, h => clN_all k g st n _ fun x hx => by
    rcases List.mem_append.mp hx with hx | hx
    · exact h x hx
    · obtain ⟨y, hy, hx⟩ := List.mem_flatMap.mp (List.mem_filter.mp hx).1
      exact st y x (h y hy) hx
theorem Cod.rch (h : Cod k g I G) {x : Nat} (hx : x < k.n) (c : chkX k g x = true) {i : Str} : (i = io I x ∨ RchP (pourU (k.u.map (decU I)) G) (io I x) i) ↔ ∃ y ∈ clN k g k.n [x], y < k.n ∧ i = io I y := by
  have cl := (Bool.and_eq_true_iff.mp c).1
  simp only [List.all_eq_true, List.contains_iff_mem] at cl
  constructor
  · rintro (rfl | r)
    · exact ⟨x, clN_sub k g _ _ x (List.mem_singleton.mpr rfl), hx, rfl⟩
    · induction r with
      | one m =>
        obtain ⟨y, hy, e⟩ := (h.pour hx).mp m
        exact ⟨y, cl x (clN_sub k g _ _ x (List.mem_singleton.mpr rfl)) y hy, h.pourLt hy, e⟩
      | step _ m ih =>
        obtain ⟨z, hz, lz, rfl⟩ := ih
        obtain ⟨y, hy, e⟩ := (h.pour lz).mp m
        exact ⟨y, cl z hz y hy, h.pourLt hy, e⟩
  · rintro ⟨y, hy, ly, rfl⟩
    have := clN_all (P := fun y => y < k.n ∧ (io I y = io I x ∨ RchP (pourU (k.u.map (decU I)) G) (io I x) (io I y))) k g (fun a b ⟨la, ra⟩ hb => ⟨h.pourLt hb, by
      have m := (h.pour la).mpr ⟨b, hb, rfl⟩
      rcases ra with e | r
      · rw [e] at m; exact .inr (.one m)
      · exact .inr (.step r m)⟩) k.n [x] (fun z hz => by rw [List.mem_singleton.mp hz]; exact ⟨hx, .inl rfl⟩) y hy
    exact this.2
theorem Cod.goes (h : Cod k g I G) {x : Nat} (hx : x < k.n) (c : chkX k g x = true) {n : Str} : GoesU (k.u.map (decU I)) G (io I x) n ↔ ∃ m ∈ goesN k g x, n = io I m := by
  unfold goesN
  constructor
  · rintro ⟨i, hi, hn⟩
    obtain ⟨y, hy, ly, rfl⟩ := (h.rch hx c).mp hi
    obtain ⟨m, hm, e⟩ := (h.walk ly).mp hn
    exact ⟨m, List.mem_flatMap.mpr ⟨y, hy, hm⟩, e⟩
  · rintro ⟨m, hm, rfl⟩
    obtain ⟨y, hy, hm⟩ := List.mem_flatMap.mp hm
    have ly := clN_all (P := fun y => y < k.n) k g (fun a b _ hb => h.pourLt hb) k.n [x] (fun z hz => by rw [List.mem_singleton.mp hz]; exact hx) y hy
    exact ⟨io I y, (h.rch hx c).mpr ⟨y, hy, ly, rfl⟩, (h.walk ly).mpr ⟨m, hm, rfl⟩⟩
theorem Cod.goesLt (h : Cod k g I G) {x m : Nat} (hm : m ∈ goesN k g x) : m < k.n := by
  obtain ⟨r1, _, _, r4⟩ := h.rng
  obtain ⟨y, _, hm⟩ := List.mem_flatMap.mp hm
  obtain ⟨u, hu, rfl⟩ := List.mem_map.mp hm
  exact r4 _ (r1 u (List.mem_filter.mp hu).1).2.2
def decS (I : List Str) (q : Nat × Nat) : Str × Str := (io I q.1, io I q.2)
theorem Cod.say (h : Cod k g I G) {x : Nat} (hx : x < k.n) : sayL (k.s.map (decS I)) (io I x) = (sayN k x).map (io I) := by
  obtain ⟨_, r2, _, _⟩ := h.rng
  unfold sayL sayN
  rw [List.find?_map, Option.map_map, Option.map_map]
  have e : (k.s.find? ((fun q : Str × Str => decide (q.1 = io I x)) ∘ decS I)) = k.s.find? fun q => q.1 == x := by
    have : ∀ L : List (Nat × Nat), (∀ q ∈ L, q.1 < k.n) → L.find? ((fun q : Str × Str => decide (q.1 = io I x)) ∘ decS I) = L.find? fun q => q.1 == x := fun L => by
      induction L with
      | nil => intro _; rfl
      | cons q L ih =>
        intro hL
        have hq := hL q List.mem_cons_self
        rw [List.find?_cons, List.find?_cons, ih fun z hz => hL z (List.mem_cons_of_mem _ hz)]
        have e2 : ((fun q : Str × Str => decide (q.1 = io I x)) ∘ decS I) q = (q.1 == x) := by
          show decide (io I q.1 = io I x) = _
          rw [Bool.eq_iff_iff, decide_eq_true_eq, beq_iff_eq]
          exact ⟨h.inj hq hx, fun z => by rw [z]⟩
        rw [e2]
    exact this k.s fun q hq => (r2 q hq).1
  rw [e]
  rfl
theorem Cod.due (h : Cod k g I G) {x : Nat} (hx : x < k.n) : dueL G (k.r.map (decR I)) (io I x) = (dueN k g x).map (decR I) := by
  obtain ⟨_, _, r3, r4⟩ := h.rng
  unfold dueL dueN
  rw [List.filter_map, List.getLast?_map]
  congr 2
  refine List.filter_congr fun r hr => ?_
  show decide (G (io I r.1) = io I x) = _
  have l := (r3 r hr).1
  rw [h.gg _ l, Bool.eq_iff_iff, decide_eq_true_eq, beq_iff_eq]
  exact ⟨h.inj (r4 _ l) hx, fun z => by rw [z]⟩
theorem Cod.sayLt (h : Cod k g I G) {x m : Nat} (e : sayN k x = some m) : m < k.n := by
  obtain ⟨_, r2, _, _⟩ := h.rng
  unfold sayN at e
  obtain ⟨q, hq, rfl⟩ := Option.map_eq_some_iff.mp e
  exact (r2 q (List.mem_of_find?_eq_some hq)).2
theorem Cod.dueK (h : Cod k g I G) {i : Nat} (hi : i < k.n) : DueK (k.u.map (decU I)) G (sayL (k.s.map (decS I))) (io I (g i)) (dueL G (k.r.map (decR I)) (io I (g i))) := by
  obtain ⟨_, _, r3, r4⟩ := h.rng
  have hx := r4 i hi
  have c : chkX k g (g i) = true := List.all_eq_true.mp ((Bool.and_eq_true_iff.mp (Bool.and_eq_true_iff.mp h.ok).2).2) i (List.mem_range.mpr hi)
  rw [h.due hx]
  have c2 := (Bool.and_eq_true_iff.mp c).2
  cases q : dueN k g (g i) with
  | none =>
    rw [q] at c2
    simp only [Bool.and_eq_true, List.isEmpty_iff, Bool.not_eq_true', Option.isNone_iff_eq_none] at c2
    obtain ⟨c3, c4, c5⟩ := c2
    refine ⟨fun n hn => ?_, fun ho => ?_, ?_⟩
    · obtain ⟨m, hm, _⟩ := (h.goes hx c).mp hn
      rw [c3] at hm
      cases hm
    · rw [(h.opn hx).mp ho] at c4
      cases c4
    · rw [h.say hx, c5]; rfl
  | some u =>
    rw [q] at c2
    simp only [Bool.and_eq_true, beq_iff_eq, List.all_eq_true, List.contains_iff_mem] at c2
    obtain ⟨c3, c4, c5, c6, c7⟩ := c2
    have hu : u ∈ k.r := (List.mem_filter.mp (List.mem_of_getLast? q)).1
    obtain ⟨u1, u2, u3⟩ := r3 u hu
    refine ⟨?_, ?_, fun n => ?_, ?_⟩
    · show u.2.1 = true ↔ _
      rw [c3]
      constructor
      · intro z
        cases e : goesN k g (g i) with
        | nil => rw [e] at z; cases z
        | cons a b => exact ⟨io I a, (h.goes hx c).mpr ⟨a, by rw [e]; exact List.mem_cons_self, rfl⟩⟩
      · rintro ⟨n, hn⟩
        obtain ⟨m, hm, _⟩ := (h.goes hx c).mp hn
        cases e : goesN k g (g i) with
        | nil => rw [e] at hm; cases hm
        | cons a b => rfl
    · show u.2.2.1 = true ↔ _
      rw [c4]
      exact (h.opn hx).symm
    · rw [h.goes hx c]
      show (∃ y ∈ u.2.2.2.1.map (io I), G y = n) ↔ _
      constructor
      · rintro ⟨y, hy, rfl⟩
        obtain ⟨m, hm, rfl⟩ := List.mem_map.mp hy
        exact ⟨g m, c6 _ (List.mem_map.mpr ⟨m, hm, rfl⟩), h.gg _ (u2 m hm)⟩
      · rintro ⟨m, hm, rfl⟩
        obtain ⟨m', hm', e⟩ := List.mem_map.mp (c5 m hm)
        exact ⟨io I m', List.mem_map.mpr ⟨m', hm', rfl⟩, by rw [h.gg _ (u2 m' hm'), e]⟩
    · rw [h.say hx]
      show _ = (if sayZ I u.2.2.2.2 = "" then none else some (G (sayZ I u.2.2.2.2)))
      cases e : u.2.2.2.2 with
      | none =>
        rw [e] at c7
        cases e2 : sayN k (g i) with
        | none => rw [if_pos (show sayZ I none = "" from rfl)]; rfl
        | some m => rw [e2] at c7; cases c7
      | some m =>
        rw [e] at c7
        have lm := u3 m e
        rw [if_neg (show ¬ sayZ I (some m) = "" from h.ne _ (io_mem (by rw [h.ln]; exact lm)))]
        cases e2 : sayN k (g i) with
        | none => rw [e2] at c7; cases c7
        | some m' =>
          rw [e2] at c7
          have c8 : g m' = g m := Option.some.inj c7
          show some (G (io I m')) = some (G (io I m))
          rw [h.gg _ (h.sayLt e2), h.gg _ lm, c8]
theorem Cod.sat (h : Cod k g I G) : ∀ u ∈ k.u.map (decU I), satU G (sayL (k.s.map (decS I))) u := fun u' hu' => by
  obtain ⟨r1, _, _, r4⟩ := h.rng
  obtain ⟨u, hu, rfl⟩ := List.mem_map.mp hu'
  obtain ⟨a, b, c⟩ := r1 u hu
  have s := List.all_eq_true.mp (Bool.and_eq_true_iff.mp (Bool.and_eq_true_iff.mp h.ok).2).1 u hu
  obtain ⟨s1, s2⟩ := Bool.and_eq_true_iff.mp s
  refine ⟨fun z => ?_, fun z s0 hs0 => ?_⟩
  · have z : saysW (decW u.2.1) = true := z
    rw [decW_say _ b] at z
    rw [z] at s1
    show ∃ m, sayL _ (G (io I u.1)) = some m ∧ G m = G (io I u.2.2)
    rw [h.gg _ a, h.say (r4 _ a)]
    cases e : sayN k (g u.1) with
    | none => rw [e] at s1; cases s1
    | some m =>
      rw [e] at s1
      have s3 : g m = g u.2.2 := by simpa using s1
      exact ⟨io I m, rfl, by rw [h.gg _ (h.sayLt e), h.gg _ c, s3]⟩
  · have z : decW u.2.1 = "open" := z
    have z2 := (decW_open _ b).mp z
    have hs0 : sayL _ (G (io I u.2.2)) = some s0 := hs0
    rw [h.gg _ c, h.say (r4 _ c)] at hs0
    obtain ⟨s9, e9, rfl⟩ := Option.map_eq_some_iff.mp hs0
    show ∃ m, sayL _ (G (io I u.1)) = some m ∧ G m = G (io I s9)
    rw [h.gg _ a, h.say (r4 _ a)]
    rw [e9, z2] at s2
    cases e : sayN k (g u.1) with
    | none => rw [e] at s2; cases s2
    | some m =>
      rw [e] at s2
      have s3 : g m = g s9 := by simpa using s2
      exact ⟨io I m, rfl, by rw [h.gg _ (h.sayLt e), h.gg _ (h.sayLt e9), s3]⟩
end
def decA (I : List Str) : Option (List Nat) → List (List Str)
  | none => []
  | some l => [l.map (io I)]
def chkA (k : KC) : Option (List Nat) → Bool
  | none => chkB k id
  | some l => !l.isEmpty && (l.all fun m => decide (m < k.n) && chkB k fun i => if l.contains i then m else i)
theorem key_code {k : KC} {I : List Str} (nd : I.Nodup) (ln : I.length = k.n) (ne : ∀ x ∈ I, x ≠ "") {lN : Option (List Nat)} (ok : chkA k lN = true)
    (sm : ∀ l, lN = some l → ∀ x ∈ l, ∀ y ∈ l, SmK (k.u.map (decU I)) (io I x) (io I y)) (sy : ∀ q ∈ k.s, SyK (k.u.map (decU I)) (io I q.1) (io I q.2)) :
    ∀ G, GdOk (decA I lN) G → ∃ S, GrOk (k.u.map (decU I)) I G S ∧ ∀ x ∈ I, DueK (k.u.map (decU I)) G S (G x) (dueL G (k.r.map (decR I)) (G x)) := by
  intro G gd
  obtain ⟨g, cod, cl, idem, least, snd⟩ : ∃ g, Cod k g I G ∧ (∀ x ∈ I, G x ∈ I) ∧ (∀ x ∈ I, G (G x) = G x) ∧ (∀ x ∈ I, ∀ y ∈ I, G x = G y → leS (G x) y) ∧ ∀ x ∈ I, SmK (k.u.map (decU I)) x (G x) := by
    cases lN with
    | none =>
      have e : G = id := gd
      subst e
      exact ⟨id, ⟨nd, ln, ne, fun _ _ => rfl, ok⟩, fun _ h => h, fun _ _ => rfl, fun x _ y _ e => by rw [show x = y from e]; exact fun z => List.lt_irrefl _ z, fun x _ => .refl x⟩
    | some l =>
      obtain ⟨m, hm, hle, hG⟩ := gd
      obtain ⟨m0, hm0, rfl⟩ := List.mem_map.mp hm
      obtain ⟨_, c⟩ := Bool.and_eq_true_iff.mp ok
      have lt : ∀ x ∈ l, x < k.n := fun x hx => of_decide_eq_true (Bool.and_eq_true_iff.mp (List.all_eq_true.mp c x hx)).1
      have mi : ∀ i, i < k.n → (io I i ∈ l.map (io I) ↔ i ∈ l) := fun i hi => by
        constructor
        · intro h
          obtain ⟨j, hj, e⟩ := List.mem_map.mp h
          rw [← io_inj nd (by rw [ln]; exact lt j hj) (by rw [ln]; exact hi) e]
          exact hj
        · exact fun h => List.mem_map.mpr ⟨i, h, rfl⟩
      have gl : ∀ i, i < k.n → G (io I i) = io I (if l.contains i then m0 else i) := fun i hi => by
        rw [hG]
        by_cases c : i ∈ l
        · rw [if_pos ((mi i hi).mpr c), if_pos (List.contains_iff_mem.mpr c)]
        · rw [if_neg fun z => c ((mi i hi).mp z), if_neg fun z => c (List.contains_iff_mem.mp z)]
      have cI : ∀ x ∈ I, G x ∈ I := fun x hx => by
        obtain ⟨i, hi, rfl⟩ := io_of hx
        rw [gl i (by rw [← ln]; exact hi)]
        refine io_mem ?_
        rw [ln]
        split
        · exact lt m0 hm0
        · rw [← ln]; exact hi
      have gm : ∀ x, x ∈ l.map (io I) → G x = io I m0 := fun x hx => by rw [hG, if_pos hx]
      have gn : ∀ x, x ∉ l.map (io I) → G x = x := fun x hx => by rw [hG, if_neg hx]
      refine ⟨fun i => if l.contains i then m0 else i, ⟨nd, ln, ne, gl, (Bool.and_eq_true_iff.mp (List.all_eq_true.mp c m0 hm0)).2⟩, cI, fun x hx => ?_, fun x hx y hy e => ?_, fun x hx => ?_⟩
      · by_cases c : x ∈ l.map (io I)
        · rw [gm x c, gm _ hm]
        · rw [gn x c, gn x c]
      · by_cases c : x ∈ l.map (io I)
        · rw [gm x c] at e ⊢
          by_cases d : y ∈ l.map (io I)
          · exact hle y d
          · rw [gn y d] at e
            exact absurd (by rw [← e]; exact hm) d
        · rw [gn x c] at e ⊢
          by_cases d : y ∈ l.map (io I)
          · rw [gm y d] at e
            exact absurd (by rw [e]; exact hm) c
          · rw [gn y d] at e
            rw [e]
            exact fun z => List.lt_irrefl _ z
      · by_cases c : x ∈ l.map (io I)
        · rw [gm x c]
          obtain ⟨j, hj, rfl⟩ := List.mem_map.mp c
          exact sm l rfl j hj m0 hm0
        · rw [gn x c]; exact .refl x
  obtain ⟨_, r2, _, r4⟩ := cod.rng
  refine ⟨sayL (k.s.map (decS I)), ⟨⟨cl, idem, least, snd, fun x m e => ?_⟩, cod.sat⟩, fun x hx => ?_⟩
  · obtain ⟨q, hq, e2⟩ := List.mem_map.mp (sayL_mem e)
    have e1 : io I q.1 = x := congrArg (·.1) e2
    have e3 : io I q.2 = m := congrArg (·.2) e2
    rw [← e1, ← e3]
    exact ⟨io_mem (by rw [ln]; exact (r2 q hq).1), io_mem (by rw [ln]; exact (r2 q hq).2), sy q hq⟩
  · obtain ⟨i, hi, rfl⟩ := io_of hx
    rw [cod.gg i (by rw [← ln]; exact hi)]
    exact cod.dueK (by rw [← ln]; exact hi)
end Wk

set_option Elab.async false
set_option linter.all false
set_option maxRecDepth 100000
set_option maxHeartbeats 1000000
/-! A case by numbers. -/
namespace Wk
open PySem PySem.Spec PyProof.Rows L2 GxR
def chk2 (k : KC) (lN : Option (List Nat)) (FC BC : List Nat) : Bool := (FC.all fun i => decide (0 < i) && (decide (i < k.n) && !BC.contains i)) && ((BC.all fun i => decide (0 < i) && decide (i < k.n)) && (((List.range k.n).all fun i => i == 0 || (FC.contains i || BC.contains i)) && ((match lN with
  | none => true
  | some l => decide (l.length ≤ 60) && l.all fun i => decide (0 < i)) && (decide (k.r.length ≤ 60) && k.r.all fun r => decide (r.2.2.2.1.length < 60)))))
theorem io_zero (x : Str) (l : List Str) : io (x :: l) 0 = x := rfl
theorem io_tail {nm : List Str} {i : Nat} (h0 : 0 < i) (h : i < nm.length + 1) : io (("." : Str) :: nm) i ∈ nm := by
  obtain ⟨j, rfl⟩ : ∃ j, i = j + 1 := ⟨i - 1, by omega⟩
  show (("." : Str) :: nm).getD (j + 1) "" ∈ nm
  rw [List.getD_eq_getElem?_getD, List.getElem?_cons_succ, List.getElem?_eq_getElem (by omega : j < nm.length)]
  exact List.getElem_mem _
theorem cs_code {c : Cs} {k : KC} {lN : Option (List Nat)} {FC BC : List Nat} (nd : (("." : Str) :: c.nm).Nodup) (okn : ∀ x ∈ c.nm, PyData.strOk x = true) (ne : ∀ x ∈ c.nm, x ≠ "") (hn : c.nm.length + 1 = k.n) (n58 : k.n < 58) (dp : deepR c.r < 13) (sz : sizeR c.r ≤ 900)
    (hu : usesR "." c.r = k.u.map (decU (("." : Str) :: c.nm))) (ha : c.al = decA (("." : Str) :: c.nm) lN) (hr : c.ru = k.r.map (decR (("." : Str) :: c.nm))) (hf : frR [] c.r = FC.map (io (("." : Str) :: c.nm))) (hb : bdR c.r = BC.map (io (("." : Str) :: c.nm)))
    (ck : chkA k lN = true) (ck2 : chk2 k lN FC BC = true) (sm : ∀ l, lN = some l → ∀ x ∈ l, ∀ y ∈ l, SmK (k.u.map (decU (("." : Str) :: c.nm))) (io (("." : Str) :: c.nm) x) (io (("." : Str) :: c.nm) y)) (sy : ∀ q ∈ k.s, SyK (k.u.map (decU (("." : Str) :: c.nm))) (io (("." : Str) :: c.nm) q.1) (io (("." : Str) :: c.nm) q.2)) : CsOk c := by
  generalize hI : (("." : Str) :: c.nm) = I at *
  have ln : I.length = k.n := by rw [← hI, List.length_cons]; exact hn
  have neI : ∀ x ∈ I, x ≠ "" := fun x hx => by
    rw [← hI] at hx
    rcases List.mem_cons.mp hx with e | e
    · rw [e]; decide +kernel
    · exact ne x e
  unfold chk2 at ck2
  simp only [Bool.and_eq_true, List.all_eq_true, decide_eq_true_eq, Bool.not_eq_true', Bool.or_eq_true, beq_iff_eq, List.contains_iff_mem, List.mem_range] at ck2
  obtain ⟨c1, c2, c3, c4, c5, c6⟩ := ck2
  have tl : ∀ i, 0 < i → i < k.n → io I i ∈ c.nm := fun i h0 h => by rw [← hI]; exact io_tail h0 (by omega)
  have mf : ∀ x, x ∈ frR [] c.r ↔ ∃ i ∈ FC, x = io I i := fun x => by
    rw [hf, List.mem_map]
    exact ⟨fun ⟨i, hi, e⟩ => ⟨i, hi, e.symm⟩, fun ⟨i, hi, e⟩ => ⟨i, hi, e.symm⟩⟩
  have mb : ∀ x, x ∈ bdR c.r ↔ ∃ i ∈ BC, x = io I i := fun x => by
    rw [hb, List.mem_map]
    exact ⟨fun ⟨i, hi, e⟩ => ⟨i, hi, e.symm⟩, fun ⟨i, hi, e⟩ => ⟨i, hi, e.symm⟩⟩
  have mI : ∀ i, i < k.n → io I i ∈ I := fun i h => io_mem (by rw [ln]; exact h)
  have rng : rngB k (fun i => i) = true ∨ ∃ m l, lN = some l ∧ rngB k (fun i => if l.contains i then m else i) = true := by
    unfold chkA at ck
    cases lN with
    | none => exact .inl (Bool.and_eq_true_iff.mp ck).1
    | some l =>
      obtain ⟨e1, e2⟩ := Bool.and_eq_true_iff.mp ck
      cases l with
      | nil => cases e1
      | cons m l =>
        have := (Bool.and_eq_true_iff.mp (List.all_eq_true.mp e2 m List.mem_cons_self)).2
        exact .inr ⟨m, m :: l, rfl, (Bool.and_eq_true_iff.mp this).1⟩
  have r3 : ∀ r ∈ k.r, r.1 < k.n ∧ (∀ m ∈ r.2.2.2.1, m < k.n) ∧ ∀ m, r.2.2.2.2 = some m → m < k.n := by
    have : ∀ g, rngB k g = true → ∀ r ∈ k.r, r.1 < k.n ∧ (∀ m ∈ r.2.2.2.1, m < k.n) ∧ ∀ m, r.2.2.2.2 = some m → m < k.n := fun g o r hr => by
      unfold rngB at o
      simp only [Bool.and_eq_true, List.all_eq_true, decide_eq_true_eq] at o
      obtain ⟨_, _, o3, _⟩ := o
      refine ⟨(o3 r hr).1, (o3 r hr).2.1, fun m e => ?_⟩
      have := (o3 r hr).2.2
      rw [e] at this
      exact of_decide_eq_true this
    rcases rng with h | ⟨_, _, _, h⟩
    · exact this _ h
    · exact this _ h
  refine ⟨dp, sz, by rw [hI]; exact nd, by omega, fun x => ?_, fun x h1 h2 => ?_, okn, ?_, fun l hl => ?_, ?_, fun u hu' => ?_, ?_⟩
  · rw [mf x, mb x]
    constructor
    · intro hx
      have hx' : x ∈ I := by rw [← hI]; exact List.mem_cons_of_mem _ hx
      obtain ⟨i, hi, rfl⟩ := io_of hx'
      have i0 : i ≠ 0 := fun z => by
        subst z
        have n1 := (List.nodup_cons.mp (show (("." : Str) :: c.nm).Nodup by rw [hI]; exact nd)).1
        rw [← hI, io_zero] at hx
        exact n1 hx
      rcases c3 i (by omega) with z | z | z
      · exact absurd z i0
      · exact .inl ⟨i, z, rfl⟩
      · exact .inr ⟨i, z, rfl⟩
    · rintro (⟨i, hi, rfl⟩ | ⟨i, hi, rfl⟩)
      · exact tl i (c1 i hi).1 (c1 i hi).2.1
      · exact tl i (c2 i hi).1 (c2 i hi).2
  · obtain ⟨i, hi, rfl⟩ := (mf x).mp h1
    obtain ⟨j, hj, e⟩ := (mb _).mp h2
    have := io_inj nd (by rw [ln]; exact (c1 i hi).2.1) (by rw [ln]; exact (c2 j hj).2) e
    subst this
    have z := (c1 i hi).2.2
    rw [List.contains_iff_mem.mpr hj] at z
    cases z
  · rw [ha]; cases lN <;> exact Nat.le_of_ble_eq_true rfl
  · rw [ha] at hl
    cases lN with
    | none => cases hl
    | some l' =>
      rw [List.mem_singleton.mp hl]
      obtain ⟨e1, e2⟩ := Bool.and_eq_true_iff.mp ck
      simp only [Bool.and_eq_true, decide_eq_true_eq, List.all_eq_true] at c4
      refine ⟨?_, by rw [List.length_map]; exact c4.1, fun x hx => ?_⟩
      · rw [List.length_map]
        cases l' with
        | nil => cases e1
        | cons _ _ => exact Nat.succ_pos _
      · obtain ⟨i, hi, rfl⟩ := List.mem_map.mp hx
        exact tl i (c4.2 i hi) (of_decide_eq_true (Bool.and_eq_true_iff.mp (List.all_eq_true.mp e2 i hi)).1)
  · rw [hr, List.length_map]; exact c5
  · rw [hr] at hu'
    obtain ⟨r, hr', rfl⟩ := List.mem_map.mp hu'
    obtain ⟨a1, a2, a3⟩ := r3 r hr'
    refine ⟨by rw [hI]; exact mI _ a1, by show (r.2.2.2.1.map (io I)).length < 60; rw [List.length_map]; exact c6 r hr', fun x hx => ?_, ?_⟩
    · obtain ⟨m, hm, rfl⟩ := List.mem_map.mp (show x ∈ r.2.2.2.1.map (io I) from hx)
      rw [hI]
      exact mI _ (a2 m hm)
    · show sayZ I r.2.2.2.2 = "" ∨ sayZ I r.2.2.2.2 ∈ _
      cases e : r.2.2.2.2 with
      | none => exact .inl rfl
      | some m => exact .inr (by rw [hI]; exact mI _ (a3 m e))
  · rw [hI, hu, ha, hr]
    exact key_code nd ln neI ck sm sy
theorem nms_nd {zs : List Str} {s : Nat} (hn : ∀ i z, zs[i]? = some z → NameOf ((s + 5 * i) % 26) z) (hl : zs.length ≤ 26) : (("." : Str) :: zs).Nodup ∧ (∀ x ∈ zs, PyData.strOk x = true) ∧ ∀ x ∈ zs, x ≠ "" := by
  have at1 : ∀ x ∈ zs, ∃ j, j < 26 ∧ NameOf j x := fun x hx => by
    obtain ⟨i, hi⟩ := List.getElem?_of_mem hx
    exact ⟨_, Nat.mod_lt _ (by decide), hn i x hi⟩
  refine ⟨List.nodup_cons.mpr ⟨fun h => ?_, ?_⟩, fun x hx => ?_, fun x hx e => ?_⟩
  · obtain ⟨j, hj, r, e, _⟩ := at1 _ h
    have e2 : ("." : Str).cps.toList = [46] := by decide +kernel
    rw [e2] at e
    have := (List.cons.inj e).1
    omega
  · rw [List.nodup_iff_pairwise_ne, List.pairwise_iff_getElem]
    intro i j hi hj hij e1
    have a := hn i zs[i] (List.getElem?_eq_getElem hi)
    have b := hn j zs[j] (List.getElem?_eq_getElem hj)
    rw [e1] at a
    have := a.inj b
    omega
  · obtain ⟨j, hj, h⟩ := at1 x hx
    exact (h.sh hj).ok
  · obtain ⟨j, hj, r, h, _⟩ := at1 x hx
    rw [e] at h
    cases h
/-! ### indexes -/
theorem tells_ixl {K : PySem.W.Frag} {H0 : Hp} {σ : L2.St} {t1 t2 : TE} {a : Addr} {xs : List V} {i : Nat} {v : V} (h1 : Tells H0 σ t1 (fun _ u => u = .ref a)) (h2 : Tells H0 σ t2 (fun _ u => u = .int i)) (ha : H0 a = some (.lst xs)) (hv : xs[i]? = some v) : Tells H0 σ (tOp (rIxL K) t1 t2) (fun _ u => u = v) := fun H Q s q =>
  h1 H _ s fun H1 u1 s1 e1 => h2 H1 _ (s.trans s1) fun H2 u2 s2 e2 => ⟨a, xs, i, v, e1, e2, SqL.of (s2 _ _ (s1 _ _ (s _ _ ha))), atI_nat hv, q H2 v (s1.trans s2) rfl⟩
theorem tells_add {H0 : Hp} {σ : L2.St} {t1 t2 : TE} {i j : Int} (h1 : Tells H0 σ t1 (fun _ u => u = .int i)) (h2 : Tells H0 σ t2 (fun _ u => u = .int j)) : Tells H0 σ (tOp (rI0 fun i j => .int (i + j)) t1 t2) (fun _ u => u = .int (i + j)) := fun H Q s q =>
  h1 H _ s fun H1 u1 s1 e1 => h2 H1 _ (s.trans s1) fun H2 u2 s2 e2 => ⟨i, j, e1, e2, q H2 _ (s1.trans s2) rfl⟩
theorem tells_cat {H0 : Hp} {σ : L2.St} {t1 t2 : TE} {r1 r2 : List Part} (h1 : Tells H0 σ t1 (fun H v => RowAt H r1 v)) (h2 : Tells H0 σ t2 (fun H v => RowAt H r2 v)) (n : r1.length + r2.length ≤ 1000) : Tells H0 σ (tOp rCatM t1 t2) (fun H v => RowAt H (r1 ++ r2) v) := fun H Q s q =>
  h1 H _ s fun H1 u1 s1 e1 => h2 H1 _ (s.trans s1) fun H2 u2 s2 e2 => by
    obtain ⟨a, xs, rfl, ha, hp⟩ := e1
    obtain ⟨b, ys, rfl, hb, hq⟩ := e2
    exact ⟨a, b, xs, ys, rfl, rfl, s2 _ _ ha, hb, by rw [PartsAt.len hp, PartsAt.len hq]; exact n, fun H3 c s3 hc => q H3 _ (s1.trans (s2.trans s3)) ⟨c, _, rfl, hc, parts_app (PartsAt.tup' (STup.of (s2.trans s3)) hp) (PartsAt.tup' (STup.of s3) hq)⟩⟩
where
  parts_app {H : Hp} : ∀ {r q : List Part} {xs ys : List V}, PartsAt H r xs → PartsAt H q ys → PartsAt H (r ++ q) (xs ++ ys)
  | [], _, _, _, h, g => by rw [show _ = [] from h]; exact g
  | _ :: _, _, _, _, ⟨v, us, e, h1, h2⟩, g => by rw [e]; exact ⟨v, _, rfl, h1, parts_app h2 g⟩
end Wk

set_option Elab.async false
set_option linter.all false
set_option maxRecDepth 100000
set_option maxHeartbeats 1000000
/-! The written houses of kinds. -/
namespace Wk
open PySem PySem.Spec PyProof.Rows L2 GxR
abbrev csW1 (a b : Str) : Cs := ⟨[.oth .room a [.oth .inn b []], .oth .room b []], [a, b], [], [(a, true, false, [b], "")]⟩
def kcW1 : KC := ⟨3, [(1, 0, 2)], [], [(1, true, false, [2], none)]⟩
theorem okW1 {a b : Str} (nd : (("." : Str) :: [a, b]).Nodup) (okn : ∀ x ∈ [a, b], PyData.strOk x = true) (ne : ∀ x ∈ [a, b], x ≠ "") : CsOk (csW1 a b) := by
  exact cs_code (k := kcW1) (lN := none) (FC := [1, 2, 2]) (BC := []) nd okn ne rfl (by decide) (Nat.le_of_ble_eq_true rfl) (Nat.le_of_ble_eq_true rfl) rfl rfl rfl (by simp [frR, frP, Wd.binds, io]) (by simp [bdR, bdP, Wd.binds, io]) (by decide +kernel) (by decide +kernel) (fun _ h => nomatch h) (fun q hq => nomatch hq)
abbrev csW2 (a b c : Str) : Cs := ⟨[.oth .room a [.oth .room b [.oth .out a [.oth .inn c []]]]], [a, b, c], [], [(b, true, false, [a, c], "")]⟩
def kcW2 : KC := ⟨4, [(2, 1, 1), (2, 0, 3)], [], [(2, true, false, [1, 3], none)]⟩
theorem okW2 {a b c : Str} (nd : (("." : Str) :: [a, b, c]).Nodup) (okn : ∀ x ∈ [a, b, c], PyData.strOk x = true) (ne : ∀ x ∈ [a, b, c], x ≠ "") : CsOk (csW2 a b c) := by
  exact cs_code (k := kcW2) (lN := none) (FC := [1, 2, 1, 3]) (BC := []) nd okn ne rfl (by decide) (Nat.le_of_ble_eq_true rfl) (Nat.le_of_ble_eq_true rfl) rfl rfl rfl (by simp [frR, frP, Wd.binds, io]) (by simp [bdR, bdP, Wd.binds, io]) (by decide +kernel) (by decide +kernel) (fun _ h => nomatch h) (fun q hq => nomatch hq)
abbrev csW3 (a b : Str) : Cs := ⟨[.oth .inn a [], .again [.oth .new b [.oth .out b []]]], [a, b], [], [(".", true, false, [a, b], "")]⟩
def kcW3 : KC := ⟨3, [(0, 0, 1), (0, 1, 2)], [], [(0, true, false, [1, 2], none)]⟩
theorem okW3 {a b : Str} (nd : (("." : Str) :: [a, b]).Nodup) (okn : ∀ x ∈ [a, b], PyData.strOk x = true) (ne : ∀ x ∈ [a, b], x ≠ "") : CsOk (csW3 a b) := by
  exact cs_code (k := kcW3) (lN := none) (FC := [1]) (BC := [2]) nd okn ne rfl (by decide) (Nat.le_of_ble_eq_true rfl) (Nat.le_of_ble_eq_true rfl) rfl rfl rfl (by simp [frR, frP, Wd.binds, io]) (by simp [bdR, bdP, Wd.binds, io]) (by decide +kernel) (by decide +kernel) (fun _ h => nomatch h) (fun q hq => nomatch hq)
abbrev csW4 (a b c : Str) : Cs := ⟨[.oth .room a [.oth .new b [.oth .room b []]], .say c], [a, b, c], [], [(".", false, false, [], c)]⟩
def kcW4 : KC := ⟨4, [(0, 3, 3)], [(0, 3)], [(0, false, false, [], some 3)]⟩
theorem okW4 {a b c : Str} (nd : (("." : Str) :: [a, b, c]).Nodup) (okn : ∀ x ∈ [a, b, c], PyData.strOk x = true) (ne : ∀ x ∈ [a, b, c], x ≠ "") : CsOk (csW4 a b c) := by
  have s0_3 : SyK (kcW4.u.map (decU ("." :: [a, b, c]))) (io ("." :: [a, b, c]) 0) (io ("." :: [a, b, c]) 3) := .use (w := decW 3) (List.mem_map.mpr ⟨(0, 3, 3), by decide, rfl⟩) (by decide +kernel)
  exact cs_code (k := kcW4) (lN := none) (FC := [1, 3]) (BC := [2]) nd okn ne rfl (by decide) (Nat.le_of_ble_eq_true rfl) (Nat.le_of_ble_eq_true rfl) rfl rfl rfl (by simp [frR, frP, Wd.binds, io]) (by simp [bdR, bdP, Wd.binds, io]) (by decide +kernel) (by decide +kernel) (fun _ h => nomatch h) (fun q hq => by
    simp only [show kcW4.s = [(0, 3)] from rfl, List.mem_cons, List.not_mem_nil, or_false] at hq
    rcases hq with rfl
    · exact s0_3
)
abbrev csO1 (a b c : Str) : Cs := ⟨[.oth .opn a [], .oth .room a [.oth .inn b [], .say c]], [a, b, c], [], [(".", true, false, [b], c), (a, true, true, [b], c)]⟩
def kcO1 : KC := ⟨4, [(0, 2, 1), (1, 0, 2), (1, 3, 3)], [(0, 3), (1, 3)], [(0, true, false, [2], some 3), (1, true, true, [2], some 3)]⟩
theorem okO1 {a b c : Str} (nd : (("." : Str) :: [a, b, c]).Nodup) (okn : ∀ x ∈ [a, b, c], PyData.strOk x = true) (ne : ∀ x ∈ [a, b, c], x ≠ "") : CsOk (csO1 a b c) := by
  have s0_3 : SyK (kcO1.u.map (decU ("." :: [a, b, c]))) (io ("." :: [a, b, c]) 0) (io ("." :: [a, b, c]) 3) := .opn (n := io _ 1) (List.mem_map.mpr ⟨(0, 2, 1), by decide, rfl⟩) (.use (w := decW 3) (List.mem_map.mpr ⟨(1, 3, 3), by decide, rfl⟩) (by decide +kernel))
  have s1_3 : SyK (kcO1.u.map (decU ("." :: [a, b, c]))) (io ("." :: [a, b, c]) 1) (io ("." :: [a, b, c]) 3) := .use (w := decW 3) (List.mem_map.mpr ⟨(1, 3, 3), by decide, rfl⟩) (by decide +kernel)
  exact cs_code (k := kcO1) (lN := none) (FC := [1, 1, 2, 3]) (BC := []) nd okn ne rfl (by decide) (Nat.le_of_ble_eq_true rfl) (Nat.le_of_ble_eq_true rfl) rfl rfl rfl (by simp [frR, frP, Wd.binds, io]) (by simp [bdR, bdP, Wd.binds, io]) (by decide +kernel) (by decide +kernel) (fun _ h => nomatch h) (fun q hq => by
    simp only [show kcO1.s = [(0, 3), (1, 3)] from rfl, List.mem_cons, List.not_mem_nil, or_false] at hq
    rcases hq with rfl | rfl
    · exact s0_3
    · exact s1_3
)
abbrev csO2 (a b c d : Str) : Cs := ⟨[.oth .room a [.oth .opn b [.oth .opn c []]], .oth .room c [.oth .out d []]], [a, b, c, d], [], [(a, true, false, [d], ""), (b, false, true, [], ""), (c, true, true, [d], "")]⟩
def kcO2 : KC := ⟨5, [(1, 2, 2), (1, 2, 3), (3, 1, 4)], [], [(1, true, false, [4], none), (2, false, true, [], none), (3, true, true, [4], none)]⟩
theorem okO2 {a b c d : Str} (nd : (("." : Str) :: [a, b, c, d]).Nodup) (okn : ∀ x ∈ [a, b, c, d], PyData.strOk x = true) (ne : ∀ x ∈ [a, b, c, d], x ≠ "") : CsOk (csO2 a b c d) := by
  exact cs_code (k := kcO2) (lN := none) (FC := [1, 2, 3, 3, 4]) (BC := []) nd okn ne rfl (by decide) (Nat.le_of_ble_eq_true rfl) (Nat.le_of_ble_eq_true rfl) rfl rfl rfl (by simp [frR, frP, Wd.binds, io]) (by simp [bdR, bdP, Wd.binds, io]) (by decide +kernel) (by decide +kernel) (fun _ h => nomatch h) (fun q hq => nomatch hq)
abbrev csO3 (a b c : Str) : Cs := ⟨[.oth .room a [.again [.oth .room b [], .oth .opn b []]], .oth .room b [.oth .opn c []], .oth .room c [.oth .inn a []]], [a, b, c], [], [(a, true, false, [a], ""), (b, true, true, [a], ""), (c, true, true, [a], "")]⟩
def kcO3 : KC := ⟨4, [(1, 2, 2), (2, 2, 3), (3, 0, 1)], [], [(1, true, false, [1], none), (2, true, true, [1], none), (3, true, true, [1], none)]⟩
theorem okO3 {a b c : Str} (nd : (("." : Str) :: [a, b, c]).Nodup) (okn : ∀ x ∈ [a, b, c], PyData.strOk x = true) (ne : ∀ x ∈ [a, b, c], x ≠ "") : CsOk (csO3 a b c) := by
  exact cs_code (k := kcO3) (lN := none) (FC := [1, 2, 2, 2, 3, 3, 1]) (BC := []) nd okn ne rfl (by decide) (Nat.le_of_ble_eq_true rfl) (Nat.le_of_ble_eq_true rfl) rfl rfl rfl (by simp [frR, frP, Wd.binds, io]) (by simp [bdR, bdP, Wd.binds, io]) (by decide +kernel) (by decide +kernel) (fun _ h => nomatch h) (fun q hq => nomatch hq)
abbrev csS1 (a b c d : Str) : Cs := ⟨[.say a, .say b, .oth .hear c [.oth .inn c []], .oth .room b [.oth .inn d []]], [a, b, c, d], [[a, b, c]], [(".", true, false, [a], a), (a, true, false, [d], "")]⟩
def kcS1 : KC := ⟨5, [(0, 3, 1), (0, 3, 2), (0, 4, 3), (0, 0, 3), (2, 0, 4)], [(0, 1)], [(0, true, false, [1], some 1), (1, true, false, [4], none)]⟩
theorem okS1 {a b c d : Str} (nd : (("." : Str) :: [a, b, c, d]).Nodup) (okn : ∀ x ∈ [a, b, c, d], PyData.strOk x = true) (ne : ∀ x ∈ [a, b, c, d], x ≠ "") : CsOk (csS1 a b c d) := by
  have a1 : SyK (kcS1.u.map (decU ("." :: [a, b, c, d]))) (io ("." :: [a, b, c, d]) 0) (io ("." :: [a, b, c, d]) 1) := .use (w := decW 3) (List.mem_map.mpr ⟨(0, 3, 1), by decide, rfl⟩) (by decide +kernel)
  have a2 : SyK (kcS1.u.map (decU ("." :: [a, b, c, d]))) (io ("." :: [a, b, c, d]) 0) (io ("." :: [a, b, c, d]) 2) := .use (w := decW 3) (List.mem_map.mpr ⟨(0, 3, 2), by decide, rfl⟩) (by decide +kernel)
  have a3 : SyK (kcS1.u.map (decU ("." :: [a, b, c, d]))) (io ("." :: [a, b, c, d]) 0) (io ("." :: [a, b, c, d]) 3) := .use (w := decW 4) (List.mem_map.mpr ⟨(0, 4, 3), by decide, rfl⟩) (by decide +kernel)
  have al : ∀ x ∈ [1, 2, 3], SyK (kcS1.u.map (decU ("." :: [a, b, c, d]))) (io ("." :: [a, b, c, d]) 0) (io ("." :: [a, b, c, d]) x) := fun x hx => by
    simp only [List.mem_cons, List.not_mem_nil, or_false] at hx
    rcases hx with rfl | rfl | rfl
    · exact a1
    · exact a2
    · exact a3
  have s0_1 : SyK (kcS1.u.map (decU ("." :: [a, b, c, d]))) (io ("." :: [a, b, c, d]) 0) (io ("." :: [a, b, c, d]) 1) := .use (w := decW 3) (List.mem_map.mpr ⟨(0, 3, 1), by decide, rfl⟩) (by decide +kernel)
  exact cs_code (k := kcS1) (lN := some [1, 2, 3]) (FC := [1, 2, 2, 4]) (BC := [3]) nd okn ne rfl (by decide) (Nat.le_of_ble_eq_true rfl) (Nat.le_of_ble_eq_true rfl) rfl rfl rfl (by simp [frR, frP, Wd.binds, io]) (by simp [bdR, bdP, Wd.binds, io]) (by decide +kernel) (by decide +kernel) (fun _ h x hx y hy => by cases h; exact .say (al x hx) (al y hy)) (fun q hq => by
    simp only [show kcS1.s = [(0, 1)] from rfl, List.mem_cons, List.not_mem_nil, or_false] at hq
    rcases hq with rfl
    · exact s0_1
)
abbrev csS2 (a b c d : Str) : Cs := ⟨[.oth .room a [.say b, .oth .opn d []], .oth .room d [.say c]], [a, b, c, d], [[b, c]], [(a, false, false, [], b), (d, false, true, [], b)]⟩
def kcS2 : KC := ⟨5, [(1, 3, 2), (1, 2, 4), (4, 3, 3)], [(1, 2), (4, 2)], [(1, false, false, [], some 2), (4, false, true, [], some 2)]⟩
theorem okS2 {a b c d : Str} (nd : (("." : Str) :: [a, b, c, d]).Nodup) (okn : ∀ x ∈ [a, b, c, d], PyData.strOk x = true) (ne : ∀ x ∈ [a, b, c, d], x ≠ "") : CsOk (csS2 a b c d) := by
  have a2 : SyK (kcS2.u.map (decU ("." :: [a, b, c, d]))) (io ("." :: [a, b, c, d]) 1) (io ("." :: [a, b, c, d]) 2) := .use (w := decW 3) (List.mem_map.mpr ⟨(1, 3, 2), by decide, rfl⟩) (by decide +kernel)
  have a3 : SyK (kcS2.u.map (decU ("." :: [a, b, c, d]))) (io ("." :: [a, b, c, d]) 1) (io ("." :: [a, b, c, d]) 3) := .opn (n := io _ 4) (List.mem_map.mpr ⟨(1, 2, 4), by decide, rfl⟩) (.use (w := decW 3) (List.mem_map.mpr ⟨(4, 3, 3), by decide, rfl⟩) (by decide +kernel))
  have al : ∀ x ∈ [2, 3], SyK (kcS2.u.map (decU ("." :: [a, b, c, d]))) (io ("." :: [a, b, c, d]) 1) (io ("." :: [a, b, c, d]) x) := fun x hx => by
    simp only [List.mem_cons, List.not_mem_nil, or_false] at hx
    rcases hx with rfl | rfl
    · exact a2
    · exact a3
  have s1_2 : SyK (kcS2.u.map (decU ("." :: [a, b, c, d]))) (io ("." :: [a, b, c, d]) 1) (io ("." :: [a, b, c, d]) 2) := .use (w := decW 3) (List.mem_map.mpr ⟨(1, 3, 2), by decide, rfl⟩) (by decide +kernel)
  have s4_2 : SyK (kcS2.u.map (decU ("." :: [a, b, c, d]))) (io ("." :: [a, b, c, d]) 4) (io ("." :: [a, b, c, d]) 2) := .smr (m := io _ 3) (.use (w := decW 3) (List.mem_map.mpr ⟨(4, 3, 3), by decide, rfl⟩) (by decide +kernel)) (.say a3 a2)
  exact cs_code (k := kcS2) (lN := some [2, 3]) (FC := [1, 2, 4, 4, 3]) (BC := []) nd okn ne rfl (by decide) (Nat.le_of_ble_eq_true rfl) (Nat.le_of_ble_eq_true rfl) rfl rfl rfl (by simp [frR, frP, Wd.binds, io]) (by simp [bdR, bdP, Wd.binds, io]) (by decide +kernel) (by decide +kernel) (fun _ h x hx y hy => by cases h; exact .say (al x hx) (al y hy)) (fun q hq => by
    simp only [show kcS2.s = [(1, 2), (4, 2)] from rfl, List.mem_cons, List.not_mem_nil, or_false] at hq
    rcases hq with rfl | rfl
    · exact s1_2
    · exact s4_2
)
abbrev cs_walking (a b c : Str) : List Cs := [csW1 a b, csW2 a b c, csW3 a b, csW4 a b c]
def sp_walking : Sp := fun vs H Q _ => ∃ (a b c : Str), vs = [.str a, .str b, .str c] ∧ ∀ H' v, Same H H' → LsAt CaseAt (cs_walking a b c) H' v → Q v H'
abbrev cs_opening (a b c d : Str) : List Cs := [csO1 a b c, csO2 a b c d, csO3 a b c]
def sp_opening : Sp := fun vs H Q _ => ∃ (a b c d : Str), vs = [.str a, .str b, .str c, .str d] ∧ ∀ H' v, Same H H' → LsAt CaseAt (cs_opening a b c d) H' v → Q v H'
abbrev cs_saying (a b c d : Str) : List Cs := [csS1 a b c d, csS2 a b c d]
def sp_saying : Sp := fun vs H Q _ => ∃ (a b c d : Str), vs = [.str a, .str b, .str c, .str d] ∧ ∀ H' v, Same H H' → LsAt CaseAt (cs_saying a b c d) H' v → Q v H'
end Wk

set_option Elab.async false
set_option linter.all false
set_option maxRecDepth 100000
set_option maxHeartbeats 1000000
namespace K52
open PySem PySem.Spec PyProof.Rows L2 Wk GxR
abbrev sWalking : Stmt := topS 26
theorem scWalking : FnScope ["_law_a", "_law_b", "_law_c"] ["_law_a", "_law_b", "_law_c"] (defScope sWalking) := ⟨rfl, rfl, rfl, by decide +kernel, rfl, by decide +kernel, by decide +kernel⟩
abbrev sOpening : Stmt := topS 27
theorem scOpening : FnScope ["_law_a", "_law_b", "_law_c", "_law_d"] ["_law_a", "_law_b", "_law_c", "_law_d"] (defScope sOpening) := ⟨rfl, rfl, rfl, by decide +kernel, rfl, by decide +kernel, by decide +kernel⟩
abbrev sSaying : Stmt := topS 28
theorem scSaying : FnScope ["_law_a", "_law_b", "_law_c", "_law_d"] ["_law_a", "_law_b", "_law_c", "_law_d"] (defScope sSaying) := ⟨rfl, rfl, rfl, by decide +kernel, rfl, by decide +kernel, by decide +kernel⟩
section
variable {P : Program} {w : World} {K : PySem.W.Frag} {mg : Str → Option Value} {base : Heap}
theorem ok_walking {f : Addr} {fd : FuncData} {k : Nat} (F : Fun K "_law_walking" "_law_walking" sWalking f fd) : FnOk P w K mg base CX0 (k + 1) f fd ["_law_a", "_law_b", "_law_c"] sp_walking := by
  refine F.ok scWalking (fun vs H Q E h => ?_) (fun cdv A outer s H vs Q E hr h => ?_)
  · obtain ⟨_, _, _, rfl, _⟩ := h
    rfl
  obtain ⟨a, b, c, rfl, q⟩ := h
  refine ⟨_, pss_one (ps_ret (pe_lst (pa_cons (pe_lst (pa_cons (pe_tup (pa_cons (pe_tup (pa_cons pe_str (pa_cons (pv 0) (pa_cons (pe_tup (pa_cons (pe_tup (pa_cons pe_str (pa_cons (pv 1) (pa_cons (pe_tup pa_nil) pa_nil)))) pa_nil)) pa_nil)))) (pa_cons (pe_tup (pa_cons pe_str (pa_cons (pv 1) (pa_cons (pe_tup pa_nil) pa_nil)))) pa_nil))) (pa_cons (pe_lst (pa_cons (pv 0) (pa_cons (pv 1) pa_nil))) (pa_cons (pe_lst pa_nil) (pa_cons (pe_lst (pa_cons (pe_tup (pa_cons (pv 0) (pa_cons pe_bl (pa_cons pe_bl (pa_cons (pe_lst (pa_cons (pv 1) pa_nil)) (pa_cons pe_str pa_nil)))))) pa_nil)) pa_nil))))) (pa_cons (pe_lst (pa_cons (pe_tup (pa_cons (pe_tup (pa_cons pe_str (pa_cons (pv 0) (pa_cons (pe_tup (pa_cons (pe_tup (pa_cons pe_str (pa_cons (pv 1) (pa_cons (pe_tup (pa_cons (pe_tup (pa_cons pe_str (pa_cons (pv 0) (pa_cons (pe_tup (pa_cons (pe_tup (pa_cons pe_str (pa_cons (pv 2) (pa_cons (pe_tup pa_nil) pa_nil)))) pa_nil)) pa_nil)))) pa_nil)) pa_nil)))) pa_nil)) pa_nil)))) pa_nil)) (pa_cons (pe_lst (pa_cons (pv 0) (pa_cons (pv 1) (pa_cons (pv 2) pa_nil)))) (pa_cons (pe_lst pa_nil) (pa_cons (pe_lst (pa_cons (pe_tup (pa_cons (pv 1) (pa_cons pe_bl (pa_cons pe_bl (pa_cons (pe_lst (pa_cons (pv 0) (pa_cons (pv 2) pa_nil))) (pa_cons pe_str pa_nil)))))) pa_nil)) pa_nil))))) (pa_cons (pe_lst (pa_cons (pe_tup (pa_cons (pe_tup (pa_cons pe_str (pa_cons (pv 0) (pa_cons (pe_tup pa_nil) pa_nil)))) (pa_cons (pe_tup (pa_cons pe_str (pa_cons (pe_tup (pa_cons (pe_tup (pa_cons pe_str (pa_cons (pv 1) (pa_cons (pe_tup (pa_cons (pe_tup (pa_cons pe_str (pa_cons (pv 1) (pa_cons (pe_tup pa_nil) pa_nil)))) pa_nil)) pa_nil)))) pa_nil)) pa_nil))) pa_nil))) (pa_cons (pe_lst (pa_cons (pv 0) (pa_cons (pv 1) pa_nil))) (pa_cons (pe_lst pa_nil) (pa_cons (pe_lst (pa_cons (pe_tup (pa_cons pe_str (pa_cons pe_bl (pa_cons pe_bl (pa_cons (pe_lst (pa_cons (pv 0) (pa_cons (pv 1) pa_nil))) (pa_cons pe_str pa_nil)))))) pa_nil)) pa_nil))))) (pa_cons (pe_lst (pa_cons (pe_tup (pa_cons (pe_tup (pa_cons pe_str (pa_cons (pv 0) (pa_cons (pe_tup (pa_cons (pe_tup (pa_cons pe_str (pa_cons (pv 1) (pa_cons (pe_tup (pa_cons (pe_tup (pa_cons pe_str (pa_cons (pv 1) (pa_cons (pe_tup pa_nil) pa_nil)))) pa_nil)) pa_nil)))) pa_nil)) pa_nil)))) (pa_cons (pe_tup (pa_cons pe_str (pa_cons (pv 2) pa_nil))) pa_nil))) (pa_cons (pe_lst (pa_cons (pv 0) (pa_cons (pv 1) (pa_cons (pv 2) pa_nil)))) (pa_cons (pe_lst pa_nil) (pa_cons (pe_lst (pa_cons (pe_tup (pa_cons pe_str (pa_cons pe_bl (pa_cons pe_bl (pa_cons (pe_lst pa_nil) (pa_cons (pv 2) pa_nil)))))) pa_nil)) pa_nil))))) pa_nil)))))), ?_⟩
  have T : Tells H (L2.start ["_law_a", "_law_b", "_law_c"] [V.str a, V.str b, V.str c]) _ (LsAt CaseAt (cs_walking a b c)) := (tells_ls stb_case (ls_cons stb_case (tells_case (tells_row (parts_cons (tells_othS "room" .room wd_room (tells_c _) (tells_var (i := 0) rfl fun _ _ => rfl) (tells_row (parts_cons (tells_othS "in" .inn wd_inn (tells_c _) (tells_var (i := 1) rfl fun _ _ => rfl) (tells_row parts_nil (Nat.le_of_ble_eq_true rfl))) parts_nil) (Nat.le_of_ble_eq_true rfl))) (parts_cons (tells_othS "room" .room wd_room (tells_c _) (tells_var (i := 1) rfl fun _ _ => rfl) (tells_row parts_nil (Nat.le_of_ble_eq_true rfl))) parts_nil)) (Nat.le_of_ble_eq_true rfl)) (tells_txs (txs_cons (tells_var (i := 0) rfl fun _ _ => rfl) (txs_cons (tells_var (i := 1) rfl fun _ _ => rfl) txs_nil)) (Nat.le_of_ble_eq_true rfl)) (tells_ls stb_txs ls_nil (Nat.le_of_ble_eq_true rfl)) (tells_ls stb_ru (ls_cons stb_ru (tells_ru (tells_var (i := 0) rfl fun _ _ => rfl) (tells_c (.bl true)) (tells_c (.bl false)) (tells_txs (txs_cons (tells_var (i := 1) rfl fun _ _ => rfl) txs_nil) (Nat.le_of_ble_eq_true rfl)) (tells_c (.str ""))) ls_nil) (Nat.le_of_ble_eq_true rfl))) (ls_cons stb_case (tells_case (tells_row (parts_cons (tells_othS "room" .room wd_room (tells_c _) (tells_var (i := 0) rfl fun _ _ => rfl) (tells_row (parts_cons (tells_othS "room" .room wd_room (tells_c _) (tells_var (i := 1) rfl fun _ _ => rfl) (tells_row (parts_cons (tells_othS "out" .out wd_out (tells_c _) (tells_var (i := 0) rfl fun _ _ => rfl) (tells_row (parts_cons (tells_othS "in" .inn wd_inn (tells_c _) (tells_var (i := 2) rfl fun _ _ => rfl) (tells_row parts_nil (Nat.le_of_ble_eq_true rfl))) parts_nil) (Nat.le_of_ble_eq_true rfl))) parts_nil) (Nat.le_of_ble_eq_true rfl))) parts_nil) (Nat.le_of_ble_eq_true rfl))) parts_nil) (Nat.le_of_ble_eq_true rfl)) (tells_txs (txs_cons (tells_var (i := 0) rfl fun _ _ => rfl) (txs_cons (tells_var (i := 1) rfl fun _ _ => rfl) (txs_cons (tells_var (i := 2) rfl fun _ _ => rfl) txs_nil))) (Nat.le_of_ble_eq_true rfl)) (tells_ls stb_txs ls_nil (Nat.le_of_ble_eq_true rfl)) (tells_ls stb_ru (ls_cons stb_ru (tells_ru (tells_var (i := 1) rfl fun _ _ => rfl) (tells_c (.bl true)) (tells_c (.bl false)) (tells_txs (txs_cons (tells_var (i := 0) rfl fun _ _ => rfl) (txs_cons (tells_var (i := 2) rfl fun _ _ => rfl) txs_nil)) (Nat.le_of_ble_eq_true rfl)) (tells_c (.str ""))) ls_nil) (Nat.le_of_ble_eq_true rfl))) (ls_cons stb_case (tells_case (tells_row (parts_cons (tells_othS "in" .inn wd_inn (tells_c _) (tells_var (i := 0) rfl fun _ _ => rfl) (tells_row parts_nil (Nat.le_of_ble_eq_true rfl))) (parts_cons (tells_again (tells_c _) (tells_row (parts_cons (tells_othS "new" .new wd_new (tells_c _) (tells_var (i := 1) rfl fun _ _ => rfl) (tells_row (parts_cons (tells_othS "out" .out wd_out (tells_c _) (tells_var (i := 1) rfl fun _ _ => rfl) (tells_row parts_nil (Nat.le_of_ble_eq_true rfl))) parts_nil) (Nat.le_of_ble_eq_true rfl))) parts_nil) (Nat.le_of_ble_eq_true rfl))) parts_nil)) (Nat.le_of_ble_eq_true rfl)) (tells_txs (txs_cons (tells_var (i := 0) rfl fun _ _ => rfl) (txs_cons (tells_var (i := 1) rfl fun _ _ => rfl) txs_nil)) (Nat.le_of_ble_eq_true rfl)) (tells_ls stb_txs ls_nil (Nat.le_of_ble_eq_true rfl)) (tells_ls stb_ru (ls_cons stb_ru (tells_ru (tells_c (.str ".")) (tells_c (.bl true)) (tells_c (.bl false)) (tells_txs (txs_cons (tells_var (i := 0) rfl fun _ _ => rfl) (txs_cons (tells_var (i := 1) rfl fun _ _ => rfl) txs_nil)) (Nat.le_of_ble_eq_true rfl)) (tells_c (.str ""))) ls_nil) (Nat.le_of_ble_eq_true rfl))) (ls_cons stb_case (tells_case (tells_row (parts_cons (tells_othS "room" .room wd_room (tells_c _) (tells_var (i := 0) rfl fun _ _ => rfl) (tells_row (parts_cons (tells_othS "new" .new wd_new (tells_c _) (tells_var (i := 1) rfl fun _ _ => rfl) (tells_row (parts_cons (tells_othS "room" .room wd_room (tells_c _) (tells_var (i := 1) rfl fun _ _ => rfl) (tells_row parts_nil (Nat.le_of_ble_eq_true rfl))) parts_nil) (Nat.le_of_ble_eq_true rfl))) parts_nil) (Nat.le_of_ble_eq_true rfl))) (parts_cons (tells_say (tells_c _) (tells_var (i := 2) rfl fun _ _ => rfl)) parts_nil)) (Nat.le_of_ble_eq_true rfl)) (tells_txs (txs_cons (tells_var (i := 0) rfl fun _ _ => rfl) (txs_cons (tells_var (i := 1) rfl fun _ _ => rfl) (txs_cons (tells_var (i := 2) rfl fun _ _ => rfl) txs_nil))) (Nat.le_of_ble_eq_true rfl)) (tells_ls stb_txs ls_nil (Nat.le_of_ble_eq_true rfl)) (tells_ls stb_ru (ls_cons stb_ru (tells_ru (tells_c (.str ".")) (tells_c (.bl false)) (tells_c (.bl false)) (tells_txs txs_nil (Nat.le_of_ble_eq_true rfl)) (tells_var (i := 2) rfl fun _ _ => rfl)) ls_nil) (Nat.le_of_ble_eq_true rfl))) ls_nil)))) (Nat.le_of_ble_eq_true rfl))
  exact T.ret fun H' v sm hv => q H' v sm hv
theorem ok_opening {f : Addr} {fd : FuncData} {k : Nat} (F : Fun K "_law_opening" "_law_opening" sOpening f fd) : FnOk P w K mg base CX0 (k + 1) f fd ["_law_a", "_law_b", "_law_c", "_law_d"] sp_opening := by
  refine F.ok scOpening (fun vs H Q E h => ?_) (fun cdv A outer s H vs Q E hr h => ?_)
  · obtain ⟨_, _, _, _, rfl, _⟩ := h
    rfl
  obtain ⟨a, b, c, d, rfl, q⟩ := h
  refine ⟨_, pss_one (ps_ret (pe_lst (pa_cons (pe_lst (pa_cons (pe_tup (pa_cons (pe_tup (pa_cons pe_str (pa_cons (pv 0) (pa_cons (pe_tup pa_nil) pa_nil)))) (pa_cons (pe_tup (pa_cons pe_str (pa_cons (pv 0) (pa_cons (pe_tup (pa_cons (pe_tup (pa_cons pe_str (pa_cons (pv 1) (pa_cons (pe_tup pa_nil) pa_nil)))) (pa_cons (pe_tup (pa_cons pe_str (pa_cons (pv 2) pa_nil))) pa_nil))) pa_nil)))) pa_nil))) (pa_cons (pe_lst (pa_cons (pv 0) (pa_cons (pv 1) (pa_cons (pv 2) pa_nil)))) (pa_cons (pe_lst pa_nil) (pa_cons (pe_lst (pa_cons (pe_tup (pa_cons pe_str (pa_cons pe_bl (pa_cons pe_bl (pa_cons (pe_lst (pa_cons (pv 1) pa_nil)) (pa_cons (pv 2) pa_nil)))))) (pa_cons (pe_tup (pa_cons (pv 0) (pa_cons pe_bl (pa_cons pe_bl (pa_cons (pe_lst (pa_cons (pv 1) pa_nil)) (pa_cons (pv 2) pa_nil)))))) pa_nil))) pa_nil))))) (pa_cons (pe_lst (pa_cons (pe_tup (pa_cons (pe_tup (pa_cons pe_str (pa_cons (pv 0) (pa_cons (pe_tup (pa_cons (pe_tup (pa_cons pe_str (pa_cons (pv 1) (pa_cons (pe_tup (pa_cons (pe_tup (pa_cons pe_str (pa_cons (pv 2) (pa_cons (pe_tup pa_nil) pa_nil)))) pa_nil)) pa_nil)))) pa_nil)) pa_nil)))) (pa_cons (pe_tup (pa_cons pe_str (pa_cons (pv 2) (pa_cons (pe_tup (pa_cons (pe_tup (pa_cons pe_str (pa_cons (pv 3) (pa_cons (pe_tup pa_nil) pa_nil)))) pa_nil)) pa_nil)))) pa_nil))) (pa_cons (pe_lst (pa_cons (pv 0) (pa_cons (pv 1) (pa_cons (pv 2) (pa_cons (pv 3) pa_nil))))) (pa_cons (pe_lst pa_nil) (pa_cons (pe_lst (pa_cons (pe_tup (pa_cons (pv 0) (pa_cons pe_bl (pa_cons pe_bl (pa_cons (pe_lst (pa_cons (pv 3) pa_nil)) (pa_cons pe_str pa_nil)))))) (pa_cons (pe_tup (pa_cons (pv 1) (pa_cons pe_bl (pa_cons pe_bl (pa_cons (pe_lst pa_nil) (pa_cons pe_str pa_nil)))))) (pa_cons (pe_tup (pa_cons (pv 2) (pa_cons pe_bl (pa_cons pe_bl (pa_cons (pe_lst (pa_cons (pv 3) pa_nil)) (pa_cons pe_str pa_nil)))))) pa_nil)))) pa_nil))))) (pa_cons (pe_lst (pa_cons (pe_tup (pa_cons (pe_tup (pa_cons pe_str (pa_cons (pv 0) (pa_cons (pe_tup (pa_cons (pe_tup (pa_cons pe_str (pa_cons (pe_tup (pa_cons (pe_tup (pa_cons pe_str (pa_cons (pv 1) (pa_cons (pe_tup pa_nil) pa_nil)))) (pa_cons (pe_tup (pa_cons pe_str (pa_cons (pv 1) (pa_cons (pe_tup pa_nil) pa_nil)))) pa_nil))) pa_nil))) pa_nil)) pa_nil)))) (pa_cons (pe_tup (pa_cons pe_str (pa_cons (pv 1) (pa_cons (pe_tup (pa_cons (pe_tup (pa_cons pe_str (pa_cons (pv 2) (pa_cons (pe_tup pa_nil) pa_nil)))) pa_nil)) pa_nil)))) (pa_cons (pe_tup (pa_cons pe_str (pa_cons (pv 2) (pa_cons (pe_tup (pa_cons (pe_tup (pa_cons pe_str (pa_cons (pv 0) (pa_cons (pe_tup pa_nil) pa_nil)))) pa_nil)) pa_nil)))) pa_nil)))) (pa_cons (pe_lst (pa_cons (pv 0) (pa_cons (pv 1) (pa_cons (pv 2) pa_nil)))) (pa_cons (pe_lst pa_nil) (pa_cons (pe_lst (pa_cons (pe_tup (pa_cons (pv 0) (pa_cons pe_bl (pa_cons pe_bl (pa_cons (pe_lst (pa_cons (pv 0) pa_nil)) (pa_cons pe_str pa_nil)))))) (pa_cons (pe_tup (pa_cons (pv 1) (pa_cons pe_bl (pa_cons pe_bl (pa_cons (pe_lst (pa_cons (pv 0) pa_nil)) (pa_cons pe_str pa_nil)))))) (pa_cons (pe_tup (pa_cons (pv 2) (pa_cons pe_bl (pa_cons pe_bl (pa_cons (pe_lst (pa_cons (pv 0) pa_nil)) (pa_cons pe_str pa_nil)))))) pa_nil)))) pa_nil))))) pa_nil))))), ?_⟩
  have T : Tells H (L2.start ["_law_a", "_law_b", "_law_c", "_law_d"] [V.str a, V.str b, V.str c, V.str d]) _ (LsAt CaseAt (cs_opening a b c d)) := (tells_ls stb_case (ls_cons stb_case (tells_case (tells_row (parts_cons (tells_othS "open" .opn wd_opn (tells_c _) (tells_var (i := 0) rfl fun _ _ => rfl) (tells_row parts_nil (Nat.le_of_ble_eq_true rfl))) (parts_cons (tells_othS "room" .room wd_room (tells_c _) (tells_var (i := 0) rfl fun _ _ => rfl) (tells_row (parts_cons (tells_othS "in" .inn wd_inn (tells_c _) (tells_var (i := 1) rfl fun _ _ => rfl) (tells_row parts_nil (Nat.le_of_ble_eq_true rfl))) (parts_cons (tells_say (tells_c _) (tells_var (i := 2) rfl fun _ _ => rfl)) parts_nil)) (Nat.le_of_ble_eq_true rfl))) parts_nil)) (Nat.le_of_ble_eq_true rfl)) (tells_txs (txs_cons (tells_var (i := 0) rfl fun _ _ => rfl) (txs_cons (tells_var (i := 1) rfl fun _ _ => rfl) (txs_cons (tells_var (i := 2) rfl fun _ _ => rfl) txs_nil))) (Nat.le_of_ble_eq_true rfl)) (tells_ls stb_txs ls_nil (Nat.le_of_ble_eq_true rfl)) (tells_ls stb_ru (ls_cons stb_ru (tells_ru (tells_c (.str ".")) (tells_c (.bl true)) (tells_c (.bl false)) (tells_txs (txs_cons (tells_var (i := 1) rfl fun _ _ => rfl) txs_nil) (Nat.le_of_ble_eq_true rfl)) (tells_var (i := 2) rfl fun _ _ => rfl)) (ls_cons stb_ru (tells_ru (tells_var (i := 0) rfl fun _ _ => rfl) (tells_c (.bl true)) (tells_c (.bl true)) (tells_txs (txs_cons (tells_var (i := 1) rfl fun _ _ => rfl) txs_nil) (Nat.le_of_ble_eq_true rfl)) (tells_var (i := 2) rfl fun _ _ => rfl)) ls_nil)) (Nat.le_of_ble_eq_true rfl))) (ls_cons stb_case (tells_case (tells_row (parts_cons (tells_othS "room" .room wd_room (tells_c _) (tells_var (i := 0) rfl fun _ _ => rfl) (tells_row (parts_cons (tells_othS "open" .opn wd_opn (tells_c _) (tells_var (i := 1) rfl fun _ _ => rfl) (tells_row (parts_cons (tells_othS "open" .opn wd_opn (tells_c _) (tells_var (i := 2) rfl fun _ _ => rfl) (tells_row parts_nil (Nat.le_of_ble_eq_true rfl))) parts_nil) (Nat.le_of_ble_eq_true rfl))) parts_nil) (Nat.le_of_ble_eq_true rfl))) (parts_cons (tells_othS "room" .room wd_room (tells_c _) (tells_var (i := 2) rfl fun _ _ => rfl) (tells_row (parts_cons (tells_othS "out" .out wd_out (tells_c _) (tells_var (i := 3) rfl fun _ _ => rfl) (tells_row parts_nil (Nat.le_of_ble_eq_true rfl))) parts_nil) (Nat.le_of_ble_eq_true rfl))) parts_nil)) (Nat.le_of_ble_eq_true rfl)) (tells_txs (txs_cons (tells_var (i := 0) rfl fun _ _ => rfl) (txs_cons (tells_var (i := 1) rfl fun _ _ => rfl) (txs_cons (tells_var (i := 2) rfl fun _ _ => rfl) (txs_cons (tells_var (i := 3) rfl fun _ _ => rfl) txs_nil)))) (Nat.le_of_ble_eq_true rfl)) (tells_ls stb_txs ls_nil (Nat.le_of_ble_eq_true rfl)) (tells_ls stb_ru (ls_cons stb_ru (tells_ru (tells_var (i := 0) rfl fun _ _ => rfl) (tells_c (.bl true)) (tells_c (.bl false)) (tells_txs (txs_cons (tells_var (i := 3) rfl fun _ _ => rfl) txs_nil) (Nat.le_of_ble_eq_true rfl)) (tells_c (.str ""))) (ls_cons stb_ru (tells_ru (tells_var (i := 1) rfl fun _ _ => rfl) (tells_c (.bl false)) (tells_c (.bl true)) (tells_txs txs_nil (Nat.le_of_ble_eq_true rfl)) (tells_c (.str ""))) (ls_cons stb_ru (tells_ru (tells_var (i := 2) rfl fun _ _ => rfl) (tells_c (.bl true)) (tells_c (.bl true)) (tells_txs (txs_cons (tells_var (i := 3) rfl fun _ _ => rfl) txs_nil) (Nat.le_of_ble_eq_true rfl)) (tells_c (.str ""))) ls_nil))) (Nat.le_of_ble_eq_true rfl))) (ls_cons stb_case (tells_case (tells_row (parts_cons (tells_othS "room" .room wd_room (tells_c _) (tells_var (i := 0) rfl fun _ _ => rfl) (tells_row (parts_cons (tells_again (tells_c _) (tells_row (parts_cons (tells_othS "room" .room wd_room (tells_c _) (tells_var (i := 1) rfl fun _ _ => rfl) (tells_row parts_nil (Nat.le_of_ble_eq_true rfl))) (parts_cons (tells_othS "open" .opn wd_opn (tells_c _) (tells_var (i := 1) rfl fun _ _ => rfl) (tells_row parts_nil (Nat.le_of_ble_eq_true rfl))) parts_nil)) (Nat.le_of_ble_eq_true rfl))) parts_nil) (Nat.le_of_ble_eq_true rfl))) (parts_cons (tells_othS "room" .room wd_room (tells_c _) (tells_var (i := 1) rfl fun _ _ => rfl) (tells_row (parts_cons (tells_othS "open" .opn wd_opn (tells_c _) (tells_var (i := 2) rfl fun _ _ => rfl) (tells_row parts_nil (Nat.le_of_ble_eq_true rfl))) parts_nil) (Nat.le_of_ble_eq_true rfl))) (parts_cons (tells_othS "room" .room wd_room (tells_c _) (tells_var (i := 2) rfl fun _ _ => rfl) (tells_row (parts_cons (tells_othS "in" .inn wd_inn (tells_c _) (tells_var (i := 0) rfl fun _ _ => rfl) (tells_row parts_nil (Nat.le_of_ble_eq_true rfl))) parts_nil) (Nat.le_of_ble_eq_true rfl))) parts_nil))) (Nat.le_of_ble_eq_true rfl)) (tells_txs (txs_cons (tells_var (i := 0) rfl fun _ _ => rfl) (txs_cons (tells_var (i := 1) rfl fun _ _ => rfl) (txs_cons (tells_var (i := 2) rfl fun _ _ => rfl) txs_nil))) (Nat.le_of_ble_eq_true rfl)) (tells_ls stb_txs ls_nil (Nat.le_of_ble_eq_true rfl)) (tells_ls stb_ru (ls_cons stb_ru (tells_ru (tells_var (i := 0) rfl fun _ _ => rfl) (tells_c (.bl true)) (tells_c (.bl false)) (tells_txs (txs_cons (tells_var (i := 0) rfl fun _ _ => rfl) txs_nil) (Nat.le_of_ble_eq_true rfl)) (tells_c (.str ""))) (ls_cons stb_ru (tells_ru (tells_var (i := 1) rfl fun _ _ => rfl) (tells_c (.bl true)) (tells_c (.bl true)) (tells_txs (txs_cons (tells_var (i := 0) rfl fun _ _ => rfl) txs_nil) (Nat.le_of_ble_eq_true rfl)) (tells_c (.str ""))) (ls_cons stb_ru (tells_ru (tells_var (i := 2) rfl fun _ _ => rfl) (tells_c (.bl true)) (tells_c (.bl true)) (tells_txs (txs_cons (tells_var (i := 0) rfl fun _ _ => rfl) txs_nil) (Nat.le_of_ble_eq_true rfl)) (tells_c (.str ""))) ls_nil))) (Nat.le_of_ble_eq_true rfl))) ls_nil))) (Nat.le_of_ble_eq_true rfl))
  exact T.ret fun H' v sm hv => q H' v sm hv
theorem ok_saying {f : Addr} {fd : FuncData} {k : Nat} (F : Fun K "_law_saying" "_law_saying" sSaying f fd) : FnOk P w K mg base CX0 (k + 1) f fd ["_law_a", "_law_b", "_law_c", "_law_d"] sp_saying := by
  refine F.ok scSaying (fun vs H Q E h => ?_) (fun cdv A outer s H vs Q E hr h => ?_)
  · obtain ⟨_, _, _, _, rfl, _⟩ := h
    rfl
  obtain ⟨a, b, c, d, rfl, q⟩ := h
  refine ⟨_, pss_one (ps_ret (pe_lst (pa_cons (pe_lst (pa_cons (pe_tup (pa_cons (pe_tup (pa_cons pe_str (pa_cons (pv 0) pa_nil))) (pa_cons (pe_tup (pa_cons pe_str (pa_cons (pv 1) pa_nil))) (pa_cons (pe_tup (pa_cons pe_str (pa_cons (pv 2) (pa_cons (pe_tup (pa_cons (pe_tup (pa_cons pe_str (pa_cons (pv 2) (pa_cons (pe_tup pa_nil) pa_nil)))) pa_nil)) pa_nil)))) (pa_cons (pe_tup (pa_cons pe_str (pa_cons (pv 1) (pa_cons (pe_tup (pa_cons (pe_tup (pa_cons pe_str (pa_cons (pv 3) (pa_cons (pe_tup pa_nil) pa_nil)))) pa_nil)) pa_nil)))) pa_nil))))) (pa_cons (pe_lst (pa_cons (pv 0) (pa_cons (pv 1) (pa_cons (pv 2) (pa_cons (pv 3) pa_nil))))) (pa_cons (pe_lst (pa_cons (pe_lst (pa_cons (pv 0) (pa_cons (pv 1) (pa_cons (pv 2) pa_nil)))) pa_nil)) (pa_cons (pe_lst (pa_cons (pe_tup (pa_cons pe_str (pa_cons pe_bl (pa_cons pe_bl (pa_cons (pe_lst (pa_cons (pv 0) pa_nil)) (pa_cons (pv 0) pa_nil)))))) (pa_cons (pe_tup (pa_cons (pv 0) (pa_cons pe_bl (pa_cons pe_bl (pa_cons (pe_lst (pa_cons (pv 3) pa_nil)) (pa_cons pe_str pa_nil)))))) pa_nil))) pa_nil))))) (pa_cons (pe_lst (pa_cons (pe_tup (pa_cons (pe_tup (pa_cons pe_str (pa_cons (pv 0) (pa_cons (pe_tup (pa_cons (pe_tup (pa_cons pe_str (pa_cons (pv 1) pa_nil))) (pa_cons (pe_tup (pa_cons pe_str (pa_cons (pv 3) (pa_cons (pe_tup pa_nil) pa_nil)))) pa_nil))) pa_nil)))) (pa_cons (pe_tup (pa_cons pe_str (pa_cons (pv 3) (pa_cons (pe_tup (pa_cons (pe_tup (pa_cons pe_str (pa_cons (pv 2) pa_nil))) pa_nil)) pa_nil)))) pa_nil))) (pa_cons (pe_lst (pa_cons (pv 0) (pa_cons (pv 1) (pa_cons (pv 2) (pa_cons (pv 3) pa_nil))))) (pa_cons (pe_lst (pa_cons (pe_lst (pa_cons (pv 1) (pa_cons (pv 2) pa_nil))) pa_nil)) (pa_cons (pe_lst (pa_cons (pe_tup (pa_cons (pv 0) (pa_cons pe_bl (pa_cons pe_bl (pa_cons (pe_lst pa_nil) (pa_cons (pv 1) pa_nil)))))) (pa_cons (pe_tup (pa_cons (pv 3) (pa_cons pe_bl (pa_cons pe_bl (pa_cons (pe_lst pa_nil) (pa_cons (pv 1) pa_nil)))))) pa_nil))) pa_nil))))) pa_nil)))), ?_⟩
  have T : Tells H (L2.start ["_law_a", "_law_b", "_law_c", "_law_d"] [V.str a, V.str b, V.str c, V.str d]) _ (LsAt CaseAt (cs_saying a b c d)) := (tells_ls stb_case (ls_cons stb_case (tells_case (tells_row (parts_cons (tells_say (tells_c _) (tells_var (i := 0) rfl fun _ _ => rfl)) (parts_cons (tells_say (tells_c _) (tells_var (i := 1) rfl fun _ _ => rfl)) (parts_cons (tells_othS "hear" .hear wd_hear (tells_c _) (tells_var (i := 2) rfl fun _ _ => rfl) (tells_row (parts_cons (tells_othS "in" .inn wd_inn (tells_c _) (tells_var (i := 2) rfl fun _ _ => rfl) (tells_row parts_nil (Nat.le_of_ble_eq_true rfl))) parts_nil) (Nat.le_of_ble_eq_true rfl))) (parts_cons (tells_othS "room" .room wd_room (tells_c _) (tells_var (i := 1) rfl fun _ _ => rfl) (tells_row (parts_cons (tells_othS "in" .inn wd_inn (tells_c _) (tells_var (i := 3) rfl fun _ _ => rfl) (tells_row parts_nil (Nat.le_of_ble_eq_true rfl))) parts_nil) (Nat.le_of_ble_eq_true rfl))) parts_nil)))) (Nat.le_of_ble_eq_true rfl)) (tells_txs (txs_cons (tells_var (i := 0) rfl fun _ _ => rfl) (txs_cons (tells_var (i := 1) rfl fun _ _ => rfl) (txs_cons (tells_var (i := 2) rfl fun _ _ => rfl) (txs_cons (tells_var (i := 3) rfl fun _ _ => rfl) txs_nil)))) (Nat.le_of_ble_eq_true rfl)) (tells_ls stb_txs (ls_cons stb_txs (tells_txs (txs_cons (tells_var (i := 0) rfl fun _ _ => rfl) (txs_cons (tells_var (i := 1) rfl fun _ _ => rfl) (txs_cons (tells_var (i := 2) rfl fun _ _ => rfl) txs_nil))) (Nat.le_of_ble_eq_true rfl)) ls_nil) (Nat.le_of_ble_eq_true rfl)) (tells_ls stb_ru (ls_cons stb_ru (tells_ru (tells_c (.str ".")) (tells_c (.bl true)) (tells_c (.bl false)) (tells_txs (txs_cons (tells_var (i := 0) rfl fun _ _ => rfl) txs_nil) (Nat.le_of_ble_eq_true rfl)) (tells_var (i := 0) rfl fun _ _ => rfl)) (ls_cons stb_ru (tells_ru (tells_var (i := 0) rfl fun _ _ => rfl) (tells_c (.bl true)) (tells_c (.bl false)) (tells_txs (txs_cons (tells_var (i := 3) rfl fun _ _ => rfl) txs_nil) (Nat.le_of_ble_eq_true rfl)) (tells_c (.str ""))) ls_nil)) (Nat.le_of_ble_eq_true rfl))) (ls_cons stb_case (tells_case (tells_row (parts_cons (tells_othS "room" .room wd_room (tells_c _) (tells_var (i := 0) rfl fun _ _ => rfl) (tells_row (parts_cons (tells_say (tells_c _) (tells_var (i := 1) rfl fun _ _ => rfl)) (parts_cons (tells_othS "open" .opn wd_opn (tells_c _) (tells_var (i := 3) rfl fun _ _ => rfl) (tells_row parts_nil (Nat.le_of_ble_eq_true rfl))) parts_nil)) (Nat.le_of_ble_eq_true rfl))) (parts_cons (tells_othS "room" .room wd_room (tells_c _) (tells_var (i := 3) rfl fun _ _ => rfl) (tells_row (parts_cons (tells_say (tells_c _) (tells_var (i := 2) rfl fun _ _ => rfl)) parts_nil) (Nat.le_of_ble_eq_true rfl))) parts_nil)) (Nat.le_of_ble_eq_true rfl)) (tells_txs (txs_cons (tells_var (i := 0) rfl fun _ _ => rfl) (txs_cons (tells_var (i := 1) rfl fun _ _ => rfl) (txs_cons (tells_var (i := 2) rfl fun _ _ => rfl) (txs_cons (tells_var (i := 3) rfl fun _ _ => rfl) txs_nil)))) (Nat.le_of_ble_eq_true rfl)) (tells_ls stb_txs (ls_cons stb_txs (tells_txs (txs_cons (tells_var (i := 1) rfl fun _ _ => rfl) (txs_cons (tells_var (i := 2) rfl fun _ _ => rfl) txs_nil)) (Nat.le_of_ble_eq_true rfl)) ls_nil) (Nat.le_of_ble_eq_true rfl)) (tells_ls stb_ru (ls_cons stb_ru (tells_ru (tells_var (i := 0) rfl fun _ _ => rfl) (tells_c (.bl false)) (tells_c (.bl false)) (tells_txs txs_nil (Nat.le_of_ble_eq_true rfl)) (tells_var (i := 1) rfl fun _ _ => rfl)) (ls_cons stb_ru (tells_ru (tells_var (i := 3) rfl fun _ _ => rfl) (tells_c (.bl false)) (tells_c (.bl true)) (tells_txs txs_nil (Nat.le_of_ble_eq_true rfl)) (tells_var (i := 1) rfl fun _ _ => rfl)) ls_nil)) (Nat.le_of_ble_eq_true rfl))) ls_nil)) (Nat.le_of_ble_eq_true rfl))
  exact T.ret fun H' v sm hv => q H' v sm hv
end
end K52

set_option Elab.async false
set_option linter.all false
set_option maxRecDepth 100000
set_option maxHeartbeats 1000000
/-! The chain of ten rooms. -/
namespace Wk
open PySem PySem.Spec PyProof.Rows L2 GxR
def opnP (a b : Str) : Part := .oth .room a [.oth .opn b []]
def lastP (zs : List Str) : Part := .oth .room (zs.getD 9 "") [.oth .inn (zs.getD 10 "") [], .say (zs.getD 11 "")]
def chH (zs : List Str) : Nat → List Part
  | 0 => [lastP zs]
  | i + 1 => opnP (zs.getD (8 - i) "") (zs.getD (9 - i) "") :: chH zs i
def chR (zs : List Str) : Nat → List RuT
  | 0 => [(zs.getD 9 "", true, true, [zs.getD 10 ""], zs.getD 11 "")]
  | i + 1 => chR zs i ++ [(zs.getD (8 - i) "", true, decide (0 < 8 - i), [zs.getD 10 ""], zs.getD 11 "")]
abbrev csChain (zs : List Str) : Cs := ⟨chH zs 9, zs, [], chR zs 9⟩
theorem chH_len (zs : List Str) : ∀ i, (chH zs i).length = i + 1
  | 0 => rfl
  | i + 1 => by show (chH zs i).length + 1 = _; rw [chH_len zs i]
theorem chR_len (zs : List Str) : ∀ i, (chR zs i).length = i + 1
  | 0 => rfl
  | i + 1 => by show (chR zs i ++ [_]).length = _; rw [List.length_append, chR_len zs i]; rfl
def kcChain : KC := ⟨13, ((List.range' 1 9).map fun k => (k, 2, k + 1)) ++ [(10, 0, 11), (10, 3, 12)], (List.range' 1 10).map fun k => (k, 12), [(10, true, true, [11], some 12), (9, true, true, [11], some 12), (8, true, true, [11], some 12), (7, true, true, [11], some 12), (6, true, true, [11], some 12), (5, true, true, [11], some 12), (4, true, true, [11], some 12), (3, true, true, [11], some 12), (2, true, true, [11], some 12), (1, true, false, [11], some 12)]⟩
theorem okChain' {a b c d e f g h i j k l : Str} (nd : (("." : Str) :: [a, b, c, d, e, f, g, h, i, j, k, l]).Nodup) (okn : ∀ x ∈ [a, b, c, d, e, f, g, h, i, j, k, l], PyData.strOk x = true) (ne : ∀ x ∈ [a, b, c, d, e, f, g, h, i, j, k, l], x ≠ "") : CsOk (csChain [a, b, c, d, e, f, g, h, i, j, k, l]) := by
  have s10 : SyK (kcChain.u.map (decU ("." :: [a, b, c, d, e, f, g, h, i, j, k, l]))) (io ("." :: [a, b, c, d, e, f, g, h, i, j, k, l]) 10) (io ("." :: [a, b, c, d, e, f, g, h, i, j, k, l]) 12) := .use (w := decW 3) (List.mem_map.mpr ⟨(10, 3, 12), by decide, rfl⟩) (by decide +kernel)
  have step : ∀ m, m < 10 → 0 < m → SyK (kcChain.u.map (decU ("." :: [a, b, c, d, e, f, g, h, i, j, k, l]))) (io ("." :: [a, b, c, d, e, f, g, h, i, j, k, l]) (m + 1)) (io ("." :: [a, b, c, d, e, f, g, h, i, j, k, l]) 12) → SyK (kcChain.u.map (decU ("." :: [a, b, c, d, e, f, g, h, i, j, k, l]))) (io ("." :: [a, b, c, d, e, f, g, h, i, j, k, l]) m) (io ("." :: [a, b, c, d, e, f, g, h, i, j, k, l]) 12) := fun m h1 h0 s =>
    .opn (n := io _ (m + 1)) (List.mem_map.mpr ⟨(m, 2, m + 1), List.mem_append_left _ (List.mem_map.mpr ⟨m, List.mem_range'_1.mpr ⟨h0, by omega⟩, rfl⟩), rfl⟩) s
  have all : ∀ t, t < 10 → SyK (kcChain.u.map (decU ("." :: [a, b, c, d, e, f, g, h, i, j, k, l]))) (io ("." :: [a, b, c, d, e, f, g, h, i, j, k, l]) (10 - t)) (io ("." :: [a, b, c, d, e, f, g, h, i, j, k, l]) 12) := fun t => by
    induction t with
    | zero => intro _; exact s10
    | succ t ih =>
      intro ht
      have := ih (by omega)
      refine step (10 - (t + 1)) (by omega) (by omega) ?_
      rw [show 10 - (t + 1) + 1 = 10 - t by omega]
      exact this
  refine cs_code (k := kcChain) (lN := none) (FC := [1, 2, 2, 3, 3, 4, 4, 5, 5, 6, 6, 7, 7, 8, 8, 9, 9, 10, 10, 11, 12]) (BC := []) nd okn ne rfl (by decide) (Nat.le_of_ble_eq_true rfl) (Nat.le_of_ble_eq_true rfl) rfl rfl rfl (by simp [chH, opnP, lastP, frR, frP, Wd.binds, io]) (by simp [chH, opnP, lastP, bdR, bdP, Wd.binds]) (by decide +kernel) (by decide +kernel) (fun _ h => nomatch h) (fun q hq => ?_)
  obtain ⟨m, hm, rfl⟩ := List.mem_map.mp (show q ∈ (List.range' 1 10).map fun k => (k, 12) from hq)
  obtain ⟨h1, h2⟩ := List.mem_range'_1.mp hm
  have := all (10 - m) (by omega)
  rw [show 10 - (10 - m) = m by omega] at this
  exact this
theorem okChain {zs : List Str} (l : zs.length = 12) (nd : (("." : Str) :: zs).Nodup) (okn : ∀ x ∈ zs, PyData.strOk x = true) (ne : ∀ x ∈ zs, x ≠ "") : CsOk (csChain zs) := by
  match zs, l with
  | [a, b, c, d, e, f, g, h, i, j, k, m], _ => exact okChain' nd okn ne
theorem tells_lsN {H0 : Hp} {σ : L2.St} {ts : TA} {α : Type} {P : α → Hp → V → Prop} (st : ∀ x, Stb (P x)) {xs : List α} (h : TellsA H0 σ ts (fun H vs => LAt P H xs vs)) (n : xs.length ≤ 1000) {H : Hp} {Q : V → Hp → Prop} (s : Same H0 H)
    (q : ∀ H' a vs, Same H H' → H a = none → H' a = some (.lst vs) → LAt P H' xs vs → Q (.ref a) H') : tLst ts σ H Q :=
  h H _ s fun H1 vs s1 p1 => ⟨Nat.le_trans (by rw [p1.len]; exact n) (show 1000 ≤ sizeLine by decide), fun p np => q _ p vs (s1.trans (same_new np)) (by
    cases c : H p with
    | none => rfl
    | some o => rw [s1 _ _ c] at np; cases np) upd_same (p1.stb st (same_new np))⟩
def spChain : Sp := fun vs H Q _ => ∃ (Ln : Addr) (zs : List Str), vs = [.ref Ln] ∧ H Ln = some (.lst (zs.map V.str)) ∧ zs.length = 12 ∧ CsOk (csChain zs) ∧ ∀ H', Same H H' → Q (.bl true) H'
theorem seq_asg {te : TE} {g : TG} {rest : TS} {D : Ends} {σ : L2.St} {H : Hp} (h : te σ H fun v H1 => g v σ H1 fun σ' H' => rest D σ' H') : tSeq (tAsg te g) rest D σ H := h
theorem asg_at {te : TE} {g : TG} {D : Ends} {σ : L2.St} {H : Hp} (h : te σ H fun v H1 => g v σ H1 D.nx) : tAsg te g D σ H := h
theorem tells_ixn {K : PySem.W.Frag} {H0 : Hp} {σ : L2.St} {t1 t2 : TE} {a : Addr} {zs : List Str} (i : Nat) (h1 : Tells H0 σ t1 (fun _ u => u = .ref a)) (h2 : Tells H0 σ t2 (fun _ u => u = .int i)) (ha : H0 a = some (.lst (zs.map V.str))) (hl : i < zs.length) : Tells H0 σ (tOp (rIxL K) t1 t2) (fun _ u => u = .str (zs.getD i "")) :=
  tells_ixl h1 h2 ha (by rw [List.getElem?_map, List.getElem?_eq_getElem hl, List.getD_eq_getElem?_getD, List.getElem?_eq_getElem hl]; rfl)
theorem tells_gt {H0 : Hp} {σ : L2.St} {t1 t2 : TE} {i j : Int} (h1 : Tells H0 σ t1 (fun _ u => u = .int i)) (h2 : Tells H0 σ t2 (fun _ u => u = .int j)) : Tells H0 σ (tOp (rI0 fun i j => .bl (decide (j < i))) t1 t2) (fun _ u => u = .bl (decide (j < i))) := fun H Q s q =>
  h1 H _ s fun H1 u1 s1 e1 => h2 H1 _ (s.trans s1) fun H2 u2 s2 e2 => ⟨i, j, e1, e2, q H2 _ (s1.trans s2) rfl⟩
end Wk

set_option Elab.async false
set_option linter.all false
set_option maxRecDepth 100000
set_option maxHeartbeats 400000
namespace K52
open PySem PySem.Spec PyProof.Rows L2 Wk GxR
abbrev sChain : Stmt := topS 29
abbrev nmCh : List Str := ["_law_names_here", "_law_house", "_law_rules", "_law_k"]
theorem scChain : FnScope nmCh ["_law_names_here"] (defScope sChain) := ⟨rfl, rfl, rfl, by decide +kernel, rfl, by decide +kernel, by decide +kernel⟩
section
variable {P : Program} {w : World} {K : PySem.W.Frag} {mg : Str → Option Value} {base : Heap}
theorem ok_chain {f fK fD : Addr} {fd dK dD : FuncData} {k n : Nat} (hn13 : 13 ≤ n) (F : Fun K "_law_chain" "_law_chain" sChain f fd)
    (GK : FnOk P w K mg base CX0 k fK dK ["house"] (spKinds n)) (bK : Binds K dK ["house"] []) (kK : PySem.W.keepIn K (.ref fK) = true) (mK : mg "told_kinds" = some (.ref fK))
    (GD : FnOk P w K mg base CX0 k fD dD psDu spDueK) (bD : Binds K dD psDu []) (kD : PySem.W.keepIn K (.ref fD) = true) (mD : mg "_law_due" = some (.ref fD))
    (mr : mg "range" = none) : FnOk P w K mg base CX0 (k + 1) f fd ["_law_names_here"] spChain := by
  refine F.ok scChain (fun vs H Q E h => ?_) (fun cdv A outer s H vs Q E hr h => ?_)
  · obtain ⟨_, _, rfl, _⟩ := h
    rfl
  obtain ⟨Ln, zs, rfl, hLn, l12, ok, q⟩ := h
  have hu := hu_of hr
  have hu70 : (A.deeper (envOfC "_law_chain" (defScope sChain) s.heap.objs.size f cdv)).units + 70 < cLine := by have := hr.un; omega
  refine ⟨_, pss_cons (ps_set (i := 1) scChain.nd rfl (.inl rfl) (pe_tup (pa_cons (pe_tup (pa_cons pe_str (pa_cons (pe_ix ix_list (pv 0) pe_int (fun _ _ => rfl)) (pa_cons (pe_tup (pa_cons (pe_tup (pa_cons pe_str (pa_cons (pe_ix ix_list (pv 0) pe_int (fun _ _ => rfl)) (pa_cons (pe_tup pa_nil) pa_nil)))) (pa_cons (pe_tup (pa_cons pe_str (pa_cons (pe_ix ix_list (pv 0) pe_int (fun _ _ => rfl)) pa_nil))) pa_nil))) pa_nil)))) pa_nil)))
    (pss_cons (ps_set (i := 2) scChain.nd rfl (.inl rfl) (pe_lst (pa_cons (pe_tup (pa_cons (pe_ix ix_list (pv 0) pe_int (fun _ _ => rfl)) (pa_cons pe_bl (pa_cons pe_bl (pa_cons (pe_lst (pa_cons (pe_ix ix_list (pv 0) pe_int (fun _ _ => rfl)) pa_nil)) (pa_cons (pe_ix ix_list (pv 0) pe_int (fun _ _ => rfl)) pa_nil)))))) pa_nil)))
    (pss_cons (ps_for PassesOwn.never rfl (pi_range3 rfl mr (pa_cons pe_int (pa_cons (pe_un un_neg pe_int) (pa_cons (pe_un un_neg pe_int) pa_nil)))) (pg_name (i := 3) scChain.nd rfl (.inl rfl))
      (pss_cons (ps_set (i := 1) scChain.nd rfl (.inl rfl) (pe_op op_catM (pe_tup (pa_cons (pe_tup (pa_cons pe_str (pa_cons (pe_ix ix_list (pv 0) (pv 3) (fun _ _ => rfl)) (pa_cons (pe_tup (pa_cons (pe_tup (pa_cons pe_str (pa_cons (pe_ix ix_list (pv 0) (pe_op op_add (pv 3) pe_int) (fun _ _ => rfl)) (pa_cons (pe_tup pa_nil) pa_nil)))) pa_nil)) pa_nil)))) pa_nil)) (pv 1)))
      (pss_one (ps_expr (pe_bm PySem.F.plainAttrs_list PySem.F.slot_list_append PySem.F.type_list_append mt_append (pv 2) (pa_cons (pe_tup (pa_cons (pe_ix ix_list (pv 0) (pv 3) (fun _ _ => rfl)) (pa_cons pe_bl (pa_cons (pe_cmpR op_gt (pv 3) pe_int (nomark _)) (pa_cons (pe_lst (pa_cons (pe_ix ix_list (pv 0) pe_int (fun _ _ => rfl)) pa_nil)) (pa_cons (pe_ix ix_list (pv 0) pe_int (fun _ _ => rfl)) pa_nil)))))) pa_nil))))))
    (pss_one (ps_ret (pe_cmpR (op_eq2 hu70) (pe_call GK hr (by rfl) mK kK bK .nil pass0 (pa_cons (pv 1) pa_nil)) (pe_call GD hr (by rfl) mD kD bD .nil pass0 (pa_cons (pv 0) (pa_cons (pe_lst pa_nil) (pa_cons (pv 2) pa_nil)))) (nomark _)))))), ?_⟩
  have ixc : ∀ {H0 : Hp} {σ : L2.St} (i : Nat), Same H H0 → σ[0]? = some (some (V.ref Ln)) → i < 12 → Tells H0 σ (tOp (rIxL K) (tVar 0) (tC (.int (i : Int)))) (fun _ u => u = .str (zs.getD i "")) := fun i s h hi =>
    tells_ixn i (tells_var h fun _ _ => rfl) (tells_c _) (s _ _ hLn) (by omega)
  have T0 : Tells H (L2.start nmCh [V.ref Ln]) _ (fun H v => RowAt H (chH zs 0) v) := tells_row (parts_cons (tells_othS "room" .room wd_room (tells_c _) (ixc 9 (fun _ _ e => e) rfl (by decide)) (tells_row (parts_cons (tells_othS "in" .inn wd_inn (tells_c _) (ixc 10 (fun _ _ e => e) rfl (by decide)) (tells_row parts_nil (Nat.le_of_ble_eq_true rfl))) (parts_cons (tells_say (tells_c _) (ixc 11 (fun _ _ e => e) rfl (by decide))) parts_nil)) (Nat.le_of_ble_eq_true rfl))) parts_nil) (Nat.le_of_ble_eq_true rfl)
  refine seq_asg (T0 H _ (fun _ _ e => e) fun H1 hv s1 h1 => ?_)
  have T1 : TellsA H1 [some (V.ref Ln), some hv, none, none] _ (fun H vs => LAt RuOne H (chR zs 0) vs) := ls_cons stb_ru (tells_ru (ixc 9 s1 rfl (by decide)) (tells_c (.bl true)) (tells_c (.bl true)) (tells_txs (txs_cons (ixc 10 s1 rfl (by decide)) txs_nil) (Nat.le_of_ble_eq_true rfl)) (ixc 11 s1 rfl (by decide))) ls_nil
  refine seq_asg (tells_lsN stb_ru T1 (Nat.le_of_ble_eq_true rfl) (fun _ _ e => e) fun H2 Lr vr s2 nLr hLr hRr => ?_)
  have s12 := s1.trans s2
  refine ⟨1, rfl, 1, rfl, 8, -1, -1, 9, rfl, RgC.neg (i := 8) (j := -1) (by decide) (by decide) (by decide) (by decide), for_rangeC (n := 9) (fun i σ H' => ∃ (hv : V) (vr : List V) (s3 : Option V), σ = [some (.ref Ln), some hv, some (.ref Lr), s3] ∧ (∀ b o, b ≠ Lr → H2 b = some o → H' b = some o) ∧ RowAt H' (chH zs i) hv ∧ H' Lr = some (.lst vr) ∧ LAt RuOne H' (chR zs i) vr)
    ⟨hv, vr, _, rfl, fun _ _ _ e => e, stb_row (chH zs 0) _ _ hv s2 h1, hLr, hRr⟩ (fun i σ H3 hi hP => ?_) (fun σ H3 hP => ?_)⟩
  · obtain ⟨hv, vr, s3, rfl, kp, hrow, hLr3, hR3⟩ := hP
    have e8 : (8 : Int) + (i : Nat) * (-1) = ((8 - i : Nat) : Int) := by omega
    rw [e8]
    have s03 : ∀ b o, b ≠ Lr → H b = some o → H3 b = some o := fun b o nb e => kp b o nb (s12 _ _ e)
    have hLn2 := s12 _ _ hLn
    have nLn : Ln ≠ Lr := fun z => by
      rw [z, hLr] at hLn2
      have e2 := HO.lst.inj (Option.some.inj hLn2)
      have l1 := congrArg List.length e2
      rw [hRr.len, chR_len, List.length_map, l12] at l1
      omega
    have hLn3 := kp _ _ nLn hLn2
    have ixc3 : ∀ {H0 : Hp} {σ : L2.St} (i : Nat), Same H3 H0 → σ[0]? = some (some (V.ref Ln)) → i < 12 → Tells H0 σ (tOp (rIxL K) (tVar 0) (tC (.int (i : Int)))) (fun _ u => u = .str (zs.getD i "")) := fun i s h hi =>
      tells_ixn i (tells_var h fun _ _ => rfl) (tells_c _) (s _ _ hLn3) (by omega)
    have ixk : ∀ {H0 : Hp} {σ : L2.St}, Same H3 H0 → σ[0]? = some (some (V.ref Ln)) → σ[3]? = some (some (V.int ((8 - i : Nat) : Int))) → Tells H0 σ (tOp (rIxL K) (tVar 0) (tVar 3)) (fun _ u => u = .str (zs.getD (8 - i) "")) := fun s h h3 =>
      tells_ixn (8 - i) (tells_var h fun _ _ => rfl) (tells_var h3 fun _ _ => rfl) (s _ _ hLn3) (by omega)
    have ixk1 : ∀ {H0 : Hp} {σ : L2.St}, Same H3 H0 → σ[0]? = some (some (V.ref Ln)) → σ[3]? = some (some (V.int ((8 - i : Nat) : Int))) → Tells H0 σ (tOp (rIxL K) (tVar 0) (tOp (rI0 fun i j => .int (i + j)) (tVar 3) (tC (.int 1)))) (fun _ u => u = .str (zs.getD (9 - i) "")) := fun s h h3 =>
      tells_ixn (9 - i) (tells_var h fun _ _ => rfl) ((tells_add (tells_var h3 fun _ _ => rfl) (tells_c _)).imp fun _ v e => by rw [e, show ((8 - i : Nat) : Int) + 1 = ((9 - i : Nat) : Int) by omega]) (s _ _ hLn3) (by omega)
    have TH : Tells H3 [some (V.ref Ln), some hv, some (V.ref Lr), some (V.int ((8 - i : Nat) : Int))] _ (fun H v => RowAt H ([opnP (zs.getD (8 - i) "") (zs.getD (9 - i) "")] ++ chH zs i) v) :=
      tells_cat (tells_row (parts_cons (tells_othS "room" .room wd_room (tells_c _) (ixk (fun _ _ e => e) rfl rfl) (tells_row (parts_cons (tells_othS "open" .opn wd_opn (tells_c _) (ixk1 (fun _ _ e => e) rfl rfl) (tells_row parts_nil (Nat.le_of_ble_eq_true rfl))) parts_nil) (Nat.le_of_ble_eq_true rfl))) parts_nil) (Nat.le_of_ble_eq_true rfl)) (tells_var (i := 1) rfl fun H' s => stb_row _ _ _ _ s hrow) (by rw [chH_len]; show 1 + (i + 1) ≤ 1000; omega)
    refine seq_asg (TH H3 _ (fun _ _ e => e) fun H4 hv' s4 h4 => ?_)
    have TR : Tells H4 [some (V.ref Ln), some hv', some (V.ref Lr), some (V.int ((8 - i : Nat) : Int))] _ (RuOne (zs.getD (8 - i) "", true, decide (0 < 8 - i), [zs.getD 10 ""], zs.getD 11 "")) :=
      tells_ru (ixk s4 rfl rfl) (tells_c (.bl true)) ((tells_gt (tells_var (i := 3) rfl fun _ _ => rfl) (tells_c (.int 0))).imp fun _ v e => by rw [e]; congr 1; rw [decide_eq_decide]; omega) (tells_txs (txs_cons (ixc3 10 s4 rfl (by decide)) txs_nil) (Nat.le_of_ble_eq_true rfl)) (ixc3 11 s4 rfl (by decide))
    have hLr4 := s4 _ _ hLr3
    refine ⟨_, rfl, .inl ⟨rfl, _, SqL.of hLr4⟩, TR H4 _ (fun _ _ e => e) fun H5 u s5 h5 => ?_⟩
    have hLr5 := s5 _ _ hLr4
    have s35 := s4.trans s5
    have lv := hR3.len
    rw [chR_len] at lv
    refine ⟨Lr, vr, _, rfl, rfl, hLr5, small1000 (by omega), ?_⟩
    have keep : ∀ b o, b ≠ Lr → H3 b = some o → upd H5 Lr (.lst (vr ++ [u])) b = some o := fun b o nb e => by rw [upd_ne nb]; exact s35 _ _ e
    have stu : STup H5 (upd H5 Lr (.lst (vr ++ [u]))) := STup.lst hLr5
    refine ⟨hv', vr ++ [u], _, rfl, fun b o nb e => keep b o nb (kp b o nb e), (stb_row _ _ _ _ s5 h4).mono stu, upd_same, ?_⟩
    have hno : ∀ xs : List Str, vr ≠ xs.map V.str := fun xs e => by
      have v0 : vr[0]? = some vr[0] := List.getElem?_eq_getElem (by omega)
      obtain ⟨r0, _, t0, l0, e5, _⟩ := hR3.get v0
      rw [e5, e, List.getElem?_map] at v0
      obtain ⟨x, _, ex⟩ := Option.map_eq_some_iff.mp v0
      cases ex
    have lsk : ∀ {rs : List RuT} {vs : List V}, LAt RuOne H5 rs vs → LAt RuOne (upd H5 Lr (.lst (vr ++ [u]))) rs vs := fun {rs} => by
      induction rs with
      | nil => intro vs h; exact h
      | cons r rs ih =>
        intro vs ⟨v, us, e, ⟨t, l, e2, h1, h2⟩, h3⟩
        refine ⟨v, us, e, ⟨t, l, e2, stu _ _ h1, ?_⟩, ih h3⟩
        have nl : l ≠ Lr := fun z => by
          rw [z, hLr5] at h2
          exact hno _ (HO.lst.inj (Option.some.inj h2))
        rw [upd_ne nl]
        exact h2
    have one : LAt RuOne H5 [(zs.getD (8 - i) "", true, decide (0 < 8 - i), [zs.getD 10 ""], zs.getD 11 "")] [u] := ⟨u, [], rfl, h5, rfl⟩
    exact lsk (LAt.app one (hR3.stb stb_ru s35))
  · obtain ⟨hv, vr, s3, rfl, kp, hrow, hLr3, hR3⟩ := hP
    have nLr0 : Same H H3 := fun b o e => by
      by_cases nb : b = Lr
      · subst nb
        rw [s1 _ _ e] at nLr
        cases nLr
      · exact kp b o nb (s12 _ _ e)
    have dt := ok.dot
    refine ⟨_, rfl, hv, chH zs 9, rfl, hrow, Nat.lt_of_lt_of_le ok.dp hn13, ok.sz, Nat.le_of_lt (Nat.lt_of_lt_of_le ok.dp (by decide)), fun L nd h => ok.small nd h, ok.dis, dt.1, dt.2, fun H4 t Dt Dr pls G us S rs kvs s4 ndp mpl mus gr ht hDt hDr hRu ndr kr okr nDt nDr => ?_⟩
    refine ⟨_, rfl, (show 0 ≤ sizeLine by decide), fun l0 nl0 => ⟨_, rfl, ?_⟩⟩
    have s5 := same_new (o := HO.lst []) nl0
    have s45 := s4.trans s5
    refine ⟨Ln, .ref l0, .ref Lr, zs, [], chR zs 9, rfl, s5 _ _ (s4 _ _ (nLr0 _ _ hLn)), ok.nd, Nat.lt_of_lt_of_le ok.ln (by decide), ⟨l0, [], rfl, upd_same, rfl⟩, Nat.zero_le _, (fun l h => nomatch h), ⟨Lr, vr, rfl, s45 _ _ hLr3, hR3.stb stb_ru s45⟩, ok.ru1, ok.ru2, fun H6 t' Dg Df Gd kvs' rs' s6 ht' hDg gd hDf hR' ndr' kr' okr' => ?_⟩
    have s46 := s5.trans s6
    obtain ⟨d1, d2⟩ := cs_same (K := K) ok ndp mpl mus gr (hRu.same s46) ndr kr okr gd hR' ndr' kr' okr'
    exact ⟨t, t', Dt, Dr, Dg, Df, _, _, _, _, rfl, rfl, s46 _ _ ht, ht', s46 _ _ hDt, hDg, s46 _ _ hDr, hDf, d1, d2, q _ (nLr0.trans (s4.trans s46))⟩
end
end K52

set_option Elab.async false
set_option linter.all false
set_option maxRecDepth 100000
set_option maxHeartbeats 1000000
namespace K52
open PySem PySem.Spec PyProof.Rows L2 Wk GxR
abbrev sLaw : Stmt := topS 30
abbrev nmLaw : List Str := ["_law_script", "_law_cell", "_law_names_here", "_law_a", "_law_b", "_law_c", "_law_d", "_law_some", "_law_house", "_law_alike", "_law_rules"]
theorem scLaw : FnScope nmLaw ["_law_script"] (defScope sLaw) := ⟨rfl, rfl, rfl, by decide +kernel, rfl, by decide +kernel, by decide +kernel⟩
def spLaw (K : PySem.W.Frag) : Sp := fun vs H Q _ => ∃ (a : Addr) (ns : List Int), vs = [.ref a] ∧ SqL K H a (ns.map V.int) ∧ ns.length ≤ 63 ∧ ∀ H', Q (.bl true) H'
abbrev psLw : List Str := ["_law_left_here", "_law_many"]
abbrev psT3 : List Str := ["_law_a", "_law_b", "_law_c"]
abbrev psT4 : List Str := ["_law_a", "_law_b", "_law_c", "_law_d"]
theorem pre_names {s : Nat} {zs ys : List Str} (h : ∀ i z, zs[i]? = some z → NameOf ((s + 5 * i) % 26) z) (p : ys <+: zs) : ∀ i z, ys[i]? = some z → NameOf ((s + 5 * i) % 26) z := fun i z e => by
  obtain ⟨r, rfl⟩ := p
  exact h i z (by rw [List.getElem?_append_left (by
    have := List.getElem?_eq_some_iff.mp e
    exact this.1)]; exact e)
theorem first4 {zs : List Str} (l : zs.length = 12) : ∃ a b c d r, zs = a :: b :: c :: d :: r := by
  match zs, l with
  | a :: b :: c :: d :: r, _ => exact ⟨a, b, c, d, r, rfl⟩
section
variable {P : Program} {w : World} {K : PySem.W.Frag} {mg : Str → Option Value} {base : Heap}
theorem all_ok {a b c d : Str} {s : Nat} (h : ∀ i z, [a, b, c, d][i]? = some z → NameOf ((s + 5 * i) % 26) z) : ∀ x ∈ cs_walking a b c ++ cs_opening a b c d ++ cs_saying a b c d, CsOk x := by
  obtain ⟨n4, o4, e4⟩ := nms_nd h (Nat.le_of_ble_eq_true rfl)
  obtain ⟨n3, o3, e3⟩ := nms_nd (pre_names (ys := [a, b, c]) h ⟨[d], rfl⟩) (Nat.le_of_ble_eq_true rfl)
  obtain ⟨n2, o2, e2⟩ := nms_nd (pre_names (ys := [a, b]) h ⟨[c, d], rfl⟩) (Nat.le_of_ble_eq_true rfl)
  intro x hx
  rcases List.mem_append.mp hx with hx | hx
  · rcases List.mem_append.mp hx with hx | hx
    · rcases List.mem_cons.mp hx with rfl | hx
      · exact okW1 n2 o2 e2
      rcases List.mem_cons.mp hx with rfl | hx
      · exact okW2 n3 o3 e3
      rcases List.mem_cons.mp hx with rfl | hx
      · exact okW3 n2 o2 e2
      rw [List.mem_singleton.mp hx]
      exact okW4 n3 o3 e3
    · rcases List.mem_cons.mp hx with rfl | hx
      · exact okO1 n3 o3 e3
      rcases List.mem_cons.mp hx with rfl | hx
      · exact okO2 n4 o4 e4
      rw [List.mem_singleton.mp hx]
      exact okO3 n3 o3 e3
  · rcases List.mem_cons.mp hx with rfl | hx
    · exact okS1 n4 o4 e4
    rw [List.mem_singleton.mp hx]
    exact okS2 n4 o4 e4
theorem ok_law {f f1 f3 fC fW fO fS fK fD : Addr} {fd d1 d3 dC dW dO dS dK dD : FuncData} {k n : Nat} (hk : 2 ≤ k) (hn13 : 13 ≤ n) (F : Fun K "law" "law" sLaw f fd)
    (G1 : FnOk P w K mg base CX0 1 f1 d1 ["_law_cell"] spLeft) (b1 : Binds K d1 ["_law_cell"] []) (k1 : PySem.W.keepIn K (.ref f1) = true) (m1 : mg "_law_left" = some (.ref f1))
    (G3 : FnOk P w K mg base CX0 2 f3 d3 psLw spNames) (b3 : Binds K d3 psLw []) (k3 : PySem.W.keepIn K (.ref f3) = true) (m3 : mg "_law_names" = some (.ref f3))
    (GW : FnOk P w K mg base CX0 1 fW dW psT3 sp_walking) (bW : Binds K dW psT3 []) (kW : PySem.W.keepIn K (.ref fW) = true) (mW : mg "_law_walking" = some (.ref fW))
    (GO : FnOk P w K mg base CX0 1 fO dO psT4 sp_opening) (bO : Binds K dO psT4 []) (kO : PySem.W.keepIn K (.ref fO) = true) (mO : mg "_law_opening" = some (.ref fO))
    (GS : FnOk P w K mg base CX0 1 fS dS psT4 sp_saying) (bS : Binds K dS psT4 []) (kS : PySem.W.keepIn K (.ref fS) = true) (mS : mg "_law_saying" = some (.ref fS))
    (GC : FnOk P w K mg base CX0 k fC dC ["_law_names_here"] spChain) (bC : Binds K dC ["_law_names_here"] []) (kC : PySem.W.keepIn K (.ref fC) = true) (mC : mg "_law_chain" = some (.ref fC))
    (GK : FnOk P w K mg base CX0 k fK dK ["house"] (spKinds n)) (bK : Binds K dK ["house"] []) (kK : PySem.W.keepIn K (.ref fK) = true) (mK : mg "told_kinds" = some (.ref fK))
    (GD : FnOk P w K mg base CX0 k fD dD psDu spDueK) (bD : Binds K dD psDu []) (kD : PySem.W.keepIn K (.ref fD) = true) (mD : mg "_law_due" = some (.ref fD))
    : FnOk P w K mg base CX0 (k + 1) f fd ["_law_script"] (spLaw K) := by
  refine F.ok scLaw (fun vs H Q E h => ?_) (fun cdv A outer s H vs Q E hr h => ?_)
  · obtain ⟨a, ns, rfl, _⟩ := h
    rfl
  obtain ⟨a, ns, rfl, hS, hlen, q⟩ := h
  have r1 : Room 1 _ := hr.mono (by omega)
  have r2 : Room 2 _ := hr.mono (by omega)
  have hu := hu_of hr
  have hu70 : (A.deeper (envOfC "law" (defScope sLaw) s.heap.objs.size f cdv)).units + 70 < cLine := by have := hr.un; omega
  refine ⟨_, pss_cons (ps_for PassesOwn.never rfl (pi_list (pe_op op_cat (pe_slice sl_list (pv 0) po_none (po_some pe_int)) (pe_lst (pa_cons pe_int pa_nil)))) (pg_name (i := 1) scLaw.nd rfl (.inl rfl))
      (pss_cons (ps_set (i := 2) scLaw.nd rfl (.inl rfl) (pe_call G3 r2 (by rfl) m3 k3 b3 .nil pass0 (pa_cons (pe_call G1 r1 (by rfl) m1 k1 b1 .nil pass0 (pa_cons (pv 1) pa_nil)) (pa_cons pe_int pa_nil))))
      (pss_cons (ps_asg (pe_slice sl_list (pv 2) po_none (po_some pe_int)) (pg_lst rfl (pgs_cons (pg_name (i := 3) scLaw.nd rfl (.inl rfl)) (pgs_cons (pg_name (i := 4) scLaw.nd rfl (.inl rfl)) (pgs_cons (pg_name (i := 5) scLaw.nd rfl (.inl rfl)) (pgs_cons (pg_name (i := 6) scLaw.nd rfl (.inl rfl)) pgs_nil))))))
      (pss_cons (ps_if (pt_not (pt_val (pe_call GC hr (by rfl) mC kC bC .nil pass0 (pa_cons (pv 2) pa_nil)))) (pss_one (ps_ret pe_bl)) pss_nil)
      (pss_cons (ps_set (i := 7) scLaw.nd rfl (.inl rfl) (pe_op op_cat (pe_op op_cat (pe_call GW r1 (by rfl) mW kW bW .nil pass0 (pa_cons (pv 3) (pa_cons (pv 4) (pa_cons (pv 5) pa_nil)))) (pe_call GO r1 (by rfl) mO kO bO .nil pass0 (pa_cons (pv 3) (pa_cons (pv 4) (pa_cons (pv 5) (pa_cons (pv 6) pa_nil)))))) (pe_call GS r1 (by rfl) mS kS bS .nil pass0 (pa_cons (pv 3) (pa_cons (pv 4) (pa_cons (pv 5) (pa_cons (pv 6) pa_nil)))))))
      (pss_one (ps_for PassesOwn.never rfl (pi_list (pv 7)) (pg_lst rfl (pgs_cons (pg_name (i := 8) scLaw.nd rfl (.inl rfl)) (pgs_cons (pg_name (i := 2) scLaw.nd rfl (.inl rfl)) (pgs_cons (pg_name (i := 9) scLaw.nd rfl (.inl rfl)) (pgs_cons (pg_name (i := 10) scLaw.nd rfl (.inl rfl)) pgs_nil)))))
        (pss_one (ps_if (pt_cmpR (op_ne2 hu70) (pe_call GK hr (by rfl) mK kK bK .nil pass0 (pa_cons (pv 8) pa_nil)) (pe_call GD hr (by rfl) mD kD bD .nil pass0 (pa_cons (pv 2) (pa_cons (pv 9) (pa_cons (pv 10) pa_nil)))) (nomark _)) (pss_one (ps_ret pe_bl)) pss_nil))))))))) (pss_one (ps_ret pe_bl)), ?_⟩
  refine ⟨.ref a, rfl, 8, rfl, a, ns.map V.int, rfl, hS, fun c nc => ?_⟩
  refine ⟨(show 1 ≤ sizeLine by decide), fun c2 nc2 => ?_⟩
  have hc2 : upd (upd H c (.lst (cutV (ns.map V.int) none (some 8)))) c2 (.lst [.int 5]) c = some (.lst (cutV (ns.map V.int) none (some 8))) := kn upd_same nc2
  have hl := cut_len (ns := ns) (lo := none) (hi := some 8) hlen
  refine ⟨c, c2, _, _, rfl, rfl, hc2, upd_same, small (by rw [List.length_singleton]; omega), fun p np => ?_⟩
  have allI : ∀ v ∈ cutV (ns.map V.int) none (some 8) ++ [V.int 5], ∃ i : Int, v = .int i := fun v hv => by
    rcases List.mem_append.mp hv with g | g
    · exact cut_ints v g
    · exact ⟨5, List.mem_singleton.mp g⟩
  generalize cutV (ns.map V.int) none (some 8) ++ [V.int 5] = items at *
  refine ⟨p, rfl, ⟨_, SqL.of upd_same⟩, for_it (walk_list (xs := items))
    (fun _ σ H' => H' p = some (.lst items) ∧ ∃ s1 s2 s3 s4 s5 s6 s7 s8 s9 s10 : Option V, σ = [some (.ref a), s1, s2, s3, s4, s5, s6, s7, s8, s9, s10])
    ⟨upd_same, _, _, _, _, _, _, _, _, _, _, rfl⟩ (fun i σ H' _ hP => SqL.of hP.1) (fun i x σ H1 H2 hi hP hY => ?_) (fun σ H' hP => q _)⟩
  obtain ⟨hp, s1, s2, s3, s4, s5, s6, s7, s8, s9, s10, rfl⟩ := hP
  obtain ⟨rfl, hx⟩ := hY
  obtain ⟨j, rfl⟩ := allI x (List.mem_of_getElem? hx)
  refine ⟨_, rfl, j, rfl, fun L nn nL => ?_⟩
  have pL : p ≠ L := ne_of_none hp nL
  refine ⟨L, nn, 12, rfl, upd_same, by decide, fun H3 pn s zs xn npn hzs hlz hs26 hnm => ?_⟩
  have hp3 : H3 p = some (.lst items) := xn.1 _ _ pL (kn hp nL)
  obtain ⟨a4, b4, c4, d4, r4, ez⟩ := first4 hlz
  have hn4 := pre_names (ys := [a4, b4, c4, d4]) hnm ⟨r4, by rw [ez]; rfl⟩
  have e4 : cutV (zs.map V.str) none (some 4) = [V.str a4, V.str b4, V.str c4, V.str d4] := by
    have e : cutV (zs.map V.str) none (some 4) = (zs.take 4).map V.str := cut_to (k := 4) (by omega)
    rw [e, ez]
    rfl
  obtain ⟨nd12, ok12, ne12⟩ := nms_nd hnm (by omega)
  refine ⟨_, rfl, 4, rfl, pn, _, rfl, SqL.of hzs, fun L4 nL4 => ?_⟩
  rw [e4]
  refine ⟨L4, _, rfl, SqL.of upd_same, rfl, _, _, rfl, _, _, rfl, _, _, rfl, _, _, rfl, rfl, ?_⟩
  have sm4 := same_new (o := HO.lst [V.str a4, V.str b4, V.str c4, V.str d4]) nL4
  generalize upd H3 L4 (.lst [.str a4, .str b4, .str c4, .str d4]) = H4 at *
  -- the chain
  refine ⟨_, rfl, pn, zs, rfl, sm4 _ _ hzs, hlz, okChain hlz nd12 ok12 ne12, fun H5 sm5 => ⟨_, rfl, iteF ?_⟩⟩
  have sm35 := sm4.trans sm5
  -- the cases
  refine ⟨_, rfl, _, rfl, _, rfl, a4, b4, c4, rfl, fun H6 v6 sm6 h6 => ?_⟩
  refine ⟨_, rfl, _, rfl, _, rfl, _, rfl, a4, b4, c4, d4, rfl, fun H7 v7 sm7 h7 => ?_⟩
  obtain ⟨a6, vs6, rfl, h6a, h6b⟩ := stb_ls stb_case _ _ _ _ sm7 h6
  obtain ⟨a7, vs7, rfl, h7a, h7b⟩ := h7
  have l6 := h6b.len
  have l7 := h7b.len
  refine ⟨a6, a7, vs6, vs7, rfl, rfl, h6a, h7a, small (n := vs6.length + vs7.length) (by rw [l6, l7]; exact Nat.le_of_ble_eq_true rfl), fun p8 np8 => ?_⟩
  have s8 := same_new (o := HO.lst (vs6 ++ vs7)) np8
  have h8 := (h7b.app h6b).stb stb_case s8
  have h8a : upd H7 p8 (.lst (vs6 ++ vs7)) p8 = some (.lst (vs6 ++ vs7)) := upd_same
  generalize upd H7 p8 (.lst (vs6 ++ vs7)) = H8 at *
  refine ⟨_, rfl, _, rfl, _, rfl, _, rfl, a4, b4, c4, d4, rfl, fun H9 v9 sm9 h9 => ?_⟩
  obtain ⟨a9, vs9, rfl, h9a, h9b⟩ := h9
  have l9 := h9b.len
  refine ⟨p8, a9, _, vs9, rfl, rfl, sm9 _ _ h8a, h9a, small (n := (vs6 ++ vs7).length + vs9.length) (by rw [List.length_append, l6, l7, l9]; exact Nat.le_of_ble_eq_true rfl), fun p10 np10 => ?_⟩
  have s10' := same_new (o := HO.lst ((vs6 ++ vs7) ++ vs9)) np10
  have hAll := (h9b.app (h8.stb stb_case sm9)).stb stb_case s10'
  have h10a : upd H9 p10 (.lst ((vs6 ++ vs7) ++ vs9)) p10 = some (.lst ((vs6 ++ vs7) ++ vs9)) := upd_same
  have sAll := sm35.trans (sm6.trans (sm7.trans (s8.trans (sm9.trans s10'))))
  have hp10 := sAll _ _ hp3
  generalize upd H9 p10 (.lst ((vs6 ++ vs7) ++ vs9)) = H10 at *
  generalize (vs6 ++ vs7) ++ vs9 = vs at *
  have okAll := all_ok hn4
  generalize cs_walking a4 b4 c4 ++ cs_opening a4 b4 c4 d4 ++ cs_saying a4 b4 c4 d4 = cases at *
  clear s8 sm9 s10' sAll sm35 sm6 sm7 sm5 sm4 h6a h7a h9a h8a h8 h6 l6 l7 l9 h6b h7b h9b
  refine ⟨_, rfl, p10, rfl, ⟨_, SqL.of h10a⟩, for_it (walk_list (xs := vs)) (fun _ σ H' => Same H10 H' ∧ ∃ s2 s8 s9 s10 : Option V, σ = [some (.ref a), some (.int j), s2, some (.str a4), some (.str b4), some (.str c4), some (.str d4), some (.ref p10), s8, s9, s10])
    ⟨(fun _ _ e => e), _, _, _, _, rfl⟩ (fun i σ H' _ hP => SqL.of (hP.1 _ _ h10a)) (fun i x σ Ha Hb hi hP hY => ?_) (fun σ Ha hP => ?_)⟩
  · obtain ⟨sm, s2, s8, s9, s10, rfl⟩ := hP
    obtain ⟨rfl, hx⟩ := hY
    obtain ⟨cs, hcs, hat⟩ := hAll.get hx
    have ok := okAll cs (List.mem_of_getElem? hcs)
    obtain ⟨qa, hv, ln, la, lr, rfl, hq, hrow, hnms, hals, hrus⟩ := stb_case cs _ _ _ sm hat
    obtain ⟨Ln, rfl, hLn⟩ := hnms
    have dt := ok.dot
    refine ⟨qa, _, rfl, SqL.of hq, rfl, _, _, rfl, _, _, rfl, _, _, rfl, _, _, rfl, rfl, ?_⟩
    refine ⟨_, rfl, hv, cs.r, rfl, hrow, Nat.lt_of_lt_of_le ok.dp hn13, ok.sz, Nat.le_of_lt (Nat.lt_of_lt_of_le ok.dp (by decide)), fun L nd h => ok.small nd h, ok.dis, dt.1, dt.2, fun H4 t Dt Dr pls G us S rs kvs s4 ndp mpl mus gr ht hDt hDr hRu ndr kr okr nDt nDr => ?_⟩
    refine ⟨_, rfl, _, rfl, _, rfl, ?_⟩
    refine ⟨Ln, la, lr, cs.nm, cs.al, cs.ru, rfl, s4 _ _ hLn, ok.nd, Nat.lt_of_lt_of_le ok.ln (by decide), stb_ls stb_txs _ _ _ _ s4 hals, ok.al1, ok.al2, stb_ls stb_ru _ _ _ _ s4 hrus, ok.ru1, ok.ru2, fun H6 t' Dg Df Gd kvs' rs' s6 ht' hDg gd hDf hR' ndr' kr' okr' => ?_⟩
    obtain ⟨d1, d2⟩ := cs_same (K := K) ok ndp mpl mus gr (hRu.same s6) ndr kr okr gd hR' ndr' kr' okr'
    exact ⟨t, t', Dt, Dr, Dg, Df, _, _, _, _, rfl, rfl, s6 _ _ ht, ht', s6 _ _ hDt, hDg, s6 _ _ hDr, hDf, d1, d2, _, rfl, iteF ⟨sm.trans (s4.trans s6), _, _, _, _, rfl⟩⟩
  · obtain ⟨sm, s2, s8, s9, s10, rfl⟩ := hP
    exact ⟨sm _ _ hp10, _, _, _, _, _, _, _, _, _, _, rfl⟩
end
end K52

set_option Elab.async false
set_option linter.all false
set_option maxRecDepth 100000
set_option maxHeartbeats 2000000
namespace K52
open PySem PySem.Spec PyProof.Rows L2 Wk
abbrev sLeft : Stmt := topS 22
abbrev sDigit : Stmt := topS 23
abbrev sNames : Stmt := topS 24
theorem scLeft : FnScope ["_law_cell", "_law_left_here", "_law_number", "_law_turn"] ["_law_cell"] (defScope sLeft) := ⟨rfl, rfl, rfl, by decide +kernel, rfl, by decide +kernel, by decide +kernel⟩
theorem scDigit : FnScope ["_law_left_here", "_law_many", "_law_found"] ["_law_left_here", "_law_many"] (defScope sDigit) := ⟨rfl, rfl, rfl, by decide +kernel, rfl, by decide +kernel, by decide +kernel⟩
theorem scNames : FnScope ["_law_left_here", "_law_many", "_law_letters", "_law_start", "_law_found", "_law_k", "_law_word", "_law_j"] ["_law_left_here", "_law_many"] (defScope sNames) := ⟨rfl, rfl, rfl, by decide +kernel, rfl, by decide +kernel, by decide +kernel⟩
section
variable {P : Program} {w : World} {K : PySem.W.Frag} {mg : Str → Option Value} {base : Heap}
/-! ### _law_left: a new list of one number -/
theorem ok_left {f : Addr} {fd : FuncData} {k : Nat} (F : Fun K "_law_left" "_law_left" sLeft f fd) (ma : mg "abs" = none) (mr : mg "range" = none) : FnOk P w K mg base CX0 (k + 1) f fd ["_law_cell"] spLeft := by
  refine F.ok scLeft (fun vs H Q E h => ?_) (fun cdv A outer s H vs Q E hr h => ?_)
  · obtain ⟨v, rfl, _⟩ := h
    rfl
  obtain ⟨c, rfl, q⟩ := h
  refine ⟨_, pss_cons (ps_set (i := 1) scLeft.nd rfl (.inl rfl) (pe_callB call_abs (by rfl) ma (by decide +kernel) (pa_cons (pv 0) pa_nil)))
    (pss_cons (ps_if (pt_cmpR op_lt (pv 1) (pe_op op_pow pe_int pe_int) (nomark _))
      (pss_cons (ps_set (i := 2) scLeft.nd rfl (.inl rfl) (pv 0))
      (pss_one (ps_for PassesOwn.never rfl (pi_range1 rfl mr (pa_cons pe_int pa_nil)) (pg_name (i := 3) scLeft.nd rfl (.inl rfl))
        (pss_cons (ps_set (i := 2) scLeft.nd rfl (.inl rfl) (pe_op op_mod (pe_op op_mul (pe_op op_add (pe_op op_mod (pv 2) pe_int) pe_int) pe_int) pe_int))
        (pss_cons (ps_set (i := 2) scLeft.nd rfl (.inl rfl) (pe_op op_add (pe_op op_mod (pe_op op_mul (pv 2) pe_int) pe_int) (pv 3)))
        (pss_one (ps_set (i := 1) scLeft.nd rfl (.inl rfl) (pe_op op_add (pe_op op_mul (pv 1) pe_int) (pv 2))))))))) pss_nil)
    (pss_one (ps_ret (pe_lst (pa_cons (pv 1) pa_nil))))), ?_⟩
  have one_le : (1 : Nat) ≤ sizeLine := by decide
  refine ⟨_, rfl, c, rfl, _, rfl, _, _, rfl, rfl, by unfold CPow; decide, _, _, rfl, rfl, _, rfl, ite2 (fun h => ?_) (fun h => ?_)⟩
  · refine ⟨_, rfl, 40, rfl, by decide, by decide, for_range (n := 40) (lo := 0) (fun _ σ H' => H' = H ∧ ∃ a d : Option V, ∃ i j : Int, σ = [a, some (.int i), some (.int j), d]) ⟨rfl, _, _, _, _, rfl⟩ (fun i σ H' hi hP => ?_) fun σ H' hP => ?_⟩
    · obtain ⟨rfl, a, d, x, y, rfl⟩ := hP
      refine ⟨_, rfl, _, _, rfl, rfl, pos1, _, _, rfl, rfl, _, _, rfl, rfl, .inr ⟨by decide, by decide⟩, _, _, rfl, rfl, pos1, ?_⟩
      refine ⟨_, rfl, _, _, rfl, rfl, .inr ⟨by decide, by decide⟩, _, _, rfl, rfl, pos2, _, rfl, _, _, rfl, rfl, ?_⟩
      refine ⟨_, rfl, _, _, rfl, rfl, .inr ⟨by decide, by decide⟩, _, rfl, _, _, rfl, rfl, ?_⟩
      exact ⟨rfl, _, _, _, _, rfl⟩
    · obtain ⟨rfl, a, d, x, y, rfl⟩ := hP
      exact ⟨_, rfl, one_le, fun p np => q p _ np⟩
  · exact ⟨_, rfl, one_le, fun p np => q p _ np⟩
/-! ### _law_digit -/
theorem ok_digit {f : Addr} {fd : FuncData} {k : Nat} (F : Fun K "_law_digit" "_law_digit" sDigit f fd) : FnOk P w K mg base CX0 (k + 1) f fd ["_law_left_here", "_law_many"] spDigit := by
  refine F.ok scDigit (fun vs H Q E h => ?_) (fun cdv A outer s H vs Q E hr h => ?_)
  · obtain ⟨L, n, m, rfl, _⟩ := h
    rfl
  obtain ⟨L, n, m, rfl, hL, h0, h1, q⟩ := h
  refine ⟨_, pss_cons (ps_set (i := 2) scDigit.nd rfl (.inl rfl) (pe_op op_mod (pe_ix ix_list (pv 0) pe_int (fun _ _ => rfl)) (pv 1)))
    (pss_cons (ps_asg (pe_op op_fdiv (pe_ix ix_list (pv 0) pe_int (fun _ _ => rfl)) (pv 1)) (pg_sub (pv 0) pe_int set_list))
    (pss_one (ps_ret (pv 2)))), ?_⟩
  refine ⟨_, rfl, L, _, 0, _, rfl, rfl, SqL.of hL, atI_nat (j := 0) rfl, _, rfl, _, _, rfl, rfl, h0, ?_⟩
  refine ⟨_, rfl, L, _, 0, _, rfl, rfl, SqL.of hL, atI_nat (j := 0) rfl, _, rfl, _, _, rfl, rfl, ⟨h0, h1⟩, ?_⟩
  refine ⟨_, rfl, L, _, 0, 0, rfl, rfl, hL, rfl, ?_⟩
  exact ⟨_, rfl, q _ _ (Int.emod_nonneg n (by omega)) (Int.emod_lt_of_pos n h0)⟩
/-! ### _law_names -/
theorem ok_names {f fD : Addr} {fd fdD : FuncData} (F : Fun K "_law_names" "_law_names" sNames f fd) (GD : FnOk P w K mg base CX0 1 fD fdD ["_law_left_here", "_law_many"] spDigit) (bD : Binds K fdD ["_law_left_here", "_law_many"] []) (kD : PySem.W.keepIn K (.ref fD) = true)
    (mD : mg "_law_digit" = some (.ref fD)) (mr : mg "range" = none) : FnOk P w K mg base CX0 2 f fd ["_law_left_here", "_law_many"] spNames := by
  refine F.ok scNames (fun vs H Q E h => ?_) (fun cdv A outer s H vs Q E hr h => ?_)
  · obtain ⟨L, n, m, rfl, _⟩ := h
    rfl
  obtain ⟨L, n, m, rfl, hL, hm, q⟩ := h
  refine ⟨_, pss_cons (ps_set (i := 2) scNames.nd rfl (.inl rfl) pe_str)
    (pss_cons (ps_set (i := 3) scNames.nd rfl (.inl rfl) (pe_call GD hr (by rfl) mD kD bD .nil pass0 (pa_cons (pv 0) (pa_cons pe_int pa_nil))))
    (pss_cons (ps_set (i := 4) scNames.nd rfl (.inl rfl) (pe_lst pa_nil))
    (pss_cons (ps_for PassesOwn.never rfl (pi_range1 rfl mr (pa_cons (pv 1) pa_nil)) (pg_name (i := 5) scNames.nd rfl (.inl rfl))
        (pss_cons (ps_set (i := 6) scNames.nd rfl (.inl rfl) (pe_ix ix_str (pv 2) (pe_op op_mod (pe_op op_add (pv 3) (pe_op op_mul pe_int (pv 5))) pe_int) (fun _ _ => rfl)))
        (pss_cons (ps_for PassesOwn.never rfl (pi_range1 rfl mr (pa_cons (pe_call GD hr (by rfl) mD kD bD .nil pass0 (pa_cons (pv 0) (pa_cons pe_int pa_nil))) pa_nil)) (pg_name (i := 7) scNames.nd rfl (.inl rfl))
          (pss_one (ps_set (i := 6) scNames.nd rfl (.inl rfl) (pe_op op_add_str (pv 6) (pe_ix ix_str pe_str (pe_call GD hr (by rfl) mD kD bD .nil pass0 (pa_cons (pv 0) (pa_cons pe_int pa_nil))) (fun _ _ => rfl))))))
        (pss_one (ps_expr (pe_bm PySem.F.plainAttrs_list PySem.F.slot_list_append PySem.F.type_list_append mt_append (pv 4) (pa_cons (pv 6) pa_nil)))))))
    (pss_one (ps_ret (pv 4)))))), ?_⟩
  refine ⟨_, rfl, L, n, 26, rfl, hL, by decide, by decide, fun st n1 st0 st1 => ?_⟩
  refine ⟨(show 0 ≤ sizeLine by decide), fun p np => ?_⟩
  have pL : p ≠ L := fun e => by
    rw [e, upd_same] at np
    cases np
  have nH : H p = none := by rw [upd_ne pL] at np; exact np
  have x1 : StL L H (upd (upd H L (.lst [.int n1])) p (.lst [])) := (StL.put n1).trans (StL.new upd_same np)
  refine ⟨_, rfl, (m : Int), rfl, by omega, by omega, for_range (n := m) (lo := 0) (fun i σ H' => StL L H H' ∧ ∃ zs : List Str, H' p = some (.lst (zs.map V.str)) ∧ zs.length = i ∧ (∀ j z, zs[j]? = some z → NameOf ((st.toNat + 5 * j) % 26) z) ∧
      ∃ s5 s6 s7 : Option V, σ = [some (.ref L), some (.int m), some (.str abc), some (.int st), some (.ref p), s5, s6, s7]) ⟨x1, [], upd_same, rfl, fun j z e => (by simp at e), _, _, _, rfl⟩ (fun i σ H' hi hP => ?_) fun σ H' hP => ?_⟩
  · obtain ⟨x2, zs, hp, hl, hn, s5, s6, s7, rfl⟩ := hP
    have ei : (st + 5 * (0 + (i : Int))) % 26 = (((st.toNat + 5 * i) % 26 : Nat) : Int) := by omega
    refine ⟨_, rfl, _, rfl, _, rfl, _, _, rfl, rfl, .inl ⟨by decide, by decide⟩, _, _, rfl, rfl, _, _, rfl, rfl, (show (0 : Int) < 26 by decide), ?_⟩
    refine ⟨abc, _, 97 + (st.toNat + 5 * i) % 26, rfl, rfl, by decide +kernel, by rw [ei]; exact atI_nat (abc_at _ (Nat.mod_lt _ (by decide))), ?_⟩
    obtain ⟨n2, hn2⟩ := x2.2
    refine ⟨_, rfl, L, n2, 6, rfl, hn2, by decide, by decide, fun d n3 d0 d1 => ?_⟩
    have x3 := x2.trans (StL.put (H := H') (L := L) n3)
    have hp3 : upd H' L (.lst [.int n3]) p = some (.lst (zs.map V.str)) := by rw [upd_ne pL]; exact hp
    refine ⟨d, rfl, Int.le_trans (by decide) d0, Int.lt_of_lt_of_le d1 (by decide), for_range (n := d.toNat) (lo := 0) (fun j σ H' => StL L H H' ∧ H' p = some (.lst (zs.map V.str)) ∧ ∃ (z : Str) (r : List Nat), z.cps.toList = (97 + (st.toNat + 5 * i) % 26) :: r ∧ r.length = j ∧ (∀ c ∈ r, c ∈ vow.cps.toList) ∧
      ∃ s5 s7 : Option V, σ = [some (.ref L), some (.int m), some (.str abc), some (.int st), some (.ref p), s5, some (.str z), s7]) ⟨x3, hp3, _, [], rfl, rfl, fun c hc => (nomatch hc), _, _, rfl⟩ (fun j σ H' hj hP => ?_) fun σ H' hP => ?_⟩
    · obtain ⟨x4, hp4, z, r, ez, hr1, hv, s5, s7, rfl⟩ := hP
      obtain ⟨n4, hn4⟩ := x4.2
      refine ⟨_, rfl, _, rfl, L, n4, 8, rfl, hn4, by decide, by decide, fun g n5 g0 g1 => ?_⟩
      obtain ⟨c, hc, hat, _⟩ := atX_lt (l := vow.cps.toList) g0 (by rw [vow_len]; exact g1)
      refine ⟨vow, g, c, rfl, rfl, by decide +kernel, hat, z, _, rfl, rfl, ?_, ?_⟩
      · have hz : z.length = r.length + 1 := by
          show z.cps.size = _
          rw [← Array.length_toList, ez, List.length_cons]
        exact small (by rw [hz]; show r.length + 1 + 1 ≤ 1000; omega)
      · refine ⟨x4.trans (StL.put n5), by rw [upd_ne pL]; exact hp4, _, r ++ [c], ?_, ?_, ?_, _, _, rfl⟩
        · rw [app_codes, ez, List.cons_append]
        · rw [List.length_append, hr1]
          rfl
        · intro e he
          rcases List.mem_append.mp he with u | u
          · exact hv e u
          · rw [List.mem_singleton.mp u]
            exact hc
    · obtain ⟨x4, hp4, z, r, ez, hr1, hv, s5, s7, rfl⟩ := hP
      refine ⟨_, rfl, .inl ⟨rfl, _, SqL.of hp4⟩, _, rfl, p, _, _, rfl, rfl, hp4, by rw [List.length_map]; exact small1000 (by omega), ?_⟩
      obtain ⟨n4, hn4⟩ := x4.2
      refine ⟨⟨fun b o nb e => ?_, n4, by rw [upd_ne (Ne.symm pL)]; exact hn4⟩, zs ++ [z], by rw [upd_same, List.map_append]; rfl, by rw [List.length_append, hl]; rfl, fun j y hy => ?_, _, _, _, rfl⟩
      · rw [upd_ne (ne_of_none e nH)]
        exact x4.1 b o nb e
      · by_cases hj : j < zs.length
        · rw [List.getElem?_append_left hj] at hy
          exact hn j y hy
        · have ej : j = i := by
            have := (List.getElem?_eq_some_iff.mp hy).1
            rw [List.length_append, List.length_singleton] at this
            omega
          rw [List.getElem?_append_right (by omega), show j - zs.length = 0 by omega] at hy
          rw [← Option.some.inj (show some z = some y from hy), ej]
          exact ⟨r, ez, by omega, hv⟩
  · obtain ⟨x2, zs, hp, hl, hn, s5, s6, s7, rfl⟩ := hP
    exact ⟨_, rfl, q H' p st.toNat zs x2 nH hp hl (by omega) hn⟩
/-! ### _law_part and _law_row, by the room that is left -/
end
end K52

set_option Elab.async false
set_option linter.all false
set_option maxRecDepth 100000
set_option maxHeartbeats 2000000
namespace K52
open PySem PySem.Spec PyProof.Rows L2 Wk GxR
theorem all_mk {l : PySem.W.OpenLaw} {w : World} {K : PySem.W.Frag} {h : Heap} {mg : Str → Option Value} {fa f1 f2 f3 f4 f5 f6 f7 f8 f9 f10 f11 f12 f13 f14 f15 f16 f17 f18 f19 f20 f21 f22 t1 t2  : Addr} (X : K.In h) (G : h.Ns mainGlobals mg) (hfa : mg "law" = some (.ref fa))
    {od1 an1 od2 an2 od3 an3 od4 an4 od5 an5 od6 an6 od7 an7 od8 an8 od9 an9 od10 an10 od11 an11 od12 an12 od13 an13 od14 an14 od15 an15 od16 an16 od17 an17 od18 an18 od19 an19 od20 an20 od21 an21 od22 an22 : Option Addr} {sl1 sl2 sl3 sl4 sl5 sl6 sl7 sl8 sl9 sl10 sl11 sl12 sl13 sl14 sl15 sl16 sl17 sl18 sl19 sl20 sl21 sl22 : Array (Option Value)} {oc1 kV1 dc1 pm1 cd1 ct1 oc2 kV2 dc2 pm2 cd2 ct2 oc3 kV3 dc3 pm3 cd3 ct3 oc4 kV4 dc4 pm4 cd4 ct4 oc5 kV5 dc5 pm5 cd5 ct5 oc6 kV6 dc6 pm6 cd6 ct6 oc7 kV7 dc7 pm7 cd7 ct7 oc8 kV8 dc8 pm8 cd8 ct8 oc9 kV9 dc9 pm9 cd9 ct9 oc10 kV10 dc10 pm10 cd10 ct10 oc11 kV11 dc11 pm11 cd11 ct11 oc12 kV12 dc12 pm12 cd12 ct12 oc13 kV13 dc13 pm13 cd13 ct13 oc14 kV14 dc14 pm14 cd14 ct14 oc15 kV15 dc15 pm15 cd15 ct15 oc16 kV16 dc16 pm16 cd16 ct16 oc17 kV17 dc17 pm17 cd17 ct17 oc18 kV18 dc18 pm18 cd18 ct18 oc19 kV19 dc19 pm19 cd19 ct19 oc20 kV20 dc20 pm20 cd20 ct20 oc21 kV21 dc21 pm21 cd21 ct21 oc22 kV22 dc22 pm22 cd22 ct22 : Value}
    (a1 : PySem.W.nsIn K mainGlobals "calling_of" = some (some (.ref f1)))
    (l1 : K.lookup f1 = some ⟨oc1, od1, .func (PySem.W.fnOf "calling_of" "calling_of" (defArgs sCalling) (defBody sCalling) (defScope sCalling) .none kV1 dc1 pm1 an1 cd1 ct1), sl1⟩)
    (c1 : PySem.W.codeIn K cd1 "calling_of" = true) (k1 : PySem.W.keepIn K (.ref f1) = true)
    (a2 : PySem.W.nsIn K mainGlobals "rest_of" = some (some (.ref f2)))
    (l2 : K.lookup f2 = some ⟨oc2, od2, .func (PySem.W.fnOf "rest_of" "rest_of" (defArgs sRest) (defBody sRest) (defScope sRest) .none kV2 dc2 pm2 an2 cd2 ct2), sl2⟩)
    (c2 : PySem.W.codeIn K cd2 "rest_of" = true) (k2 : PySem.W.keepIn K (.ref f2) = true)
    (a3 : PySem.W.nsIn K mainGlobals "is_binder" = some (some (.ref f3)))
    (l3 : K.lookup f3 = some ⟨oc3, od3, .func (PySem.W.fnOf "is_binder" "is_binder" (defArgs sBinder) (defBody sBinder) (defScope sBinder) .none kV3 dc3 pm3 an3 cd3 ct3), sl3⟩)
    (c3 : PySem.W.codeIn K cd3 "is_binder" = true) (k3 : PySem.W.keepIn K (.ref f3) = true)
    (a4 : PySem.W.nsIn K mainGlobals "gather_callings" = some (some (.ref f4)))
    (l4 : K.lookup f4 = some ⟨oc4, od4, .func (PySem.W.fnOf "gather_callings" "gather_callings" (defArgs sGather) (defBody sGather) (defScope sGather) .none kV4 dc4 pm4 an4 cd4 ct4), sl4⟩)
    (c4 : PySem.W.codeIn K cd4 "gather_callings" = true) (k4 : PySem.W.keepIn K (.ref f4) = true)
    (a5 : PySem.W.nsIn K mainGlobals "callings_of" = some (some (.ref f5)))
    (l5 : K.lookup f5 = some ⟨oc5, od5, .func (PySem.W.fnOf "callings_of" "callings_of" (defArgs sCallings) (defBody sCallings) (defScope sCallings) .none kV5 dc5 pm5 an5 cd5 ct5), sl5⟩)
    (c5 : PySem.W.codeIn K cd5 "callings_of" = true) (k5 : PySem.W.keepIn K (.ref f5) = true)
    (a6 : PySem.W.nsIn K mainGlobals "free_in" = some (some (.ref f6)))
    (l6 : K.lookup f6 = some ⟨oc6, od6, .func (PySem.W.fnOf "free_in" "free_in" (defArgs sFree) (defBody sFree) (defScope sFree) .none kV6 dc6 pm6 an6 cd6 ct6), sl6⟩)
    (c6 : PySem.W.codeIn K cd6 "free_in" = true) (k6 : PySem.W.keepIn K (.ref f6) = true)
    (a7 : PySem.W.nsIn K mainGlobals "bound_in" = some (some (.ref f7)))
    (l7 : K.lookup f7 = some ⟨oc7, od7, .func (PySem.W.fnOf "bound_in" "bound_in" (defArgs sBound) (defBody sBound) (defScope sBound) .none kV7 dc7 pm7 an7 cd7 ct7), sl7⟩)
    (c7 : PySem.W.codeIn K cd7 "bound_in" = true) (k7 : PySem.W.keepIn K (.ref f7) = true)
    (a8 : PySem.W.nsIn K mainGlobals "places_of" = some (some (.ref f8)))
    (l8 : K.lookup f8 = some ⟨oc8, od8, .func (PySem.W.fnOf "places_of" "places_of" (defArgs sPlaces) (defBody sPlaces) (defScope sPlaces) .none kV8 dc8 pm8 an8 cd8 ct8), sl8⟩)
    (c8 : PySem.W.codeIn K cd8 "places_of" = true) (k8 : PySem.W.keepIn K (.ref f8) = true)
    (a9 : PySem.W.nsIn K mainGlobals "uses_in" = some (some (.ref f9)))
    (l9 : K.lookup f9 = some ⟨oc9, od9, .func (PySem.W.fnOf "uses_in" "uses_in" (defArgs sUsesIn) (defBody sUsesIn) (defScope sUsesIn) .none kV9 dc9 pm9 an9 cd9 ct9), sl9⟩)
    (c9 : PySem.W.codeIn K cd9 "uses_in" = true) (k9 : PySem.W.keepIn K (.ref f9) = true)
    (a10 : PySem.W.nsIn K mainGlobals "all_within" = some (some (.ref f10)))
    (l10 : K.lookup f10 = some ⟨oc10, od10, .func (PySem.W.fnOf "all_within" "all_within" (defArgs sAll) (defBody sAll) (defScope sAll) .none kV10 dc10 pm10 an10 cd10 ct10), sl10⟩)
    (c10 : PySem.W.codeIn K cd10 "all_within" = true) (k10 : PySem.W.keepIn K (.ref f10) = true)
    (a11 : PySem.W.nsIn K mainGlobals "groups_told" = some (some (.ref f11)))
    (l11 : K.lookup f11 = some ⟨oc11, od11, .func (PySem.W.fnOf "groups_told" "groups_told" (defArgs sGTold) (defBody sGTold) (defScope sGTold) .none kV11 dc11 pm11 an11 cd11 ct11), sl11⟩)
    (c11 : PySem.W.codeIn K cd11 "groups_told" = true) (k11 : PySem.W.keepIn K (.ref f11) = true)
    (a12 : PySem.W.nsIn K mainGlobals "groups_used" = some (some (.ref f12)))
    (l12 : K.lookup f12 = some ⟨oc12, od12, .func (PySem.W.fnOf "groups_used" "groups_used" (defArgs sGUsed) (defBody sGUsed) (defScope sGUsed) .none kV12 dc12 pm12 an12 cd12 ct12), sl12⟩)
    (c12 : PySem.W.codeIn K cd12 "groups_used" = true) (k12 : PySem.W.keepIn K (.ref f12) = true)
    (a13 : PySem.W.nsIn K mainGlobals "told_kinds" = some (some (.ref f13)))
    (l13 : K.lookup f13 = some ⟨oc13, od13, .func (PySem.W.fnOf "told_kinds" "told_kinds" (defArgs sKinds) (defBody sKinds) (defScope sKinds) .none kV13 dc13 pm13 an13 cd13 ct13), sl13⟩)
    (c13 : PySem.W.codeIn K cd13 "told_kinds" = true) (k13 : PySem.W.keepIn K (.ref f13) = true)
    (a14 : PySem.W.nsIn K mainGlobals "_law_left" = some (some (.ref f14)))
    (l14 : K.lookup f14 = some ⟨oc14, od14, .func (PySem.W.fnOf "_law_left" "_law_left" (defArgs sLeft) (defBody sLeft) (defScope sLeft) .none kV14 dc14 pm14 an14 cd14 ct14), sl14⟩)
    (c14 : PySem.W.codeIn K cd14 "_law_left" = true) (k14 : PySem.W.keepIn K (.ref f14) = true)
    (a15 : PySem.W.nsIn K mainGlobals "_law_digit" = some (some (.ref f15)))
    (l15 : K.lookup f15 = some ⟨oc15, od15, .func (PySem.W.fnOf "_law_digit" "_law_digit" (defArgs sDigit) (defBody sDigit) (defScope sDigit) .none kV15 dc15 pm15 an15 cd15 ct15), sl15⟩)
    (c15 : PySem.W.codeIn K cd15 "_law_digit" = true) (k15 : PySem.W.keepIn K (.ref f15) = true)
    (a16 : PySem.W.nsIn K mainGlobals "_law_names" = some (some (.ref f16)))
    (l16 : K.lookup f16 = some ⟨oc16, od16, .func (PySem.W.fnOf "_law_names" "_law_names" (defArgs sNames) (defBody sNames) (defScope sNames) .none kV16 dc16 pm16 an16 cd16 ct16), sl16⟩)
    (c16 : PySem.W.codeIn K cd16 "_law_names" = true) (k16 : PySem.W.keepIn K (.ref f16) = true)
    (a17 : PySem.W.nsIn K mainGlobals "_law_due" = some (some (.ref f17)))
    (l17 : K.lookup f17 = some ⟨oc17, od17, .func (PySem.W.fnOf "_law_due" "_law_due" (defArgs sDu) (defBody sDu) (defScope sDu) .none kV17 dc17 pm17 an17 cd17 ct17), sl17⟩)
    (c17 : PySem.W.codeIn K cd17 "_law_due" = true) (k17 : PySem.W.keepIn K (.ref f17) = true)
    (a18 : PySem.W.nsIn K mainGlobals "_law_walking" = some (some (.ref f18)))
    (l18 : K.lookup f18 = some ⟨oc18, od18, .func (PySem.W.fnOf "_law_walking" "_law_walking" (defArgs sWalking) (defBody sWalking) (defScope sWalking) .none kV18 dc18 pm18 an18 cd18 ct18), sl18⟩)
    (c18 : PySem.W.codeIn K cd18 "_law_walking" = true) (k18 : PySem.W.keepIn K (.ref f18) = true)
    (a19 : PySem.W.nsIn K mainGlobals "_law_opening" = some (some (.ref f19)))
    (l19 : K.lookup f19 = some ⟨oc19, od19, .func (PySem.W.fnOf "_law_opening" "_law_opening" (defArgs sOpening) (defBody sOpening) (defScope sOpening) .none kV19 dc19 pm19 an19 cd19 ct19), sl19⟩)
    (c19 : PySem.W.codeIn K cd19 "_law_opening" = true) (k19 : PySem.W.keepIn K (.ref f19) = true)
    (a20 : PySem.W.nsIn K mainGlobals "_law_saying" = some (some (.ref f20)))
    (l20 : K.lookup f20 = some ⟨oc20, od20, .func (PySem.W.fnOf "_law_saying" "_law_saying" (defArgs sSaying) (defBody sSaying) (defScope sSaying) .none kV20 dc20 pm20 an20 cd20 ct20), sl20⟩)
    (c20 : PySem.W.codeIn K cd20 "_law_saying" = true) (k20 : PySem.W.keepIn K (.ref f20) = true)
    (a21 : PySem.W.nsIn K mainGlobals "_law_chain" = some (some (.ref f21)))
    (l21 : K.lookup f21 = some ⟨oc21, od21, .func (PySem.W.fnOf "_law_chain" "_law_chain" (defArgs sChain) (defBody sChain) (defScope sChain) .none kV21 dc21 pm21 an21 cd21 ct21), sl21⟩)
    (c21 : PySem.W.codeIn K cd21 "_law_chain" = true) (k21 : PySem.W.keepIn K (.ref f21) = true)
    (a22 : PySem.W.nsIn K mainGlobals "law" = some (some (.ref f22)))
    (l22 : K.lookup f22 = some ⟨oc22, od22, .func (PySem.W.fnOf "law" "law" (defArgs sLaw) (defBody sLaw) (defScope sLaw) .none kV22 dc22 pm22 an22 cd22 ct22), sl22⟩)
    (c22 : PySem.W.codeIn K cd22 "law" = true) (k22 : PySem.W.keepIn K (.ref f22) = true)
    (z1 : PySem.W.nsIn K mainGlobals "abs" = some none)
    (z2 : PySem.W.nsIn K mainGlobals "range" = some none)
    (z3 : PySem.W.nsIn K mainGlobals "list" = some none)
    (z4 : PySem.W.nsIn K mainGlobals "sorted" = some none)
    (z5 : PySem.W.nsIn K mainGlobals "set" = some none)
    (z6 : PySem.W.nsIn K mainGlobals "len" = some none)
    (z7 : PySem.W.nsIn K mainGlobals "dict" = some none)
    (z8 : PySem.W.nsIn K mainGlobals "min" = some none)
    {u1_0 u1_1 : Tok} {dd1 : Option Addr} {nn1 : Nat} {sl_1 : Array (Option Value)} (y1 : PySem.W.nsIn K mainGlobals "BINDING_WORDS" = some (some (.ref t1)))
    (x1 : K.lookup t1 = some ⟨.type "tuple", dd1, .seq #[.str "hear" u1_0, .str "new" u1_1] nn1, sl_1⟩)
    {u2_0 u2_1 u2_2 u2_3 u2_4 : Tok} {dd2 : Option Addr} {nn2 : Nat} {sl_2 : Array (Option Value)} (y2 : PySem.W.nsIn K mainGlobals "USE_WORDS" = some (some (.ref t2)))
    (x2 : K.lookup t2 = some ⟨.type "tuple", dd2, .seq #[.str "in" u2_0, .str "out" u2_1, .str "open" u2_2, .str "say" u2_3, .str "hear" u2_4] nn2, sl_2⟩)
    {tk1 : Tok} (r1 : PySem.W.nsIn K mainGlobals "AROUND" = some (some (.str "." tk1)))

    {CW fw0 fw1 fw2 fw3 : Addr} {wod0 wan0 wod1 wan1 wod2 wan2 wod3 wan3 : Option Addr} {wsl0 wsl1 wsl2 wsl3 : Array (Option Value)} {woc0 wkV0 wdc0 wpm0 wcd0 wct0 woc1 wkV1 wdc1 wpm1 wcd1 wct1 woc2 wkV2 wdc2 wpm2 wcd2 wct2 woc3 wkV3 wdc3 wpm3 wcd3 wct3 : Value}
    (wa0 : PySem.W.nsIn K mainGlobals "Groups" = some (some (.ref CW))) (wpg : PySem.W.plainGet K CW Str.empty = true) (whd : PySem.W.hasDictIn K CW = true) (wpo : PySem.W.plainOver K CW = true) (wsa : PySem.W.findIn K (.ref CW) "__setattr__" = some (some (.builtin "object.__setattr__"))) (wmk : PySem.W.makesIn K CW = true) (wkc : PySem.W.keepIn K (.ref CW) = true)
    (wnG : PySem.W.findIn K (.ref CW) "group_by_name" = some none) (wnS : PySem.W.findIn K (.ref CW) "said" = some none) (wnC : PySem.W.findIn K (.ref CW) "changes" = some none)
    (wf0 : PySem.W.findIn K (.ref CW) "__init__" = some (some (.ref fw0))) (wi0 : PySem.W.isFn K (.ref fw0) = true) (wl0 : K.lookup fw0 = some ⟨woc0, wod0, .func (PySem.W.fnOf "__init__" "Groups.__init__" (defArgs sGInit) (defBody sGInit) (defScope sGInit) .none wkV0 wdc0 wpm0 wan0 wcd0 wct0), wsl0⟩) (wc0 : PySem.W.codeIn K wcd0 "Groups.__init__" = true) (wk0 : PySem.W.keepIn K (.ref fw0) = true)
    (wf1 : PySem.W.findIn K (.ref CW) "group_said" = some (some (.ref fw1))) (wi1 : PySem.W.isFn K (.ref fw1) = true) (wl1 : K.lookup fw1 = some ⟨woc1, wod1, .func (PySem.W.fnOf "group_said" "Groups.group_said" (defArgs sGSaid) (defBody sGSaid) (defScope sGSaid) .none wkV1 wdc1 wpm1 wan1 wcd1 wct1), wsl1⟩) (wc1 : PySem.W.codeIn K wcd1 "Groups.group_said" = true) (wk1 : PySem.W.keepIn K (.ref fw1) = true)
    (wf2 : PySem.W.findIn K (.ref CW) "let_say" = some (some (.ref fw2))) (wi2 : PySem.W.isFn K (.ref fw2) = true) (wl2 : K.lookup fw2 = some ⟨woc2, wod2, .func (PySem.W.fnOf "let_say" "Groups.let_say" (defArgs sGLet) (defBody sGLet) (defScope sGLet) .none wkV2 wdc2 wpm2 wan2 wcd2 wct2), wsl2⟩) (wc2 : PySem.W.codeIn K wcd2 "Groups.let_say" = true) (wk2 : PySem.W.keepIn K (.ref fw2) = true)
    (wf3 : PySem.W.findIn K (.ref CW) "put_together" = some (some (.ref fw3))) (wi3 : PySem.W.isFn K (.ref fw3) = true) (wl3 : K.lookup fw3 = some ⟨woc3, wod3, .func (PySem.W.fnOf "put_together" "Groups.put_together" (defArgs sGPut) (defBody sGPut) (defScope sGPut) .none wkV3 wdc3 wpm3 wan3 wcd3 wct3), wsl3⟩) (wc3 : PySem.W.codeIn K wcd3 "Groups.put_together" = true) (wk3 : PySem.W.keepIn K (.ref fw3) = true)
    : ∃ fd : FuncData, (∀ (s : Shared) (v : Value), BindsTo s fd ⟨[v], []⟩ [("_law_script", v)]) ∧ ∀ base : Heap, K.In base → base.Ns mainGlobals mg → FnOk l.prog w K mg base CX0 20 fa fd ["_law_script"] (spLaw K) := by
  have e := hfa.symm.trans (PySem.W.mg_of X G a22)
  cases e
  have F1 := fun_mk (st := sCalling) l1 c1 k1
  have g1 := PySem.W.mg_of X G a1
  have b1 := F1.binds (ps := ["part"]) fun _ _ _ _ _ _ us hl => match us, hl with | [_], _ => rfl
  have F2 := fun_mk (st := sRest) l2 c2 k2
  have g2 := PySem.W.mg_of X G a2
  have b2 := F2.binds (ps := ["part"]) fun _ _ _ _ _ _ us hl => match us, hl with | [_], _ => rfl
  have F3 := fun_mk (st := sBinder) l3 c3 k3
  have g3 := PySem.W.mg_of X G a3
  have b3 := F3.binds (ps := ["part"]) fun _ _ _ _ _ _ us hl => match us, hl with | [_], _ => rfl
  have F4 := fun_mk (st := sGather) l4 c4 k4
  have g4 := PySem.W.mg_of X G a4
  have b4 := F4.binds (ps := ["row", "around", "free", "bound"]) fun _ _ _ _ _ _ us hl => match us, hl with | [_, _, _, _], _ => rfl
  have F5 := fun_mk (st := sCallings) l5 c5 k5
  have g5 := PySem.W.mg_of X G a5
  have b5 := F5.binds (ps := ["row"]) fun _ _ _ _ _ _ us hl => match us, hl with | [_], _ => rfl
  have F6 := fun_mk (st := sFree) l6 c6 k6
  have g6 := PySem.W.mg_of X G a6
  have b6 := F6.binds (ps := ["row"]) fun _ _ _ _ _ _ us hl => match us, hl with | [_], _ => rfl
  have F7 := fun_mk (st := sBound) l7 c7 k7
  have g7 := PySem.W.mg_of X G a7
  have b7 := F7.binds (ps := ["house"]) fun _ _ _ _ _ _ us hl => match us, hl with | [_], _ => rfl
  have F8 := fun_mk (st := sPlaces) l8 c8 k8
  have g8 := PySem.W.mg_of X G a8
  have b8 := F8.binds (ps := ["house"]) fun _ _ _ _ _ _ us hl => match us, hl with | [_], _ => rfl
  have F9 := fun_mk (st := sUsesIn) l9 c9 k9
  have g9 := PySem.W.mg_of X G a9
  have b9 := F9.binds (ps := ["house"]) fun _ _ _ _ _ _ us hl => match us, hl with | [_], _ => rfl
  have F10 := fun_mk (st := sAll) l10 c10 k10
  have g10 := PySem.W.mg_of X G a10
  have b10 := F10.binds (ps := ["lists", "place"]) fun _ _ _ _ _ _ us hl => match us, hl with | [_, _], _ => rfl
  have F11 := fun_mk (st := sGTold) l11 c11 k11
  have g11 := PySem.W.mg_of X G a11
  have b11 := F11.binds (ps := ["places", "uses"]) fun _ _ _ _ _ _ us hl => match us, hl with | [_, _], _ => rfl
  have F12 := fun_mk (st := sGUsed) l12 c12 k12
  have g12 := PySem.W.mg_of X G a12
  have b12 := F12.binds (ps := ["told", "uses", "words"]) fun _ _ _ _ _ _ us hl => match us, hl with | [_, _, _], _ => rfl
  have F13 := fun_mk (st := sKinds) l13 c13 k13
  have g13 := PySem.W.mg_of X G a13
  have b13 := F13.binds (ps := ["house"]) fun _ _ _ _ _ _ us hl => match us, hl with | [_], _ => rfl
  have F14 := fun_mk (st := sLeft) l14 c14 k14
  have g14 := PySem.W.mg_of X G a14
  have b14 := F14.binds (ps := ["_law_cell"]) fun _ _ _ _ _ _ us hl => match us, hl with | [_], _ => rfl
  have F15 := fun_mk (st := sDigit) l15 c15 k15
  have g15 := PySem.W.mg_of X G a15
  have b15 := F15.binds (ps := ["_law_left_here", "_law_many"]) fun _ _ _ _ _ _ us hl => match us, hl with | [_, _], _ => rfl
  have F16 := fun_mk (st := sNames) l16 c16 k16
  have g16 := PySem.W.mg_of X G a16
  have b16 := F16.binds (ps := ["_law_left_here", "_law_many"]) fun _ _ _ _ _ _ us hl => match us, hl with | [_, _], _ => rfl
  have F17 := fun_mk (st := sDu) l17 c17 k17
  have g17 := PySem.W.mg_of X G a17
  have b17 := F17.binds (ps := ["_law_names_here", "_law_alike", "_law_rules"]) fun _ _ _ _ _ _ us hl => match us, hl with | [_, _, _], _ => rfl
  have F18 := fun_mk (st := sWalking) l18 c18 k18
  have g18 := PySem.W.mg_of X G a18
  have b18 := F18.binds (ps := ["_law_a", "_law_b", "_law_c"]) fun _ _ _ _ _ _ us hl => match us, hl with | [_, _, _], _ => rfl
  have F19 := fun_mk (st := sOpening) l19 c19 k19
  have g19 := PySem.W.mg_of X G a19
  have b19 := F19.binds (ps := ["_law_a", "_law_b", "_law_c", "_law_d"]) fun _ _ _ _ _ _ us hl => match us, hl with | [_, _, _, _], _ => rfl
  have F20 := fun_mk (st := sSaying) l20 c20 k20
  have g20 := PySem.W.mg_of X G a20
  have b20 := F20.binds (ps := ["_law_a", "_law_b", "_law_c", "_law_d"]) fun _ _ _ _ _ _ us hl => match us, hl with | [_, _, _, _], _ => rfl
  have F21 := fun_mk (st := sChain) l21 c21 k21
  have g21 := PySem.W.mg_of X G a21
  have b21 := F21.binds (ps := ["_law_names_here"]) fun _ _ _ _ _ _ us hl => match us, hl with | [_], _ => rfl
  have F22 := fun_mk (st := sLaw) l22 c22 k22
  have g22 := PySem.W.mg_of X G a22
  have n1 := PySem.W.mg_none_of X G z1
  have n2 := PySem.W.mg_none_of X G z2
  have n3 := PySem.W.mg_none_of X G z3
  have n4 := PySem.W.mg_none_of X G z4
  have n5 := PySem.W.mg_none_of X G z5
  have n6 := PySem.W.mg_none_of X G z6
  have n7 := PySem.W.mg_none_of X G z7
  have n8 := PySem.W.mg_none_of X G z8
  have v1 := PySem.W.mg_of X G y1
  have U1 : ∀ H, SqT K H t1 [.str "hear", .str "new"] := fun H => .inr ⟨_, _, _, x1, rfl, rfl, (show 2 ≤ sizeLine by decide), (.cons ⟨_, rfl⟩ (.cons ⟨_, rfl⟩ .nil))⟩
  have v2 := PySem.W.mg_of X G y2
  have U2 : ∀ H, SqT K H t2 [.str "in", .str "out", .str "open", .str "say", .str "hear"] := fun H => .inr ⟨_, _, _, x2, rfl, rfl, (show 5 ≤ sizeLine by decide), (.cons ⟨_, rfl⟩ (.cons ⟨_, rfl⟩ (.cons ⟨_, rfl⟩ (.cons ⟨_, rfl⟩ (.cons ⟨_, rfl⟩ .nil)))))⟩
  have o1 := PySem.W.mg_of X G r1
  refine ⟨PySem.W.fnOf "law" "law" (defArgs sLaw) (defBody sLaw) (defScope sLaw) .none kV22 dc22 pm22 an22 cd22 ct22, fun s v => .of_eq rfl, fun base _ _ => ?_⟩
  have gW := PySem.W.mg_of X G wa0
  have WC : GpC K CW := ⟨⟨wpg, whd, wpo, wsa⟩, wnG, wnS, wnC⟩
  have MW : Mk K CW fw0 := ⟨wmk, wf0, wi0, wkc⟩
  have FW0 := fun_mk (st := sGInit) wl0 wc0 wk0
  have bw0 := FW0.binds (ps := ["self", "places"]) fun _ _ _ _ _ _ us hl => match us, hl with | [_, _], _ => rfl
  have FW1 := fun_mk (st := sGSaid) wl1 wc1 wk1
  have bw1 := FW1.binds (ps := ["self", "group"]) fun _ _ _ _ _ _ us hl => match us, hl with | [_, _], _ => rfl
  have mw1 : Meth K CW "group_said" fw1 := ⟨wf1, wi1, wk1⟩
  have FW2 := fun_mk (st := sGLet) wl2 wc2 wk2
  have bw2 := FW2.binds (ps := ["self", "place", "name"]) fun _ _ _ _ _ _ us hl => match us, hl with | [_, _, _], _ => rfl
  have mw2 : Meth K CW "let_say" fw2 := ⟨wf2, wi2, wk2⟩
  have FW3 := fun_mk (st := sGPut) wl3 wc3 wk3
  have bw3 := FW3.binds (ps := ["self", "one", "other"]) fun _ _ _ _ _ _ us hl => match us, hl with | [_, _, _], _ => rfl
  have mw3 : Meth K CW "put_together" fw3 := ⟨wf3, wi3, wk3⟩
  have G1 := ok_calling (P := l.prog) (w := w) (mg := mg) (base := base) (k := 0) F1
  have G2 := ok_rest (P := l.prog) (w := w) (mg := mg) (base := base) (k := 0) F2
  have G3 := ok_binder (P := l.prog) (w := w) (base := base) (k := 0) F3 v1 U1
  have G4 := gather_ok (P := l.prog) (w := w) F4 G1 b1 k1 g1 G3 b3 k3 g3 G2 b2 k2 g2 b4 g4 13
  have G5 := ok_callings (P := l.prog) (w := w) F5 G4 b4 k4 g4
  have G6 := ok_free (P := l.prog) (w := w) F6 n5 n4 G5 b5 k5 g5
  have G7 := ok_bound (P := l.prog) (w := w) F7 n5 n4 G5 b5 k5 g5
  have G8 := ok_places (P := l.prog) (w := w) F8 o1 G6 b6 k6 g6 G7 b7 k7 g7
  have G9 := ok_uses (P := l.prog) (w := w) F9 o1 v2 U2 G1 b1 k1 g1 G2 b2 k2 g2
  have G10 := ok_all (P := l.prog) (w := w) (base := base) (k := 0) F10 n3
  have GWS := ok_gsaid (P := l.prog) (w := w) (mg := mg) (base := base) (k := 0) FW1 WC
  have GWI := ok_ginit (P := l.prog) (w := w) (mg := mg) (base := base) (k := 0) FW0 WC
  have GWP := ok_gput (P := l.prog) (w := w) (base := base) (k := 0) FW3 WC n4 n3
  have GWL := ok_glet (P := l.prog) (w := w) FW2 WC GWS bw1 mw1 GWP bw3 mw3
  have G11 := ok_gtold (P := l.prog) (w := w) F11 WC MW gW GWI bw0 GWS bw1 mw1 GWL bw2 mw2
  have G12 := ok_gused (P := l.prog) (w := w) (mg := mg) (base := base) (k := 0) F12
  have G13 := ok_kinds (P := l.prog) (w := w) (k := 17) F13 WC (FnOk.mono G9 (by decide)) b9 k9 g9 G8 b8 k8 g8 (FnOk.mono G11 (by decide)) b11 k11 g11 (FnOk.mono G12 (by decide)) b12 k12 g12 (FnOk.mono G10 (by decide)) b10 k10 g10 (FnOk.mono GWS (by decide)) bw1 mw1 n7 n4 n5 n3 n6
  have G14 := ok_left (P := l.prog) (w := w) (base := base) (k := 0) F14 n1 n2
  have G15 := ok_digit (P := l.prog) (w := w) (mg := mg) (base := base) (k := 0) F15
  have G16 := ok_names (P := l.prog) (w := w) F16 G15 b15 k15 g15 n2
  have G17 := ok_due (P := l.prog) (w := w) (base := base) (k := 0) F17 n7 n8 n4 n5
  have G18 := ok_walking (P := l.prog) (w := w) (mg := mg) (base := base) (k := 0) F18
  have G19 := ok_opening (P := l.prog) (w := w) (mg := mg) (base := base) (k := 0) F19
  have G20 := ok_saying (P := l.prog) (w := w) (mg := mg) (base := base) (k := 0) F20
  have G21 := ok_chain (P := l.prog) (w := w) (by decide) F21 G13 b13 k13 g13 (FnOk.mono G17 (by decide)) b17 k17 g17 n2
  exact ok_law (P := l.prog) (w := w) (k := 19) (by decide) (by decide) F22 G14 b14 k14 g14 G16 b16 k16 g16 G18 b18 k18 g18 G19 b19 k19 g19 G20 b20 k20 g20 G21 b21 k21 g21 (FnOk.mono G13 (by decide)) b13 k13 g13 (FnOk.mono G17 (by decide)) b17 k17 g17
end K52
open PySem PySem.W PyProof.Rows
set_option maxRecDepth 100000 in
set_option maxHeartbeats 0 in
theorem PySem.Challenge.cw_walkrooms_k52_kinds_one_by_one_holds : PySem.Challenge.rw_walkrooms_k52_kinds_one_by_one.Holds := by
  w_on; o_law; k_head; (case hw => w_witness2)
  k_fill
  refine L2.walk_of (l := PySem.Challenge.rw_walkrooms_k52_kinds_one_by_one) (n := 63) (k := 20) (x := "_law_script") (CX := fun _ => L2.CX0) (sp := fun w => K52.spLaw _) rfl (by decide) rfl ⟨rfl, by decide, by decide⟩ (fun w h Y => PySem.W.kIn_of Y) ?F (fun _ _ a ns hl _ hS => ⟨a, ns, rfl, hS, hl, fun _ => rfl⟩) (fun _ _ _ _ _ h => h)
  case F =>
    intro w mg fa h KX G hmg
    refine' K52.all_mk KX G hmg ?a1 ?l1 ?c1 ?k1 ?a2 ?l2 ?c2 ?k2 ?a3 ?l3 ?c3 ?k3 ?a4 ?l4 ?c4 ?k4 ?a5 ?l5 ?c5 ?k5 ?a6 ?l6 ?c6 ?k6 ?a7 ?l7 ?c7 ?k7 ?a8 ?l8 ?c8 ?k8 ?a9 ?l9 ?c9 ?k9 ?a10 ?l10 ?c10 ?k10 ?a11 ?l11 ?c11 ?k11 ?a12 ?l12 ?c12 ?k12 ?a13 ?l13 ?c13 ?k13 ?a14 ?l14 ?c14 ?k14 ?a15 ?l15 ?c15 ?k15 ?a16 ?l16 ?c16 ?k16 ?a17 ?l17 ?c17 ?k17 ?a18 ?l18 ?c18 ?k18 ?a19 ?l19 ?c19 ?k19 ?a20 ?l20 ?c20 ?k20 ?a21 ?l21 ?c21 ?k21 ?a22 ?l22 ?c22 ?k22 ?z1 ?z2 ?z3 ?z4 ?z5 ?z6 ?z7 ?z8 ?y1 ?x1 ?y2 ?x2 ?r1 ?wa0 ?wpg ?whd ?wpo ?wsa ?wmk ?wkc ?wnG ?wnS ?wnC ?wf0 ?wi0 ?wl0 ?wc0 ?wk0 ?wf1 ?wi1 ?wl1 ?wc1 ?wk1 ?wf2 ?wi2 ?wl2 ?wc2 ?wk2 ?wf3 ?wi3 ?wl3 ?wc3 ?wk3
    (case a1 => k_is)
    (case l1 => k_is)
    (case c1 => k_is)
    (case k1 => k_is)
    (case a2 => k_is)
    (case l2 => k_is)
    (case c2 => k_is)
    (case k2 => k_is)
    (case a3 => k_is)
    (case l3 => k_is)
    (case c3 => k_is)
    (case k3 => k_is)
    (case a4 => k_is)
    (case l4 => k_is)
    (case c4 => k_is)
    (case k4 => k_is)
    (case a5 => k_is)
    (case l5 => k_is)
    (case c5 => k_is)
    (case k5 => k_is)
    (case a6 => k_is)
    (case l6 => k_is)
    (case c6 => k_is)
    (case k6 => k_is)
    (case a7 => k_is)
    (case l7 => k_is)
    (case c7 => k_is)
    (case k7 => k_is)
    (case a8 => k_is)
    (case l8 => k_is)
    (case c8 => k_is)
    (case k8 => k_is)
    (case a9 => k_is)
    (case l9 => k_is)
    (case c9 => k_is)
    (case k9 => k_is)
    (case a10 => k_is)
    (case l10 => k_is)
    (case c10 => k_is)
    (case k10 => k_is)
    (case a11 => k_is)
    (case l11 => k_is)
    (case c11 => k_is)
    (case k11 => k_is)
    (case a12 => k_is)
    (case l12 => k_is)
    (case c12 => k_is)
    (case k12 => k_is)
    (case a13 => k_is)
    (case l13 => k_is)
    (case c13 => k_is)
    (case k13 => k_is)
    (case a14 => k_is)
    (case l14 => k_is)
    (case c14 => k_is)
    (case k14 => k_is)
    (case a15 => k_is)
    (case l15 => k_is)
    (case c15 => k_is)
    (case k15 => k_is)
    (case a16 => k_is)
    (case l16 => k_is)
    (case c16 => k_is)
    (case k16 => k_is)
    (case a17 => k_is)
    (case l17 => k_is)
    (case c17 => k_is)
    (case k17 => k_is)
    (case a18 => k_is)
    (case l18 => k_is)
    (case c18 => k_is)
    (case k18 => k_is)
    (case a19 => k_is)
    (case l19 => k_is)
    (case c19 => k_is)
    (case k19 => k_is)
    (case a20 => k_is)
    (case l20 => k_is)
    (case c20 => k_is)
    (case k20 => k_is)
    (case a21 => k_is)
    (case l21 => k_is)
    (case c21 => k_is)
    (case k21 => k_is)
    (case a22 => k_is)
    (case l22 => k_is)
    (case c22 => k_is)
    (case k22 => k_is)
    (case z1 => k_is)
    (case z2 => k_is)
    (case z3 => k_is)
    (case z4 => k_is)
    (case z5 => k_is)
    (case z6 => k_is)
    (case z7 => k_is)
    (case z8 => k_is)
    (case y1 => k_is)
    (case x1 => k_is)
    (case y2 => k_is)
    (case x2 => k_is)
    (case r1 => k_is)
    (case wa0 => k_is)
    (case wpg => k_is)
    (case whd => k_is)
    (case wpo => k_is)
    (case wsa => k_is)
    (case wmk => k_is)
    (case wkc => k_is)
    (case wnG => k_is)
    (case wnS => k_is)
    (case wnC => k_is)
    (case wf0 => k_is)
    (case wi0 => k_is)
    (case wl0 => k_is)
    (case wc0 => k_is)
    (case wk0 => k_is)
    (case wf1 => k_is)
    (case wi1 => k_is)
    (case wl1 => k_is)
    (case wc1 => k_is)
    (case wk1 => k_is)
    (case wf2 => k_is)
    (case wi2 => k_is)
    (case wl2 => k_is)
    (case wc2 => k_is)
    (case wk2 => k_is)
    (case wf3 => k_is)
    (case wi3 => k_is)
    (case wl3 => k_is)
    (case wc3 => k_is)
    (case wk3 => k_is)
