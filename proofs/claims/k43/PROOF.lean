import PyProof.Rows.All
import HandS.ForExc
import HandS.IsInst
import HandS.ExcIs
import Wide.All
import OpenK.AllK
import Wide.FinOn
import HandS.ForMost
import HandS.Walk
import HandS.Codes
import HandS.EndTab
import KE.KxText
import HandS.AnyAll
import HandS.GenBody
import HandS.SetTxt0
import HandS.SetFor
import HandS.Strs
import HandS.More
import PyProof.AutoSeq1
import HandS.FStr
import PyProof.ReprRoads
import HandS.TupAny
import HandS.TupMul
import PyProof.WalksMore
import PyProof.SumWalkG
import PyProof.Rows.TupIter
import HandS.DictComp
import PyProof.StrLawsRepr
import PyProof.ReprDict
import HandS.FStrTup
import HandS.Conv
import PySem.Challenge.RW_walkrooms_k43_what_may_come_within
set_option Elab.async false
set_option linter.all false
set_option maxRecDepth 100000
set_option maxHeartbeats 4000000
/-! try: .. except x as n: suite, where the caught error is known behind the suite, too. -/
namespace Wk
open PySem PySem.Spec PyProof.Rows L2
/-- an error of the class cls, its dict d -/
def ErO (a : Addr) (cls : Value) (d : Option Addr) : HO := .ext fun h => ∃ o vs, h.get? a = some o ∧ Zc cls d o ∧ o.data = .fields vs
theorem erO_ok {P : Program} {w : World} {H : Hp} {h : Heap} {a : Addr} {cls : Value} {d : Option Addr} {o : Obj} {vs : Array Value}
    (e : h.get? a = some o) (z : Zc cls d o) (f : o.data = .fields vs) : ObjOk P w H h a (ErO a cls d) := by
  refine ⟨⟨o, vs, e, z, f⟩, ⟨o, e⟩, ?_⟩
  intro h1 h2 p k
  obtain ⟨o1, v1, e1, z1, f1⟩ := p
  exact ⟨o1, v1, k _ e1, z1, f1⟩
section
variable {X : Cx} {pins : List (Addr × Obj)} {σ : L2.St} {H : Hp} {s : Shared}
/-- a pinned error is taken into the book -/
theorem Inv.book {a : Addr} {o : Obj} {vs : Array Value} {cls : Value} {d : Option Addr} (I : Inv X ((a, o) :: pins) σ H s) (z : Zc cls d o) (f : o.data = .fields vs) (new : X.s_0.heap.get? a = none) (nc : ∀ x c, X.env.cells.lookup x = some c → c ≠ a)
    (np : ∀ p ∈ X.pn ++ pins, p.1 ≠ a) : Inv X pins σ (upd H a (ErO a cls d)) s := by
  obtain ⟨e, n, nL, nF, _⟩ := I.pin (a, o) (List.mem_append_right _ List.mem_cons_self)
  have hold : ∀ b u, H b = some u → upd H a (ErO a cls d) b = some u := fun b u q => (upd_ne (fun q2 => by
    rw [q2] at q
    rw [show H a = none from n] at q
    cases q)).trans q
  refine ⟨I.ok, I.os, I.bare, ⟨I.base.keep, I.base.slot, ?_, I.base.there, fun b xs q => hold _ _ (I.base.tups b xs q), fun b u v q => hold _ _ (I.base.frzs b u v q), fun b ps q => ?_⟩, I.loc, I.cell, (upd_ne (Ne.symm nL)).trans I.free, fun x c q => (upd_ne (nc x c q)).trans (I.freeC x c q), fun p hp => ?_, ?_, I.len⟩
  · intro b ob q1 q2 q3
    refine (upd_ne ?_).trans (I.base.free b ob q1 q2 q3)
    intro q4
    rw [q4, new] at q1
    cases q1
  · obtain ⟨m, q2⟩ := I.base.tbls b ps q
    exact ⟨m, hold _ _ q2⟩
  · have old : p ∈ X.pn ++ (a, o) :: pins := by
      rcases List.mem_append.mp hp with g | g
      · exact List.mem_append_left _ g
      · exact List.mem_append_right _ (List.mem_cons_of_mem _ g)
    obtain ⟨p1, p2, p3⟩ := I.pin p old
    exact ⟨p1, (upd_ne (np p hp)).trans p2, p3⟩
  · intro b u q
    by_cases c : b = a
    · rw [c, upd_same] at q
      cases q
      rw [c]
      exact erO_ok e z f
    · rw [upd_ne c] at q
      exact (I.hok b u q).stay (fun _ _ _ r => r) (fun _ r => hold _ _ r) fun _ _ r => hold _ _ r
/-- behind the suite the error is pinned still -/
theorem Inv.held {a : Addr} {o : Obj} (I : Inv (X.suite a ((a, o) :: (X.pn ++ pins))) [] σ H s) (ok : X.Ok) : Inv X ((a, o) :: pins) σ H s := by
  refine ⟨ok, I.os, I.bare, I.base, I.loc, I.cell, I.free, I.freeC, ?_, I.hok, I.len⟩
  intro p hp
  refine I.pin p (List.mem_append_left _ ?_)
  rcases List.mem_append.mp hp with g | g
  · exact List.mem_cons_of_mem _ (List.mem_append_left _ g)
  · rcases List.mem_cons.mp g with g | g
    · exact g ▸ List.mem_cons_self
    · exact List.mem_cons_of_mem _ (List.mem_append_right _ g)
end
/-- what the clause wishes: behind its suite, which ends, the error stands in the book -/
def wKeep (K : PySem.W.Frag) (c : Value) (i : Nat) (ts : Addr → Value → Option Addr → TS) (D : Ends) : WX := fun cls d σ H =>
  PySem.W.exmOne K cls c = some true ∧ ∀ a, H a = none →
    ts a cls d ⟨fun τ G => D.nx (τ.set i none) (upd G a (ErO a cls d)), fun _ _ => False, fun _ _ => False, fun _ _ => False⟩ (σ.set i (some (.ref a))) H
section
variable {X : Cx} {x n : Str} {c : Value} {i : Nat} {body suite : List Stmt} {b0 : Stmt} {np p0 p1 : Pos} {tb : WX → TS} {ts : Addr → Value → Option Addr → TS}
theorem ps_try_keep (hs : X.stack = X.env :: X.outer) (hf : X.env.frame = some X.env.locals) (hN : X.N.Nodup) (hi : X.N[i]? = some n) (hln : X.env.kindOf n = some .local) (hc : Names X x c) (hex : X.ex = [])
    (hb : ∀ (W : WX) (pn : List (Addr × Obj)) (xe : Value → Shared → Prop), Takes (X.tr pn xe) W → PassesOwn (model X.prog X.w) X.A X.env xe → PSs (X.tr pn xe) body (tb W))
    (hsu : ∀ (a : Addr) (o : Obj) (cls : Value) (d : Option Addr) (pn : List (Addr × Obj)), Zc cls d o → (∃ vs, o.data = .fields vs) → PSs (X.suite a ((a, o) :: pn)) (b0 :: suite) (ts a cls d)) :
    PS X (.Try body [.ExceptHandler (some (.Name x np)) (some n) (b0 :: suite) p1] [] [] p0) (fun D σ H => tb (wKeep X.K c i ts D) D σ H) := by
  refine ⟨fun pins s σ H D I h => wpAny_Try_except ?_⟩
  have ok := I.ok
  have fr : X.A.frames = some (X.env :: X.outer) := ok.frames.trans (congrArg some hs)
  have caught : ∀ xe u s', XE (X.tr (X.pn ++ pins) xe) (wKeep X.K c i ts D) u s' →
      wpAny (model X.prog X.w) X.A (noteFrame u X.env) (fun _ s2 => wpAny (model X.prog X.w) X.A (setFlight u none) (fun _ s3 =>
        wpAny (model X.prog X.w) X.A (handleBy u X.env [.ExceptHandler (some (.Name x np)) (some n) (b0 :: suite) p1]) (SP X pins D) X.xe s3) X.xe s2) X.xe s' := by
    intro xe u s' xx
    obtain ⟨a, B, sI, pins', τ, G, cls, d, rfl, J', nb, up, sky, na, os, ag, hb1, hyes⟩ := xx
    have J : Inv X pins τ G sI := by
      exact ⟨ok, J'.os, J'.bare, J'.base, J'.loc, J'.cell, J'.free, J'.freeC, fun p hp => J'.pin p (List.mem_append_left _ hp), J'.hok, J'.len⟩
    have nb : ∀ b o, sI.heap.get? b = some o → b ∉ frs X.stack → B.get? b = some o := nb
    have sky2 : Sky B (X.env :: X.outer) a (Zc cls d) X.env.locals s'.heap := hs ▸ sky
    refine Sky.land Zc.steady fr hf sky2 fun h3 fl3 up3 => ?_
    have J3 : Inv X pins τ G { s' with heap := h3 } := J.landed nb fl3.1 (up.trans up3) os ag
    obtain ⟨o3, v3, e3, z3, f3⟩ := fl3.there
    have off : a ∉ frs (X.env :: X.outer) := fun hm => by
      obtain ⟨_, o', e', hnf⟩ := fl3.2.2.1.mem hm
      rw [e3] at e'
      cases e'
      exact hnf _ f3
    have nL : a ≠ X.env.locals := fun z => off (List.mem_filterMap.mpr ⟨X.env, List.mem_cons_self, by rw [hf, z]⟩)
    have nF : a ∉ X.fs := fun hm => by
      obtain ⟨e, he, q⟩ := List.mem_filterMap.mp hm
      exact off (List.mem_filterMap.mpr ⟨e, List.mem_cons_of_mem _ he, q⟩)
    -- it stood nowhere ahead
    have none0 : sI.heap.get? a = none := by
      cases q : sI.heap.get? a with
      | none => rfl
      | some o =>
        have := nb a o q (by rw [hs]; exact off)
        rw [fl3.2.1] at this
        cases this
    have none1 : X.s_0.heap.get? a = none := by
      cases q : X.s_0.heap.get? a with
      | none => rfl
      | some o =>
        obtain ⟨o', q'⟩ := J.base.there a o q (by rw [hex]; exact List.not_mem_nil)
        rw [none0] at q'
        cases q'
    have notC : ∀ y k, X.env.cells.lookup y = some k → k ≠ a := fun y k q z => by
      obtain ⟨w, o, m, _⟩ := J.cell y k q
      rw [z, none0] at m
      cases m
    have notP : ∀ p ∈ X.pn ++ pins, p.1 ≠ a := fun p hp z => by
      have := (J.pin p hp).1
      rw [z, none0] at this
      cases this
    have S3 := J3.suite e3 f3 na nL nF
    have ty : PySem.W.Looks (model X.prog X.w) h3 (typeOf (.ref a)) cls := fun _ _ _ _ k q => wpAny_typeOf_ref (k _ _ e3) (z3.1 ▸ q)
    have mt := PySem.W.exm_one (M := model X.prog X.w) J3.kIn ty hb1
    have name : ∀ {Q : Value → Shared → Prop} {E : Value → Shared → Prop}, Q c { s' with heap := h3 } → wpAny (model X.prog X.w) (X.A.mark (some (.ref a))) (eval (.Name x np) X.env) Q E { s' with heap := h3 } := by
      intro Q E q
      obtain ⟨g1, g2, g3 | ⟨g3, g4, g5⟩⟩ := hc
      · exact ld_glob (X := X.suite a ((a, o3) :: (X.pn ++ pins))) S3 g1 g3 q g2
      · exact ld_blt (X := X.suite a ((a, o3) :: (X.pn ++ pins))) S3 g1 g3 g4 q g5 g2
    refine wpAny_handleBy_cons (codeAny_handlers_test (name (mt.here ?_))) (by intro q; cases q)
    refine codeAny_handlers_suite_as (HandSPX.lands_againZ fl3 fun h4 fl4 up4 => ?_)
    have J4 : Inv X pins τ G { s' with heap := h4 } := J.landed nb fl4.1 ((up.trans up3).trans up4) os ag
    obtain ⟨o4, v4, e4, z4, f4⟩ := fl4.there
    refine store_ok (X := X.suite a ((a, o4) :: (X.pn ++ pins))) (v := .ref a) (J4.suite e4 f4 na nL nF) hN hi (.inl hln) rfl (fun s5 S5 => ?_) (.inr hln)
    refine wpAny_mono ((hsu a o4 cls d _ z4 ⟨_, f4⟩).run [] s5 _ G _ S5 (hyes a na)) (fun f s6 q => ?_) (fun _ _ z => z.elim)
    cases f with
    | next =>
      obtain ⟨τ6, G6, S6, q6⟩ := q
      exact gone_ok (Inv.held S6 ok) hN hi hln fun s7 J7 => ⟨_, _, Inv.book J7 z4 f4 none1 notC notP, q6⟩
    | brk =>
      obtain ⟨_, _, _, q6⟩ := q
      exact q6.elim
    | cont =>
      obtain ⟨_, _, _, q6⟩ := q
      exact q6.elim
    | ret u =>
      obtain ⟨_, _, _, _, _, q6⟩ := q
      exact q6.elim
  refine wpAny_mono ((hb _ (X.pn ++ pins) _ (fun u s' q => caught _ u s' q) PassesOwn.looking).run [] s σ H D (I.toTry _) h) (fun f s1 q => ?_) (fun e s1 he => he)
  cases f with
  | next =>
    obtain ⟨τ, G, J, q⟩ := q
    exact wpAny_execs_nil ⟨τ, G, J.ofTry ok, q⟩
  | brk =>
    obtain ⟨τ, G, J, q⟩ := q
    exact ⟨τ, G, J.ofTry ok, q⟩
  | cont =>
    obtain ⟨τ, G, J, q⟩ := q
    exact ⟨τ, G, J.ofTry ok, q⟩
  | ret u =>
    obtain ⟨v, τ, G, J, r, q⟩ := q
    exact ⟨v, τ, G, J.ofTry ok, r, q⟩
end
/-! ### isinstance of an error in the book -/
section
variable {X : Cx}
theorem er_kit {pins : List (Addr × Obj)} {σ : L2.St} {H : Hp} {s : Shared} {a D : Addr} (I : Inv X pins σ H s) (e : H a = some (ErO a (.ref D) none)) (C : ExcC X.K D) :
    ∃ P : Heap → Prop, PySem.W.KitX X.K (.ref a) (.ref D) P ∧ P s.heap := by
  obtain ⟨⟨o, vs, h1, h2, h3⟩, _⟩ := (show ObjOk X.prog X.w H s.heap a (ErO a (.ref D) none) from I.hok a _ e)
  refine ⟨fun h => PySem.W.InstAt h a o D none, PySem.W.handS_kitx_exc C.hg C.hk C.hs C.hd C.ha C.hn C.ht C.hm, ?_⟩
  obtain ⟨oc, od, dt, sl⟩ := o
  obtain ⟨z1, z2⟩ := h2
  dsimp only at z1 z2 h3
  subst z1 z2 h3
  exact ⟨h1, rfl, rfl, trivial⟩
def rIsX (K : PySem.W.Frag) : List V → Hp → VK → Prop := fun xs H Q => ∃ (a D : Addr) (c : V) (u : Value) (b : Bool), xs = [.ref a, c] ∧ H a = some (ErO a (.ref D) none) ∧ ExcC K D ∧ ClsV c u ∧ PySem.W.kitOne K (.ref D) u = some b ∧ Q (.bl b) H
theorem call_isX : CallR X (.builtin "isinstance") (rIsX X.K) := by
  intro pins s σ H xs us Q I r h
  obtain ⟨a, D, c, u, b, rfl, e, C, k, kb, q⟩ := h
  obtain ⟨u1, u2, rfl, r1, r2⟩ := vals2 r
  have e2 := k.eq r2
  subst e2
  cases (show u1 = Value.ref a from r1)
  obtain ⟨P, Z, p⟩ := er_kit I e C
  exact PySem.W.kia_one Z I.kIn p kb (fun z => nomatch z) fun t => ⟨.bl b, H, I.tok t, rfl, q⟩
def rIsXT (K : PySem.W.Frag) : List V → Hp → VK → Prop := fun xs H Q => ∃ (a D tp : Addr) (cs : List V) (us : List Value) (b : Bool), xs = [.ref a, .ref tp] ∧ H a = some (ErO a (.ref D) none) ∧ ExcC K D ∧ H tp = some (.tup cs) ∧ Paired ClsV cs us ∧ PySem.W.kitAny K (.ref D) us = some b ∧ Q (.bl b) H
theorem call_isXT : CallR X (.builtin "isinstance") (rIsXT X.K) := by
  intro pins s σ H xs us Q I r h
  obtain ⟨a, D, tp, cs, ws, b, rfl, e, C, hT, k, kb, q⟩ := h
  obtain ⟨u1, u2, rfl, r1, r2⟩ := vals2 r
  cases (show u1 = Value.ref a from r1)
  cases (show u2 = Value.ref tp from r2)
  obtain ⟨P, Z, p⟩ := er_kit I e C
  obtain ⟨_, its, rv, ⟨oc, od, dt, sl⟩, h1, h2, n, h3⟩ := (show ObjOk X.prog X.w H s.heap tp (.tup cs) from I.hok tp _ hT)
  have e3 := ClsV.all k rv
  subst e3
  simp only at h2 h3
  subst h2 h3
  exact PySem.W.kia_tup Z I.kIn p h1 kb (fun z => nomatch z) fun t => ⟨.bl b, H, I.tok t, rfl, q⟩
end
end Wk

set_option Elab.async false
set_option linter.all false
set_option maxRecDepth 100000
set_option maxHeartbeats 2000000
/-! What all laws of this program share: drawn texts, rows of parts as data, how they stand in memory. -/
namespace Wk
open PySem PySem.Spec PyProof.Rows L2
theorem small {n : Nat} (h : n ≤ 1000) : n ≤ sizeLine := Nat.le_of_lt (small1000 h)
theorem big {n : Nat} (h : n ≤ 1000000) : n ≤ sizeLine := Nat.le_trans h (by decide)
theorem yes {σ : L2.St} {H : Hp} {Q : Bool → Hp → Prop} (h : Q true H) : tYes σ H Q := h
theorem kn {H : Hp} {a p : Addr} {o u : HO} (h : H a = some o) (n : H p = none) : upd H p u a = some o := by
  rw [upd_ne (ne_of_none h n)]
  exact h
theorem atX_lt {α : Type} {l : List α} {d : Int} (h0 : 0 ≤ d) (h1 : d < l.length) : ∃ c ∈ l, atI l d = some c ∧ l[d.toNat]? = some c := by
  have hd : d.toNat < l.length := by omega
  refine ⟨l[d.toNat], List.getElem_mem hd, ?_, List.getElem?_eq_getElem hd⟩
  have e : atI l ((d.toNat : Nat) : Int) = some l[d.toNat] := atI_nat (List.getElem?_eq_getElem hd)
  rw [show ((d.toNat : Nat) : Int) = d by omega] at e
  exact e
/-! ### texts -/
/-- at most k signs, plain ones -/
def Sh (k : Nat) (z : Str) : Prop := z.cps.toList.length ≤ k ∧ ∀ c ∈ z.cps.toList, c < 128
theorem Sh.len {k : Nat} {z : Str} (h : Sh k z) : z.length ≤ k := by
  have := h.1
  rw [Array.length_toList] at this
  exact this
theorem Sh.mono {k j : Nat} {z : Str} (h : Sh k z) (hk : k ≤ j) : Sh j z := ⟨Nat.le_trans h.1 hk, h.2⟩
theorem app_codes (y z : Str) : (y ++ z).cps.toList = y.cps.toList ++ z.cps.toList := by
  show (y.cps ++ z.cps).toList = _
  rw [Array.toList_append]
theorem app_len (y z : Str) : (y ++ z).length = y.length + z.length := by
  show (y.cps ++ z.cps).size = _
  rw [Array.size_append]
  rfl
theorem Sh.app {k j : Nat} {y z : Str} (h : Sh k y) (g : Sh j z) : Sh (k + j) (y ++ z) := by
  refine ⟨?_, fun c hc => ?_⟩
  · rw [app_codes, List.length_append]
    exact Nat.add_le_add h.1 g.1
  · rw [app_codes] at hc
    rcases List.mem_append.mp hc with q | q
    · exact h.2 c q
    · exact g.2 c q
theorem Sh.sign {c : Nat} (h : c < 128) : Sh 1 ⟨#[c]⟩ := ⟨Nat.le_refl 1, fun d hd => by
  have : d = c := by simpa using hd
  rw [this]
  exact h⟩
theorem Sh.ok {k : Nat} {z : Str} (h : Sh k z) : PyData.strOk z = true := by
  unfold PyData.strOk
  rw [Array.all_eq_true']
  intro c hc
  have := h.2 c (Array.mem_def.mp hc)
  simp
  omega
/-! ### one number in a list -/
/-- but for L, which holds a list of one number, what stood stands -/
def StL (L : Addr) (H H' : Hp) : Prop := (∀ b o, b ≠ L → H b = some o → H' b = some o) ∧ ∃ n : Int, H' L = some (.lst [.int n])
theorem StL.refl {L : Addr} {H : Hp} {n : Int} (h : H L = some (.lst [.int n])) : StL L H H := ⟨fun _ _ _ e => e, n, h⟩
theorem StL.trans {L : Addr} {H H1 H2 : Hp} (a : StL L H H1) (b : StL L H1 H2) : StL L H H2 := ⟨fun c o n e => b.1 c o n (a.1 c o n e), b.2⟩
theorem StL.put {L : Addr} {H : Hp} (n : Int) : StL L H (upd H L (.lst [.int n])) := ⟨fun b o nb e => by rw [upd_ne nb]; exact e, n, upd_same⟩
theorem StL.new {L p : Addr} {H : Hp} {n : Int} {o : HO} (h : H L = some (.lst [.int n])) (np : H p = none) : StL L H (upd H p o) :=
  ⟨fun b u _ e => by rw [upd_ne (ne_of_none e np)]; exact e, n, by rw [upd_ne (ne_of_none h np)]; exact h⟩
theorem StL.none {L p : Addr} {H H' : Hp} (x : StL L H H') (h : H' p = Option.none) : H p = Option.none := by
  cases q : H p with
  | none => rfl
  | some o =>
    by_cases e : p = L
    · obtain ⟨n, hn⟩ := x.2
      rw [e, hn] at h
      cases h
    · rw [x.1 p o e q] at h
      cases h
def spLeft : Sp := fun vs H Q _ => ∃ c : Int, vs = [.int c] ∧ ∀ (p : Addr) (n : Int), H p = none → Q (.ref p) (upd H p (.lst [.int n]))
def spDigit : Sp := fun vs H Q _ => ∃ (L : Addr) (n m : Int), vs = [.ref L, .int m] ∧ H L = some (.lst [.int n]) ∧ 0 < m ∧ m < 1073741824 ∧ ∀ d n' : Int, 0 ≤ d → d < m → Q (.int d) (upd H L (.lst [.int n']))
theorem pos1 : (0 : Int) < 2147483629 := by decide
theorem pos2 : (0 : Int) < 2147483647 := by decide
/-! ### rows of parts -/
inductive Wd where
  | room | inn | out | opn | hear | new
deriving DecidableEq
def Wd.str : Wd → Str
  | .room => "room"
  | .inn => "in"
  | .out => "out"
  | .opn => "open"
  | .hear => "hear"
  | .new => "new"
def Wd.binds : Wd → Bool
  | .hear => true
  | .new => true
  | _ => false
inductive Part where
  | say (n : Str)
  | again (r : List Part)
  | oth (w : Wd) (n : Str) (r : List Part)
mutual
def PartAt (H : Hp) : Part → V → Prop
  | .say n, v => ∃ a, v = .ref a ∧ H a = some (.tup [.str "say", .str n])
  | .again r, v => ∃ a b xs, v = .ref a ∧ H a = some (.tup [.str "again", .ref b]) ∧ H b = some (.tup xs) ∧ PartsAt H r xs
  | .oth w n r, v => ∃ a b xs, v = .ref a ∧ H a = some (.tup [.str w.str, .str n, .ref b]) ∧ H b = some (.tup xs) ∧ PartsAt H r xs
def PartsAt (H : Hp) : List Part → List V → Prop
  | [], vs => vs = []
  | p :: r, vs => ∃ v us, vs = v :: us ∧ PartAt H p v ∧ PartsAt H r us
end
def RowAt (H : Hp) (r : List Part) (v : V) : Prop := ∃ a xs, v = .ref a ∧ H a = some (.tup xs) ∧ PartsAt H r xs
/-- all tuples stay -/
def STup (H H' : Hp) : Prop := ∀ a xs, H a = some (.tup xs) → H' a = some (.tup xs)
theorem STup.refl (H : Hp) : STup H H := fun _ _ h => h
theorem STup.trans {H H1 H2 : Hp} (a : STup H H1) (b : STup H1 H2) : STup H H2 := fun c o h => b c o (a c o h)
theorem STup.of {H H' : Hp} (h : Same H H') : STup H H' := fun a xs e => h _ _ e
theorem STup.new {H : Hp} {p : Addr} {o : HO} (n : H p = none) : STup H (upd H p o) := fun a xs e => kn e n
theorem STup.lst {H : Hp} {p : Addr} {o : HO} {ys : List V} (h : H p = some (.lst ys)) : STup H (upd H p o) := fun a xs e => by
  rw [upd_ne (fun z => by rw [z, h] at e; cases e)]
  exact e
mutual
theorem PartAt.mono {H H' : Hp} (s : STup H H') : ∀ (p : Part) (v : V), PartAt H p v → PartAt H' p v
  | .say n, v, h => by
    obtain ⟨a, e, h1⟩ := h
    exact ⟨a, e, s _ _ h1⟩
  | .again r, v, h => by
    obtain ⟨a, b, xs, e, h1, h2, h3⟩ := h
    exact ⟨a, b, xs, e, s _ _ h1, s _ _ h2, PartsAt.mono s r xs h3⟩
  | .oth w n r, v, h => by
    obtain ⟨a, b, xs, e, h1, h2, h3⟩ := h
    exact ⟨a, b, xs, e, s _ _ h1, s _ _ h2, PartsAt.mono s r xs h3⟩
theorem PartsAt.mono {H H' : Hp} (s : STup H H') : ∀ (r : List Part) (vs : List V), PartsAt H r vs → PartsAt H' r vs
  | [], vs, h => h
  | p :: r, vs, h => by
    obtain ⟨v, us, e, h1, h2⟩ := h
    exact ⟨v, us, e, PartAt.mono s p v h1, PartsAt.mono s r us h2⟩
end
theorem RowAt.mono {H H' : Hp} {r : List Part} {v : V} (s : STup H H') (h : RowAt H r v) : RowAt H' r v := by
  obtain ⟨a, xs, e, h1, h2⟩ := h
  exact ⟨a, xs, e, s _ _ h1, PartsAt.mono s r xs h2⟩
theorem PartsAt.len {H : Hp} : ∀ {r : List Part} {vs : List V}, PartsAt H r vs → vs.length = r.length
  | [], vs, h => by rw [show vs = [] from h]; rfl
  | p :: r, vs, h => by
    obtain ⟨v, us, e, _, h2⟩ := h
    rw [e, List.length_cons, List.length_cons, PartsAt.len h2]
theorem PartsAt.get {H : Hp} : ∀ {r : List Part} {vs : List V}, PartsAt H r vs → ∀ {i : Nat} {v : V}, vs[i]? = some v → ∃ p, r[i]? = some p ∧ PartAt H p v
  | [], vs, h, i, v, e => by rw [show vs = [] from h] at e; simp at e
  | p :: r, vs, h, 0, v, e => by
    obtain ⟨u, us, rfl, h1, _⟩ := h
    exact ⟨p, rfl, by rw [← Option.some.inj (show some u = some v from e)]; exact h1⟩
  | p :: r, vs, h, i + 1, v, e => by
    obtain ⟨u, us, rfl, _, h2⟩ := h
    exact PartsAt.get h2 (i := i) (v := v) e
theorem PartsAt.app {H : Hp} {q : List Part} {us : List V} (g : PartsAt H q us) : ∀ {r : List Part} {vs : List V}, PartsAt H r vs → PartsAt H (r ++ q) (vs ++ us)
  | [], vs, h => by rw [show vs = [] from h]; exact g
  | p :: r, vs, h => by
    obtain ⟨v, ws, rfl, h1, h2⟩ := h
    exact ⟨v, ws ++ us, rfl, h1, PartsAt.app g h2⟩
theorem PartsAt.one {H : Hp} {p : Part} {v : V} (h : PartAt H p v) : PartsAt H [p] [v] := ⟨v, [], rfl, h, rfl⟩
/-! ### their data -/
mutual
def dP : Part → PyData
  | .say n => .tuple [.str "say", .str n]
  | .again r => .tuple [.str "again", .tuple (dR r)]
  | .oth w n r => .tuple [.str w.str, .str n, .tuple (dR r)]
def dR : List Part → List PyData
  | [] => []
  | p :: r => dP p :: dR r
end
mutual
theorem PartAt.dp {K : PySem.W.Frag} {H : Hp} : ∀ (p : Part) (v : V), PartAt H p v → Dp K H v (dP p)
  | .say n, v, h => by
    obtain ⟨a, rfl, h1⟩ := h
    exact .tup (SqT.of h1) (.cons (.str _) (.cons (.str _) .nil))
  | .again r, v, h => by
    obtain ⟨a, b, xs, rfl, h1, h2, h3⟩ := h
    exact .tup (SqT.of h1) (.cons (.str _) (.cons (.tup (SqT.of h2) (PartsAt.dp r xs h3)) .nil))
  | .oth w n r, v, h => by
    obtain ⟨a, b, xs, rfl, h1, h2, h3⟩ := h
    exact .tup (SqT.of h1) (.cons (.str _) (.cons (.str _) (.cons (.tup (SqT.of h2) (PartsAt.dp r xs h3)) .nil)))
theorem PartsAt.dp {K : PySem.W.Frag} {H : Hp} : ∀ (r : List Part) (vs : List V), PartsAt H r vs → DpAll K H vs (dR r)
  | [], vs, h => by
    rw [show vs = [] from h]
    exact .nil
  | p :: r, vs, h => by
    obtain ⟨v, us, rfl, h1, h2⟩ := h
    exact .cons (PartAt.dp p v h1) (PartsAt.dp r us h2)
end
theorem RowAt.dp {K : PySem.W.Frag} {H : Hp} {r : List Part} {v : V} (h : RowAt H r v) : Dp K H v (.tuple (dR r)) := by
  obtain ⟨a, xs, rfl, h1, h2⟩ := h
  exact .tup (SqT.of h1) (PartsAt.dp r xs h2)
/-! ### measures and looks -/
mutual
def okP (f : Str → Prop) : Part → Prop
  | .say n => f n
  | .again r => okR f r
  | .oth _ n r => f n ∧ okR f r
def okR (f : Str → Prop) : List Part → Prop
  | [] => True
  | p :: r => okP f p ∧ okR f r
end
mutual
def deepP : Part → Nat
  | .say _ => 1
  | .again r => deepR r + 1
  | .oth _ _ r => deepR r + 1
def deepR : List Part → Nat
  | [] => 0
  | p :: r => max (deepP p) (deepR r)
end
mutual
def sizeP : Part → Nat
  | .say _ => 1
  | .again r => sizeR r + 1
  | .oth _ _ r => sizeR r + 1
def sizeR : List Part → Nat
  | [] => 0
  | p :: r => sizeP p + sizeR r
end
/-! what is bound, in the order in which it is met -/
mutual
def bdP : Part → List Str
  | .say _ => []
  | .again r => bdR r
  | .oth w n r => (if w.binds then [n] else []) ++ bdR r
def bdR : List Part → List Str
  | [] => []
  | p :: r => bdP p ++ bdR r
end
/-! each calling that is not bound there stands in S -/
mutual
def scP : List Str → Part → Prop
  | S, .say n => n ∈ S
  | S, .again r => scR S r
  | S, .oth w n r => if w.binds = true then scR (n :: S) r else n ∈ S ∧ scR S r
def scR : List Str → List Part → Prop
  | _, [] => True
  | S, p :: r => scP S p ∧ scR S r
end
mutual
theorem scP.mono : ∀ (p : Part) {S S' : List Str}, (∀ n ∈ S, n ∈ S') → scP S p → scP S' p
  | .say n, S, S', h, g => h n g
  | .again r, S, S', h, g => scR.mono r h g
  | .oth w n r, S, S', h, g => by
    unfold scP at g ⊢
    by_cases e : w.binds = true
    · rw [if_pos e] at g ⊢
      exact scR.mono r (fun m hm => by
        rcases List.mem_cons.mp hm with q | q
        · rw [q]; exact List.mem_cons_self
        · exact List.mem_cons_of_mem _ (h m q)) g
    · rw [if_neg e] at g ⊢
      exact ⟨h n g.1, scR.mono r h g.2⟩
theorem scR.mono : ∀ (r : List Part) {S S' : List Str}, (∀ n ∈ S, n ∈ S') → scR S r → scR S' r
  | [], S, S', h, g => trivial
  | p :: r, S, S', h, g => ⟨scP.mono p h g.1, scR.mono r h g.2⟩
end
theorem okR_app {f : Str → Prop} : ∀ {r q : List Part}, okR f r → okR f q → okR f (r ++ q)
  | [], q, _, g => g
  | p :: r, q, h, g => ⟨h.1, okR_app h.2 g⟩
theorem deepR_app : ∀ (r q : List Part), deepR (r ++ q) = max (deepR r) (deepR q)
  | [], q => by show deepR q = max 0 (deepR q); omega
  | p :: r, q => by
    show max (deepP p) (deepR (r ++ q)) = max (max (deepP p) (deepR r)) (deepR q)
    rw [deepR_app r q]
    omega
theorem sizeR_app : ∀ (r q : List Part), sizeR (r ++ q) = sizeR r + sizeR q
  | [], q => by show sizeR q = 0 + sizeR q; omega
  | p :: r, q => by
    show sizeP p + sizeR (r ++ q) = sizeP p + sizeR r + sizeR q
    rw [sizeR_app r q]
    omega
theorem bdR_app : ∀ (r q : List Part), bdR (r ++ q) = bdR r ++ bdR q
  | [], q => rfl
  | p :: r, q => by
    show bdP p ++ bdR (r ++ q) = (bdP p ++ bdR r) ++ bdR q
    rw [bdR_app r q, List.append_assoc]
theorem scR_app {S : List Str} : ∀ {r q : List Part}, scR S r → scR S q → scR S (r ++ q)
  | [], q, _, g => g
  | p :: r, q, h, g => ⟨h.1, scR_app h.2 g⟩
mutual
theorem okP.imp {f g : Str → Prop} (i : ∀ n, f n → g n) : ∀ p : Part, okP f p → okP g p
  | .say n, h => i n h
  | .again r, h => okR.imp i r h
  | .oth _ n r, h => ⟨i n h.1, okR.imp i r h.2⟩
theorem okR.imp {f g : Str → Prop} (i : ∀ n, f n → g n) : ∀ r : List Part, okR f r → okR g r
  | [], _ => trivial
  | p :: r, h => ⟨okP.imp i p h.1, okR.imp i r h.2⟩
end
theorem okR.mem {f : Str → Prop} : ∀ {r : List Part}, okR f r → ∀ p ∈ r, okP f p
  | [], _, p, hp => nomatch hp
  | q :: r, h, p, hp => by
    rcases List.mem_cons.mp hp with e | e
    · rw [e]; exact h.1
    · exact okR.mem h.2 p e
theorem deepR.mem : ∀ {r : List Part}, ∀ p ∈ r, deepP p ≤ deepR r
  | [], p, hp => nomatch hp
  | q :: r, p, hp => by
    show deepP p ≤ max (deepP q) (deepR r)
    rcases List.mem_cons.mp hp with e | e
    · rw [e]; omega
    · have := deepR.mem (r := r) p e; omega
theorem sizeR.mem : ∀ {r : List Part}, ∀ p ∈ r, sizeP p ≤ sizeR r
  | [], p, hp => nomatch hp
  | q :: r, p, hp => by
    show sizeP p ≤ sizeP q + sizeR r
    rcases List.mem_cons.mp hp with e | e
    · rw [e]; omega
    · have := sizeR.mem (r := r) p e; omega
mutual
theorem size_posP : ∀ p : Part, 1 ≤ sizeP p
  | .say _ => Nat.le_refl 1
  | .again r => by show 1 ≤ sizeR r + 1; omega
  | .oth _ _ r => by show 1 ≤ sizeR r + 1; omega
end
theorem len_sizeR : ∀ r : List Part, r.length ≤ sizeR r
  | [] => Nat.le_refl 0
  | p :: r => by
    have h1 := size_posP p
    have h2 := len_sizeR r
    show r.length + 1 ≤ sizeP p + sizeR r
    omega
/-! ### data that may be compared -/
theorem wd_ok (w : Wd) : PyData.strOk w.str = true := by cases w <;> decide +kernel
mutual
theorem layP {f : Str → Prop} (hf : ∀ n, f n → PyData.strOk n = true) : ∀ p : Part, okP f p → PyData.canLay0 (dP p) = true
  | .say n, h => by
    have h1 : PyData.strOk "say" = true := by decide +kernel
    simp only [dP, PyData.canLay0, PyData.canLayAll0, h1, hf n h, Bool.and_self]
  | .again r, h => by
    have h1 : PyData.strOk "again" = true := by decide +kernel
    simp only [dP, PyData.canLay0, PyData.canLayAll0, h1, layR hf r h, Bool.and_self]
  | .oth w n r, h => by
    simp only [dP, PyData.canLay0, PyData.canLayAll0, wd_ok w, hf n h.1, layR hf r h.2, Bool.and_self]
theorem layR {f : Str → Prop} (hf : ∀ n, f n → PyData.strOk n = true) : ∀ r : List Part, okR f r → PyData.canLayAll0 (dR r) = true
  | [], _ => by simp only [dR, PyData.canLayAll0]
  | p :: r, h => by simp only [dR, PyData.canLayAll0, layP hf p h.1, layR hf r h.2, Bool.and_self]
end
mutual
theorem depP : ∀ p : Part, PyData.depth (dP p) ≤ 2 * deepP p
  | .say n => by
    simp only [dP, PyData.depth, PyData.depthAll, deepP]
    omega
  | .again r => by
    have := depR r
    simp only [dP, PyData.depth, PyData.depthAll, deepP]
    omega
  | .oth w n r => by
    have := depR r
    simp only [dP, PyData.depth, PyData.depthAll, deepP]
    omega
theorem depR : ∀ r : List Part, PyData.depthAll (dR r) ≤ 2 * deepR r
  | [] => by simp only [dR, PyData.depthAll, deepR]; omega
  | p :: r => by
    have h1 := depP p
    have h2 := depR r
    simp only [dR, PyData.depthAll, deepR]
    omega
end
theorem shapedR {f : Str → Prop} (hf : ∀ n, f n → PyData.strOk n = true) {r : List Part} (h : okR f r) (hd : deepR r ≤ 30) : SeqAt.shaped (.tuple (dR r)) = true := by
  unfold SeqAt.shaped
  have := depR r
  simp only [PyData.canLay0, layR hf r h, PyData.depth, Bool.true_and]
  exact decide_eq_true (by omega)
/-! ### called otherwise -/
mutual
def calledP (x c : Str) : Part → Part
  | .say n => .say (if n = x then c else n)
  | .again r => .again (calledR x c r)
  | .oth w n r => if w.binds = true ∧ n = x then .oth w n r else .oth w (if n = x then c else n) (calledR x c r)
def calledR (x c : Str) : List Part → List Part
  | [] => []
  | p :: r => calledP x c p :: calledR x c r
end
theorem calledR_map (x c : Str) : ∀ r : List Part, calledR x c r = r.map (calledP x c)
  | [] => rfl
  | p :: r => by
    show calledP x c p :: calledR x c r = calledP x c p :: r.map (calledP x c)
    rw [calledR_map x c r]
mutual
theorem calledP_deep (x c : Str) : ∀ p : Part, deepP (calledP x c p) = deepP p
  | .say n => rfl
  | .again r => by
    show deepR (calledR x c r) + 1 = deepR r + 1
    rw [calledR_deep x c r]
  | .oth w n r => by
    unfold calledP
    by_cases e : w.binds = true ∧ n = x
    · rw [if_pos e]
    · rw [if_neg e]
      show deepR (calledR x c r) + 1 = deepR r + 1
      rw [calledR_deep x c r]
theorem calledR_deep (x c : Str) : ∀ r : List Part, deepR (calledR x c r) = deepR r
  | [] => rfl
  | p :: r => by
    show max (deepP (calledP x c p)) (deepR (calledR x c r)) = max (deepP p) (deepR r)
    rw [calledP_deep x c p, calledR_deep x c r]
end
mutual
theorem calledP_size (x c : Str) : ∀ p : Part, sizeP (calledP x c p) = sizeP p
  | .say n => rfl
  | .again r => by
    show sizeR (calledR x c r) + 1 = sizeR r + 1
    rw [calledR_size x c r]
  | .oth w n r => by
    unfold calledP
    by_cases e : w.binds = true ∧ n = x
    · rw [if_pos e]
    · rw [if_neg e]
      show sizeR (calledR x c r) + 1 = sizeR r + 1
      rw [calledR_size x c r]
theorem calledR_size (x c : Str) : ∀ r : List Part, sizeR (calledR x c r) = sizeR r
  | [] => rfl
  | p :: r => by
    show sizeP (calledP x c p) + sizeR (calledR x c r) = sizeP p + sizeR r
    rw [calledP_size x c p, calledR_size x c r]
end
theorem pick {f : Str → Prop} {x c n : Str} (hc : f c) (hn : f n) : f (if n = x then c else n) := by
  by_cases e : n = x
  · rw [if_pos e]; exact hc
  · rw [if_neg e]; exact hn
mutual
theorem calledP_ok {f : Str → Prop} (x c : Str) (hc : f c) : ∀ p : Part, okP f p → okP f (calledP x c p)
  | .say n, h => pick (x := x) hc h
  | .again r, h => calledR_ok x c hc r h
  | .oth w n r, h => by
    unfold calledP
    by_cases e : w.binds = true ∧ n = x
    · rw [if_pos e]
      exact h
    · rw [if_neg e]
      exact ⟨pick hc h.1, calledR_ok x c hc r h.2⟩
theorem calledR_ok {f : Str → Prop} (x c : Str) (hc : f c) : ∀ r : List Part, okR f r → okR f (calledR x c r)
  | [], _ => trivial
  | p :: r, h => ⟨calledP_ok x c hc p h.1, calledR_ok x c hc r h.2⟩
end
end Wk

set_option Elab.async false
set_option linter.all false
set_option maxRecDepth 100000
set_option maxHeartbeats 2000000
/-! What the laws draw: names, and houses of them. -/
namespace Wk
open PySem PySem.Spec PyProof.Rows L2
abbrev abc : Str := "abcdefghijklmnopqrstuvwxyz"
abbrev vow : Str := "aeiouxyz"
theorem abc_at : ∀ j : Nat, j < 26 → abc.cps.toList[j]? = some (97 + j) := by decide +kernel
theorem abc_len : abc.cps.toList.length = 26 := by decide +kernel
theorem vow_len : vow.cps.toList.length = 8 := by decide +kernel
theorem vow_lt : ∀ c ∈ vow.cps.toList, 97 ≤ c ∧ c < 123 := by decide +kernel
/-- a letter by its number, and up to five of eight more -/
def NameOf (j : Nat) (z : Str) : Prop := ∃ r, z.cps.toList = (97 + j) :: r ∧ r.length ≤ 5 ∧ ∀ c ∈ r, c ∈ vow.cps.toList
theorem NameOf.sh {j : Nat} {z : Str} (h : NameOf j z) (hj : j < 26) : Sh 6 z := by
  obtain ⟨r, e, h1, h2⟩ := h
  refine ⟨by rw [e, List.length_cons]; omega, fun c hc => ?_⟩
  rw [e] at hc
  rcases List.mem_cons.mp hc with q | q
  · omega
  · have := vow_lt c (h2 c q)
    omega
theorem NameOf.inj {i j : Nat} {z : Str} (h : NameOf i z) (g : NameOf j z) : i = j := by
  obtain ⟨r, e, _⟩ := h
  obtain ⟨q, e2, _⟩ := g
  rw [e] at e2
  have := (List.cons.inj e2).1
  omega
def spNames : Sp := fun vs H Q _ => ∃ (L : Addr) (n : Int) (m : Nat), vs = [.ref L, .int m] ∧ H L = some (.lst [.int n]) ∧ m ≤ 100 ∧
  ∀ (H' : Hp) (p : Addr) (s : Nat) (zs : List Str), StL L H H' → H p = none → H' p = some (.lst (zs.map V.str)) → zs.length = m → s < 26 → (∀ i z, zs[i]? = some z → NameOf ((s + 5 * i) % 26) z) → Q (.ref p) H'
/-! ### houses -/
/-- but for L and S what stood stands; L holds one number, S the names that are left -/
def StG (L S : Addr) (H H' : Hp) (sp : List Str) : Prop := (∀ b o, b ≠ L → b ≠ S → H b = some o → H' b = some o) ∧ (∃ n : Int, H' L = some (.lst [.int n])) ∧ H' S = some (.lst (sp.map V.str))
section
variable {L S p : Addr} {H H1 H2 : Hp} {sp sp1 sp2 : List Str} {o : HO}
theorem LS_ne {n : Int} (h1 : H L = some (.lst [.int n])) (h2 : H S = some (.lst (sp.map V.str))) : L ≠ S := fun e => by
  rw [e, h2] at h1
  have q := HO.lst.inj (Option.some.inj h1)
  cases sp with
  | nil => cases q
  | cons a r => cases q
theorem StG.ne (x : StG L S H H1 sp) : L ≠ S := by
  obtain ⟨n, hn⟩ := x.2.1
  exact LS_ne hn x.2.2
theorem StG.refl {n : Int} (h1 : H L = some (.lst [.int n])) (h2 : H S = some (.lst (sp.map V.str))) : StG L S H H sp := ⟨fun _ _ _ _ e => e, ⟨n, h1⟩, h2⟩
theorem StG.trans (a : StG L S H H1 sp1) (b : StG L S H1 H2 sp2) : StG L S H H2 sp2 := ⟨fun c u n1 n2 e => b.1 c u n1 n2 (a.1 c u n1 n2 e), b.2⟩
theorem StG.put (x : StG L S H H1 sp) (n : Int) : StG L S H (upd H1 L (.lst [.int n])) sp :=
  ⟨fun b u nb nc e => by rw [upd_ne nb]; exact x.1 b u nb nc e, ⟨n, upd_same⟩, by rw [upd_ne (Ne.symm x.ne)]; exact x.2.2⟩
theorem StG.new (x : StG L S H H1 sp) (n : H1 p = none) : StG L S H (upd H1 p o) sp := by
  obtain ⟨i, hi⟩ := x.2.1
  exact ⟨fun b u nb nc e => kn (x.1 b u nb nc e) n, ⟨i, kn hi n⟩, kn x.2.2 n⟩
theorem StG.pop (x : StG L S H H1 sp) : StG L S H (upd H1 S (.lst (sp1.map V.str))) sp1 := by
  obtain ⟨i, hi⟩ := x.2.1
  exact ⟨fun b u nb nc e => by rw [upd_ne nc]; exact x.1 b u nb nc e, ⟨i, by rw [upd_ne x.ne]; exact hi⟩, upd_same⟩
theorem StG.tup {n : Int} (x : StG L S H H1 sp1) (h1 : H L = some (.lst [.int n])) (h2 : H S = some (.lst (sp.map V.str))) : STup H H1 := fun a xs e =>
  x.1 a _ (fun z => by rw [z, h1] at e; cases e) (fun z => by rw [z, h2] at e; cases e) e
theorem StG.none {n : Int} (x : StG L S H H1 sp1) (h : H1 p = Option.none) (h1 : H L = some (.lst [.int n])) (h2 : H S = some (.lst (sp.map V.str))) : H p = Option.none := by
  obtain ⟨i, hi⟩ := x.2.1
  cases q : H p with
  | none => rfl
  | some u =>
    by_cases e1 : p = L
    · rw [e1, hi] at h
      cases h
    · by_cases e2 : p = S
      · rw [e2, x.2.2] at h
        cases h
      · rw [x.1 p u e1 e2 q] at h
        cases h
end
/-- how many parts a row has at most -/
def cntR : Nat → Nat
  | 0 => 2
  | 1 => 6
  | m + 2 => 3 * (1 + cntR (m + 1))
def cntP : Nat → Nat
  | 0 => 1
  | m + 1 => 1 + cntR m
def most : Nat → Nat
  | 0 => 2
  | 1 => 2
  | _ + 2 => 3
theorem cnt_eq : ∀ m : Nat, most m * cntP m = cntR m
  | 0 => rfl
  | 1 => rfl
  | m + 2 => rfl
structure GP (m : Nat) (ss sp sp' : List Str) (p : Part) : Prop where
  deep : deepP p ≤ m + 1
  size : sizeP p ≤ cntP m
  sc : scP ss p
  bd : sp = sp' ++ (bdP p).reverse
  ok : okP (fun n => n ∈ ss ∨ n ∈ sp) p
structure GR (m k : Nat) (ss sp sp' : List Str) (r : List Part) : Prop where
  deep : deepR r ≤ m + 1
  size : sizeR r ≤ k * cntP m
  sc : scR ss r
  bd : sp = sp' ++ (bdR r).reverse
  ok : okR (fun n => n ∈ ss ∨ n ∈ sp) r
theorem GR.nil {m : Nat} {ss sp : List Str} : GR m 0 ss sp sp [] := ⟨Nat.zero_le _, Nat.zero_le _, trivial, by simp [bdR], trivial⟩
theorem GR.snoc {m k : Nat} {ss sp sp1 sp2 : List Str} {r : List Part} {p : Part} (h : GR m k ss sp sp1 r) (g : GP m ss sp1 sp2 p) : GR m (k + 1) ss sp sp2 (r ++ [p]) := by
  have mem1 : ∀ n ∈ sp1, n ∈ sp := fun n hn => by rw [h.bd]; exact List.mem_append_left _ hn
  refine ⟨?_, ?_, scR_app h.sc ⟨g.sc, trivial⟩, ?_, okR_app h.ok ⟨okP.imp (fun n q => ?_) p g.ok, trivial⟩⟩
  · rw [deepR_app]
    have h1 := h.deep
    have h2 := g.deep
    show max (deepR r) (max (deepP p) 0) ≤ m + 1
    omega
  · rw [sizeR_app, Nat.succ_mul]
    have h1 := h.size
    have h2 := g.size
    show sizeR r + (sizeP p + 0) ≤ _
    omega
  · rw [bdR_app, List.reverse_append, show bdR [p] = bdP p from List.append_nil _, ← List.append_assoc, ← g.bd]
    exact h.bd
  · rcases q with q | q
    · exact .inl q
    · exact .inr (mem1 n q)
theorem GR.up {m k j : Nat} {ss sp sp' : List Str} {r : List Part} (h : GR m k ss sp sp' r) (hk : k ≤ j) : GR m j ss sp sp' r :=
  ⟨h.deep, Nat.le_trans h.size (Nat.mul_le_mul_right _ hk), h.sc, h.bd, h.ok⟩
theorem most_at (m : Nat) : atI [V.int 3, V.int 4] (if decide ((m : Int) > 1) = true then 1 else 0) = some (.int ((most m + 1 : Nat) : Int)) := by
  match m with
  | 0 => exact atI_nat (j := 0) rfl
  | 1 => exact atI_nat (j := 0) rfl
  | m + 2 =>
    rw [decide_eq_true (show (((m + 2 : Nat) : Int) > 1) by omega)]
    exact atI_nat (j := 1) rfl
theorem most_le (m : Nat) : most m ≤ 3 := by
  match m with
  | 0 => exact (by decide : 2 ≤ 3)
  | 1 => exact (by decide : 2 ≤ 3)
  | m + 2 => exact Nat.le_refl 3
/-- what a whole row of room m keeps -/
theorem GR.weak {m k : Nat} {ss sp sp' : List Str} {r : List Part} (h : GR m k ss sp sp' r) (hk : k ≤ most m) : sizeR r ≤ cntR m := by
  rw [← cnt_eq]
  exact Nat.le_trans h.size (Nat.mul_le_mul_right _ hk)
/-- the arguments of _law_part and _law_row -/
def GArg (vs : List V) (H : Hp) (L S A : Addr) (nL : Int) (m : Nat) (ss sp : List Str) : Prop :=
  vs = [.ref L, .int m, .ref A, .ref S] ∧ H L = some (.lst [.int nL]) ∧ H S = some (.lst (sp.map V.str)) ∧ H A = some (.lst (ss.map V.str)) ∧ A ≠ L ∧ A ≠ S ∧ ss ≠ [] ∧ ss.length + 2 * m ≤ 1000 ∧ (∀ z ∈ sp, Sh 6 z)
def spPart (n : Nat) : Sp := fun vs H Q _ => ∃ (L S A : Addr) (nL : Int) (m : Nat) (ss sp : List Str), GArg vs H L S A nL m ss sp ∧ m ≤ n ∧
  ∀ (H' : Hp) (v : V) (sp' : List Str) (p : Part), StG L S H H' sp' → PartAt H' p v → GP m ss sp sp' p → Q v H'
def spRow (n : Nat) : Sp := fun vs H Q _ => ∃ (L S A : Addr) (nL : Int) (m : Nat) (ss sp : List Str), GArg vs H L S A nL m ss sp ∧ m < n ∧
  ∀ (H' : Hp) (v : V) (sp' : List Str) (r : List Part), StG L S H H' sp' → RowAt H' r v → GR m (most m) ss sp sp' r → Q v H'
theorem GP.say {m : Nat} {ss sp : List Str} {n : Str} (h : n ∈ ss) : GP m ss sp sp (.say n) := by
  refine ⟨?_, ?_, h, by simp [bdP], .inl h⟩
  · show 1 ≤ m + 1
    omega
  · show 1 ≤ cntP m
    cases m with
    | zero => exact Nat.le_refl 1
    | succ m => show 1 ≤ 1 + cntR m; omega
theorem GP.again {m : Nat} {ss sp sp' : List Str} {r : List Part} (h : GR m (most m) ss sp sp' r) : GP (m + 1) ss sp sp' (.again r) := by
  have h1 := h.deep
  have h2 := h.weak (Nat.le_refl _)
  refine ⟨?_, ?_, h.sc, h.bd, h.ok⟩
  · show deepR r + 1 ≤ m + 1 + 1
    omega
  · show sizeR r + 1 ≤ 1 + cntR m
    omega
theorem GP.free {m : Nat} {ss sp sp' : List Str} {r : List Part} {w : Wd} {n : Str} (hw : w.binds = false) (hn : n ∈ ss) (h : GR m (most m) ss sp sp' r) : GP (m + 1) ss sp sp' (.oth w n r) := by
  have h1 := h.deep
  have h2 := h.weak (Nat.le_refl _)
  have hw2 : ¬ w.binds = true := by rw [hw]; decide
  refine ⟨?_, ?_, ?_, ?_, .inl hn, h.ok⟩
  · show deepR r + 1 ≤ m + 1 + 1
    omega
  · show sizeR r + 1 ≤ 1 + cntR m
    omega
  · unfold scP
    rw [if_neg hw2]
    exact ⟨hn, h.sc⟩
  · unfold bdP
    rw [if_neg hw2, List.nil_append]
    exact h.bd
theorem GP.bound {m : Nat} {ss sp1 sp' : List Str} {r : List Part} {w : Wd} {n : Str} (hw : w.binds = true) (h : GR m (most m) (ss ++ [n, n]) sp1 sp' r) : GP (m + 1) ss (sp1 ++ [n]) sp' (.oth w n r) := by
  have h1 := h.deep
  have h2 := h.weak (Nat.le_refl _)
  refine ⟨?_, ?_, ?_, ?_, .inr (List.mem_append_right _ List.mem_cons_self), okR.imp (fun k q => ?_) r h.ok⟩
  · show deepR r + 1 ≤ m + 1 + 1
    omega
  · show sizeR r + 1 ≤ 1 + cntR m
    omega
  · unfold scP
    rw [if_pos hw]
    refine scR.mono r (fun k hk => ?_) h.sc
    rcases List.mem_append.mp hk with q | q
    · exact List.mem_cons_of_mem _ q
    · have : k = n := by simpa using q
      rw [this]
      exact List.mem_cons_self
  · unfold bdP
    rw [if_pos hw, List.reverse_append, List.reverse_singleton, ← List.append_assoc, ← h.bd]
  · rcases q with q | q
    · rcases List.mem_append.mp q with u | u
      · exact .inl u
      · have : k = n := by simpa using u
        rw [this]
        exact .inr (List.mem_append_right _ List.mem_cons_self)
    · exact .inr (List.mem_append_left _ q)
theorem strs_dp {K : PySem.W.Frag} {H : Hp} : ∀ zs : List Str, DpAll K H (zs.map V.str) (zs.map PyData.str)
  | [] => .nil
  | z :: r => .cons (.str _) (strs_dp r)
theorem strs_lay : ∀ zs : List Str, (∀ z ∈ zs, PyData.strOk z = true) → PyData.canLayAll0 (zs.map PyData.str) = true
  | [], _ => by simp only [List.map_nil, PyData.canLayAll0]
  | z :: r, h => by simp only [List.map_cons, PyData.canLayAll0, PyData.canLay0, h z List.mem_cons_self, strs_lay r (fun y hy => h y (List.mem_cons_of_mem _ hy)), Bool.and_self]
theorem strs_dep : ∀ zs : List Str, PyData.depthAll (zs.map PyData.str) = 0
  | [] => by simp only [List.map_nil, PyData.depthAll]
  | z :: r => by simp only [List.map_cons, PyData.depthAll, PyData.depth, strs_dep r, Nat.max_self]
theorem strs_shaped {zs : List Str} (h : ∀ z ∈ zs, PyData.strOk z = true) : SeqAt.shaped (.list (zs.map PyData.str)) = true := by
  unfold SeqAt.shaped
  simp only [PyData.canLay0, strs_lay zs h, PyData.depth, strs_dep zs, Bool.true_and]
  decide
theorem nil_shaped : SeqAt.shaped (.list []) = true := strs_shaped (zs := []) fun _ h => nomatch h
theorem eqv_nil : ∀ l : List PyData, PyData.eqv (.list l) (.list []) = l.isEmpty
  | [] => by simp only [PyData.eqv, PyData.eqvAll, List.isEmpty]
  | _ :: _ => by simp only [PyData.eqv, PyData.eqvAll, List.isEmpty]
end Wk

set_option Elab.async false
set_option linter.all false
set_option maxRecDepth 100000
set_option maxHeartbeats 2000000
/-! What the program's own called promises. -/
namespace Wk
open PySem PySem.Spec PyProof.Rows L2
def bindV : List V := [.str "hear", .str "new"]
def wordP : Part → Str
  | .say _ => "say"
  | .again _ => "again"
  | .oth w _ _ => w.str
def bindsP : Part → Bool
  | .oth w _ _ => w.binds
  | _ => false
theorem inV_binds : ∀ p : Part, inV (.str (wordP p)) bindV = bindsP p
  | .say _ => (by decide +kernel : inV (.str "say") bindV = false)
  | .again _ => (by decide +kernel : inV (.str "again") bindV = false)
  | .oth w _ _ => (by cases w <;> decide +kernel : inV (.str w.str) bindV = w.binds)
theorem wd_again (w : Wd) : decide (V.str w.str = V.str "again") = false := by cases w <;> decide +kernel
theorem wd_say (w : Wd) : decide (V.str w.str = V.str "say") = false := by cases w <;> decide +kernel
theorem say_again : decide (V.str "say" = V.str "again") = false := by decide +kernel
theorem iteD {b : Bool} {A B : Prop} (e : b = false) (h : B) : if b = true then A else B := by
  rw [e]
  exact iteF h
theorem iteU {b : Bool} {A B : Prop} (e : b = true) (h : A) : if b = true then A else B := by
  rw [e]
  exact iteT h
theorem str_eq {x y : Str} (h : decide (V.str x = V.str y) = true) : x = y := V.str.inj (of_decide_eq_true h)
theorem str_ne {x y : Str} (h : ¬ decide (V.str x = V.str y) = true) : x ≠ y := fun e => h (decide_eq_true (by rw [e]))
theorem PartAt.word {H : Hp} : ∀ {p : Part} {v : V}, PartAt H p v → ∃ a xs, v = .ref a ∧ H a = some (.tup xs) ∧ xs[0]? = some (.str (wordP p))
  | .say n, v, h => by
    obtain ⟨a, rfl, h1⟩ := h
    exact ⟨a, _, rfl, h1, rfl⟩
  | .again r, v, h => by
    obtain ⟨a, b, xs, rfl, h1, _⟩ := h
    exact ⟨a, _, rfl, h1, rfl⟩
  | .oth w n r, v, h => by
    obtain ⟨a, b, xs, rfl, h1, _⟩ := h
    exact ⟨a, _, rfl, h1, rfl⟩
def spBinder : Sp := fun vs H Q _ => ∃ (v : V) (p : Part), vs = [v] ∧ PartAt H p v ∧ Q (.bl (bindsP p)) H
def spCalled (n : Nat) : Sp := fun vs H Q _ => ∃ (v : V) (x c : Str) (r : List Part), vs = [v, .str x, .str c] ∧ RowAt H r v ∧ deepR r < n ∧ r.length ≤ 1000 ∧ sizeR r ≤ 1000 ∧
  ∀ (H' : Hp) (u : V), Same H H' → RowAt H' (calledR x c r) u → Q u H'
def spPCalled (n : Nat) : Sp := fun vs H Q _ => ∃ (v : V) (x c : Str) (p : Part), vs = [v, .str x, .str c] ∧ PartAt H p v ∧ (deepP p ≤ n ∧ sizeP p ≤ 1000) ∧
  ∀ (H' : Hp) (u : V), Same H H' → PartAt H' (calledP x c p) u → Q u H'
theorem same_new {H : Hp} {p : Addr} {o : HO} (n : H p = none) : Same H (upd H p o) := fun b u e => kn e n
end Wk

set_option Elab.async false
set_option linter.all false
set_option maxRecDepth 100000
set_option maxHeartbeats 2000000
/-! Free callings, and callings put back. -/
namespace Wk
open PySem PySem.Spec PyProof.Rows L2
/-- each x called otherwise, also where it is bound -/
def sub (x c n : Str) : Str := if n = x then c else n
mutual
def lcP (x c : Str) : Part → Part
  | .say n => .say (sub x c n)
  | .again r => .again (lcR x c r)
  | .oth w n r => .oth w (sub x c n) (lcR x c r)
def lcR (x c : Str) : List Part → List Part
  | [] => []
  | p :: r => lcP x c p :: lcR x c r
end
theorem lcR_map (x c : Str) : ∀ r : List Part, lcR x c r = r.map (lcP x c)
  | [] => rfl
  | p :: r => by
    show lcP x c p :: lcR x c r = lcP x c p :: r.map (lcP x c)
    rw [lcR_map x c r]
mutual
theorem called_lcP {x c : Str} : ∀ p : Part, x ∉ bdP p → calledP x c p = lcP x c p
  | .say n, _ => rfl
  | .again r, h => by
    show Part.again (calledR x c r) = Part.again (lcR x c r)
    rw [called_lcR r h]
  | .oth w n r, h => by
    unfold bdP at h
    have h1 : x ∉ bdR r := fun z => h (List.mem_append_right _ z)
    have h2 : ¬ (w.binds = true ∧ n = x) := fun z => h (by rw [if_pos z.1, z.2]; exact List.mem_append_left _ List.mem_cons_self)
    unfold calledP
    rw [if_neg h2, called_lcR r h1]
    rfl
theorem called_lcR {x c : Str} : ∀ r : List Part, x ∉ bdR r → calledR x c r = lcR x c r
  | [], _ => rfl
  | p :: r, h => by
    unfold bdR at h
    show calledP x c p :: calledR x c r = lcP x c p :: lcR x c r
    rw [called_lcP p (fun z => h (List.mem_append_left _ z)), called_lcR r (fun z => h (List.mem_append_right _ z))]
end
def lone (ar : List Str) (n : Str) : List Str := if n ∈ ar then [] else [n]
mutual
def freeP : List Str → Part → List Str
  | ar, .say n => lone ar n
  | ar, .again r => freeR ar r
  | ar, .oth w n r => if w.binds = true then freeR (ar ++ [n]) r else lone ar n ++ freeR ar r
def freeR : List Str → List Part → List Str
  | _, [] => []
  | ar, p :: r => freeP ar p ++ freeR ar r
end
theorem freeR_map (ar : List Str) : ∀ r : List Part, freeR ar r = (r.map (freeP ar)).flatten
  | [] => rfl
  | p :: r => by
    show freeP ar p ++ freeR ar r = _
    rw [freeR_map ar r]
    rfl
theorem lone_le (ar : List Str) (n : Str) : (lone ar n).length ≤ 1 := by
  unfold lone
  by_cases h : n ∈ ar
  · rw [if_pos h]; exact Nat.zero_le _
  · rw [if_neg h]; exact Nat.le_refl 1
mutual
theorem freeP_le : ∀ (p : Part) (ar : List Str), (freeP ar p).length ≤ sizeP p
  | .say n, ar => lone_le ar n
  | .again r, ar => by
    have := freeR_le r ar
    show (freeR ar r).length ≤ sizeR r + 1
    omega
  | .oth w n r, ar => by
    unfold freeP
    show _ ≤ sizeR r + 1
    by_cases h : w.binds = true
    · rw [if_pos h]
      have := freeR_le r (ar ++ [n])
      omega
    · rw [if_neg h, List.length_append]
      have := freeR_le r ar
      have := lone_le ar n
      omega
theorem freeR_le : ∀ (r : List Part) (ar : List Str), (freeR ar r).length ≤ sizeR r
  | [], ar => Nat.le_refl 0
  | p :: r, ar => by
    show (freeP ar p ++ freeR ar r).length ≤ sizeP p + sizeR r
    rw [List.length_append]
    have := freeP_le p ar
    have := freeR_le r ar
    omega
end
/-- c stands nowhere but where it is bound -/
abbrev noc (c : Str) : Str → Prop := fun n => n ≠ c
theorem lone_none {ar : List Str} {n c : Str} (h : c ∉ lone ar n) (ha : c ∉ ar) : n ≠ c := fun e => by
  unfold lone at h
  rw [e, if_neg ha] at h
  exact h List.mem_cons_self
mutual
theorem free_nocP {c : Str} : ∀ (p : Part) (ar : List Str), c ∉ freeP ar p → c ∉ ar → c ∉ bdP p → okP (noc c) p
  | .say n, ar, h, ha, hb => lone_none h ha
  | .again r, ar, h, ha, hb => free_nocR r ar h ha hb
  | .oth w n r, ar, h, ha, hb => by
    unfold freeP at h
    unfold bdP at hb
    have hb1 : c ∉ bdR r := fun z => hb (List.mem_append_right _ z)
    by_cases hw : w.binds = true
    · rw [if_pos hw] at h hb
      have hn : n ≠ c := fun e => hb (by rw [e]; exact List.mem_append_left _ List.mem_cons_self)
      refine ⟨hn, free_nocR r (ar ++ [n]) h (fun z => ?_) hb1⟩
      rcases List.mem_append.mp z with q | q
      · exact ha q
      · exact hn (List.mem_singleton.mp q).symm
    · rw [if_neg hw] at h
      exact ⟨lone_none (fun z => h (List.mem_append_left _ z)) ha, free_nocR r ar (fun z => h (List.mem_append_right _ z)) ha hb1⟩
theorem free_nocR {c : Str} : ∀ (r : List Part) (ar : List Str), c ∉ freeR ar r → c ∉ ar → c ∉ bdR r → okR (noc c) r
  | [], _, _, _, _ => trivial
  | p :: r, ar, h, ha, hb => ⟨free_nocP p ar (fun z => h (List.mem_append_left _ z)) ha (fun z => hb (List.mem_append_left _ z)), free_nocR r ar (fun z => h (List.mem_append_right _ z)) ha (fun z => hb (List.mem_append_right _ z))⟩
end
theorem sub_back {x c n : Str} (h : n ≠ c) : sub c x (sub x c n) = n := by
  unfold sub
  by_cases e : n = x
  · rw [if_pos e, if_pos rfl, e]
  · rw [if_neg e, if_neg h]
mutual
theorem backP {x c : Str} : ∀ p : Part, okP (noc c) p → lcP c x (lcP x c p) = p
  | .say n, h => by
    show Part.say (sub c x (sub x c n)) = _
    rw [sub_back h]
  | .again r, h => by
    show Part.again (lcR c x (lcR x c r)) = _
    rw [backR r h]
  | .oth w n r, h => by
    show Part.oth w (sub c x (sub x c n)) (lcR c x (lcR x c r)) = _
    rw [sub_back h.1, backR r h.2]
theorem backR {x c : Str} : ∀ r : List Part, okR (noc c) r → lcR c x (lcR x c r) = r
  | [], _ => rfl
  | p :: r, h => by
    show lcP c x (lcP x c p) :: lcR c x (lcR x c r) = _
    rw [backP p h.1, backR r h.2]
end
mutual
theorem lc_bdP {x c : Str} : ∀ p : Part, x ∉ bdP p → bdP (lcP x c p) = bdP p
  | .say n, _ => rfl
  | .again r, h => lc_bdR r h
  | .oth w n r, h => by
    unfold bdP at h
    have h1 : x ∉ bdR r := fun z => h (List.mem_append_right _ z)
    show (if w.binds then [sub x c n] else []) ++ bdR (lcR x c r) = (if w.binds then [n] else []) ++ bdR r
    rw [lc_bdR r h1]
    by_cases hw : w.binds = true
    · rw [if_pos hw] at h
      have hn : n ≠ x := fun e => h (by rw [e]; exact List.mem_append_left _ List.mem_cons_self)
      unfold sub
      rw [if_pos hw, if_pos hw, if_neg hn]
    · rw [if_neg hw, if_neg hw]
theorem lc_bdR {x c : Str} : ∀ r : List Part, x ∉ bdR r → bdR (lcR x c r) = bdR r
  | [], _ => rfl
  | p :: r, h => by
    unfold bdR at h
    show bdP (lcP x c p) ++ bdR (lcR x c r) = bdP p ++ bdR r
    rw [lc_bdP p (fun z => h (List.mem_append_left _ z)), lc_bdR r (fun z => h (List.mem_append_right _ z))]
end
/-- called, and called back -/
theorem called_back {x c : Str} {r : List Part} (hx : x ∉ bdR r) (hc : c ∉ bdR r) (hf : c ∉ freeR [] r) : calledR c x (calledR x c r) = r := by
  rw [called_lcR r hx, called_lcR _ (by rw [lc_bdR r hx]; exact hc)]
  exact backR r (free_nocR r [] hf (fun z => nomatch z) hc)
/-- the rest of a part -/
def restP : Part → List Part
  | .say _ => []
  | .again r => r
  | .oth _ _ r => r
theorem rest_bd {p : Part} {n : Str} (h : n ∈ bdR (restP p)) : n ∈ bdP p := by
  cases p with
  | say _ => cases h
  | again r => exact h
  | oth w m r => exact List.mem_append_right _ h
theorem bd_mem {n : Str} : ∀ {r : List Part}, ∀ p ∈ r, n ∈ bdP p → n ∈ bdR r
  | [], p, hp, _ => nomatch hp
  | q :: r, p, hp, h => by
    rcases List.mem_cons.mp hp with e | e
    · rw [← e]; exact List.mem_append_left _ h
    · exact List.mem_append_right _ (bd_mem p e h)
theorem rest_deep (p : Part) : deepR (restP p) ≤ deepP p := by
  cases p with
  | say _ => exact Nat.zero_le _
  | again r => exact Nat.le_succ _
  | oth w m r => exact Nat.le_succ _
theorem rest_size (p : Part) : sizeR (restP p) ≤ sizeP p := by
  cases p with
  | say _ => exact Nat.zero_le _
  | again r => exact Nat.le_succ _
  | oth w m r => exact Nat.le_succ _
theorem rest_ok {f : Str → Prop} {p : Part} (h : okP f p) : okR f (restP p) := by
  cases p with
  | say _ => trivial
  | again r => exact h
  | oth w m r => exact h.2
theorem num_sh {n : Int} (h0 : 0 ≤ n) (h1 : n < 10 ^ 10) : Sh 10 (Str.ofString (toString n)) := by
  refine ⟨?_, fun c hc => ?_⟩
  · rw [Array.length_toList]
    exact PySem.W.KT.len_num h0 h1
  · by_cases g : c < 128
    · exact g
    · exact absurd hc (int_text_free' c ⟨by omega, by omega⟩ n)
def spLCalled (n : Nat) : Sp := fun vs H Q _ => ∃ (v : V) (x c : Str) (r : List Part), vs = [v, .str x, .str c] ∧ RowAt H r v ∧ deepR r < n ∧ sizeR r ≤ 1000 ∧
  ∀ (H' : Hp) (u : V), Same H H' → RowAt H' (lcR x c r) u → Q u H'
def spFree (n : Nat) : Sp := fun vs H Q _ => ∃ (v : V) (a : Addr) (ar : List Str) (r : List Part), vs = [v, .ref a] ∧ RowAt H r v ∧ H a = some (.lst (ar.map V.str)) ∧ deepR r < n ∧ sizeR r ≤ 1000 ∧ ar.length + deepR r ≤ 1000 ∧
  ∀ (H' : Hp) (p : Addr), Same H H' → H p = none → H' p = some (.lst ((freeR ar r).map V.str)) → Q (.ref p) H'
theorem inV_strs (n : Str) : ∀ l : List Str, inV (.str n) (l.map V.str) = decide (n ∈ l)
  | [] => rfl
  | m :: l => by
    show (eqV (.str m) (.str n) || inV (.str n) (l.map V.str)) = _
    rw [inV_strs n l]
    show ((m == n) || decide (n ∈ l)) = _
    by_cases e : m = n
    · rw [e]; simp
    · have e2 : ¬ n = m := fun z => e z.symm
      simp [e, e2]
theorem flat_strs : ∀ l : List Str, (l.map V.str).all flatV = true
  | [] => rfl
  | m :: l => by
    show (true && (l.map V.str).all flatV) = true
    rw [flat_strs l]
    rfl
end Wk

set_option Elab.async false
set_option linter.all false
set_option maxRecDepth 100000
set_option maxHeartbeats 2000000
/-! A turn of a law that draws a house: what stands while it is drawn. -/
namespace Wk
open PySem PySem.Spec PyProof.Rows L2
theorem cut_ints {ns : List Int} {lo hi : Option Int} : ∀ v ∈ cutV (ns.map V.int) lo hi, ∃ i : Int, v = .int i := by
  intro v hv
  unfold cutV at hv
  obtain ⟨i, _, e⟩ := List.mem_map.mp (List.mem_of_mem_drop (List.mem_of_mem_take hv))
  exact ⟨i, e.symm⟩
theorem cut_len {ns : List Int} {lo hi : Option Int} (h : ns.length ≤ 63) : (cutV (ns.map V.int) lo hi).length ≤ 63 := by
  unfold cutV
  rw [List.length_take, List.length_drop, List.length_map]
  omega
theorem cut_to {zs : List Str} {k : Nat} (h : k ≤ zs.length) : cutV (zs.map V.str) none (some (k : Int)) = (zs.take k).map V.str := by
  unfold cutV
  rw [HT.sIx_none, HT.sIx_nat, List.length_map, Nat.min_eq_left h, List.drop_zero, Nat.sub_zero, List.map_take]
theorem cut_mid {zs : List Str} {i k : Nat} (h : k ≤ zs.length) (hi : i ≤ k) : cutV (zs.map V.str) (some (i : Int)) (some (k : Int)) = ((zs.drop i).take (k - i)).map V.str := by
  unfold cutV
  rw [HT.sIx_nat, HT.sIx_nat, List.length_map, Nat.min_eq_left h, Nat.min_eq_left (Nat.le_trans hi h), List.map_take, List.map_drop]
theorem cut_off {zs : List Str} {i : Nat} (hi : i ≤ zs.length) : cutV (zs.map V.str) (some (i : Int)) none = (zs.drop i).map V.str := by
  unfold cutV
  rw [HT.sIx_none, HT.sIx_nat, List.length_map, Nat.min_eq_left hi, List.map_drop]
  rw [List.take_of_length_le]
  rw [List.length_drop, List.length_map]
  exact Nat.le_refl _
/-- p holds the items, pn the names, L one number -/
structure Sit (p pn L : Addr) (items : List V) (zs : List Str) (H : Hp) : Prop where
  hp : H p = some (.lst items)
  hn : H pn = some (.lst (zs.map V.str))
  hL : ∃ n : Int, H L = some (.lst [.int n])
  pL : p ≠ L
  nL : pn ≠ L
section
variable {p pn L q : Addr} {items : List V} {zs : List Str} {H H' : Hp} {o : HO}
theorem Sit.new (x : Sit p pn L items zs H) (n : H q = none) : Sit p pn L items zs (upd H q o) := by
  obtain ⟨i, hi⟩ := x.hL
  exact ⟨kn x.hp n, kn x.hn n, ⟨i, kn hi n⟩, x.pL, x.nL⟩
theorem Sit.put (x : Sit p pn L items zs H) (n : Int) : Sit p pn L items zs (upd H L (.lst [.int n])) :=
  ⟨by rw [upd_ne x.pL]; exact x.hp, by rw [upd_ne x.nL]; exact x.hn, ⟨n, upd_same⟩, x.pL, x.nL⟩
theorem Sit.same (x : Sit p pn L items zs H) (s : Same H H') : Sit p pn L items zs H' := by
  obtain ⟨i, hi⟩ := x.hL
  exact ⟨s _ _ x.hp, s _ _ x.hn, ⟨i, s _ _ hi⟩, x.pL, x.nL⟩
theorem Sit.drawn {S : Addr} {sp : List Str} (x : Sit p pn L items zs H) (g : StG L S H H' sp) (h1 : p ≠ S) (h2 : pn ≠ S) : Sit p pn L items zs H' :=
  ⟨g.1 _ _ x.pL h1 x.hp, g.1 _ _ x.nL h2 x.hn, g.2.1, x.pL, x.nL⟩
end
theorem apart {zs : List Str} {s i j : Nat} {x : Str} (hn : ∀ i z, zs[i]? = some z → NameOf ((s + 5 * i) % 26) z) (hi : zs[i]? = some x) (hj : zs[j]? = some x) (li : i < 26) (lj : j < 26) : i = j := by
  have := (hn i x hi).inj (hn j x hj)
  omega
theorem names_sh {zs : List Str} {s : Nat} (hn : ∀ i z, zs[i]? = some z → NameOf ((s + 5 * i) % 26) z) : ∀ z ∈ zs, Sh 6 z := by
  intro z hz
  obtain ⟨i, hi⟩ := List.getElem?_of_mem hz
  exact (hn i z hi).sh (Nat.mod_lt _ (by decide))
theorem mid_mem {zs : List Str} {i k : Nat} {x : Str} (h : x ∈ (zs.drop i).take k) : ∃ j, i ≤ j ∧ j < i + k ∧ zs[j]? = some x := by
  obtain ⟨j, hj⟩ := List.getElem?_of_mem h
  have hl : j < k := by
    have := (List.getElem?_eq_some_iff.mp hj).1
    rw [List.length_take] at this
    omega
  rw [List.getElem?_take_of_lt hl, List.getElem?_drop] at hj
  exact ⟨i + j, by omega, by omega, hj⟩
theorem off_mem {zs : List Str} {i : Nat} {x : Str} (h : x ∈ zs.drop i) : ∃ j, i ≤ j ∧ j < zs.length ∧ zs[j]? = some x := by
  obtain ⟨j, hj⟩ := List.getElem?_of_mem h
  rw [List.getElem?_drop] at hj
  exact ⟨i + j, by omega, (List.getElem?_eq_some_iff.mp hj).1, hj⟩
theorem head_mem {zs : List Str} {k : Nat} {x : Str} (h : x ∈ zs.take k) : ∃ j, j < k ∧ zs[j]? = some x := by
  obtain ⟨j, hj⟩ := List.getElem?_of_mem h
  have hl : j < k := by
    have := (List.getElem?_eq_some_iff.mp hj).1
    rw [List.length_take] at this
    omega
  rw [List.getElem?_take_of_lt hl] at hj
  exact ⟨j, hl, hj⟩
theorem at_names {zs : List Str} {d : Int} (h0 : 0 ≤ d) (h1 : d < zs.length) : ∃ z, zs[d.toNat]? = some z ∧ atI (zs.map V.str) d = some (.str z) := by
  have hd : d.toNat < zs.length := by omega
  refine ⟨zs[d.toNat], List.getElem?_eq_getElem hd, ?_⟩
  have e : atI (zs.map V.str) ((d.toNat : Nat) : Int) = some (.str zs[d.toNat]) := atI_nat (by rw [List.getElem?_map, List.getElem?_eq_getElem hd]; rfl)
  rw [show ((d.toNat : Nat) : Int) = d by omega] at e
  exact e
/-- a row that is drawn, or the rest of one of its parts -/
structure ROk (bd : List Str) (f : Str → Prop) (d sz : Nat) (r : List Part) : Prop where
  bd : ∀ n ∈ bdR r, n ∈ bd
  deep : deepR r ≤ d
  size : sizeR r ≤ sz
  ok : okR f r
theorem ROk.rest {bd : List Str} {f : Str → Prop} {d sz : Nat} {r : List Part} (h : ROk bd f d sz r) {p : Part} (hp : p ∈ r) : ROk bd f d sz (restP p) :=
  ⟨fun n hn => h.bd n (bd_mem p hp (rest_bd hn)), Nat.le_trans (rest_deep p) (Nat.le_trans (deepR.mem p hp) h.deep), Nat.le_trans (rest_size p) (Nat.le_trans (sizeR.mem p hp) h.size), rest_ok (h.ok.mem p hp)⟩
theorem eqv_rows {f : Str → Prop} (hf : ∀ n, f n → PyData.strOk n = true) {r : List Part} (h : okR f r) : PyData.eqv (.tuple (dR r)) (.tuple (dR r)) = true :=
  SeqAt.eqv_refl _ (by simp only [PyData.canLay0]; exact layR hf r h)
end Wk

set_option Elab.async false
set_option linter.all false
set_option maxRecDepth 100000
set_option maxHeartbeats 2000000
/-! A generator expression whose element may call own defs: the generator's frame as a context of its own, each draw keeps it. -/
namespace Wk
open PySem PySem.Spec PyProof.Rows L2 GxR GenW
/-- the context of the generator's frame -/
abbrev gfx (X : Cx) (A' : Around) (s : Shared) (H : Hp) (cenv : Env) (fp : List Addr) (pn : List (Addr × Obj)) : Cx :=
  { X with A := A'.deeper cenv, s_0 := s, H_0 := H, env := cenv, outer := X.stack, stack := cenv :: X.stack, ex := fp, fn := fun _ => false, pn := pn, xe := fun _ _ => False }
theorem over_gen {A : Around} {elt : Expr} {cs : List Comprehension} {scope : Scope} {pos : Pos} {it : Value} {env : Env} :
    A.over (.compLoop (.GeneratorExp elt cs scope pos) 0 it .none env) [] = A.deeper env := by
  first
    | rfl
    | (obtain ⟨hd, d, fr, gs, u⟩ := A; simp [Around.over, Around.deeper, marksOver, frameCount, unitsOf, envsOf, guardsOf, pushEnvs, pushGuards, Code.envs, Code.env?, Code.isFrame, Code.guards, Code.isGuard, Code.weight, Code.frames, Code.isCreation, Code.isCaller, Code.cUnits])
theorem gen_start {X : Cx} {pins pins' : List (Addr × Obj)} {σ : L2.St} {H : Hp} {s s' : Shared} {scope : Scope} {own : List (Str × Nat)} {fp : List Addr} {pn : List (Addr × Obj)} {A' : Around} {code : Value} {cenv : Env} {m : Str → Option Value}
    (I : Inv X pins σ H s) (ok : BlkOk X.N X.env.scope scope own) (hN : X.N.Nodup) (hcell : ∀ y ∈ scope.names, y.2 ≠ .cell)
    (hfp : ∀ b ∈ fp, FpOk X pins H b ∧ b < s.heap.objs.size) (hA : A'.handled = none) (hA2 : A'.frames = some X.stack)
    (hce : cenv = genEnv scope (cloFrom X.env.cells scope.names []) s.heap.objs.size code builtinsNs X.env)
    (os : s'.os = s.os) (hb : AllBare s'.gens) (kp : ∀ b o, s.heap.get? b = some o → s'.heap.get? b = some o) (hn : s'.heap.Ns s.heap.objs.size m)
    (hpn : ∀ p ∈ pn ++ pins', s'.heap.get? p.1 = some p.2 ∧ H p.1 = none ∧ p.1 ≠ s.heap.objs.size ∧ p.1 ∉ frs X.stack ∧ ∀ v, p.2.data ≠ .cell v) :
    Inv (gfx X A' s H cenv fp pn) pins' (wipe σ (own.map (·.2))) H s' := by
  have hfree : ∀ y ∈ scope.names, y.2 = .free → ∃ c, X.env.cells.lookup y.1 = some c := fun y hy e => by
    rcases ok.free y hy e with k | k
    · exact I.ok.has _ (.inl k)
    · exact I.ok.has _ (.inr k)
  have hL : cenv.locals = s.heap.objs.size := by rw [hce]; rfl
  have hcl : cenv.cells = cloFrom X.env.cells scope.names [] := by rw [hce]; rfl
  have hsc : cenv.scope = scope := by rw [hce]; rfl
  have cm : ∀ {y c}, (y, c) ∈ cloFrom X.env.cells scope.names [] → X.env.cells.lookup y = some c ∧ c < s.heap.objs.size := fun {y c} hm => by
    rcases cloFrom_mem hm with hm | ⟨h1, rfl⟩
    · cases hm
    · obtain ⟨c, hc⟩ := hfree _ h1 rfl
      rw [hc]
      obtain ⟨w, z⟩ := I.cell _ _ hc
      exact ⟨rfl, z.lt⟩
  have mem : ∀ {y c}, cenv.cells.lookup y = some c → X.env.cells.lookup y = some c ∧ c < s.heap.objs.size := fun {y c} e => by
    rw [hcl] at e
    exact cm (PySem.mem_of_lookup e)
  have look : ∀ {y}, scope.names.lookup y = some .free → ∃ c, cenv.cells.lookup y = some c ∧ X.env.cells.lookup y = some c := fun {y} hl => by
    have hy : (y, NameKind.free) ∈ scope.names := PySem.mem_of_lookup hl
    obtain ⟨c', e'⟩ := mem_lookup (cloFrom_has (cells := X.env.cells) (acc := []) hy)
    rw [← hcl] at e'
    exact ⟨c', e', (mem e').1⟩
  have okB : (gfx X A' s H cenv fp pn).Ok := by
    refine ⟨I.ok.mod, by show cenv.scope.kind = _; rw [hsc]; exact ok.kind, by show cenv.globals = _; rw [hce]; exact I.ok.glob, by show cenv.builtins = _; rw [hce]; rfl, by show s.heap.objs.size ≤ cenv.locals; rw [hL]; exact Nat.le_refl _,
      fun y z c e1 e2 => I.ok.inj y z c (mem e1).1 (mem e2).1, fun y hy => ?_, fun y c z e => ?_, fun _ => hA, ?_, .inr ⟨rfl, by show cenv.frame = some cenv.locals; rw [hce]; rfl⟩, fun b hb => ⟨?_, fun y c e z => ?_⟩, I.bs, Nat.le_trans I.ok.bsz I.sz, fun b o e hb => ?_, fun b hb z => ?_, I.stack, I.stkFree⟩
    · have hy : scope.names.lookup y = some .cell ∨ scope.names.lookup y = some .free := by rw [← hsc]; exact hy
      rcases hy with hy | hy
      · exact absurd rfl (hcell _ (PySem.mem_of_lookup hy))
      · obtain ⟨c, e1, _⟩ := look hy
        exact ⟨c, e1⟩
    · have z : false = true := z
      cases z
    · show (A'.frames.map (cenv :: ·)) = some (cenv :: X.stack)
      rw [hA2]; rfl
    · show b ≠ cenv.locals
      rw [hL]; exact Nat.ne_of_lt (hfp b hb).2
    · exact (hfp b hb).1.2.2.2.2.1 y c (mem e).1 z
    · rcases (hfp b hb).1.2.2.2.1 with z | z
      · exact I.ok.noex b o e z
      · exact absurd (Nat.lt_of_lt_of_le (Heap.lt_size e) (Nat.le_trans I.ok.bsz z)) (Nat.lt_irrefl _)
    · rcases List.mem_cons.mp (I.stkSub b z) with z | z
      · exact (hfp b hb).1.2.1 z
      · exact (hfp b hb).1.2.2.1 z
  refine ⟨okB, os, hb, Un.kept kp, ⟨m, by show Heap.Ns _ cenv.locals _; rw [hL]; exact hn, fun i y av e1 e2 e3 => ?_⟩, fun y c e => ?_, ?_, fun y c e => I.freeC y c (mem e).1, fun p hp => ?_, I.hok.kept kp, by rw [wipe_length]; exact I.len⟩
  · obtain ⟨e2, hne⟩ := wipe_some e2
    have e3 : Vis scope y := by rw [← hsc]; exact e3
    have no : ∀ k', (k' = NameKind.local ∨ k' = .cell) → scope.names.lookup y ≠ some k' := fun k' hh e => by
      rcases ok.own _ (PySem.mem_of_lookup e) hh with e' | e'
      · obtain ⟨p, hp, hpy⟩ := List.mem_map.mp e'
        have e3 := ok.ix p hp
        have : p.1 = y := hpy
        rw [this] at e3
        exact hne (List.mem_map.mpr ⟨p, hp, nodup_ix hN e3 e1⟩)
      · exact e' (List.mem_of_getElem? e1)
    have hfr : scope.names.lookup y = some .free := by
      rcases e3 with e3 | e3 | e3
      · exact absurd e3 (no _ (.inl rfl))
      · exact absurd e3 (no _ (.inr rfl))
      · exact e3
    obtain ⟨m, hn, hl⟩ := I.loc
    have hvis : Vis X.env.scope y := (ok.free _ (PySem.mem_of_lookup hfr) rfl).elim (fun k => .inr (.inl k)) (fun k => .inr (.inr k))
    obtain ⟨w, r, q⟩ := hl i y av e1 e2 hvis
    refine ⟨w, r, .inr ⟨.inr (by show cenv.scope.names.lookup y = _; rw [hsc]; exact hfr), ?_⟩⟩
    obtain ⟨c, h1, h2⟩ := look hfr
    rcases q with ⟨k, _⟩ | ⟨_, c', e', z⟩
    · have k : X.env.scope.names.lookup y = some .local := k
      rcases ok.free _ (PySem.mem_of_lookup hfr) rfl with k' | k' <;> rw [show X.env.scope.names.lookup y = _ from k'] at k <;> cases k
    · rw [h2] at e'; cases e'
      exact ⟨c, h1, z.keeps kp⟩
  · obtain ⟨w, z⟩ := I.cell y c (mem e).1
    exact ⟨w, z.keeps kp⟩
  · show H cenv.locals = none
    rw [hL]; exact I.hok.fresh (Nat.le_refl _)
  · obtain ⟨p1, p2, p3, p4, p5⟩ := hpn p hp
    exact ⟨p1, p2, by show p.1 ≠ cenv.locals; rw [hL]; exact p3, p4, p5⟩

/-! ### while the generator sleeps -/
/-- the consumer's own objects at Ps may change, all else is kept -/
structure Slp (Ps : List Addr) (s s' : Shared) : Prop where
  os : s'.os = s.os
  bare : AllBare s'.gens
  keep : ∀ b o, b ∉ Ps → s.heap.get? b = some o → s'.heap.get? b = some o
  own : ∀ b ∈ Ps, ∃ o, s'.heap.get? b = some o ∧ ∀ v, o.data ≠ .cell v
def KeptP (Ps : List Addr) (s₀ s : Shared) : Prop := ∀ b ∈ Ps, ∀ o, s₀.heap.get? b = some o → s.heap.get? b = some o
theorem KeptP.refl (Ps : List Addr) (s : Shared) : KeptP Ps s s := fun _ _ _ e => e
theorem KeptP.trans {Ps : List Addr} {a b c : Shared} (x : KeptP Ps a b) (y : KeptP Ps b c) : KeptP Ps a c := fun d hd o e => y d hd o (x d hd o e)
/-- the consumer's objects are none of the generator's -/
structure Far (X : Cx) (fp Ps : List Addr) : Prop where
  old : ∀ b ∈ Ps, X.s_0.heap.objs.size ≤ b
  loc : ∀ b ∈ Ps, b ≠ X.env.locals
  cel : ∀ b ∈ Ps, ∀ x c, X.env.cells.lookup x = some c → c ≠ b
  apn : ∀ b ∈ Ps, ∀ p ∈ X.pn, p.1 ≠ b
  afs : ∀ b ∈ Ps, b ∉ X.fs
  afp : ∀ b ∈ fp, b ∉ Ps
  aex : ∀ b ∈ fp, b ∈ X.ex
  exp : ∀ b ∈ fp, ∀ p ∈ X.pn, p.1 ≠ b
/-- at turn i -/
structure GAt (X : Cx) (fp Ps : List Addr) (tn : Nat → Heap → Prop) (τ : L2.St) (W : Nat → Hp → Prop) (i : Nat) (H : Hp) (s : Shared) : Prop where
  inv : Inv X [] τ H s
  tn : tn i s.heap
  nfp : ∀ b ∈ fp, H b = none
  nps : ∀ b ∈ Ps, H b = none
  obj : ∀ b ∈ Ps, ∃ o, s.heap.get? b = some o ∧ ∀ v, o.data ≠ .cell v
  w : W i H
theorem GAt.slept {X : Cx} {fp Ps : List Addr} {tn : Nat → Heap → Prop} {τ : L2.St} {W : Nat → Hp → Prop} {i : Nat} {H : Hp} {s s' : Shared} (F : Far X fp Ps)
    (hk : ∀ i h h', tn i h → (∀ b ∈ fp, ∀ o, h.get? b = some o → h'.get? b = some o) → tn i h') (G : GAt X fp Ps tn τ W i H s) (z : Slp Ps s s') : GAt X fp Ps tn τ W i H s' := by
  obtain ⟨I, t, nf, np, ob, w⟩ := G
  obtain ⟨z1, z2, z3, z4⟩ := z
  have nt : ∀ b u, H b = some u → b ∉ Ps := fun b u q hb => by rw [np b hb] at q; cases q
  obtain ⟨hh, g, d, tk, o⟩ := s'
  have ho : o = s.os := z1
  subst ho
  refine ⟨?_, hk _ _ _ t fun b hb o e => z3 b o (F.afp b hb) e, nf, np, z4, w⟩
  refine I.step (g' := g) (t' := tk) (d' := d) (ch := Ps) (fun b hb => ⟨.inr (F.old b hb), F.loc b hb, F.cel b hb, fun p hp => F.apn b hb p (by simpa using hp)⟩)
    (fun b ob _ _ hc q _ => z3 b ob hc q) (fun b ob _ _ hc q _ => ⟨ob.slots, z3 b ob hc q⟩) (fun _ _ _ _ n => n) (fun b ob hc q => ⟨ob, z3 b ob hc q⟩)
    (fun _ _ q => q) (fun _ _ _ q => q) (fun b ps q => ⟨#[], by rw [q]; simp⟩) (fun m hm => ?_) (fun b u q => ?_) z2
  · obtain ⟨ob, es, ep, ho, r⟩ := hm
    exact ⟨ob, es, ep, z3 _ ob (fun z => F.loc _ z rfl) ho, r⟩
  · refine (I.hok b u q).stay (fun c v hc y => z3 c v ?_ y) (fun _ y => y) fun _ _ y => y
    rcases hc with y | y
    · rw [y]; exact nt b u q
    · exact nt c _ y
theorem Slp.refl_of {X : Cx} {fp Ps : List Addr} {tn : Nat → Heap → Prop} {τ : L2.St} {W : Nat → Hp → Prop} {i : Nat} {H : Hp} {s : Shared} (G : GAt X fp Ps tn τ W i H s) : Slp Ps s s :=
  ⟨rfl, G.inv.bare, fun _ _ _ e => e, G.obj⟩

/-! ### the generator's own run -/
section
variable {X : Cx} {A' : Around} {elt tg iter : Expr} {scope : Scope} {pos : Pos} {it : Addr} {fp Ps : List Addr} {tn : Nat → Heap → Prop} {J : It} {τ : L2.St} {vs : List Nat} {W : Nat → Hp → Prop} {n₀ : Nat} {val : Nat → V} {g : TG} {te : TE}
def gEnd (X : Cx) (fp Ps : List Addr) (τ : L2.St) (W : Nat → Hp → Prop) (n₀ : Nat) : Nat → Shared → Shared → Prop := fun n s₀ s₁ => n = 0 ∧ (∃ H, GAt X fp Ps (fun _ _ => True) τ W n₀ H s₁) ∧ KeptP Ps s₀ s₁
def gPro (X : Cx) (fp Ps : List Addr) (tn : Nat → Heap → Prop) (τ : L2.St) (W : Nat → Hp → Prop) (n₀ : Nat) (val : Nat → V) : Protocol := fun n s₀ v s₁ kap =>
  RelV (val (n₀ - 1 - n)) v ∧ (∃ H, GAt X fp Ps tn τ W (n₀ - n) H s₁) ∧ KeptP Ps s₀ s₁ ∧ ∀ s₂, Slp Ps s₁ s₂ → kap (.send .none) s₂
/-- what each turn does -/
def Turns (J : It) (W : Nat → Hp → Prop) (n₀ : Nat) (g : TG) (te : TE) (τ : L2.St) (vs : List Nat) (val : Nat → V) : Prop :=
  ∀ i H, i ≤ n₀ → W i H → (i = n₀ ∧ J.stop i H) ∨ (i < n₀ ∧ J.go i H ∧ ∀ x H', J.yld i H x H' → g x τ H' fun σ2 H2 => wipe σ2 vs = τ ∧ te σ2 H2 fun y H3 => y = val i ∧ W (i + 1) H3)
theorem seg_gx (hA : X.A = A'.over (.compLoop (.GeneratorExp elt [⟨tg, iter, [], 0⟩] scope pos) 0 (.ref it) .none X.env) []) (hc : X.calm = true) (hxe : X.xe = fun _ _ => False) (hco : X.env.scope.isCoroutine = false)
    (T : Turn X.prog X.w X.K tg J fp it tn) (pg : PG X tg g) (pe : PE X elt te) (F : Far X fp Ps) (hτ : ∀ σ : L2.St, wipe σ vs = τ → τ.length = σ.length ∧ ∀ (j : Nat) v, τ[j]? = some (some v) → σ[j]? = some (some v)) (turn : Turns J W n₀ g te τ vs val) :
    ∀ (k i : Nat) (s₀ s : Shared) (H : Hp), n₀ - i = k → i ≤ n₀ → GAt X fp Ps tn τ W i H s → KeptP Ps s₀ s →
      Seg (model X.prog X.w) A' (fun n s₀ r s₁ => r = .ok .next ∧ gEnd X fp Ps τ W n₀ n s₀ s₁) (gPro X fp Ps tn τ W n₀ val) (n₀ - i) s₀
        (.compLoop (.GeneratorExp elt [⟨tg, iter, [], 0⟩] scope pos) 0 (.ref it) .none X.env)
        ((model X.prog X.w).den (.compLoop (.GeneratorExp elt [⟨tg, iter, [], 0⟩] scope pos) 0 (.ref it) .none X.env)) [] s := by
  have stat : ∀ {pins : List (Addr × Obj)} {H' : Hp} {s' : Shared}, Inv X pins τ H' s' → (∀ b ∈ fp, H' b = none) → (∀ p ∈ pins, p.1 ∈ Ps) → ∀ b ∈ fp, FpOk X pins H' b := fun {pins H' s'} I' hn hp b hb =>
    ⟨hn b hb, (I'.ok.exf b (F.aex b hb)).1, I'.ok.exfs b (F.aex b hb), .inl (F.aex b hb), fun x c e => (I'.ok.exf b (F.aex b hb)).2 x c e, fun p hp' => by
      rcases List.mem_append.mp hp' with z | z
      · exact F.exp b hb p z
      · exact fun e => F.afp b hb (e ▸ hp p z)⟩
  have pin0 : ∀ {i : Nat} {H : Hp} {s : Shared}, GAt X fp Ps tn τ W i H s → Inv X (pinsAt Ps s.heap) τ H s := fun {i H s} G => G.inv.pins_of fun p hp => by
    obtain ⟨hb, e⟩ := of_pinsAt hp
    obtain ⟨o, e', d⟩ := G.obj p.1 hb
    rw [e] at e'; cases e'
    exact ⟨e, G.nps _ hb, F.loc _ hb, F.afs _ hb, d⟩
  have npsOf : ∀ {i : Nat} {H H' : Hp} {s s' : Shared} {pins : List (Addr × Obj)} {σ' : L2.St}, GAt X fp Ps tn τ W i H s → Inv X (pinsAt Ps s.heap ++ pins) σ' H' s' →
      KeptP Ps s s' ∧ (∀ b ∈ Ps, H' b = none) ∧ ∀ b ∈ Ps, ∃ o, s'.heap.get? b = some o ∧ ∀ v, o.data ≠ .cell v := fun {i H H' s s' pins σ'} G I' => by
    have q : ∀ b ∈ Ps, ∀ o, s.heap.get? b = some o → s'.heap.get? b = some o ∧ H' b = none ∧ ∀ v, o.data ≠ .cell v := fun b hb o e =>
      let z := I'.pin (b, o) (List.mem_append_right _ (List.mem_append_left _ (mem_pinsAt hb e)))
      ⟨z.1, z.2.1, z.2.2.2.2⟩
    refine ⟨fun b hb o e => (q b hb o e).1, fun b hb => ?_, fun b hb => ?_⟩
    · obtain ⟨o, e, _⟩ := G.obj b hb
      exact (q b hb o e).2.1
    · obtain ⟨o, e, _⟩ := G.obj b hb
      exact ⟨o, (q b hb o e).1, (q b hb o e).2.2⟩
  intro k
  induction k with
  | zero =>
    intro i s₀ s H hk hi G kp
    have hin : i = n₀ := by omega
    subst hin
    have stop : J.stop i H := by
      rcases turn i H hi G.w with ⟨_, stop⟩ | ⟨z, _⟩
      · exact stop
      · omega
    show Seg _ A' _ _ _ s₀ _ ((compTurn (.GeneratorExp elt [⟨tg, iter, [], 0⟩] scope pos) 0 (.ref it) .none X.env).onRaise (leaving X.env)) [] s
    rw [compTurn_gen, Sem.onRaise_eq_wrap]
    refine seg_bind_wrap (wpAny_standAt ?_)
    refine seg_bind_wrap ?_
    rw [← hA]
    have I0 := pin0 G
    refine thnF (T.done X rfl rfl rfl hc i (pinsAt Ps s.heap) s τ H (fun _ _ => False) I0 (stat I0 G.nfp fun p hp => (of_pinsAt hp).1) G.tn stop) fun r s6 ⟨hr, I6⟩ => ?_
    subst hr
    have I6' : Inv X (pinsAt Ps s.heap ++ []) τ H s6 := by rw [List.append_nil]; exact I6
    obtain ⟨q1, q2, q3⟩ := npsOf G I6'
    exact seg_end (.ok .next) ⟨rfl, by omega, ⟨H, I6.pins_of (fun p hp => by cases hp), True.intro, G.nfp, q2, q3, G.w⟩, kp.trans q1⟩
  | succ k ih =>
    intro i s₀ s H hk hi G kp
    have hlt : i < n₀ := by omega
    obtain ⟨go, step⟩ : J.go i H ∧ ∀ x H', J.yld i H x H' → g x τ H' fun σ2 H2 => wipe σ2 vs = τ ∧ te σ2 H2 fun y H3 => y = val i ∧ W (i + 1) H3 := by
      rcases turn i H hi G.w with ⟨z, _⟩ | ⟨_, z⟩
      · omega
      · exact z
    obtain ⟨m, hm⟩ : ∃ m, n₀ - i = m + 1 := ⟨n₀ - i - 1, by omega⟩
    rw [hm]
    show Seg _ A' _ _ _ s₀ _ ((compTurn (.GeneratorExp elt [⟨tg, iter, [], 0⟩] scope pos) 0 (.ref it) .none X.env).onRaise (leaving X.env)) [] s
    rw [compTurn_gen, Sem.onRaise_eq_wrap]
    refine seg_bind_wrap (wpAny_standAt ?_)
    refine seg_bind_wrap ?_
    rw [← hA]
    have I0 := pin0 G
    refine thnF (T.item X rfl rfl rfl hc i (pinsAt Ps s.heap) s τ H (fun _ _ => False) I0 (stat I0 G.nfp fun p hp => (of_pinsAt hp).1) G.tn go) fun r s6 ⟨u, hr, h6⟩ => ?_
    subst hr
    refine seg_bind_wrap ?_
    rw [← hA]
    refine thnF h6 fun _ s7 ⟨x, H7, I7, r7, y7, st7, n7⟩ => ?_
    have I7' := I7.pinned (stat I7 n7 fun p hp => (of_pinsAt hp).1) (T.obj _ _ st7)
    refine seg_bind_wrap ?_
    rw [← hA]
    have w8 := pg.run _ s7 _ H7 x u _ I7' r7 (step x H7 y7)
    rw [hxe] at w8
    refine thnF w8 fun _ s8 ⟨σ8, H8, I8, hw8, q8⟩ => ?_
    simp only [List.forIn_nil]
    refine seg_bind_wrap (wpAny_pure ?_)
    simp only [if_true]
    have hy : ∀ v, yieldOut X.env v = yieldValue v := fun v => by simp only [yieldOut, hco, Bool.false_eq_true, if_false]
    simp only [hy]
    rw [Sem.bind_eq_wrap', Sem.bind_eq_wrap', Sem.wrap_wrap, Sem.wrap_wrap]
    refine seg_wrap ?_
    rw [← hA]
    have w9 := pe.run _ s8 σ8 H8 _ I8 q8
    rw [hxe] at w9
    refine thnF w9 fun z s10 ⟨yv, H10, I10, r10, hv, nx⟩ => ?_
    subst hv
    obtain ⟨q1, q2, q3⟩ := npsOf G I10
    obtain ⟨hl, hw⟩ := hτ σ8 hw8
    have pinF : ∀ b ∈ fp, ∀ o, s7.heap.get? b = some o → s10.heap.get? b = some o ∧ H10 b = none := fun b hb o e =>
      let z := I10.pin (b, o) (List.mem_append_right _ (List.mem_append_right _ (mem_pinsAt hb e)))
      ⟨z.1, z.2.1⟩
    have G10 : GAt X fp Ps tn τ W (i + 1) H10 s10 := by
      refine ⟨(I10.pins_of (fun p hp => by cases hp)).weak hl hw, T.keep _ _ _ st7 fun b hb o e => (pinF b hb o e).1, fun b hb => ?_, q2, q3, nx⟩
      obtain ⟨o, e, _⟩ := T.obj _ _ st7 b hb
      exact (pinF b hb o e).2
    have e1 : n₀ - 1 - m = i := by omega
    have e2 : n₀ - m = i + 1 := by omega
    refine seg_at (seg_yield rfl rfl rfl ⟨?_, ?_, kp.trans q1, fun s'' hal => ?_⟩)
    · rw [e1]; exact r10
    · rw [e2]; exact ⟨H10, G10⟩
    · have r := ih (i + 1) s'' s'' H10 (by omega) hlt (G10.slept F T.keep hal) (KeptP.refl _ _)
      rw [show n₀ - (i + 1) = m from by omega] at r
      exact seg_again rfl r
end
end Wk

set_option Elab.async false
set_option linter.all false
set_option maxRecDepth 100000
set_option maxHeartbeats 2000000
namespace Wk
open PySem PySem.Spec PyProof.Rows L2 GxR GenW
section
variable {X : Cx} {A' A : Around} {elt tg iter : Expr} {scope : Scope} {pos : Pos} {it a : Addr} {gn : Nat} {go : Obj} {fp Ps : List Addr} {tn : Nat → Heap → Prop} {J : It} {τ : L2.St} {vs : List Nat} {W : Nat → Hp → Prop} {n₀ : Nat} {val : Nat → V} {g : TG} {te : TE}
theorem seg_gs (hA : X.A = A'.over (.compLoop (.GeneratorExp elt [⟨tg, iter, [], 0⟩] scope pos) 0 (.ref it) .none X.env) []) (hc : X.calm = true) (hxe : X.xe = fun _ _ => False) (hco : X.env.scope.isCoroutine = false)
    (T : Turn X.prog X.w X.K tg J fp it tn) (pg : PG X tg g) (pe : PE X elt te) (F : Far X fp Ps) (hτ : ∀ σ : L2.St, wipe σ vs = τ → τ.length = σ.length ∧ ∀ (j : Nat) v, τ[j]? = some (some v) → σ[j]? = some (some v)) (turn : Turns J W n₀ g te τ vs val)
    {s₀ s : Shared} {H : Hp} (G : GAt X fp Ps tn τ W 0 H s) (kp : KeptP Ps s₀ s) :
    Seg (model X.prog X.w) A' (fun n s₀ r s₁ => r = .ok .next ∧ gEnd X fp Ps τ W n₀ n s₀ s₁) (gPro X fp Ps tn τ W n₀ val) n₀ s₀
      (.compStart (.GeneratorExp elt [⟨tg, iter, [], 0⟩] scope pos) 0 (.ref it) .none X.env)
      ((model X.prog X.w).den (.compStart (.GeneratorExp elt [⟨tg, iter, [], 0⟩] scope pos) 0 (.ref it) .none X.env)) [] s := by
  have loop := seg_gx (iter := iter) (scope := scope) (pos := pos) hA hc hxe hco T pg pe F hτ turn n₀ 0 s₀ s H (Nat.sub_zero _) (Nat.zero_le _) G kp
  rw [Nat.sub_zero] at loop
  show Seg _ A' _ _ _ s₀ _ ((compStart (.GeneratorExp elt [⟨tg, iter, [], 0⟩] scope pos) 0 (.ref it) .none X.env).onRaise (leaving X.env)) [] s
  unfold compStart
  rw [Sem.onRaise_eq_wrap]
  show Seg _ A' _ _ _ s₀ _ ((ask >>= _).wrap _ _ _ _) [] s
  refine seg_bind_wrap (wpAny_askSetting ?_)
  split
  · exact seg_again rfl loop
  · first
      | exact seg_bind_wrap (wpAny_rule (seg_bind_wrap (wpAny_standAt (seg_bind_wrap (T.self _ 0 s _ _ G.tn (seg_again rfl loop))))))
      | (refine seg_bind_wrap (wpAny_rule ?_); show Seg _ A' _ _ _ s₀ _ ((standAt iter.pos >>= _).wrap _ _ _ _) [] s; exact seg_bind_wrap (wpAny_standAt (seg_bind_wrap (T.self _ 0 s _ _ G.tn (seg_again rfl loop)))))
/-- asleep at turn i, ready to be woken -/
structure Awk (X : Cx) (A' : Around) (fp Ps : List Addr) (tn : Nat → Heap → Prop) (τ : L2.St) (W : Nat → Hp → Prop) (n₀ : Nat) (val : Nat → V) (gn : Nat) (i : Nat) (s : Shared) : Prop where
  ate : ∃ H, GAt X fp Ps tn τ W i H s
  rdy : ∃ gs, s.gens[gn]? = some gs ∧ ∀ s', Slp Ps s s' → gs.Goes (model X.prog X.w) A' (fun n s₀ r s₁ => r = .ok .next ∧ gEnd X fp Ps τ W n₀ n s₀ s₁) (gPro X fp Ps tn τ W n₀ val) (n₀ - i) (.send .none) s'
theorem Slp.trans {Ps : List Addr} {s s' s'' : Shared} (x : Slp Ps s s') (y : Slp Ps s' s'') : Slp Ps s s'' := ⟨y.os.trans x.os, y.bare, fun b o hb e => y.keep b o hb (x.keep b o hb e), y.own⟩
/-- the consumer's own doings -/
theorem Awk.slept {i : Nat} {s s' : Shared} (F : Far X fp Ps) (hk : ∀ i h h', tn i h → (∀ b ∈ fp, ∀ o, h.get? b = some o → h'.get? b = some o) → tn i h') (w : Awk X A' fp Ps tn τ W n₀ val gn i s) (z : Slp Ps s s') (hg : s'.gens = s.gens) : Awk X A' fp Ps tn τ W n₀ val gn i s' := by
  obtain ⟨⟨H, G⟩, gs, e, r⟩ := w
  exact ⟨⟨H, G.slept F hk z⟩, gs, by rw [hg]; exact e, fun s'' z' => r s'' (z.trans z')⟩
theorem GAt.top {i : Nat} {H : Hp} {s : Shared} (G : GAt X fp Ps tn τ W i H s) : GAt X fp Ps (fun _ _ => True) τ W i H s := ⟨G.inv, True.intro, G.nfp, G.nps, G.obj, G.w⟩
theorem Awk.item (hA1 : A' = A.in1) (hh : A.handled = none) (hroom : A.depth < recursionLimit) (F : Far X fp Ps) (hk : ∀ i h h', tn i h → (∀ b ∈ fp, ∀ o, h.get? b = some o → h'.get? b = some o) → tn i h') (hpn : (a, go) ∈ X.pn) (hG : ∀ h : Heap, h.get? a = some go → h.IsGen a gn)
    {i : Nat} {s : Shared} {Q : Option Value → Shared → Prop} {E : Value → Shared → Prop} (hi : i < n₀) (w : Awk X A' fp Ps tn τ W n₀ val gn i s)
    (hQ : ∀ v s', RelV (val i) v → Awk X A' fp Ps tn τ W n₀ val gn (i + 1) s' → KeptP Ps s s' → Q (some v) s') : wpAny (model X.prog X.w) A (pyNext (.ref a)) Q E s := by
  subst hA1
  obtain ⟨⟨H, G⟩, gs, hgs, hgo⟩ := w
  obtain ⟨m, hm⟩ : ∃ m, n₀ - i = m + 1 := ⟨n₀ - i - 1, by omega⟩
  rw [hm] at hgo
  have hg := hG _ (G.inv.pin (a, go) (List.mem_append_left _ hpn)).1
  have z0 : Slp Ps s (s.setGen gn .running) := ⟨rfl, G.inv.bare.moved (GenOnlyQ.of (GenOnly.setGen s gn .running) (setGen_self hgs) rfl), fun _ _ _ e => e, G.obj⟩
  have hlt : gn < s.gens.size := by
    rcases Nat.lt_or_ge gn s.gens.size with z | z
    · exact z
    · rw [Array.getElem?_eq_none z] at hgs; cases hgs
  refine wpAny_gsz (Nat.le_refl s.gens.size) ?_
  refine wpAny_pyNext_genexpQ (P := gEnd X fp Ps τ W n₀) hh G.inv.nolimit hroom hg hgs (hgo _ z0) (fun v s₁ gs' hb hv => ?_) (fun s₁ hp h' hk => ?_)
  · obtain ⟨rv, ⟨H1, G1⟩, kp, hkap⟩ := hv
    have e1 : n₀ - 1 - (m + 1 - 1) = i := by omega
    have e2 : n₀ - (m + 1 - 1) = i + 1 := by omega
    rw [e1] at rv
    rw [e2] at G1
    intro hsz
    have hsz1 : s.gens.size ≤ s₁.gens.size := by rw [setGen_size] at hsz; exact hsz
    have hlt1 : gn < s₁.gens.size := Nat.lt_of_lt_of_le hlt hsz1
    have hs1 : (s₁.setGen gn gs').gens[gn]? = some gs' := setGen_self (Array.getElem?_eq_getElem hlt1)
    have z1 : Slp Ps s₁ (s₁.setGen gn gs') := ⟨rfl, G1.inv.bare.moved (GenOnlyQ.of (GenOnly.setGen s₁ gn gs') hs1 hb), fun _ _ _ e => e, G1.obj⟩
    refine hQ v _ rv ⟨⟨H1, G1.slept F hk z1⟩, gs', hs1, fun s'' hal => ?_⟩ kp
    have e : n₀ - (i + 1) = m := by omega
    rw [e]
    exact hkap s'' (z1.trans hal)
  · exact absurd hp.1 (Nat.succ_ne_zero m)
theorem Awk.done (hA1 : A' = A.in1) (hh : A.handled = none) (hroom : A.depth < recursionLimit) (F : Far X fp Ps) (hpn : (a, go) ∈ X.pn) (hG : ∀ h : Heap, h.get? a = some go → h.IsGen a gn)
    {s : Shared} {Q : Option Value → Shared → Prop} {E : Value → Shared → Prop} (w : Awk X A' fp Ps tn τ W n₀ val gn n₀ s)
    (hQ : ∀ s' H, GAt X fp Ps (fun _ _ => True) τ W n₀ H s' → KeptP Ps s s' → Q none s') : wpAny (model X.prog X.w) A (pyNext (.ref a)) Q E s := by
  subst hA1
  obtain ⟨⟨H, G⟩, gs, hgs, hgo⟩ := w
  rw [Nat.sub_self] at hgo
  have hg := hG _ (G.inv.pin (a, go) (List.mem_append_left _ hpn)).1
  have z0 : Slp Ps s (s.setGen gn .running) := ⟨rfl, G.inv.bare.moved (GenOnlyQ.of (GenOnly.setGen s gn .running) (setGen_self hgs) rfl), fun _ _ _ e => e, G.obj⟩
  have hlt : gn < s.gens.size := by
    rcases Nat.lt_or_ge gn s.gens.size with z | z
    · exact z
    · rw [Array.getElem?_eq_none z] at hgs; cases hgs
  refine wpAny_gsz (Nat.le_refl s.gens.size) ?_
  refine wpAny_pyNext_genexpQ (P := gEnd X fp Ps τ W n₀) hh G.inv.nolimit hroom hg hgs (hgo _ z0) (fun v s₁ gs' hb hv => ?_) (fun s₁ hp h' hk => ?_)
  · obtain ⟨_, ⟨H1, G1⟩, _, hkap⟩ := hv
    exact False.elim (hkap s₁ (Slp.refl_of G1))
  · obtain ⟨_, ⟨H1, G1⟩, kp⟩ := hp
    intro hsz
    have hsz1 : s.gens.size ≤ s₁.gens.size := by
      have z : s.gens.size ≤ (s₁.setGen gn .finished).gens.size := hsz
      rw [setGen_size] at z; exact z
    have hs1 : (s₁.setGen gn .finished).gens[gn]? = some .finished := setGen_self (Array.getElem?_eq_getElem (Nat.lt_of_lt_of_le hlt hsz1))
    have b1 : AllBare (s₁.setGen gn .finished).gens := G1.inv.bare.moved (GenOnlyQ.of (GenOnly.setGen s₁ gn .finished) hs1 rfl)
    have z1 : Slp Ps s₁ { s₁.setGen gn .finished with heap := h' } := ⟨rfl, b1, fun b o _ e => hk b o e, fun b hb => by
      obtain ⟨o, e, d⟩ := G1.obj b hb
      exact ⟨o, hk b o e, d⟩⟩
    exact hQ _ H1 (G1.slept F (fun _ _ _ _ _ => True.intro) z1) fun b hb o e => hk b o (kp b hb o e)

/-! ### all, any, sum of it -/
theorem all_gx (hA1 : A' = A.in1.in1) (hh : A.handled = none) (hroom : A.depth < recursionLimit) (F : Far X fp Ps) (hk : ∀ i h h', tn i h → (∀ b ∈ fp, ∀ o, h.get? b = some o → h'.get? b = some o) → tn i h') (hpn : (a, go) ∈ X.pn) (hG : ∀ h : Heap, h.get? a = some go → h.IsGen a gn)
    {tr : Nat → Bool} (hv : ∀ j, val j = .bl (tr j)) {R : Result → Shared → Prop} (h1 : ∀ s' H, (∀ j, j < n₀ → tr j = true) → GAt X fp Ps (fun _ _ => True) τ W n₀ H s' → R (.ok (.ret (.bool true))) s')
    (h2 : ∀ s' H j, j < n₀ → tr j = false → GAt X fp Ps (fun _ _ => True) τ W (j + 1) H s' → R (.ok (.ret (.bool false))) s') :
    ∀ (k i : Nat) (s : Shared), n₀ - i = k → i ≤ n₀ → (∀ j, j < i → tr j = true) → Awk X A' fp Ps tn τ W n₀ val gn i s → codeAny (model X.prog X.w) A (.builtin "all.loop" ⟨[.ref a], []⟩) R s := by
  intro k
  induction k with
  | zero =>
    intro i s hk' hi ha w
    have hin : i = n₀ := by omega
    subst hin
    refine codeAny_builtin PySem.F.entry_all_loop ?_
    rw [Around.under_plainId PySem.F.plain_all_loop _]
    show wpAny _ A.in1 (pyNext (.ref a) >>= _) _ _ s
    refine wpAny_bind (Awk.done (A := A.in1) hA1 hh hroom F hpn hG w fun s' H G _ => ?_)
    exact wpAny_bind (wpAny_rule (wpAny_pure (h1 s' H ha G)))
  | succ k ih =>
    intro i s hk' hi ha w
    have hlt : i < n₀ := by omega
    refine codeAny_builtin PySem.F.entry_all_loop ?_
    rw [Around.under_plainId PySem.F.plain_all_loop _]
    show wpAny _ A.in1 (pyNext (.ref a) >>= _) _ _ s
    refine wpAny_bind (Awk.item (A := A.in1) hA1 hh hroom F hk hpn hG hlt w fun v s' rv w' _ => ?_)
    rw [hv i] at rv
    have e : v = .bool (tr i) := rv
    subst e
    refine wpAny_bind (wpAny_holding (wpAny_truthy_bool ?_))
    refine wpAny_bind (wpAny_letGo ?_)
    cases hb : tr i with
    | true =>
      simp only [if_true]
      refine wpAny_pure ⟨plainId_quiet PySem.F.plain_all_loop _, ih (i + 1) _ (by omega) hlt (fun j hj => ?_) w'⟩
      rcases Nat.lt_or_ge j i with z | z
      · exact ha j z
      · rw [show j = i from by omega]; exact hb
    | false =>
      simp only [Bool.false_eq_true, if_false]
      obtain ⟨⟨H, G⟩, _⟩ := w'
      exact wpAny_bind (wpAny_rule (wpAny_pure (h2 s' H i hlt hb G.top)))
end
end Wk

set_option Elab.async false
set_option linter.all false
set_option maxRecDepth 100000
set_option maxHeartbeats 2000000
namespace Wk
open PySem PySem.Spec PyProof.Rows L2 GxR GenW
section
variable {X : Cx} {A' A : Around} {elt tg iter : Expr} {scope : Scope} {pos : Pos} {it a S : Addr} {gn : Nat} {go : Obj} {fp Ps : List Addr} {tn : Nat → Heap → Prop} {J : It} {τ : L2.St} {vs : List Nat} {W : Nat → Hp → Prop} {n₀ : Nat} {val : Nat → V} {g : TG} {te : TE}
theorem sum_gx (hA1 : A' = A.in1.in1) (hh : A.handled = none) (hroom : A.depth < recursionLimit) (F : Far X fp [S]) (hk : ∀ i h h', tn i h → (∀ b ∈ fp, ∀ o, h.get? b = some o → h'.get? b = some o) → tn i h') (hpn : (a, go) ∈ X.pn) (hG : ∀ h : Heap, h.get? a = some go → h.IsGen a gn)
    {vi : Nat → Int} (hv : ∀ j, val j = .int (vi j)) (hfit : ∀ j, j < n₀ → InLong (vi j) ∧ InLong (preSum vi (j + 1))) {R : Result → Shared → Prop} (h1 : ∀ s' t' H, GAt X fp [S] (fun _ _ => True) τ W n₀ H s' → R (.ok (.ret (.int (preSum vi n₀) t'))) s') :
    ∀ (k i : Nat) (s : Shared) (tA : Tok) (c : Nat), n₀ - i = k → i ≤ n₀ → Awk X A' fp [S] tn τ W n₀ val gn i s → s.heap.get? S = some { cls := .type "list", dict := none, data := .seq #[.int (preSum vi i) tA] c, slots := #[] } →
      codeAny (model X.prog X.w) A (.builtin "sum.loop" ⟨[.ref a, .ref S, rawInt 0, rawInt 0], []⟩) R s := by
  intro k
  induction k with
  | zero =>
    intro i s tA c hk' hi w hS
    have hin : i = n₀ := by omega
    subst hin
    refine codeAny_builtin PySem.F.entry_sum_loop ?_
    rw [Around.under_plainId PySem.F.plain_sum_loop _]
    show wpAny _ A.in1 (seqItems? (.ref S) >>= _) _ _ s
    refine wpAny_bind (wpAny_seqItems hS rfl ?_)
    show wpAny _ A.in1 (tryCatch (pyNext (.ref a)) _ >>= _) _ _ s
    refine wpAny_bind (wpAny_tryCatch (Awk.done (A := A.in1) hA1 hh hroom F hpn hG w fun s' H G _ => ?_))
    exact wpAny_pure (h1 s' tA H G)
  | succ k ih =>
    intro i s tA c hk' hi w hS
    have hlt : i < n₀ := by omega
    refine codeAny_builtin PySem.F.entry_sum_loop ?_
    rw [Around.under_plainId PySem.F.plain_sum_loop _]
    show wpAny _ A.in1 (seqItems? (.ref S) >>= _) _ _ s
    refine wpAny_bind (wpAny_seqItems hS rfl ?_)
    show wpAny _ A.in1 (tryCatch (pyNext (.ref a)) _ >>= _) _ _ s
    refine wpAny_bind (wpAny_tryCatch (Awk.item (A := A.in1) hA1 hh hroom F hk hpn hG hlt w fun v s' rv w' kp => ?_))
    rw [hv i] at rv
    obtain ⟨t, rfl⟩ := _root_.id rv
    have hS' := kp S (List.mem_singleton.mpr rfl) _ hS
    obtain ⟨⟨f1, f2⟩, f3, f4⟩ := hfit i hlt
    have hc : ((decide (-(2 ^ 63) ≤ vi i) && decide (vi i < 2 ^ 63)) && (decide (-(2 ^ 63) ≤ preSum vi i + vi i) && decide (preSum vi i + vi i < 2 ^ 63))) = true := by
      simp only [preSum] at f3 f4
      simp only [Bool.and_eq_true, decide_eq_true_eq]
      exact ⟨⟨f1, f2⟩, f3, f4⟩
    show wpAny _ A.in1 (if (_ : Bool) = true then (mkInt (preSum vi i + vi i) >>= _) else _) _ _ _
    split
    · refine wpAny_bind (wpAny_mkInt ?_)
      show wpAny _ A.in1 (updateSeq S (fun _ => #[.int (preSum vi i + vi i) s'.toks]) >>= _) _ _ _
      refine wpAny_bind ?_
      obtain ⟨⟨H, G⟩, _⟩ := id w'
      refine wpAny_updateSeq hS' rfl (wpAny_pure ⟨plainId_quiet PySem.F.plain_sum_loop _, ih (i + 1) _ s'.toks _ (by omega) hlt (w'.slept F hk ⟨rfl, G.inv.bare, fun b o hb e => ?_, fun b hb => ?_⟩ rfl) (Heap.get?_update_self _ hS' rfl)⟩)
      · exact (Heap.get?_update_other _ _ (fun h : S = b => hb (List.mem_singleton.mpr h.symm))).trans e
      · rw [List.mem_singleton.mp hb]
        exact ⟨_, Heap.get?_update_self _ hS' rfl, fun v q => by cases q⟩
    · rename_i hneg
      exact absurd hc hneg
end
/-- a generator, just made in the state s5; s3: ahead of its frame -/
structure Made (X : Cx) (pins : List (Addr × Obj)) (σ : L2.St) (elt tg iter : Expr) (scope : Scope) (gpos : Pos) (J : It) (H2 : Hp) (s3 : Shared) (fp : List Addr) (it : Addr) (tn : Nat → Heap → Prop) (cenv : Env) (a : Addr) (go : Obj) (gn : Nat) (s5 : Shared) : Prop where
  inv : Inv X pins σ H2 s3
  turn : Turn X.prog X.w X.K tg J fp it tn
  fpo : ∀ b ∈ fp, FpOk X pins H2 b ∧ b < s3.heap.objs.size
  env : ∃ code, cenv = genEnv scope (cloFrom X.env.cells scope.names []) s3.heap.objs.size code builtinsNs X.env
  tn0 : tn 0 s5.heap
  os : s5.os = s3.os
  bare : AllBare s5.gens
  keep : ∀ b o, s3.heap.get? b = some o → s5.heap.get? b = some o
  ns : ∃ m, s5.heap.Ns s3.heap.objs.size m
  gen : s5.gens[gn]? = some (.fresh (.compStart (.GeneratorExp elt [⟨tg, iter, [], 0⟩] scope gpos) 0 (.ref it) .none cenv))
  obj : s5.heap.get? a = some go
  isg : ∀ h : Heap, h.get? a = some go → h.IsGen a gn
  lta : s3.heap.objs.size < a
  noc : ∀ v, go.data ≠ .cell v
section
variable {X : Cx} {pins : List (Addr × Obj)} {σ : L2.St} {H : Hp} {s : Shared} {elt tg iter : Expr} {scope : Scope} {gpos : Pos} {own : List (Str × Nat)} {wi : TI}
theorem gen_mk {c P : Addr} {k : Nat} {Q' : Value → Shared → Prop} {R : It → Hp → Prop} (hr : Room k X.A) (TB : GxR.TabB X.base X.mg c P) (hcode : X.env.code = .ref c) (hco : scope.isCoroutine = false) (hcell : ∀ y ∈ scope.names, y.2 ≠ .cell)
    (hdot : scope.names.lookup (".0" : Str) = some NameKind.local) (ok : BlkOk X.N X.env.scope scope own) (hi : PI X tg iter wi) (hs : ∀ v, genFold iter X.env v = pure v) (I : Inv X pins σ H s)
    (h : wi σ H fun J H1 => TabG H1 P ∧ ∀ H2, Tabbed P H1 H2 → R J H2)
    (hQ : ∀ J H2 s3 fp it tn cenv a go gn s5, R J H2 → Made X pins σ elt tg iter scope gpos J H2 s3 fp it tn cenv a go gn s5 → Q' (.ref a) s5) :
    wpAny (model X.prog X.w) X.A (eval (.GeneratorExp elt [⟨tg, iter, [], 0⟩] scope gpos) X.env) Q' X.xe s := by
  have hfree : ∀ y ∈ scope.names, y.2 = .free → ∃ c, X.env.cells.lookup y.1 = some c := fun y hy e => by
    rcases ok.free y hy e with k | k
    · exact I.ok.has _ (.inl k)
    · exact I.ok.has _ (.inr k)
  refine wpAny_GeneratorExp_make hco (closure_ok hfree) hcell hdot ok.kind (by have := hr.dp; omega) ?_ hs
  refine thn (hi.run pins s σ H _ I h) fun xv s1 hx => thn hx fun itv s2 h2 => ?_
  obtain ⟨it, fp, tn, J, H1, e, I1, T, st1, f1, ⟨ps, hP, ht⟩, q⟩ := h2
  subst e
  have hPs : s2.heap.get? P = some { cls := .none, data := .fields ps } := I1.hok P _ hP
  have cd : PySem.W.CodeHd s2.heap c P := TB.code.keeps fun b u e => I1.bk b u e
  have hcP : cStatics ≠ P := fun e => by
    obtain ⟨_, hns, _⟩ := I1.nolimit
    obtain ⟨o', es, ep, ho, hd, _⟩ := hns
    rw [e, hPs] at ho
    cases ho
    cases hd
  have nfP : ∀ b ∈ fp, b ≠ P := fun b hb z => by
    have q := (f1 b hb).1
    rw [z, hP] at q; cases q
  have sz : ∀ b ∈ fp, b < s2.heap.objs.size := fun b hb => by
    obtain ⟨o, e, _⟩ := T.obj _ _ st1 b hb
    exact Heap.lt_size e
  have cont : ∀ (code : Value) (h3 : Heap) (tk : Nat) (more : Array Value), Heap.ExtBut P s2.heap h3 → s2.heap.objs.size ≤ h3.objs.size → h3.get? P = some { cls := .none, data := .fields (ps ++ more) } → TriplesOk (ps ++ more).toList →
      wpAny (model X.prog X.w) X.A (builtinsFor X.env.globals X.env.builtins) (fun bi s₄ =>
        ∀ h', h'.Ns s₄.heap.objs.size (fun y => if y = ".0" then some (.ref it) else none) → Heap.SameBut s₄.heap.objs.size (s₄.heap.push { cls := .type "frame", data := .dict #[] }) h' →
          Q' (.ref h'.objs.size) { s₄ with
            gens := s₄.gens.push (.fresh (.compStart (.GeneratorExp elt [⟨tg, iter, [], 0⟩] scope gpos) 0 (.ref it) .none (genEnv scope (cloFrom X.env.cells scope.names []) s₄.heap.objs.size code bi X.env))),
            toks := s₄.toks + 1 + 1 + 1,
            heap := h'.push { cls := .type "generator", data := .fields #[.int s₄.gens.size 0, .str "<genexpr>" (s₄.toks + 1), .str (X.env.qual ++ "<genexpr>") (s₄.toks + 1 + 1)] } }) X.xe { s2 with heap := h3, toks := tk } := by
    intro code h3 tk more hx hsz hP3 ht3
    obtain ⟨bm, ob, e1, e2, e3, e4, e5, e6, e7, e8⟩ := TB.bm
    refine wpAny_builtinsFor (m := X.mg) (by rw [I1.ok.glob]; exact (I1.mod.glob.keeps I1.bk).extBut hx TB.gP) e1 e2 (hx _ _ e4 (I1.bk _ _ e5)) e6 e7 e8 ?_
    intro h' hn' hs'
    have I3 : Inv X pins σ (upd H1 P (.tbl (ps ++ more))) ({ s2 with heap := h3, toks := tk } : Shared) :=
      inv_tab (g' := s2.gens) (d' := s2.drawn) (t' := tk) I1 hP (fun b o hb e => hx b o hb e) hP3 I1.bare
    have hsz' : h'.objs.size = h3.objs.size + 1 := by rw [hs'.1, Heap.size_push]
    have keep' : ∀ b o, h3.get? b = some o → h'.get? b = some o := fun b o e => hs'.extBut b o (Nat.ne_of_lt (Heap.lt_size e)) (Heap.get?_push_of_some _ e)
    refine hQ J (upd H1 P (.tbl (ps ++ more))) ({ s2 with heap := h3, toks := tk } : Shared) fp it tn _ _ _ s2.gens.size _ (q _ ⟨⟨ps ++ more, upd_same, ht3⟩, fun b hb => upd_ne hb⟩) ⟨I3, T, fun b hb => ⟨⟨?_, (f1 b hb).2⟩, ?_⟩, ⟨code, rfl⟩, ?_, rfl, ?_, fun b o e => ?_, ⟨_, hn'.push _⟩, Array.getElem?_push_size .., Heap.get?_push_size _ rfl, fun h e => ⟨_, _, _, e, rfl, rfl, rfl⟩, ?_, fun v q => by cases q⟩
    · rw [upd_ne (nfP b hb)]; exact (f1 b hb).1
    · exact Nat.lt_of_lt_of_le (sz b hb) hsz
    · exact T.keep _ _ _ st1 fun b hb o e => Heap.get?_push_of_some _ (keep' b o (hx b o (nfP b hb) e))
    · exact I1.bare.push rfl
    · exact Heap.get?_push_of_some _ (keep' b o e)
    · show h3.objs.size < h'.objs.size
      omega
  refine ⟨I1.nolimit, ?_⟩
  cases hf : codeAmong gpos ps.toList with
  | none =>
    refine wpAny_genexprCodeX hcode (cd.code hPs ht) (cd.tab hPs) hf fun c' h' tk hx hge hlt hco' _ htab' _ => ?_
    obtain ⟨o1, vs, f1, tf, fl, tg, inF, tx, tt, op, _, _, _, _, _, _, _, _, _, htr, _⟩ := hco'
    exact cont _ h' tk _ hx (Nat.le_trans hge (Nat.le_of_lt hlt)) htab'.2 htr
  | some cv =>
    refine wpAny_genexprCode_hit hcode (cd.code hPs ht) hf ?_
    have z := cont cv s2.heap s2.toks #[] (Heap.ExtBut.refl _ _) (Nat.le_refl _) (by rw [Array.append_empty]; exact hPs) (by rw [Array.append_empty]; exact ht)
    exact z
end
end Wk

set_option Elab.async false
set_option linter.all false
set_option maxRecDepth 100000
set_option maxHeartbeats 2000000
namespace Wk
open PySem PySem.Spec PyProof.Rows L2 GxR GenW
section
variable {X : Cx} {pins : List (Addr × Obj)} {σ : L2.St} {H H2 : Hp} {s s3 s5 s6 : Shared} {elt tg iter : Expr} {scope : Scope} {gpos : Pos} {own : List (Str × Nat)} {wi : TI} {A' : Around} {it a : Addr} {gn n₀ : Nat} {go : Obj} {fp Ps : List Addr} {tn : Nat → Heap → Prop}
  {J : It} {W : Nat → Hp → Prop} {val : Nat → V} {g : TG} {te : TE} {cenv : Env}
theorem Made.awk (M : Made X pins σ elt tg iter scope gpos J H2 s3 fp it tn cenv a go gn s5) (hc : X.calm = true) (hN : X.N.Nodup) (ok : BlkOk X.N X.env.scope scope own) (hcell : ∀ y ∈ scope.names, y.2 ≠ .cell) (hco : scope.isCoroutine = false)
    (hA : A'.handled = none) (hA2 : A'.frames = some X.stack) (hpg : PG (gfx X A' s3 H2 cenv fp [(a, go)]) tg g) (hpe : PE (gfx X A' s3 H2 cenv fp [(a, go)]) elt te)
    (turn : Turns J W n₀ g te (wipe σ (own.map (·.2))) (own.map (·.2)) val) (w0 : W 0 H2) (os6 : s6.os = s5.os) (g6 : s6.gens = s5.gens) (k6 : ∀ b o, s5.heap.get? b = some o → s6.heap.get? b = some o)
    (hPs : ∀ b ∈ Ps, s5.heap.objs.size ≤ b ∧ ∃ o, s6.heap.get? b = some o ∧ ∀ v, o.data ≠ .cell v) :
    Far (gfx X A' s3 H2 cenv fp [(a, go)]) fp Ps ∧ Awk (gfx X A' s3 H2 cenv fp [(a, go)]) A' fp Ps tn (wipe σ (own.map (·.2))) W n₀ val gn 0 s6 := by
  obtain ⟨code, hce⟩ := M.env
  obtain ⟨m, hn⟩ := M.ns
  have lt5 : s3.heap.objs.size < s5.heap.objs.size := Nat.lt_trans M.lta (Heap.lt_size M.obj)
  have hL : cenv.locals = s3.heap.objs.size := by rw [hce]; rfl
  have nostk : ∀ b, s3.heap.objs.size ≤ b → b ∉ frs X.stack := fun b hb z => by
    have f := M.inv.fpOk (H' := H2) hb (M.inv.hok.fresh hb)
    rcases List.mem_cons.mp (M.inv.stkSub b z) with y | y
    · exact f.2.1 y
    · exact f.2.2.1 y
  have I6 : Inv (gfx X A' s3 H2 cenv fp [(a, go)]) [] (wipe σ (own.map (·.2))) H2 s6 := by
    refine gen_start M.inv ok hN hcell M.fpo hA hA2 hce (os6.trans M.os) (by rw [g6]; exact M.bare) (fun b o e => k6 b o (M.keep b o e)) (hn.at' fun o e => k6 _ o e) fun p hp => ?_
    have e : p = (a, go) := by simpa using hp
    subst e
    exact ⟨k6 _ _ M.obj, M.inv.hok.fresh (Nat.le_of_lt M.lta), Nat.ne_of_gt M.lta, nostk _ (Nat.le_of_lt M.lta), M.noc⟩
  have I5 : Inv (gfx X A' s3 H2 cenv fp [(a, go)]) [] (wipe σ (own.map (·.2))) H2 s5 := by
    refine gen_start M.inv ok hN hcell M.fpo hA hA2 hce M.os M.bare M.keep hn fun p hp => ?_
    have e : p = (a, go) := by simpa using hp
    subst e
    exact ⟨M.obj, M.inv.hok.fresh (Nat.le_of_lt M.lta), Nat.ne_of_gt M.lta, nostk _ (Nat.le_of_lt M.lta), M.noc⟩
  have ge3 : ∀ b ∈ Ps, s3.heap.objs.size ≤ b := fun b hb => Nat.le_trans (Nat.le_of_lt lt5) (hPs b hb).1
  have F : Far (gfx X A' s3 H2 cenv fp [(a, go)]) fp Ps := by
    refine ⟨ge3, fun b hb => ?_, fun b hb x c e z => ?_, fun b hb p hp => ?_, fun b hb => nostk b (ge3 b hb), fun b hb z => ?_, fun b hb => hb, fun b hb p hp => ?_⟩
    · show b ≠ cenv.locals
      rw [hL]; exact Nat.ne_of_gt (Nat.lt_of_lt_of_le lt5 (hPs b hb).1)
    · obtain ⟨v, q⟩ := I5.cell x c e
      exact absurd (Nat.lt_of_lt_of_le q.lt (by rw [z]; exact (hPs b hb).1)) (Nat.lt_irrefl _)
    · have e : p = (a, go) := by simpa using hp
      subst e
      exact Nat.ne_of_lt (Nat.lt_of_lt_of_le (Heap.lt_size M.obj) (hPs b hb).1)
    · exact absurd (Nat.lt_of_lt_of_le (M.fpo b hb).2 (ge3 b z)) (Nat.lt_irrefl _)
    · have e : p = (a, go) := by simpa using hp
      subst e
      exact Nat.ne_of_gt (Nat.lt_trans (M.fpo b hb).2 M.lta)
  refine ⟨F, ?_⟩
  have G6 : GAt (gfx X A' s3 H2 cenv fp [(a, go)]) fp Ps tn (wipe σ (own.map (·.2))) W 0 H2 s6 :=
    ⟨I6, M.turn.keep _ _ _ M.tn0 fun b _ o e => k6 b o e, fun b hb => (M.fpo b hb).1.1, fun b hb => M.inv.hok.fresh (ge3 b hb), fun b hb => (hPs b hb).2, w0⟩
  refine ⟨⟨H2, G6⟩, .fresh (.compStart (.GeneratorExp elt [⟨tg, iter, [], 0⟩] scope gpos) 0 (.ref it) .none cenv), by rw [g6]; exact M.gen, fun s' z => ⟨rfl, ?_⟩⟩
  have hτ : ∀ σ' : L2.St, wipe σ' (own.map (·.2)) = wipe σ (own.map (·.2)) → (wipe σ (own.map (·.2))).length = σ'.length ∧ ∀ (j : Nat) v, (wipe σ (own.map (·.2)))[j]? = some (some v) → σ'[j]? = some (some v) := fun σ' e => by
    refine ⟨by rw [← e, wipe_length], fun j v h => ?_⟩
    rw [← e] at h
    exact (wipe_some h).1
  rw [Nat.sub_zero]
  exact seg_gs (X := gfx X A' s3 H2 cenv fp [(a, go)]) over_gen.symm hc rfl (by show cenv.scope.isCoroutine = false; rw [hce]; exact hco) M.turn hpg hpe F hτ turn (G6.slept F M.turn.keep z) (KeptP.refl _ _)
/-- back in the def's own context -/
theorem Made.back {tn' : Nat → Heap → Prop} {τ : L2.St} {i : Nat} {s' : Shared} {H' : Hp} (M : Made X pins σ elt tg iter scope gpos J H2 s3 fp it tn cenv a go gn s5) (G : GAt (gfx X A' s3 H2 cenv fp [(a, go)]) fp Ps tn' τ W i H' s') : Inv X pins σ H' s' :=
  M.inv.call' (ch := fp) G.inv.os G.inv.base G.inv.hok G.inv.bare fun b hb => ⟨(M.fpo b hb).1.2.2.2.1, (M.fpo b hb).1.2.1, (M.fpo b hb).1.2.2.2.2.1, (M.fpo b hb).1.2.2.2.2.2⟩
/-- all(elt for tg in iter) -/
def tAllX (P : Addr) (wi : TI) (g : TG) (te : TE) (vs : List Nat) : TE := fun σ H Q => wi σ H fun J H1 => TabG H1 P ∧ ∀ H2, Tabbed P H1 H2 → ∃ (n₀ : Nat) (tr : Nat → Bool) (W : Nat → Hp → Prop), W 0 H2 ∧ Turns J W n₀ g te (wipe σ vs) vs (fun i => .bl (tr i)) ∧
  (∀ H, (∀ j, j < n₀ → tr j = true) → W n₀ H → Q (.bl true) H) ∧ ∀ j H, j < n₀ → tr j = false → W (j + 1) H → Q (.bl false) H
/-- sum(elt for tg in iter) -/
def tSumX (P : Addr) (wi : TI) (g : TG) (te : TE) (vs : List Nat) : TE := fun σ H Q => wi σ H fun J H1 => TabG H1 P ∧ ∀ H2, Tabbed P H1 H2 → ∃ (n₀ : Nat) (vi : Nat → Int) (W : Nat → Hp → Prop), W 0 H2 ∧ Turns J W n₀ g te (wipe σ vs) vs (fun i => .int (vi i)) ∧
  (∀ j, j < n₀ → InLong (vi j) ∧ InLong (preSum vi (j + 1))) ∧ ∀ H, W n₀ H → Q (.int (preSum vi n₀)) H
theorem Room.gen {k : Nat} {A : Around} (r : Room (k + 1) A) (env : Env) : Room k (A.in1.in1.deeper env) :=
  ⟨r.hd, by have := r.dp; show A.depth + 1 + 3 * k + 5 < _; omega, by have := r.un; show A.units + 1 + 1 + 3 + 16 * k + 200 < _; omega⟩
theorem pe_allX {c P : Addr} {p pos : Pos} {k : Nat} (hr : Room k X.A) (hc : X.calm = true) (hN : X.N.Nodup) (hg : Gl X "all") (hm : X.mg "all" = none) (hb : bootBuiltins "all" = some (.builtin "all")) (TB : GxR.TabB X.base X.mg c P) (hcode : X.env.code = .ref c)
    (hco : scope.isCoroutine = false) (hcell : ∀ y ∈ scope.names, y.2 ≠ .cell) (hdot : scope.names.lookup (".0" : Str) = some NameKind.local) (ok : BlkOk X.N X.env.scope scope own) (hi : PI X tg iter wi) (hs : ∀ v, genFold iter X.env v = pure v)
    (hpg : ∀ (s : Shared) (H : Hp) (C : Addr) (code : Value) (cl : List (Str × Addr)) (fp : List Addr) (pn : List (Addr × Obj)), PG (gfx X X.A.in1.in1 s H (genEnv scope cl C code builtinsNs X.env) fp pn) tg g)
    (hpe : ∀ (s : Shared) (H : Hp) (C : Addr) (code : Value) (cl : List (Str × Addr)) (fp : List Addr) (pn : List (Addr × Obj)), PE (gfx X X.A.in1.in1 s H (genEnv scope cl C code builtinsNs X.env) fp pn) elt te)
    (he : starEach [.GeneratorExp elt [⟨tg, iter, [], 0⟩] scope gpos] X.env = (false, eval (.GeneratorExp elt [⟨tg, iter, [], 0⟩] scope gpos) X.env) :: starEach [] X.env := by rfl) :
    PE X (.Call (.Name "all" p) [.GeneratorExp elt [⟨tg, iter, [], 0⟩] scope gpos] [] pos) (tAllX P wi g te (own.map (·.2))) := by
  refine ⟨fun pins s σ H Q I h => ?_⟩
  refine wpAny_Call_Name_kw (ld_blt I hg hm hb (PyProof.Rows.callWith_builtin1 ?_ he (by rfl)))
  rw [he]
  show wpAny _ _ (spliced ((false, eval (.GeneratorExp elt [⟨tg, iter, [], 0⟩] scope gpos) X.env) :: backTo pos (starEach [] X.env))) _ _ s
  refine Calls.spliced_cons (gen_mk hr TB hcode hco hcell hdot ok hi hs I h fun J H2 s3 fp it tn cenv a go gn s5 hR M => ?_)
  obtain ⟨n₀, tr, W, w0, turn, q1, q2⟩ := hR
  obtain ⟨code, hce⟩ := M.env
  have fr : X.A.in1.in1.frames = some X.stack := I.ok.frames
  obtain ⟨F, aw⟩ := M.awk (A' := X.A.in1.in1) (Ps := []) (val := fun i => .bl (tr i)) hc hN ok hcell hco hr.hd fr (by rw [hce]; exact hpg _ _ _ _ _ _ _) (by rw [hce]; exact hpe _ _ _ _ _ _ _) turn w0 rfl rfl (fun _ _ e => e) (fun b hb => by cases hb)
  refine Calls.spliced_nil ?_
  refine call_function_tree PySem.F.kind_all PySem.F.plain_all PySem.F.entry_all (PySem.F.args_all1 _) ?_
  unfold Builtin.«all»
  refine wpAny_bind (m := oneArg "all" _) (wpAny_pure ?_)
  refine wpAny_bind (wpAny_pyIter_gen (M.isg _ M.obj) ?_)
  refine wpAny_pure ⟨plainId_quiet PySem.F.plain_all_loop _, ?_⟩
  refine all_gx (A := X.A) (go := go) rfl hr.hd (by have := hr.dp; omega) F M.turn.keep (List.mem_singleton.mpr rfl) M.isg (fun _ => rfl) (fun s' H' ht G => ?_) (fun s' H' j hj hf G => ?_) n₀ 0 s5 (Nat.sub_zero _) (Nat.zero_le _) (fun j hj => by omega) aw
  · exact ⟨.bl true, H', M.back G, rfl, q1 H' ht G.w⟩
  · exact ⟨.bl false, H', M.back G, rfl, q2 j H' hj hf G.w⟩
theorem pe_sumX {c P : Addr} {p pos : Pos} {k : Nat} (hr : Room k X.A) (hc : X.calm = true) (hN : X.N.Nodup) (hg : Gl X "sum") (hm : X.mg "sum" = none) (hb : bootBuiltins "sum" = some (.builtin "sum")) (TB : GxR.TabB X.base X.mg c P) (hcode : X.env.code = .ref c)
    (hco : scope.isCoroutine = false) (hcell : ∀ y ∈ scope.names, y.2 ≠ .cell) (hdot : scope.names.lookup (".0" : Str) = some NameKind.local) (ok : BlkOk X.N X.env.scope scope own) (hi : PI X tg iter wi) (hs : ∀ v, genFold iter X.env v = pure v)
    (hpg : ∀ (s : Shared) (H : Hp) (C : Addr) (code : Value) (cl : List (Str × Addr)) (fp : List Addr) (pn : List (Addr × Obj)), PG (gfx X X.A.in1.in1 s H (genEnv scope cl C code builtinsNs X.env) fp pn) tg g)
    (hpe : ∀ (s : Shared) (H : Hp) (C : Addr) (code : Value) (cl : List (Str × Addr)) (fp : List Addr) (pn : List (Addr × Obj)), PE (gfx X X.A.in1.in1 s H (genEnv scope cl C code builtinsNs X.env) fp pn) elt te)
    (he : starEach [.GeneratorExp elt [⟨tg, iter, [], 0⟩] scope gpos] X.env = (false, eval (.GeneratorExp elt [⟨tg, iter, [], 0⟩] scope gpos) X.env) :: starEach [] X.env := by rfl) :
    PE X (.Call (.Name "sum" p) [.GeneratorExp elt [⟨tg, iter, [], 0⟩] scope gpos] [] pos) (tSumX P wi g te (own.map (·.2))) := by
  refine ⟨fun pins s σ H Q I h => ?_⟩
  refine wpAny_Call_Name_kw (ld_blt I hg hm hb (PyProof.Rows.callWith_builtin1 ?_ he (by rfl)))
  rw [he]
  show wpAny _ _ (spliced ((false, eval (.GeneratorExp elt [⟨tg, iter, [], 0⟩] scope gpos) X.env) :: backTo pos (starEach [] X.env))) _ _ s
  refine Calls.spliced_cons (gen_mk hr TB hcode hco hcell hdot ok hi hs I h fun J H2 s3 fp it tn cenv a go gn s5 hR M => ?_)
  obtain ⟨n₀, vi, W, w0, turn, hfit, q1⟩ := hR
  obtain ⟨code, hce⟩ := M.env
  have fr : X.A.in1.in1.frames = some X.stack := I.ok.frames
  refine Calls.spliced_nil ?_
  refine call_function_tree PySem.F.kind_sum PySem.F.plain_sum PySem.F.entry_sum (PySem.F.args_sum1 _) ?_
  unfold Builtin.«sum»
  simp only [List.length_cons, List.length_nil]
  rw [if_neg (by decide)]
  refine wpAny_bind (wpAny_of_eq (show Builtin.Builtins.bindParams "sum" ["start"] 0 { } = pure [none] from rfl) ?_)
  refine wpAny_bind (wpAny_pyIter_gen (M.isg _ M.obj) ?_)
  refine wpAny_bind (wpAny_mkInt ?_)
  refine wpAny_bind (wpAny_pure ?_)
  simp only [List.forIn_cons, List.forIn_nil]
  refine wpAny_bind (wpAny_bind (wpAny_bind (wpAny_isInstance (T := "int") (b := false) (typeIs_int _ _ _) PySem.sub_int_str ?_)))
  simp only [Bool.false_eq_true, if_false]
  refine wpAny_pure (wpAny_bind (wpAny_bind (wpAny_isInstance (T := "int") (b := false) (typeIs_int _ _ _) PySem.sub_int_bytes ?_)))
  simp only [Bool.false_eq_true, if_false]
  refine wpAny_pure (wpAny_bind (wpAny_bind (wpAny_isInstance (T := "int") (b := false) (typeIs_int _ _ _) PySem.sub_int_bytearray ?_)))
  simp only [Bool.false_eq_true, if_false]
  refine wpAny_pure (wpAny_pure ?_)
  refine wpAny_bind (wpAny_newObj_type ?_)
  refine wpAny_pure ⟨plainId_quiet PySem.F.plain_sum_loop _, ?_⟩
  obtain ⟨F, aw⟩ := M.awk (A' := X.A.in1.in1) (Ps := [s5.heap.objs.size]) (val := fun i => .int (vi i)) (s6 := { s5 with toks := s5.toks + 1, heap := s5.heap.push { cls := .type "list", dict := none, data := .seq #[.int 0 s5.toks] 0, slots := #[] } }) hc hN ok hcell hco hr.hd fr (by rw [hce]; exact hpg _ _ _ _ _ _ _) (by rw [hce]; exact hpe _ _ _ _ _ _ _) turn w0 rfl rfl
    (fun _ _ e => Heap.get?_push_of_some _ e) (fun b hb => by
      rw [List.mem_singleton.mp hb]
      exact ⟨Nat.le_refl _, _, Heap.get?_push_size _ rfl, fun v q => by cases q⟩)
  exact sum_gx (A := X.A) (go := go) rfl hr.hd (by have := hr.dp; omega) F M.turn.keep (List.mem_singleton.mpr rfl) M.isg (fun _ => rfl) hfit (fun s' t' H' G => ⟨.int _, H', M.back G, ⟨_, rfl⟩, q1 H' G.w⟩) n₀ 0 _ s5.toks 0 (Nat.sub_zero _) (Nat.zero_le _) aw (Heap.get?_push_size _ rfl)
end
end Wk

set_option Elab.async false
set_option linter.all false
set_option maxRecDepth 100000
set_option maxHeartbeats 3200000
/-! Sets of texts: set(list of texts), len, sorted. -/
namespace Wk
open PySem PySem.Spec PyProof.Rows L2
def strOf : Value → Str
  | .str k _ => k
  | _ => ⟨#[]⟩
theorem tail_perm (ep : Nat) (es : Array (Int × Value)) (t : SetTable) (b : Bool) : (Froz.tailTx ep es t b).1.toList.Perm es.toList := by
  unfold Froz.tailTx
  by_cases c : (!b && t.tooFull) = true
  · rw [if_pos c]; exact relayAll_perm _ _ _
  · rw [if_neg c]
theorem tail_ris (ep : Nat) (es : Array (Int × Value)) (t : SetTable) (b : Bool) (r : Ris t.place.toList) : Ris (Froz.tailTx ep es t b).2.2.place.toList := by
  unfold Froz.tailTx
  by_cases c : (!b && t.tooFull) = true
  · rw [if_pos c]; exact relayAll_ris _ _ _
  · rw [if_neg c]; exact r
theorem tail_led (ep : Nat) (es : Array (Int × Value)) (t : SetTable) (b : Bool) : (Froz.tailTx ep es t b).2.2.led = t.led := by
  unfold Froz.tailTx
  by_cases c : (!b && t.tooFull) = true
  · rw [if_pos c]; exact relayAll_led _ _ _
  · rw [if_neg c]
theorem addTx_perm (h : Int) (v : Value) (D : Froz.SD) : (Froz.addTx h v D).1.toList.Perm ((h, v) :: D.1.toList) := by
  have p := layNew_perm D.2.2 D.1 h v
  rw [Array.toList_push] at p
  exact (tail_perm _ _ _ _).trans (p.trans (List.perm_append_singleton (h, v) D.1.toList))
theorem off_ris {t : SetTable} (q : Ris t.place.toList) : Ris (if t.plain = true then { t with plain := false } else t).place.toList := by
  by_cases c : t.plain = true
  · rw [if_pos c]; exact q
  · rw [if_neg c]; exact q
theorem off_led (t : SetTable) : (if t.plain = true then { t with plain := false } else t).led = t.led := by
  by_cases c : t.plain = true
  · rw [if_pos c]
  · rw [if_neg c]
theorem addTx_ris (h : Int) (v : Value) (D : Froz.SD) (r : Ris D.2.2.place.toList) : Ris (Froz.addTx h v D).2.2.place.toList :=
  tail_ris _ _ _ _ (off_ris (layNew_ris D.2.2 D.1 h v r))
theorem addTx_led (h : Int) (v : Value) (D : Froz.SD) : (Froz.addTx h v D).2.2.led = D.2.2.led :=
  (tail_led _ _ _ _).trans ((off_led _).trans (layNew_led D.2.2 D.1 h v))
/-- the set of the texts l at a -/
structure TxR (P : Program) (w : World) (h : Heap) (a : Addr) (l : List Str) : Prop where
  ex : ∃ D : Froz.SD, h.get? a = some (Froz.sObj "set" D) ∧ Froz.TxOk P w D l ∧ Ris D.2.2.place.toList ∧ (w.params.followText "set-order" = true ∨ D.2.2.led = true) ∧ (D.1.toList.map fun e => strOf e.2).Perm l
  nd : l.Nodup
  sz : l.length < scanBound
section
variable {P : Program} {w : World} {A : Around} {E : Value → Shared → Prop} {s : Shared} {a : Addr} {l : List Str}
theorem TxR.at {h h' : Heap} (R : TxR P w h a l) (k : ∀ o, h.get? a = some o → h'.get? a = some o) : TxR P w h' a l := by
  obtain ⟨⟨D, e, r⟩, nd, sz⟩ := R
  exact ⟨⟨D, k _ e, r⟩, nd, sz⟩
theorem tx_fresh {h : Heap} (e : h.get? a = some { cls := .type "set", dict := none, data := .set #[] 0 (.fresh 0 0 (!w.params.followText "set-order")) }) : TxR P w h a [] := by
  refine ⟨⟨(#[], 0, .fresh 0 0 (!w.params.followText "set-order")), e, .nil rfl, List.Pairwise.nil, ?_, .nil⟩, .nil, by decide⟩
  show _ ∨ (!w.params.followText "set-order") = true
  cases w.params.followText "set-order"
  · exact .inr rfl
  · exact .inl rfl
/-- a text laid into it -/
theorem tx_add {k : Str} {u : Tok} {Q : Bool → Shared → Prop} (R : TxR P w s.heap a l) (hb : l.length + 1 < scanBound)
    (hQ : ∀ b h', Heap.SameBut a s.heap h' → TxR P w h' a (if k ∈ l then l else k :: l) → Q b { s with heap := h' }) : wpAny (model P w) A (setAddHashed a (.str k u) (hashStr w k)) Q E s := by
  obtain ⟨⟨D, ho, ok, ri, le, pm⟩, nd, sz⟩ := id R
  by_cases hk : k ∈ l
  · have q := hQ false s.heap (Heap.SameBut.refl a s.heap) (by rw [if_pos hk]; exact R)
    have hkey : (strKind P w).is k (.str k u) = true := Froz.is_str k u
    have hfound : ∃ j, List.findIdx? (fun e => (strKind P w).is k e.2) D.1.toList = some j := by
      cases hr : List.findIdx? (fun e => (strKind P w).is k e.2) D.1.toList with
      | some j => exact ⟨j, rfl⟩
      | none =>
        obtain ⟨e, he, z⟩ := (ok.mem k).mp hk
        have c := List.findIdx?_eq_none_iff.mp hr e he
        rw [z] at c; cases c
    obtain ⟨j, hj⟩ := hfound
    have hbs : D.1.size < scanBound := by rw [ok.sz]; exact sz
    unfold setAddHashed setAddHashedIn
    refine wpAny_holding (wpAny_bind (wpAny_setState_of ho rfl ok.fit ?_))
    dsimp only
    rw [byScan_of rfl hbs ok.el]
    simp only [↓reduceIte]
    unfold setAddByScan
    refine wpAny_bind ?_
    refine wpAny_bind (wpAny_rule ?_)
    refine wpAny_bind (wpAny_setScan_of (knd := strKind P w) (k := k) hkey ho rfl ok.fit ok.el ?_)
    rw [hj]
    dsimp only
    exact wpAny_pure (wpAny_pure q)
  · refine Froz.add_x ho ok hk hb (hQ true _ (Heap.SameBut.update ..) ?_)
    rw [if_neg hk]
    refine ⟨⟨_, Froz.get_upd _ ho rfl, Froz.add_ok u ok, addTx_ris _ _ _ ri, le.imp id fun z => by rw [addTx_led]; exact z, ?_⟩, List.nodup_cons.mpr ⟨hk, nd⟩, hb⟩
    exact ((addTx_perm (hashStr w k) (.str k u) D).map _).trans (List.Perm.cons _ pm)
theorem tx_loop {I : Addr} {fp wr : List Addr} {G : Array GenState → Array GenState → Prop} {n : Nat} {Pv : Nat → Value → Prop} {St : Nat → Shared → Prop} {R : Result → Shared → Prop}
    (W : WalksS P w A.in1 I fp wr G n Pv St) (S : Addr) (hSf : S ∉ fp) (xs : List Str) (hn : n = xs.length) (hval : ∀ i v, Pv i v → ∃ x t, xs[i]? = some x ∧ v = .str x t) (hb : xs.length + 1 < scanBound) :
    ∀ (k i : Nat) (s : Shared) (l : List Str), n - i = k → i ≤ n → St i s → TxR P w s.heap S l → l.length ≤ i → (∀ x, x ∈ l ↔ x ∈ xs.take i) →
      (∀ s' l', Moved (S :: wr) G s s' → TxR P w s'.heap S l' → l'.length ≤ n → (∀ x, x ∈ l' ↔ x ∈ xs) → R (.ok (.ret .none)) s') →
      codeAny (model P w) A (.builtin "set.update.loop" ⟨[.ref S, .ref I], []⟩) R s := by
  have hSw : S ∉ wr := fun h => hSf (W.sub _ h)
  have hsub : ∀ b ∈ wr, b ∈ S :: wr := fun b hb => List.mem_cons_of_mem _ hb
  intro k
  induction k with
  | zero =>
    intro i s l hk hi hst hT hl hm hR
    have hin : i = n := by omega
    subst hin
    refine codeAny_builtin PyProof.Rows.F.entry_set_update_loop ?_
    rw [Around.under_plainId PyProof.Rows.F.plain_set_update_loop _]
    show wpAny _ A.in1 (pyNext (.ref I) >>= _) _ _ s
    refine wpAny_bind (W.done s _ _ hst fun s' mv => ?_)
    show wpAny _ A.in1 (ret Value.none) _ _ s'
    refine wpAny_pure (hR s' l (mv.mono hsub) (hT.at fun o e => mv.heap S o hSw e) hl fun x => ?_)
    rw [hm x, hn, List.take_length]
  | succ k ih =>
    intro i s l hk hi hst hT hl hm hR
    have hlt : i < n := by omega
    refine codeAny_builtin PyProof.Rows.F.entry_set_update_loop ?_
    rw [Around.under_plainId PyProof.Rows.F.plain_set_update_loop _]
    show wpAny _ A.in1 (pyNext (.ref I) >>= _) _ _ s
    refine wpAny_bind (W.item i s _ _ hlt hst fun v s' hP hst' mv => ?_)
    obtain ⟨x, t, hx, rfl⟩ := hval i v hP
    have hT' : TxR P w s'.heap S l := hT.at fun o e => mv.heap S o hSw e
    show wpAny _ A.in1 (holding [Value.str x t] (setAdd S (.str x t)) >>= _) _ _ s'
    refine wpAny_bind (wpAny_holding ?_)
    unfold setAdd
    refine wpAny_holding ?_
    refine wpAny_bind ((strKind P w).pyHash (Froz.is_str x t) ?_)
    refine tx_add (s := { s' with toks := s'.toks + 1 }) hT' (by omega) fun b h' hsb hT2 => ?_
    refine wpAny_pure ⟨plainId_quiet PyProof.Rows.F.plain_set_update_loop _, ih (i + 1) _ _ (by omega) hlt (W.frame _ s' _ _ hst' (Nat.le_add_right _ _) fun b hb o e => ?_) hT2 ?_ (fun y => ?_) fun s'' l' mv' hT'' hl' hm' => ?_⟩
    · rw [hsb.2 b (fun h : b = S => hSf (by rw [← h]; exact hb))]; exact e
    · split
      · omega
      · rw [List.length_cons]; omega
    · have e : xs.take (i + 1) = xs.take i ++ [x] := by
        rw [List.take_succ, hx]; rfl
      rw [e, List.mem_append, List.mem_singleton, ← hm y]
      split
      · rename_i c
        exact ⟨.inl, fun z => z.elim id fun z => z ▸ c⟩
      · rw [List.mem_cons]; exact Or.comm
    · refine hR s'' l' (Moved.trans W.gtrans ((mv.mono hsub).then_heap (Nat.le_add_right _ _) fun b o hb e => ?_) mv') hT'' hl' hm'
      rw [hsb.2 b (fun h : b = S => hb (by rw [h]; exact List.mem_cons_self))]; exact e
end
end Wk

set_option Elab.async false
set_option linter.all false
set_option maxRecDepth 100000
set_option maxHeartbeats 3200000
namespace Wk
open PySem PySem.Spec PyProof.Rows L2
abbrev set0 (w : World) : Obj := { cls := .type "set", dict := none, data := .set #[] 0 (.fresh 0 0 (!w.params.followText "set-order")) }
theorem strs_get : ∀ {vs : List Value} {xs : List Str}, StrsAre vs xs → ∀ (i : Nat) (v : Value), vs[i]? = some v → ∃ x t, xs[i]? = some x ∧ v = .str x t
  | _, _, .nil, i, v, h => by simp at h
  | _, _, .cons x t r, 0, v, h => by
    simp at h
    exact ⟨x, t, rfl, h.symm⟩
  | _, _, .cons x t r, i + 1, v, h => by
    simp at h
    obtain ⟨y, u, h1, h2⟩ := strs_get r i v h
    exact ⟨y, u, by simpa using h1, h2⟩
theorem strs_len : ∀ {vs : List Value} {xs : List Str}, StrsAre vs xs → vs.length = xs.length
  | _, _, .nil => rfl
  | _, _, .cons x t r => by simp [strs_len r]
section
variable {P : Program} {w : World} {A : Around} {E : Value → Shared → Prop} {s : Shared}
/-- set(a list of texts) -/
theorem call_setTx {l : Addr} {items : Array Value} (xs : List Str) {Q : Value → Shared → Prop} (hh : A.handled = none) (hl : s.heap.IsList l items) (hit : StrsAre items.toList xs) (hb : xs.length + 1 < scanBound)
    (h : ∀ h' tk L, TxR P w h' s.heap.objs.size L → (∀ x, x ∈ L ↔ x ∈ xs) → L.length ≤ xs.length → (∀ b o, s.heap.get? b = some o → h'.get? b = some o) → Q (.ref s.heap.objs.size) { s with heap := h', toks := tk }) :
    wpAny (model P w) A (call (.type "set") [.ref l]) Q E s := by
  have hisz : items.size = xs.length := by rw [← strs_len hit, Array.length_toList]
  obtain ⟨c, tl, hmro⟩ := PySem.F.called_set.mro
  have hmade := PySem.F.called_set.made
  have hsub := PySem.F.called_set.sub
  refine wpAny_call (codeAny_of_tree ?_)
  show wpAny _ _ (callAny (.type "set") _) _ _ _
  refine wpAny_pure ⟨Code.quiet_builtin _ (by decide +kernel), codeAny_builtin PySem.F.entry_type_call ?_⟩
  rw [Around.under_plain (weight_type_call_type "set" [.ref l] []) rfl]
  have h1 := PySem.F.called_set.notType
  have h2 := PySem.F.called_set.canCreate
  have hct := PySem.F.typeCall_set_1 (.ref l)
  have hS : (s.heap.push (set0 w)).get? s.heap.objs.size = some (set0 w) := Heap.get?_push_size _ rfl
  repeat (any_goals (first | assumption | wp_step))
  refine codeAny_mono (code_set_led1 (.ref l) (E := E) (Q₁ := fun obj s₁ => obj = .ref s.heap.objs.size ∧ s₁ = { s with heap := s.heap.push (set0 w) }) ⟨rfl, rfl⟩) fun r s₁ hr => ?_
  cases r with
  | error e => exact hr
  | ok fl =>
    cases fl with
    | ret obj =>
      obtain ⟨rfl, rfl⟩ := hr
      have hT : Shared.TypeIs { s with heap := s.heap.push (set0 w) } (.ref s.heap.objs.size) "set" := ⟨_, hS, rfl⟩
      have hli := PySem.F.called_set.init.lookup
      have hbi := PySem.F.called_set.init.bind (.ref s.heap.objs.size)
      repeat (any_goals (first | assumption | wp_step))
      refine codeAny_mono (codeAny_call_builtin (R := wants (fun r s₂ => r = .none ∧ ∃ h' tk L, s₂ = { s with heap := h', toks := tk } ∧ TxR P w h' s.heap.objs.size L ∧ (∀ x, x ∈ L ↔ x ∈ xs) ∧ L.length ≤ xs.length ∧
          (∀ b o, s.heap.get? b = some o → h'.get? b = some o)) E) PySem.F.called_set.init.plain PySem.F.entry_set_init (check_set_init_1 hT ?_)) fun r₂ s₂ hr₂ => ?_
      · obtain ⟨ol, hol, hcl, nl, hdl⟩ := hl
        obtain ⟨ocls, odict, odata, oslots⟩ := ol
        simp only at hcl hdl
        subst hcl; subst hdl
        have hol' : (s.heap.push (set0 w)).get? l = some { cls := .type "list", dict := odict, data := .seq items nl, slots := oslots } := Heap.get?_push_of_some _ hol
        have hsls := PySem.F.sub_list_set
        have hslf := PySem.F.sub_list_frozenset
        have hne : (Value.type "list" == Value.type "dict") = false := by decide
        have hl1 : (s.heap.push (set0 w)).IsList l items := ⟨_, hol', rfl, nl, rfl⟩
        unfold Builtin.«set.__init__» noKeywords Builtin.Frozenset.updateFrom
        generalize hPI : pyIter = PI
        wp_walk
        subst hPI
        refine wpAny_pyIter_list hl1 (wpAny_bind (wpAny_runValue ?_))
        have hlS : l < s.heap.objs.size := Heap.lt_size hol
        have hh3 : A.in1.in1.in1.handled = none := hh
        have hz : (s.heap.push (set0 w)).objs.size = s.heap.objs.size + 1 := Heap.size_push ..
        have hneI : l ≠ (s.heap.push (set0 w)).objs.size := by rw [hz]; exact Nat.ne_of_lt (Nat.lt_succ_of_lt hlS)
        have hSf : s.heap.objs.size ∉ [(s.heap.push (set0 w)).objs.size, l] := fun z => by
          rw [hz] at z
          rcases List.mem_cons.mp z with z | z
          · exact absurd z (Nat.ne_of_lt (Nat.lt_succ_self _))
          · exact absurd (List.mem_singleton.mp z) (Nat.ne_of_gt hlS)
        refine tx_loop ((Walks.list hh3 _ l hneI items).toS) s.heap.objs.size hSf xs hisz (fun i v hv => strs_get hit i v (by rw [Array.getElem?_toList]; exact hv)) hb (items.size - 0) 0 _ [] (by omega) (Nat.zero_le _)
          ⟨⟨_, Heap.get?_push_size _ rfl, rfl, rfl⟩, hl1.push _⟩ (tx_fresh (Heap.get?_push_of_some _ hS)) (Nat.le_refl _) (fun x => by simp) fun s' L hm hT' hL hmem => ?_
        obtain ⟨h', g2, d', tk', os'⟩ := s'
        have eg : g2 = s.gens := hm.gens
        have ed : d' = s.drawn := hm.drawn
        have eo : os' = s.os := hm.os
        subst eg; subst ed; subst eo
        refine wpAny_pure ?_
        show wpAny _ _ (ret Value.none) _ _ _
        refine wpAny_pure ⟨rfl, h', tk', L, rfl, hT', hmem, by rw [← hisz]; exact hL, fun b o e => ?_⟩
        have hbl : b < s.heap.objs.size := Heap.lt_size e
        refine hm.heap b o (fun z => ?_) (Heap.get?_push_of_some _ (Heap.get?_push_of_some _ e))
        rcases List.mem_cons.mp z with z | z
        · exact absurd hbl (by rw [z]; exact Nat.lt_irrefl _)
        · have z := List.mem_singleton.mp z
          exact absurd hbl (by rw [z]; exact Nat.not_lt_of_le (by rw [hz]; exact Nat.le_succ _))
      · cases r₂ with
        | error e => exact hr₂
        | ok fl₂ =>
          cases fl₂ with
          | ret r =>
            obtain ⟨rfl, h', tk, L, rfl, hT', hmem, hL, hk'⟩ := hr₂
            repeat (any_goals (first | assumption | wp_step))
            exact h _ _ _ hT' hmem hL hk'
          | _ => exact hr₂.elim
    | _ => exact hr.elim
/-- sorted of it -/
theorem sorted_tx {a : Addr} {l : List Str} {Q : Value → Shared → Prop} (R : TxR P w s.heap a l) (hh : A.handled = none) (h64 : l.length < 64)
    (hQ : ∀ s' p (out : Array Value) (c : Nat) (ys : List Str), (∀ b o, s.heap.get? b = some o → s'.heap.get? b = some o) → s'.gens = s.gens → s'.os = s.os → s.heap.objs.size ≤ p →
      s'.heap.get? p = some (seqObj "list" out c) → StrsAre out.toList ys → ys.Perm l → sortedS ys = true → Q (.ref p) s') :
    wpAny (model P w) A (call (.builtin "sorted") [.ref a]) Q E s := by
  obtain ⟨⟨D, ho, ok, ri, le, pm⟩, nd, sz⟩ := R
  have str : ∀ e ∈ D.1.toList, ∃ t, e.2 = Value.str (strOf e.2) t := fun e he => by
    obtain ⟨⟨k, h1, _⟩, _⟩ := ok.el e he
    obtain ⟨t, q⟩ := Value.isStrOf_shape (x := k) (v := e.2) h1
    rw [q]
    exact ⟨t, rfl⟩
  refine Calls.call_function_entry PyProof.Rows.kind_sorted PyProof.Rows.plain_sorted PyProof.Rows.entry_sorted (PyProof.Rows.args_sorted1 _) ?_
  unfold Builtin.«sorted»
  refine wpAny_bind (m := checkCount "sorted" 1 1 _) (wpAny_pure ?_)
  refine wpAny_bind (collect_set (A := A.in1) hh ⟨_, ho, rfl, rfl⟩ ok.fit (by rw [ok.sz]; exact sz) ri le fun s1 vs k1 hz g1 o1 pv => ?_)
  have all : ∀ (us : List Value), (∀ v ∈ us, ∃ t, v = Value.str (strOf v) t) → StrsAre us (us.map strOf) := by
    intro us
    induction us with
    | nil => intro _; exact .nil
    | cons v us ih =>
      intro hu
      obtain ⟨t, e⟩ := hu v List.mem_cons_self
      have r := ih fun u hu' => hu u (List.mem_cons_of_mem _ hu')
      rw [e]
      exact .cons _ t r
  have hS : StrsAre vs (vs.map strOf) := all vs fun v hv => by
    obtain ⟨e, he, q⟩ := List.mem_map.mp (pv.mem_iff.mp hv)
    rw [← q]
    exact str e he
  have pl : (vs.map strOf).Perm l := by
    have q := pv.map strOf
    rw [List.map_map] at q
    exact q.trans pm
  have hal : vs.length = l.length := by rw [← pl.length_eq, List.length_map]
  refine wpAny_bind (wpAny_newList ?_ (by rw [hal, sizeLine_eq]; omega))
  have hoL : (s1.heap.push (seqObj "list" vs.toArray 0)).get? s1.heap.objs.size = some (seqObj "list" vs.toArray 0) := Heap.get?_push_size _ rfl
  refine wpAny_bind (wpAny_holding (wpAny_call_entry PyProof.Rows.slot_list_sort ⟨_, hoL, rfl⟩ PyProof.Rows.entry_list_sort
    (list_sort_treeK strKind_oneLt hoL hS.keysOf (fun v₁ v₂ rest e => keyKind_strs (by rw [← e]; exact hS)) (by rw [hal]; exact h64) fun st' hp hs => ⟨_, rfl, ?_⟩)
    (PyProof.Rows.args_list_sort _)))
  obtain ⟨ys, y1, y2, y3⟩ := sorted_out_str hS hp hs
  obtain ⟨e', he'⟩ := PyProof.Rows.sortedHeap_at (vs := vs) (out := (arrOf st').map (·.2)) hoL
  refine wpAny_pure ⟨_, rfl, hQ _ s1.heap.objs.size _ e' ys (fun b u e => ?_) g1 o1 hz he' y1 (y2.trans pl) y3⟩
  have q := k1 b u e
  have hlt := Heap.lt_size q
  show (sortedHeap (s1.heap.push (seqObj "list" vs.toArray 0)) s1.heap.objs.size vs ((arrOf st').map (·.2))).get? b = some u
  rw [sortedHeap_old (Nat.ne_of_lt hlt) (by rw [size_push']; exact Nat.lt_succ_of_lt hlt)]
  exact Heap.get?_push_of_some _ q
end
end Wk

set_option Elab.async false
set_option linter.all false
set_option maxRecDepth 100000
set_option maxHeartbeats 3200000
namespace Wk
open PySem PySem.Spec PyProof.Rows L2
/-- the set of the texts l at a, tracked -/
def TxO (P : Program) (w : World) (a : Addr) (l : List Str) : HO := .ext fun h => TxR P w h a l
section
variable {X : Cx}
theorem txO_new {P : Program} {w : World} {H : Hp} {h : Heap} {a : Addr} {l : List Str} (R : TxR P w h a l) : ObjOk P w H h a (TxO P w a l) := by
  have ⟨⟨D, ho, _⟩, _, _⟩ := R
  exact ⟨R, ⟨_, ho⟩, fun h1 h2 p k => TxR.at p k⟩
theorem txO_get {pins : List (Addr × Obj)} {σ : L2.St} {H : Hp} {s : Shared} {a : Addr} {l : List Str} (I : Inv X pins σ H s) (ha : H a = some (TxO X.prog X.w a l)) : TxR X.prog X.w s.heap a l := (I.hok a _ ha).1
/-- set(a list of texts) -/
def rSetTx (K : PySem.W.Frag) (P : Program) (w : World) : List V → Hp → VK → Prop := fun xs H Q => ∃ (l : Addr) (ts : List Str), xs = [V.ref l] ∧ SqL K H l (ts.map V.str) ∧ ts.length + 1 < scanBound ∧
  ∀ (p : Addr) (L : List Str), H p = none → L.Nodup → (∀ x, x ∈ L ↔ x ∈ ts) → L.length ≤ ts.length → Q (.ref p) (upd H p (TxO P w p L))
theorem cr_setTx (hc : X.calm = true) : CallR X (.type "set") (rSetTx X.K X.prog X.w) := by
  intro pins s σ H xs us Q I r h
  obtain ⟨l, ts, rfl, hl, hb, q⟩ := h
  rw [Vals.ref1 r]
  obtain ⟨its, ri, pl, hz⟩ := I.list hl
  refine call_setTx ts (I.ok.hd hc) pl.isList (by simpa using strsAre_of ri) hb fun h' tk L hT hm hL hk => ?_
  have hn : H s.heap.objs.size = none := I.hok.fresh (Nat.le_refl _)
  exact ⟨.ref _, upd H s.heap.objs.size (TxO X.prog X.w s.heap.objs.size L), I.laid (t' := tk) hk (Nat.le_refl _) (txO_new hT), rfl, q _ L hn hT.nd hm hL⟩
/-- len of it -/
def rLenTx (P : Program) (w : World) : List V → Hp → VK → Prop := fun xs H Q => ∃ (a : Addr) (l : List Str), xs = [V.ref a] ∧ H a = some (TxO P w a l) ∧ Q (.int (l.length : Nat)) H
theorem cr_lenTx : CallR X (.builtin "len") (rLenTx X.prog X.w) := by
  intro pins s σ H xs us Q I r h
  obtain ⟨a, l, rfl, ha, q⟩ := h
  rw [Vals.ref1 r]
  obtain ⟨⟨D, ho, ok, ri, le, pm⟩, nd, sz⟩ := txO_get I ha
  refine call_len_set ho ⟨rfl, rfl, rfl⟩ rfl ok.fit (by
    have hb : scanBound ≤ 2 ^ 62 := by decide
    rw [ok.sz]
    omega) ⟨.int (l.length : Nat), H, I.tok _, ⟨_, by rw [ok.sz]⟩, q⟩
/-- sorted of it -/
def rSortedTx (P : Program) (w : World) : List V → Hp → VK → Prop := fun vs H Q => ∃ (a : Addr) (l : List Str), vs = [V.ref a] ∧ H a = some (TxO P w a l) ∧ l.length < 64 ∧
  ∀ (ys : List Str) (p : Addr), ys.Perm l → sortedS ys = true → H p = none → Q (.ref p) (upd H p (.lst (ys.map V.str)))
theorem vals_of_strs : ∀ {us : List Value} {ys : List Str}, StrsAre us ys → Vals (ys.map V.str) us
  | _, _, .nil => .nil
  | _, _, .cons y t r => .cons ⟨t, rfl⟩ (vals_of_strs r)
theorem cr_sortedTx (hc : X.calm = true) : CallR X (.builtin "sorted") (rSortedTx X.prog X.w) := by
  intro pins s σ H vs us Q I r h
  obtain ⟨a, l, rfl, ha, h64, q⟩ := h
  rw [Vals.ref1 r]
  refine sorted_tx (txO_get I ha) (I.ok.hd hc) h64 fun s' p out c ys k g o hp hg hi hs hm => ?_
  have hlen : (ys.map V.str).length ≤ sizeLine := by rw [List.length_map, hs.length_eq, sizeLine_eq]; omega
  have hn : H p = none := I.hok.fresh hp
  have J : Inv X pins σ (upd H p (.lst (ys.map V.str))) s' := I.call' (s' := s') (ch := []) o (Un.laid k hp hn) (I.hok.laid k hp ⟨hlen, out.toList, c, vals_of_strs hi, hg⟩) (by rw [g]; exact I.bare) (fun _ z => nomatch z)
  exact ⟨.ref p, _, J, rfl, q ys p hs hm hn⟩
end
end Wk

set_option Elab.async false
set_option linter.all false
set_option maxRecDepth 100000
set_option maxHeartbeats 3200000
namespace Wk
open PySem PySem.Spec PyProof.Rows L2
theorem forIn_same {α β : Type} {M : Model} {A : Around} {E : Value → Shared → Prop} {f : α → β → Sem (ForInStep β)} {b : β} {Q : β → Shared → Prop} {s : Shared} :
    ∀ (l : List α), (∀ x ∈ l, ∀ (R : ForInStep β → Shared → Prop), R (.yield b) s → wpAny M A (f x b) R E s) → Q b s → wpAny M A (forIn l b f) Q E s
  | [], _, hQ => by
    rw [List.forIn_nil]
    exact wpAny_pure hQ
  | x :: l, hf, hQ => by
    rw [List.forIn_cons]
    refine wpAny_bind (hf x List.mem_cons_self _ ?_)
    exact forIn_same l (fun y hy => hf y (List.mem_cons_of_mem _ hy)) hQ
section
variable {P : Program} {w : World} {A : Around} {E : Value → Shared → Prop} {s : Shared}
theorem quiet_at {sets : List Addr} {Q : Bool → Shared → Prop} (h : ∀ a ∈ sets, ∃ o es ep t, s.heap.get? a = some o ∧ o.data = .set es ep t ∧ t.fits es.size = true ∧ ∀ e ∈ es.toList, ∃ k u, e.2 = Value.str k u) (hQ : Q true s) :
    wpAny (model P w) A (setsQuiet sets) Q E s := by
  unfold setsQuiet
  refine wpAny_bind (forIn_same sets (fun a ha R hR => ?_) ?_)
  · obtain ⟨o, es, ep, t, ho, hd, hf, hs⟩ := h a ha
    refine wpAny_bind (wpAny_setEntries_of ho hd hf ?_)
    rw [← Array.forIn_toList]
    refine wpAny_bind (forIn_same es.toList (fun e he R' hR' => ?_) ?_)
    · obtain ⟨k, u, e2⟩ := hs e he
      obtain ⟨e1, v⟩ := e
      have e2 : v = Value.str k u := e2
      subst e2
      exact wpAny_pure hR'
    · exact wpAny_pure hR
  · exact wpAny_pure hQ
variable {a : Addr} {l : List Str}
theorem TxR.strs {h : Heap} (R : TxR P w h a l) : ∃ o es ep t, h.get? a = some o ∧ o.data = .set es ep t ∧ t.fits es.size = true ∧ ∀ e ∈ es.toList, ∃ k u, e.2 = Value.str k u := by
  obtain ⟨⟨D, ho, ok, _⟩, _, _⟩ := R
  refine ⟨_, _, _, _, ho, rfl, ok.fit, fun e he => ?_⟩
  obtain ⟨⟨k, h1, _⟩, _⟩ := ok.el e he
  obtain ⟨t, q⟩ := Value.isStrOf_shape (x := k) (v := e.2) h1
  exact ⟨k, t, q⟩
/-- its entries: the texts l in some order, with their hashes -/
def Ents (w : World) (l : List Str) (es : List (Int × Value)) : Prop := (es.map fun e => strOf e.2).Perm l ∧ ∀ e ∈ es, ∃ k u, e.2 = Value.str k u ∧ e.1 = hashStr w k
theorem TxR.ents {h : Heap} (R : TxR P w h a l) : ∃ D : Froz.SD, h.get? a = some (Froz.sObj "set" D) ∧ Froz.TxOk P w D l ∧ Ris D.2.2.place.toList ∧ (w.params.followText "set-order" = true ∨ D.2.2.led = true) ∧ (D.1.toList.map fun e => strOf e.2).Perm l ∧ Ents w l D.1.toList := by
  obtain ⟨⟨D, ho, ok, ri, le, pm⟩, _, _⟩ := R
  refine ⟨D, ho, ok, ri, le, pm, pm, fun e he => ?_⟩
  obtain ⟨⟨k, h1, h2⟩, _⟩ := ok.el e he
  obtain ⟨t, q⟩ := Value.isStrOf_shape (x := k) (v := e.2) h1
  exact ⟨k, t, q, h2⟩
theorem Ents.perm {es es' : List (Int × Value)} (x : Ents w l es) (p : es'.Perm es) : Ents w l es' := ⟨(p.map _).trans x.1, fun e he => x.2 e (p.mem_iff.mp he)⟩
theorem walk_tx {Q : Array (Int × Value) → Shared → Prop} (R : TxR P w s.heap a l) (hQ : ∀ (out : Array (Int × Value)) d, Ents w l out.toList → Q out { s with drawn := d }) : wpAny (model P w) A (setWalk a) Q E s := by
  obtain ⟨D, ho, ok, ri, le, pm, en⟩ := R.ents
  obtain ⟨es, ep, t⟩ := D
  unfold setWalk
  refine wpAny_bind (wpAny_setState_of ho rfl ok.fit ?_)
  dsimp only
  refine wpAny_bind (wpAny_byText ?_)
  by_cases bt : w.params.followText "set-order" = true
  · refine wp_if_pos bt ?_
    exact wpAny_bind (wpAny_askSetting (wpAny_pure (hQ _ s.drawn (en.perm (pick_perm _ _)))))
  · refine wp_if_neg bt ?_
    have hl : t.led = true := le.resolve_left bt
    by_cases dr : (!t.plain && decide (es.size > 1)) = true
    · refine wp_if_pos dr ?_
      refine wpAny_bind (drawOrder_at _ _ _ _ (by rw [Array.length_toList]; exact Nat.le_refl _) fun ys d p => wpAny_pure (hQ _ d (en.perm (by simpa using p))))
    · refine wp_if_neg dr ?_
      refine wpAny_bind (wpAny_of_eq (a := ()) ?_ ?_)
      · show (if (!t.led && decide (es.size > 1)) = true then unsupported "set:maker-not-led" else pure ()) = pure ()
        rw [hl] <;> rfl
      · exact wpAny_pure (hQ es s.drawn en)
end
end Wk

set_option Elab.async false
set_option linter.all false
set_option maxRecDepth 100000
set_option maxHeartbeats 3200000
namespace Wk
open PySem PySem.Spec PyProof.Rows L2
theorem forIn_acc {α β : Type} {M : Model} {A : Around} {E : Value → Shared → Prop} {f : α → β → Sem (ForInStep β)} {b : β} {Q : β → Shared → Prop} (J : List α → Shared → Prop) :
    ∀ (l done : List α) (s : Shared), J done s → (∀ x ∈ l, ∀ done s, J done s → wpAny M A (f x b) (fun st s' => st = .yield b ∧ J (done ++ [x]) s') E s) → (∀ s', J (done ++ l) s' → Q b s') → wpAny M A (forIn l b f) Q E s
  | [], done, s, hJ, _, hQ => by
    rw [List.forIn_nil]
    exact wpAny_pure (hQ s (by rw [List.append_nil]; exact hJ))
  | x :: l, done, s, hJ, hf, hQ => by
    rw [List.forIn_cons]
    refine wpAny_bind (wpAny_mono (hf x List.mem_cons_self done s hJ) (fun st s' ⟨e, hJ'⟩ => ?_) fun _ _ z => z)
    subst e
    exact forIn_acc J l (done ++ [x]) s' hJ' (fun y hy => hf y (List.mem_cons_of_mem _ hy)) fun s'' z => hQ s'' (by rw [List.append_assoc] at z; exact z)
theorem sub_len : ∀ (l D : List Str), l.Nodup → (∀ x ∈ l, x ∈ D) → l.length ≤ D.length
  | [], D, _, _ => Nat.zero_le _
  | x :: l, D, nd, hs => by
    obtain ⟨h1, h2⟩ := List.nodup_cons.mp nd
    have hx : x ∈ D := hs x List.mem_cons_self
    have q := sub_len l (D.erase x) h2 fun y hy => (List.mem_erase_of_ne (show y ≠ x from fun e => h1 (e ▸ hy))).mpr (hs y (List.mem_cons_of_mem _ hy))
    have e := List.length_erase_of_mem hx
    have p := List.length_pos_of_mem hx
    rw [List.length_cons]
    omega
section
variable {P : Program} {w : World} {A : Around} {E : Value → Shared → Prop} {s : Shared} {a b r : Addr} {la lb lr : List Str}
theorem unseen_tx {Q : Array (Int × Value) → Shared → Prop} (Ra : TxR P w s.heap a la) (Rb : TxR P w s.heap b lb) (Rr : TxR P w s.heap r lr)
    (hQ : ∀ (out : Array (Int × Value)) h' d, Heap.SameBut r s.heap h' → TxR P w h' r lr → Ents w la out.toList → Q out { s with heap := h', drawn := d }) : wpAny (model P w) A (setWalkUnseen a [b, r] (some r)) Q E s := by
  obtain ⟨D, ho, ok, ri, le, pm, en⟩ := Ra.ents
  obtain ⟨es, ep, t⟩ := D
  obtain ⟨D2, ho2, ok2, ri2, le2, pm2, en2⟩ := Rr.ents
  obtain ⟨ef, ep2, tf⟩ := D2
  unfold setWalkUnseen
  refine wpAny_bind (wpAny_setState_of ho rfl ok.fit ?_)
  dsimp only
  refine wpAny_bind (wpAny_byText ?_)
  by_cases c1 : (w.params.followText "set-order" || t.led && t.plain || decide (es.size ≤ 1)) = true
  · refine wp_if_pos c1 ?_
    exact walk_tx Ra fun out d e => hQ out s.heap d (Heap.SameBut.refl r s.heap) Rr e
  · refine wp_if_neg c1 ?_
    have bt : ¬ w.params.followText "set-order" = true := fun z => c1 (by rw [z]; rfl)
    have hl : t.led = true := le.resolve_left bt
    have hl2 : tf.led = true := le2.resolve_left bt
    refine wpAny_bind (quiet_at (fun c hc => ?_) ?_)
    · rcases List.mem_cons.mp hc with z | z
      · rw [z]; exact Ra.strs
      · rcases List.mem_cons.mp z with z | z
        · rw [z]; exact Rb.strs
        · rw [List.mem_singleton.mp z]; exact Rr.strs
    · refine wp_if_neg (by simp) ?_
      refine wpAny_bind (wpAny_rule ?_)
      refine wpAny_bind (wpAny_setState_of ho2 rfl ok2.fit ?_)
      dsimp only
      by_cases c2 : (tf.led && !t.led || tf.plain && !t.plain) = true
      · refine wp_if_pos c2 ?_
        refine wpAny_bind (wpAny_storeSet_of ho2 rfl ?_ (fits_of_scanBound (by
          have z : ef.size = lr.length := ok2.sz
          rw [z]; exact Rr.sz)))
        have q := store_at (es' := ef) (t' := { tf with led := tf.led && t.led, plain := tf.plain && t.plain }) ho2 rfl
        refine wpAny_pure (hQ es _ s.drawn (Heap.SameBut.update ..) ⟨⟨(ef, ep2 + 1, { tf with led := tf.led && t.led, plain := tf.plain && t.plain }), q, ⟨ok2.el, ok2.mem, ok2.sz, ok2.fit⟩, ri2, .inr ?_, pm2⟩, Rr.nd, Rr.sz⟩ en)
        show (tf.led && t.led) = true
        rw [hl, hl2]; rfl
      · refine wp_if_neg c2 ?_
        exact wpAny_pure (hQ es s.heap s.drawn (Heap.SameBut.refl r s.heap) Rr en)
/-- the entries of the one that stand in the other, laid into r -/
theorem inter_loop {f : Int × Value → PUnit → Sem (ForInStep PUnit)} {es : List (Int × Value)} {Q : PUnit → Shared → Prop} (en : Ents w la es) (sz : la.length + 1 < scanBound) (Rr : TxR P w s.heap r [])
    (hf : ∀ (e1 : Int) (k : Str) (u : Tok) (s' : Shared) (L : List Str) (R : ForInStep PUnit → Shared → Prop), e1 = hashStr w k → (∃ h', s' = { s with heap := h' } ∧ Heap.SameBut r s.heap h') → TxR P w s'.heap r L → L.length + 1 < scanBound →
      (∀ h', Heap.SameBut r s'.heap h' → TxR P w h' r (if k ∈ lb then (if k ∈ L then L else k :: L) else L) → R (.yield ⟨⟩) { s' with heap := h' }) → wpAny (model P w) A (f (e1, .str k u) ⟨⟩) R E s')
    (hQ : ∀ h' L, Heap.SameBut r s.heap h' → TxR P w h' r L → (∀ x, x ∈ L ↔ x ∈ la ∧ x ∈ lb) → Q ⟨⟩ { s with heap := h' }) : wpAny (model P w) A (forIn es ⟨⟩ f) Q E s := by
  have hlen : es.length = la.length := by rw [← en.1.length_eq, List.length_map]
  refine forIn_acc (fun done s' => ∃ h' L, s' = { s with heap := h' } ∧ Heap.SameBut r s.heap h' ∧ TxR P w h' r L ∧ (∀ x, x ∈ L ↔ x ∈ done.map (fun e => strOf e.2) ∧ x ∈ lb) ∧ ∀ x ∈ L, x ∈ la) es [] s ⟨s.heap, [], rfl, Heap.SameBut.refl r s.heap, Rr, fun x => by simp, fun x hx => by cases hx⟩ ?_ ?_
  · rintro ⟨e1, v⟩ he done s' ⟨h', L, rfl, sb, RL, hm, hs⟩
    obtain ⟨k, u, h1, h2⟩ := en.2 _ he
    have h1 : v = .str k u := h1
    have h2 : e1 = hashStr w k := h2
    subst h1
    have kla : k ∈ la := en.1.mem_iff.mp (List.mem_map.mpr ⟨_, he, rfl⟩)
    have hL : L.length ≤ la.length := sub_len L la RL.nd hs
    by_cases hfull : L.length + 1 < scanBound
    · refine hf e1 k u _ L _ h2 ⟨h', rfl, sb⟩ RL hfull fun h'' sb' RL' => ⟨rfl, h'', _, rfl, sb.trans sb', RL', fun x => ?_, fun x hx => ?_⟩
      · rw [List.map_append, List.mem_append]
        show _ ↔ (x ∈ done.map _ ∨ x ∈ [k]) ∧ x ∈ lb
        rw [List.mem_singleton]
        by_cases c1 : k ∈ lb
        · rw [if_pos c1]
          by_cases c2 : k ∈ L
          · rw [if_pos c2, hm x]
            refine ⟨fun z => ⟨.inl z.1, z.2⟩, fun z => ⟨z.1.elim id fun e => ?_, z.2⟩⟩
            rw [e]; exact ((hm k).mp c2).1
          · rw [if_neg c2, List.mem_cons, hm x]
            refine ⟨fun z => z.elim (fun e => ⟨.inr e, by rw [e]; exact c1⟩) fun z => ⟨.inl z.1, z.2⟩, fun z => z.1.elim (fun y => .inr ⟨y, z.2⟩) .inl⟩
        · rw [if_neg c1, hm x]
          refine ⟨fun z => ⟨.inl z.1, z.2⟩, fun z => ⟨z.1.elim id fun e => absurd (by rw [← e]; exact z.2) c1, z.2⟩⟩
      · have key : x ∈ L ∨ x = k := by
          by_cases c1 : k ∈ lb
          · rw [if_pos c1] at hx
            by_cases c2 : k ∈ L
            · rw [if_pos c2] at hx; exact .inl hx
            · rw [if_neg c2] at hx
              exact (List.mem_cons.mp hx).elim .inr .inl
          · rw [if_neg c1] at hx; exact .inl hx
        rcases key with z | z
        · exact hs x z
        · rw [z]; exact kla
    · exact absurd hL (by omega)
  · rintro s' ⟨h', L, rfl, sb, RL, hm, _⟩
    refine hQ h' L sb RL fun x => ?_
    rw [hm x, List.nil_append, en.1.mem_iff]
end
end Wk

set_option Elab.async false
set_option linter.all false
set_option maxRecDepth 100000
set_option maxHeartbeats 3200000
namespace Wk
open PySem PySem.Spec PyProof.Rows L2
theorem entry_set_and : entryFor table "set.__and__" = some Builtin.«frozenset.__and__» :=
  entryFor_alias (id' := "frozenset.__and__") (by kernel_rfl) rfl (by decide +kernel) (by kernel_rfl)
section
variable {P : Program} {w : World} {A : Around} {E : Value → Shared → Prop} {s : Shared} {a b r : Addr} {la lb lr : List Str}
theorem TxR.typeIs (R : TxR P w s.heap a la) : s.TypeIs (.ref a) "set" := by
  obtain ⟨⟨D, ho, _⟩, _, _⟩ := R
  exact ⟨_, ho, rfl⟩
/-- the one is walked, the other asked -/
theorem inter_core {id : String} {ax wk : Addr} {lx ly : List Str} {Q : Unit → Shared → Prop} (Rx : TxR P w s.heap ax lx) (Ry : TxR P w s.heap wk ly) (Rr : TxR P w s.heap r []) (nx : ax ≠ r) (ny : wk ≠ r) (sy : ly.length + 1 < scanBound)
    (hQ : ∀ h' d L, Heap.SameBut r s.heap h' → TxR P w h' r L → (∀ x, x ∈ L ↔ x ∈ ly ∧ x ∈ lx) → Q () { s with heap := h', drawn := d }) :
    wpAny (model P w) A (do
      let was ← setEpoch wk
      let out ← setWalkUnseen wk [ax, r] (some r)
      forIn out PUnit.unit fun x __s => do
        holding [x.snd] do
          let f ← setFind ax x.snd x.fst
          if f.isSome = true then do
            let _ ← setAddHashed r x.snd x.fst
            pure ()
          else pure ()
        Builtin.Frozenset.unchanged id wk was
        pure (ForInStep.yield PUnit.unit)
      pure ()) Q E s := by
  obtain ⟨Dy, hoy, oky, _⟩ := Ry.ents
  refine wpAny_bind (wpAny_setEpoch_of hoy rfl oky.fit ?_)
  refine wpAny_bind (unseen_tx Ry Rx Rr fun out h2 d sb2 Rr2 en => ?_)
  refine wpAny_bind ?_
  rw [← Array.forIn_toList]
  refine inter_loop (s := { s with heap := h2, drawn := d }) (lb := lx) en sy Rr2 (fun e1 k u s' L R e ⟨h', es', sb'⟩ RL hL hR => ?_) fun h' L sb' RL hm => wpAny_pure (hQ h' d L (sb2.trans sb') RL hm)
  subst e
  have kx : TxR P w s'.heap ax lx := Rx.at fun o e => by
    rw [es']
    exact (sb'.2 ax nx).trans ((sb2.2 ax nx).trans e)
  obtain ⟨⟨Dx, hox, okx, _⟩, _, sx⟩ := _root_.id kx
  have hkey : (strKind P w).is k (.str k u) = true := Froz.is_str k u
  have epo : ∀ (h3 : Heap), Heap.SameBut r s'.heap h3 → ∀ (R' : Unit → Shared → Prop), R' () { s' with heap := h3 } → wpAny (model P w) A (Builtin.Frozenset.unchanged id wk Dy.2.1) R' E { s' with heap := h3 } := fun h3 sb3 R' hR' => by
    unfold Builtin.Frozenset.unchanged
    have q : h3.get? wk = some (Froz.sObj "set" Dy) := by
      rw [sb3.2 wk ny, es']
      exact (sb'.2 wk ny).trans ((sb2.2 wk ny).trans hoy)
    refine wpAny_bind (wpAny_setEpoch_of (s := { s' with heap := h3 }) q rfl oky.fit ?_)
    exact wp_if_neg (by simp) (wpAny_pure hR')
  refine wpAny_bind (wpAny_holding ?_)
  refine wpAny_bind (PySem.W.setFind_any (knd := strKind P w) (S := fun k => decide (k ∈ lx)) hkey rfl hox rfl okx.el (fun k => by rw [decide_eq_true_eq]; exact okx.mem k) (by rw [okx.sz]; exact sx) okx.fit fun res hres => ?_)
  by_cases c : k ∈ lx
  · rw [if_pos c] at hR
    refine wp_if_pos (by rw [hres]; exact decide_eq_true c) ?_
    refine wpAny_bind (tx_add RL hL fun bb h3 sb3 R3 => ?_)
    refine wpAny_pure (wpAny_bind (epo h3 sb3 _ (wpAny_pure (hR h3 sb3 R3))))
  · rw [if_neg c] at hR
    refine wp_if_neg (by rw [hres]; simpa using c) ?_
    exact wpAny_pure (wpAny_bind (epo s'.heap (Heap.SameBut.refl r s'.heap) _ (wpAny_pure (hR s'.heap (Heap.SameBut.refl r s'.heap) RL))))
theorem inter_at {id : String} {Q : Value → Shared → Prop} (hne : a ≠ b) (Ra : TxR P w s.heap a la) (Rb : TxR P w s.heap b lb) (sa : la.length + 1 < scanBound) (sb : lb.length + 1 < scanBound)
    (hQ : ∀ h' d L, (∀ c o, s.heap.get? c = some o → h'.get? c = some o) → TxR P w h' s.heap.objs.size L → (∀ x, x ∈ L ↔ x ∈ la ∧ x ∈ lb) → Q (.ref s.heap.objs.size) { s with heap := h', drawn := d }) :
    wpAny (model P w) A (Builtin.Frozenset.intersection id a (.ref b)) Q E s := by
  have hba : (Value.ref b == Value.ref a) = false := by
    first
      | exact beq_eq_false_iff_ne.mpr (fun e => hne (by cases e; rfl))
      | simp [Ne.symm hne]
      | (cases hq : (Value.ref b == Value.ref a) with
         | false => rfl
         | true => exact absurd (by simpa using hq) hne)
  unfold Builtin.Frozenset.intersection
  refine wp_if_neg (by rw [hba]; exact Bool.false_ne_true) ?_
  unfold Builtin.Frozenset.baseOf
  refine wpAny_bind (wpAny_bind (wpAny_isInstance (T := "set") (b := true) Ra.typeIs sub_set_self (wpAny_pure ?_)))
  simp only [if_true]
  unfold newSet
  refine wpAny_bind (wpAny_bind (wpAny_byText ?_))
  simp only [newObj]
  refine wpAny_bind (wpAny_alloc (wpAny_pure ?_))
  have hn : (s.heap.push (set0 w)).get? s.heap.objs.size = some (set0 w) := Heap.get?_push_size _ rfl
  have kp : ∀ c o, s.heap.get? c = some o → (s.heap.push (set0 w)).get? c = some o := fun c o e => Heap.get?_push_of_some _ e
  have Rr : TxR P w (s.heap.push (set0 w)) s.heap.objs.size [] := tx_fresh hn
  have Ra1 : TxR P w (s.heap.push (set0 w)) a la := Ra.at fun o e => kp _ _ e
  have Rb1 : TxR P w (s.heap.push (set0 w)) b lb := Rb.at fun o e => kp _ _ e
  have lta : a < s.heap.objs.size := by obtain ⟨⟨D, ho, _⟩, _, _⟩ := Ra; exact Heap.lt_size ho
  have ltb : b < s.heap.objs.size := by obtain ⟨⟨D, ho, _⟩, _, _⟩ := Rb; exact Heap.lt_size ho
  generalize hh1 : s.heap.push (set0 w) = h1 at hn kp Rr Ra1 Rb1
  generalize hr : s.heap.objs.size = r at hn kp Rr Ra1 Rb1 lta ltb hQ
  unfold Builtin.Frozenset.addrOf
  refine wpAny_bind (wpAny_pure ?_)
  refine wpAny_bind (wpAny_holding ?_)
  unfold Builtin.Frozenset.isAnySet
  refine wpAny_bind (wpAny_bind (wpAny_isInstance (T := "set") (b := true) (TxR.typeIs (s := { s with heap := h1 }) Rb1) sub_set_self ?_))
  refine wpAny_pure ?_
  simp only [if_true]
  refine wpAny_bind (wpAny_pure ?_)
  obtain ⟨Da, hoa, oka, _⟩ := Ra1.ents
  obtain ⟨Db, hob, okb, _⟩ := Rb1.ents
  unfold Builtin.Frozenset.sizeOf
  refine wpAny_bind (wpAny_bind (wpAny_setEntries_of (s := { s with heap := h1 }) hob rfl okb.fit (wpAny_pure ?_)))
  refine wpAny_bind (wpAny_bind (wpAny_setEntries_of (s := { s with heap := h1 }) hoa rfl oka.fit (wpAny_pure ?_)))
  have fin : ∀ h' d L, Heap.SameBut r h1 h' → TxR P w h' r L → (∀ x, x ∈ L ↔ x ∈ la ∧ x ∈ lb) → wpAny (model P w) A (pure (Value.ref r)) Q E { s with heap := h', drawn := d } := fun h' d L sb' RL hm =>
    wpAny_pure (hQ h' d L (fun c o e => (sb'.2 c (fun z => by
      have := Heap.lt_size e
      rw [z, hr] at this
      exact Nat.lt_irrefl _ this)).trans (kp c o e)) RL hm)
  by_cases c : Db.1.size > Da.1.size
  · simp only [if_pos c]
    exact inter_core (s := { s with heap := h1 }) Rb1 Ra1 Rr (Nat.ne_of_lt ltb) (Nat.ne_of_lt lta) sa fun h' d L sb' RL hm => fin h' d L sb' RL hm
  · simp only [if_neg c]
    exact inter_core (s := { s with heap := h1 }) Ra1 Rb1 Rr (Nat.ne_of_lt lta) (Nat.ne_of_lt ltb) sb fun h' d L sb' RL hm => fin h' d L sb' RL fun x => (hm x).trans And.comm
theorem and_tx {Q : Value → Shared → Prop} (hne : a ≠ b) (Ra : TxR P w s.heap a la) (Rb : TxR P w s.heap b lb) (sa : la.length + 1 < scanBound) (sb : lb.length + 1 < scanBound)
    (hQ : ∀ h' d L, (∀ c o, s.heap.get? c = some o → h'.get? c = some o) → TxR P w h' s.heap.objs.size L → (∀ x, x ∈ L ↔ x ∈ la ∧ x ∈ lb) → Q (.ref s.heap.objs.size) { s with heap := h', drawn := d }) :
    wpAny (model P w) A (binaryOp .BitAnd (.ref a) (.ref b)) Q E s := by
  refine wpAny_binaryOp_same Ra.typeIs Rb.typeIs PySem.F.fills_set_and PySem.F.slot_set_and ?_
  refine wpAny_call_entry PySem.F.slot_set_and Ra.typeIs entry_set_and ?_ (PySem.F.args_set_and_2 _ _)
  unfold Builtin.«frozenset.__and__»
  wp_delta
  refine wpAny_bind (wpAny_of_eq (show Builtin.Frozenset.slot1 "__and__" ⟨[.ref a, .ref b], []⟩ = pure (Value.ref a, Value.ref b) from rfl) ?_)
  dsimp only
  rw [if_neg Bool.false_ne_true]
  dsimp only
  have any : ∀ {c : Addr} {lc : List Str} {Q' : Bool → Shared → Prop}, TxR P w s.heap c lc → Q' true s → wpAny (model P w) A.in1 (Builtin.Frozenset.isAnySet (.ref c)) Q' E s := fun {c lc Q'} R q => by
    unfold Builtin.Frozenset.isAnySet
    exact wpAny_bind (wpAny_isInstance (T := "set") (b := true) R.typeIs sub_set_self (wpAny_pure q))
  refine wpAny_bind (wpAny_bind (any Ra (any Rb ?_)))
  refine wp_if_neg (by simp) ?_
  refine wpAny_bind (wpAny_pure ?_)
  refine wpAny_bind (inter_at hne Ra Rb sa sb fun h' d L hk R hm => ?_)
  exact wpAny_pure ⟨_, rfl, (fun z => by cases z), hQ h' d L hk R hm⟩
end
/-- the intersection of two sets of texts -/
def rAndTx (P : Program) (w : World) : V → V → Hp → VK → Prop := fun x y H Q => ∃ (a b : Addr) (la lb : List Str), x = .ref a ∧ y = .ref b ∧ a ≠ b ∧ H a = some (TxO P w a la) ∧ H b = some (TxO P w b lb) ∧ la.length + 1 < scanBound ∧ lb.length + 1 < scanBound ∧
  ∀ (p : Addr) (L : List Str), H p = none → L.Nodup → (∀ x, x ∈ L ↔ x ∈ la ∧ x ∈ lb) → Q (.ref p) (upd H p (TxO P w p L))
theorem op_andTx {X : Cx} : OpR X (binaryOp .BitAnd) (rAndTx X.prog X.w) := by
  intro pins s σ H x y v u Q I rx ry h
  obtain ⟨a, b, la, lb, rfl, rfl, hne, ha, hb, sa, sb, q⟩ := h
  cases rx
  cases ry
  refine and_tx hne (txO_get I ha) (txO_get I hb) sa sb fun h' d L hk R hm => ?_
  have hn : H s.heap.objs.size = none := I.hok.fresh (Nat.le_refl _)
  have J : Inv X pins σ (upd H s.heap.objs.size (TxO X.prog X.w s.heap.objs.size L)) { s with heap := h', drawn := d } :=
    I.call' (ch := []) rfl (Un.laid hk (Nat.le_refl _) hn) (I.hok.laid hk (Nat.le_refl _) (txO_new R)) I.bare (fun _ z => nomatch z)
  exact ⟨.ref _, _, J, rfl, q _ L hn R.nd hm⟩
end Wk

set_option Elab.async false
set_option linter.all false
set_option maxRecDepth 100000
set_option maxHeartbeats 2000000
/-! How large and how deep rows are, rests and callings: promises. -/
namespace Wk
open PySem PySem.Spec PyProof.Rows L2 GxR
theorem size_rest : ∀ p : Part, sizeP p = 1 + sizeR (restP p)
  | .say _ => rfl
  | .again r => by show sizeR r + 1 = 1 + sizeR r; omega
  | .oth _ _ r => by show sizeR r + 1 = 1 + sizeR r; omega
theorem deep_rest : ∀ p : Part, deepP p = 1 + deepR (restP p)
  | .say _ => rfl
  | .again r => by show deepR r + 1 = 1 + deepR r; omega
  | .oth _ _ r => by show deepR r + 1 = 1 + deepR r; omega
/-- but for the table at T, which may have grown, what stood stands -/
def SameT (T : Addr) (H H' : Hp) : Prop := (∀ b o, b ≠ T → H b = some o → H' b = some o) ∧ TabG H' T
theorem SameT.refl {T : Addr} {H : Hp} (t : TabG H T) : SameT T H H := ⟨fun _ _ _ e => e, t⟩
theorem SameT.trans {T : Addr} {H H1 H2 : Hp} (a : SameT T H H1) (b : SameT T H1 H2) : SameT T H H2 := ⟨fun c o n e => b.1 c o n (a.1 c o n e), b.2⟩
theorem SameT.tab {T : Addr} {H H' : Hp} (h : Tabbed T H H') : SameT T H H' := ⟨fun b o n e => by rw [h.2 b n]; exact e, h.1⟩
theorem SameT.of {T : Addr} {H H' : Hp} (t : TabG H T) (s : Same H H') : SameT T H H' := ⟨fun b o _ e => s b o e, by
  obtain ⟨ps, e, h⟩ := t
  exact ⟨ps, s _ _ e, h⟩⟩
theorem SameT.tup {T : Addr} {H H' : Hp} (t : TabG H T) (s : SameT T H H') : STup H H' := fun a xs e => s.1 a _ (fun z => by
  obtain ⟨ps, q, _⟩ := t
  rw [z, q] at e
  cases e) e
def spRest : Sp := fun vs H Q _ => ∃ (v : V) (p : Part), vs = [v] ∧ PartAt H p v ∧ ∀ (H' : Hp) (u : V), Same H H' → RowAt H' (restP p) u → Q u H'
def spParts (T : Addr) (n : Nat) : Sp := fun vs H Q _ => ∃ (v : V) (r : List Part), vs = [v] ∧ RowAt H r v ∧ deepR r < n ∧ sizeR r ≤ 1000 ∧ TabG H T ∧ ∀ (H' : Hp), SameT T H H' → Q (.int (sizeR r : Nat)) H'
def spDeep (n : Nat) : Sp := fun vs H Q _ => ∃ (v : V) (r : List Part), vs = [v] ∧ RowAt H r v ∧ deepR r < n ∧ sizeR r ≤ 1000 ∧ ∀ (H' : Hp), Same H H' → Q (.int (deepR r : Nat)) H'
/-- a def whose code object is at c -/
structure FunC (K : PySem.W.Frag) (x qual : Str) (st : Stmt) (f c : Addr) (fd : FuncData) : Prop where
  ex : ∃ (oc : Value) (od : Option Addr) (kV doc pm : Value) (an : Option Addr) (ct : Value) (osl : Array (Option Value)),
    fd = PySem.W.fnOf x qual (defArgs st) (defBody st) (defScope st) .none kV doc pm an (.ref c) ct ∧ K.lookup f = some ⟨oc, od, .func fd, osl⟩ ∧ PySem.W.codeIn K (.ref c) qual = true
  kp : PySem.W.keepIn K (.ref f) = true
theorem FunC.fn {K : PySem.W.Frag} {x qual : Str} {st : Stmt} {f c : Addr} {fd : FuncData} (F : FunC K x qual st f c fd) : Fun K x qual st f fd := by
  obtain ⟨⟨oc, od, kV, doc, pm, an, ct, osl, rfl, lk, hcd⟩, kp⟩ := F
  exact ⟨⟨oc, od, kV, doc, pm, an, _, ct, osl, rfl, lk, hcd⟩, kp⟩
theorem FunC.ok {P : Program} {w : World} {K : PySem.W.Frag} {mg : Str → Option Value} {base : Heap} {x qual : Str} {st : Stmt} {f c : Addr} {fd : FuncData} {N ps : List Str} {k : Nat} {sp : Sp} (F : FunC K x qual st f c fd) (S : FnScope N ps (defScope st))
    (len : ∀ vs H Q E, sp vs H Q E → vs.length = ps.length)
    (hb : ∀ (A : Around) (outer : List Env) (s : Shared) (H : Hp) (vs : List V) (Q : VK) (E : XK), Room k (A.deeper (envOfC qual (defScope st) s.heap.objs.size f (.ref c))) → sp vs H Q E →
      ∃ t, PSs (cxOf CX0 P w K mg base N qual (defScope st) f (.ref c) A outer s H E) (defBody st) t ∧ t { nx := fun _ H' => Q .non H', rt := Q } (start N vs) H) : FnOk P w K mg base CX0 (k + 1) f fd ps sp := by
  obtain ⟨⟨oc, od, kV, doc, pm, an, ct, osl, rfl, lk, hcd⟩, _⟩ := F
  exact fn_of lk hcd S len hb
theorem preSum_sizes (r : List Part) : ∀ i, i ≤ r.length → preSum (fun j => ((r[j]?).elim (0 : Int) fun p => (sizeP p : Nat))) i = (sizeR (r.take i) : Nat)
  | 0, _ => by simp [preSum, sizeR]
  | i + 1, h => by
    have hi : i < r.length := h
    rw [preSum, preSum_sizes r i (Nat.le_of_lt hi), List.take_add_one, List.getElem?_eq_getElem hi, sizeR_app]
    show _ = (((sizeR (r.take i) + (sizeP r[i] + 0)) : Nat) : Int)
    simp
theorem sizeR_take (r : List Part) (i : Nat) : sizeR (r.take i) ≤ sizeR r := by
  have e := sizeR_app (r.take i) (r.drop i)
  rw [List.take_append_drop] at e
  omega
/-! ### callings -/
/-- the calling of a part -/
def callP : Part → V
  | .say n => .str n
  | .again _ => .non
  | .oth _ n _ => .str n
mutual
/-- the free callings, as often as they stand there; S: what is bound around -/
def frP : List Str → Part → List Str
  | S, .say n => if n ∈ S then [] else [n]
  | S, .again r => frR S r
  | S, .oth w n r => if w.binds = true then frR (S ++ [n]) r else (if n ∈ S then [] else [n]) ++ frR S r
def frR : List Str → List Part → List Str
  | _, [] => []
  | S, p :: r => frP S p ++ frR S r
end
theorem frR_app (S : List Str) : ∀ r q : List Part, frR S (r ++ q) = frR S r ++ frR S q
  | [], q => rfl
  | p :: r, q => by
    show frP S p ++ frR S (r ++ q) = (frP S p ++ frR S r) ++ frR S q
    rw [frR_app S r q, List.append_assoc]
mutual
theorem frP_len : ∀ (p : Part) (S : List Str), (frP S p).length ≤ sizeP p
  | .say n, S => by
    unfold frP sizeP
    split <;> simp
  | .again r, S => by
    have := frR_len r S
    show (frR S r).length ≤ sizeR r + 1
    omega
  | .oth w n r, S => by
    unfold frP
    show _ ≤ sizeR r + 1
    split
    · have := frR_len r (S ++ [n])
      omega
    · have := frR_len r S
      rw [List.length_append]
      split <;> simp <;> omega
theorem frR_len : ∀ (r : List Part) (S : List Str), (frR S r).length ≤ sizeR r
  | [], S => Nat.le_refl _
  | p :: r, S => by
    have h1 := frP_len p S
    have h2 := frR_len r S
    show (frP S p ++ frR S r).length ≤ sizeP p + sizeR r
    rw [List.length_append]
    omega
end
mutual
theorem bdP_len : ∀ (p : Part), (bdP p).length ≤ sizeP p
  | .say n => Nat.zero_le _
  | .again r => by
    have := bdR_len r
    show (bdR r).length ≤ sizeR r + 1
    omega
  | .oth w n r => by
    have := bdR_len r
    show ((if w.binds then [n] else []) ++ bdR r).length ≤ sizeR r + 1
    rw [List.length_append]
    split <;> simp <;> omega
theorem bdR_len : ∀ (r : List Part), (bdR r).length ≤ sizeR r
  | [] => Nat.le_refl _
  | p :: r => by
    have h1 := bdP_len p
    have h2 := bdR_len r
    show (bdP p ++ bdR r).length ≤ sizeP p + sizeR r
    rw [List.length_append]
    omega
end
/-- what a part itself adds, what is bound within it -/
def fhP : List Str → Part → List Str
  | S, .say n => if n ∈ S then [] else [n]
  | _, .again _ => []
  | S, .oth w n _ => if w.binds = true then [] else if n ∈ S then [] else [n]
def bhP : Part → List Str
  | .oth w n _ => if w.binds = true then [n] else []
  | _ => []
def inP : List Str → Part → List Str
  | S, .oth w n _ => if w.binds = true then S ++ [n] else S
  | S, _ => S
theorem frP_eq (S : List Str) : ∀ p : Part, frP S p = fhP S p ++ frR (inP S p) (restP p)
  | .say n => by
    show (if n ∈ S then [] else [n]) = (if n ∈ S then [] else [n]) ++ []
    rw [List.append_nil]
  | .again r => rfl
  | .oth w n r => by
    show (if w.binds = true then frR (S ++ [n]) r else (if n ∈ S then [] else [n]) ++ frR S r) = (if w.binds = true then [] else if n ∈ S then [] else [n]) ++ frR (if w.binds = true then S ++ [n] else S) r
    by_cases c : w.binds = true
    · rw [if_pos c, if_pos c, if_pos c, List.nil_append]
    · rw [if_neg c, if_neg c, if_neg c]
theorem bdP_eq : ∀ p : Part, bdP p = bhP p ++ bdR (restP p)
  | .say n => rfl
  | .again r => rfl
  | .oth w n r => rfl
theorem inP_len (S : List Str) : ∀ p : Part, (inP S p).length ≤ S.length + 1
  | .say n => Nat.le_succ _
  | .again r => Nat.le_succ _
  | .oth w n r => by
    show (if w.binds = true then S ++ [n] else S).length ≤ S.length + 1
    by_cases c : w.binds = true
    · rw [if_pos c, List.length_append]; exact Nat.le_refl _
    · rw [if_neg c]; exact Nat.le_succ _
theorem fhP_len (S : List Str) : ∀ p : Part, (fhP S p).length ≤ 1
  | .say n => by
    show (if n ∈ S then [] else [n] : List Str).length ≤ 1
    by_cases c : n ∈ S
    · rw [if_pos c]; exact Nat.zero_le _
    · rw [if_neg c]; exact Nat.le_refl _
  | .again r => Nat.zero_le _
  | .oth w n r => by
    show (if w.binds = true then [] else if n ∈ S then [] else [n] : List Str).length ≤ 1
    by_cases b : w.binds = true
    · rw [if_pos b]; exact Nat.zero_le _
    · rw [if_neg b]
      by_cases c : n ∈ S
      · rw [if_pos c]; exact Nat.zero_le _
      · rw [if_neg c]; exact Nat.le_refl _
theorem bhP_len : ∀ p : Part, (bhP p).length ≤ 1
  | .say n => Nat.zero_le _
  | .again r => Nat.zero_le _
  | .oth w n r => by
    show (if w.binds = true then [n] else [] : List Str).length ≤ 1
    by_cases b : w.binds = true
    · rw [if_pos b]; exact Nat.le_refl _
    · rw [if_neg b]; exact Nat.zero_le _
/-- but for the two lists, what stood stands -/
def Sam2 (F B : Addr) (H H' : Hp) : Prop := ∀ b o, b ≠ F → b ≠ B → H b = some o → H' b = some o
theorem Sam2.trans {F B : Addr} {H H1 H2 : Hp} (a : Sam2 F B H H1) (b : Sam2 F B H1 H2) : Sam2 F B H H2 := fun c o n m e => b c o n m (a c o n m e)
theorem Sam2.of {F B : Addr} {H H' : Hp} (s : Same H H') : Sam2 F B H H' := fun c o _ _ e => s c o e
theorem Sam2.tup {F B : Addr} {H H' : Hp} {xs ys : List V} (hF : H F = some (.lst xs)) (hB : H B = some (.lst ys)) (s : Sam2 F B H H') : STup H H' := fun a zs e => s a _ (fun z => by rw [z, hF] at e; cases e) (fun z => by rw [z, hB] at e; cases e) e
def spCalling : Sp := fun vs H Q _ => ∃ (v : V) (p : Part), vs = [v] ∧ PartAt H p v ∧ Q (callP p) H
def spGather (n : Nat) : Sp := fun vs H Q _ => ∃ (v : V) (r : List Part) (aS F B : Addr) (S fs bs : List Str), vs = [v, .ref aS, .ref F, .ref B] ∧ RowAt H r v ∧ H aS = some (.tup (S.map V.str)) ∧ H F = some (.lst (fs.map V.str)) ∧ H B = some (.lst (bs.map V.str)) ∧ F ≠ B ∧
  deepR r < n ∧ sizeR r + fs.length ≤ 1000 ∧ sizeR r + bs.length ≤ 1000 ∧ S.length + deepR r ≤ 1000 ∧
  ∀ H', Sam2 F B H H' → H' F = some (.lst ((fs ++ frR S r).map V.str)) → H' B = some (.lst ((bs ++ bdR r).map V.str)) → Q .non H'
def spCallings (n : Nat) : Sp := fun vs H Q _ => ∃ (v : V) (r : List Part), vs = [v] ∧ RowAt H r v ∧ deepR r < n ∧ sizeR r ≤ 1000 ∧ deepR r ≤ 1000 ∧
  ∀ (H' : Hp) (t F B : Addr), Same H H' → H F = none → H B = none → F ≠ B → H' t = some (.tup [.ref F, .ref B]) → H' F = some (.lst ((frR [] r).map V.str)) → H' B = some (.lst ((bdR r).map V.str)) → Q (.ref t) H'
/-- each of g's texts once, sorted, in a new list -/
def spSorted (g : List Part → List Str) (n : Nat) : Sp := fun vs H Q _ => ∃ (v : V) (r : List Part), vs = [v] ∧ RowAt H r v ∧ deepR r < n ∧ sizeR r ≤ 1000 ∧ deepR r ≤ 1000 ∧ (∀ L : List Str, L.Nodup → (∀ x, x ∈ L ↔ x ∈ g r) → L.length < 64) ∧
  ∀ (H' : Hp) (p : Addr) (ys : List Str), Same H H' → H p = none → ys.Nodup → (∀ x, x ∈ ys ↔ x ∈ g r) → sortedS ys = true → H' p = some (.lst (ys.map V.str)) → Q (.ref p) H'
end Wk

set_option Elab.async false
set_option linter.all false
set_option maxRecDepth 100000
set_option maxHeartbeats 2000000
/-! Rows level by level. -/
namespace Wk
open PySem PySem.Spec PyProof.Rows L2 GxR
def isSay : Part → Bool
  | .say _ => true
  | _ => false
def nextR (r : List Part) : List (List Part) := (r.filter fun p => !isSay p).map restP
def nextL : List (List Part) → List (List Part)
  | [] => []
  | r :: ls => nextR r ++ nextL ls
def deepL : List (List Part) → Nat
  | [] => 0
  | r :: ls => max (deepR r) (deepL ls)
def sizeL : List (List Part) → Nat
  | [] => 0
  | r :: ls => sizeR r + sizeL ls
theorem deepL_app : ∀ a b, deepL (a ++ b) = max (deepL a) (deepL b)
  | [], b => by show deepL b = max 0 (deepL b); omega
  | r :: a, b => by
    show max (deepR r) (deepL (a ++ b)) = max (max (deepR r) (deepL a)) (deepL b)
    rw [deepL_app a b]; omega
theorem sizeL_app : ∀ a b, sizeL (a ++ b) = sizeL a + sizeL b
  | [], b => by show sizeL b = 0 + sizeL b; omega
  | r :: a, b => by
    show sizeR r + sizeL (a ++ b) = sizeR r + sizeL a + sizeL b
    rw [sizeL_app a b]; omega
theorem nextL_app : ∀ a b, nextL (a ++ b) = nextL a ++ nextL b
  | [], b => rfl
  | r :: a, b => by
    show nextR r ++ nextL (a ++ b) = (nextR r ++ nextL a) ++ nextL b
    rw [nextL_app a b, List.append_assoc]
theorem nextR_cons (p : Part) (r : List Part) : nextR (p :: r) = (if isSay p = true then [] else [restP p]) ++ nextR r := by
  unfold nextR
  cases p <;> simp [List.filter_cons, isSay]
theorem nextR_deep : ∀ r : List Part, deepL (nextR r) = deepR r - 1
  | [] => rfl
  | p :: r => by
    rw [nextR_cons, deepL_app, nextR_deep r]
    have d := deep_rest p
    show max (deepL (if isSay p = true then [] else [restP p])) (deepR r - 1) = max (deepP p) (deepR r) - 1
    cases p with
    | say n =>
      have e : deepR (restP (.say n)) = 0 := rfl
      show max 0 (deepR r - 1) = _
      omega
    | again q =>
      show max (max (deepR (restP (.again q))) 0) (deepR r - 1) = _
      omega
    | oth w n q =>
      show max (max (deepR (restP (.oth w n q))) 0) (deepR r - 1) = _
      omega
theorem nextL_deep : ∀ ls, deepL (nextL ls) = deepL ls - 1
  | [] => rfl
  | r :: ls => by
    show deepL (nextR r ++ nextL ls) = max (deepR r) (deepL ls) - 1
    rw [deepL_app, nextR_deep, nextL_deep ls]; omega
theorem nextR_size : ∀ r : List Part, sizeL (nextR r) + (nextR r).length ≤ sizeR r
  | [] => Nat.le_refl _
  | p :: r => by
    rw [nextR_cons, sizeL_app, List.length_append]
    have h := nextR_size r
    have s := size_rest p
    show sizeL (if isSay p = true then [] else [restP p]) + sizeL (nextR r) + ((if isSay p = true then [] else [restP p]).length + (nextR r).length) ≤ sizeP p + sizeR r
    cases p with
    | say n =>
      show 0 + sizeL (nextR r) + (0 + (nextR r).length) ≤ _
      omega
    | again q =>
      show (sizeR (restP (.again q)) + 0) + sizeL (nextR r) + (1 + (nextR r).length) ≤ _
      omega
    | oth w n q =>
      show (sizeR (restP (.oth w n q)) + 0) + sizeL (nextR r) + (1 + (nextR r).length) ≤ _
      omega
theorem nextL_size : ∀ ls, sizeL (nextL ls) + (nextL ls).length ≤ sizeL ls
  | [] => Nat.le_refl _
  | r :: ls => by
    show sizeL (nextR r ++ nextL ls) + (nextR r ++ nextL ls).length ≤ sizeR r + sizeL ls
    rw [sizeL_app, List.length_append]
    have h1 := nextR_size r
    have h2 := nextL_size ls
    omega
abbrev okS (r : List Part) : Prop := okR (fun n => PyData.strOk n = true) r
def okL (ls : List (List Part)) : Prop := ∀ r ∈ ls, okS r
theorem okR_mem {f : Str → Prop} : ∀ {r : List Part}, okR f r → ∀ p ∈ r, okP f p
  | p :: r, h, q, hq => by
    rcases List.mem_cons.mp hq with e | e
    · rw [e]; exact h.1
    · exact okR_mem h.2 q e
theorem nextR_ok {r : List Part} (h : okS r) : okL (nextR r) := fun q hq => by
  obtain ⟨p, hp, rfl⟩ := List.mem_map.mp hq
  exact rest_ok (okR_mem h p (List.mem_filter.mp hp).1)
theorem nextL_ok : ∀ {ls : List (List Part)}, okL ls → okL (nextL ls)
  | [], h => fun q hq => by cases hq
  | r :: ls, h => fun q hq => by
    rcases List.mem_append.mp hq with z | z
    · exact nextR_ok (h r List.mem_cons_self) q z
    · exact nextL_ok (fun x hx => h x (List.mem_cons_of_mem _ hx)) q z
/-! ### in memory -/
def LvAt (H : Hp) : List (List Part) → List V → Prop
  | [], vs => vs = []
  | r :: ls, vs => ∃ v ws, vs = v :: ws ∧ RowAt H r v ∧ LvAt H ls ws
theorem LvAt.mono {H H' : Hp} (s : STup H H') : ∀ {ls : List (List Part)} {vs : List V}, LvAt H ls vs → LvAt H' ls vs
  | [], _, h => h
  | r :: ls, _, h => by
    obtain ⟨v, ws, rfl, h1, h2⟩ := h
    exact ⟨v, ws, rfl, h1.mono s, LvAt.mono s h2⟩
theorem LvAt.len {H : Hp} : ∀ {ls : List (List Part)} {vs : List V}, LvAt H ls vs → vs.length = ls.length
  | [], _, h => by rw [h]; rfl
  | r :: ls, _, h => by
    obtain ⟨v, ws, rfl, _, h2⟩ := h
    rw [List.length_cons, List.length_cons, LvAt.len h2]
theorem LvAt.get {H : Hp} : ∀ {ls : List (List Part)} {vs : List V}, LvAt H ls vs → ∀ {i : Nat} {v : V}, vs[i]? = some v → ∃ r, ls[i]? = some r ∧ RowAt H r v
  | [], _, h, i, v, hv => by rw [show _ = [] from h] at hv; simp at hv
  | r :: ls, _, h, 0, v, hv => by
    obtain ⟨u, ws, rfl, h1, _⟩ := h
    have z : u = v := by simpa using hv
    exact ⟨r, rfl, z ▸ h1⟩
  | r :: ls, _, h, i + 1, v, hv => by
    obtain ⟨u, ws, rfl, _, h2⟩ := h
    obtain ⟨q, h3, h4⟩ := LvAt.get h2 (i := i) (v := v) (by simpa using hv)
    exact ⟨q, by simpa using h3, h4⟩
theorem LvAt.app {H : Hp} {ls2 : List (List Part)} {vs2 : List V} (g : LvAt H ls2 vs2) : ∀ {ls : List (List Part)} {vs : List V}, LvAt H ls vs → LvAt H (ls ++ ls2) (vs ++ vs2)
  | [], _, h => by rw [show _ = [] from h]; exact g
  | r :: ls, _, h => by
    obtain ⟨v, ws, rfl, h1, h2⟩ := h
    exact ⟨v, ws ++ vs2, rfl, h1, LvAt.app g h2⟩
theorem LvAt.one {H : Hp} {r : List Part} {v : V} (h : RowAt H r v) : LvAt H [r] [v] := ⟨v, [], rfl, h, rfl⟩
theorem LvAt.dp {K : PySem.W.Frag} {H : Hp} : ∀ {ls : List (List Part)} {vs : List V}, LvAt H ls vs → DpAll K H vs (ls.map fun r => PyData.tuple (dR r))
  | [], _, h => by rw [show _ = [] from h]; exact .nil
  | r :: ls, _, h => by
    obtain ⟨v, ws, rfl, h1, h2⟩ := h
    exact .cons h1.dp (LvAt.dp h2)
theorem lvl_lay : ∀ {ls : List (List Part)}, okL ls → PyData.canLayAll0 (ls.map fun r => PyData.tuple (dR r)) = true
  | [], _ => by simp only [List.map_nil, PyData.canLayAll0]
  | r :: ls, h => by
    simp only [List.map_cons, PyData.canLayAll0, PyData.canLay0, layR (fun n h => h) r (h r List.mem_cons_self), lvl_lay fun x hx => h x (List.mem_cons_of_mem _ hx), Bool.and_self]
theorem lvl_dep : ∀ ls : List (List Part), PyData.depthAll (ls.map fun r => PyData.tuple (dR r)) ≤ 2 * deepL ls + 1
  | [] => by simp only [List.map_nil, PyData.depthAll]; omega
  | r :: ls => by
    have h1 := depR r
    have h2 := lvl_dep ls
    simp only [List.map_cons, PyData.depthAll, PyData.depth, deepL]
    omega
theorem lvl_shaped {ls : List (List Part)} (h : okL ls) (hd : deepL ls ≤ 25) : SeqAt.shaped (.list (ls.map fun r => PyData.tuple (dR r))) = true := by
  unfold SeqAt.shaped
  have := lvl_dep ls
  simp only [PyData.canLay0, lvl_lay h, PyData.depth, Bool.true_and]
  exact decide_eq_true (by omega)
theorem row_empty (r : List Part) : PyData.eqv (.tuple (dR r)) (.tuple []) = r.isEmpty := by
  cases r with
  | nil => simp only [dR, PyData.eqv, PyData.eqvAll, List.isEmpty]
  | cons p r => simp only [dR, PyData.eqv, PyData.eqvAll, List.isEmpty]
theorem deep_pos {r : List Part} (h : r ≠ []) : 1 ≤ deepR r := by
  cases r with
  | nil => exact absurd rfl h
  | cons p r =>
    have d := deep_rest p
    show 1 ≤ max (deepP p) (deepR r)
    omega
theorem full_iff : ∀ ls : List (List Part), (ls.filter fun r => !r.isEmpty).isEmpty = decide (deepL ls = 0)
  | [] => rfl
  | r :: ls => by
    have ih := full_iff ls
    cases r with
    | nil =>
      show (ls.filter fun r => !r.isEmpty).isEmpty = decide (max 0 (deepL ls) = 0)
      rw [ih, Nat.zero_max]
    | cons p r =>
      have := deep_pos (r := p :: r) (by simp)
      have e : ¬ (deepL ((p :: r) :: ls) = 0) := by
        show ¬ (max (deepR (p :: r)) (deepL ls) = 0)
        omega
      rw [decide_eq_false e]
      rfl
def spLDeep : Sp := fun vs H Q _ => ∃ (v : V) (r : List Part), vs = [v] ∧ RowAt H r v ∧ okS r ∧ deepR r ≤ 25 ∧ sizeR r ≤ 900 ∧ ∀ (H' : Hp), Same H H' → Q (.int (deepR r : Nat)) H'
end Wk

set_option Elab.async false
set_option linter.all false
set_option maxRecDepth 100000
set_option maxHeartbeats 2000000
/-! What the law's own walk writes down of each part. -/
namespace Wk
open PySem PySem.Spec PyProof.Rows L2 GxR
/-- kind, calling, how many are bound around -/
abbrev Ent : Type := Str × Str × Nat
def entP : List Str → Part → Ent
  | S, .say n => (if n ∈ S then "held" else "free", n, S.length)
  | _, .again _ => ("again", "", 0)
  | S, .oth w n _ => if w.binds = true then ("bound", n, S.length) else (if n ∈ S then "held" else "free", n, S.length)
mutual
def alP : List Str → Part → List Ent
  | S, .say n => [entP S (.say n)]
  | S, .again r => entP S (.again r) :: alR S r
  | S, .oth w n r => entP S (.oth w n r) :: alR (inP S (.oth w n r)) r
def alR : List Str → List Part → List Ent
  | _, [] => []
  | S, p :: r => alP S p ++ alR S r
end
theorem alP_eq (S : List Str) : ∀ p : Part, alP S p = entP S p :: alR (inP S p) (restP p)
  | .say n => rfl
  | .again r => rfl
  | .oth w n r => rfl
theorem alR_app (S : List Str) : ∀ r q : List Part, alR S (r ++ q) = alR S r ++ alR S q
  | [], q => rfl
  | p :: r, q => by
    show alP S p ++ alR S (r ++ q) = (alP S p ++ alR S r) ++ alR S q
    rw [alR_app S r q, List.append_assoc]
mutual
theorem alP_len : ∀ (p : Part) (S : List Str), (alP S p).length = sizeP p
  | .say n, S => rfl
  | .again r, S => by
    have := alR_len r S
    show (alR S r).length + 1 = sizeR r + 1
    omega
  | .oth w n r, S => by
    have := alR_len r (inP S (.oth w n r))
    show (alR (inP S (.oth w n r)) r).length + 1 = sizeR r + 1
    omega
theorem alR_len : ∀ (r : List Part) (S : List Str), (alR S r).length = sizeR r
  | [], S => rfl
  | p :: r, S => by
    have h1 := alP_len p S
    have h2 := alR_len r S
    show (alP S p ++ alR S r).length = sizeP p + sizeR r
    rw [List.length_append]
    omega
end
/-- the callings of one kind, as they stand there -/
def ofKind (k : Str) (es : List Ent) : List Str := (es.filter fun e => e.1 == k).map (·.2.1)
theorem ofKind_app (k : Str) (a b : List Ent) : ofKind k (a ++ b) = ofKind k a ++ ofKind k b := by
  unfold ofKind
  rw [List.filter_append, List.map_append]
theorem ent_free (S : List Str) : ∀ p : Part, ofKind "free" [entP S p] = fhP S p
  | .say n => by
    show ofKind "free" [(if n ∈ S then "held" else "free", n, S.length)] = if n ∈ S then [] else [n]
    by_cases c : n ∈ S
    · rw [if_pos c, if_pos c]; rfl
    · rw [if_neg c, if_neg c]; rfl
  | .again r => rfl
  | .oth w n r => by
    show ofKind "free" [if w.binds = true then ("bound", n, S.length) else (if n ∈ S then "held" else "free", n, S.length)] = if w.binds = true then [] else if n ∈ S then [] else [n]
    by_cases b : w.binds = true
    · rw [if_pos b, if_pos b]; rfl
    · rw [if_neg b, if_neg b]
      by_cases c : n ∈ S
      · rw [if_pos c, if_pos c]; rfl
      · rw [if_neg c, if_neg c]; rfl
theorem ent_bound (S : List Str) : ∀ p : Part, ofKind "bound" [entP S p] = bhP p
  | .say n => by
    show ofKind "bound" [(if n ∈ S then "held" else "free", n, S.length)] = []
    by_cases c : n ∈ S
    · rw [if_pos c]; rfl
    · rw [if_neg c]; rfl
  | .again r => rfl
  | .oth w n r => by
    show ofKind "bound" [if w.binds = true then ("bound", n, S.length) else (if n ∈ S then "held" else "free", n, S.length)] = if w.binds = true then [n] else []
    by_cases b : w.binds = true
    · rw [if_pos b, if_pos b]; rfl
    · rw [if_neg b, if_neg b]
      by_cases c : n ∈ S
      · rw [if_pos c]; rfl
      · rw [if_neg c]; rfl
theorem ofKind_cons (k : Str) (e : Ent) (es : List Ent) : ofKind k (e :: es) = ofKind k [e] ++ ofKind k es := ofKind_app k [e] es
mutual
theorem al_freeP : ∀ (p : Part) (S : List Str), ofKind "free" (alP S p) = frP S p
  | .say n, S => by
    rw [alP_eq, ofKind_cons, ent_free, frP_eq]
    rfl
  | .again r, S => by
    rw [alP_eq, ofKind_cons, ent_free, frP_eq]
    show _ ++ ofKind "free" (alR S r) = _
    rw [al_freeR r S]
    rfl
  | .oth w n r, S => by
    rw [alP_eq, ofKind_cons, ent_free, frP_eq]
    show _ ++ ofKind "free" (alR (inP S (.oth w n r)) r) = _
    rw [al_freeR r (inP S (.oth w n r))]
    rfl
theorem al_freeR : ∀ (r : List Part) (S : List Str), ofKind "free" (alR S r) = frR S r
  | [], S => rfl
  | p :: r, S => by
    show ofKind "free" (alP S p ++ alR S r) = frP S p ++ frR S r
    rw [ofKind_app, al_freeP p S, al_freeR r S]
end
mutual
theorem al_boundP : ∀ (p : Part) (S : List Str), ofKind "bound" (alP S p) = bdP p
  | .say n, S => by
    rw [alP_eq, ofKind_cons, ent_bound, bdP_eq]
    rfl
  | .again r, S => by
    rw [alP_eq, ofKind_cons, ent_bound, bdP_eq]
    show _ ++ ofKind "bound" (alR S r) = _
    rw [al_boundR r S]
    rfl
  | .oth w n r, S => by
    rw [alP_eq, ofKind_cons, ent_bound, bdP_eq]
    show _ ++ ofKind "bound" (alR (inP S (.oth w n r)) r) = _
    rw [al_boundR r (inP S (.oth w n r))]
    rfl
theorem al_boundR : ∀ (r : List Part) (S : List Str), ofKind "bound" (alR S r) = bdR r
  | [], S => rfl
  | p :: r, S => by
    show ofKind "bound" (alP S p ++ alR S r) = bdP p ++ bdR r
    rw [ofKind_app, al_boundP p S, al_boundR r S]
end
/-! ### in memory -/
def EntAt (H : Hp) (e : Ent) (v : V) : Prop := ∃ t, v = .ref t ∧ H t = some (.tup [.str e.1, .str e.2.1, .int (e.2.2 : Nat)])
def EntsAt (H : Hp) : List Ent → List V → Prop
  | [], vs => vs = []
  | e :: es, vs => ∃ v ws, vs = v :: ws ∧ EntAt H e v ∧ EntsAt H es ws
theorem EntAt.mono {H H' : Hp} (s : STup H H') {e : Ent} {v : V} (h : EntAt H e v) : EntAt H' e v := by
  obtain ⟨t, rfl, q⟩ := h
  exact ⟨t, rfl, s _ _ q⟩
theorem EntsAt.mono {H H' : Hp} (s : STup H H') : ∀ {es : List Ent} {vs : List V}, EntsAt H es vs → EntsAt H' es vs
  | [], _, h => h
  | e :: es, _, h => by
    obtain ⟨v, ws, rfl, h1, h2⟩ := h
    exact ⟨v, ws, rfl, h1.mono s, EntsAt.mono s h2⟩
theorem EntsAt.len {H : Hp} : ∀ {es : List Ent} {vs : List V}, EntsAt H es vs → vs.length = es.length
  | [], _, h => by rw [h]; rfl
  | e :: es, _, h => by
    obtain ⟨v, ws, rfl, _, h2⟩ := h
    rw [List.length_cons, List.length_cons, EntsAt.len h2]
theorem EntsAt.get {H : Hp} : ∀ {es : List Ent} {vs : List V}, EntsAt H es vs → ∀ {i : Nat} {v : V}, vs[i]? = some v → ∃ e, es[i]? = some e ∧ EntAt H e v
  | [], _, h, i, v, hv => by rw [show _ = [] from h] at hv; simp at hv
  | e :: es, _, h, 0, v, hv => by
    obtain ⟨u, ws, rfl, h1, _⟩ := h
    have z : u = v := by simpa using hv
    exact ⟨e, rfl, z ▸ h1⟩
  | e :: es, _, h, i + 1, v, hv => by
    obtain ⟨u, ws, rfl, _, h2⟩ := h
    obtain ⟨e', h3, h4⟩ := EntsAt.get h2 (i := i) (v := v) (by simpa using hv)
    exact ⟨e', by simpa using h3, h4⟩
theorem EntsAt.snoc {H : Hp} {e : Ent} {v : V} (h : EntAt H e v) : ∀ {es : List Ent} {vs : List V}, EntsAt H es vs → EntsAt H (es ++ [e]) (vs ++ [v])
  | [], _, g => by
    rw [show _ = [] from g]
    exact ⟨v, [], rfl, h, rfl⟩
  | f :: es, _, g => by
    obtain ⟨u, ws, rfl, h1, h2⟩ := g
    exact ⟨u, ws ++ [v], rfl, h1, EntsAt.snoc h h2⟩
def Sam1 (F : Addr) (H H' : Hp) : Prop := ∀ b o, b ≠ F → H b = some o → H' b = some o
theorem Sam1.trans {F : Addr} {H H1 H2 : Hp} (a : Sam1 F H H1) (b : Sam1 F H1 H2) : Sam1 F H H2 := fun c o n e => b c o n (a c o n e)
theorem Sam1.of {F : Addr} {H H' : Hp} (s : Same H H') : Sam1 F H H' := fun c o _ e => s c o e
theorem Sam1.tup {F : Addr} {H H' : Hp} {xs : List V} (hF : H F = some (.lst xs)) (s : Sam1 F H H') : STup H H' := fun a zs e => s a _ (fun z => by rw [z, hF] at e; cases e) e
def spAll (n : Nat) : Sp := fun vs H Q _ => ∃ (v : V) (r : List Part) (aS Fd : Addr) (S : List Str) (us : List V) (es : List Ent), vs = [v, .ref aS, .ref Fd] ∧ RowAt H r v ∧ H aS = some (.lst (S.map V.str)) ∧ H Fd = some (.lst us) ∧ aS ≠ Fd ∧ EntsAt H es us ∧
  deepR r < n ∧ sizeR r + us.length ≤ 1000 ∧ S.length + deepR r ≤ 1000 ∧
  ∀ H' us', Sam1 Fd H H' → H' Fd = some (.lst us') → EntsAt H' (es ++ alR S r) us' → Q (.ref Fd) H'
end Wk

set_option Elab.async false
set_option linter.all false
set_option maxRecDepth 100000
set_option maxHeartbeats 2000000
/-! Sorted lists of the same texts are alike; callings of drawn rows; what stays but for a table. -/
namespace Wk
open PySem PySem.Spec PyProof.Rows L2 GxR
def leS (a b : Str) : Prop := ¬ b.cps.toList < a.cps.toList
theorem leS.trans {a b c : Str} (h : leS a b) (g : leS b c) : leS a c := by
  have h1 : a.cps.toList ≤ b.cps.toList := h
  have h2 : b.cps.toList ≤ c.cps.toList := g
  have h3 : a.cps.toList ≤ c.cps.toList := List.le_trans h1 h2
  exact h3
theorem leS.anti {a b : Str} (h : leS a b) (g : leS b a) : a = b := by
  have h1 : a.cps.toList ≤ b.cps.toList := h
  have h2 : b.cps.toList ≤ a.cps.toList := g
  have e : a.cps.toList = b.cps.toList := List.le_antisymm h1 h2
  exact Str.ext' (Array.toList_inj.mp e)
theorem rising_pw : ∀ (l : List Str) (p : Str), risingS p l = true → (p :: l).Pairwise leS
  | [], p, _ => List.pairwise_singleton _ _
  | x :: r, p, h => by
    have h' : (!ltCps x.cps.toList p.cps.toList && risingS x r) = true := h
    obtain ⟨h1, h2⟩ := Bool.and_eq_true_iff.mp h'
    have ih := rising_pw r x h2
    have hx : leS p x := by
      rw [ltCps_eq] at h1
      intro z
      rw [decide_eq_true z] at h1
      cases h1
    refine List.pairwise_cons.mpr ⟨fun y hy => ?_, ih⟩
    rcases List.mem_cons.mp hy with e | e
    · rw [e]; exact hx
    · exact hx.trans ((List.pairwise_cons.mp ih).1 y e)
theorem sorted_pw : ∀ l : List Str, sortedS l = true → l.Pairwise leS
  | [], _ => List.Pairwise.nil
  | x :: r, h => rising_pw r x h
theorem pw_uniq : ∀ (ys zs : List Str), ys.Pairwise leS → zs.Pairwise leS → ys.Nodup → zs.Nodup → (∀ x, x ∈ ys ↔ x ∈ zs) → ys = zs
  | [], [], _, _, _, _, _ => rfl
  | [], z :: zs, _, _, _, _, h => absurd ((h z).mpr List.mem_cons_self) (fun q => nomatch q)
  | y :: ys, [], _, _, _, _, h => absurd ((h y).mp List.mem_cons_self) (fun q => nomatch q)
  | y :: ys, z :: zs, p, q, n, m, h => by
    obtain ⟨p1, p2⟩ := List.pairwise_cons.mp p
    obtain ⟨q1, q2⟩ := List.pairwise_cons.mp q
    obtain ⟨n1, n2⟩ := List.nodup_cons.mp n
    obtain ⟨m1, m2⟩ := List.nodup_cons.mp m
    have e : y = z := by
      by_cases e : y = z
      · exact e
      · have hy : y ∈ zs := by
          rcases List.mem_cons.mp ((h y).mp List.mem_cons_self) with g | g
          · exact absurd g e
          · exact g
        have hz : z ∈ ys := by
          rcases List.mem_cons.mp ((h z).mpr List.mem_cons_self) with g | g
          · exact absurd g.symm e
          · exact g
        exact (p1 z hz).anti (q1 y hy)
    subst e
    have ih := pw_uniq ys zs p2 q2 n2 m2 (fun x => by
      constructor
      · intro g
        rcases List.mem_cons.mp ((h x).mp (List.mem_cons_of_mem _ g)) with e | e
        · exact absurd (e ▸ g) n1
        · exact e
      · intro g
        rcases List.mem_cons.mp ((h x).mpr (List.mem_cons_of_mem _ g)) with e | e
        · exact absurd (e ▸ g) m1
        · exact e)
    rw [ih]
theorem sorted_uniq {ys zs : List Str} (p : sortedS ys = true) (q : sortedS zs = true) (n : ys.Nodup) (m : zs.Nodup) (h : ∀ x, x ∈ ys ↔ x ∈ zs) : ys = zs :=
  pw_uniq ys zs (sorted_pw ys p) (sorted_pw zs q) n m h
/-! ### callings of rows whose names are ok -/
mutual
theorem fr_okP {f : Str → Prop} : ∀ (p : Part) (S : List Str), okP f p → ∀ x ∈ frP S p, f x
  | .say n, S, h, x, hx => by
    unfold frP at hx
    by_cases c : n ∈ S
    · rw [if_pos c] at hx; cases hx
    · rw [if_neg c] at hx
      rw [List.mem_singleton.mp hx]
      exact h
  | .again r, S, h, x, hx => fr_okR r S h x hx
  | .oth w n r, S, h, x, hx => by
    unfold frP at hx
    by_cases b : w.binds = true
    · rw [if_pos b] at hx
      exact fr_okR r _ h.2 x hx
    · rw [if_neg b] at hx
      rcases List.mem_append.mp hx with g | g
      · by_cases c : n ∈ S
        · rw [if_pos c] at g; cases g
        · rw [if_neg c] at g
          rw [List.mem_singleton.mp g]
          exact h.1
      · exact fr_okR r S h.2 x g
theorem fr_okR {f : Str → Prop} : ∀ (r : List Part) (S : List Str), okR f r → ∀ x ∈ frR S r, f x
  | [], S, _, x, hx => nomatch hx
  | p :: r, S, h, x, hx => by
    rcases List.mem_append.mp (show x ∈ frP S p ++ frR S r from hx) with g | g
    · exact fr_okP p S h.1 x g
    · exact fr_okR r S h.2 x g
end
mutual
theorem bd_okP {f : Str → Prop} : ∀ (p : Part), okP f p → ∀ x ∈ bdP p, f x
  | .say n, h, x, hx => nomatch hx
  | .again r, h, x, hx => bd_okR r h x hx
  | .oth w n r, h, x, hx => by
    unfold bdP at hx
    rcases List.mem_append.mp hx with g | g
    · by_cases b : w.binds = true
      · rw [if_pos b] at g
        rw [List.mem_singleton.mp g]
        exact h.1
      · rw [if_neg b] at g; cases g
    · exact bd_okR r h.2 x g
theorem bd_okR {f : Str → Prop} : ∀ (r : List Part), okR f r → ∀ x ∈ bdR r, f x
  | [], _, x, hx => nomatch hx
  | p :: r, h, x, hx => by
    rcases List.mem_append.mp (show x ∈ bdP p ++ bdR r from hx) with g | g
    · exact bd_okP p h.1 x g
    · exact bd_okR r h.2 x g
end
/-! ### but for a table -/
section
variable {T p : Addr} {H0 H H' : Hp} {o : HO}
theorem TabG.ne (t : TabG H T) (n : H p = none) : T ≠ p := fun e => by
  obtain ⟨ps, h, _⟩ := t
  rw [e, n] at h
  cases h
theorem TabG.new (t : TabG H T) (n : H p = none) : TabG (upd H p o) T := by
  obtain ⟨ps, h, g⟩ := t
  exact ⟨ps, kn h n, g⟩
theorem TabG.same (t : TabG H T) (s : Same H H') : TabG H' T := by
  obtain ⟨ps, h, g⟩ := t
  exact ⟨ps, s _ _ h, g⟩
theorem SameT.new (s : SameT T H0 H) (n : H p = none) : SameT T H0 (upd H p o) := ⟨fun b u nb e => kn (s.1 b u nb e) n, TabG.new s.2 n⟩
theorem SameT.own (t : TabG H0 T) (s : SameT T H0 H) (n : H0 p = none) : SameT T H0 (upd H p o) := by
  have ne : T ≠ p := TabG.ne t n
  refine ⟨fun b u nb e => ?_, ?_⟩
  · rw [upd_ne (ne_of_none e n)]
    exact s.1 b u nb e
  · obtain ⟨ps, h, g⟩ := s.2
    exact ⟨ps, by rw [upd_ne ne]; exact h, g⟩
theorem SameT.sm (s : SameT T H0 H) (h : Same H H') : SameT T H0 H' := s.trans (SameT.of s.2 h)
theorem SameT.none (t : TabG H0 T) (s : SameT T H0 H) (n : H p = none) : H0 p = none := by
  cases e : H0 p with
  | none => rfl
  | some u =>
    have ne : p ≠ T := fun z => TabG.ne s.2 n z.symm
    rw [s.1 p u ne e] at n
    cases n
end
theorem ints_shaped (a b : Int) : SeqAt.shaped (.list [.int a, .int b]) = true := by
  unfold SeqAt.shaped
  simp only [PyData.canLay0, PyData.canLayAll0, PyData.depth, PyData.depthAll, Bool.and_self, Bool.true_and]
  rfl
theorem ints_eqv (a b : Int) : PyData.eqv (.list [.int a, .int b]) (.list [.int a, .int b]) = true := SeqAt.eqv_refl _ (by simp only [PyData.canLay0, PyData.canLayAll0, Bool.and_self])
theorem strs_eqv {ys : List Str} (hk : ∀ z ∈ ys, PyData.strOk z = true) : PyData.eqv (.list (ys.map PyData.str)) (.list (ys.map PyData.str)) = true := SeqAt.eqv_refl _ (by simp only [PyData.canLay0]; exact strs_lay ys hk)
end Wk
namespace Wk
open PySem PySem.Spec PyProof.Rows L2 GxR
theorem SameT.sam1 {T F : Addr} {H0 H H' : Hp} (t : TabG H0 T) (s : SameT T H0 H) (n : H0 F = Option.none) (m : Sam1 F H H') : SameT T H0 H' :=
  ⟨fun b o nb e => m b o (ne_of_none e n) (s.1 b o nb e), by
    obtain ⟨ps, h, g⟩ := s.2
    exact ⟨ps, m _ _ (TabG.ne t n) h, g⟩⟩
theorem TabG.neL {T p : Addr} {H : Hp} {xs : List V} (t : TabG H T) (h : H p = some (.lst xs)) : p ≠ T := fun e => by
  obtain ⟨ps, q, _⟩ := t
  rw [e, q] at h
  cases h
theorem lt64 {g : List Str} {D : List Str} (h : ∀ x ∈ g, x ∈ D) (l : D.length < 64) : ∀ L : List Str, L.Nodup → (∀ x, x ∈ L ↔ x ∈ g) → L.length < 64 := fun L nd hm =>
  Nat.lt_of_le_of_lt (sub_len L D nd fun x hx => h x ((hm x).mp hx)) l
end Wk

set_option Elab.async false
set_option linter.all false
set_option maxRecDepth 100000
set_option maxHeartbeats 2000000
/-! What stays but for some code tables. -/
namespace Wk
open PySem PySem.Spec PyProof.Rows L2 GxR
def TabsG (Ts : List Addr) (H : Hp) : Prop := ∀ T ∈ Ts, TabG H T
def SamTs (Ts : List Addr) (H H' : Hp) : Prop := (∀ b o, b ∉ Ts → H b = some o → H' b = some o) ∧ TabsG Ts H'
section
variable {Ts : List Addr} {T p F : Addr} {H H0 H' H1 H2 : Hp} {o : HO} {xs : List V}
theorem TabsG.out (t : TabsG Ts H) (n : H p = none) : p ∉ Ts := fun h => by
  obtain ⟨ps, q, _⟩ := t p h
  rw [q] at n
  cases n
theorem TabsG.outL (t : TabsG Ts H) (h : H p = some (.lst xs)) : p ∉ Ts := fun z => by
  obtain ⟨ps, q, _⟩ := t p z
  rw [q] at h
  cases h
theorem TabsG.outT (t : TabsG Ts H) (h : H p = some (.tup xs)) : p ∉ Ts := fun z => by
  obtain ⟨ps, q, _⟩ := t p z
  rw [q] at h
  cases h
theorem TabsG.same (t : TabsG Ts H) (s : Same H H') : TabsG Ts H' := fun T h => TabG.same (t T h) s
theorem TabsG.new (t : TabsG Ts H) (n : H p = none) : TabsG Ts (upd H p o) := fun T h => TabG.new (t T h) n
theorem SamTs.refl (t : TabsG Ts H) : SamTs Ts H H := ⟨fun _ _ _ e => e, t⟩
theorem SamTs.trans (a : SamTs Ts H H1) (b : SamTs Ts H1 H2) : SamTs Ts H H2 := ⟨fun c o n e => b.1 c o n (a.1 c o n e), b.2⟩
theorem SamTs.of (t : TabsG Ts H) (s : Same H H') : SamTs Ts H H' := ⟨fun b o _ e => s b o e, t.same s⟩
theorem SamTs.tab (m : T ∈ Ts) (t : TabsG Ts H) (h : Tabbed T H H') : SamTs Ts H H' := ⟨fun b o n e => by
    rw [h.2 b (fun z => n (z ▸ m))]; exact e, fun T' h' => by
    by_cases e : T' = T
    · rw [e]; exact h.1
    · obtain ⟨ps, q, g⟩ := t T' h'
      exact ⟨ps, by rw [h.2 T' e]; exact q, g⟩⟩
theorem SamTs.tup (t : TabsG Ts H) (s : SamTs Ts H H') : STup H H' := fun a xs e => s.1 a _ (t.outT e) e
theorem SamTs.new (s : SamTs Ts H0 H) (n : H p = none) : SamTs Ts H0 (upd H p o) := ⟨fun b u nb e => kn (s.1 b u nb e) n, s.2.new n⟩
theorem SamTs.own (t : TabsG Ts H0) (s : SamTs Ts H0 H) (n : H0 p = none) : SamTs Ts H0 (upd H p o) := by
  refine ⟨fun b u nb e => ?_, fun T h => ?_⟩
  · rw [upd_ne (ne_of_none e n)]
    exact s.1 b u nb e
  · obtain ⟨ps, q, g⟩ := s.2 T h
    have ne : T ≠ p := fun z => t.out n (z ▸ h)
    exact ⟨ps, by rw [upd_ne ne]; exact q, g⟩
theorem SamTs.sm (s : SamTs Ts H0 H) (h : Same H H') : SamTs Ts H0 H' := s.trans (SamTs.of s.2 h)
theorem SamTs.none (t : TabsG Ts H0) (s : SamTs Ts H0 H) (n : H p = Option.none) : H0 p = Option.none := by
  cases e : H0 p with
  | none => rfl
  | some u =>
    rw [s.1 p u (s.2.out n) e] at n
    cases n
theorem SamTs.lst (t : TabsG Ts H) (s : SamTs Ts H H') (h : H p = some (.lst xs)) : H' p = some (.lst xs) := s.1 _ _ (t.outL h) h
end
end Wk

set_option Elab.async false
set_option linter.all false
set_option maxRecDepth 100000
set_option maxHeartbeats 2000000
/-! all(test for x in text) where the test reads a captured text of the def. -/
namespace Wk
open PySem PySem.Spec PyProof.Rows L2 GxR
section
variable {X : Cx} {pins : List (Addr × Obj)} {σ : L2.St} {H : Hp} {s : Shared}
/-- the test of one sign c, in a frame whose cell for y holds the text z -/
def EltC (X : Cx) (scope : Scope) (x y : Str) (elt : Expr) (pb : Str → Nat → Bool) : Prop :=
  ∀ (z : Str) (ce : Env) (B : Around) (F : Value → Shared → Prop) (c : Nat) (t ty : Tok) (cy : Addr) (r : Shared) (m : Str → Option Value),
    ce.scope = scope → ce.cells.lookup y = some cy → r.heap.IsCell cy (some (.str z ty)) → r.heap.Ns ce.locals m → m x = some (.str ⟨#[c]⟩ t) →
    wpAny (model X.prog X.w) B (eval elt ce) (fun b r' => b = .bool (pb z c) ∧ Keeps r r') F r
/-- x in y, y captured -/
theorem elt_in {scope : Scope} {x y : Str} {p1 p2 p3 : Pos} (hk : scope.kind = .function) (hl : scope.names.lookup x = some .local) (hf : scope.names.lookup y = some .free)
    (hd : (x == ("__debug__" : Str)) = false := by decide) (hd2 : (y == ("__debug__" : Str)) = false := by decide) (hd3 : (y == ("__classdict__" : Str)) = false := by decide) :
    EltC X scope x y (.Compare (.Name x p1) [.In] [.Name y p2] p3) (fun z c => decide (c ∈ z.cps.toList)) := by
  intro z ce B F c t ty cy r m hs hc hcell hn hm
  have k1 : ce.scope.kind = .function := by rw [hs]; exact hk
  have k2 : ce.kindOf x = some .local := by show ce.scope.names.lookup x = _; rw [hs]; exact hl
  have k3 : ce.kindOf y = some .free := by show ce.scope.names.lookup y = _; rw [hs]; exact hf
  refine wpAny_Compare1 (wpAny_Name (wpAny_loadName_local k1 k2 hn hm ?_) hd)
  refine wpAny_Name (wpAny_loadName_free k1 k3 hc hcell ?_ hd3) hd2
  exact PyProof.Rows.in_str ⟨congrArg Value.bool (PySem.StrLaws.found_one z c), keeps_refl _⟩
/-- the reading: slot i holds the captured text -/
def tAllC (P : Addr) (i : Nat) (pb : Str → Nat → Bool) (te : TE) : TE := fun σ H Q => te σ H fun v H1 => ∃ a z : Str, v = .str a ∧ σ[i]? = some (some (.str z)) ∧ TabG H1 P ∧
  ∀ H2, Tabbed P H1 H2 → Q (.bl (a.cps.toList.all (pb z))) H2
theorem gen_cap {c P : Addr} {elt iter : Expr} {x y : Str} {px gpos : Pos} {scope : Scope} {pb : Str → Nat → Bool} {te : TE} {k i : Nat} {Q' : Value → Shared → Prop} {R : Str → Str → Hp → Prop}
    (hr : Room k X.A) (TB : GxR.TabB X.base X.mg c P) (hcode : X.env.code = .ref c) (S : GenS X.env scope x) (hN : X.N[i]? = some y) (hy : X.env.scope.names.lookup y = some .cell)
    (hcl : ∀ cells : List (Str × Addr), (cloFrom cells scope.names []).lookup y = some ((cells.lookup y).getD 0)) (hi : PE X iter te) (hel : EltC X scope x y elt pb)
    (hs : ∀ v, genFold iter X.env v = pure v) (I : Inv X pins σ H s) (h : te σ H fun v H1 => ∃ a z : Str, v = .str a ∧ σ[i]? = some (some (.str z)) ∧ TabG H1 P ∧ R a z H1)
    (hQ : ∀ a z H1 g s5, R a z H1 → Ready X pins σ H1 P a (pb z) g s5 → Q' (.ref g) s5) :
    wpAny (model X.prog X.w) X.A (eval (.GeneratorExp elt [⟨.Name x px, iter, [], 0⟩] scope gpos) X.env) Q' X.xe s := by
  refine wpAny_GeneratorExp_walksQ hr.hd S.co (closure_ok S.free) S.cell S.dot S.loc S.kind (by have := hr.dp; omega) ?_ hs
  refine thn (hi.run pins s σ H _ I h) fun xv s1 ⟨v, H1, I1, r1, q1⟩ => ?_
  obtain ⟨a, z, rfl, hz, ⟨ps, hP, ht⟩, q1⟩ := q1
  obtain ⟨t, rfl⟩ := _root_.id r1
  -- the captured cell
  obtain ⟨cy, ty, hcy, hcell⟩ : ∃ cy ty, X.env.cells.lookup y = some cy ∧ s1.heap.IsCell cy (some (.str z ty)) := by
    obtain ⟨m, hn, hl⟩ := I1.loc
    obtain ⟨u, ru, lk⟩ := hl i y (.str z) hN hz (.inr (.inl hy))
    obtain ⟨ty, rfl⟩ := _root_.id ru
    rcases lk with ⟨hk, _⟩ | ⟨_, cy, hcy, hcell⟩
    · have hk2 : X.env.scope.names.lookup y = some .local := hk
      rw [hy] at hk2
      cases hk2
    · exact ⟨cy, ty, hcy, hcell⟩
  refine wpAny_pyIter_str fun o St W hst => ?_
  have hPs : s1.heap.get? P = some { cls := .none, data := .fields ps } := I1.hok P _ hP
  have hPlt : P < s1.heap.objs.size := Heap.lt_size hPs
  have hP2 : (s1.heap.push o).get? P = some { cls := .none, data := .fields ps } := Heap.get?_push_of_some _ hPs
  have cd : PySem.W.CodeHd (s1.heap.push o) c P :=
    TB.code.keeps fun b u e => Heap.get?_push_of_some _ (I1.bk b u e)
  have lim2 : (s1.heap.push o).NoLimit := I1.nolimit.push o
  have cyP : cy ≠ P := fun e => by
    obtain ⟨oc, e1, e2⟩ := hcell
    rw [e, hPs] at e1
    cases e1
    cases e2
  -- what follows once the code object is there
  have go : ∀ (code : Value) (h3 : Heap) (tk : Nat) (ps' : Array Value), Heap.ExtBut P (s1.heap.push o) h3 →
      (s1.heap.push o).objs.size ≤ h3.objs.size → h3.get? P = some { cls := .none, data := .fields ps' } →
      (∃ more, ps' = ps ++ more) → TriplesOk ps'.toList →
      wpAny (model X.prog X.w) X.A (builtinsFor X.env.globals X.env.builtins) (fun bi s₄ =>
        ∃ Ia fp wr n₀ Pf St₀ pz F, Value.ref s1.heap.objs.size = .ref Ia ∧
          (∀ A' : Around, A'.handled = none → Walks X.prog X.w A' Ia fp wr n₀ Pf St₀) ∧ St₀ 0 s₄.heap ∧
          (∀ b ∈ fp, b < s₄.heap.objs.size) ∧ s₄.heap.NoLimit ∧ cStatics ∉ wr ∧
          (∀ href : Heap, (∀ b o, s₄.heap.get? b = some o → href.get? b = some o) →
            QuietGen X.prog X.w (genEnv scope (cloFrom X.env.cells scope.names []) s₄.heap.objs.size code bi X.env) x [] elt
              (List.range s₄.heap.objs.size) wr Pf pz F href) ∧
          (∀ a h₅ tk gs, gs.bare = true → s₄.heap.objs.size < a → h₅.objs.size = a + 1 →
            (∀ b o, s₄.heap.get? b = some o → h₅.get? b = some o) →
            WalksS X.prog X.w X.A.in4 a (a :: s₄.heap.objs.size :: List.range s₄.heap.objs.size) (s₄.heap.objs.size :: wr)
              (GenOnlyQ s₄.gens.size) (passing pz n₀ 0).length (fun j y => ∃ i, (passing pz n₀ 0)[j]? = some i ∧ F i y)
              (GenAt X.prog X.w X.A.in4 a s₄.gens.size s₄.heap.objs.size (List.range s₄.heap.objs.size) wr pz n₀ F) →
            GenAt X.prog X.w X.A.in4 a s₄.gens.size s₄.heap.objs.size (List.range s₄.heap.objs.size) wr pz n₀ F 0
              { s₄ with gens := s₄.gens.push gs, toks := tk, heap := h₅ } →
            Q' (.ref a) { s₄ with gens := s₄.gens.push gs, toks := tk, heap := h₅ })) X.xe { s1 with heap := h3, toks := tk } := by
    intro code h3 tk ps' hx hsz hP3 hmore ht3
    obtain ⟨bm, ob, e1, e2, e3, e4, e5, e6, e7, e8⟩ := TB.bm
    have hcP : cStatics ≠ P := fun e => by
      obtain ⟨_, hns, _⟩ := I1.nolimit
      obtain ⟨o', es, ep, ho, hd, _⟩ := hns
      rw [e, hPs] at ho
      cases ho
      cases hd
    have hcl2 : cStatics < s1.heap.objs.size := let ⟨_, hns, _⟩ := I1.nolimit; hns.lt
    have sz2 : (s1.heap.push o).objs.size = s1.heap.objs.size + 1 := Heap.size_push ..
    have keep3 : ∀ b u, b ≠ P → s1.heap.get? b = some u → h3.get? b = some u :=
      fun b u hb e => hx b u hb (Heap.get?_push_of_some _ e)
    refine wpAny_builtinsFor (m := X.mg) (by
      rw [I1.ok.glob]
      exact ((I1.mod.glob.keeps I1.bk).push o).extBut hx TB.gP) e1 e2 (keep3 _ _ e4 (I1.bk _ _ e5)) e6 e7 e8 ?_
    refine ⟨s1.heap.objs.size, [s1.heap.objs.size], [s1.heap.objs.size], a.cps.size, SignAt a, St, (fun _ => true),
      (fun i y => ∃ cc, a.cps[i]? = some cc ∧ y = .bool (pb z cc)), rfl, W, ?_, ?_, lim2.extBut hx hcP, ?_, ?_, ?_⟩
    · refine (W X.A hr.hd).frame _ _ _ hst fun b hb u e => hx b u (fun q => ?_) e
      rcases List.mem_cons.mp hb with q2 | q2
      · exact Nat.ne_of_lt hPlt (q.symm.trans q2)
      · cases q2
    · intro b hb
      rcases List.mem_cons.mp hb with q | q
      · rw [q]
        show s1.heap.objs.size < h3.objs.size
        omega
      · cases q
    · intro q
      rcases List.mem_cons.mp q with q | q
      · exact Nat.ne_of_lt hcl2 q
      · cases q
    · intro href hhref
      refine ⟨fun A' E' i v s₂ m₂ hA hPv hn hm hk => ?_, fun A' E' i v s₂ m₂ hA hPv hp hn hm hk => ?_⟩
      · simp only [List.forIn_nil]
        exact wpAny_pure ⟨rfl, keeps_refl _⟩
      · obtain ⟨cc, u, hcc, rfl⟩ := hPv
        obtain ⟨oc, c1, c2⟩ := hcell
        have sz3 : s1.heap.objs.size ≤ h3.objs.size := by omega
        have c3 := hk cy (List.mem_range.mpr (Nat.lt_of_lt_of_le (Heap.lt_size c1) sz3)) (fun q => by
            rcases List.mem_cons.mp q with q | q
            · exact absurd (Heap.lt_size c1) (by rw [q]; exact Nat.lt_irrefl _)
            · cases q) oc (hhref _ _ (keep3 _ _ cyP c1))
        have lk : (genEnv scope (cloFrom X.env.cells scope.names []) h3.objs.size code builtinsNs X.env).cells.lookup y = some cy := by
          show (cloFrom X.env.cells scope.names []).lookup y = some cy
          rw [hcl, hcy]
          rfl
        exact wpAny_mono (hel z _ A' E' cc u ty cy s₂ m₂ rfl lk ⟨oc, c3, c2⟩ hn hm) (fun y s3 r => ⟨⟨cc, hcc, r.1⟩, r.2⟩) fun _ _ e => e
    · intro g h5 tk5 gs hgb hag hsz5 hk5 W5 hat
      simp only [GxR.passing_true, List.length_range] at W5
      refine hQ a z H1 g _ q1 ⟨_, _, _, _, _, W5.in4_1, hat, ?_, fun s' hm => ?_⟩
      · intro j y sj Qj Ej hy2 hQj
        obtain ⟨i2, hij, cc, hcc, rfl⟩ := hy2
        obtain ⟨hj, ej⟩ := List.getElem?_eq_some_iff.mp hij
        rw [List.getElem_range] at ej
        subst ej
        have e9 : a.cps.toList[j]? = some cc := by
          rw [Array.getElem?_toList]
          exact hcc
        have hQ2 : Qj (trF (pb z) a.cps.toList j) sj := hQj
        rw [trF_some e9] at hQ2
        exact wpAny_truthy_bool hQ2
      · obtain ⟨more, em⟩ := hmore
        have nwr : ∀ b u, s1.heap.get? b = some u → b ∉ h3.objs.size :: [s1.heap.objs.size] := fun b u e hb => by
          have hl := Heap.lt_size e
          rcases List.mem_cons.mp hb with q | q
          · rw [q] at hl
            have h9 : (h3.objs.size : Nat) < s1.heap.objs.size := hl
            omega
          · rcases List.mem_cons.mp q with q | q
            · rw [q] at hl
              exact Nat.lt_irrefl _ hl
            · cases q
        have J := inv_tab (more := more) (h' := s'.heap) (g' := s'.gens) (d' := s'.drawn) (t' := s'.toks) I1 hP
          (fun b u hb e => hm.heap b u (nwr b u e) (hk5 b u (keep3 b u hb e)))
          (by rw [← em]; exact hm.heap P _ (nwr P _ hPs) (hk5 P _ hP3)) (AllBare.movedS (I1.bare.push hgb) hm)
        rw [sh_eta s1 s' hm.os] at J
        exact ⟨upd H1 P (.tbl (ps ++ more)), ⟨⟨ps ++ more, upd_same, by rw [← em]; exact ht3⟩, fun b hb => upd_ne hb⟩, J⟩
  refine ⟨lim2, ?_⟩
  cases hf : codeAmong gpos ps.toList with
  | none =>
    refine wpAny_genexprCodeX hcode (cd.code hP2 ht) (cd.tab hP2) hf fun c' h' tk hx hge hlt hco' _ htab' _ => ?_
    obtain ⟨o1, vs, f1, tf, fl, tg, inF, tx, tt, op, _, _, _, _, _, _, _, _, _, htr, _⟩ := hco'
    exact go _ h' tk _ hx (Nat.le_trans hge (Nat.le_of_lt hlt)) htab'.2 ⟨_, rfl⟩ htr
  | some cv =>
    refine wpAny_genexprCode_hit hcode (cd.code hP2 ht) hf ?_
    exact go cv (s1.heap.push o) s1.toks ps (Heap.ExtBut.refl _ _) (Nat.le_refl _) hP2 ⟨#[], by simp⟩ ht
theorem pe_allC {c P : Addr} {elt iter : Expr} {x y : Str} {px p pos gpos : Pos} {scope : Scope} {pb : Str → Nat → Bool} {te : TE} {k i : Nat}
    (hr : Room k X.A) (hg : Gl X "all") (hm : X.mg "all" = none) (hb : bootBuiltins "all" = some (.builtin "all")) (TB : GxR.TabB X.base X.mg c P) (hcode : X.env.code = .ref c) (S : GenS X.env scope x)
    (hN : X.N[i]? = some y) (hy : X.env.scope.names.lookup y = some .cell) (hcl : ∀ cells : List (Str × Addr), (cloFrom cells scope.names []).lookup y = some ((cells.lookup y).getD 0))
    (hi : PE X iter te) (hel : EltC X scope x y elt pb) (hs : ∀ v, genFold iter X.env v = pure v)
    (he : starEach [.GeneratorExp elt [⟨.Name x px, iter, [], 0⟩] scope gpos] X.env = (false, eval (.GeneratorExp elt [⟨.Name x px, iter, [], 0⟩] scope gpos) X.env) :: starEach [] X.env := by rfl) :
    PE X (.Call (.Name "all" p) [.GeneratorExp elt [⟨.Name x px, iter, [], 0⟩] scope gpos] [] pos) (tAllC P i pb te) := by
  refine ⟨fun pins s σ H Q I h => ?_⟩
  refine wpAny_Call_Name_kw (ld_blt I hg hm hb (PyProof.Rows.callWith_builtin1 ?_ he (by rfl)))
  rw [he]
  show wpAny _ _ (spliced ((false, eval (.GeneratorExp elt [⟨.Name x px, iter, [], 0⟩] scope gpos) X.env) :: backTo pos (starEach [] X.env))) _ _ s
  refine Calls.spliced_cons (gen_cap (i := i) (y := y) (R := fun a z H1 => ∀ H2, Tabbed P H1 H2 → Q (.bl (a.cps.toList.all (pb z))) H2)
    hr TB hcode S hN hy hcl hi hel hs I h fun a z H1 g s5 hR hG => ?_)
  obtain ⟨fp, wr, G, F, St, W, hst, htr, hI⟩ := hG
  refine Calls.spliced_nil (call_all_walkS (W.self 0 _ _ _ hst ⟨g, fp, wr, G, _, F, St, _, rfl, W, hst, htr, fun s' hmv => ?_⟩))
  obtain ⟨H2, hT, J⟩ := hI s' hmv
  refine ⟨.bl _, H2, J, rfl, ?_⟩
  rw [all_signs a (pb z)]
  exact hR H2 hT
end
end Wk

set_option Elab.async false
set_option linter.all false
set_option maxRecDepth 100000
set_option maxHeartbeats 2000000
/-! Names: what is computed, and promises. -/
namespace Wk
open PySem PySem.Spec PyProof.Rows L2 GxR
abbrev fg : Str := "0123456789"
def wordB (z s : Str) : Bool := decide (1 ≤ z.length) && (decide (z.length ≤ 6) && z.cps.toList.all fun c => decide (c ∈ s.cps.toList))
def takenV : List V := [.str "in", .str "out", .str "open", .str "new"]
def nameB (z : Str) : Bool := !inV (.str z) takenV && wordB z abc
def nmV : V → Bool
  | .str z => nameB z
  | _ => false
inductive Thing (H : Hp) : V → Prop where
  | str (z : Str) (h : z.length ≤ 1000) : Thing H (.str z)
  | non : Thing H .non
  | int (i : Int) : Thing H (.int i)
  | bl (b : Bool) : Thing H (.bl b)
  | lst {a : Addr} {xs : List V} (e : H a = some (.lst xs)) : Thing H (.ref a)
  | tup {a : Addr} {xs : List V} (e : H a = some (.tup xs)) : Thing H (.ref a)
  | dct {a : Addr} {xs : List (Key × V)} (e : H a = some (.dK xs)) : Thing H (.ref a)
def strish : V → Bool
  | .str _ => true
  | _ => false
theorem Thing.ty {K : PySem.W.Frag} {H : Hp} {v : V} (h : Thing H v) : ∃ t : String, TyX K H v (.type t) ∧ PySem.W.kitOne K (.type t) (.type "str") = some (strish v) := by
  cases h with
  | str z h => exact ⟨_, .base (.str z), kit_ty (show kitB "str" "str" = some true by decide +kernel)⟩
  | non => exact ⟨_, .base .non, kit_ty (show kitB "NoneType" "str" = some false by decide +kernel)⟩
  | int i => exact ⟨_, .base (.int i), kit_ty (show kitB "int" "str" = some false by decide +kernel)⟩
  | bl b => exact ⟨_, .base (.bl b), kit_ty (show kitB "bool" "str" = some false by decide +kernel)⟩
  | lst e => exact ⟨_, .base (.lst e), kit_ty (show kitB "list" "str" = some false by decide +kernel)⟩
  | tup e => exact ⟨_, .base (.tup e), kit_ty (show kitB "tuple" "str" = some false by decide +kernel)⟩
  | dct e => exact ⟨_, .base (.dK e), kit_ty (show kitB "dict" "str" = some false by decide +kernel)⟩
theorem Thing.cases {H : Hp} {v : V} (h : Thing H v) : (∃ z : Str, v = .str z ∧ z.length ≤ 1000) ∨ (strish v = false ∧ nmV v = false) := by
  cases h with
  | str z h => exact .inl ⟨z, rfl, h⟩
  | _ => exact .inr ⟨rfl, rfl⟩
def spWord (Ts : List Addr) : Sp := fun vs H Q _ => ∃ z s : Str, vs = [.str z, .str s] ∧ z.length ≤ 1000 ∧ TabsG Ts H ∧ ∀ H', SamTs Ts H H' → Q (.bl (wordB z s)) H'
def spName (Ts : List Addr) (g : V → Bool) : Sp := fun vs H Q _ => ∃ v : V, vs = [v] ∧ Thing H v ∧ TabsG Ts H ∧ ∀ H', SamTs Ts H H' → Q (.bl (g v)) H'
/-! drawn names are names -/
theorem name_len {j : Nat} {z : Str} (h : NameOf j z) : z.length ≤ 6 ∧ 1 ≤ z.length := by
  obtain ⟨r, e, h1, _⟩ := h
  have : z.length = z.cps.toList.length := (Array.length_toList).symm
  rw [this, e, List.length_cons]
  omega
theorem name_word {j : Nat} {z : Str} (h : NameOf j z) (hj : j < 26) : wordB z abc = true := by
  obtain ⟨l1, l2⟩ := name_len h
  obtain ⟨r, e, h1, h2⟩ := h
  have va : ∀ c ∈ vow.cps.toList, c ∈ abc.cps.toList := by decide +kernel
  have ja : 97 + j ∈ abc.cps.toList := List.mem_of_getElem? (abc_at j hj)
  unfold wordB
  rw [decide_eq_true l2, decide_eq_true l1, Bool.true_and, Bool.true_and, List.all_eq_true]
  intro c hc
  rw [e] at hc
  rcases List.mem_cons.mp hc with q | q
  · rw [q]; exact decide_eq_true ja
  · exact decide_eq_true (va c (h2 c q))
/-! the second sign of a drawn name is a vowel, x, y or z: it is none of the four words -/
theorem name_free {j : Nat} {z : Str} (h : NameOf j z) : inV (.str z) takenV = false := by
  obtain ⟨r, e, h1, h2⟩ := h
  have no : ∀ (t : Str) (c : Nat), c ∈ t.cps.toList.drop 1 → c ∉ vow.cps.toList → z ≠ t := by
    intro t c hc hv ez
    rw [← ez, e] at hc
    exact hv (h2 c hc)
  have n1 : z ≠ "in" := no "in" 110 (by decide +kernel) (by decide +kernel)
  have n2 : z ≠ "out" := no "out" 116 (by decide +kernel) (by decide +kernel)
  have n3 : z ≠ "open" := no "open" 112 (by decide +kernel) (by decide +kernel)
  have n4 : z ≠ "new" := no "new" 119 (by decide +kernel) (by decide +kernel)
  have e5 : takenV = (["in", "out", "open", "new"] : List Str).map V.str := rfl
  rw [e5, inV_strs]
  exact decide_eq_false (by simp [n1, n2, n3, n4])
theorem name_ok {j : Nat} {z : Str} (h : NameOf j z) (hj : j < 26) : nameB z = true := by
  unfold nameB
  rw [name_free h, name_word h hj]
  rfl
end Wk

set_option Elab.async false
set_option linter.all false
set_option maxRecDepth 100000
set_option maxHeartbeats 2000000
/-! d.get(x) of a dict that the module wrote, its keys texts. -/
namespace Wk
open PySem PySem.Spec PyProof.Rows L2 GxR
/-- at a: a written dict in which x has r -/
def KGot (K : PySem.W.Frag) (w : World) (a : Addr) : Prop := ∃ es n, K.lookup a = some ⟨.type "dict", none, .dict es n, #[]⟩ ∧ PySem.W.KeysLit w.params es.toList ∧ (a == sysModules) = false
def tKGet (K : PySem.W.Frag) (w : World) (td ty : TE) : TE := fun σ H Q => td σ H fun x H1 => ∃ a, x = .ref a ∧ KGot K w a ∧ ty σ H1 fun y H2 => ∃ (z : Str) (r : Option Value) (v0 : V), y = .str z ∧ PySem.W.nsIn K a z = some r ∧ RelV v0 (r.getD .none) ∧ Q v0 H2
section
variable {X : Cx} {o e : Expr} {apos cpos : Pos} {td ty : TE}
theorem pe_kget (ho : PE X o td) (he : PE X e ty) (m : M1 X o "get" apos e cpos) : PE X (.Call (.Attribute o "get" apos) [e] [] cpos) (tKGet X.K X.w td ty) := by
  refine ⟨fun pins s σ H Q I h => ?_⟩
  refine wpAny_Call_method m.base m.few m.line PySem.F.plainAttrs_dict PySem.F.slot_dict_get PySem.F.type_dict_get (thn (ho.run pins s σ H _ I h) fun u s1 ⟨x, H1, I1, rx, a, ex, d, q1⟩ => ?_)
  subst ex
  obtain rfl : u = Value.ref a := rx
  obtain ⟨es, n, hl, hk, low⟩ := d
  have mp := fun (s : Shared) (k : X.K.In s.heap) => PySem.W.mapOf_K (prog := X.prog) (w := X.w) k hl hk
  refine ⟨(mp s1 I1.kIn).typeIs, fun b eb => ?_, ?_⟩
  · cases eb
    exact ⟨_, I1.kIn _ _ hl, rfl⟩
  rw [m.trees]
  refine Calls.callWith_builtin rfl (Calls.evalArgs_plain (Calls.spliced_cons (thn (he.run pins s1 σ H1 _ I1 q1) fun iv s2 ⟨y, H2, I2, ry, z, r, v0, ey, g, rv, q2⟩ => Calls.spliced_nil ?_)))
  subst ey
  obtain ⟨t, rfl⟩ := (show ∃ t, iv = Value.str z t from ry)
  refine call_meetsIn PySem.F.slot_dict_get (mp s2 I2.kIn).typeIs PySem.F.entry_dict_get (PySem.F.args_dict_get_2 _ _) (meets_dict_get (strKind X.prog X.w) a (strKind_is X.prog X.w z t) low) ⟨_, mp s2 I2.kIn, ?_⟩
  rw [PySem.W.find_K hl g]
  exact ⟨v0, H2, I2.tok _, rv, q2⟩
end
end Wk

set_option Elab.async false
set_option linter.all false
set_option maxRecDepth 100000
set_option maxHeartbeats 2000000
/-! What is a house: levels of rows, promises. -/
namespace Wk
open PySem PySem.Spec PyProof.Rows L2 GxR
/-- how many things a part has -/
def szP : Part → Nat
  | .say _ => 2
  | .again _ => 2
  | .oth _ _ _ => 3
def NmOk (n : Str) : Prop := nameB n = true ∧ n.length ≤ 1000
/-- parts and their rests, level by level -/
def flL (ls : List (List Part)) : List Part := ls.flatten
def nxL (ls : List (List Part)) : List (List Part) := (flL ls).map restP
theorem flL_cons (r : List Part) (ls : List (List Part)) : flL (r :: ls) = r ++ flL ls := rfl
theorem sizeR_rests : ∀ r : List Part, sizeR r = r.length + sizeL (r.map restP)
  | [] => rfl
  | p :: r => by
    have h := sizeR_rests r
    have s := size_rest p
    show sizeP p + sizeR r = r.length + 1 + (sizeR (restP p) + sizeL (r.map restP))
    omega
theorem sizeL_rests : ∀ ls : List (List Part), sizeL ls = (flL ls).length + sizeL (nxL ls)
  | [] => rfl
  | r :: ls => by
    have h := sizeL_rests ls
    have h2 := sizeR_rests r
    show sizeR r + sizeL ls = (r ++ flL ls).length + sizeL ((r ++ flL ls).map restP)
    rw [List.length_append, List.map_append, sizeL_app]
    have e : sizeL (nxL ls) = sizeL ((flL ls).map restP) := rfl
    omega
theorem deepR_rests : ∀ r : List Part, deepL (r.map restP) ≤ deepR r - 1
  | [] => Nat.le_refl _
  | p :: r => by
    have h := deepR_rests r
    have d := deep_rest p
    show max (deepR (restP p)) (deepL (r.map restP)) ≤ max (deepP p) (deepR r) - 1
    omega
theorem deepL_rests : ∀ ls : List (List Part), deepL (nxL ls) ≤ deepL ls - 1
  | [] => Nat.le_refl _
  | r :: ls => by
    have h := deepL_rests ls
    have h2 := deepR_rests r
    show deepL ((r ++ flL ls).map restP) ≤ max (deepR r) (deepL ls) - 1
    rw [List.map_append, deepL_app]
    have e : deepL (nxL ls) = deepL ((flL ls).map restP) := rfl
    omega
theorem deep_posP : ∀ p : Part, 1 ≤ deepP p := fun p => by
  have := deep_rest p
  omega
theorem deepL_pos : ∀ ls : List (List Part), flL ls ≠ [] → 1 ≤ deepL ls
  | [], h => absurd rfl h
  | [] :: ls, h => by
    have := deepL_pos ls h
    show 1 ≤ max (deepR []) (deepL ls)
    omega
  | (p :: r) :: ls, h => by
    have := deep_posP p
    show 1 ≤ max (max (deepP p) (deepR r)) (deepL ls)
    omega
def okLs (f : Str → Prop) (ls : List (List Part)) : Prop := ∀ r ∈ ls, okR f r
theorem okLs.parts {f : Str → Prop} {ls : List (List Part)} (h : okLs f ls) : ∀ p ∈ flL ls, okP f p := fun p hp => by
  obtain ⟨r, hr, hp⟩ := List.mem_flatten.mp hp
  exact (h r hr).mem p hp
theorem okLs.next {f : Str → Prop} {ls : List (List Part)} (h : okLs f ls) : okLs f (nxL ls) := fun r hr => by
  obtain ⟨p, hp, rfl⟩ := List.mem_map.mp hr
  exact rest_ok (h.parts p hp)
theorem len_sum : ∀ (ls : List (List Part)) (i : Nat), i ≤ ls.length → preSum (fun j => ((ls[j]?).elim (0 : Int) fun r => (r.length : Nat))) i = ((flL (ls.take i)).length : Nat)
  | ls, 0, _ => by simp [preSum, flL]
  | ls, i + 1, h => by
    have hi : i < ls.length := h
    rw [preSum, len_sum ls i (Nat.le_of_lt hi), List.take_add_one, List.getElem?_eq_getElem hi]
    unfold flL
    rw [List.flatten_append, List.length_append]
    simp
theorem flL_take (ls : List (List Part)) (i : Nat) : (flL (ls.take i)).length ≤ (flL ls).length := by
  have e : flL ls = flL (ls.take i) ++ flL (ls.drop i) := by
    unfold flL
    rw [← List.flatten_append, List.take_append_drop]
  rw [e, List.length_append]
  omega
def spForm : Sp := fun vs H Q _ => ∃ (v : V) (p : Part), vs = [v] ∧ PartAt H p v ∧ Q (.bl true) H
def spNPart (Ts : List Addr) : Sp := fun vs H Q _ => ∃ (v : V) (p : Part), vs = [v] ∧ PartAt H p v ∧ okP NmOk p ∧ TabsG Ts H ∧ ∀ H', SamTs Ts H H' → Q (.bl true) H'
def spSmall (Ts : List Addr) : Sp := fun vs H Q _ => ∃ (v : V) (r : List Part), vs = [v] ∧ RowAt H r v ∧ okR NmOk r ∧ sizeR r ≤ 400 ∧ deepR r ≤ 24 ∧ TabsG Ts H ∧ ∀ H', SamTs Ts H H' → Q (.bl true) H'
/-- a row that is a house -/
structure HouseR (r : List Part) : Prop where
  ok : okR NmOk r
  size : sizeR r ≤ 400
  deep : deepR r ≤ 24
  nd : (bdR r).Nodup
  apart : ∀ x ∈ bdR r, x ∉ frR [] r
def spHouse (Ts : List Addr) (n : Nat) : Sp := fun vs H Q _ => ∃ (v : V) (r : List Part), vs = [v] ∧ RowAt H r v ∧ HouseR r ∧ deepR r < n ∧ TabsG Ts H ∧ ∀ H', SamTs Ts H H' → Q (.bl true) H'
end Wk
namespace Wk
open PySem PySem.Spec PyProof.Rows L2 GxR
theorem FunC.okN {P : Program} {w : World} {K : PySem.W.Frag} {mg : Str → Option Value} {base : Heap} {x qual : Str} {st : Stmt} {f c : Addr} {fd : FuncData} {N ps : List Str} {k : Nat} {sp : Sp} (F : FunC K x qual st f c fd) (S : FnScope N ps (defScope st))
    (len : ∀ vs H Q E, sp vs H Q E → vs.length = ps.length)
    (hb : ∀ (A : Around) (outer : List Env) (s : Shared) (H : Hp) (vs : List V) (Q : VK) (E : XK), Room k (A.deeper (envOfC qual (defScope st) s.heap.objs.size f (.ref c))) → sp vs H Q E →
      ∃ t, PSs (cxOf CX0 P w K mg base N qual (defScope st) f (.ref c) A outer s H E).nox (defBody st) t ∧ t { nx := fun _ H' => Q .non H', rt := Q } (start N vs) H) : FnOk P w K mg base CX0 (k + 1) f fd ps sp :=
  F.ok S len fun A outer s H vs Q E hr h => by
    obtain ⟨t, g, q⟩ := hb A outer s H vs Q E hr h
    exact ⟨t, g.nox, q⟩
end Wk

set_option Elab.async false
set_option linter.all false
set_option maxRecDepth 100000
set_option maxHeartbeats 2000000
/-! Rows freed: what is computed, and what stays true. -/
namespace Wk
open PySem PySem.Spec PyProof.Rows L2 GxR
theorem emp_app (x : Str) : Str.empty ++ x = x := by
  refine Str.ext' (Array.toList_inj.mp ?_)
  rw [app_codes]
  rfl
/-- the private name with base x and number k -/
def priv (x : Str) (k : Nat) : Str := x ++ "." ++ Str.ofString (toString (k : Int))
/-- one part freed, where f frees rows -/
def frdP (f : Nat → List Part → Nat × List Part) (k : Nat) : Part → Nat × List Part
  | .say n => (k, [.say n])
  | .again r => (k, [.again r])
  | .oth w n r => match w with
    | .room => ((f k r).1, [.oth .room n (f k r).2])
    | .new => f (k + 1) (calledR n (priv n k) r)
    | w => (k, [.oth w n r])
def frdL (f : Nat → List Part → Nat × List Part) : Nat → List Part → Nat × List Part
  | k, [] => (k, [])
  | k, p :: r => ((frdL f (frdP f k p).1 r).1, (frdP f k p).2 ++ (frdL f (frdP f k p).1 r).2)
def frdR : Nat → Nat → List Part → Nat × List Part
  | 0, k, r => (k, r)
  | n + 1, k, r => frdL (frdR n) k r
theorem frdL_snoc (f : Nat → List Part → Nat × List Part) : ∀ (r : List Part) (k : Nat) (p : Part), frdL f k (r ++ [p]) = ((frdP f (frdL f k r).1 p).1, (frdL f k r).2 ++ (frdP f (frdL f k r).1 p).2)
  | [], k, p => by
    show ((frdP f k p).1, (frdP f k p).2 ++ []) = ((frdP f k p).1, [] ++ (frdP f k p).2)
    rw [List.append_nil, List.nil_append]
  | q :: r, k, p => by
    show ((frdL f (frdP f k q).1 (r ++ [p])).1, (frdP f k q).2 ++ (frdL f (frdP f k q).1 (r ++ [p])).2) = _
    rw [frdL_snoc f r (frdP f k q).1 p]
    show (_, (frdP f k q).2 ++ (_ ++ _)) = (_, ((frdP f k q).2 ++ _) ++ _)
    rw [List.append_assoc]
    rfl
mutual
/-- no part that is open is a new -/
def nnP : Part → Prop
  | .say _ => True
  | .again _ => True
  | .oth w _ r => w ≠ .new ∧ (w = .room → nnR r)
def nnR : List Part → Prop
  | [] => True
  | p :: r => nnP p ∧ nnR r
end
theorem nnR_app : ∀ {r q : List Part}, nnR r → nnR q → nnR (r ++ q)
  | [], q, _, g => g
  | p :: r, q, h, g => ⟨h.1, nnR_app h.2 g⟩
theorem nnR.mem : ∀ {r : List Part}, nnR r → ∀ p ∈ r, nnP p
  | [], _, p, hp => nomatch hp
  | q :: r, h, p, hp => by
    rcases List.mem_cons.mp hp with e | e
    · rw [e]; exact h.1
    · exact nnR.mem h.2 p e
/-- what is freed is freed -/
theorem frdR_id : ∀ (n k : Nat) (r : List Part), nnR r → frdR n k r = (k, r)
  | 0, k, r, _ => rfl
  | n + 1, k, r, h => by
    show frdL (frdR n) k r = (k, r)
    induction r with
    | nil => rfl
    | cons p r ih =>
      have e : frdP (frdR n) k p = (k, [p]) := by
        cases p with
        | say m => rfl
        | again q => rfl
        | oth w m q =>
          obtain ⟨h1, h2⟩ := h.1
          cases w with
          | room =>
            show ((frdR n k q).1, [Part.oth .room m (frdR n k q).2]) = _
            rw [frdR_id n k q (h2 rfl)]
          | new => exact absurd rfl h1
          | _ => rfl
      show ((frdL (frdR n) (frdP (frdR n) k p).1 r).1, (frdP (frdR n) k p).2 ++ (frdL (frdR n) (frdP (frdR n) k p).1 r).2) = _
      rw [e]
      dsimp only
      rw [ih h.2]
      rfl
/-! ### what stays -/
/-- names short, bound ones shorter and each bound once -/
structure Gd (r : List Part) : Prop where
  ok : okR (Sh 30) r
  sh : ∀ x ∈ bdR r, Sh 6 x
  nd : (bdR r).Nodup
structure FrOk (k : Nat) (r : List Part) (o : Nat × List Part) : Prop where
  lo : k ≤ o.1
  hi : o.1 ≤ k + sizeR r
  deep : deepR o.2 ≤ deepR r
  size : sizeR o.2 ≤ sizeR r
  bd : (bdR o.2).Sublist (bdR r)
  ok : okR (Sh 30) o.2
  nn : nnR o.2
theorem FrOk.gd {k : Nat} {r : List Part} {o : Nat × List Part} (h : FrOk k r o) (g : Gd r) : Gd o.2 := ⟨h.ok, fun x hx => g.sh x (h.bd.subset hx), h.bd.nodup g.nd⟩
theorem priv_sh {x : Str} {k : Nat} (h : Sh 6 x) (hk : k < 10 ^ 10) : Sh 30 (priv x k) := by
  have shd : Sh 1 "." := by unfold Sh; decide +kernel
  have shn : Sh 10 (Str.ofString (toString (k : Int))) := num_sh (by omega) (by omega)
  exact ((h.app shd).app shn).mono (by decide)
theorem Gd.tail {p : Part} {r : List Part} (g : Gd (p :: r)) : Gd r := ⟨g.ok.2, fun x hx => g.sh x (List.mem_append_right _ hx), (List.nodup_append.mp (show (bdP p ++ bdR r).Nodup from g.nd)).2.1⟩
theorem Gd.head {p : Part} {r : List Part} (g : Gd (p :: r)) : Gd [p] := ⟨⟨g.ok.1, trivial⟩, fun x hx => g.sh x (by
    have : bdR [p] = bdP p := List.append_nil _
    rw [this] at hx
    exact List.mem_append_left _ hx), by
    have : bdR [p] = bdP p := List.append_nil _
    rw [this]
    exact (List.nodup_append.mp (show (bdP p ++ bdR r).Nodup from g.nd)).1⟩
theorem Gd.mem : ∀ {r : List Part}, Gd r → ∀ p ∈ r, Gd [p]
  | q :: r, g, p, hp => by
    rcases List.mem_cons.mp hp with e | e
    · rw [e]; exact g.head
    · exact Gd.mem g.tail p e
theorem Gd.rest {p : Part} (g : Gd [p]) : Gd (restP p) := by
  have e : bdR [p] = bdP p := List.append_nil _
  refine ⟨rest_ok g.ok.1, fun x hx => g.sh x (by rw [e]; exact rest_bd hx), ?_⟩
  have h := g.nd
  rw [e, bdP_eq] at h
  exact (List.nodup_append.mp h).2.1
theorem Gd.out {w : Wd} {x : Str} {r : List Part} (g : Gd [.oth w x r]) (hw : w.binds = true) : x ∉ bdR r ∧ Sh 6 x := by
  have e : bdR [.oth w x r] = x :: bdR r := by
    show ((if w.binds then [x] else []) ++ bdR r) ++ [] = _
    rw [if_pos hw, List.append_nil]
    rfl
  have h := g.nd
  have s := g.sh
  rw [e] at h s
  exact ⟨(List.nodup_cons.mp h).1, s x List.mem_cons_self⟩
theorem Gd.called {x c : Str} {r : List Part} (g : Gd r) (hx : x ∉ bdR r) (hc : Sh 30 c) : Gd (calledR x c r) := by
  have e : bdR (calledR x c r) = bdR r := by rw [called_lcR r hx]; exact lc_bdR r hx
  refine ⟨calledR_ok x c hc r g.ok, ?_, ?_⟩
  · rw [e]; exact g.sh
  · rw [e]; exact g.nd
theorem frd_ok : ∀ (n k : Nat) (r : List Part), deepR r ≤ n → Gd r → k + sizeR r < 10 ^ 10 → FrOk k r (frdR n k r)
  | 0, k, r, hd, g, hk => by
    have e : r = [] := by
      cases r with
      | nil => rfl
      | cons p r =>
        have := deep_rest p
        have h2 : max (deepP p) (deepR r) ≤ 0 := hd
        omega
    subst e
    exact ⟨Nat.le_refl _, Nat.le_refl _, Nat.le_refl _, Nat.le_refl _, List.Sublist.refl _, trivial, trivial⟩
  | n + 1, k, r, hd, g, hk => by
    show FrOk k r (frdL (frdR n) k r)
    induction r generalizing k with
    | nil => exact ⟨Nat.le_refl _, Nat.le_refl _, Nat.le_refl _, Nat.le_refl _, List.Sublist.refl _, trivial, trivial⟩
    | cons p r ih =>
      have hd' : max (deepP p) (deepR r) ≤ n + 1 := hd
      have hk' : k + (sizeP p + sizeR r) < 10 ^ 10 := hk
      have g1 := g.head
      have d2 := deep_rest p
      have s2 := size_rest p
      have one : FrOk k [p] (frdP (frdR n) k p) := by
        cases p with
        | say m => exact ⟨Nat.le_refl _, Nat.le_add_right _ _, Nat.le_refl _, Nat.le_refl _, List.Sublist.refl _, g1.ok, trivial, trivial⟩
        | again q => exact ⟨Nat.le_refl _, Nat.le_add_right _ _, Nat.le_refl _, Nat.le_refl _, List.Sublist.refl _, g1.ok, trivial, trivial⟩
        | oth w m q =>
          have v1 : deepR (restP (Part.oth w m q)) = deepR q := rfl
          have v2 : sizeR (restP (Part.oth w m q)) = sizeR q := rfl
          have z1 : sizeR [Part.oth w m q] = sizeR q + 1 := rfl
          have z2 : deepR [Part.oth w m q] = deepR q + 1 := by show max (deepR q + 1) 0 = _; omega
          cases w with
          | room =>
            have f := frd_ok n k q (by omega) g1.rest (by omega)
            refine ⟨f.lo, by have := f.hi; show (frdR n k q).1 ≤ _; omega, ?_, ?_, ?_, ⟨⟨g1.ok.1.1, f.ok⟩, trivial⟩, ⟨⟨(fun e => by cases e), fun _ => f.nn⟩, trivial⟩⟩
            · have := f.deep
              show max (deepR (frdR n k q).2 + 1) 0 ≤ _
              omega
            · have := f.size
              show sizeR (frdR n k q).2 + 1 ≤ _
              omega
            · show (bdR [Part.oth .room m (frdR n k q).2]).Sublist (bdR [Part.oth .room m q])
              have e1 : ∀ t, bdR [Part.oth .room m t] = bdR t := fun t => by
                show ([] ++ bdR t) ++ [] = _
                rw [List.append_nil]; rfl
              rw [e1, e1]
              exact f.bd
          | new =>
            obtain ⟨hx, hs⟩ := g1.out rfl
            have eb : bdR (calledR m (priv m k) q) = bdR q := by rw [called_lcR q hx]; exact lc_bdR q hx
            have f := frd_ok n (k + 1) (calledR m (priv m k) q) (by rw [calledR_deep]; omega) (g1.rest.called hx (priv_sh hs (by omega))) (by rw [calledR_size]; omega)
            have fl := f.lo
            have fh := f.hi
            have fd := f.deep
            have fs := f.size
            rw [calledR_size] at fh fs
            rw [calledR_deep] at fd
            refine ⟨?_, ?_, ?_, ?_, ?_, f.ok, f.nn⟩
            · show k ≤ (frdR n (k + 1) (calledR m (priv m k) q)).1; omega
            · show (frdR n (k + 1) (calledR m (priv m k) q)).1 ≤ _; omega
            · show deepR (frdR n (k + 1) (calledR m (priv m k) q)).2 ≤ _; omega
            · show sizeR (frdR n (k + 1) (calledR m (priv m k) q)).2 ≤ _; omega
            · have b := f.bd
              rw [eb] at b
              show (bdR (frdR n (k + 1) (calledR m (priv m k) q)).2).Sublist ((m :: bdR q) ++ [])
              rw [List.append_nil]
              exact b.cons m
          | inn => exact ⟨Nat.le_refl _, Nat.le_add_right _ _, Nat.le_refl _, Nat.le_refl _, List.Sublist.refl _, g1.ok, ⟨(fun e => by cases e), (fun e => by cases e)⟩, trivial⟩
          | out => exact ⟨Nat.le_refl _, Nat.le_add_right _ _, Nat.le_refl _, Nat.le_refl _, List.Sublist.refl _, g1.ok, ⟨(fun e => by cases e), (fun e => by cases e)⟩, trivial⟩
          | opn => exact ⟨Nat.le_refl _, Nat.le_add_right _ _, Nat.le_refl _, Nat.le_refl _, List.Sublist.refl _, g1.ok, ⟨(fun e => by cases e), (fun e => by cases e)⟩, trivial⟩
          | hear => exact ⟨Nat.le_refl _, Nat.le_add_right _ _, Nat.le_refl _, Nat.le_refl _, List.Sublist.refl _, g1.ok, ⟨(fun e => by cases e), (fun e => by cases e)⟩, trivial⟩
      have o1 := one.lo
      have o2 := one.hi
      have o3 := one.deep
      have o4 := one.size
      have z1 : sizeR [p] = sizeP p := by show sizeP p + 0 = _; omega
      have z2 : deepR [p] = deepP p := by show max (deepP p) 0 = _; omega
      rw [z1] at o2 o4
      rw [z2] at o3
      have tl := ih (frdP (frdR n) k p).1 (by omega) g.tail (by omega)
      have t1 := tl.lo
      have t2 := tl.hi
      have t3 := tl.deep
      have t4 := tl.size
      refine ⟨?_, ?_, ?_, ?_, ?_, okR_app one.ok tl.ok, nnR_app one.nn tl.nn⟩
      · show k ≤ (frdL (frdR n) (frdP (frdR n) k p).1 r).1; omega
      · show (frdL (frdR n) (frdP (frdR n) k p).1 r).1 ≤ k + (sizeP p + sizeR r); omega
      · show deepR ((frdP (frdR n) k p).2 ++ (frdL (frdR n) (frdP (frdR n) k p).1 r).2) ≤ max (deepP p) (deepR r)
        rw [deepR_app]; omega
      · show sizeR ((frdP (frdR n) k p).2 ++ (frdL (frdR n) (frdP (frdR n) k p).1 r).2) ≤ sizeP p + sizeR r
        rw [sizeR_app]; omega
      · show (bdR ((frdP (frdR n) k p).2 ++ (frdL (frdR n) (frdP (frdR n) k p).1 r).2)).Sublist (bdP p ++ bdR r)
        rw [bdR_app]
        have b1 := one.bd
        rw [show bdR [p] = bdP p from List.append_nil _] at b1
        exact b1.append tl.bd
end Wk

set_option Elab.async false
set_option linter.all false
set_option maxRecDepth 100000
set_option maxHeartbeats 2000000
/-! xs.extend(a tuple). -/
namespace Wk
open PySem PySem.Spec PyProof.Rows L2 GxR
theorem ext_tup (l : Addr) (us : Array Value) (n : Nat) (b : Addr) (vs : Array Value) (m : Nat) (dd : Option Addr) (sl : Array (Option Value)) (h0 : ¬(!us.isEmpty && Builtin.List.listTooLong (us.size + vs.size)) = true) (h1 : us.size ≤ sizeLine) (h2 : us.size + vs.size ≤ sizeLine + 1) :
    Meets (Builtin.«list.extend» ⟨[.ref l, .ref b], []⟩) (fun _ R s => s.heap.get? l = some ⟨.type "list", none, .seq us n, #[]⟩ ∧ s.heap.get? b = some ⟨.type "tuple", dd, .seq vs m, sl⟩ ∧ R (.ok (.ret Value.none)) { s with heap := s.heap.update l (Obj.mapSeq fun x => x ++ vs), toks := s.toks }) := by
  refine .of_wp fun prog w A R s h => ?_
  obtain ⟨hp, g, d, tk, os⟩ := s
  obtain ⟨hl, hb, h⟩ := h
  have hz' : (us ++ vs).size ≤ sizeLine + 1 := by rw [Array.size_append]; exact h2
  wp_walk using (wpAny_updateSeq hl rfl (hz := h1) (_hz' := hz')), AutoSeq1.wpAny_loadPart' hl, AutoSeq1.wpAny_loadPart' hb
  exact ⟨_, rfl, h⟩
def rExtT (K : PySem.W.Frag) : V → List V → Hp → VK → Prop := fun x vs H Q => ∃ l b xs zs, x = .ref l ∧ vs = [.ref b] ∧ H l = some (.lst xs) ∧ SqT K H b zs ∧ xs.length + zs.length ≤ sizeLine ∧ Q .non (upd H l (.lst (xs ++ zs)))
theorem mt_extT {X : Cx} : MtM X "list.extend" (rExtT X.K) := by
  intro pins s σ H x vs v us Q I rx rv h
  obtain ⟨l, b, xs, zs, rfl, rfl, hH, hB, hz, q⟩ := h
  cases rx
  obtain ⟨u, rfl, ru⟩ := rv.one
  cases ru
  obtain ⟨z, its, n, r, hl, e⟩ := I.lstM hH
  obtain ⟨its2, r2, ⟨⟨cls, dd, data, sl⟩, e2, hc, m, hd⟩, z2⟩ := I.tuple hB
  simp only at hc hd
  subst hc hd
  have hl2 := r2.length
  have hsz : its.toArray.size + its2.toArray.size ≤ sizeLine := by rw [List.size_toArray, List.size_toArray]; omega
  have hlong : ¬ (!its.toArray.isEmpty && Builtin.List.listTooLong (its.toArray.size + its2.toArray.size)) = true := by
    rw [notLongL hsz]
    simp
  refine call_meets F.slot_list_extend ⟨_, e, rfl⟩ F.entry_list_extend (F.args_list_extend_2 _ _) (ext_tup l its.toArray n b its2.toArray m dd sl hlong (by rw [List.size_toArray]; omega) (by omega)) ⟨e, e2, ?_⟩
  refine ⟨.non, _, I.lset (its' := its ++ its2) hH e (by simp) (r.append r2) (by rw [List.length_append]; omega), rfl, q⟩
end Wk
namespace Wk
open PySem PySem.Spec PyProof.Rows L2 GxR
/-- the told tuple: next, and the row -/
def ToldAt (H : Hp) (o : Nat × List Part) (v : V) : Prop := ∃ (t : Addr) (u : V), v = .ref t ∧ H t = some (.tup [.int o.1, u]) ∧ RowAt H o.2 u
theorem ToldAt.mono {H H' : Hp} {o : Nat × List Part} {v : V} (s : STup H H') (h : ToldAt H o v) : ToldAt H' o v := by
  obtain ⟨t, u, rfl, h1, h2⟩ := h
  exact ⟨t, u, rfl, s _ _ h1, h2.mono s⟩
def spFreed (n : Nat) : Sp := fun vs H Q _ => ∃ (k : Nat) (v : V) (r : List Part), vs = [.int k, v] ∧ RowAt H r v ∧ deepR r < n ∧ sizeR r ≤ 1000 ∧ Gd r ∧ k + sizeR r < 10 ^ 9 ∧
  ∀ (H' : Hp) (u : V), Same H H' → ToldAt H' (frdR n k r) u → Q u H'
def spPFreed (n : Nat) : Sp := fun vs H Q _ => ∃ (k : Nat) (v : V) (p : Part), vs = [.int k, v] ∧ PartAt H p v ∧ deepP p ≤ n ∧ sizeP p ≤ 1000 ∧ Gd [p] ∧ k + sizeP p < 10 ^ 9 ∧
  ∀ (H' : Hp) (u : V), Same H H' → ToldAt H' (frdP (frdR n) k p) u → Q u H'
def spSettled (Ts : List Addr) (n : Nat) : Sp := fun vs H Q _ => ∃ (v : V) (r : List Part), vs = [v] ∧ RowAt H r v ∧ HouseR r ∧ deepR r < n ∧ Gd r ∧ TabsG Ts H ∧
  ∀ (H' : Hp) (u : V), SamTs Ts H H' → ToldAt H' (frdR n 1 r) u → Q u H'
theorem num_log {k : Nat} (h : k < 10 ^ 9) : (k : Int).natAbs.log2 < 1920 := by
  refine Nat.lt_of_lt_of_le (PySem.Flt.log2_lt_of (k := 30) (by decide) ?_) (by decide)
  show (k : Int).natAbs < 1073741824
  omega
theorem frd_lens {n k : Nat} {r : List Part} (hd : deepR r ≤ n) (g : Gd r) (hk : k + sizeR r < 10 ^ 9) (hs : sizeR r ≤ 1000) : (frdR n k r).2.length ≤ 1000 := by
  have := (frd_ok n k r hd g (by omega)).size
  have := len_sizeR (frdR n k r).2
  omega
theorem Gd.take : ∀ {r : List Part} (i : Nat), Gd r → Gd (r.take i)
  | r, i, g => by
    have e : r = r.take i ++ r.drop i := (List.take_append_drop i r).symm
    have eb : bdR r = bdR (r.take i) ++ bdR (r.drop i) := by rw [← bdR_app, ← e]
    have nd := g.nd
    rw [eb] at nd
    refine ⟨?_, fun x hx => g.sh x (by rw [eb]; exact List.mem_append_left _ hx), (List.nodup_append.mp nd).1⟩
    have ok := g.ok
    have un : ∀ {a b : List Part}, okR (Sh 30) (a ++ b) → okR (Sh 30) a := by
      intro a
      induction a with
      | nil => intro b _; exact trivial
      | cons p a ih => intro b h; exact ⟨h.1, ih h.2⟩
    rw [e] at ok
    exact un ok
theorem deepR_take (r : List Part) (i : Nat) : deepR (r.take i) ≤ deepR r := by
  have e := deepR_app (r.take i) (r.drop i)
  rw [List.take_append_drop] at e
  omega
end Wk

set_option Elab.async false
set_option linter.all false
set_option maxRecDepth 100000
set_option maxHeartbeats 2000000
/-! Drawn rows are houses; rests that are open. -/
namespace Wk
open PySem PySem.Spec PyProof.Rows L2 GxR
mutual
theorem fr_scP {ss : List Str} : ∀ (p : Part) (S S' : List Str), scP S' p → (∀ x ∈ S', x ∈ S ∨ x ∈ ss) → ∀ x ∈ frP S p, x ∈ ss
  | .say n, S, S', h, i, x, hx => by
    unfold frP at hx
    by_cases c : n ∈ S
    · rw [if_pos c] at hx; cases hx
    · rw [if_neg c] at hx
      rw [List.mem_singleton.mp hx]
      rcases i n h with g | g
      · exact absurd g c
      · exact g
  | .again r, S, S', h, i, x, hx => fr_scR r S S' h i x hx
  | .oth w n r, S, S', h, i, x, hx => by
    unfold frP at hx
    unfold scP at h
    by_cases b : w.binds = true
    · rw [if_pos b] at hx h
      refine fr_scR r (S ++ [n]) (n :: S') h (fun y hy => ?_) x hx
      rcases List.mem_cons.mp hy with e | e
      · exact .inl (List.mem_append_right _ (by rw [e]; exact List.mem_singleton.mpr rfl))
      · rcases i y e with g | g
        · exact .inl (List.mem_append_left _ g)
        · exact .inr g
    · rw [if_neg b] at hx h
      rcases List.mem_append.mp hx with g | g
      · by_cases c : n ∈ S
        · rw [if_pos c] at g; cases g
        · rw [if_neg c] at g
          rw [List.mem_singleton.mp g]
          rcases i n h.1 with k | k
          · exact absurd k c
          · exact k
      · exact fr_scR r S S' h.2 i x g
theorem fr_scR {ss : List Str} : ∀ (r : List Part) (S S' : List Str), scR S' r → (∀ x ∈ S', x ∈ S ∨ x ∈ ss) → ∀ x ∈ frR S r, x ∈ ss
  | [], S, S', _, _, x, hx => nomatch hx
  | p :: r, S, S', h, i, x, hx => by
    rcases List.mem_append.mp (show x ∈ frP S p ++ frR S r from hx) with g | g
    · exact fr_scP p S S' h.1 i x g
    · exact fr_scR r S S' h.2 i x g
end
theorem names_nd {zs : List Str} {s : Nat} (hn : ∀ i z, zs[i]? = some z → NameOf ((s + 5 * i) % 26) z) (hl : zs.length ≤ 26) : zs.Nodup := by
  rw [List.nodup_iff_pairwise_ne, List.pairwise_iff_getElem]
  intro i j hi hj hij e
  have h1 : zs[i]? = some zs[i] := List.getElem?_eq_getElem hi
  have h2 : zs[j]? = some zs[i] := by rw [List.getElem?_eq_getElem hj, e]
  have := apart hn h1 h2 (by omega) (by omega)
  omega
theorem drawn_house {zs sp' : List Str} {s m : Nat} {r : List Part} (hn : ∀ i z, zs[i]? = some z → NameOf ((s + 5 * i) % 26) z) (hl : zs.length ≤ 26) (hm : m ≤ 4) (hsz : sizeR r ≤ 400)
    (hG : GR m (most m) (zs.take 5) (zs.drop 5) sp' r) : HouseR r ∧ Gd r := by
  have nd := names_nd hn hl
  have e5 : zs = zs.take 5 ++ zs.drop 5 := (List.take_append_drop 5 zs).symm
  have nd2 := nd
  rw [e5] at nd2
  obtain ⟨na, nb, nc⟩ := List.nodup_append.mp nd2
  have hin : okR (fun n => n ∈ zs) r := okR.imp (fun n h => by
    rcases h with g | g
    · exact List.mem_of_mem_take g
    · exact List.mem_of_mem_drop g) r hG.ok
  have nm : ∀ n ∈ zs, ∃ j, j < 26 ∧ NameOf j n := fun n h => by
    obtain ⟨i, hi⟩ := List.getElem?_of_mem h
    exact ⟨_, Nat.mod_lt _ (by decide), hn i n hi⟩
  have bdin : ∀ x ∈ bdR r, x ∈ zs.drop 5 := fun x hx => by
    rw [hG.bd]
    exact List.mem_append_right _ (List.mem_reverse.mpr hx)
  have bnd : (bdR r).Nodup := by
    have h := nb
    rw [hG.bd] at h
    exact (List.reverse_perm (bdR r)).nodup_iff.mp (List.nodup_append.mp h).2.1
  have dp := hG.deep
  refine ⟨⟨okR.imp (fun n h => ?_) r hin, hsz, by omega, bnd, fun x hx hf => ?_⟩, ⟨okR.imp (fun n h => ?_) r hin, fun x hx => ?_, bnd⟩⟩
  · obtain ⟨j, hj, h⟩ := nm n h
    exact ⟨name_ok h hj, by have := (name_len h).1; omega⟩
  · have h1 := fr_scR r [] (zs.take 5) hG.sc (fun y hy => .inr hy) x hf
    exact nc x h1 x (bdin x hx) rfl
  · obtain ⟨j, hj, h⟩ := nm n h
    exact (h.sh hj).mono (by decide)
  · obtain ⟨j, hj, h⟩ := nm x (List.mem_of_mem_drop (bdin x hx))
    exact h.sh hj
/-! ### rests of what is open -/
mutual
def rsP (c : Str) : Part → List (List Part)
  | .say _ => []
  | .again r => [r]
  | .oth w x r => match w with
    | .room => rsR c r
    | .hear => [lcR x c r]
    | _ => [r]
def rsR (c : Str) : List Part → List (List Part)
  | [] => []
  | p :: r => rsP c p ++ rsR c r
end
theorem rsR_app (c : Str) : ∀ r q : List Part, rsR c (r ++ q) = rsR c r ++ rsR c q
  | [], q => rfl
  | p :: r, q => by
    show rsP c p ++ rsR c (r ++ q) = (rsP c p ++ rsR c r) ++ rsR c q
    rw [rsR_app c r q, List.append_assoc]
mutual
theorem rsP_len (c : Str) : ∀ p : Part, (rsP c p).length ≤ sizeP p
  | .say _ => Nat.zero_le _
  | .again r => by show 1 ≤ sizeR r + 1; omega
  | .oth w x r => by
    have h := rsR_len c r
    cases w with
    | room => show (rsR c r).length ≤ sizeR r + 1; omega
    | _ => show 1 ≤ sizeR r + 1; omega
theorem rsR_len (c : Str) : ∀ r : List Part, (rsR c r).length ≤ sizeR r
  | [] => Nat.le_refl _
  | p :: r => by
    have h1 := rsP_len c p
    have h2 := rsR_len c r
    show (rsP c p ++ rsR c r).length ≤ sizeP p + sizeR r
    rw [List.length_append]
    omega
end
structure RsOk (d s : Nat) (q : List Part) : Prop where
  gd : Gd q
  deep : deepR q ≤ d
  size : sizeR q ≤ s
theorem lcR_deepsize {x c : Str} {r : List Part} (h : x ∉ bdR r) : deepR (lcR x c r) = deepR r ∧ sizeR (lcR x c r) = sizeR r := by
  rw [← called_lcR r h]
  exact ⟨calledR_deep x c r, calledR_size x c r⟩
mutual
theorem rsP_ok {c : Str} (hc : Sh 30 c) : ∀ p : Part, Gd [p] → ∀ q ∈ rsP c p, RsOk (deepP p) (sizeP p) q
  | .say _, g, q, hq => nomatch hq
  | .again r, g, q, hq => by
    rw [List.mem_singleton.mp hq]
    exact ⟨g.rest, Nat.le_succ _, Nat.le_succ _⟩
  | .oth w x r, g, q, hq => by
    cases w with
    | room =>
      have h := rsR_ok hc r g.rest q hq
      exact ⟨h.gd, Nat.le_trans h.deep (Nat.le_succ _), Nat.le_trans h.size (Nat.le_succ _)⟩
    | hear =>
      rw [List.mem_singleton.mp (show q ∈ [lcR x c r] from hq)]
      obtain ⟨hx, _⟩ := g.out rfl
      obtain ⟨e1, e2⟩ := lcR_deepsize (c := c) hx
      refine ⟨?_, by rw [e1]; exact Nat.le_succ _, by rw [e2]; exact Nat.le_succ _⟩
      rw [← called_lcR r hx]
      exact g.rest.called hx hc
    | inn =>
      rw [List.mem_singleton.mp (show q ∈ [r] from hq)]
      exact ⟨g.rest, Nat.le_succ _, Nat.le_succ _⟩
    | out =>
      rw [List.mem_singleton.mp (show q ∈ [r] from hq)]
      exact ⟨g.rest, Nat.le_succ _, Nat.le_succ _⟩
    | opn =>
      rw [List.mem_singleton.mp (show q ∈ [r] from hq)]
      exact ⟨g.rest, Nat.le_succ _, Nat.le_succ _⟩
    | new =>
      rw [List.mem_singleton.mp (show q ∈ [r] from hq)]
      exact ⟨g.rest, Nat.le_succ _, Nat.le_succ _⟩
theorem rsR_ok {c : Str} (hc : Sh 30 c) : ∀ r : List Part, Gd r → ∀ q ∈ rsR c r, RsOk (deepR r) (sizeR r) q
  | [], g, q, hq => nomatch hq
  | p :: r, g, q, hq => by
    rcases List.mem_append.mp (show q ∈ rsP c p ++ rsR c r from hq) with h | h
    · have k := rsP_ok hc p g.head q h
      have k1 := k.deep
      have k2 := k.size
      exact ⟨k.gd, (by show deepR q ≤ max (deepP p) (deepR r); omega), (by show sizeR q ≤ sizeP p + sizeR r; omega)⟩
    · have k := rsR_ok hc r g.tail q h
      have k1 := k.deep
      have k2 := k.size
      exact ⟨k.gd, (by show deepR q ≤ max (deepP p) (deepR r); omega), (by show sizeR q ≤ sizeP p + sizeR r; omega)⟩
end
def spRests (n : Nat) : Sp := fun vs H Q _ => ∃ (v : V) (c : Str) (r : List Part), vs = [v, .str c] ∧ RowAt H r v ∧ deepR r < n ∧ sizeR r ≤ 1000 ∧
  ∀ (H' : Hp) (p : Addr) (us : List V), Same H H' → H p = none → H' p = some (.lst us) → LvAt H' (rsR c r) us → Q (.ref p) H'
/-! ### told tuples compared -/
theorem told_shaped {k : Int} {r : List Part} (h : okR (Sh 30) r) (hd : deepR r ≤ 30) : SeqAt.shaped (.tuple [.int k, .tuple (dR r)]) = true := by
  unfold SeqAt.shaped
  have h1 := depR r
  have h2 := layR (f := Sh 30) (fun n h => h.ok) r h
  simp only [PyData.canLay0, PyData.canLayAll0, h2, PyData.depth, PyData.depthAll, Bool.true_and, Bool.and_self]
  exact decide_eq_true (by omega)
theorem told_eqv {k : Int} {r : List Part} (h : okR (Sh 30) r) : PyData.eqv (.tuple [.int k, .tuple (dR r)]) (.tuple [.int k, .tuple (dR r)]) = true :=
  SeqAt.eqv_refl _ (by
    have h2 := layR (f := Sh 30) (fun n h => h.ok) r h
    simp only [PyData.canLay0, PyData.canLayAll0, h2, Bool.and_self])
theorem ToldAt.dp {K : PySem.W.Frag} {H : Hp} {o : Nat × List Part} {v : V} (h : ToldAt H o v) : Dp K H v (.tuple [.int o.1, .tuple (dR o.2)]) := by
  obtain ⟨t, u, rfl, h1, h2⟩ := h
  exact .tup (SqT.of h1) (.cons (.int _) (.cons h2.dp .nil))
end Wk

set_option Elab.async false
set_option linter.all false
set_option maxRecDepth 100000
set_option maxHeartbeats 4000000
/-! Things of any kind, and which of them are small rows. -/
namespace Wk
open PySem PySem.Spec PyProof.Rows L2 GxR
inductive Th where
  | str (z : Str)
  | non
  | int (i : Int)
  | bl (b : Bool)
  | lst (xs : List Th)
  | tup (xs : List Th)
  | dct
mutual
def ThAt (H : Hp) : Th → V → Prop
  | .str z, v => v = .str z
  | .non, v => v = .non
  | .int i, v => v = .int i
  | .bl b, v => v = .bl b
  | .lst xs, v => ∃ a vs, v = .ref a ∧ H a = some (.lst vs) ∧ ThsAt H xs vs
  | .tup xs, v => ∃ a vs, v = .ref a ∧ H a = some (.tup vs) ∧ ThsAt H xs vs
  | .dct, v => ∃ a, v = .ref a ∧ H a = some (.dK [])
def ThsAt (H : Hp) : List Th → List V → Prop
  | [], vs => vs = []
  | t :: ts, vs => ∃ v us, vs = v :: us ∧ ThAt H t v ∧ ThsAt H ts us
end
/-- all but tables stays -/
def Kpt (H H' : Hp) : Prop := ∀ a o, (∀ ps, o ≠ HO.tbl ps) → H a = some o → H' a = some o
theorem Kpt.refl (H : Hp) : Kpt H H := fun _ _ _ e => e
theorem Kpt.trans {H H1 H2 : Hp} (a : Kpt H H1) (b : Kpt H1 H2) : Kpt H H2 := fun c o n e => b c o n (a c o n e)
theorem Kpt.of {Ts : List Addr} {H H' : Hp} (t : TabsG Ts H) (s : SamTs Ts H H') : Kpt H H' := fun a o n e => s.1 a o (fun m => by
  obtain ⟨ps, q, _⟩ := t a m
  rw [q] at e
  exact n ps (Option.some.inj e).symm) e
theorem Kpt.same {H H' : Hp} (s : Same H H') : Kpt H H' := fun a o _ e => s a o e
mutual
theorem ThAt.mono {H H' : Hp} (s : Kpt H H') : ∀ (t : Th) (v : V), ThAt H t v → ThAt H' t v
  | .str z, v, h => h
  | .non, v, h => h
  | .int i, v, h => h
  | .bl b, v, h => h
  | .lst xs, v, h => by
    obtain ⟨a, vs, e, h1, h2⟩ := h
    exact ⟨a, vs, e, s _ _ (fun _ z => by cases z) h1, ThsAt.mono s xs vs h2⟩
  | .tup xs, v, h => by
    obtain ⟨a, vs, e, h1, h2⟩ := h
    exact ⟨a, vs, e, s _ _ (fun _ z => by cases z) h1, ThsAt.mono s xs vs h2⟩
  | .dct, v, h => by
    obtain ⟨a, e, h1⟩ := h
    exact ⟨a, e, s _ _ (fun _ z => by cases z) h1⟩
theorem ThsAt.mono {H H' : Hp} (s : Kpt H H') : ∀ (ts : List Th) (vs : List V), ThsAt H ts vs → ThsAt H' ts vs
  | [], vs, h => h
  | t :: ts, vs, h => by
    obtain ⟨v, us, e, h1, h2⟩ := h
    exact ⟨v, us, e, ThAt.mono s t v h1, ThsAt.mono s ts us h2⟩
end
theorem ThsAt.len {H : Hp} : ∀ {ts : List Th} {vs : List V}, ThsAt H ts vs → vs.length = ts.length
  | [], vs, h => by rw [show vs = [] from h]; rfl
  | t :: ts, vs, h => by
    obtain ⟨v, us, e, _, h2⟩ := h
    rw [e, List.length_cons, List.length_cons, ThsAt.len h2]
theorem ThsAt.get {H : Hp} : ∀ {ts : List Th} {vs : List V}, ThsAt H ts vs → ∀ {i : Nat} {v : V}, vs[i]? = some v → ∃ t, ts[i]? = some t ∧ ThAt H t v
  | [], vs, h, i, v, e => by rw [show vs = [] from h] at e; simp at e
  | t :: ts, vs, h, 0, v, e => by
    obtain ⟨u, us, rfl, h1, _⟩ := h
    exact ⟨t, rfl, by rw [← Option.some.inj (show some u = some v from e)]; exact h1⟩
  | t :: ts, vs, h, i + 1, v, e => by
    obtain ⟨u, us, rfl, _, h2⟩ := h
    exact ThsAt.get h2 (i := i) (v := v) e
theorem ThsAt.app {H : Hp} {qs : List Th} {us : List V} (g : ThsAt H qs us) : ∀ {ts : List Th} {vs : List V}, ThsAt H ts vs → ThsAt H (ts ++ qs) (vs ++ us)
  | [], vs, h => by rw [show vs = [] from h]; exact g
  | t :: ts, vs, h => by
    obtain ⟨v, ws, rfl, h1, h2⟩ := h
    exact ⟨v, ws ++ us, rfl, h1, ThsAt.app g h2⟩
theorem ThsAt.one {H : Hp} {t : Th} {v : V} (h : ThAt H t v) : ThsAt H [t] [v] := ⟨v, [], rfl, h, rfl⟩
/-! ### rows as things -/
mutual
def thP : Part → Th
  | .say n => .tup [.str "say", .str n]
  | .again r => .tup [.str "again", .tup (thR r)]
  | .oth w n r => .tup [.str w.str, .str n, .tup (thR r)]
def thR : List Part → List Th
  | [] => []
  | p :: r => thP p :: thR r
end
def thRow (r : List Part) : Th := .tup (thR r)
theorem thR_map : ∀ r : List Part, thR r = r.map thP
  | [] => rfl
  | p :: r => by
    show thP p :: thR r = thP p :: r.map thP
    rw [thR_map r]
mutual
theorem thP_at {H : Hp} : ∀ (p : Part) (v : V), ThAt H (thP p) v → PartAt H p v
  | .say n, v, h => by
    obtain ⟨a, vs, e, h1, u1, w1, e1, h2, u2, w2, e2, h3, h4⟩ := h
    have z1 : u1 = .str "say" := h2
    have z2 : u2 = .str n := h3
    have z3 : w2 = [] := h4
    subst z1 z2 z3 e2 e1
    exact ⟨a, e, h1⟩
  | .again r, v, h => by
    obtain ⟨a, vs, e, h1, u1, w1, e1, h2, u2, w2, e2, ⟨b, xs, eb, hb, hx⟩, h4⟩ := h
    have z1 : u1 = .str "again" := h2
    have z3 : w2 = [] := h4
    subst z1 z3 eb e2 e1
    exact ⟨a, b, xs, e, h1, hb, thR_at r xs hx⟩
  | .oth w n r, v, h => by
    obtain ⟨a, vs, e, h1, u1, w1, e1, h2, u2, w2, e2, h3, u3, w3, e3, ⟨b, xs, eb, hb, hx⟩, h4⟩ := h
    have z1 : u1 = .str w.str := h2
    have z2 : u2 = .str n := h3
    have z3 : w3 = [] := h4
    subst z1 z2 z3 eb e3 e2 e1
    exact ⟨a, b, xs, e, h1, hb, thR_at r xs hx⟩
theorem thR_at {H : Hp} : ∀ (r : List Part) (vs : List V), ThsAt H (thR r) vs → PartsAt H r vs
  | [], vs, h => h
  | p :: r, vs, h => by
    obtain ⟨v, us, e, h1, h2⟩ := h
    exact ⟨v, us, e, thP_at p v h1, thR_at r us h2⟩
end
theorem thRow_at {H : Hp} {r : List Part} {v : V} (h : ThAt H (thRow r) v) : RowAt H r v := by
  obtain ⟨a, vs, e, h1, h2⟩ := h
  exact ⟨a, vs, e, h1, thR_at r vs h2⟩
mutual
theorem at_thP {H : Hp} : ∀ (p : Part) (v : V), PartAt H p v → ThAt H (thP p) v
  | .say n, v, h => by
    obtain ⟨a, e, h1⟩ := h
    exact ⟨a, _, e, h1, _, _, rfl, rfl, _, _, rfl, rfl, rfl⟩
  | .again r, v, h => by
    obtain ⟨a, b, xs, e, h1, h2, h3⟩ := h
    exact ⟨a, _, e, h1, _, _, rfl, rfl, _, _, rfl, ⟨b, xs, rfl, h2, at_thR r xs h3⟩, rfl⟩
  | .oth w n r, v, h => by
    obtain ⟨a, b, xs, e, h1, h2, h3⟩ := h
    exact ⟨a, _, e, h1, _, _, rfl, rfl, _, _, rfl, rfl, _, _, rfl, ⟨b, xs, rfl, h2, at_thR r xs h3⟩, rfl⟩
theorem at_thR {H : Hp} : ∀ (r : List Part) (vs : List V), PartsAt H r vs → ThsAt H (thR r) vs
  | [], vs, h => h
  | p :: r, vs, h => by
    obtain ⟨v, us, e, h1, h2⟩ := h
    exact ⟨v, us, e, at_thP p v h1, at_thR r us h2⟩
end
theorem at_thRow {H : Hp} {r : List Part} {v : V} (h : RowAt H r v) : ThAt H (thRow r) v := by
  obtain ⟨a, vs, e, h1, h2⟩ := h
  exact ⟨a, vs, e, h1, at_thR r vs h2⟩
/-! ### forms -/
def szOf (z : Str) : Option Nat :=
  if z = "room" then some 3 else if z = "in" then some 3 else if z = "out" then some 3 else if z = "open" then some 3 else if z = "say" then some 2 else if z = "hear" then some 3 else if z = "new" then some 3 else if z = "again" then some 2 else none
def isTup : Th → Bool
  | .tup _ => true
  | _ => false
def itemsT : Th → List Th
  | .tup xs => xs
  | _ => []
def formB : Th → Bool
  | .tup (.str z :: r) => decide (szOf z = some (r.length + 1))
  | _ => false
def nmT : Th → Bool
  | .str z => nameB z
  | _ => false
def npB : Th → Bool
  | .tup (.str z :: x :: r) => decide (szOf z = some (r.length + 2)) && (decide (z = "again") || nmT x)
  | _ => false
def restT : Th → Th
  | .tup (.str z :: r) => if z = "say" then .tup [] else (r.getLast?).getD .non
  | _ => .non
theorem sz_cases {z : Str} {n : Nat} (h : szOf z = some n) : (z = "say" ∧ n = 2) ∨ (z = "again" ∧ n = 2) ∨ ∃ w : Wd, z = w.str ∧ n = 3 := by
  unfold szOf at h
  by_cases c1 : z = "room"
  · rw [if_pos c1] at h; exact .inr (.inr ⟨.room, c1, (Option.some.inj h).symm⟩)
  rw [if_neg c1] at h
  by_cases c2 : z = "in"
  · rw [if_pos c2] at h; exact .inr (.inr ⟨.inn, c2, (Option.some.inj h).symm⟩)
  rw [if_neg c2] at h
  by_cases c3 : z = "out"
  · rw [if_pos c3] at h; exact .inr (.inr ⟨.out, c3, (Option.some.inj h).symm⟩)
  rw [if_neg c3] at h
  by_cases c4 : z = "open"
  · rw [if_pos c4] at h; exact .inr (.inr ⟨.opn, c4, (Option.some.inj h).symm⟩)
  rw [if_neg c4] at h
  by_cases c5 : z = "say"
  · rw [if_pos c5] at h; exact .inl ⟨c5, (Option.some.inj h).symm⟩
  rw [if_neg c5] at h
  by_cases c6 : z = "hear"
  · rw [if_pos c6] at h; exact .inr (.inr ⟨.hear, c6, (Option.some.inj h).symm⟩)
  rw [if_neg c6] at h
  by_cases c7 : z = "new"
  · rw [if_pos c7] at h; exact .inr (.inr ⟨.new, c7, (Option.some.inj h).symm⟩)
  rw [if_neg c7] at h
  by_cases c8 : z = "again"
  · rw [if_pos c8] at h; exact .inr (.inl ⟨c8, (Option.some.inj h).symm⟩)
  rw [if_neg c8] at h
  cases h
theorem wd_ne_again (w : Wd) : w.str ≠ "again" := by cases w <;> decide +kernel
theorem wd_ne_say (w : Wd) : w.str ≠ "say" := by cases w <;> decide +kernel
/-- a thing that is a part but for its rest -/
theorem np_cases {t : Th} (h : npB t = true) : (∃ n, t = .tup [.str "say", .str n] ∧ nameB n = true) ∨ (∃ x, t = .tup [.str "again", x]) ∨ ∃ (w : Wd) (n : Str) (x : Th), t = .tup [.str w.str, .str n, x] ∧ nameB n = true := by
  match t, h with
  | .tup (.str z :: x :: r), h =>
    obtain ⟨h1, h2⟩ := Bool.and_eq_true_iff.mp (show (decide (szOf z = some (r.length + 2)) && (decide (z = "again") || nmT x)) = true from h)
    have h1 := of_decide_eq_true h1
    have nm : z ≠ "again" → ∃ n, x = .str n ∧ nameB n = true := fun ne => by
      rw [decide_eq_false ne, Bool.false_or] at h2
      cases x with
      | str n => exact ⟨n, rfl, h2⟩
      | _ => cases h2
    rcases sz_cases h1 with ⟨e, l⟩ | ⟨e, l⟩ | ⟨w, e, l⟩
    · have lr : r = [] := List.length_eq_zero_iff.mp (by omega)
      obtain ⟨n, e2, hn⟩ := nm (by rw [e]; decide +kernel)
      subst e lr e2
      exact .inl ⟨n, rfl, hn⟩
    · have lr : r = [] := List.length_eq_zero_iff.mp (by omega)
      subst e lr
      exact .inr (.inl ⟨x, rfl⟩)
    · obtain ⟨y, rfl⟩ := List.length_eq_one_iff.mp (show r.length = 1 by omega)
      obtain ⟨n, e2, hn⟩ := nm (by rw [e]; exact wd_ne_again w)
      subst e e2
      exact .inr (.inr ⟨w, n, y, rfl, hn⟩)
theorem np_part {p : Part} (h : okP NmOk p) : npB (thP p) = true := by
  cases p with
  | say n =>
    have h1 : nameB n = true := h.1
    show (decide (szOf "say" = some 2) && (decide (("say" : Str) = "again") || nameB n)) = true
    rw [h1]
    decide +kernel
  | again r =>
    show (decide (szOf "again" = some 2) && (decide (("again" : Str) = "again") || nmT (Th.tup (thR r)))) = true
    rw [decide_eq_true (rfl : ("again" : Str) = "again"), Bool.true_or]
    decide +kernel
  | oth w n r =>
    have h1 : nameB n = true := h.1.1
    show (decide (szOf w.str = some 3) && (decide (w.str = "again") || nameB n)) = true
    rw [h1, Bool.or_true, Bool.and_true]
    cases w <;> decide +kernel
theorem rest_part (p : Part) : restT (thP p) = thRow (restP p) := by
  cases p with
  | say n => rfl
  | again r =>
    show (if ("again" : Str) = "say" then Th.tup [] else _) = _
    rw [if_neg (by decide +kernel)]
    rfl
  | oth w n r =>
    show (if w.str = "say" then Th.tup [] else _) = _
    rw [if_neg (wd_ne_say w)]
    rfl
/-! ### small rows -/
def smallT : Nat → Nat → List Th → Bool
  | 0, _, _ => false
  | n + 1, m, ts => if ts.all isTup = true then (if m + (ts.map itemsT).flatten.length ≤ 400 then (if (ts.map itemsT).flatten = [] then true else if (ts.map itemsT).flatten.all npB = true then smallT n (m + (ts.map itemsT).flatten.length) ((ts.map itemsT).flatten.map restT) else false) else false) else false
theorem flat_rows (ls : List (List Part)) : ((ls.map thRow).map itemsT).flatten = (flL ls).map thP := by
  induction ls with
  | nil => rfl
  | cons r ls ih =>
    show itemsT (thRow r) ++ ((ls.map thRow).map itemsT).flatten = (r ++ flL ls).map thP
    rw [ih, List.map_append]
    show thR r ++ _ = _
    rw [thR_map]
theorem all_tup (ls : List (List Part)) : (ls.map thRow).all isTup = true := by
  rw [List.all_map]
  exact List.all_eq_true.mpr fun _ _ => rfl
theorem rests_rows (ls : List (List Part)) : ((flL ls).map thP).map restT = (nxL ls).map thRow := by
  unfold nxL
  rw [List.map_map, List.map_map]
  exact List.map_congr_left fun p _ => rest_part p
/-- rows of parts are small where they are not too large -/
theorem small_of : ∀ (n m : Nat) (ls : List (List Part)), okLs NmOk ls → m + sizeL ls ≤ 400 → deepL ls < n → smallT n m (ls.map thRow) = true
  | 0, m, ls, _, _, h => absurd h (Nat.not_lt_zero _)
  | n + 1, m, ls, hok, hs, hd => by
    have sz := sizeL_rests ls
    have dl := deepL_rests ls
    unfold smallT
    rw [if_pos (all_tup ls), flat_rows, List.length_map, if_pos (by omega)]
    by_cases e : (flL ls).map thP = []
    · rw [if_pos e]
    · rw [if_neg e]
      have e2 : flL ls ≠ [] := fun z => e (by rw [z]; rfl)
      have dp := deepL_pos ls e2
      rw [if_pos (by
        rw [List.all_map]
        exact List.all_eq_true.mpr fun p hp => np_part (hok.parts p hp)), rests_rows]
      exact small_of n _ (nxL ls) hok.next (by omega) (by omega)
theorem tups_of : ∀ ts : List Th, ts.all isTup = true → ∃ xs : List (List Th), ts = xs.map Th.tup
  | [], _ => ⟨[], rfl⟩
  | t :: ts, h => by
    obtain ⟨h1, h2⟩ := Bool.and_eq_true_iff.mp (show (isTup t && ts.all isTup) = true from h)
    obtain ⟨xs, e⟩ := tups_of ts h2
    cases t with
    | tup ys => exact ⟨ys :: xs, by rw [e]; rfl⟩
    | _ => cases h1
/-- parts whose rests are rows -/
theorem parts_of : ∀ (ts : List Th) (ls : List (List Part)), ts.all npB = true → (∀ t ∈ ts, ∀ (z : Str) (r : List Th), t = Th.tup r → Th.str z ∈ r → z.length ≤ 1000) → ts.map restT = ls.map thRow → (∀ r ∈ ls, okR NmOk r) → ∃ ps : List Part, ts = ps.map thP ∧ ps.map restP = ls ∧ ∀ p ∈ ps, okP NmOk p
  | [], ls, _, _, e, _ => ⟨[], rfl, (by
      cases ls with
      | nil => rfl
      | cons a l => cases e), fun _ h => nomatch h⟩
  | t :: ts, [], _, _, e, _ => by cases e
  | t :: ts, l :: ls, h, hz, e, hok => by
    obtain ⟨h1, h2⟩ := Bool.and_eq_true_iff.mp (show (npB t && ts.all npB) = true from h)
    have e' : restT t :: ts.map restT = thRow l :: ls.map thRow := e
    obtain ⟨e1, e2⟩ := List.cons.inj e'
    obtain ⟨ps, p1, p2, p3⟩ := parts_of ts ls h2 (fun t ht => hz t (List.mem_cons_of_mem _ ht)) e2 (fun r hr => hok r (List.mem_cons_of_mem _ hr))
    have okl := hok l List.mem_cons_self
    obtain ⟨p, q1, q2, q3⟩ : ∃ p : Part, t = thP p ∧ restP p = l ∧ okP NmOk p := by
      rcases np_cases h1 with ⟨n, rfl, hn⟩ | ⟨y, rfl⟩ | ⟨w, n, y, rfl, hn⟩
      · have el : l = [] := by
          have q : Th.tup [] = thRow l := e1
          cases l with
          | nil => rfl
          | cons a b => cases (Th.tup.inj q)
        exact ⟨.say n, rfl, el.symm, hn, hz _ List.mem_cons_self n _ rfl (List.mem_cons_of_mem _ List.mem_cons_self)⟩
      · have q : restT (Th.tup [.str "again", y]) = y := by
          show (if ("again" : Str) = "say" then Th.tup [] else _) = _
          rw [if_neg (by decide +kernel)]
          rfl
        rw [q] at e1
        exact ⟨.again l, by rw [e1]; rfl, rfl, okl⟩
      · have q : restT (Th.tup [.str w.str, .str n, y]) = y := by
          show (if w.str = "say" then Th.tup [] else _) = _
          rw [if_neg (wd_ne_say w)]
          rfl
        rw [q] at e1
        exact ⟨.oth w n l, by rw [e1]; rfl, rfl, ⟨hn, hz _ List.mem_cons_self n _ rfl (List.mem_cons_of_mem _ List.mem_cons_self)⟩, okl⟩
    exact ⟨p :: ps, by rw [q1, p1]; rfl, by rw [List.map_cons, q2, p2], fun r hr => by
      rcases List.mem_cons.mp hr with z | z
      · rw [z]; exact q3
      · exact p3 r z⟩
/-! texts and rows within are not too long -/
mutual
def okT : Th → Prop
  | .str z => z.length ≤ 1000
  | .lst xs => xs.length ≤ 1000 ∧ okTs xs
  | .tup xs => xs.length ≤ 1000 ∧ okTs xs
  | _ => True
def okTs : List Th → Prop
  | [] => True
  | t :: ts => okT t ∧ okTs ts
end
theorem okTs.mem : ∀ {ts : List Th}, okTs ts → ∀ t ∈ ts, okT t
  | [], _, t, h => nomatch h
  | q :: ts, g, t, h => by
    rcases List.mem_cons.mp h with e | e
    · rw [e]; exact g.1
    · exact okTs.mem g.2 t e
theorem okTs.of : ∀ {ts : List Th}, (∀ t ∈ ts, okT t) → okTs ts
  | [], _ => trivial
  | q :: ts, h => ⟨h q List.mem_cons_self, okTs.of fun t ht => h t (List.mem_cons_of_mem _ ht)⟩
theorem okT.items {t : Th} (h : okT t) : (itemsT t).length ≤ 1000 ∧ ∀ q ∈ itemsT t, okT q := by
  cases t with
  | tup xs => exact ⟨h.1, h.2.mem⟩
  | _ => exact ⟨Nat.zero_le _, fun q hq => nomatch hq⟩
theorem okT.rest {t : Th} (h : okT t) : okT (restT t) := by
  match t, h with
  | .tup (.str z :: r), h =>
    show okT (if z = "say" then Th.tup [] else (r.getLast?).getD .non)
    by_cases c : z = "say"
    · rw [if_pos c]; exact ⟨Nat.zero_le _, trivial⟩
    · rw [if_neg c]
      cases e : r.getLast? with
      | none => trivial
      | some x => exact h.2.2.mem x (List.mem_of_getLast? e)
  | .tup [], h => trivial
  | .tup (.non :: r), h => trivial
  | .tup (.int _ :: r), h => trivial
  | .tup (.bl _ :: r), h => trivial
  | .tup (.lst _ :: r), h => trivial
  | .tup (.tup _ :: r), h => trivial
  | .tup (.dct :: r), h => trivial
  | .str _, h => trivial
  | .non, h => trivial
  | .int _, h => trivial
  | .bl _, h => trivial
  | .lst _, h => trivial
  | .dct, h => trivial
theorem split_flat : ∀ (xs : List (List Th)) (ps : List Part), xs.flatten = ps.map thP → ∃ ls : List (List Part), xs = ls.map (List.map thP) ∧ flL ls = ps
  | [], ps, e => ⟨[], rfl, by
      cases ps with
      | nil => rfl
      | cons a b => cases e⟩
  | x :: xs, ps, e => by
    have e' : ps.map thP = x ++ xs.flatten := e.symm
    obtain ⟨a, b, e1, e2, e3⟩ := List.map_eq_append_iff.mp e'
    obtain ⟨ls, l1, l2⟩ := split_flat xs b e3.symm
    exact ⟨a :: ls, by rw [List.map_cons, e2, l1], by rw [flL_cons, l2, e1]⟩
theorem deepR_up : ∀ r : List Part, deepR r ≤ deepL (r.map restP) + 1
  | [] => Nat.zero_le _
  | p :: r => by
    have h := deepR_up r
    have d := deep_rest p
    show max (deepP p) (deepR r) ≤ max (deepR (restP p)) (deepL (r.map restP)) + 1
    omega
theorem deepL_up : ∀ ls : List (List Part), deepL ls ≤ deepL (nxL ls) + 1
  | [] => Nat.zero_le _
  | r :: ls => by
    have h := deepL_up ls
    have h2 := deepR_up r
    show max (deepR r) (deepL ls) ≤ deepL ((r ++ flL ls).map restP) + 1
    rw [List.map_append, deepL_app]
    have e : deepL (nxL ls) = deepL ((flL ls).map restP) := rfl
    omega
/-- what is small is rows of parts -/
theorem rows_of : ∀ (n m : Nat) (ts : List Th), (∀ t ∈ ts, okT t) → smallT n m ts = true → ∃ ls : List (List Part), ts = ls.map thRow ∧ okLs NmOk ls ∧ m + sizeL ls ≤ 400 ∧ deepL ls < n
  | 0, m, ts, _, h => by cases h
  | n + 1, m, ts, ok, h => by
    unfold smallT at h
    by_cases c1 : ts.all isTup = true
    · rw [if_pos c1] at h
      obtain ⟨xs, rfl⟩ := tups_of ts c1
      have ei : ((xs.map Th.tup).map itemsT).flatten = xs.flatten := by
        rw [List.map_map, show itemsT ∘ Th.tup = id from rfl, List.map_id]
      rw [ei] at h
      by_cases c2 : m + xs.flatten.length ≤ 400
      · rw [if_pos c2] at h
        by_cases c3 : xs.flatten = []
        · have all0 : ∀ x ∈ xs, x = [] := List.flatten_eq_nil_iff.mp c3
          refine ⟨xs.map fun _ => [], ?_, fun r hr => ?_, ?_, ?_⟩
          · rw [List.map_map]
            exact List.map_congr_left fun x hx => by rw [all0 x hx]; rfl
          · obtain ⟨_, _, rfl⟩ := List.mem_map.mp hr
            trivial
          · have z : ∀ ys : List (List Th), sizeL (ys.map fun _ => ([] : List Part)) = 0 := by
              intro ys
              induction ys with
              | nil => rfl
              | cons y ys ih => show 0 + sizeL (ys.map fun _ => ([] : List Part)) = 0; omega
            rw [z]; omega
          · have z : ∀ ys : List (List Th), deepL (ys.map fun _ => ([] : List Part)) = 0 := by
              intro ys
              induction ys with
              | nil => rfl
              | cons y ys ih => show max 0 (deepL (ys.map fun _ => ([] : List Part))) = 0; omega
            rw [z]; omega
        · rw [if_neg c3] at h
          by_cases c4 : xs.flatten.all npB = true
          · rw [if_pos c4] at h
            have okp : ∀ t ∈ xs.flatten, okT t := fun t ht => by
              obtain ⟨x, hx, hx2⟩ := List.mem_flatten.mp ht
              exact (ok (.tup x) (List.mem_map.mpr ⟨x, hx, rfl⟩)).2.mem t hx2
            obtain ⟨ls', e', hok', hs', hd'⟩ := rows_of n _ _ (fun t ht => by
              obtain ⟨q, hq, rfl⟩ := List.mem_map.mp ht
              exact (okp q hq).rest) h
            obtain ⟨ps, p1, p2, p3⟩ := parts_of xs.flatten ls' c4 (fun t ht z r er hz => by
              have o := okp t ht
              rw [er] at o
              exact o.2.mem _ hz) e' hok'
            obtain ⟨ls, l1, l2⟩ := split_flat xs ps p1
            have enx : nxL ls = ls' := by unfold nxL; rw [l2, p2]
            have sz := sizeL_rests ls
            have du := deepL_up ls
            rw [enx] at sz du
            have el : (flL ls).length = xs.flatten.length := by rw [l2, p1, List.length_map]
            refine ⟨ls, ?_, fun r hr => ?_, by omega, by omega⟩
            · rw [l1, List.map_map]
              exact List.map_congr_left fun r _ => by
                show Th.tup (r.map thP) = Th.tup (thR r)
                rw [thR_map]
            · have sub : ∀ p ∈ r, p ∈ ps := fun p hp => by
                rw [← l2]
                exact List.mem_flatten.mpr ⟨r, hr, hp⟩
              have mk : ∀ q : List Part, (∀ p ∈ q, okP NmOk p) → okR NmOk q := by
                intro q
                induction q with
                | nil => intro _; trivial
                | cons p q ih => intro hh; exact ⟨hh p List.mem_cons_self, ih fun y hy => hh y (List.mem_cons_of_mem _ hy)⟩
              exact mk r fun p hp => p3 p (sub p hp)
          · rw [if_neg c4] at h; cases h
      · rw [if_neg c2] at h; cases h
    · rw [if_neg c1] at h; cases h
/-- a thing is a small row -/
theorem small_iff {t : Th} (ok : okT t) : smallT 25 0 [t] = true ↔ ∃ r : List Part, t = thRow r ∧ okR NmOk r ∧ sizeR r ≤ 400 ∧ deepR r ≤ 24 := by
  constructor
  · intro h
    obtain ⟨ls, e, hok, hs, hd⟩ := rows_of 25 0 [t] (fun q hq => by rw [List.mem_singleton.mp hq]; exact ok) h
    match ls, e, hok, hs, hd with
    | [r], e, hok, hs, hd =>
      have hs' : 0 + (sizeR r + 0) ≤ 400 := hs
      have hd' : max (deepR r) 0 < 25 := hd
      exact ⟨r, (List.cons.inj e).1, hok r List.mem_cons_self, by omega, by omega⟩
    | [], e, _, _, _ => cases e
    | _ :: _ :: _, e, _, _, _ => cases (List.cons.inj e).2
  · rintro ⟨r, rfl, hok, hs, hd⟩
    exact small_of 25 0 [r] (fun q hq => by rw [List.mem_singleton.mp hq]; exact hok) (by show 0 + (sizeR r + 0) ≤ 400; omega) (by show max (deepR r) 0 < 25; omega)
end Wk

set_option Elab.async false
set_option linter.all false
set_option maxRecDepth 100000
set_option maxHeartbeats 4000000
/-! Things of any kind: their types, promises. -/
namespace Wk
open PySem PySem.Spec PyProof.Rows L2 GxR
def isStrT : Th → Bool
  | .str _ => true
  | _ => false
theorem ThAt.tyT {K : PySem.W.Frag} {H : Hp} {t : Th} {v : V} (h : ThAt H t v) : ∃ ty : String, TyX K H v (.type ty) ∧ PySem.W.kitOne K (.type ty) (.type "tuple") = some (isTup t) ∧ PySem.W.kitOne K (.type ty) (.type "str") = some (isStrT t) := by
  cases t with
  | str z => cases h; exact ⟨_, .base (.str z), kit_ty (show kitB "str" "tuple" = some false by decide +kernel), kit_ty (show kitB "str" "str" = some true by decide +kernel)⟩
  | non => cases h; exact ⟨_, .base .non, kit_ty (show kitB "NoneType" "tuple" = some false by decide +kernel), kit_ty (show kitB "NoneType" "str" = some false by decide +kernel)⟩
  | int i => cases h; exact ⟨_, .base (.int i), kit_ty (show kitB "int" "tuple" = some false by decide +kernel), kit_ty (show kitB "int" "str" = some false by decide +kernel)⟩
  | bl b => cases h; exact ⟨_, .base (.bl b), kit_ty (show kitB "bool" "tuple" = some false by decide +kernel), kit_ty (show kitB "bool" "str" = some false by decide +kernel)⟩
  | lst xs =>
    obtain ⟨a, vs, rfl, e, _⟩ := h
    exact ⟨_, .base (.lst e), kit_ty (show kitB "list" "tuple" = some false by decide +kernel), kit_ty (show kitB "list" "str" = some false by decide +kernel)⟩
  | tup xs =>
    obtain ⟨a, vs, rfl, e, _⟩ := h
    exact ⟨_, .base (.tup e), kit_ty (show kitB "tuple" "tuple" = some true by decide +kernel), kit_ty (show kitB "tuple" "str" = some false by decide +kernel)⟩
  | dct =>
    obtain ⟨a, rfl, e⟩ := h
    exact ⟨_, .base (.dK e), kit_ty (show kitB "dict" "tuple" = some false by decide +kernel), kit_ty (show kitB "dict" "str" = some false by decide +kernel)⟩
theorem ThAt.thing {H : Hp} {t : Th} {v : V} (h : ThAt H t v) (ok : okT t) : Thing H v ∧ nmV v = nmT t := by
  cases t with
  | str z => cases h; exact ⟨.str z ok, rfl⟩
  | non => cases h; exact ⟨.non, rfl⟩
  | int i => cases h; exact ⟨.int i, rfl⟩
  | bl b => cases h; exact ⟨.bl b, rfl⟩
  | lst xs =>
    obtain ⟨a, vs, rfl, e, _⟩ := h
    exact ⟨.lst e, rfl⟩
  | tup xs =>
    obtain ⟨a, vs, rfl, e, _⟩ := h
    exact ⟨.tup e, rfl⟩
  | dct =>
    obtain ⟨a, rfl, e⟩ := h
    exact ⟨.dct e, rfl⟩
def szV (z : Str) : V := match szOf z with
  | some n => .int (n : Nat)
  | none => .non
def SizesG (K : PySem.W.Frag) (w : World) (d : Addr) : Prop := KGot K w d ∧ ∀ z : Str, ∃ (r : Option Value), PySem.W.nsIn K d z = some r ∧ RelV (szV z) (r.getD .none)
theorem szV_eq (z : Str) (n : Nat) : decide (szV z = V.int (n : Nat)) = decide (szOf z = some n) := by
  unfold szV
  cases e : szOf z with
  | none =>
    rw [decide_eq_false (by intro h; cases h), decide_eq_false (by intro h; cases h)]
  | some k =>
    by_cases c : k = n
    · rw [c, decide_eq_true rfl, decide_eq_true rfl]
    · rw [decide_eq_false (by intro h; exact c (by have := V.int.inj h; omega)), decide_eq_false (by intro h; exact c (Option.some.inj h))]
theorem szV_scal (z : Str) (n : Int) : scal (szV z) (.int n) = true := by
  unfold szV
  cases szOf z <;> rfl
theorem np_form {t : Th} (h : npB t = true) : formB t = true := by
  match t, h with
  | .tup (.str z :: x :: r), h => exact (Bool.and_eq_true_iff.mp h).1
theorem form_cases {t : Th} (h : formB t = true) : ∃ z x r, t = .tup (.str z :: x :: r) ∧ szOf z = some (r.length + 2) := by
  match t, h with
  | .tup (.str z :: []), h =>
    have h1 : szOf z = some 1 := of_decide_eq_true h
    rcases sz_cases h1 with ⟨_, l⟩ | ⟨_, l⟩ | ⟨_, _, l⟩ <;> omega
  | .tup (.str z :: x :: r), h => exact ⟨z, x, r, rfl, of_decide_eq_true h⟩
def spFormG : Sp := fun vs H Q _ => ∃ (v : V) (t : Th), vs = [v] ∧ ThAt H t v ∧ Q (.bl (formB t)) H
def spCallingG : Sp := fun vs H Q _ => ∃ (v : V) (z : Str) (x : Th) (r : List Th), vs = [v] ∧ ThAt H (.tup (.str z :: x :: r)) v ∧ ((z = "again" → Q .non H) ∧ (z ≠ "again" → ∀ u, ThAt H x u → Q u H))
/-- a thing of G, or a row without parts -/
def ThOr (G H : Hp) (t : Th) (v : V) : Prop := ThAt G t v ∨ (t = .tup [] ∧ ∃ a, v = .ref a ∧ H a = some (.tup []))
def OrsAt (G H : Hp) : List Th → List V → Prop
  | [], vs => vs = []
  | t :: ts, vs => ∃ v us, vs = v :: us ∧ ThOr G H t v ∧ OrsAt G H ts us
theorem OrsAt.mono {G H H' : Hp} (s : STup H H') : ∀ {ts : List Th} {vs : List V}, OrsAt G H ts vs → OrsAt G H' ts vs
  | [], _, h => h
  | t :: ts, _, h => by
    obtain ⟨v, us, e, h1, h2⟩ := h
    refine ⟨v, us, e, ?_, OrsAt.mono s h2⟩
    rcases h1 with h1 | ⟨e1, a, e2, h3⟩
    · exact .inl h1
    · exact .inr ⟨e1, a, e2, s _ _ h3⟩
theorem OrsAt.len {G H : Hp} : ∀ {ts : List Th} {vs : List V}, OrsAt G H ts vs → vs.length = ts.length
  | [], vs, h => by rw [show vs = [] from h]; rfl
  | t :: ts, vs, h => by
    obtain ⟨v, us, e, _, h2⟩ := h
    rw [e, List.length_cons, List.length_cons, OrsAt.len h2]
theorem OrsAt.snoc {G H : Hp} {q : Th} {u : V} (g : ThOr G H q u) : ∀ {ts : List Th} {vs : List V}, OrsAt G H ts vs → OrsAt G H (ts ++ [q]) (vs ++ [u])
  | [], vs, h => by rw [show vs = [] from h]; exact ⟨u, [], rfl, g, rfl⟩
  | t :: ts, vs, h => by
    obtain ⟨v, ws, rfl, h1, h2⟩ := h
    exact ⟨v, ws ++ [u], rfl, h1, OrsAt.snoc g h2⟩
theorem OrsAt.all {G H : Hp} (s : Kpt G H) : ∀ {ts : List Th} {vs : List V}, OrsAt G H ts vs → ThsAt H ts vs
  | [], _, h => h
  | t :: ts, _, h => by
    obtain ⟨v, us, e, h1, h2⟩ := h
    refine ⟨v, us, e, ?_, OrsAt.all s h2⟩
    rcases h1 with h1 | ⟨rfl, a, e2, h3⟩
    · exact ThAt.mono s t v h1
    · exact ⟨a, [], e2, h3, rfl⟩
def spRestG : Sp := fun vs H Q _ => ∃ (v : V) (t : Th) (G : Hp), vs = [v] ∧ ThAt G t v ∧ Kpt G H ∧ npB t = true ∧ ∀ (H' : Hp) (u : V), Same H H' → ThOr G H' (restT t) u → Q u H'
def spNPartG (Ts : List Addr) : Sp := fun vs H Q _ => ∃ (v : V) (t : Th), vs = [v] ∧ ThAt H t v ∧ okT t ∧ TabsG Ts H ∧ ∀ H', SamTs Ts H H' → Q (.bl (npB t)) H'
def spSmallG (Ts : List Addr) : Sp := fun vs H Q _ => ∃ (v : V) (t : Th), vs = [v] ∧ ThAt H t v ∧ okT t ∧ TabsG Ts H ∧ ∀ H', SamTs Ts H H' → Q (.bl (smallT 25 0 [t])) H'
def spHouseG (Ts : List Addr) : Sp := fun vs H Q _ => ∃ (v : V) (t : Th), vs = [v] ∧ ThAt H t v ∧ okT t ∧ TabsG Ts H ∧ ∀ (H' : Hp) (b : Bool), SamTs Ts H H' → (b = true ↔ ∃ r, t = thRow r ∧ HouseR r) → Q (.bl b) H'
theorem lens_sum : ∀ (ts : List Th) (i : Nat), i ≤ ts.length → preSum (fun j => ((ts[j]?).elim (0 : Int) fun t => ((itemsT t).length : Nat))) i = ((((ts.take i).map itemsT).flatten).length : Nat)
  | ts, 0, _ => by simp [preSum]
  | ts, i + 1, h => by
    have hi : i < ts.length := h
    rw [preSum, lens_sum ts i (Nat.le_of_lt hi), List.take_add_one, List.getElem?_eq_getElem hi, List.map_append, List.flatten_append, List.length_append]
    simp
theorem flat_le {ts : List Th} (ok : ∀ t ∈ ts, okT t) : ∀ i, (((ts.take i).map itemsT).flatten).length ≤ 1000 * i
  | 0 => by simp
  | i + 1 => by
    have h := flat_le ok i
    rw [List.take_add_one, List.map_append, List.flatten_append, List.length_append]
    cases e : ts[i]? with
    | none =>
      show (((ts.take i).map itemsT).flatten).length + 0 ≤ 1000 * (i + 1)
      omega
    | some t =>
      have o := (ok t (List.mem_of_getElem? e)).items.1
      show (((ts.take i).map itemsT).flatten).length + (itemsT t ++ []).length ≤ 1000 * (i + 1)
      rw [List.append_nil]
      omega
end Wk
namespace Wk
open PySem PySem.Spec PyProof.Rows L2 GxR
theorem wd_inj {w w' : Wd} (h : w.str = w'.str) : w = w' := by
  cases w <;> cases w' <;> first | rfl | exact absurd h (by decide +kernel)
mutual
theorem thP_inj : ∀ (p q : Part), thP p = thP q → p = q
  | .say n, .say m, h => by
    have := Th.tup.inj h
    have h1 := (List.cons.inj (List.cons.inj this).2).1
    rw [Th.str.inj h1]
  | .again r, .again t, h => by
    have := Th.tup.inj h
    have h1 := (List.cons.inj (List.cons.inj this).2).1
    rw [thR_inj r t (Th.tup.inj h1)]
  | .oth w n r, .oth w' m t, h => by
    have := Th.tup.inj h
    have h0 := (List.cons.inj this).1
    have h1 := (List.cons.inj (List.cons.inj this).2).1
    have h2 := (List.cons.inj (List.cons.inj (List.cons.inj this).2).2).1
    rw [wd_inj (Th.str.inj h0), Th.str.inj h1, thR_inj r t (Th.tup.inj h2)]
  | .say n, .again t, h => by
    have h0 := Th.str.inj (List.cons.inj (Th.tup.inj h)).1
    exact absurd h0 (by decide +kernel)
  | .again r, .say m, h => by
    have h0 := Th.str.inj (List.cons.inj (Th.tup.inj h)).1
    exact absurd h0 (by decide +kernel)
  | .say n, .oth w m t, h => by
    have h0 := Th.str.inj (List.cons.inj (Th.tup.inj h)).1
    exact absurd h0.symm (wd_ne_say w)
  | .oth w n r, .say m, h => by
    have h0 := Th.str.inj (List.cons.inj (Th.tup.inj h)).1
    exact absurd h0 (wd_ne_say w)
  | .again r, .oth w m t, h => by
    have h0 := Th.str.inj (List.cons.inj (Th.tup.inj h)).1
    exact absurd h0.symm (wd_ne_again w)
  | .oth w n r, .again t, h => by
    have h0 := Th.str.inj (List.cons.inj (Th.tup.inj h)).1
    exact absurd h0 (wd_ne_again w)
theorem thR_inj : ∀ (r q : List Part), thR r = thR q → r = q
  | [], [], _ => rfl
  | p :: r, q :: t, h => by
    have h' : thP p :: thR r = thP q :: thR t := h
    rw [thP_inj p q (List.cons.inj h').1, thR_inj r t (List.cons.inj h').2]
  | [], q :: t, h => by cases h
  | p :: r, [], h => by cases h
end
theorem thRow_inj {r q : List Part} (h : thRow r = thRow q) : r = q := thR_inj r q (Th.tup.inj h)
/-- as many as the unlike ones: each once -/
theorem nodup_of_len : ∀ {l D : List Str}, D.Nodup → (∀ x ∈ l, x ∈ D) → D.length = l.length → (∀ x ∈ D, x ∈ l) → l.Nodup
  | l, D, nd, sub, len, sup => by
    by_cases h : l.Nodup
    · exact h
    · exfalso
      -- some text stands twice
      have key : ∀ m : List Str, ¬ m.Nodup → ∃ a x b, m = a ++ x :: b ∧ x ∈ a ++ b := by
        intro m
        induction m with
        | nil => intro h; exact absurd List.nodup_nil h
        | cons y m ih =>
          intro h
          by_cases c : y ∈ m
          · exact ⟨[], y, m, rfl, c⟩
          · have h2 : ¬ m.Nodup := fun z => h (List.nodup_cons.mpr ⟨c, z⟩)
            obtain ⟨a, x, b, e, hx⟩ := ih h2
            exact ⟨y :: a, x, b, by rw [e]; rfl, List.mem_cons_of_mem _ hx⟩
      obtain ⟨a, x, b, e, hx⟩ := key l h
      have hsub : ∀ z ∈ D, z ∈ a ++ b := fun z hz => by
        have := sup z hz
        rw [e] at this
        rcases List.mem_append.mp this with g | g
        · exact List.mem_append_left _ g
        · rcases List.mem_cons.mp g with g | g
          · rw [g]; exact hx
          · exact List.mem_append_right _ g
      have := sub_len D (a ++ b) nd hsub
      rw [e, List.length_append, List.length_cons] at len
      rw [List.length_append] at this
      omega
end Wk

set_option Elab.async false
set_option linter.all false
set_option maxRecDepth 100000
set_option maxHeartbeats 4000000
/-! All parts of a row within bounds; what binds well: promises. -/
namespace Wk
open PySem PySem.Spec PyProof.Rows L2 GxR
def wordT : Th → Bool
  | .tup (.str _ :: _) => true
  | _ => false
def spBegins : Sp := fun vs H Q _ => ∃ (v : V) (t : Th), vs = [v] ∧ ThAt H t v ∧ Q (.bl (wordT t)) H
theorem form_word {t : Th} (h : wordT t = false) : formB t = false := by
  cases t with
  | tup xs =>
    cases xs with
    | nil => rfl
    | cons x r => cases x <;> first | rfl | cases h
  | _ => rfl
theorem word_cases {t : Th} (h : wordT t = true) : ∃ z r, t = .tup (.str z :: r) := by
  match t, h with
  | .tup (.str z :: r), _ => exact ⟨z, r, rfl⟩
theorem OrsAt.get {G H : Hp} : ∀ {ts : List Th} {vs : List V}, OrsAt G H ts vs → ∀ {i : Nat} {v : V}, vs[i]? = some v → ∃ t, ts[i]? = some t ∧ ThOr G H t v
  | [], vs, h, i, v, e => by
    rw [show vs = [] from h] at e
    cases e
  | t :: ts, vs, h, i, v, e => by
    obtain ⟨u, us, rfl, h1, h2⟩ := h
    cases i with
    | zero =>
      cases e
      exact ⟨t, rfl, h1⟩
    | succ i => exact OrsAt.get h2 e
theorem ThOr.tup {G H : Hp} {ys : List Th} {v : V} (s : Kpt G H) (h : ThOr G H (.tup ys) v) : ∃ a xs, v = .ref a ∧ H a = some (.tup xs) ∧ ThsAt G ys xs := by
  rcases h with h | ⟨e, a, rfl, h⟩
  · obtain ⟨a, xs, rfl, ha, hx⟩ := h
    exact ⟨a, xs, rfl, s _ _ (fun _ z => by cases z) ha, hx⟩
  · cases e
    exact ⟨a, [], rfl, h, rfl⟩
/-- the parts within the bounds of a house, or none -/
def spPartsG (Ts : List Addr) (fN fR : Addr) : Sp := fun vs H Q _ => ∃ (v : V) (t : Th), vs = [v, .int 400, .int 24, .ref fN, .ref fR] ∧ ThAt H t v ∧ okT t ∧ TabsG Ts H ∧
  (smallT 25 0 [t] = false → ∀ H', SamTs Ts H H' → Q .non H') ∧ (smallT 25 0 [t] = true → ∀ (H' : Hp) (a : Addr), SamTs Ts H H' → Q (.ref a) H')
/-- what is bound, and what is free -/
def spBinds (Ts : List Addr) : Sp := fun vs H Q _ => ∃ (Fl Bl : Addr) (fs bs : List Str), vs = [.ref Fl, .ref Bl] ∧ H Fl = some (.lst (fs.map V.str)) ∧ H Bl = some (.lst (bs.map V.str)) ∧ fs.length ≤ 1000 ∧ bs.length ≤ 1000 ∧ TabsG Ts H ∧
  ∀ (H' : Hp) (b : Bool), SamTs Ts H H' → (b = true ↔ bs.Nodup ∧ ∀ x ∈ bs, x ∉ fs) → Q (.bl b) H'
theorem thR_len (r : List Part) : (thR r).length = r.length := by rw [thR_map, List.length_map]
theorem wd_len (w : Wd) : w.str.length ≤ 1000 := by cases w <;> decide +kernel
theorem sizeP_pos (p : Part) : 1 ≤ sizeP p := by
  cases p <;> (show 1 ≤ _; unfold sizeP; omega)
mutual
theorem okT_P : ∀ p : Part, okP NmOk p → sizeP p ≤ 1000 → okT (thP p)
  | .say n, h, hs => by
    have h : NmOk n := h
    exact ⟨(show 2 ≤ 1000 by decide), (show ("say" : Str).length ≤ 1000 by decide +kernel), h.2, trivial⟩
  | .again r, h, hs => by
    have h : okR NmOk r := h
    have hs : sizeP (.again r) ≤ 1000 := hs
    unfold sizeP at hs
    have l := len_sizeR r
    exact ⟨(show 2 ≤ 1000 by decide), (show ("again" : Str).length ≤ 1000 by decide +kernel), ⟨by rw [thR_len]; omega, okT_R r h (by omega)⟩, trivial⟩
  | .oth w n r, h, hs => by
    have h : NmOk n ∧ okR NmOk r := h
    unfold sizeP at hs
    have l := len_sizeR r
    exact ⟨(show 3 ≤ 1000 by decide), wd_len w, h.1.2, ⟨by rw [thR_len]; omega, okT_R r h.2 (by omega)⟩, trivial⟩
theorem okT_R : ∀ r : List Part, okR NmOk r → sizeR r ≤ 1000 → okTs (thR r)
  | [], _, _ => trivial
  | p :: r, h, hs => by
    have h : okP NmOk p ∧ okR NmOk r := h
    unfold sizeR at hs
    exact ⟨okT_P p h.1 (by omega), okT_R r h.2 (by omega)⟩
end
theorem okT_row {r : List Part} (h : okR NmOk r) (hs : sizeR r ≤ 1000) : okT (thRow r) := by
  have l := len_sizeR r
  exact ⟨by rw [thR_len]; omega, okT_R r h hs⟩
/-- of a row that is a house -/
theorem house_of_G {P : Program} {w : World} {K : PySem.W.Frag} {mg : Str → Option Value} {base : Heap} {Ts : List Addr} {f : Addr} {fd : FuncData} {k n : Nat}
    (G : FnOk P w K mg base CX0 k f fd ["thing"] (spHouseG Ts)) : FnOk P w K mg base CX0 k f fd ["thing"] (spHouse Ts n) := by
  refine G.imp fun vs H Q E h => ?_
  obtain ⟨v, r, rfl, hR, hh, hd, tg, q⟩ := h
  have hz := hh.size
  refine ⟨v, thRow r, rfl, at_thRow hR, okT_row hh.ok (by omega), tg, fun H' b st e => ?_⟩
  have : b = true := e.mpr ⟨r, rfl, hh⟩
  rw [this]
  exact q H' st
end Wk

set_option Elab.async false
set_option linter.all false
set_option maxRecDepth 100000
set_option maxHeartbeats 4000000
/-! Defs that are called where nothing is being written out (repr): the call, the body, the end of a law. -/
namespace Wk
open PySem PySem.Spec PyProof.Rows L2
structure FnG (P : Program) (w : World) (K : PySem.W.Frag) (mg : Str → Option Value) (base : Heap) (k : Nat) (f : Addr) (fd : FuncData) (ps : List Str) (sp : Sp) : Prop where
  len : ∀ vs H Q E, sp vs H Q E → vs.length = ps.length
  go : ∀ {A : Around} {outer : List Env} {s : Shared} {H : Hp} {args : Args} {us : List Value} {vs : List V} {Q : VK} {E : XK}, A.guards = some [] → Room k A → Env0 P w K mg base A outer s H →
    BindsTo s fd args (ps.zip us) → Vals vs us → sp vs H Q E → codeAny (model P w) A (.call (.ref f) args) (CR CX0 outer P w H s Q E) s
section
variable {P : Program} {w : World} {K : PySem.W.Frag} {mg : Str → Option Value} {base : Heap}
/-- a def by its body -/
theorem FnG.of {x qual : Str} {st : Stmt} {f : Addr} {fd : FuncData} {N ps : List Str} {k : Nat} {sp : Sp} (F : Fun K x qual st f fd) (S : FnScope N ps (defScope st)) (len : ∀ vs H Q E, sp vs H Q E → vs.length = ps.length)
    (hb : ∀ (cdv : Value) (A : Around) (outer : List Env) (s : Shared) (H : Hp) (vs : List V) (Q : VK) (E : XK), A.guards = some [] → Room k (A.deeper (envOfC qual (defScope st) s.heap.objs.size f cdv)) → sp vs H Q E →
      ∃ t, PSs (cxOf CX0 P w K mg base N qual (defScope st) f cdv A outer s H E).nox (defBody st) t ∧ t { nx := fun _ H' => Q .non H', rt := Q } (start N vs) H) : FnG P w K mg base (k + 1) f fd ps sp := by
  obtain ⟨oc, od, kV, doc, pm, an, cdv, ct, osl, rfl, lk, hcd⟩ := F.ex
  refine ⟨len, ?_⟩
  intro A outer s H args us vs Q E gA hr e0 bt rv hq
  have keep : ∀ b o, base.get? b = some o → s.heap.get? b = some o := fun b o e => (e0.bs b o e).1
  have KX : K.In s.heap := e0.mod.kin.keeps keep
  have kinds : ∀ y ∈ ps.zip us, (defScope st).names.lookup y.1 = some .local ∨
      ((defScope st).names.lookup y.1 = some .cell ∧ ((cellsFrom (s.heap.objs.size + 1) (defScope st).names []).lookup y.1).isSome = true) := by
    rintro ⟨nm, v⟩ hy
    cases S.par nm (List.of_mem_zip hy).1 with
    | inl g => exact .inl g
    | inr g => exact .inr ⟨g, PySem.W.cellsFrom_some _ _ _ (.inl g)⟩
  refine codeAny_call_function hr.depth (KX _ _ lk) rfl S.co S.gen rfl (PySem.W.codeRec_of KX hcd) (bt _ _ _ _ ?_)
  refine wpAny_newFunctionEnv_cells S.kind kinds ?_
  intro env he s1 x1
  subst he
  refine ⟨(e0.mod.nolimit.keeps keep).keeps x1.toInCall.keep, codeAny_func ?_⟩
  obtain ⟨t, h1, h2⟩ := hb cdv A outer s H vs Q E gA (hr.deeper _) hq
  have I : Inv (cxOf CX0 P w K mg base N qual (defScope st) f cdv A outer s H E) [] (start N vs) H s1 := inv_start S hr.hd e0 (len _ _ _ _ hq) rv x1
  refine wpAny_mono (h1.nox.run [] s1 _ H _ I h2) ?_ (fun _ _ z => z)
  intro fl s2 hs
  cases fl with
  | ret u =>
    obtain ⟨v, τ, G, J, r1, q1⟩ := hs
    exact ⟨v, G, J.os, J.bare, J.base, J.hok, r1, q1⟩
  | next =>
    obtain ⟨τ, G, J, q1⟩ := hs
    exact ⟨V.non, G, J.os, J.bare, J.base, J.hok, rfl, q1⟩
  | brk =>
    obtain ⟨_, _, _, q1⟩ := hs
    exact q1.elim
  | cont =>
    obtain ⟨_, _, _, q1⟩ := hs
    exact q1.elim
end
section
variable {X : Cx} {k : Nat} {f : Addr} {fd : FuncData} {ps : List Str} {sp : Sp} {x : Str} {p pos : Pos} {e : Expr} {es : List Expr} {t : TA}
theorem pe_callG (F : FnG X.prog X.w X.K X.mg X.base k f fd ps sp) (gX : X.A.guards = some []) (hr : Room k X.A) (hg : Gl X x) (hm : X.mg x = some (.ref f)) (hk : PySem.W.keepIn X.K (.ref f) = true) (hb : Binds X.K fd ps []) (ha : PA X (e :: es) t)
    (hdb : (x == ("__debug__" : Str)) = false := by decide) (he : starEach (e :: es) X.env = (false, eval e X.env) :: starEach es X.env := by rfl) (hpl : (backTo pos (starEach es X.env)).any (·.1) = false := by rfl) :
    PE X (.Call (.Name x p) (e :: es) [] pos) (tCall sp [] E0 t) := by
  refine ⟨?_⟩
  intro pins s σ H Q I h
  refine wpAny_Call_Name_kw (ld_glob I hg hm (PySem.W.callWith_K (h₀ := X.base) I.ok.mod.kin hk (thn (ha.run pos pins s σ H _ I h) ?_) he hpl) hdb)
  rintro us s1 ⟨vs, H1, I1, r, q⟩
  refine ⟨I1.kIn, wpAny_call ?_⟩
  rw [List.append_nil] at q
  have hl : us.length = ps.length := r.length.symm.trans (F.len _ _ _ _ q)
  have bt := hb s1 us I1.kIn (by rw [List.append_nil]; exact hl)
  rw [List.append_nil] at bt
  refine codeAny_mono (F.go gX hr I1.env0 bt r q) ?_
  intro o s2 z
  cases o with
  | error e => exact z.elim
  | ok fl =>
    cases fl with
    | ret u => exact I1.after z
    | next => exact z.elim
    | brk => exact z.elim
    | cont => exact z.elim
end
/-- the law's call, from its promise -/
theorem law_endG {P : Program} {w : World} {K : PySem.W.Frag} {mg mb : Str → Option Value} {k : Nat} {fa a : Addr} {fd : FuncData} {x : Str} {sp : Sp} {s1 : Shared} {vs : List Value} {ns : List Int}
    (KX : K.In s1.heap) (hns : s1.heap.Ns mainGlobals mg) (hb : s1.heap.Ns builtinsNs mb) (hbb : ∀ y : Str, y ≠ "__name__" → mb y = bootBuiltins y) (hlim : s1.heap.NoLimit) (hg : s1.gens = #[])
    (ha : s1.heap.get? a = some { cls := .type "list", data := .seq vs.toArray }) (hi : IntsAre vs ns) (hl : ns.length ≤ sizeLine) (hr : Room k callerA)
    (F : ∀ base : Heap, K.In base → base.Ns mainGlobals mg → FnG P w K mg base k fa fd [x] sp) (hbind : ∀ (s : Shared) (u : Value), BindsTo s fd ⟨[u], []⟩ [(x, u)])
    (hsp : ∀ H : Hp, SqL K H a (ns.map V.int) → sp [.ref a] H (fun v _ => v = .bl true) fun _ _ _ => False) :
    codeAny (model P w) callerA (.call (.ref fa) ⟨[.ref a], []⟩) (fun r s' => r = .ok (.ret (.bool true)) ∧ OldK s1.heap s'.heap ∧ s'.os = s1.os ∧ AllBare s'.gens) s1 := by
  have rv := vals_ints hi
  have lv := hi.length
  obtain ⟨H, hA, hS⟩ : ∃ H : Hp, (∀ b u, H b = some u → b = a ∧ K.lookup a = none ∧ u = .frz { cls := .type "list", data := .seq vs.toArray } (.lst (ns.map V.int))) ∧ SqL K H a (ns.map V.int) := by
    cases hk : K.lookup a with
    | none =>
      refine ⟨fun b => if b = a then some (.frz { cls := .type "list", data := .seq vs.toArray } (.lst (ns.map V.int))) else none, ⟨?_, .inl (.inr ⟨_, if_pos rfl⟩)⟩⟩
      intro b u z
      by_cases c : b = a
      · have z' := (if_pos c).symm.trans z
        exact ⟨c, rfl, (Option.some.inj z').symm⟩
      · exact absurd ((if_neg c).symm.trans z) (by simp)
    | some ob =>
      have e := (KX a ob hk).symm.trans ha
      cases e
      exact ⟨fun _ => none, ⟨(fun b u z => absurd (show (none : Option HO) = some u from z) (by simp)), .inr ⟨_, vs.toArray, _, hk, rfl, rfl, rfl, by rw [List.size_toArray, lv]; exact hl, by simpa using rv⟩⟩⟩
  have hok : HOk P w H s1.heap := by
    intro b u z
    obtain ⟨rfl, _, rfl⟩ := hA b u z
    exact ⟨ha, by rw [List.length_map]; exact hl, vs, _, rv, ha⟩
  have free : ∀ {b : Addr} {o : Obj}, s1.heap.get? b = some o → (∀ xs n, o.data ≠ .seq xs n) → H b = none := by
    intro b o e1 e2
    cases q : H b with
    | none => rfl
    | some u =>
      obtain ⟨rfl, _, _⟩ := hA b u q
      rw [ha] at e1
      cases e1
      exact absurd rfl (e2 _ _)
  have nsK : ∀ {b : Addr} {m : Str → Option Value}, s1.heap.Ns b m → (hidT s1.heap H).Ns b m := by
    rintro b m ⟨o, es, ep, e1, e2, rest⟩
    exact ⟨o, es, ep, hidT_get e1 (free e1 fun xs n z => by rw [e2] at z; cases z), e2, rest⟩
  have kb : K.In (hidT s1.heap H) := by
    intro b o e1
    refine hidT_get (KX b o e1) ?_
    cases q : H b with
    | none => rfl
    | some u =>
      obtain ⟨rfl, z, _⟩ := hA b u q
      rw [z] at e1
      cases e1
  obtain ⟨mc, c1, c2⟩ := hlim
  have e0 : Env0 P w K mg (hidT s1.heap H) callerA [] s1 H :=
    ⟨rfl, ⟨kb, nsK hns, ⟨mb, nsK hb, hbb⟩, ⟨mc, nsK c1, c2⟩⟩, fun _ _ z => of_hidT z, Nat.le_of_eq (hidT_size _ _), trivial, fun b z => absurd (show b ∈ ([] : List Addr) from z) List.not_mem_nil, hok, .of_eq hg⟩
  refine codeAny_mono ((F _ kb (nsK hns)).go (us := [.ref a]) (vs := [.ref a]) rfl hr e0 (hbind s1 (.ref a)) (.cons rfl .nil) (hsp H hS)) ?_
  intro o s2 z
  cases o with
  | error e => exact z.elim
  | ok fl =>
    cases fl with
    | next => exact z.elim
    | brk => exact z.elim
    | cont => exact z.elim
    | ret u =>
      obtain ⟨v, G, os, bare, un, hok2, r2, q2⟩ := z
      have q3 : v = .bl true := q2
      subst q3
      obtain rfl : u = Value.bool true := r2
      refine ⟨rfl, OldK.of_keep ?_, os, bare⟩
      intro b ob e1
      cases q : H b with
      | none => exact un.keep b ob e1 q (fun m => absurd (show b ∈ ([] : List Addr) from m) List.not_mem_nil) List.not_mem_nil
      | some u =>
        obtain ⟨rfl, _, rfl⟩ := hA b u q
        obtain ⟨e2, _⟩ := hok2 _ _ (un.frzs _ _ _ q)
        rw [ha] at e1
        cases e1
        exact e2
theorem walk_endG {l : PySem.W.OpenLaw} {n k : Nat} {q : Program} {loose : List Str} {XP : (Str → Option Value) → Heap → Prop} {YP : World → Heap → Prop} {d : DefRec} {K : Params → PySem.W.Frag} {sp : World → Sp} {x : Str}
    (hn : l.most = some n) (hn2 : n ≤ sizeLine) (hdf : d.params.defaults = []) (hr : Room k callerA) (hY : ∀ (w : World) (h : Heap), YP w h → (K w.params).In h)
    (F : ∀ (w : World) (mg : Str → Option Value) (fa : Addr) (h : Heap), (K w.params).In h → h.Ns mainGlobals mg → mg d.name = some (.ref fa) →
      ∃ fd : FuncData, (∀ (s : Shared) (u : Value), BindsTo s fd ⟨[u], []⟩ [(x, u)]) ∧ ∀ base : Heap, (K w.params).In base → base.Ns mainGlobals mg → FnG l.prog w (K w.params) mg base k fa fd [x] (sp w))
    (hsp : ∀ (w : World) (H : Hp) (a : Addr) (ns : List Int), ns.length ≤ n → SqL (K w.params) H a (ns.map V.int) → sp w [.ref a] H (fun v _ => v = .bl true) fun _ _ _ => False) :
    PySem.W.WalkO q loose XP YP l.row.toRowW d [] (fun f vs => PySem.call f vs) := by
  refine Att.attach_callB hn hdf ?_
  intro w s0 s1 mg mb fa o pm cd doc a vs ns G Y ho hd hcd hmg hobj hints hlen hbits hg
  obtain ⟨fd, hb, hF⟩ := F w mg fa _ (hY w _ Y) G.T.g hmg
  exact law_endG (hY w _ Y) G.T.g G.T.b G.T.builtins G.T.nolimit hg hobj hints (Nat.le_trans hlen hn2) hr hF hb fun H hS => hsp w H a ns hlen hS
end Wk

set_option Elab.async false
set_option linter.all false
set_option maxRecDepth 100000
set_option maxHeartbeats 2000000
/-! Things of tuples alone; tuples joined; things that are no house. -/
namespace Wk
open PySem PySem.Spec PyProof.Rows L2 GxR
def rCatS : R2 := fun x y H Q => ∃ a b xs ys, x = .ref a ∧ y = .ref b ∧ H a = some (.tup xs) ∧ H b = some (.tup ys) ∧ xs.length + ys.length ≤ 1000 ∧ ∀ (H' : Hp) (c : Addr), Same H H' → H' c = some (.tup (xs ++ ys)) → Q (.ref c) H'
theorem op_catS {X : Cx} : OpR X (binaryOp .Add) rCatS := by
  intro pins s σ H x y v u Q I rx ry h
  obtain ⟨a, b, xs, ys, ex, ey, ha, hb, hz, q⟩ := h
  refine op_catA pins s σ H x y v u Q I rx ry ⟨a, b, xs, ys, ex, ey, SqT.of ha, SqT.of hb, small hz, fun e => ?_, fun _ e => ?_, fun _ _ p np => ?_⟩
  · exact q H b (fun _ _ e => e) (by rw [e]; exact hb)
  · exact q H a (fun _ _ e => e) (by rw [e, List.append_nil]; exact ha)
  · exact q _ p (same_new np) upd_same
mutual
def pureT : Th → Prop
  | .tup xs => pureTs xs
  | .lst _ => False
  | .dct => False
  | _ => True
def pureTs : List Th → Prop
  | [] => True
  | t :: ts => pureT t ∧ pureTs ts
end
mutual
theorem ThAt.monoT {H H' : Hp} (s : STup H H') : ∀ (t : Th) (v : V), pureT t → ThAt H t v → ThAt H' t v
  | .str z, v, _, h => h
  | .non, v, _, h => h
  | .int i, v, _, h => h
  | .bl b, v, _, h => h
  | .lst xs, v, p, _ => p.elim
  | .dct, v, p, _ => p.elim
  | .tup xs, v, p, h => by
    obtain ⟨a, vs, e, h1, h2⟩ := h
    exact ⟨a, vs, e, s _ _ h1, ThsAt.monoT s xs vs p h2⟩
theorem ThsAt.monoT {H H' : Hp} (s : STup H H') : ∀ (ts : List Th) (vs : List V), pureTs ts → ThsAt H ts vs → ThsAt H' ts vs
  | [], vs, _, h => h
  | t :: ts, vs, p, h => by
    obtain ⟨v, us, e, h1, h2⟩ := h
    exact ⟨v, us, e, ThAt.monoT s t v p.1 h1, ThsAt.monoT s ts us p.2 h2⟩
end
theorem pureTs_app : ∀ {l m : List Th}, pureTs l → pureTs m → pureTs (l ++ m)
  | [], _, _, g => g
  | _ :: _, _, h, g => ⟨h.1, pureTs_app h.2 g⟩
mutual
theorem pure_P : ∀ p : Part, pureT (thP p)
  | .say n => ⟨trivial, trivial, trivial⟩
  | .again r => ⟨trivial, pure_R r, trivial⟩
  | .oth w n r => ⟨trivial, trivial, pure_R r, trivial⟩
theorem pure_R : ∀ r : List Part, pureTs (thR r)
  | [] => trivial
  | p :: r => ⟨pure_P p, pure_R r⟩
end
theorem okTs_app {l m : List Th} (h : okTs l) (g : okTs m) : okTs (l ++ m) :=
  okTs.of fun t ht => (List.mem_append.mp ht).elim (okTs.mem h t) (okTs.mem g t)
/-! ### no house -/
def NoHs (t : Th) : Prop := ¬ ∃ r, t = thRow r ∧ HouseR r
theorem nh_kind {t : Th} (h : isTup t = false) : NoHs t := fun ⟨r, e, _⟩ => by
  rw [e] at h
  cases h
theorem nh_mem {ts : List Th} {x : Th} (hx : x ∈ ts) (h : ∀ p, okP NmOk p → thP p ≠ x) : NoHs (.tup ts) := fun ⟨r, e, hh⟩ => by
  have e' : ts = thR r := Th.tup.inj e
  rw [e', thR_map] at hx
  obtain ⟨p, hp, rfl⟩ := List.mem_map.mp hx
  exact h p (okR.mem hh.ok p hp) rfl
theorem nh_name {z : Str} (h : nameB z = false) : ∀ p, okP NmOk p → thP p ≠ .tup [.str "say", .str z] := fun p ok e => by
  have e2 := thP_inj p (.say z) e
  rw [e2] at ok
  have : nameB z = true := ok.1
  rw [h] at this
  cases this
theorem nh_list {xs : List Th} : ∀ p, okP NmOk p → thP p ≠ .lst xs := fun p _ e => by
  cases p <;> cases e
theorem nh_str {z : Str} : ∀ p, okP NmOk p → thP p ≠ .str z := fun p _ e => by
  cases p <;> cases e
theorem nh_nil : ∀ p, okP NmOk p → thP p ≠ .tup [] := fun p _ e => by
  cases p <;> cases e
theorem nh_room : ∀ p, okP NmOk p → thP p ≠ .tup [.str "room", .str "a", .tup [.str "say", .str "a"]] := fun p _ e => by
  cases p with
  | say n => cases e
  | again r => cases e
  | oth w n r =>
    have h := (List.cons.inj (List.cons.inj (List.cons.inj (Th.tup.inj e)).2).2).1
    have h2 : thR r = [.str "say", .str "a"] := Th.tup.inj h
    cases r with
    | nil => cases h2
    | cons p r =>
      have h3 := (List.cons.inj h2).1
      exact absurd h3 (by cases p <;> (intro z; cases z))
theorem thR_snoc (r : List Part) (p : Part) : thR (r ++ [p]) = thR r ++ [thP p] := by
  rw [thR_map, thR_map, List.map_append]
  rfl
theorem nh_twice {r : List Part} {n : Str} (h : n ∈ bdR r) : NoHs (.tup (thR r ++ [thP (.oth .hear n [])])) := fun ⟨r', e, hh⟩ => by
  have e1 : thR r ++ [thP (.oth .hear n [])] = thR r' := Th.tup.inj e
  rw [← thR_snoc] at e1
  have e2 := thR_inj _ _ e1
  have nd := hh.nd
  rw [← e2, bdR_app] at nd
  exact (List.nodup_append.mp nd).2.2 n h n (by show n ∈ [n]; exact List.mem_singleton.mpr rfl) rfl
theorem nh_out {r : List Part} {n : Str} (h : n ∈ bdR r) : NoHs (.tup (thR r ++ [thP (.say n)])) := fun ⟨r', e, hh⟩ => by
  have e1 : thR r ++ [thP (.say n)] = thR r' := Th.tup.inj e
  rw [← thR_snoc] at e1
  have e2 := thR_inj _ _ e1
  have ap := hh.apart
  rw [← e2] at ap
  refine ap n ?_ ?_
  · rw [bdR_app]; exact List.mem_append_left _ h
  · rw [frR_app]
    refine List.mem_append_right _ ?_
    show n ∈ frR [] [.say n]
    simp [frR, frP]
theorem rep_size : ∀ k : Nat, sizeR (List.replicate k (Part.say "a")) = k
  | 0 => rfl
  | k + 1 => by
    show sizeP (.say "a") + sizeR (List.replicate k (Part.say "a")) = k + 1
    rw [rep_size k]
    show 1 + k = k + 1
    omega
theorem nh_many : NoHs (thRow (List.replicate 401 (Part.say "a"))) := fun ⟨r, e, hh⟩ => by
  have e2 := thRow_inj e
  have := hh.size
  rw [← e2, rep_size] at this
  omega
def dpR : Nat → List Part
  | 0 => []
  | n + 1 => [.oth .inn "a" (dpR n)]
theorem dpR_deep : ∀ n, deepR (dpR n) = n
  | 0 => rfl
  | n + 1 => by
    show max (deepR (dpR n) + 1) 0 = n + 1
    rw [dpR_deep n]
    omega
theorem nh_deep : NoHs (thRow (dpR 25)) := fun ⟨r, e, hh⟩ => by
  have e2 := thRow_inj e
  have := hh.deep
  rw [← e2, dpR_deep] at this
  omega
def spDeepRow : Sp := fun vs H Q _ => ∃ m : Nat, vs = [.int m] ∧ m ≤ 30 ∧ ∀ (H' : Hp) (u : V), Same H H' → RowAt H' (dpR m) u → Q u H'
/-! ### things that are none, as values -/
def NhV (H : Hp) (v : V) : Prop := ∃ t, ThAt H t v ∧ okT t ∧ NoHs t
theorem NhV.up {H H' : Hp} {v : V} (s : Same H H') (h : NhV H v) : NhV H' v := h.imp fun t g => ⟨ThAt.mono (Kpt.same s) t v g.1, g.2⟩
def NhA (H : Hp) (xs : List V) : Prop := ∀ v ∈ xs, NhV H v
theorem NhA.up {H H' : Hp} {xs : List V} (s : Same H H') (h : NhA H xs) : NhA H' xs := fun v hv => (h v hv).up s
theorem NhA.app {H : Hp} {xs ys : List V} (a : NhA H xs) (b : NhA H ys) : NhA H (xs ++ ys) := fun v hv => (List.mem_append.mp hv).elim (a v) (b v)
theorem NhA.nil {H : Hp} : NhA H [] := fun _ h => nomatch h
theorem NhA.cons {H : Hp} {v : V} {xs : List V} (a : NhV H v) (b : NhA H xs) : NhA H (v :: xs) := fun y hy => by
  rcases List.mem_cons.mp hy with e | e
  · rw [e]; exact a
  · exact b y e
theorem RowAt.parts {H : Hp} {r : List Part} {v : V} (h : RowAt H r v) : ∃ a vs, v = .ref a ∧ H a = some (.tup vs) ∧ ThsAt H (thR r) vs := by
  obtain ⟨a, vs, e, h1, h2⟩ := at_thRow h
  exact ⟨a, vs, e, h1, h2⟩
end Wk

set_option Elab.async false
set_option linter.all false
set_option maxRecDepth 100000
set_option maxHeartbeats 4000000
/-! repr of things of tuples, ints and texts; sum of a tuple of ints. -/
namespace Wk
open PySem PySem.Spec PyProof.Rows L2
mutual
def dataT : Th → PyData
  | .str z => .str z
  | .int i => .int i
  | .bl b => .bool b
  | .tup xs => .tuple (dataTs xs)
  | .lst xs => .list (dataTs xs)
  | _ => .none
def dataTs : List Th → List PyData
  | [] => []
  | t :: ts => dataT t :: dataTs ts
end
section
variable {X : Cx} {pins : List (Addr × Obj)} {σ : L2.St} {H : Hp} {s : Shared}
mutual
theorem th_reads (I : Inv X pins σ H s) : ∀ (t : Th) (v : V) (u : Value), pureT t → ThAt H t v → RelV v u → ∃ as, Reads s.heap u (dataT t) as
  | .str z, v, u, _, h, r => by
    have h : v = .str z := h
    subst h
    obtain ⟨k, rfl⟩ := (show ∃ k, u = Value.str z k from r)
    exact ⟨_, .str z k⟩
  | .int i, v, u, _, h, r => by
    have h : v = .int i := h
    subst h
    obtain ⟨k, rfl⟩ := (show ∃ k, u = Value.int i k from r)
    exact ⟨_, .int i k⟩
  | .non, v, u, _, h, r => by
    have h : v = .non := h
    subst h
    cases (show u = Value.none from r)
    exact ⟨_, .none⟩
  | .bl b, v, u, _, h, r => by
    have h : v = .bl b := h
    subst h
    cases (show u = Value.bool b from r)
    exact ⟨_, .bool b⟩
  | .lst xs, v, u, p, _, _ => p.elim
  | .dct, v, u, p, _, _ => p.elim
  | .tup xs, v, u, p, h, r => by
    obtain ⟨a, vs, rfl, h1, h2⟩ := h
    cases (show u = Value.ref a from r)
    obtain ⟨_, its, rv, o, e1, e2, n, e3⟩ := (show ObjOk X.prog X.w H s.heap a (.tup vs) from I.hok a _ h1)
    obtain ⟨as, ra⟩ := ths_reads I xs vs its p h2 rv
    exact ⟨as, .tuple e1 e2 e3 ra⟩
theorem ths_reads (I : Inv X pins σ H s) : ∀ (ts : List Th) (vs : List V) (us : List Value), pureTs ts → ThsAt H ts vs → Vals vs us → ∃ as, ReadsAll s.heap us (dataTs ts) as
  | [], vs, us, _, h, r => by
    have h : vs = [] := h
    subst h
    cases r
    exact ⟨_, .nil⟩
  | t :: ts, vs, us, p, h, r => by
    obtain ⟨v, ws, rfl, h1, h2⟩ := h
    cases r with
    | cons r1 r2 =>
      obtain ⟨as, g1⟩ := th_reads I t v _ p.1 h1 r1
      obtain ⟨bs, g2⟩ := ths_reads I ts ws _ p.2 h2 r2
      exact ⟨_, .cons g1 g2⟩
end
end
def rRepr : List V → Hp → VK → Prop := fun xs H Q => ∃ (a : Addr) (t : Th), xs = [.ref a] ∧ ThAt H t (.ref a) ∧ pureT t ∧ (dataT t).showable = true ∧ (dataT t).hasDict = false ∧ (dataT t).depth ≤ 30 ∧ (dataT t).shown.length ≤ sizeLine ∧ Q (.str (dataT t).shown) H
theorem call_reprT {X : Cx} (gX : X.A.guards = some []) (hu : X.A.units + 64 < cLine) : CallR X (.builtin "repr") rRepr := by
  intro pins s σ H xs us Q I r h
  obtain ⟨a, t, rfl, ht, pt, hs, hd, hdp, hz, q⟩ := h
  rw [Vals.ref1 r]
  obtain ⟨as, rd⟩ := th_reads I t (.ref a) (.ref a) pt ht rfl
  exact repr_of_reads' rd hs (fun z => by rw [hd] at z; cases z) gX (by omega) (fun _ _ e => e) (fun h' u tk hk => ⟨.str _, H, I.kept hk, ⟨u, rfl⟩, q⟩) hz
theorem preSum_take (ns : List Int) : ∀ k, k ≤ ns.length → preSum (fun i => (ns[i]?).getD 0) k = (ns.take k).sum
  | 0, _ => by simp [preSum]
  | k + 1, h => by
    have hk : k < ns.length := h
    rw [preSum, preSum_take ns k (Nat.le_of_lt hk), List.take_add_one, List.sum_append, List.getElem?_eq_getElem hk]
    simp
theorem vals_nth : ∀ {ns : List Int} {its : List Value}, Vals (ns.map V.int) its → ∀ {i : Nat} {v : Value}, its[i]? = some v → ∃ t, v = .int ((ns[i]?).getD 0) t
  | [], its, h, i, v, e => by
    rw [List.map_nil] at h
    cases h
    cases e
  | m :: ns, its, h, i, v, e => by
    rw [List.map_cons] at h
    cases h with
    | cons r1 r2 =>
      cases i with
      | zero =>
        cases e
        exact r1
      | succ i => exact vals_nth r2 e
def rSumT : List V → Hp → VK → Prop := fun vs H Q => ∃ (a : Addr) (ns : List Int), vs = [V.ref a] ∧ H a = some (.tup (ns.map V.int)) ∧ Q (.int ns.sum) H
theorem cr_sumT {X : Cx} (hc : X.calm = true) : CallR X (.builtin "sum") rSumT := by
  intro pins s σ H vs us Q I r h
  obtain ⟨a, ns, rfl, hT, q⟩ := h
  rw [Vals.ref1 r]
  obtain ⟨_, its, rv, ht⟩ := (show ObjOk X.prog X.w H s.heap a (.tup (ns.map V.int)) from I.hok a _ hT)
  have lt : a < s.heap.objs.size := ht.lt
  have ln : its.length = ns.length := by rw [← rv.length, List.length_map]
  refine call_sum_walkG (iter_tuple ht ?_)
  refine ⟨_, _, _, _, _, _, fun i => (ns[i]?).getD 0, rfl, Walks.tuple (A := X.A.in1) (I.ok.hd hc) _ a (Nat.ne_of_lt lt) its.toArray, ⟨⟨_, Heap.get?_push_size _ rfl, rfl, rfl⟩, ?_⟩, fun b hb => ?_, fun i v e => vals_nth rv (by simpa using e), fun h' tk t' hk => ?_⟩
  · exact ht.push _
  · rw [Heap.size_push]
    rcases List.mem_cons.mp hb with e | e
    · rw [e]; exact Nat.lt_succ_self _
    · rw [List.mem_singleton.mp e]; exact Nat.lt_succ_of_lt lt
  · have e : preSum (fun i => (ns[i]?).getD 0) its.toArray.size = ns.sum := by
      rw [List.size_toArray, ln, preSum_take ns _ (Nat.le_refl _), List.take_length]
    rw [e]
    refine ⟨.int _, H, I.kept fun b o z => hk b o (fun m => ?_) (Heap.get?_push_of_some _ z), ⟨t', rfl⟩, q⟩
    rw [List.mem_singleton.mp m] at z
    exact absurd (Heap.lt_size z) (Nat.lt_irrefl _)
end Wk

set_option Elab.async false
set_option linter.all false
set_option maxRecDepth 100000
set_option maxHeartbeats 4000000
/-! A tuple compared with the one without items. -/
namespace Wk
open PySem PySem.Spec PyProof.Rows L2 GxR
def rNeT0 (K : PySem.W.Frag) : R2 := fun x y H Q => ∃ (a b : Addr) (xs : List V), x = .ref a ∧ y = .ref b ∧ SqT K H a xs ∧ SqT K H b [] ∧ Q (.bl (!xs.isEmpty)) H
theorem op_neT0 {X : Cx} (hu : X.A.units + 64 < cLine) : OpR X (compareOp .NotEq) (rNeT0 X.K) := by
  intro pins s σ H x y v u Q I rx ry h
  obtain ⟨a, b, xs, rfl, rfl, ha, hb, q⟩ := h
  cases rx
  cases ry
  obtain ⟨its, r1, ⟨o, h1, h2, n, h3⟩, _⟩ := I.tuple ha
  obtain ⟨its2, r2, ⟨o2, k1, k2, n2, k3⟩, _⟩ := I.tuple hb
  cases r2
  have l1 := r1.length
  have t := SeqAt.RcNeAt.tuples (A := X.A) (s := s) (e := fun _ => true) (items := its.toArray) (items2 := #[]) ⟨o, h1, h2, n, h3⟩ ⟨o2, k1, k2, n2, k3⟩ (by omega) (fun j j1 j2 => absurd j2 (by simp))
  refine t X.prog X.w X.xe _ ?_
  have e : (!(((List.range (min its.toArray.size (#[] : Array Value).size)).all fun _ => true) && its.toArray.size == (#[] : Array Value).size)) = !xs.isEmpty := by
    have a1 : ((List.range (min its.toArray.size (#[] : Array Value).size)).all fun _ => true) = true := List.all_eq_true.mpr fun _ _ => rfl
    rw [a1, Bool.true_and, List.size_toArray, ← l1]
    cases xs <;> rfl
  exact ⟨.bl (!xs.isEmpty), H, I, by rw [← e]; rfl, q⟩
/-! ### the law's own look -/
def spLName : Sp := fun vs H Q _ => ∃ (v : V) (t : Th), vs = [v] ∧ ThAt H t v ∧ okT t ∧ ∀ H', Same H H' → Q (.bl (nmT t)) H'
def spLRow (n : Nat) : Sp := fun vs H Q _ => ∃ (v : V) (t : Th) (m : Nat), vs = [v, .int m] ∧ ThAt H t v ∧ okT t ∧ m < n ∧ ∀ (H' : Hp) (b : Bool), Same H H' → (b = true ↔ ∃ r, t = thRow r ∧ okR NmOk r ∧ deepR r ≤ m) → Q (.bl b) H'
theorem wordB_eq (z : Str) : wordB z abc = (decide (1 ≤ z.length) && (decide (z.length ≤ 6) && z.cps.toList.all fun c => decide (c ∈ abc.cps.toList))) := rfl
/-- one thing is a part of a row of at most m more levels -/
def PartT (m : Nat) (x : Th) : Prop := ∃ p, x = thP p ∧ okP NmOk p ∧ deepP p ≤ m
theorem row_parts : ∀ (xs : List Th) (m : Nat), (∀ x ∈ xs, PartT m x) → ∃ r : List Part, xs = thR r ∧ okR NmOk r ∧ deepR r ≤ m
  | [], m, _ => ⟨[], rfl, trivial, Nat.zero_le _⟩
  | x :: xs, m, h => by
    obtain ⟨p, e, h1, h2⟩ := h x List.mem_cons_self
    obtain ⟨r, e2, h3, h4⟩ := row_parts xs m fun y hy => h y (List.mem_cons_of_mem _ hy)
    exact ⟨p :: r, by rw [e, e2]; rfl, ⟨h1, h3⟩, by show max (deepP p) (deepR r) ≤ m; omega⟩
theorem parts_row {xs : List Th} {m : Nat} {r : List Part} (e : xs = thR r) (h : okR NmOk r) (hd : deepR r ≤ m) : ∀ x ∈ xs, PartT m x := fun x hx => by
  rw [e, thR_map] at hx
  obtain ⟨p, hp, rfl⟩ := List.mem_map.mp hx
  exact ⟨p, rfl, h.mem p hp, Nat.le_trans (deepR.mem p hp) hd⟩
def sizV : List (Key × V) := [(Sum.inr "say", .int 2), (Sum.inr "again", .int 2), (Sum.inr "room", .int 3), (Sum.inr "in", .int 3), (Sum.inr "out", .int 3), (Sum.inr "open", .int 3), (Sum.inr "hear", .int 3), (Sum.inr "new", .int 3)]
theorem sizV_get (z : Str) : (valV sizV (Sum.inr z)).getD .non = szV z := by
  have step : ∀ (k : Str) (v : V) (r : List (Key × V)), valV ((Sum.inr k, v) :: r) (Sum.inr z) = if z = k then some v else valV r (Sum.inr z) := fun k v r => by
    by_cases c : z = k
    · rw [if_pos c, c]; exact valV_pos rfl
    · rw [if_neg c]; exact valV_neg (fun e => c (Sum.inr.inj e).symm)
  unfold sizV szV szOf
  rw [step, step, step, step, step, step, step, step, valV_nil]
  by_cases c1 : z = "say"
  · subst c1; rfl
  by_cases c2 : z = "again"
  · subst c2; rfl
  by_cases c3 : z = "room"
  · subst c3; rfl
  by_cases c4 : z = "in"
  · subst c4; rfl
  by_cases c5 : z = "out"
  · subst c5; rfl
  by_cases c6 : z = "open"
  · subst c6; rfl
  by_cases c7 : z = "hear"
  · subst c7; rfl
  by_cases c8 : z = "new"
  · subst c8; rfl
  simp only [if_neg c1, if_neg c2, if_neg c3, if_neg c4, if_neg c5, if_neg c6, if_neg c7, if_neg c8]
  rfl
end Wk

set_option Elab.async false
set_option linter.all false
set_option maxRecDepth 100000
set_option maxHeartbeats 4000000
/-! A list compared with the one without items; the signs of a text that are none of some. -/
namespace Wk
open PySem PySem.Spec PyProof.Rows L2 GxR
def rEqL0 (K : PySem.W.Frag) (neg : Bool) : R2 := fun x y H Q => ∃ (a b : Addr) (xs : List V), x = .ref a ∧ y = .ref b ∧ SqL K H a xs ∧ SqL K H b [] ∧ Q (.bl (if neg then !xs.isEmpty else xs.isEmpty)) H
theorem op_eqL0 {X : Cx} (hu : X.A.units + 64 < cLine) : OpR X (compareOp .Eq) (rEqL0 X.K false) := by
  intro pins s σ H x y v u Q I rx ry h
  obtain ⟨a, b, xs, rfl, rfl, ha, hb, q⟩ := h
  cases rx
  cases ry
  obtain ⟨its, r1, ⟨o, n, h1, h2, _, h3⟩, _⟩ := I.list ha
  obtain ⟨its2, r2, ⟨o2, n2, k1, k2, _, k3⟩, _⟩ := I.list hb
  cases r2
  have l1 := r1.length
  cases xs with
  | nil =>
    have e0 : its = [] := List.length_eq_zero_iff.mp l1.symm
    subst e0
    have t := SeqAt.RcAt.lists (A := X.A) (s := s) (e := fun _ => true) (items := #[]) (items2 := #[]) ⟨o, h1, h2, n, h3⟩ ⟨o2, k1, k2, n2, k3⟩ rfl (by omega) (fun j j1 j2 => absurd j2 (by simp))
    refine t X.prog X.w X.xe _ ?_
    exact ⟨.bl true, H, I, rfl, q⟩
  | cons x0 xs0 =>
    have t := SeqAt.RcAt.lists_lengths (A := X.A) (s := s) (items := its.toArray) (items2 := #[]) ⟨o, h1, h2, n, h3⟩ ⟨o2, k1, k2, n2, k3⟩ (by rw [List.size_toArray, ← l1]; rfl) (by omega)
    refine t X.prog X.w X.xe _ ?_
    exact ⟨.bl false, H, I, rfl, q⟩
theorem op_neL0 {X : Cx} (hu : X.A.units + 64 < cLine) : OpR X (compareOp .NotEq) (rEqL0 X.K true) := by
  intro pins s σ H x y v u Q I rx ry h
  obtain ⟨a, b, xs, rfl, rfl, ha, hb, q⟩ := h
  cases rx
  cases ry
  obtain ⟨its, r1, ⟨o, n, h1, h2, _, h3⟩, _⟩ := I.list ha
  obtain ⟨its2, r2, ⟨o2, n2, k1, k2, _, k3⟩, _⟩ := I.list hb
  cases r2
  have l1 := r1.length
  cases xs with
  | nil =>
    have e0 : its = [] := List.length_eq_zero_iff.mp l1.symm
    subst e0
    have t := SeqAt.RcNeAt.lists (A := X.A) (s := s) (e := fun _ => true) (items := #[]) (items2 := #[]) ⟨o, h1, h2, n, h3⟩ ⟨o2, k1, k2, n2, k3⟩ rfl (by omega) (fun j j1 j2 => absurd j2 (by simp))
    refine t X.prog X.w X.xe _ ?_
    exact ⟨.bl false, H, I, rfl, q⟩
  | cons x0 xs0 =>
    have t := SeqAt.RcNeAt.lists_lengths (A := X.A) (s := s) (items := its.toArray) (items2 := #[]) ⟨o, h1, h2, n, h3⟩ ⟨o2, k1, k2, n2, k3⟩ (by rw [List.size_toArray, ← l1]; rfl) (by omega)
    refine t X.prog X.w X.xe _ ?_
    exact ⟨.bl true, H, I, rfl, q⟩
/-- the signs that are none of sg -/
def bad (sg : Str) (l : List Nat) : List Nat := l.filter fun c => !decide (c ∈ sg.cps.toList)
def badV (sg : Str) (l : List Nat) : List V := (bad sg l).map fun c => .str ⟨#[c]⟩
theorem badV_take {sg : Str} {l : List Nat} {i c : Nat} (h : l[i]? = some c) : badV sg (l.take (i + 1)) = badV sg (l.take i) ++ (if c ∈ sg.cps.toList then [] else [.str ⟨#[c]⟩]) := by
  unfold badV bad
  rw [List.take_add_one, h, List.filter_append, List.map_append]
  congr 1
  by_cases hc : c ∈ sg.cps.toList
  · rw [if_pos hc]
    simp only [Option.toList, List.filter, decide_eq_true hc, Bool.not_true, List.map_nil]
  · rw [if_neg hc]
    simp only [Option.toList, List.filter, decide_eq_false hc, Bool.not_false, List.map_cons, List.map_nil]
theorem badV_none (sg : Str) : ∀ l : List Nat, (badV sg l).isEmpty = l.all fun c => decide (c ∈ sg.cps.toList)
  | [] => rfl
  | c :: r => by
    by_cases hc : c ∈ sg.cps.toList
    · have e : badV sg (c :: r) = badV sg r := by
        unfold badV
        rw [show bad sg (c :: r) = bad sg r from List.filter_cons_of_neg (by rw [decide_eq_true hc]; decide)]
      rw [e, badV_none sg r, List.all_cons, decide_eq_true hc, Bool.true_and]
    · have e : bad sg (c :: r) = c :: bad sg r := List.filter_cons_of_pos (by rw [decide_eq_false hc]; rfl)
      unfold badV
      rw [e, List.all_cons, decide_eq_false hc, Bool.false_and, List.map_cons]
      rfl
theorem badV_len {sg z : Str} (h : z.length ≤ 6) (i : Nat) : (badV sg (z.cps.toList.take i)).length < sizeLine := by
  have h1 : (badV sg (z.cps.toList.take i)).length ≤ 6 := by
    unfold badV bad
    rw [List.length_map]
    refine Nat.le_trans (List.length_filter_le _ _) ?_
    rw [List.length_take, Array.length_toList]
    exact Nat.le_trans (Nat.min_le_right _ _) h
  have : 1000 < sizeLine := by decide
  omega
end Wk

set_option Elab.async false
set_option linter.all false
set_option maxRecDepth 100000
set_option maxHeartbeats 1000000
/-! Places and what they hold: reaching one from another; dicts of lists of pairs of texts. -/
namespace Wk
open PySem PySem.Spec PyProof.Rows L2 GxR
inductive RchP (g : Str → List Str) (b : Str) : Str → Prop
  | one {x : Str} : x ∈ g b → RchP g b x
  | step {y x : Str} : RchP g b y → x ∈ g y → RchP g b x
abbrev EntP := Str × Str
abbrev HldP := Str × List EntP
def entH (hs : List HldP) (p : Str) : List EntP := ((hs.find? fun h => decide (h.1 = p)).map (·.2)).getD []
def roomsE (es : List EntP) : List Str := (es.filter fun e => decide (e.1 = ("room" : Str))).map (·.2)
def adjH (hs : List HldP) (p : Str) : List Str := roomsE (entH hs p)
def univH (hs : List HldP) : List Str := (hs.map fun h => h.2.map (·.2)).flatten
theorem roomsE_app (a b : List EntP) : roomsE (a ++ b) = roomsE a ++ roomsE b := by unfold roomsE; rw [List.filter_append, List.map_append]
theorem roomsE_mem {es : List EntP} {x : Str} : x ∈ roomsE es ↔ (("room" : Str), x) ∈ es := by
  unfold roomsE
  constructor
  · intro h
    obtain ⟨e, he, rfl⟩ := List.mem_map.mp h
    obtain ⟨h1, h2⟩ := List.mem_filter.mp he
    have h3 : e.1 = "room" := of_decide_eq_true h2
    rw [← h3]
    exact h1
  · intro h
    exact List.mem_map.mpr ⟨_, List.mem_filter.mpr ⟨h, decide_eq_true rfl⟩, rfl⟩
theorem roomsE_len (es : List EntP) : (roomsE es).length ≤ es.length := by
  unfold roomsE
  rw [List.length_map]
  exact List.length_filter_le _ _
theorem entH_cases (hs : List HldP) (p : Str) : entH hs p = [] ∨ ∃ h ∈ hs, h.1 = p ∧ entH hs p = h.2 := by
  unfold entH
  cases e : hs.find? fun h => decide (h.1 = p) with
  | none => exact .inl rfl
  | some h => exact .inr ⟨h, List.mem_of_find?_eq_some e, of_decide_eq_true (List.find?_some (p := fun h : HldP => decide (h.1 = p)) e), rfl⟩
theorem adj_univ {hs : List HldP} {p x : Str} (h : x ∈ adjH hs p) : x ∈ univH hs := by
  have h := roomsE_mem.mp h
  rcases entH_cases hs p with e | ⟨k, hk, _, e⟩
  · rw [e] at h; cases h
  · rw [e] at h
    exact List.mem_flatten.mpr ⟨_, List.mem_map.mpr ⟨k, hk, rfl⟩, List.mem_map.mpr ⟨_, h, rfl⟩⟩
theorem entH_len {hs : List HldP} {n : Nat} (hl : ∀ h ∈ hs, h.2.length ≤ n) (p : Str) : (entH hs p).length ≤ n := by
  rcases entH_cases hs p with e | ⟨k, hk, _, e⟩
  · rw [e]; exact Nat.zero_le _
  · rw [e]; exact hl k hk
theorem univ_len {n : Nat} : ∀ {hs : List HldP}, (∀ h ∈ hs, h.2.length ≤ n) → (univH hs).length ≤ n * hs.length
  | [], _ => Nat.zero_le _
  | k :: hs, hl => by
    have ih := univ_len (hs := hs) fun h hh => hl h (List.mem_cons_of_mem _ hh)
    have h0 := hl k List.mem_cons_self
    have e : univH (k :: hs) = k.2.map (·.2) ++ univH hs := rfl
    rw [e, List.length_append, List.length_map, List.length_cons, Nat.mul_succ]
    omega
/-! ### in the heap -/
def EnsAt (H : Hp) : List EntP → List V → Prop
  | [], xs => xs = []
  | e :: es, xs => ∃ b us, xs = .ref b :: us ∧ H b = some (.tup [.str e.1, .str e.2]) ∧ EnsAt H es us
def HldsAt (H : Hp) : List HldP → List (Key × V) → Prop
  | [], kvs => kvs = []
  | h :: hs, kvs => ∃ l xs us, kvs = (Sum.inr h.1, .ref l) :: us ∧ H l = some (.lst xs) ∧ EnsAt H h.2 xs ∧ HldsAt H hs us
theorem EnsAt.tup {H H' : Hp} (s : STup H H') : ∀ {es : List EntP} {xs : List V}, EnsAt H es xs → EnsAt H' es xs
  | [], _, h => h
  | e :: es, _, h => by
    obtain ⟨b, us, rfl, h1, h2⟩ := h
    exact ⟨b, us, rfl, s _ _ h1, EnsAt.tup s h2⟩
theorem EnsAt.len {H : Hp} : ∀ {es : List EntP} {xs : List V}, EnsAt H es xs → xs.length = es.length
  | [], _, h => by rw [show _ = [] from h]; rfl
  | e :: es, _, h => by
    obtain ⟨b, us, rfl, h1, h2⟩ := h
    rw [List.length_cons, List.length_cons, EnsAt.len h2]
theorem EnsAt.get {H : Hp} : ∀ {es : List EntP} {xs : List V} {i : Nat} {v : V}, EnsAt H es xs → xs[i]? = some v → ∃ e b, es[i]? = some e ∧ v = .ref b ∧ H b = some (.tup [.str e.1, .str e.2])
  | [], _, i, v, h, e => by
    rw [show _ = [] from h] at e
    cases e
  | k :: es, _, i, v, h, e => by
    obtain ⟨b, us, rfl, h1, h2⟩ := h
    cases i with
    | zero =>
      cases e
      exact ⟨k, b, rfl, rfl, h1⟩
    | succ i => exact EnsAt.get (i := i) h2 e
theorem EnsAt.snoc {H : Hp} {e : EntP} {b : Addr} (hb : H b = some (.tup [.str e.1, .str e.2])) : ∀ {es : List EntP} {xs : List V}, EnsAt H es xs → EnsAt H (es ++ [e]) (xs ++ [.ref b])
  | [], _, h => by
    rw [show _ = [] from h]
    exact ⟨b, [], rfl, hb, rfl⟩
  | k :: es, _, h => by
    obtain ⟨b', us, rfl, h1, h2⟩ := h
    exact ⟨b', _, rfl, h1, EnsAt.snoc hb h2⟩
theorem HldsAt.same {H H' : Hp} (s : Same H H') : ∀ {hs : List HldP} {kvs : List (Key × V)}, HldsAt H hs kvs → HldsAt H' hs kvs
  | [], _, h => h
  | k :: hs, _, h => by
    obtain ⟨l, xs, us, rfl, h1, h2, h3⟩ := h
    exact ⟨l, xs, us, rfl, s _ _ h1, EnsAt.tup (STup.of s) h2, HldsAt.same s h3⟩
theorem HldsAt.len {H : Hp} : ∀ {hs : List HldP} {kvs : List (Key × V)}, HldsAt H hs kvs → kvs.length = hs.length
  | [], _, h => by rw [show _ = [] from h]; rfl
  | k :: hs, _, h => by
    obtain ⟨l, xs, us, rfl, h1, h2, h3⟩ := h
    rw [List.length_cons, List.length_cons, HldsAt.len h3]
theorem HldsAt.val {H : Hp} : ∀ {hs : List HldP} {kvs : List (Key × V)}, HldsAt H hs kvs → ∀ p : Str, (valV kvs (Sum.inr p) = none ∧ entH hs p = []) ∨ ∃ l xs, valV kvs (Sum.inr p) = some (.ref l) ∧ H l = some (.lst xs) ∧ EnsAt H (entH hs p) xs
  | [], _, h, p => by
    rw [show _ = [] from h]
    exact .inl ⟨rfl, rfl⟩
  | k :: hs, _, h, p => by
    obtain ⟨l, xs, us, rfl, h1, h2, h3⟩ := h
    by_cases c : k.1 = p
    · have e : entH (k :: hs) p = k.2 := by
        unfold entH
        rw [List.find?_cons_of_pos (p := fun h : HldP => decide (h.1 = p)) (decide_eq_true c)]
        rfl
      rw [e]
      exact .inr ⟨l, xs, valV_pos (by rw [c]), h1, h2⟩
    · have e : entH (k :: hs) p = entH hs p := by
        unfold entH
        rw [List.find?_cons_of_neg (p := fun h : HldP => decide (h.1 = p)) (fun z => c (of_decide_eq_true z))]
      rw [e, valV_neg (fun z => c (Sum.inr.inj z))]
      exact HldsAt.val h3 p
theorem HldsAt.key {H : Hp} : ∀ {hs : List HldP} {kvs : List (Key × V)} {i : Nat} {k : Key} {v : V}, HldsAt H hs kvs → kvs[i]? = some (k, v) → ∃ h, hs[i]? = some h ∧ k = Sum.inr h.1
  | [], _, i, k, v, h, e => by
    rw [show _ = [] from h] at e
    cases e
  | h0 :: hs, _, i, k, v, h, e => by
    obtain ⟨l, xs, us, rfl, h1, h2, h3⟩ := h
    cases i with
    | zero =>
      cases e
      exact ⟨h0, rfl, rfl⟩
    | succ i => exact HldsAt.key (i := i) h3 e
theorem HldsAt.snoc {H : Hp} {k : HldP} {l : Addr} {xs : List V} (h1 : H l = some (.lst xs)) (h2 : EnsAt H k.2 xs) : ∀ {hs : List HldP} {kvs : List (Key × V)}, HldsAt H hs kvs → HldsAt H (hs ++ [k]) (kvs ++ [(Sum.inr k.1, .ref l)])
  | [], _, h => by
    rw [show _ = [] from h]
    exact ⟨l, xs, [], rfl, h1, h2, rfl⟩
  | h0 :: hs, _, h => by
    obtain ⟨l', xs', us, rfl, g1, g2, g3⟩ := h
    exact ⟨l', xs', _, rfl, g1, g2, HldsAt.snoc h1 h2 g3⟩
/-- a value is none where no place is called so -/
theorem HldsAt.no {H : Hp} : ∀ {hs : List HldP} {kvs : List (Key × V)}, HldsAt H hs kvs → ∀ {p : Str}, (∀ h ∈ hs, h.1 ≠ p) → valV kvs (Sum.inr p) = none
  | [], _, h, p, _ => by
    rw [show _ = [] from h]
    rfl
  | k :: hs, _, h, p, no => by
    obtain ⟨l, xs, us, rfl, h1, h2, h3⟩ := h
    rw [valV_neg (fun z => no k List.mem_cons_self (Sum.inr.inj z))]
    exact HldsAt.no h3 fun x hx => no x (List.mem_cons_of_mem _ hx)
/-! ### a pair in a list of pairs -/
open Classical in
noncomputable def isPr (H : Hp) (w n : Str) : Value → Bool
  | .ref b => decide (H b = some (.tup [.str w, .str n]))
  | _ => false
def rInPair (K : PySem.W.Frag) : R2 := fun x y H Q => ∃ (c p : Addr) (w n : Str) (xs : List V) (es : List EntP), x = .ref c ∧ y = .ref p ∧ H c = some (.tup [.str w, .str n]) ∧ SqL K H p xs ∧ EnsAt H es xs ∧ Q (.bl (decide ((w, n) ∈ es))) H
section
variable {X : Cx}
theorem any_pr {H : Hp} {w n : Str} : ∀ {es : List EntP} {xs : List V} {us : List Value}, EnsAt H es xs → Vals xs us → us.any (isPr H w n) = decide ((w, n) ∈ es)
  | [], _, us, h, r => by
    rw [show _ = [] from h] at r
    cases r
    rfl
  | e :: es, _, us, h, r => by
    obtain ⟨b, vs, rfl, h1, h2⟩ := h
    cases r with
    | cons r1 r2 =>
      cases r1
      rw [List.any_cons, any_pr h2 r2]
      have e1 : isPr H w n (.ref b) = decide (e = (w, n)) := by
        unfold isPr
        rw [decide_eq_decide, h1]
        constructor
        · intro z
          have z2 := HO.tup.inj (Option.some.inj z)
          obtain ⟨z3, z4⟩ := List.cons.inj z2
          obtain ⟨z5, _⟩ := List.cons.inj z4
          exact Prod.ext (V.str.inj z3) (V.str.inj z5)
        · rintro rfl
          rfl
      rw [e1]
      by_cases c : e = (w, n)
      · rw [decide_eq_true c, Bool.true_or, decide_eq_true (by rw [c]; exact List.mem_cons_self)]
      · rw [decide_eq_false c, Bool.false_or, decide_eq_decide]
        exact ⟨fun z => List.mem_cons_of_mem _ z, fun z => (List.mem_cons.mp z).elim (fun z => absurd z.symm c) id⟩
theorem pr_eq {A : Around} {pins : List (Addr × Obj)} {σ : L2.St} {H : Hp} {s : Shared} (I : Inv X pins σ H s) (hu : A.units < cLine) {b c : Addr} {w n w' n' : Str} (hb : H b = some (.tup [.str w', .str n'])) (hc : H c = some (.tup [.str w, .str n])) :
    SeqAt.EqAt A s (.ref b) (.ref c) (isPr H w n (.ref b)) := by
  have e1 : isPr H w n (.ref b) = decide ((w', n') = (w, n)) := by
    unfold isPr
    rw [decide_eq_decide, hb]
    constructor
    · intro z
      have z2 := HO.tup.inj (Option.some.inj z)
      obtain ⟨z3, z4⟩ := List.cons.inj z2
      obtain ⟨z5, _⟩ := List.cons.inj z4
      exact Prod.ext (V.str.inj z3) (V.str.inj z5)
    · intro z
      cases z
      rfl
  by_cases ne : b = c
  · subst ne
    rw [hb] at hc
    have z2 := HO.tup.inj (Option.some.inj hc)
    obtain ⟨z3, z4⟩ := List.cons.inj z2
    obtain ⟨z5, _⟩ := List.cons.inj z4
    rw [e1, decide_eq_true (Prod.ext (V.str.inj z3) (V.str.inj z5))]
    exact SeqAt.EqAt.same _
  · refine SeqAt.EqAt.of_refs ne ?_
    obtain ⟨_, its, r1, o, h1, h2, m, h3⟩ := (show ObjOk X.prog X.w H s.heap b (.tup [.str w', .str n']) from I.hok b _ hb)
    obtain ⟨_, its2, r2, o2, k1, k2, m2, k3⟩ := (show ObjOk X.prog X.w H s.heap c (.tup [.str w, .str n]) from I.hok c _ hc)
    cases r1 with
    | cons a1 t1 =>
      cases t1 with
      | cons a2 t2 =>
        cases t2
        cases r2 with
        | cons b1 u1 =>
          cases u1 with
          | cons b2 u2 =>
            cases u2
            obtain ⟨t1, rfl⟩ := a1
            obtain ⟨t2, rfl⟩ := a2
            obtain ⟨t3, rfl⟩ := b1
            obtain ⟨t4, rfl⟩ := b2
            have t := SeqAt.RcAt.tuples (A := A) (s := s) (e := fun j => if j = 0 then w' == w else n' == n) ⟨o, h1, h2, m, h3⟩ ⟨o2, k1, k2, m2, k3⟩ hu (fun j j1 j2 => by
              match j, j1, j2 with
              | 0, _, _ => exact SeqAt.EqAt.str_str _ _ _ _
              | 1, _, _ => exact SeqAt.EqAt.str_str _ _ _ _
              | j + 2, j1, _ => exact absurd j1 (by show ¬ j + 2 < 2; omega))
            have e2 : (((List.range (min 2 2)).all fun j => if j = 0 then w' == w else n' == n) && (2 == 2)) = decide ((w', n') = (w, n)) := by
              show ((w' == w) && ((n' == n) && true) && true) = _
              rw [Bool.and_true, Bool.and_true, Bool.eq_iff_iff, Bool.and_eq_true_iff, decide_eq_true_iff, Prod.mk.injEq, beq_iff_eq, beq_iff_eq]
            rw [e1, ← e2]
            exact t
theorem op_inPair (hu : X.A.units + 64 < cLine) : OpR X (compareOp .In) (rInPair X.K) := by
  intro pins s σ H x y v u Q I rx ry h
  obtain ⟨c, p, w, n, xs, es, rfl, rfl, hc, hq, he, q⟩ := h
  cases rx
  cases ry
  obtain ⟨its, rv, hl, _⟩ := I.list hq
  have hu1 : X.A.in1.units < cLine := by show X.A.units + 1 < cLine; omega
  refine SeqAt.in_listAt (isPr H w n) hl.isList (fun z hz => ?_) ⟨.bl _, H, I, rfl, ?_⟩
  · have hz : z ∈ its := by simpa using hz
    obtain ⟨i, hi⟩ := List.getElem?_of_mem hz
    have hlt : i < xs.length := by
      rw [rv.length]
      exact (List.getElem?_eq_some_iff.mp hi).1
    obtain ⟨e, b, _, ev, hb⟩ := EnsAt.get he (List.getElem?_eq_getElem hlt)
    obtain ⟨u', hu', rz⟩ := rv.get (List.getElem?_eq_getElem hlt)
    have eu : u' = z := Option.some.inj (hu'.symm.trans hi)
    subst eu
    rw [ev] at rz
    cases rz
    exact pr_eq I hu1 hb hc
  · rw [show its.toArray.any (isPr H w n) = its.any (isPr H w n) by simp, any_pr he rv]
    exact q
end
/-! ### a dict comprehension over a walk -/
theorem dc_it {J : It} {n : Nat} {G : Hp → Prop} {Y : Nat → Hp → V → Hp → Prop} (wk : Walk J n G Y) {gt : TG} {tt : TT} {tk tv : TE} {own : List Nat} {τ : L2.St} {Ha : Hp} {D : Addr} {Qe : Hp → Prop} (Pd : Nat → Hp → Prop) (hz : Pd 0 (upd Ha D (.dK []))) (hGd : ∀ j Hj, j ≤ n → Pd j Hj → G Hj)
    (turn : ∀ j v Hj Hk, j < n → Pd j Hj → Y j Hj v Hk → gt v (wipe τ own) Hk fun τ2 Hb => wipe τ2 own = wipe τ own ∧ tt τ2 Hb fun yes Hc =>
      if yes = true then tk τ2 Hc fun kx Hd => tv τ2 Hd fun vx He => ∃ kvs k, kx = kV k ∧ He D = some (.dK kvs) ∧ kvs.length < sizeLine ∧ Pd (j + 1) (upd He D (.dK (putK kvs k vx))) else Pd (j + 1) Hc) (fin : ∀ Hj, Pd n Hj → Qe Hj) :
    ∃ Wd : Nat → Nat → Hp → Prop, (∃ m0, Wd 0 m0 (upd Ha D (.dK []))) ∧ ∀ j m0 Hj, Wd j m0 Hj →
      (J.stop j Hj ∧ Qe Hj) ∨ (J.go j Hj ∧ ∃ Nd : Hp → Prop, (∀ Hk, Nd Hk → ∃ m1, m1 < m0 ∧ Wd (j + 1) m1 Hk) ∧ ∀ v Hk, J.yld j Hj v Hk → gt v (wipe τ own) Hk fun τ2 Hb => wipe τ2 own = wipe τ own ∧ tt τ2 Hb fun yes Hc =>
        if yes = true then tk τ2 Hc fun kx Hd => tv τ2 Hd fun vx He => ∃ kvs k, kx = kV k ∧ He D = some (.dK kvs) ∧ kvs.length < sizeLine ∧ Nd (upd He D (.dK (putK kvs k vx))) else Nd Hc) := by
  refine ⟨fun j m0 Hj => (j ≤ n ∧ m0 + j = n) ∧ Pd j Hj, ⟨n, ⟨Nat.zero_le n, rfl⟩, hz⟩, fun j m0 Hj hW => ?_⟩
  obtain ⟨⟨hj, hm⟩, hP⟩ := hW
  rcases Nat.lt_or_ge j n with lt | ge
  · exact .inr ⟨wk.goes j Hj lt (hGd j Hj hj hP), Pd (j + 1), fun Hk hk => ⟨m0 - 1, by omega, ⟨lt, by omega⟩, hk⟩, fun v Hk hy => turn j v Hj Hk lt hP (wk.yields j Hj v Hk lt (hGd j Hj hj hP) hy)⟩
  · cases (show j = n by omega)
    exact .inl ⟨wk.stops Hj (hGd _ Hj hj hP), fin Hj hP⟩
section
variable {X : Cx}
/-- name = {k: v for ..} on one line -/
theorem ps_setDc {ix : Nat} {z : Str} {pz : Pos} {kx vx tg it : Expr} {ifs : List Expr} {sc : Scope} {own : List (Str × Nat)} {pc ps : Pos} {wi : TI} {gt : TG} {tt : TT} {tk tv : TE} (calm : X.calm = true) (nd : X.N.Nodup) (hz : X.N[ix]? = some z) (loc : X.env.scope.names.lookup z = some .local)
    (sw : swapsWith (.DictComp kx vx [⟨tg, it, ifs, 0⟩] sc pc) (some (.Name z pz)) ps.line X.env = pure true) (pi : PI X tg it wi) (bk : BlkOk X.N X.env.scope sc own)
    (pg : ∀ (s : Shared) (H : Hp) (C : Addr) (cl : List (Str × Addr)) (fp : List Addr), PG (X.blk s H sc (compEnvC sc cl C X.env) fp) tg gt)
    (pt : ∀ (s : Shared) (H : Hp) (C : Addr) (cl : List (Str × Addr)) (fp : List Addr), PTs (X.blk s H sc (compEnvC sc cl C X.env) fp) ifs tt)
    (pk : ∀ (s : Shared) (H : Hp) (C : Addr) (cl : List (Str × Addr)) (fp : List Addr), PE (X.blk s H sc (compEnvC sc cl C X.env) fp) kx tk)
    (pv : ∀ (s : Shared) (H : Hp) (C : Addr) (cl : List (Str × Addr)) (fp : List Addr), PE (X.blk s H sc (compEnvC sc cl C X.env) fp) vx tv) (fs : ∀ x, foldedSetIterable it X.env x = pure x := by intro _; rfl) :
    PS X (.Assign [.Name z pz] (.DictComp kx vx [⟨tg, it, ifs, 0⟩] sc pc) ps) (tAsg (tDc wi gt tt tk tv (own.map (·.2))) (gName ix)) := by
  constructor
  intro pins s σ H D I hw
  rw [exec_Assign_Name_used _ _ _ _ sw]
  apply wpAny_bind
  apply wpAny_standAt
  apply wpAny_bind
  show wpAny _ X.A (do let _ ← comprehension (.DictComp kx vx [⟨tg, it, ifs, 0⟩] sc pc) sc X.env (firstIterPos [⟨tg, it, ifs, 0⟩] pc) newDict false (eval it X.env) (some (assign (.Name z pz) X.env))) _ _ s
  have hw : tDc wi gt tt tk tv (own.map (·.2)) σ H (fun x Hx => gName ix x σ Hx D.nx) := hw
  refine wpAny_bind (thn (dc_core (Qf := fun _ s' => SP X pins D .next s') calm nd I pi bk pg pt pk pv fs hw ?_) (fun _ s' hq => wpAny_pure (wpAny_pure hq)))
  intro L C s' m H' I' q hn f
  show wpAny _ _ (assign (.Name z pz) X.env (.ref L)) _ _ _
  apply wpAny_assign_Name
  refine store_ok2 (v := V.ref L) I' nd hz (.inl loc) rfl ?_ (.inr loc)
  intro s2 I2 ⟨a, sb, ha⟩
  obtain ⟨fA, fB, _, fC, fD, fE⟩ := f
  have Ca : C ≠ a := ha.elim (fun e => by rw [e]; exact fB) (fun e z' => fD z a e z'.symm)
  refine ⟨m, hn.sameBut sb Ca, ?_⟩
  intro h3 sb3
  have I3 := I2.turned (t' := s2.toks) (h' := h3) (fun x ob hx ex => (sb3.2 x hx).trans ex) fA fB fC fD fE
  exact ⟨_, H', I3, q⟩
theorem sw_trueD {kx vx : Expr} {gs : List Comprehension} {sc : Scope} {pc pz : Pos} {z : Str} {l : Nat} {env : Env} (hk : env.scope.kind = .function) (hz : env.scope.names.lookup z = some .local) (hl : (pz.line == pc.line) = true)
    (own : (sc.names.any fun (n, k) => n == z && (k == .local || k == .cell)) = false) : swapsWith (.DictComp kx vx gs sc pc) (some (.Name z pz)) l env = pure true := by
  have e1 : env.kindOf z = some .local := hz
  have e2 : env.blockKind = .function := by
    unfold Env.blockKind
    rw [hk]
    rfl
  unfold swapsWith
  simp only [e2, e1, own, Expr.pos, hl]
  rfl
end
/-! ### promises -/
/-- lists by places: what they name -/
def LstsAt (H : Hp) (kvs : List (Key × V)) (g : Str → List Str) : Prop := ∀ p : Str, (∃ l, valV kvs (Sum.inr p) = some (.ref l) ∧ H l = some (.lst ((g p).map V.str))) ∨ (valV kvs (Sum.inr p) = none ∧ g p = [])
def spAllWithin : Sp := fun vs H Q _ => ∃ (d : Addr) (kvs : List (Key × V)) (g : Str → List Str) (U : List Str) (b : Str), vs = [.ref d, .str b] ∧ H d = some (.dK kvs) ∧ LstsAt H kvs g ∧ (∀ p x, x ∈ g p → x ∈ U) ∧ U.length ≤ 400 ∧ (∀ p, (g p).length ≤ 100) ∧
  ∀ (H' : Hp) (q : Addr) (M : List Str), Same H H' → H' q = some (.lst (M.map V.str)) → (∀ x, x ∈ M ↔ RchP g b x) → Q (.ref q) H'
/-- may one place come within another -/
def spMayCome : Sp := fun vs H Q _ => ∃ (d : Addr) (kvs : List (Key × V)) (hs : List HldP) (a b : Str), vs = [.ref d, .str a, .str b] ∧ H d = some (.dK kvs) ∧ HldsAt H hs kvs ∧ hs.length ≤ 40 ∧ (∀ h ∈ hs, h.2.length ≤ 10) ∧
  ∀ (H' : Hp) (c : Bool), Same H H' → (c = true ↔ RchP (adjH hs) b a) → Q (.bl c) H'
/-- the way there -/
theorem rch_due {g : Str → List Str} {b a : Str} {R : List Str} (hb : b ∈ R) (hR : ∀ x ∈ R, x = b ∨ RchP g b x) (cl : ∀ p ∈ R, ∀ x ∈ g p, x ∈ R) : (∃ p ∈ R, a ∈ g p) ↔ RchP g b a := by
  constructor
  · rintro ⟨p, hp, ha⟩
    rcases hR p hp with rfl | h
    · exact .one ha
    · exact .step h ha
  · intro h
    have all : ∀ x, RchP g b x → x ∈ R ∧ ∃ p ∈ R, x ∈ g p := by
      intro x hx
      induction hx with
      | one h => exact ⟨cl _ hb _ h, b, hb, h⟩
      | step _ h ih => exact ⟨cl _ ih.1 _ h, _, ih.1, h⟩
    exact (all a h).2
theorem rch_met {g : Str → List Str} {b : Str} {M : List Str} (hM : ∀ x ∈ M, RchP g b x) (h0 : ∀ x ∈ g b, x ∈ M) (cl : ∀ p ∈ M, ∀ x ∈ g p, x ∈ M) (x : Str) : x ∈ M ↔ RchP g b x := by
  refine ⟨hM x, fun h => ?_⟩
  induction h with
  | one h => exact h0 _ h
  | step _ h ih => exact cl _ ih _ h
end Wk

set_option Elab.async false
set_option linter.all false
set_option maxRecDepth 100000
set_option maxHeartbeats 1000000
/-! The dict of what was met. -/
namespace Wk
open PySem PySem.Spec PyProof.Rows L2 GxR
/-- a block that takes no name from around -/
theorem blk_any {N : List Str} {sc sc' scope : Scope} {own : List (Str × Nat)} (b : BlkOk N sc scope own) (nf : (scope.names.all fun y => match y.2 with | .free => false | _ => true) = true) : BlkOk N sc' scope own :=
  ⟨b.kind, b.uniq, b.ix, (fun y hy e => by
    have z := List.all_eq_true.mp nf y hy
    rw [e] at z
    exact absurd z (by decide)), b.own⟩
def metK (M : List Str) : List (Key × V) := M.map fun x => (Sum.inr x, V.bl true)
theorem met_none : ∀ {M : List Str} {x : Str}, x ∉ M → valV (metK M) (Sum.inr x) = none
  | [], x, _ => rfl
  | y :: M, x, h => by
    show valV ((Sum.inr y, V.bl true) :: metK M) (Sum.inr x) = none
    rw [valV_neg (fun z => h (by rw [Sum.inr.inj z]; exact List.mem_cons_self))]
    exact met_none fun z => h (List.mem_cons_of_mem _ z)
theorem met_some : ∀ {M : List Str} {x : Str}, x ∈ M → valV (metK M) (Sum.inr x) = some (.bl true)
  | y :: M, x, h => by
    show valV ((Sum.inr y, V.bl true) :: metK M) (Sum.inr x) = _
    by_cases c : y = x
    · rw [valV_pos (by rw [c])]
    · rw [valV_neg (fun z => c (Sum.inr.inj z))]
      exact met_some ((List.mem_cons.mp h).elim (fun z => absurd z.symm c) id)
theorem met_put {M : List Str} {x : Str} (h : x ∉ M) : putK (metK M) (Sum.inr x) (.bl true) = metK (M ++ [x]) := by
  rw [putK_new _ (met_none h)]
  unfold metK
  rw [List.map_append]
  rfl
theorem met_keys (M : List Str) : ((metK M).map fun kv => kV kv.1) = M.map V.str := by
  unfold metK
  rw [List.map_map]
  rfl
theorem met_len (M : List Str) : (metK M).length = M.length := by unfold metK; rw [List.length_map]
theorem rch_univ {g : Str → List Str} {b : Str} {U : List Str} (hU : ∀ p x, x ∈ g p → x ∈ U) {x : Str} (h : RchP g b x) : x ∈ U := by
  cases h with
  | one h => exact hU _ _ h
  | step _ h => exact hU _ _ h
/-- what stands while places are met: M met, T still to be looked at -/
structure MetS (g : Str → List Str) (b : Str) (H0 : Hp) (m t : Addr) (M T : List Str) (H : Hp) : Prop where
  sm : Same H0 H
  hm : H m = some (.dK (metK M))
  ht : H t = some (.lst (T.map V.str))
  nd : M.Nodup
  ok : ∀ x ∈ M, RchP g b x
  tod : ∀ x ∈ T, x = b ∨ x ∈ M
  len : T.length ≤ M.length + 1
section
variable {g : Str → List Str} {b : Str} {H0 H : Hp} {m t : Addr} {M T : List Str}
theorem MetS.put (h : MetS g b H0 m t M T H) (n0m : H0 m = none) (n0t : H0 t = none) (ne : t ≠ m) {x : Str} (hx : x ∉ M) (hr : RchP g b x) :
    MetS g b H0 m t (M ++ [x]) (T ++ [x]) (upd (upd H m (.dK (metK (M ++ [x])))) t (.lst (T.map V.str ++ [.str x]))) := by
  refine ⟨fun a o e => ?_, ?_, ?_, ?_, ?_, ?_, ?_⟩
  · rw [upd_ne (fun z => by rw [z, n0t] at e; cases e), upd_ne (fun z => by rw [z, n0m] at e; cases e)]
    exact h.sm _ _ e
  · rw [upd_ne (Ne.symm ne), upd_same]
  · rw [upd_same, List.map_append]
    rfl
  · exact nd_snoc h.nd hx
  · intro y hy
    rcases List.mem_append.mp hy with z | z
    · exact h.ok y z
    · rw [List.mem_singleton.mp z]; exact hr
  · intro y hy
    rcases List.mem_append.mp hy with z | z
    · exact (h.tod y z).imp id fun w => List.mem_append_left _ w
    · exact .inr (List.mem_append_right _ z)
  · have := h.len
    rw [List.length_append, List.length_append]
    show T.length + 1 ≤ M.length + 1 + 1
    omega
theorem MetS.new (h : MetS g b H0 m t M T H) {p : Addr} {o : HO} (np : H p = none) : MetS g b H0 m t M T (upd H p o) :=
  ⟨fun a o' e => kn (h.sm _ _ e) np, kn h.hm np, kn h.ht np, h.nd, h.ok, h.tod, h.len⟩
theorem MetS.pop {T0 : List Str} {p : Str} (h : MetS g b H0 m t M (T0 ++ [p]) H) (n0t : H0 t = none) (ne : t ≠ m) : MetS g b H0 m t M T0 (upd H t (.lst (T0.map V.str))) := by
  refine ⟨fun a o e => ?_, ?_, upd_same, h.nd, h.ok, fun x hx => h.tod x (List.mem_append_left _ hx), ?_⟩
  · rw [upd_ne (fun z => by rw [z, n0t] at e; cases e)]
    exact h.sm _ _ e
  · rw [upd_ne (Ne.symm ne)]
    exact h.hm
  · have := h.len
    rw [List.length_append] at this
    have e : [p].length = 1 := rfl
    omega
end
end Wk

set_option Elab.async false
set_option linter.all false
set_option maxRecDepth 100000
set_option maxHeartbeats 1000000
/-! What stands while places are reached, round by round. -/
namespace Wk
open PySem PySem.Spec PyProof.Rows L2 GxR
structure DueS (g : Str → List Str) (b : Str) (H0 : Hp) (rl : Addr) (R : List Str) (H : Hp) : Prop where
  sm : Same H0 H
  hr : H rl = some (.lst (R.map V.str))
  bR : b ∈ R
  nd : R.Nodup
  ok : ∀ x ∈ R, x = b ∨ RchP g b x
section
variable {g : Str → List Str} {b : Str} {H0 H H' : Hp} {rl : Addr} {R : List Str}
theorem DueS.same (h : DueS g b H0 rl R H) (s : Same H H') : DueS g b H0 rl R H' := ⟨h.sm.trans s, s _ _ h.hr, h.bR, h.nd, h.ok⟩
theorem DueS.len (h : DueS g b H0 rl R H) {U : List Str} (hU : ∀ p x, x ∈ g p → x ∈ U) : R.length ≤ U.length + 1 :=
  sub_len R (b :: U) h.nd fun x hx => (h.ok x hx).elim (fun e => by rw [e]; exact List.mem_cons_self) fun e => List.mem_cons_of_mem _ (rch_univ hU e)
theorem DueS.add (h : DueS g b H0 rl R H) (s : Same H H') {r2 : Addr} {x : Str} (hr2 : H' r2 = some (.lst (R.map V.str ++ [.str x]))) (hx : x ∉ R) (rx : RchP g b x) : DueS g b H0 r2 (R ++ [x]) H' := by
  refine ⟨h.sm.trans s, ?_, List.mem_append_left _ h.bR, nd_snoc h.nd hx, fun y hy => ?_⟩
  · rw [hr2, List.map_append]
    rfl
  · rcases List.mem_append.mp hy with z | z
    · exact h.ok y z
    · rw [List.mem_singleton.mp z]; exact .inr rx
end
/-- where d holds, the list of a place, or a new one without entries -/
theorem held_list {H H3 : Hp} {kvs : List (Key × V)} {hs : List HldP} (hH : HldsAt H hs kvs) (s : Same H H3) {e0 : Addr} (he0 : H3 e0 = some (.lst [])) (p : Str) :
    ∃ l xs, (valV kvs (Sum.inr p)).getD (.ref e0) = .ref l ∧ H3 l = some (.lst xs) ∧ EnsAt H3 (entH hs p) xs := by
  rcases hH.val p with ⟨h1, h2⟩ | ⟨l, xs, h1, h2, h3⟩
  · exact ⟨e0, [], by rw [h1]; rfl, he0, by rw [h2]; rfl⟩
  · exact ⟨l, xs, by rw [h1]; rfl, s _ _ h2, h3.tup (STup.of s)⟩
end Wk

set_option Elab.async false
set_option linter.all false
set_option maxRecDepth 100000
set_option maxHeartbeats 1000000
/-! repr of a dict of lists of pairs of texts. -/
namespace Wk
open PySem PySem.Spec PyProof.Rows L2 GxR
def dataE (es : List EntP) : List PyData := es.map fun e => .tuple [.str e.1, .str e.2]
def dataK (hs : List HldP) : List (PyData × PyData) := hs.map fun h => (.str h.1, .list (dataE h.2))
/-- a new list, that is not sys.modules -/
def tLstB (ta : TA) : TE := fun τ Ha Qa => ta τ Ha fun vs Hb => vs.length ≤ sizeLine ∧ ∀ l, Hb l = none → l ≠ sysModules → Qa (.ref l) (upd Hb l (.lst vs))
theorem pe_lstB {X : Cx} {es : List Expr} {ta : TA} {pl : Pos} (pa : PA X es ta) : PE X (.List es pl) (tLstB ta) := by
  constructor
  intro pins s σ H Q I hq
  apply wpAny_List_spliced
  refine thn (pa.run pl pins s σ H _ I hq) ?_
  rintro us s1 ⟨vs, Hb, Ib, rv, hz, q⟩
  refine ⟨by rw [← rv.length]; exact hz, ?_⟩
  have big : s1.heap.objs.size ≠ sysModules := Nat.ne_of_gt Ib.big
  have nf : Hb s1.heap.objs.size = none := Ib.hok.fresh (Nat.le_refl _)
  have ok : ObjOk X.prog X.w (upd Hb s1.heap.objs.size (.lst vs)) (s1.heap.push { cls := .type "list", data := .seq us.toArray 0 }) s1.heap.objs.size (.lst vs) := ⟨hz, us, 0, rv, Heap.get?_push_size _ rfl⟩
  exact ⟨.ref s1.heap.objs.size, _, Ib.laid (t' := s1.toks) (fun x y e => Heap.get?_push_of_some _ e) (Nat.le_refl _) ok, rfl, q _ nf big⟩
section
variable {X : Cx} {pins : List (Addr × Obj)} {σ : L2.St} {H : Hp} {s : Shared}
theorem ens_reads (I : Inv X pins σ H s) : ∀ {es : List EntP} {xs : List V} {us : List Value}, EnsAt H es xs → Vals xs us → ReadsAll s.heap us (dataE es) []
  | [], _, us, h, r => by
    rw [show _ = [] from h] at r
    cases r
    exact .nil
  | e :: es, _, us, h, r => by
    obtain ⟨b, vs, rfl, h1, h2⟩ := h
    cases r with
    | cons r1 r2 =>
      cases r1
      obtain ⟨_, its, rv, o, e1, e2, n, e3⟩ := (show ObjOk X.prog X.w H s.heap b (.tup [.str e.1, .str e.2]) from I.hok b _ h1)
      cases rv with
      | cons q1 q2 =>
        cases q2 with
        | cons q2 q3 =>
          cases q3
          obtain ⟨t1, rfl⟩ := q1
          obtain ⟨t2, rfl⟩ := q2
          have one : Reads s.heap (.ref b) (.tuple [.str e.1, .str e.2]) [] := .tuple (as := []) e1 e2 e3 (.cons (as := []) (bs := []) (.str _ _) (.cons (as := []) (bs := []) (.str _ _) .nil))
          exact .cons (as := []) (bs := []) one (ens_reads I h2 r2)
/-- none of the lists is sys.modules -/
def LowK (kvs : List (Key × V)) : Prop := ∀ p ∈ kvs, ∀ l, p.2 = V.ref l → l ≠ sysModules
theorem hlds_reads (I : Inv X pins σ H s) : ∀ {hs : List HldP} {kvs : List (Key × V)} {vs : List (Key × Value)} {es : List DictEntry}, HldsAt H hs kvs → LowK kvs → KV kvs vs → Pairs (mixKind X.prog X.w) es vs →
    ReadsAll s.heap (es.map (·.key)) ((dataK hs).map (·.1)) [] ∧ ∃ bs, ReadsAll s.heap (es.map (·.val)) ((dataK hs).map (·.2)) bs ∧ sysModules ∉ bs
  | [], _, vs, es, h, _, r, p => by
    rw [show _ = [] from h] at r
    cases r
    cases p
    exact ⟨.nil, [], .nil, List.not_mem_nil⟩
  | h0 :: hs, _, vs, es, h, lo, r, p => by
    obtain ⟨l, xs, us, rfl, h1, h2, h3⟩ := h
    cases r with
    | cons r1 r2 =>
      cases p with
      | cons p1 p2 p3 =>
        obtain ⟨ih1, bs, ih2, ih3⟩ := hlds_reads I h3 (fun x hx => lo x (List.mem_cons_of_mem _ hx)) r2 p3
        obtain ⟨k1, k2⟩ := r1
        rw [← k1] at p1
        rcases keyIs_shape (show keyIs (Sum.inr h0.1) _ = true from p1) with ⟨i, t, e, _⟩ | ⟨z, t, e, ek⟩
        · cases e
        · have ez : h0.1 = z := Sum.inr.inj e
          subst ez
          have ev := k2
          obtain ⟨_, its, n, rv, hg⟩ := (show ObjOk X.prog X.w H s.heap l (.lst xs) from I.hok l _ h1)
          have rl : Reads s.heap (.ref l) (.list (dataE h0.2)) (l :: []) := .list hg rfl rfl (by rw [List.toList_toArray]; exact ens_reads I h2 rv)
          refine ⟨?_, (l :: []) ++ bs, ?_, ?_⟩
          · show ReadsAll s.heap (_ :: _) (.str h0.1 :: _) ([] ++ [])
            refine .cons ?_ ih1
            show Reads s.heap (DictEntry.key _) _ _
            rw [ek]
            exact .str _ _
          · show ReadsAll s.heap (_ :: _) (.list (dataE h0.2) :: _) _
            refine .cons ?_ ih2
            show Reads s.heap (DictEntry.val _) _ _
            rw [p2, show _ = Value.ref l from ev]
            exact rl
          · intro z
            rcases List.mem_append.mp z with z | z
            · exact lo _ List.mem_cons_self l rfl (List.mem_singleton.mp z).symm
            · exact ih3 z
end
/-! ### it is not long -/
theorem textFrom_up : ∀ (ts : List Str) (k : Nat) (acc : Str), (textFrom k acc ts).length ≤ acc.length + piled ts
  | [], k, acc => Nat.le_add_right _ _
  | t :: ts, k, acc => by
    have ih := textFrom_up ts (k + 1) (acc ++ (if k > 0 then ", " else "" : String) ++ t)
    have e : (acc ++ ((if k > 0 then ", " else "" : String) : Str) ++ t).length ≤ acc.length + 2 + t.length := by
      rw [strLen_append, strLen_append]
      split
      · show acc.length + 2 + t.length ≤ _; omega
      · show acc.length + 0 + t.length ≤ _; omega
    rw [piled_cons]
    show (textFrom (k + 1) (acc ++ (if k > 0 then ", " else "" : String) ++ t) ts).length ≤ _
    omega
theorem listText_up (ts : List Str) : (listText ts).length ≤ piled ts + 2 := by
  unfold listText
  rw [strLen_append]
  have := textFrom_up ts 0 "["
  have e1 : ("[" : Str).length = 1 := rfl
  have e2 : ("]" : Str).length = 1 := rfl
  omega
theorem dictText_up (ts : List Str) : (dictText ts).length ≤ piled ts + 2 := by
  unfold dictText
  rw [strLen_append, strLen_append]
  have e1 : ("{" : Str).length = 1 := rfl
  have e2 : ("}" : Str).length = 1 := rfl
  by_cases c : ts = []
  · subst c
    show 1 + 0 + 1 ≤ _
    omega
  · have := join_length_add ts c
    omega
/-- a short text -/
def ShS (z : Str) : Prop := z.length ≤ 10 ∧ ∀ c ∈ z.cps.toList, c < 16 ^ 8
theorem shS_len {z : Str} (h : ShS z) : (reprText z).length ≤ 102 := by
  have := StrLaws.reprText_len z h.2
  have := h.1
  omega
theorem en_len {es : List EntP} (h : ∀ e ∈ es, ShS e.1 ∧ ShS e.2) : piled (PyData.shownAll (dataE es)) ≤ 250 * es.length := by
  induction es with
  | nil => exact Nat.le_refl 0
  | cons e es ih =>
    have i := ih fun x hx => h x (List.mem_cons_of_mem _ hx)
    obtain ⟨h1, h2⟩ := h e List.mem_cons_self
    show piled (tupleText [reprText e.1, reprText e.2] :: PyData.shownAll (dataE es)) ≤ _
    rw [piled_cons, List.length_cons]
    have l1 := shS_len h1
    have l2 := shS_len h2
    have l3 := fmt_text [reprText e.1, reprText e.2]
    have l4 : piled [reprText e.1, reprText e.2] = (reprText e.1).length + 2 + ((reprText e.2).length + 2 + 0) := by rw [piled_cons, piled_cons]; rfl
    omega
structure HldOk (hs : List HldP) : Prop where
  few : hs.length ≤ 40
  each : ∀ h ∈ hs, h.2.length ≤ 10
  keys : ∀ h ∈ hs, ShS h.1
  ents : ∀ h ∈ hs, ∀ e ∈ h.2, ShS e.1 ∧ ShS e.2
theorem kv_len : ∀ {hs : List HldP}, (∀ h ∈ hs, h.2.length ≤ 10) → (∀ h ∈ hs, ShS h.1) → (∀ h ∈ hs, ∀ e ∈ h.2, ShS e.1 ∧ ShS e.2) → piled (PyData.shownKv (dataK hs)) ≤ 3000 * hs.length
  | [], _, _, _ => Nat.le_refl 0
  | k :: hs, a, b, c => by
    have ih := kv_len (hs := hs) (fun h hh => a h (List.mem_cons_of_mem _ hh)) (fun h hh => b h (List.mem_cons_of_mem _ hh)) (fun h hh => c h (List.mem_cons_of_mem _ hh))
    have h1 := shS_len (b k List.mem_cons_self)
    have h2 := en_len (c k List.mem_cons_self)
    have h3 := a k List.mem_cons_self
    have h4 := listText_up (PyData.shownAll (dataE k.2))
    show piled ((reprText k.1 ++ ": " ++ listText (PyData.shownAll (dataE k.2))) :: PyData.shownKv (dataK hs)) ≤ _
    rw [piled_cons, strLen_append, strLen_append, List.length_cons]
    have e2 : (": " : Str).length = 2 := rfl
    omega
theorem show_e : ∀ es : List EntP, PyData.showableAll (dataE es) = true
  | [] => rfl
  | e :: es => by
    show ((true && (true && true)) && PyData.showableAll (dataE es)) = true
    rw [show_e es]
    rfl
theorem show_k : ∀ hs : List HldP, PyData.showableKv (dataK hs) = true
  | [] => rfl
  | h :: hs => by
    show (true && PyData.showableAll (dataE h.2) && PyData.showableKv (dataK hs)) = true
    rw [show_e, show_k hs]
    rfl
theorem deep_e : ∀ es : List EntP, PyData.depthAll (dataE es) ≤ 1
  | [] => Nat.zero_le _
  | e :: es => by
    show max 1 (PyData.depthAll (dataE es)) ≤ 1
    have := deep_e es
    omega
theorem deep_k : ∀ hs : List HldP, PyData.depthKv (dataK hs) ≤ 2
  | [] => Nat.zero_le _
  | h :: hs => by
    show max (max 0 (PyData.depthAll (dataE h.2) + 1)) (PyData.depthKv (dataK hs)) ≤ 2
    have := deep_e h.2
    have := deep_k hs
    omega
def shownH (hs : List HldP) : Str := PyData.shown (.dict (dataK hs))
def rReprH : List V → Hp → VK → Prop := fun xs H Q => ∃ (d : Addr) (kvs : List (Key × V)) (hs : List HldP), xs = [.ref d] ∧ H d = some (.dK kvs) ∧ HldsAt H hs kvs ∧ LowK kvs ∧ HldOk hs ∧ Q (.str (shownH hs)) H
theorem call_reprH {X : Cx} (gX : X.A.guards = some []) (hu : X.A.units + 64 < cLine) : CallR X (.builtin "repr") rReprH := by
  intro pins s σ H xs us Q I r h
  obtain ⟨d, kvs, hs, rfl, hd, hH, lo, ok, q⟩ := h
  rw [Vals.ref1 r]
  obtain ⟨_, hm, vs, kv, o, es, ep, g1, g2, g3, _, g4, _⟩ := (show ObjOk X.prog X.w H s.heap d (.dK kvs) from I.hok d _ hd)
  obtain ⟨ra, bs, rb, nb⟩ := hlds_reads I hH lo kv g4
  have rd : Reads s.heap (.ref d) (.dict (dataK hs)) (d :: [] ++ bs) := .dict g1 g2.1 g3 ra rb
  have hz : (PyData.shown (.dict (dataK hs))).length ≤ sizeLine := by
    have h1 := kv_len ok.each ok.keys ok.ents
    have h2 := dictText_up (PyData.shownKv (dataK hs))
    have h3 := ok.few
    have h4 : sizeLine = 16777216 := rfl
    show (dictText (PyData.shownKv (dataK hs))).length ≤ _
    omega
  have hdp : (PyData.dict (dataK hs)).depth ≤ 3 := by
    have := deep_k hs
    show PyData.depthKv (dataK hs) + 1 ≤ 3
    omega
  refine repr_of_reads' rd (show_k hs) (fun _ z => ?_) gX (by omega) (fun _ _ e => e) (fun h' u tk hk => ⟨.str _, H, I.kept hk, ⟨u, rfl⟩, q⟩) hz
  rcases List.mem_append.mp z with z | z
  · rw [← List.mem_singleton.mp z] at hm
    exact absurd hm (by decide)
  · exact nb z
end Wk

set_option Elab.async false
set_option linter.all false
set_option maxRecDepth 100000
set_option maxHeartbeats 1000000
/-! What places hold, while it is drawn. -/
namespace Wk
open PySem PySem.Spec PyProof.Rows L2 GxR
theorem HldsAt.stl {L : Addr} {H H' : Hp} {n : Int} (hL : H L = some (.lst [.int n])) (k : StL L H H') : ∀ {hs : List HldP} {kvs : List (Key × V)}, HldsAt H hs kvs → HldsAt H' hs kvs
  | [], _, h => h
  | h0 :: hs, _, h => by
    obtain ⟨l, xs, us, rfl, h1, h2, h3⟩ := h
    have lL : l ≠ L := fun z => by
      rw [z, hL] at h1
      have e := HO.lst.inj (Option.some.inj h1)
      subst e
      obtain ⟨w0, es0⟩ := h0
      cases es0 with
      | nil => cases (show [V.int n] = [] from h2)
      | cons e es =>
        obtain ⟨b, vs, z2, _⟩ := h2
        cases (List.cons.inj z2).1
    have st : STup H H' := fun a ys e => k.1 a _ (fun z => by rw [z, hL] at e; cases e) e
    exact ⟨l, xs, us, rfl, k.1 l _ lL h1, h2.tup st, HldsAt.stl hL k h3⟩
theorem HldsAt.out {H : Hp} {l : Addr} {ys : List V} {o : HO} (hl : H l = some (.lst ys)) : ∀ {hs : List HldP} {kvs : List (Key × V)}, HldsAt H hs kvs → (∀ p ∈ kvs, p.2 ≠ .ref l) → HldsAt (upd H l o) hs kvs
  | [], _, h, _ => h
  | h0 :: hs, _, h, no => by
    obtain ⟨l', xs, us, rfl, h1, h2, h3⟩ := h
    have ne : l' ≠ l := fun z => no _ List.mem_cons_self (by rw [z])
    exact ⟨l', xs, us, rfl, by rw [upd_ne ne]; exact h1, h2.tup (STup.lst hl), HldsAt.out hl h3 fun x hx => no x (List.mem_cons_of_mem _ hx)⟩
theorem HldsAt.dput {H : Hp} {d : Addr} {ks : List (Key × V)} {o : HO} (hd : H d = some (.dK ks)) : ∀ {hs : List HldP} {kvs : List (Key × V)}, HldsAt H hs kvs → HldsAt (upd H d o) hs kvs
  | [], _, h => h
  | h0 :: hs, _, h => by
    obtain ⟨l', xs, us, rfl, h1, h2, h3⟩ := h
    have st : STup H (upd H d o) := fun a ys e => (upd_ne (fun z => by rw [z, hd] at e; cases e)).trans e
    exact ⟨l', xs, us, rfl, (upd_ne (fun z => by rw [z, hd] at h1; cases h1)).trans h1, h2.tup st, HldsAt.dput hd h3⟩
/-- a list that is new is none of those held -/
theorem HldsAt.fresh {H : Hp} {l : Addr} (nl : H l = none) : ∀ {hs : List HldP} {kvs : List (Key × V)}, HldsAt H hs kvs → ∀ p ∈ kvs, p.2 ≠ .ref l
  | [], _, h, p, hp => by
    rw [show _ = [] from h] at hp
    cases hp
  | h0 :: hs, _, h, p, hp => by
    obtain ⟨l', xs, us, rfl, h1, h2, h3⟩ := h
    rcases List.mem_cons.mp hp with e | e
    · rw [e]
      intro z
      have z : l' = l := V.ref.inj z
      rw [z, nl] at h1
      cases h1
    · exact HldsAt.fresh nl h3 p e
/-- while a place's list is filled -/
structure FilS (p pn c L d l : Addr) (items : List V) (zs pl : List Str) (hs : List HldP) (kvs : List (Key × V)) (z : Str) (es : List EntP) (H : Hp) : Prop where
  hp : H p = some (.lst items)
  hn : H pn = some (.lst (zs.map V.str))
  hc : H c = some (.lst (pl.map V.str))
  hL : ∃ n : Int, H L = some (.lst [.int n])
  hd : H d = some (.dK (kvs ++ [(Sum.inr z, .ref l)]))
  hh : HldsAt H hs kvs
  hl : ∃ xs, H l = some (.lst xs) ∧ EnsAt H es xs
/-- while places are gone through -/
structure BldS (p pn c L d : Addr) (items : List V) (zs pl : List Str) (hs : List HldP) (kvs : List (Key × V)) (H : Hp) : Prop where
  hp : H p = some (.lst items)
  hn : H pn = some (.lst (zs.map V.str))
  hc : H c = some (.lst (pl.map V.str))
  hL : ∃ n : Int, H L = some (.lst [.int n])
  hd : H d = some (.dK kvs)
  hh : HldsAt H hs kvs
section
variable {p pn c L d l : Addr} {items : List V} {zs pl : List Str} {hs : List HldP} {kvs : List (Key × V)} {z : Str} {es : List EntP} {H H' : Hp}
theorem BldS.stl (x : BldS p pn c L d items zs pl hs kvs H) (k : StL L H H') (pL : p ≠ L) (nL : pn ≠ L) (cL : c ≠ L) : BldS p pn c L d items zs pl hs kvs H' := by
  obtain ⟨n, hn⟩ := x.hL
  exact ⟨k.1 _ _ pL x.hp, k.1 _ _ nL x.hn, k.1 _ _ cL x.hc, k.2, k.1 _ _ (fun e => by have h := x.hd; rw [e, hn] at h; cases h) x.hd, x.hh.stl hn k⟩
theorem FilS.stl (x : FilS p pn c L d l items zs pl hs kvs z es H) (k : StL L H H') (pL : p ≠ L) (nL : pn ≠ L) (cL : c ≠ L) (lL : l ≠ L) : FilS p pn c L d l items zs pl hs kvs z es H' := by
  obtain ⟨n, hn⟩ := x.hL
  obtain ⟨xs, h1, h2⟩ := x.hl
  have st : STup H H' := fun a ys e => k.1 a _ (fun z => by rw [z, hn] at e; cases e) e
  exact ⟨k.1 _ _ pL x.hp, k.1 _ _ nL x.hn, k.1 _ _ cL x.hc, k.2, k.1 _ _ (fun e => by have h := x.hd; rw [e, hn] at h; cases h) x.hd, x.hh.stl hn k, xs, k.1 _ _ lL h1, h2.tup st⟩
theorem FilS.same (x : FilS p pn c L d l items zs pl hs kvs z es H) (s : Same H H') : FilS p pn c L d l items zs pl hs kvs z es H' := by
  obtain ⟨n, hn⟩ := x.hL
  obtain ⟨xs, h1, h2⟩ := x.hl
  exact ⟨s _ _ x.hp, s _ _ x.hn, s _ _ x.hc, ⟨n, s _ _ hn⟩, s _ _ x.hd, x.hh.same s, xs, s _ _ h1, h2.tup (STup.of s)⟩
/-- a place more, its list new -/
theorem BldS.place (x : BldS p pn c L d items zs pl hs kvs H) (nl : H l = none) : FilS p pn c L d l items zs pl hs kvs z [] (upd (upd H l (.lst [])) d (.dK (kvs ++ [(Sum.inr z, .ref l)]))) := by
  obtain ⟨n, hn⟩ := x.hL
  have hd1 : upd H l (.lst []) d = some (.dK kvs) := kn x.hd nl
  have ne : ∀ {q : Addr} {ys : List V}, upd H l (.lst []) q = some (.lst ys) → q ≠ d := fun {q ys} e z => by rw [z, hd1] at e; cases e
  have k : ∀ {q : Addr} {ys : List V}, H q = some (.lst ys) → upd (upd H l (.lst [])) d (.dK (kvs ++ [(Sum.inr z, .ref l)])) q = some (.lst ys) := fun {q ys} e => (upd_ne (ne (kn e nl))).trans (kn e nl)
  refine ⟨k x.hp, k x.hn, k x.hc, ⟨n, k hn⟩, upd_same, HldsAt.dput hd1 (x.hh.same (same_new nl)), [], ?_, rfl⟩
  exact (upd_ne (ne upd_same)).trans upd_same
/-- a pair more -/
theorem FilS.push (x : FilS p pn c L d l items zs pl hs kvs z es H) (pl' : p ≠ l) (nl : pn ≠ l) (cl : c ≠ l) (lL : l ≠ L) (no : ∀ q ∈ kvs, q.2 ≠ .ref l) {xs : List V} (hl : H l = some (.lst xs)) {e : EntP} {b : Addr} (hb : H b = some (.tup [.str e.1, .str e.2])) :
    FilS p pn c L d l items zs pl hs kvs z (es ++ [e]) (upd H l (.lst (xs ++ [.ref b]))) := by
  obtain ⟨n, hn⟩ := x.hL
  obtain ⟨xs', h1, h2⟩ := x.hl
  have ex : xs' = xs := HO.lst.inj (Option.some.inj (h1.symm.trans hl))
  subst ex
  have st : STup H (upd H l (.lst (xs' ++ [.ref b]))) := STup.lst hl
  refine ⟨(upd_ne pl').trans x.hp, (upd_ne nl).trans x.hn, (upd_ne cl).trans x.hc, ⟨n, (upd_ne (Ne.symm lL)).trans hn⟩, (upd_ne (fun e => by have h := x.hd; rw [e, hl] at h; cases h)).trans x.hd, x.hh.out hl no, _, upd_same, EnsAt.snoc (st _ _ hb) (h2.tup st)⟩
theorem FilS.done (x : FilS p pn c L d l items zs pl hs kvs z es H) : BldS p pn c L d items zs pl (hs ++ [(z, es)]) (kvs ++ [(Sum.inr z, .ref l)]) H := by
  obtain ⟨xs, h1, h2⟩ := x.hl
  exact ⟨x.hp, x.hn, x.hc, x.hL, x.hd, HldsAt.snoc (k := (z, es)) h1 h2 x.hh⟩
end
/-! ### names that differ, and the dot -/
theorem names26_nd {s : Nat} {zs : List Str} (l : zs.length ≤ 26) (h : ∀ i z, zs[i]? = some z → NameOf ((s + 5 * i) % 26) z) : zs.Nodup := by
  refine List.pairwise_iff_getElem.mpr fun i j hi hj hij e => ?_
  have h1 := h i zs[i] (List.getElem?_eq_getElem hi)
  have h2 := h j zs[j] (List.getElem?_eq_getElem hj)
  rw [← e] at h2
  have := h1.inj h2
  omega
theorem name_nodot {j : Nat} {z : Str} (h : NameOf j z) : z ≠ "." := fun e => by
  obtain ⟨r, er, _⟩ := h
  rw [e] at er
  have : (46 : Nat) = 97 + j := (List.cons.inj (show [46] = (97 + j) :: r from er)).1
  omega
theorem places_nd {s : Nat} {zs : List Str} (l : zs.length ≤ 26) (h : ∀ i z, zs[i]? = some z → NameOf ((s + 5 * i) % 26) z) (k : Nat) : (zs.take k ++ [("." : Str)]).Nodup := by
  refine nd_snoc (List.Nodup.sublist (List.take_sublist _ _) (names26_nd l h)) fun z => ?_
  obtain ⟨i, hi⟩ := List.getElem?_of_mem (List.mem_of_mem_take z)
  exact name_nodot (h i _ hi) rfl
theorem shS_of {z : Str} (h : Sh 6 z) : ShS z := ⟨Nat.le_trans h.len (by decide), fun c hc => Nat.lt_trans (h.2 c hc) (by decide)⟩
theorem shS_dot : ShS "." := ⟨by decide +kernel, by decide +kernel⟩
def wds8 : List V := [.str "room", .str "room", .str "room", .str "in", .str "out", .str "open", .str "say", .str "hear"]
theorem wds8_sh : ∀ v ∈ wds8, ∃ z, v = .str z ∧ ShS z := by
  intro v hv
  simp only [wds8, List.mem_cons, List.not_mem_nil, or_false] at hv
  rcases hv with rfl | rfl | rfl | rfl | rfl | rfl | rfl | rfl
  · exact ⟨_, rfl, by decide +kernel, by decide +kernel⟩
  · exact ⟨_, rfl, by decide +kernel, by decide +kernel⟩
  · exact ⟨_, rfl, by decide +kernel, by decide +kernel⟩
  · exact ⟨_, rfl, by decide +kernel, by decide +kernel⟩
  · exact ⟨_, rfl, by decide +kernel, by decide +kernel⟩
  · exact ⟨_, rfl, by decide +kernel, by decide +kernel⟩
  · exact ⟨_, rfl, by decide +kernel, by decide +kernel⟩
  · exact ⟨_, rfl, by decide +kernel, by decide +kernel⟩
end Wk

set_option Elab.async false
set_option linter.all false
set_option maxRecDepth 100000
set_option maxHeartbeats 2000000
namespace K43
open PySem PySem.Spec PyProof.Rows L2 Wk GxR
def topS (i : Nat) : Stmt := PySem.Challenge.pw_walkrooms_k43_what_may_come_within.main.body.getD i (.Pass ⟨0, 0, 0, 0⟩)
end K43

set_option Elab.async false
set_option linter.all false
set_option maxRecDepth 100000
set_option maxHeartbeats 400000
namespace K43
open PySem PySem.Spec PyProof.Rows L2 Wk GxR
abbrev sAll : Stmt := topS 1
abbrev nmAll : List Str := ["lists", "place", "met", "todo", "inner", "other"]
theorem scAll : FnScope nmAll ["lists", "place"] (defScope sAll) := ⟨rfl, rfl, rfl, by decide +kernel, rfl, by decide +kernel, by decide +kernel⟩
section
variable {P : Program} {w : World} {K : PySem.W.Frag} {mg : Str → Option Value} {base : Heap}
theorem ok_all {f : Addr} {fd : FuncData} {k : Nat} (F : Fun K "all_within" "all_within" sAll f fd) (ml : mg "list" = none) : FnOk P w K mg base CX0 (k + 1) f fd ["lists", "place"] spAllWithin := by
  refine F.ok scAll (fun vs H Q E h => ?_) (fun cdv A outer s H vs Q E hr h => ?_)
  · obtain ⟨_, _, _, _, _, rfl, _⟩ := h
    rfl
  obtain ⟨d, kvs, g, U, b, rfl, hd, hg, hU, lU, lg, q⟩ := h
  have hu := Nat.lt_of_le_of_lt (Nat.add_le_add_left (show 1 ≤ 64 by decide) _) hr.units
  refine ⟨_, pss_cons (ps_set (i := 2) scAll.nd rfl (.inl rfl) pe_dnewK)
    (pss_cons (ps_set (i := 3) scAll.nd rfl (.inl rfl) (pe_lst (pa_cons (pv 1) pa_nil)))
    (pss_cons (ps_while PassesOwn.never (pt_truth (pv 3) (by intro _; rfl))
      (pss_cons (ps_set (i := 4) scAll.nd rfl (.inl rfl) (pe_bm0 PySem.F.plainAttrs_list PySem.F.slot_list_pop PySem.F.type_list_pop mt_pop (pv 3)))
      (pss_one (ps_for PassesOwn.never rfl (pi_list (pe_dget2 hu (pv 0) (pv 4) (pe_lst pa_nil) ⟨rfl, rfl, rfl, rfl⟩)) (pg_name (i := 5) scAll.nd rfl (.inl rfl))
        (pss_one (ps_if (pt_cmp (pc_dnotin hu (pv 5) (pv 2))) (pss_cons (ps_dput hu (pv 2) (pv 5) pe_bl rfl)
          (pss_one (ps_expr (pe_bm PySem.F.plainAttrs_list PySem.F.slot_list_append PySem.F.type_list_append mt_append (pv 3) (pa_cons (pv 5) pa_nil))))) pss_nil))))))
    (pss_one (ps_ret (pe_callTy (call_list_dK rfl) (by rfl) ml (by decide +kernel) (pa_cons (pv 2) pa_nil)))))), ?_⟩
  intro m nm
  refine ⟨_, rfl, (show 1 ≤ sizeLine by decide), fun t nt => ?_⟩
  have ne : t ≠ m := fun z => by rw [z, upd_same] at nt; cases nt
  have nt0 : H t = none := by rw [← nt, upd_ne ne]
  have s0 : MetS g b H m t [] [b] (upd (upd H m (.dK [])) t (.lst [.str b])) := ⟨fun a o e => kn (kn e nm) nt, kn upd_same nt, upd_same, List.nodup_nil, (fun x hx => nomatch hx), (fun x hx => .inl (List.mem_singleton.mp hx)), Nat.le_refl 1⟩
  refine ⟨fun n σ H' => ∃ (M T : List Str) (s4 s5 : Option V), σ = [some (.ref d), some (.str b), some (.ref m), some (.ref t), s4, s5] ∧ MetS g b H m t M T H' ∧ (∀ p, p = b ∨ p ∈ M → p ∈ T ∨ ∀ x ∈ g p, x ∈ M) ∧ n = 2 * (U.length - M.length) + T.length,
    ⟨_, [], [b], _, _, rfl, s0, (fun p hp => .inl (hp.elim (fun e => by rw [e]; exact List.mem_singleton.mpr rfl) (fun z => nomatch z))), rfl⟩, ?_⟩
  rintro n σ H1 ⟨M, T, s4, s5, rfl, hS, hcl, rfl⟩
  have lM : M.length ≤ U.length := sub_len M U hS.nd fun x hx => rch_univ hU (hS.ok x hx)
  refine ⟨_, rfl, _, .inl ⟨_, SqL.of hS.ht, rfl⟩, ?_⟩
  rcases List.eq_nil_or_concat T with rfl | ⟨T0, p, rfl⟩
  · refine iteF ?_
    refine ⟨_, rfl, m, _, rfl, hS.hm, fun q' nq => ?_⟩
    rw [met_keys]
    refine q _ q' M (fun a o e => kn (hS.sm _ _ e) nq) upd_same (rch_met hS.ok (fun x hx => ?_) (fun p hp x hx => ?_))
    · exact (hcl b (.inl rfl)).elim (fun z => nomatch z) (fun z => z x hx)
    · exact (hcl p (.inr hp)).elim (fun z => nomatch z) (fun z => z x hx)
  rw [List.concat_eq_append] at *
  refine iteU (by rw [List.map_append]; cases T0 <;> rfl) ?_
  refine ⟨_, fun σ' H' h => h, ?_⟩
  have em : (T0 ++ [p]).map V.str = T0.map V.str ++ [.str p] := by rw [List.map_append]; rfl
  have ht := hS.ht
  rw [em] at ht
  refine ⟨_, rfl, .inl ⟨rfl, _, SqL.of ht⟩, t, _, .str p, rfl, rfl, ht, ?_, ?_⟩
  · rw [List.length_append, List.length_singleton, Nat.add_sub_cancel, List.getElem?_append_right (Nat.le_refl _), Nat.sub_self]
    rfl
  rw [List.dropLast_concat]
  have hS2 := hS.pop nt0 ne
  have pOk : p = b ∨ RchP g b p := (hS.tod p (List.mem_append_right _ (List.mem_singleton.mpr rfl))).imp id (hS.ok p)
  generalize upd H1 t (.lst (T0.map V.str)) = H2 at *
  have hd2 := hS2.sm _ _ hd
  refine ⟨_, rfl, d, rfl, .inl ⟨kvs, .inl hd2⟩, _, rfl, (show 0 ≤ sizeLine by decide), fun e0 ne0 => ?_⟩
  refine ⟨_, DGet.k (k := Sum.inr p) (kn hd2 ne0), ?_⟩
  have hS3 := hS2.new (o := .lst []) ne0
  have he0 : upd H2 e0 (.lst []) e0 = some (.lst []) := upd_same
  have et : e0 ≠ t := Ne.symm (ne_of_none hS2.ht ne0)
  generalize upd H2 e0 (.lst []) = H3 at *
  -- the list that is gone through
  obtain ⟨l, el, hl, lt⟩ : ∃ l, (valV kvs (Sum.inr p)).getD (.ref e0) = .ref l ∧ H3 l = some (.lst ((g p).map V.str)) ∧ l ≠ t := by
    rcases hg p with ⟨l, h1, h2⟩ | ⟨h1, h2⟩
    · exact ⟨l, by rw [h1]; rfl, hS3.sm _ _ h2, ne_of_none h2 nt0⟩
    · exact ⟨e0, by rw [h1]; rfl, by rw [h2]; exact he0, et⟩
  rw [el]
  have lm : l ≠ m := fun z => by rw [z, hS3.hm] at hl; cases hl
  refine ⟨l, rfl, ⟨_, SqL.of hl⟩, for_it (walk_list (xs := (g p).map V.str)) (fun i σ H' => ∃ (M' T' : List Str) (s5 : Option V), σ = [some (.ref d), some (.str b), some (.ref m), some (.ref t), some (.str p), s5] ∧ MetS g b H m t M' T' H' ∧ H' l = some (.lst ((g p).map V.str)) ∧
      (∀ x ∈ M, x ∈ M') ∧ (∀ x ∈ T0, x ∈ T') ∧ (∀ x ∈ M', x ∈ M ∨ x ∈ T') ∧ (∀ x ∈ (g p).take i, x ∈ M') ∧ M.length + T'.length = M'.length + T0.length)
    ⟨M, T0, _, rfl, hS3, hl, (fun x hx => hx), (fun x hx => hx), (fun x hx => .inl hx), (fun x hx => nomatch hx), rfl⟩ (fun i σ H' _ hP => ?_) (fun i x σ H4 H5 hi hP hY => ?_) (fun σ H' hP => ?_)⟩
  · obtain ⟨_, _, _, _, _, h, _⟩ := hP
    exact SqL.of h
  · obtain ⟨M', T', s5, rfl, hS4, hl4, a1, a2, a3, a4, a5⟩ := hP
    obtain ⟨rfl, hx⟩ := hY
    rw [List.getElem?_map] at hx
    obtain ⟨z, hz, rfl⟩ := Option.map_eq_some_iff.mp hx
    have zg : z ∈ g p := List.mem_of_getElem? hz
    have tk : (g p).take (i + 1) = (g p).take i ++ [z] := by rw [List.take_add_one, hz]; rfl
    have rz : RchP g b z := pOk.elim (fun e => by rw [e] at zg; exact .one zg) (fun h => .step h zg)
    refine ⟨_, rfl, _, rfl, m, _, rfl, DGet.k (k := Sum.inr z) hS4.hm, _, rfl, ?_⟩
    by_cases c : z ∈ M'
    · rw [met_some c]
      refine iteF ⟨M', T', _, rfl, hS4, hl4, a1, a2, a3, fun x hx => ?_, a5⟩
      rw [tk] at hx
      rcases List.mem_append.mp hx with h | h
      · exact a4 x h
      · rw [List.mem_singleton.mp h]; exact c
    · rw [met_none c]
      refine iteT ?_
      have lM' : M'.length ≤ U.length := sub_len M' U hS4.nd fun x hx => rch_univ hU (hS4.ok x hx)
      refine ⟨_, rfl, _, rfl, m, _, rfl, DPut.k (k := Sum.inr z) hS4.hm (by rw [met_len]; exact Nat.lt_of_le_of_lt lM' (Nat.lt_of_le_of_lt lU (show 400 < sizeLine by decide))), ?_⟩
      rw [met_put c]
      have ht4 : upd H5 m (.dK (metK (M' ++ [z]))) t = some (.lst (T'.map V.str)) := by rw [upd_ne ne]; exact hS4.ht
      have lT := hS4.len
      refine ⟨_, rfl, .inl ⟨rfl, _, SqL.of ht4⟩, _, rfl, t, _, _, rfl, rfl, ht4, small1000 (by rw [List.length_map]; omega), ?_⟩
      refine ⟨M' ++ [z], T' ++ [z], _, rfl, hS4.put nm nt0 ne c rz, ?_, (fun x hx => List.mem_append_left _ (a1 x hx)), (fun x hx => List.mem_append_left _ (a2 x hx)), fun x hx => ?_, fun x hx => ?_, ?_⟩
      · rw [upd_ne lt, upd_ne lm]; exact hl4
      · rcases List.mem_append.mp hx with h | h
        · exact (a3 x h).imp id fun w => List.mem_append_left _ w
        · exact .inr (List.mem_append_right _ h)
      · rw [tk] at hx
        rcases List.mem_append.mp hx with h | h
        · exact List.mem_append_left _ (a4 x h)
        · exact List.mem_append_right _ h
      · rw [List.length_append, List.length_append]
        show M.length + (T'.length + 1) = M'.length + 1 + T0.length
        omega
  · obtain ⟨M', T', s5, rfl, hS4, _, a1, a2, a3, a4, a5⟩ := hP
    rw [List.length_map, List.take_length] at a4
    have lM' : M'.length ≤ U.length := sub_len M' U hS4.nd fun x hx => rch_univ hU (hS4.ok x hx)
    have l0 : M.length ≤ M'.length := sub_len M M' hS.nd a1
    refine ⟨_, ?_, M', T', _, _, rfl, hS4, fun x hx => ?_, rfl⟩
    · rw [List.length_append, List.length_singleton]
      omega
    · by_cases cp : x = p
      · exact .inr fun y hy => by rw [cp] at hy; exact a4 y hy
      have base : x = b ∨ x ∈ M → x ∈ T' ∨ ∀ y ∈ g x, y ∈ M' := fun h => by
        rcases hcl x h with z | z
        · rcases List.mem_append.mp z with z | z
          · exact .inl (a2 x z)
          · exact absurd (List.mem_singleton.mp z) cp
        · exact .inr fun y hy => a1 y (z y hy)
      rcases hx with e | e
      · exact base (.inl e)
      · exact (a3 x e).elim (fun z => base (.inr z)) .inl
end
end K43

set_option Elab.async false
set_option linter.all false
set_option maxRecDepth 100000
set_option maxHeartbeats 400000
namespace K43
open PySem PySem.Spec PyProof.Rows L2 Wk GxR
abbrev sMay : Stmt := topS 3
abbrev nmMay : List Str := ["holds", "a", "b", "rooms", "place", "word", "name"]
theorem scMay : FnScope nmMay ["holds", "a", "b"] (defScope sMay) := ⟨rfl, rfl, rfl, by decide +kernel, rfl, by decide +kernel, by decide +kernel⟩
abbrev gWN (K : PySem.W.Frag) := gTup K 2 (gCons (gName 5) (gCons (gName 6) gNil))
abbrev tRms (K : PySem.W.Frag) : TE := tLc (iList K (tDGet (tVar 0) (tVar 4))) (gWN K) (tTest (tOp rEq (tVar 5) (tC (.str "room")))) (tVar 6) [5, 6]
section
variable {P : Program} {w : World} {K : PySem.W.Frag} {mg : Str → Option Value} {base : Heap}
theorem ok_may {f fA : Addr} {fd fdA : FuncData} (F : Fun K "may_come" "may_come" sMay f fd)
    (GA : FnOk P w K mg base CX0 1 fA fdA ["lists", "place"] spAllWithin) (bA : Binds K fdA ["lists", "place"] []) (kA : PySem.W.keepIn K (.ref fA) = true) (mA : mg "all_within" = some (.ref fA)) :
    FnOk P w K mg base CX0 2 f fd ["holds", "a", "b"] spMayCome := by
  refine F.ok scMay (fun vs H Q E h => ?_) (fun cdv A outer s H vs Q E hr h => ?_)
  · obtain ⟨_, _, _, _, _, rfl, _⟩ := h
    rfl
  obtain ⟨d, kvs, hs, a, b, rfl, hd, hH, ls, le, q⟩ := h
  have hu := Nat.lt_of_le_of_lt (Nat.add_le_add_left (show 1 ≤ 64 by decide) _) hr.units
  refine ⟨_, pss_cons (ps_lock (ps_setDc (ix := 3) (own := [("place", 4)]) (gt := gName 4) (tt := tYes) (tk := tVar 4) (tv := tRms K) (by rfl) scMay.nd rfl rfl (sw_trueD rfl rfl rfl (by decide +kernel)) (pi_keys (pv 0))
        (blkOk_by (own := [("place", 4)]) (N := nmMay) (sc := defScope sMay) (by decide +kernel)) (fun _ _ _ _ _ => pg_name (i := 4) scMay.nd rfl (Or.inl rfl)) (fun _ _ _ _ _ => pts_nil) (fun _ _ _ _ _ => pv 4)
        (fun _ _ _ _ _ => pe_lc (own := [("word", 5), ("name", 6)]) (g := gWN K) (tt := tTest (tOp rEq (tVar 5) (tC (.str "room")))) (te := tVar 6) (by rfl) scMay.nd (pi_list (pe_dget hu (pv 0) (pv 4) (fun _ _ => rfl)))
          (blk_any (blkOk_by (own := [("word", 5), ("name", 6)]) (N := nmMay) (sc := defScope sMay) (by decide +kernel)) rfl)
          (fun _ _ _ _ _ => pg_tup rfl (pgs_cons (pg_name (i := 5) scMay.nd rfl (Or.inl rfl)) (pgs_cons (pg_name (i := 6) scMay.nd rfl (Or.inl rfl)) pgs_nil)))
          (fun _ _ _ _ _ => pts_one (pt_cmpR op_eq (pv 5) pe_str (nomark _))) (fun _ _ _ _ _ => pv 6))))
    (pss_one (ps_ret (pe_cmpR op_in_seq (pv 1) (pe_call GA (hr.mono (by decide)) (by rfl) mA kA bA .nil pass0 (pa_cons (pv 3) (pa_cons (pv 2) pa_nil))) rfl))), ?_⟩
  refine ⟨d, .dK kvs, hd, trivial, fun od => ?_⟩
  have nd0 : ∀ {p : Addr}, upd H d (.frz od (.dK kvs)) p = none → p ≠ d := fun {p} e z => by rw [z, upd_same] at e; cases e
  refine ⟨_, rfl, d, od, rfl, .inl ⟨kvs, upd_same, fun D nD => ?_⟩⟩
  have Dd := nd0 nD
  have nD0 : H D = none := by rw [← nD, upd_ne Dd]
  have lk := HldsAt.len hH
  refine dc_it walk_keys (fun i H' => (∀ x o, x ≠ d → H x = some o → H' x = some o) ∧ H' d = some (.frz od (.dK kvs)) ∧ ∃ rs : List (Key × V), H' D = some (.dK rs) ∧ rs.length ≤ i ∧ ∀ p : Str, (p ∈ (hs.take i).map (·.1) → ∃ l, valV rs (Sum.inr p) = some (.ref l) ∧ l ≠ d ∧ H' l = some (.lst ((adjH hs p).map V.str))) ∧ (p ∉ (hs.take i).map (·.1) → valV rs (Sum.inr p) = none))
    ⟨fun x o nx e => ?_, ?_, [], upd_same, Nat.le_refl 0, fun p => ⟨fun h => ?_, fun _ => rfl⟩⟩ (fun i H' _ hP => hP.2.1) (fun i x H1 H2 hi hP hY => ?_) (fun H1 hP => ?_)
  · rw [upd_ne (ne_of_none e nD0), upd_ne nx]; exact e
  · rw [upd_ne (Ne.symm Dd), upd_same]
  · cases h
  · obtain ⟨a1, a2, rs, hD, lrs, a3⟩ := hP
    obtain ⟨rfl, k, v, hk, rfl⟩ := hY
    obtain ⟨h0, hh, rfl⟩ := HldsAt.key hH hk
    have tk : (hs.take (i + 1)).map (·.1) = (hs.take i).map (·.1) ++ [h0.1] := by rw [List.take_add_one, hh, List.map_append]; rfl
    refine ⟨rfl, yes (iteT ?_)⟩
    refine ⟨_, rfl, ?_⟩
    have tupS : STup H H2 := fun x xs e => a1 x _ (fun z => by rw [z, hd] at e; cases e) e
    obtain ⟨l, xs, ev, hl, hE⟩ : ∃ l xs, valV kvs (Sum.inr h0.1) = some (.ref l) ∧ H l = some (.lst xs) ∧ EnsAt H (entH hs h0.1) xs := by
      rcases HldsAt.val hH h0.1 with ⟨h1, _⟩ | h1
      · exact absurd (List.mem_map.mpr ⟨_, List.mem_of_getElem? hk, rfl⟩) (valV_not h1)
      · exact h1
    have hl2 : H2 l = some (.lst xs) := a1 l _ (fun z => by rw [z, hd] at hl; cases hl) hl
    have hE2 := hE.tup tupS
    have lE := EnsAt.len hE
    have l10 := entH_len le h0.1
    have DG : DGet H2 d (.str h0.1) (some (.ref l)) := .inl ⟨kvs, Sum.inr h0.1, .inr ⟨od, a2⟩, rfl, ev.symm⟩
    refine ⟨_, rfl, _, rfl, d, _, rfl, DG, l, rfl, ⟨xs, SqL.of hl2⟩, fun D2 nD2 => ?_⟩
    have D2d : D2 ≠ d := fun z => by rw [z, a2] at nD2; cases nD2
    have D2D : D2 ≠ D := fun z => by rw [z, hD] at nD2; cases nD2
    refine lc_it (walk_list (xs := xs)) (fun j H' => Same H2 H' ∧ H' D2 = some (.lst ((roomsE ((entH hs h0.1).take j)).map V.str))) ⟨same_new nD2, upd_same⟩ (fun j H' _ hP => SqL.of (hP.1 _ _ hl2)) (fun j y H4 H5 hj hP hY => ?_) (fun H4 hP => ?_)
    · obtain ⟨rfl, hy⟩ := hY
      obtain ⟨sm, hD2⟩ := hP
      obtain ⟨e, t', he, rfl, ht'⟩ := EnsAt.get hE2 hy
      have tk2 : (entH hs h0.1).take (j + 1) = (entH hs h0.1).take j ++ [e] := by rw [List.take_add_one, he]; rfl
      have lo : (roomsE ((entH hs h0.1).take j)).length ≤ 1000 := by
        have := roomsE_len ((entH hs h0.1).take j)
        rw [List.length_take] at this
        omega
      refine ⟨t', _, rfl, SqT.of (sm _ _ ht'), rfl, _, _, rfl, _, _, rfl, rfl, rfl, _, rfl, rfl, _, rfl, ite2 (fun c => ?_) (fun c => ?_)⟩
      · have ec : e.1 = "room" := str_eq c
        refine ⟨_, rfl, _, hD2, by rw [List.length_map]; exact small1000 lo, fun b o eb => by rw [upd_ne (ne_of_none eb nD2)]; exact sm _ _ eb, ?_⟩
        rw [upd_same, tk2, roomsE_app, List.map_append]
        unfold roomsE
        rw [List.filter_cons (x := e), if_pos (decide_eq_true ec)]
        rfl
      · refine ⟨sm, ?_⟩
        rw [tk2, roomsE_app]
        unfold roomsE
        rw [List.filter_cons (x := e), if_neg (fun z => str_ne c (of_decide_eq_true z))]
        show _ = some (HO.lst (List.map V.str (_ ++ [])))
        rw [List.append_nil]
        exact hD2
    obtain ⟨sm, hD2⟩ := hP
    rw [lE, List.take_length] at hD2
    have hD4 := sm _ _ hD
    refine ⟨rs, Sum.inr h0.1, rfl, hD4, Nat.lt_of_le_of_lt lrs (Nat.lt_of_lt_of_le hi (by rw [lk]; exact Nat.le_trans ls (show 40 ≤ sizeLine by decide))), fun x o nx e => ?_, ?_, _, upd_same, Nat.le_trans (length_putK _ _ _) (by omega), fun p => ?_⟩
    · rw [upd_ne (ne_of_none e nD0)]; exact sm _ _ (a1 x o nx e)
    · rw [upd_ne (Ne.symm Dd)]; exact sm _ _ a2
    · rw [valV_put, tk]
      by_cases cp : p = h0.1
      · refine ⟨fun _ => ⟨D2, by rw [if_pos (by rw [cp])], D2d, ?_⟩, fun h => absurd (List.mem_append_right _ (by rw [cp]; exact List.mem_singleton.mpr rfl)) h⟩
        rw [upd_ne D2D, cp]
        exact hD2
      · rw [if_neg (fun z => cp (Sum.inr.inj z))]
        obtain ⟨b1, b2⟩ := a3 p
        refine ⟨fun h => ?_, fun h => b2 fun z => h (List.mem_append_left _ z)⟩
        have h' : p ∈ (hs.take i).map (·.1) := (List.mem_append.mp h).elim id fun z => absurd (List.mem_singleton.mp z) cp
        obtain ⟨l', v1, v2, v3⟩ := b1 h'
        refine ⟨l', v1, v2, ?_⟩
        have nl : l' ≠ D := fun z => by rw [z, hD] at v3; cases v3
        rw [upd_ne nl]
        exact sm _ _ v3
  obtain ⟨a1, a2, rs, hD, lrs, a3⟩ := hP
  rw [lk, List.take_length] at a3
  refine ⟨a2, ?_⟩
  have sm1 : Same H (upd H1 d (.dK kvs)) := fun x o e => by
    by_cases c : x = d
    · rw [c] at e ⊢
      rw [upd_same, ← hd, e]
    · rw [upd_ne c]; exact a1 x o c e
  have lU := univ_len le
  refine ⟨_, rfl, _, rfl, _, rfl, D, rs, adjH hs, univH hs, b, rfl, by rw [upd_ne Dd]; exact hD, fun p => ?_, fun p x hx => adj_univ hx, by omega, fun p => ?_, fun H2 q' M sm hq hM => ?_⟩
  · obtain ⟨b1, b2⟩ := a3 p
    by_cases c : p ∈ hs.map (·.1)
    · obtain ⟨l, v1, v2, v3⟩ := b1 c
      exact .inl ⟨l, v1, by rw [upd_ne v2]; exact v3⟩
    · refine .inr ⟨b2 c, ?_⟩
      rcases entH_cases hs p with e | ⟨h, hh, e1, _⟩
      · unfold adjH
        rw [e]
        rfl
      · exact absurd (List.mem_map.mpr ⟨h, hh, e1⟩) c
  · have := roomsE_len (entH hs p)
    have := entH_len le p
    unfold adjH
    omega
  · refine ⟨q', _, rfl, .inl (SqL.of hq), rfl, Wk.flat_strs _, ?_⟩
    refine q H2 _ (sm1.trans sm) ?_
    rw [← hM a]
    show inV (.str a) (M.map V.str) = true ↔ _
    rw [inV_strs, decide_eq_true_iff]
end
end K43

set_option Elab.async false
set_option linter.all false
set_option maxRecDepth 100000
set_option maxHeartbeats 400000
namespace K43
open PySem PySem.Spec PyProof.Rows L2 Wk GxR
abbrev sDue : Stmt := topS 8
abbrev nmDue : List Str := ["_law_holds", "_law_a", "_law_b", "_law_reached", "_law_more", "_law_place", "_law_word", "_law_name"]
abbrev psDue : List Str := ["_law_holds", "_law_a", "_law_b"]
theorem scDue : FnScope nmDue psDue (defScope sDue) := ⟨rfl, rfl, rfl, by decide +kernel, rfl, by decide +kernel, by decide +kernel⟩
section
variable {P : Program} {w : World} {K : PySem.W.Frag} {mg : Str → Option Value} {base : Heap}
theorem ok_due {f : Addr} {fd : FuncData} {k : Nat} (F : Fun K "_law_due" "_law_due" sDue f fd) (ml : mg "list" = none) : FnOk P w K mg base CX0 (k + 1) f fd psDue spMayCome := by
  refine F.ok scDue (fun vs H Q E h => ?_) (fun cdv A outer s H vs Q E hr h => ?_)
  · obtain ⟨_, _, _, _, _, rfl, _⟩ := h
    rfl
  obtain ⟨d, kvs, hs, a, b, rfl, hd, hH, ls, le, q⟩ := h
  have hu := Nat.lt_of_le_of_lt (Nat.add_le_add_left (show 1 ≤ 64 by decide) _) hr.units
  refine ⟨_, pss_cons (ps_set (i := 3) scDue.nd rfl (.inl rfl) (pe_lst (pa_cons (pv 2) pa_nil)))
    (pss_cons (ps_set (i := 4) scDue.nd rfl (.inl rfl) pe_bl)
    (pss_cons (ps_while PassesOwn.never (pt_val (pv 4))
      (pss_cons (ps_set (i := 4) scDue.nd rfl (.inl rfl) pe_bl)
      (pss_one (ps_for PassesOwn.never rfl (pi_list (pe_callTy call_list_of (by rfl) ml (by decide +kernel) (pa_cons (pv 3) pa_nil))) (pg_name (i := 5) scDue.nd rfl (.inl rfl))
        (pss_one (ps_for PassesOwn.never rfl (pi_list (pe_dget2 hu (pv 0) (pv 5) (pe_lst pa_nil) ⟨rfl, rfl, rfl, rfl⟩)) (pg_tup rfl (pgs_cons (pg_name (i := 6) scDue.nd rfl (.inl rfl)) (pgs_cons (pg_name (i := 7) scDue.nd rfl (.inl rfl)) pgs_nil)))
          (pss_one (ps_if (PW.pt (pw_and (pt_cmpR op_eq (pv 6) pe_str (nomark _)) (pw_and1 (pt_cmpR op_notIn_seq (pv 7) (pv 3) rfl))))
            (pss_cons (ps_set (i := 3) scDue.nd rfl (.inl rfl) (pe_op op_cat (pv 3) (pe_lst (pa_cons (pv 7) pa_nil)))) (pss_one (ps_set (i := 4) scDue.nd rfl (.inl rfl) pe_bl))) pss_nil))))))))
    (pss_one (ps_ret (pe_cmpR (op_neL0 hr.units) (pe_lc (own := [("_law_place", 5)]) (g := gName 5) (tt := tTest (tOp (rInPair K) (tTup (tCons (tC (.str "room")) (tCons (tVar 1) tNil))) (tDGet2 (tVar 0) (tVar 5) (tLst tNil)))) (te := tVar 5) (by rfl) scDue.nd (pi_list (pv 3))
        (blkOk_by (own := [("_law_place", 5)]) (N := nmDue) (sc := defScope sDue) (by decide +kernel)) (fun _ _ _ _ _ => pg_name (i := 5) scDue.nd rfl (Or.inl rfl))
        (fun _ _ _ _ _ => pts_one (pt_cmpR (op_inPair hr.units) (pe_tup (pa_cons pe_str (pa_cons (pv 1) pa_nil))) (pe_dget2 hu (pv 0) (pv 5) (pe_lst pa_nil) ⟨rfl, rfl, rfl, rfl⟩) rfl)) (fun _ _ _ _ _ => pv 5)) (pe_lst pa_nil) (nomark _)))))), ?_⟩
  have hU : ∀ p x, x ∈ adjH hs p → x ∈ univH hs := fun p x hx => adj_univ hx
  have lU : (univH hs).length ≤ 400 := Nat.le_trans (univ_len le) (by omega)
  refine ⟨_, rfl, (show 1 ≤ sizeLine by decide), fun r0 nr0 => ?_⟩
  refine ⟨fun n σ H' => ∃ (R : List Str) (rl : Addr) (more : Bool) (s5 s6 s7 : Option V), σ = [some (.ref d), some (.str a), some (.str b), some (.ref rl), some (.bl more), s5, s6, s7] ∧ DueS (adjH hs) b H rl R H' ∧ (more = false → ∀ p ∈ R, ∀ x ∈ adjH hs p, x ∈ R) ∧ n = 2 * ((univH hs).length + 1 - R.length) + more.toNat,
    ⟨_, [b], r0, true, _, _, _, rfl, ⟨same_new nr0, upd_same, List.mem_singleton.mpr rfl, List.nodup_cons.mpr ⟨(fun z => nomatch z), List.nodup_nil⟩, fun x hx => .inl (List.mem_singleton.mp hx)⟩, (fun z => by cases z), rfl⟩, ?_⟩
  rintro n σ H1 ⟨R, rl, more, s5, s6, s7, rfl, hS, hcl, rfl⟩
  have lR := hS.len hU
  refine ⟨_, rfl, more, rfl, ?_⟩
  cases more with
  | false =>
    refine iteF ?_
    have cl := hcl rfl
    refine ⟨_, rfl, rl, rfl, ⟨_, SqL.of hS.hr⟩, fun D nD => ?_⟩
    refine lc_it (walk_list (xs := R.map V.str)) (fun j H' => Same H1 H' ∧ ∃ fs : List Str, H' D = some (.lst (fs.map V.str)) ∧ fs.length ≤ j ∧ (fs ≠ [] ↔ ∃ p ∈ R.take j, a ∈ adjH hs p)) ⟨same_new nD, [], upd_same, Nat.le_refl 0, ⟨fun z => absurd rfl z, fun ⟨p, hp, _⟩ => nomatch hp⟩⟩ (fun j H' _ hP => SqL.of (hP.1 _ _ hS.hr)) (fun j y H4 H5 hj hP hY => ?_) (fun H4 hP => ?_)
    · obtain ⟨rfl, hy⟩ := hY
      obtain ⟨sm, fs, hD, lf, hf⟩ := hP
      rw [List.getElem?_map] at hy
      obtain ⟨p, hp, rfl⟩ := Option.map_eq_some_iff.mp hy
      have tk : R.take (j + 1) = R.take j ++ [p] := by rw [List.take_add_one, hp]; rfl
      rw [List.length_map] at hj
      refine ⟨rfl, _, rfl, (show 2 ≤ sizeLine by decide), fun c nc => ?_⟩
      have s5 : Same H (upd H5 c (.tup [.str "room", .str a])) := (hS.sm.trans sm).trans (same_new nc)
      have hD5 : upd H5 c (.tup [.str "room", .str a]) D = _ := kn hD nc
      have hc5 : upd H5 c (.tup [.str "room", .str a]) c = some (.tup [.str "room", .str a]) := upd_same
      have sm5 : Same H1 (upd H5 c (.tup [.str "room", .str a])) := sm.trans (same_new nc)
      generalize upd H5 c (.tup [.str "room", .str a]) = H6 at *
      refine ⟨_, rfl, d, rfl, .inl ⟨kvs, .inl (s5 _ _ hd)⟩, _, rfl, (show 0 ≤ sizeLine by decide), fun e0 ne0 => ?_⟩
      refine ⟨_, DGet.k (k := Sum.inr p) (kn (s5 _ _ hd) ne0), ?_⟩
      have s7 : Same H6 (upd H6 e0 (.lst [])) := same_new ne0
      have he0 : upd H6 e0 (.lst []) e0 = some (.lst []) := upd_same
      have nD7 : ∀ x o, H1 x = some o → x ≠ D := fun x o e => ne_of_none e nD
      generalize upd H6 e0 (.lst []) = H7 at *
      obtain ⟨l, xs, el, hl, hE⟩ := held_list hH (s5.trans s7) he0 p
      refine ⟨c, l, "room", a, xs, _, rfl, el, s7 _ _ hc5, SqL.of hl, hE, _, rfl, ite2 (fun c => ?_) (fun c => ?_)⟩
      · have ia : a ∈ adjH hs p := roomsE_mem.mpr (of_decide_eq_true c)
        refine ⟨_, rfl, _, s7 _ _ hD5, small1000 (by rw [List.length_map]; omega), fun x o e => ?_, fs ++ [p], ?_, ?_, ?_⟩
        · rw [upd_ne (nD7 x o e)]; exact s7 _ _ (sm5 _ _ e)
        · rw [upd_same, List.map_append]; rfl
        · rw [List.length_append]; show fs.length + 1 ≤ j + 1; omega
        · refine ⟨fun _ => ⟨p, by rw [tk]; exact List.mem_append_right _ (List.mem_singleton.mpr rfl), ia⟩, fun _ z => ?_⟩
          have := congrArg List.length z
          rw [List.length_append] at this
          cases this
      · refine ⟨sm5.trans s7, fs, s7 _ _ hD5, by omega, ?_⟩
        rw [hf, tk]
        constructor
        · rintro ⟨x, hx, h⟩
          exact ⟨x, List.mem_append_left _ hx, h⟩
        · rintro ⟨x, hx, h⟩
          rcases List.mem_append.mp hx with z | z
          · exact ⟨x, z, h⟩
          · rw [List.mem_singleton.mp z] at h
            exact absurd (decide_eq_true (roomsE_mem.mp h)) c
    obtain ⟨sm, fs, hD, lf, hf⟩ := hP
    rw [List.length_map, List.take_length] at hf
    refine ⟨(show 0 ≤ sizeLine by decide), fun e1 ne1 => ⟨D, e1, _, rfl, rfl, SqL.of (kn hD ne1), SqL.of upd_same, ?_⟩⟩
    refine q _ _ ((hS.sm.trans sm).trans (same_new ne1)) ?_
    rw [← rch_due hS.bR hS.ok cl, ← hf]
    cases fs with
    | nil => exact ⟨fun z => (by cases z), fun z => absurd rfl z⟩
    | cons x fs => exact ⟨fun _ z => (by cases z), fun _ => rfl⟩
  | true =>
    refine iteT ⟨_, fun σ' H' h => h, ?_⟩
    refine ⟨_, rfl, rl, _, rfl, .inl (SqL.of hS.hr), fun c nc => ?_⟩
    refine ⟨c, rfl, ⟨_, SqL.of upd_same⟩, for_it (walk_list (xs := R.map V.str)) (fun i σ H' => ∃ (R' : List Str) (rl' : Addr) (more : Bool) (s5 s6 s7 : Option V), σ = [some (.ref d), some (.str a), some (.str b), some (.ref rl'), some (.bl more), s5, s6, s7] ∧ DueS (adjH hs) b H rl' R' H' ∧ H' c = some (.lst (R.map V.str)) ∧
        (more = true → R.length < R'.length) ∧ (more = false → R' = R ∧ ∀ p ∈ R.take i, ∀ x ∈ adjH hs p, x ∈ R))
      ⟨R, rl, false, _, _, _, rfl, hS.same (same_new nc), upd_same, (fun z => by cases z), fun _ => ⟨rfl, fun p hp => nomatch hp⟩⟩ (fun i σ H' _ hP => ?_) (fun i x σ H4 H5 hi hP hY => ?_) (fun σ H' hP => ?_)⟩
    · obtain ⟨_, _, _, _, _, _, _, _, h, _⟩ := hP
      exact SqL.of h
    · obtain ⟨R1, rl1, mo1, s5, s6, s7, rfl, hS1, hc1, a1, a2⟩ := hP
      obtain ⟨rfl, hx⟩ := hY
      rw [List.getElem?_map] at hx
      obtain ⟨p, hp, rfl⟩ := Option.map_eq_some_iff.mp hx
      have pR : p ∈ R := List.mem_of_getElem? hp
      have pOk : p = b ∨ RchP (adjH hs) b p := hS.ok p pR
      have tk : R.take (i + 1) = R.take i ++ [p] := by rw [List.take_add_one, hp]; rfl
      refine ⟨_, rfl, d, rfl, .inl ⟨kvs, .inl (hS1.sm _ _ hd)⟩, _, rfl, (show 0 ≤ sizeLine by decide), fun e0 ne0 => ?_⟩
      refine ⟨_, DGet.k (k := Sum.inr p) (kn (hS1.sm _ _ hd) ne0), ?_⟩
      have s6' : Same H5 (upd H5 e0 (.lst [])) := same_new ne0
      have he0 : upd H5 e0 (.lst []) e0 = some (.lst []) := upd_same
      generalize upd H5 e0 (.lst []) = H6 at *
      obtain ⟨l, xs, el, hl, hE⟩ := held_list hH (hS1.sm.trans s6') he0 p
      have lE := EnsAt.len hE
      rw [el]
      refine ⟨l, rfl, ⟨_, SqL.of hl⟩, for_it (walk_list (xs := xs)) (fun j σ H' => ∃ (R' : List Str) (rl' : Addr) (more : Bool) (s6 s7 : Option V), σ = [some (.ref d), some (.str a), some (.str b), some (.ref rl'), some (.bl more), some (.str p), s6, s7] ∧ DueS (adjH hs) b H rl' R' H' ∧ Same H6 H' ∧
          (more = true → R.length < R'.length) ∧ (more = false → R' = R ∧ (∀ p ∈ R.take i, ∀ x ∈ adjH hs p, x ∈ R) ∧ ∀ x ∈ roomsE ((entH hs p).take j), x ∈ R))
        ⟨R1, rl1, mo1, _, _, rfl, hS1.same s6', (fun _ _ e => e), a1, fun z => ⟨(a2 z).1, (a2 z).2, fun x hx => nomatch hx⟩⟩ (fun j σ H' _ hP => ?_) (fun j y σ H7 H8 hj hP hY => ?_) (fun σ H' hP => ?_)⟩
      · obtain ⟨_, _, _, _, _, _, _, h, _⟩ := hP
        exact SqL.of (h _ _ hl)
      · obtain ⟨R2, rl2, mo2, s6, s7, rfl, hS2, sm2, b1, b2⟩ := hP
        obtain ⟨rfl, hy⟩ := hY
        obtain ⟨e, t', he, rfl, ht'⟩ := EnsAt.get hE hy
        have tk2 : (entH hs p).take (j + 1) = (entH hs p).take j ++ [e] := by rw [List.take_add_one, he]; rfl
        have lR2 := hS2.len hU
        -- an entry that tells nothing new
        have skip : (e.1 = "room" → e.2 ∈ R2) → mo2 = false → R2 = R ∧ (∀ p ∈ R.take i, ∀ x ∈ adjH hs p, x ∈ R) ∧ ∀ x ∈ roomsE ((entH hs p).take (j + 1)), x ∈ R := fun hk z => by
          obtain ⟨z1, z2, z3⟩ := b2 z
          refine ⟨z1, z2, fun x hx => ?_⟩
          rw [tk2, roomsE_app] at hx
          rcases List.mem_append.mp hx with h | h
          · exact z3 x h
          · have h2 := List.mem_singleton.mp (roomsE_mem.mp h)
            have h3 := hk (by rw [← h2])
            rw [← h2, z1] at h3
            exact h3
        refine ⟨t', _, rfl, SqT.of (sm2 _ _ ht'), rfl, _, _, rfl, _, _, rfl, rfl, _, rfl, rfl, _, rfl, ite2 (fun c1 => ?_) (fun c1 => iteF ?_)⟩
        · have ec : e.1 = "room" := str_eq c1
          have eg : e.2 ∈ adjH hs p := roomsE_mem.mpr (by rw [← ec]; exact List.mem_of_getElem? he)
          have re : RchP (adjH hs) b e.2 := pOk.elim (fun z => by rw [z] at eg; exact .one eg) (fun h => .step h eg)
          refine ⟨_, rfl, _, rfl, rl2, _, rfl, .inl (SqL.of hS2.hr), rfl, Wk.flat_strs _, _, rfl, ?_⟩
          show if (!inV (.str e.2) (R2.map V.str)) = true then _ else _
          rw [inV_strs]
          by_cases c2 : e.2 ∈ R2
          · rw [decide_eq_true c2]
            exact iteF ⟨R2, rl2, mo2, _, _, rfl, hS2, sm2, b1, skip fun _ => c2⟩
          · rw [decide_eq_false c2]
            refine iteT ⟨_, rfl, _, rfl, (show 1 ≤ sizeLine by decide), fun e1 ne1 => ⟨rl2, e1, _, _, rfl, rfl, kn hS2.hr ne1, upd_same, small (by rw [List.length_map, List.length_singleton]; omega), fun r2 nr2 => ?_⟩⟩
            have sn := (same_new (o := HO.lst [.str e.2]) ne1).trans (same_new (o := HO.lst (R2.map V.str ++ [.str e.2])) nr2)
            refine ⟨R2 ++ [e.2], r2, true, _, _, rfl, hS2.add sn upd_same c2 re, sm2.trans sn, fun _ => ?_, fun z => by cases z⟩
            have : R.length ≤ R2.length := by
              cases mo2 with
              | true => exact Nat.le_of_lt (b1 rfl)
              | false => rw [(b2 rfl).1]; exact Nat.le_refl _
            rw [List.length_append]
            show R.length < R2.length + 1
            omega
        · exact ⟨R2, rl2, mo2, _, _, rfl, hS2, sm2, b1, skip fun z => absurd z (str_ne c1)⟩
      · obtain ⟨R2, rl2, mo2, s6, s7, rfl, hS2, sm2, b1, b2⟩ := hP
        rw [lE, List.take_length] at b2
        refine ⟨R2, rl2, mo2, _, _, _, rfl, hS2, sm2 _ _ (s6' _ _ hc1), b1, fun z => ?_⟩
        obtain ⟨z1, z2, z3⟩ := b2 z
        refine ⟨z1, fun x hx => ?_⟩
        rw [tk] at hx
        rcases List.mem_append.mp hx with h | h
        · exact z2 x h
        · rw [List.mem_singleton.mp h]; exact z3
    · obtain ⟨R2, rl2, mo2, s5, s6, s7, rfl, hS2, _, b1, b2⟩ := hP
      rw [List.length_map, List.take_length] at b2
      have lR2 := hS2.len hU
      refine ⟨_, ?_, R2, rl2, mo2, _, _, _, rfl, hS2, fun z => ?_, rfl⟩
      · cases mo2 with
        | true =>
          have := b1 rfl
          show 2 * ((univH hs).length + 1 - R2.length) + 1 < 2 * ((univH hs).length + 1 - R.length) + 1
          omega
        | false =>
          rw [(b2 rfl).1]
          show 2 * ((univH hs).length + 1 - R.length) + 0 < 2 * ((univH hs).length + 1 - R.length) + 1
          omega
      · obtain ⟨z1, z2⟩ := b2 z
        rw [z1]
        exact z2
end
end K43

set_option Elab.async false
set_option linter.all false
set_option maxRecDepth 100000
set_option maxHeartbeats 2000000
namespace K43
open PySem PySem.Spec PyProof.Rows L2 Wk
abbrev sLeft : Stmt := topS 5
abbrev sDigit : Stmt := topS 6
abbrev sNames : Stmt := topS 7
theorem scLeft : FnScope ["_law_cell", "_law_left_here", "_law_number", "_law_turn"] ["_law_cell"] (defScope sLeft) := ⟨rfl, rfl, rfl, by decide +kernel, rfl, by decide +kernel, by decide +kernel⟩
theorem scDigit : FnScope ["_law_left_here", "_law_many", "_law_found"] ["_law_left_here", "_law_many"] (defScope sDigit) := ⟨rfl, rfl, rfl, by decide +kernel, rfl, by decide +kernel, by decide +kernel⟩
theorem scNames : FnScope ["_law_left_here", "_law_many", "_law_letters", "_law_start", "_law_found", "_law_k", "_law_word", "_law_j"] ["_law_left_here", "_law_many"] (defScope sNames) := ⟨rfl, rfl, rfl, by decide +kernel, rfl, by decide +kernel, by decide +kernel⟩
section
variable {P : Program} {w : World} {K : PySem.W.Frag} {mg : Str → Option Value} {base : Heap}
/-! ### _law_left: a new list of one number -/
theorem ok_left {f : Addr} {fd : FuncData} {k : Nat} (F : Fun K "_law_left" "_law_left" sLeft f fd) (ma : mg "abs" = none) (mr : mg "range" = none) : FnOk P w K mg base CX0 (k + 1) f fd ["_law_cell"] spLeft := by
  refine F.ok scLeft (fun vs H Q E h => ?_) (fun cdv A outer s H vs Q E hr h => ?_)
  · obtain ⟨v, rfl, _⟩ := h
    rfl
  obtain ⟨c, rfl, q⟩ := h
  refine ⟨_, pss_cons (ps_set (i := 1) scLeft.nd rfl (.inl rfl) (pe_callB call_abs (by rfl) ma (by decide +kernel) (pa_cons (pv 0) pa_nil)))
    (pss_cons (ps_if (pt_cmpR op_lt (pv 1) (pe_op op_pow pe_int pe_int) (nomark _))
      (pss_cons (ps_set (i := 2) scLeft.nd rfl (.inl rfl) (pv 0))
      (pss_one (ps_for PassesOwn.never rfl (pi_range1 rfl mr (pa_cons pe_int pa_nil)) (pg_name (i := 3) scLeft.nd rfl (.inl rfl))
        (pss_cons (ps_set (i := 2) scLeft.nd rfl (.inl rfl) (pe_op op_mod (pe_op op_mul (pe_op op_add (pe_op op_mod (pv 2) pe_int) pe_int) pe_int) pe_int))
        (pss_cons (ps_set (i := 2) scLeft.nd rfl (.inl rfl) (pe_op op_add (pe_op op_mod (pe_op op_mul (pv 2) pe_int) pe_int) (pv 3)))
        (pss_one (ps_set (i := 1) scLeft.nd rfl (.inl rfl) (pe_op op_add (pe_op op_mul (pv 1) pe_int) (pv 2))))))))) pss_nil)
    (pss_one (ps_ret (pe_lst (pa_cons (pv 1) pa_nil))))), ?_⟩
  have one_le : (1 : Nat) ≤ sizeLine := by decide
  refine ⟨_, rfl, c, rfl, _, rfl, _, _, rfl, rfl, by unfold CPow; decide, _, _, rfl, rfl, _, rfl, ite2 (fun h => ?_) (fun h => ?_)⟩
  · refine ⟨_, rfl, 40, rfl, by decide, by decide, for_range (n := 40) (lo := 0) (fun _ σ H' => H' = H ∧ ∃ a d : Option V, ∃ i j : Int, σ = [a, some (.int i), some (.int j), d]) ⟨rfl, _, _, _, _, rfl⟩ (fun i σ H' hi hP => ?_) fun σ H' hP => ?_⟩
    · obtain ⟨rfl, a, d, x, y, rfl⟩ := hP
      refine ⟨_, rfl, _, _, rfl, rfl, pos1, _, _, rfl, rfl, _, _, rfl, rfl, .inr ⟨by decide, by decide⟩, _, _, rfl, rfl, pos1, ?_⟩
      refine ⟨_, rfl, _, _, rfl, rfl, .inr ⟨by decide, by decide⟩, _, _, rfl, rfl, pos2, _, rfl, _, _, rfl, rfl, ?_⟩
      refine ⟨_, rfl, _, _, rfl, rfl, .inr ⟨by decide, by decide⟩, _, rfl, _, _, rfl, rfl, ?_⟩
      exact ⟨rfl, _, _, _, _, rfl⟩
    · obtain ⟨rfl, a, d, x, y, rfl⟩ := hP
      exact ⟨_, rfl, one_le, fun p np => q p _ np⟩
  · exact ⟨_, rfl, one_le, fun p np => q p _ np⟩
/-! ### _law_digit -/
theorem ok_digit {f : Addr} {fd : FuncData} {k : Nat} (F : Fun K "_law_digit" "_law_digit" sDigit f fd) : FnOk P w K mg base CX0 (k + 1) f fd ["_law_left_here", "_law_many"] spDigit := by
  refine F.ok scDigit (fun vs H Q E h => ?_) (fun cdv A outer s H vs Q E hr h => ?_)
  · obtain ⟨L, n, m, rfl, _⟩ := h
    rfl
  obtain ⟨L, n, m, rfl, hL, h0, h1, q⟩ := h
  refine ⟨_, pss_cons (ps_set (i := 2) scDigit.nd rfl (.inl rfl) (pe_op op_mod (pe_ix ix_list (pv 0) pe_int (fun _ _ => rfl)) (pv 1)))
    (pss_cons (ps_asg (pe_op op_fdiv (pe_ix ix_list (pv 0) pe_int (fun _ _ => rfl)) (pv 1)) (pg_sub (pv 0) pe_int set_list))
    (pss_one (ps_ret (pv 2)))), ?_⟩
  refine ⟨_, rfl, L, _, 0, _, rfl, rfl, SqL.of hL, atI_nat (j := 0) rfl, _, rfl, _, _, rfl, rfl, h0, ?_⟩
  refine ⟨_, rfl, L, _, 0, _, rfl, rfl, SqL.of hL, atI_nat (j := 0) rfl, _, rfl, _, _, rfl, rfl, ⟨h0, h1⟩, ?_⟩
  refine ⟨_, rfl, L, _, 0, 0, rfl, rfl, hL, rfl, ?_⟩
  exact ⟨_, rfl, q _ _ (Int.emod_nonneg n (by omega)) (Int.emod_lt_of_pos n h0)⟩
/-! ### _law_names -/
theorem ok_names {f fD : Addr} {fd fdD : FuncData} (F : Fun K "_law_names" "_law_names" sNames f fd) (GD : FnOk P w K mg base CX0 1 fD fdD ["_law_left_here", "_law_many"] spDigit) (bD : Binds K fdD ["_law_left_here", "_law_many"] []) (kD : PySem.W.keepIn K (.ref fD) = true)
    (mD : mg "_law_digit" = some (.ref fD)) (mr : mg "range" = none) : FnOk P w K mg base CX0 2 f fd ["_law_left_here", "_law_many"] spNames := by
  refine F.ok scNames (fun vs H Q E h => ?_) (fun cdv A outer s H vs Q E hr h => ?_)
  · obtain ⟨L, n, m, rfl, _⟩ := h
    rfl
  obtain ⟨L, n, m, rfl, hL, hm, q⟩ := h
  refine ⟨_, pss_cons (ps_set (i := 2) scNames.nd rfl (.inl rfl) pe_str)
    (pss_cons (ps_set (i := 3) scNames.nd rfl (.inl rfl) (pe_call GD hr (by rfl) mD kD bD .nil pass0 (pa_cons (pv 0) (pa_cons pe_int pa_nil))))
    (pss_cons (ps_set (i := 4) scNames.nd rfl (.inl rfl) (pe_lst pa_nil))
    (pss_cons (ps_for PassesOwn.never rfl (pi_range1 rfl mr (pa_cons (pv 1) pa_nil)) (pg_name (i := 5) scNames.nd rfl (.inl rfl))
        (pss_cons (ps_set (i := 6) scNames.nd rfl (.inl rfl) (pe_ix ix_str (pv 2) (pe_op op_mod (pe_op op_add (pv 3) (pe_op op_mul pe_int (pv 5))) pe_int) (fun _ _ => rfl)))
        (pss_cons (ps_for PassesOwn.never rfl (pi_range1 rfl mr (pa_cons (pe_call GD hr (by rfl) mD kD bD .nil pass0 (pa_cons (pv 0) (pa_cons pe_int pa_nil))) pa_nil)) (pg_name (i := 7) scNames.nd rfl (.inl rfl))
          (pss_one (ps_set (i := 6) scNames.nd rfl (.inl rfl) (pe_op op_add_str (pv 6) (pe_ix ix_str pe_str (pe_call GD hr (by rfl) mD kD bD .nil pass0 (pa_cons (pv 0) (pa_cons pe_int pa_nil))) (fun _ _ => rfl))))))
        (pss_one (ps_expr (pe_bm PySem.F.plainAttrs_list PySem.F.slot_list_append PySem.F.type_list_append mt_append (pv 4) (pa_cons (pv 6) pa_nil)))))))
    (pss_one (ps_ret (pv 4)))))), ?_⟩
  refine ⟨_, rfl, L, n, 26, rfl, hL, by decide, by decide, fun st n1 st0 st1 => ?_⟩
  refine ⟨(show 0 ≤ sizeLine by decide), fun p np => ?_⟩
  have pL : p ≠ L := fun e => by
    rw [e, upd_same] at np
    cases np
  have nH : H p = none := by rw [upd_ne pL] at np; exact np
  have x1 : StL L H (upd (upd H L (.lst [.int n1])) p (.lst [])) := (StL.put n1).trans (StL.new upd_same np)
  refine ⟨_, rfl, (m : Int), rfl, by omega, by omega, for_range (n := m) (lo := 0) (fun i σ H' => StL L H H' ∧ ∃ zs : List Str, H' p = some (.lst (zs.map V.str)) ∧ zs.length = i ∧ (∀ j z, zs[j]? = some z → NameOf ((st.toNat + 5 * j) % 26) z) ∧
      ∃ s5 s6 s7 : Option V, σ = [some (.ref L), some (.int m), some (.str abc), some (.int st), some (.ref p), s5, s6, s7]) ⟨x1, [], upd_same, rfl, fun j z e => (by simp at e), _, _, _, rfl⟩ (fun i σ H' hi hP => ?_) fun σ H' hP => ?_⟩
  · obtain ⟨x2, zs, hp, hl, hn, s5, s6, s7, rfl⟩ := hP
    have ei : (st + 5 * (0 + (i : Int))) % 26 = (((st.toNat + 5 * i) % 26 : Nat) : Int) := by omega
    refine ⟨_, rfl, _, rfl, _, rfl, _, _, rfl, rfl, .inl ⟨by decide, by decide⟩, _, _, rfl, rfl, _, _, rfl, rfl, (show (0 : Int) < 26 by decide), ?_⟩
    refine ⟨abc, _, 97 + (st.toNat + 5 * i) % 26, rfl, rfl, by decide +kernel, by rw [ei]; exact atI_nat (abc_at _ (Nat.mod_lt _ (by decide))), ?_⟩
    obtain ⟨n2, hn2⟩ := x2.2
    refine ⟨_, rfl, L, n2, 6, rfl, hn2, by decide, by decide, fun d n3 d0 d1 => ?_⟩
    have x3 := x2.trans (StL.put (H := H') (L := L) n3)
    have hp3 : upd H' L (.lst [.int n3]) p = some (.lst (zs.map V.str)) := by rw [upd_ne pL]; exact hp
    refine ⟨d, rfl, Int.le_trans (by decide) d0, Int.lt_of_lt_of_le d1 (by decide), for_range (n := d.toNat) (lo := 0) (fun j σ H' => StL L H H' ∧ H' p = some (.lst (zs.map V.str)) ∧ ∃ (z : Str) (r : List Nat), z.cps.toList = (97 + (st.toNat + 5 * i) % 26) :: r ∧ r.length = j ∧ (∀ c ∈ r, c ∈ vow.cps.toList) ∧
      ∃ s5 s7 : Option V, σ = [some (.ref L), some (.int m), some (.str abc), some (.int st), some (.ref p), s5, some (.str z), s7]) ⟨x3, hp3, _, [], rfl, rfl, fun c hc => (nomatch hc), _, _, rfl⟩ (fun j σ H' hj hP => ?_) fun σ H' hP => ?_⟩
    · obtain ⟨x4, hp4, z, r, ez, hr1, hv, s5, s7, rfl⟩ := hP
      obtain ⟨n4, hn4⟩ := x4.2
      refine ⟨_, rfl, _, rfl, L, n4, 8, rfl, hn4, by decide, by decide, fun g n5 g0 g1 => ?_⟩
      obtain ⟨c, hc, hat, _⟩ := atX_lt (l := vow.cps.toList) g0 (by rw [vow_len]; exact g1)
      refine ⟨vow, g, c, rfl, rfl, by decide +kernel, hat, z, _, rfl, rfl, ?_, ?_⟩
      · have hz : z.length = r.length + 1 := by
          show z.cps.size = _
          rw [← Array.length_toList, ez, List.length_cons]
        exact small (by rw [hz]; show r.length + 1 + 1 ≤ 1000; omega)
      · refine ⟨x4.trans (StL.put n5), by rw [upd_ne pL]; exact hp4, _, r ++ [c], ?_, ?_, ?_, _, _, rfl⟩
        · rw [app_codes, ez, List.cons_append]
        · rw [List.length_append, hr1]
          rfl
        · intro e he
          rcases List.mem_append.mp he with u | u
          · exact hv e u
          · rw [List.mem_singleton.mp u]
            exact hc
    · obtain ⟨x4, hp4, z, r, ez, hr1, hv, s5, s7, rfl⟩ := hP
      refine ⟨_, rfl, .inl ⟨rfl, _, SqL.of hp4⟩, _, rfl, p, _, _, rfl, rfl, hp4, by rw [List.length_map]; exact small1000 (by omega), ?_⟩
      obtain ⟨n4, hn4⟩ := x4.2
      refine ⟨⟨fun b o nb e => ?_, n4, by rw [upd_ne (Ne.symm pL)]; exact hn4⟩, zs ++ [z], by rw [upd_same, List.map_append]; rfl, by rw [List.length_append, hl]; rfl, fun j y hy => ?_, _, _, _, rfl⟩
      · rw [upd_ne (ne_of_none e nH)]
        exact x4.1 b o nb e
      · by_cases hj : j < zs.length
        · rw [List.getElem?_append_left hj] at hy
          exact hn j y hy
        · have ej : j = i := by
            have := (List.getElem?_eq_some_iff.mp hy).1
            rw [List.length_append, List.length_singleton] at this
            omega
          rw [List.getElem?_append_right (by omega), show j - zs.length = 0 by omega] at hy
          rw [← Option.some.inj (show some z = some y from hy), ej]
          exact ⟨r, ez, by omega, hv⟩
  · obtain ⟨x2, zs, hp, hl, hn, s5, s6, s7, rfl⟩ := hP
    exact ⟨_, rfl, q H' p st.toNat zs x2 nH hp hl (by omega) hn⟩
/-! ### _law_part and _law_row, by the room that is left -/
end
end K43

set_option Elab.async false
set_option linter.all false
set_option maxRecDepth 100000
set_option maxHeartbeats 400000
namespace K43
open PySem PySem.Spec PyProof.Rows L2 Wk GxR
abbrev sLaw : Stmt := topS 9
abbrev nmLaw : List Str := ["_law_script", "_law_cell", "_law_left_here", "_law_names_here", "_law_holds", "_law_place", "_law_turn", "_law_word", "_law_kept", "_law_a", "_law_b", "_law_found"]
theorem scLaw : FnScope nmLaw ["_law_script"] (defScope sLaw) := ⟨rfl, rfl, rfl, by decide +kernel, rfl, by decide +kernel, by decide +kernel⟩
def spLaw (K : PySem.W.Frag) : Sp := fun vs H Q _ => ∃ (a : Addr) (ns : List Int), vs = [.ref a] ∧ SqL K H a (ns.map V.int) ∧ ns.length ≤ 63 ∧ ∀ H', Q (.bl true) H'
abbrev psL : List Str := ["_law_left_here", "_law_many"]
section
variable {P : Program} {w : World} {K : PySem.W.Frag} {mg : Str → Option Value} {base : Heap}
theorem ok_law {f f1 f3 fD fM fU : Addr} {fd d1 d3 dD dM dU : FuncData} (F : Fun K "law" "law" sLaw f fd)
    (G1 : FnOk P w K mg base CX0 1 f1 d1 ["_law_cell"] spLeft) (b1 : Binds K d1 ["_law_cell"] []) (k1 : PySem.W.keepIn K (.ref f1) = true) (m1 : mg "_law_left" = some (.ref f1))
    (G3 : FnOk P w K mg base CX0 2 f3 d3 psL spNames) (b3 : Binds K d3 psL []) (k3 : PySem.W.keepIn K (.ref f3) = true) (m3 : mg "_law_names" = some (.ref f3))
    (GD : FnOk P w K mg base CX0 1 fD dD psL spDigit) (bD : Binds K dD psL []) (kD : PySem.W.keepIn K (.ref fD) = true) (mD : mg "_law_digit" = some (.ref fD))
    (GM : FnOk P w K mg base CX0 2 fM dM ["holds", "a", "b"] spMayCome) (bM : Binds K dM ["holds", "a", "b"] []) (kM : PySem.W.keepIn K (.ref fM) = true) (mM : mg "may_come" = some (.ref fM))
    (GU : FnOk P w K mg base CX0 1 fU dU psDue spMayCome) (bU : Binds K dU psDue []) (kU : PySem.W.keepIn K (.ref fU) = true) (mU : mg "_law_due" = some (.ref fU))
    (mr : mg "range" = none) (mi : mg "isinstance" = none) (mb : mg "bool" = none) (mrp : mg "repr" = none) : FnG P w K mg base 3 f fd ["_law_script"] (spLaw K) := by
  refine FnG.of F scLaw (fun vs H Q E h => ?_) (fun cdv A outer s H vs Q E gA hr h => ?_)
  · obtain ⟨a, ns, rfl, _⟩ := h
    rfl
  obtain ⟨a, ns, rfl, hS, hlen, q⟩ := h
  have r1 : Room 1 _ := hr.mono (by decide)
  have hu := Nat.lt_of_le_of_lt (Nat.add_le_add_left (show 1 ≤ 64 by decide) _) hr.units
  refine ⟨_, pss_cons (ps_for PassesOwn.never rfl (pi_list (pe_op op_cat (pe_slice sl_list (pv 0) po_none (po_some pe_int)) (pe_lst (pa_cons pe_int pa_nil)))) (pg_name (i := 1) scLaw.nd rfl (.inl rfl))
      (pss_cons (ps_set (i := 2) scLaw.nd rfl (.inl rfl) (pe_call G1 r1 (by rfl) m1 k1 b1 .nil pass0 (pa_cons (pv 1) pa_nil)))
      (pss_cons (ps_set (i := 3) scLaw.nd rfl (.inl rfl) (pe_call G3 hr (by rfl) m3 k3 b3 .nil pass0 (pa_cons (pv 2) (pa_cons pe_int pa_nil))))
      (pss_cons (ps_set (i := 4) scLaw.nd rfl (.inl rfl) pe_dnewK)
      (pss_cons (ps_for PassesOwn.never rfl (pi_list (pe_op op_cat (pe_slice sl_list (pv 3) po_none (po_some pe_int)) (pe_lst (pa_cons pe_str pa_nil)))) (pg_name (i := 5) scLaw.nd rfl (.inl rfl))
        (pss_one (ps_if (pt_cmpR op_gt (pe_call GD r1 (by rfl) mD kD bD .nil pass0 (pa_cons (pv 2) (pa_cons pe_int pa_nil))) pe_int (nomark _))
          (pss_cons (ps_dput hu (pv 4) (pv 5) (pe_lstB pa_nil) rfl)
          (pss_one (ps_for PassesOwn.never rfl (pi_range1 rfl mr (pa_cons (pe_call GD r1 (by rfl) mD kD bD .nil pass0 (pa_cons (pv 2) (pa_cons pe_int pa_nil))) pa_nil)) (pg_name (i := 6) scLaw.nd rfl (.inl rfl))
            (pss_cons (ps_set (i := 7) scLaw.nd rfl (.inl rfl) (pe_ix ix_list (pe_lst (pa_cons pe_str (pa_cons pe_str (pa_cons pe_str (pa_cons pe_str (pa_cons pe_str (pa_cons pe_str (pa_cons pe_str (pa_cons pe_str pa_nil))))))))) (pe_call GD r1 (by rfl) mD kD bD .nil pass0 (pa_cons (pv 2) (pa_cons pe_int pa_nil))) (fun _ _ => rfl)))
            (pss_one (ps_expr (pe_bm PySem.F.plainAttrs_list PySem.F.slot_list_append PySem.F.type_list_append mt_append (pe_dget hu (pv 4) (pv 5) (fun _ _ => rfl)) (pa_cons (pe_tup (pa_cons (pv 7) (pa_cons (pe_ix ix_list (pv 3) (pe_call GD r1 (by rfl) mD kD bD .nil pass0 (pa_cons (pv 2) (pa_cons pe_int pa_nil))) (fun _ _ => rfl)) pa_nil))) pa_nil)))))))) pss_nil)))
      (pss_cons (ps_set (i := 8) scLaw.nd rfl (.inl rfl) (pe_callB (call_reprH gA hr.units) (by rfl) mrp (by decide +kernel) (pa_cons (pv 4) pa_nil)))
      (pss_cons (ps_for PassesOwn.never rfl (pi_list (pv 3)) (pg_name (i := 9) scLaw.nd rfl (.inl rfl))
        (pss_one (ps_for PassesOwn.never rfl (pi_list (pe_op op_cat (pv 3) (pe_lst (pa_cons pe_str pa_nil)))) (pg_name (i := 10) scLaw.nd rfl (.inl rfl))
          (pss_cons (ps_set (i := 11) scLaw.nd rfl (.inl rfl) (pe_call GM hr (by rfl) mM kM bM .nil pass0 (pa_cons (pv 4) (pa_cons (pv 9) (pa_cons (pv 10) pa_nil)))))
          (pss_one (ps_if (PW.pt (pw_or (pt_not (pt_val (pe_callB call_isi (by rfl) mi (by decide +kernel) (pa_cons (pv 11) (pa_cons (pe_bltn (v := .ty "bool") (by rfl) mb (by decide +kernel) rfl) pa_nil)))))
            (pw_or1 (pt_cmpR op_ne (pv 11) (pe_call GU r1 (by rfl) mU kU bU .nil pass0 (pa_cons (pv 4) (pa_cons (pv 9) (pa_cons (pv 10) pa_nil)))) (nomark _))))) (pss_one (ps_ret pe_bl)) pss_nil))))))
      (pss_one (ps_if (pt_cmpR op_ne (pe_callB (call_reprH gA hr.units) (by rfl) mrp (by decide +kernel) (pa_cons (pv 4) pa_nil)) (pv 8) (nomark _)) (pss_one (ps_ret pe_bl)) pss_nil)))))))))
    (pss_one (ps_ret pe_bl)), ?_⟩
  refine ⟨.ref a, rfl, 12, rfl, a, ns.map V.int, rfl, hS, fun c nc => ?_⟩
  refine ⟨(show 1 ≤ sizeLine by decide), fun c2 nc2 => ?_⟩
  have hc2 : upd (upd H c (.lst (cutV (ns.map V.int) none (some 12)))) c2 (.lst [.int 5]) c = some (.lst (cutV (ns.map V.int) none (some 12))) := kn upd_same nc2
  have hl := cut_len (ns := ns) (lo := none) (hi := some 12) hlen
  refine ⟨c, c2, _, _, rfl, rfl, hc2, upd_same, small (by rw [List.length_singleton]; omega), fun p np => ?_⟩
  have allI : ∀ v ∈ cutV (ns.map V.int) none (some 12) ++ [V.int 5], ∃ i : Int, v = .int i := fun v hv => by
    rcases List.mem_append.mp hv with g | g
    · exact cut_ints v g
    · exact ⟨5, List.mem_singleton.mp g⟩
  generalize cutV (ns.map V.int) none (some 12) ++ [V.int 5] = items at *
  refine ⟨p, rfl, ⟨_, SqL.of upd_same⟩, for_it (walk_list (xs := items))
    (fun _ σ H' => H' p = some (.lst items) ∧ ∃ s1 s2 s3 s4 s5 s6 s7 s8 s9 s10 s11 : Option V, σ = [some (.ref a), s1, s2, s3, s4, s5, s6, s7, s8, s9, s10, s11])
    ⟨upd_same, _, _, _, _, _, _, _, _, _, _, _, rfl⟩ (fun i σ H' _ hP => SqL.of hP.1) (fun i x σ H1 H2 hi hP hY => ?_) (fun σ H' hP => q _)⟩
  obtain ⟨hp, s1, s2, s3, s4, s5, s6, s7, s8, s9, s10, s11, rfl⟩ := hP
  obtain ⟨rfl, hx⟩ := hY
  obtain ⟨j, rfl⟩ := allI x (List.mem_of_getElem? hx)
  -- the names
  refine ⟨_, rfl, j, rfl, fun L n nL => ?_⟩
  have pL : p ≠ L := ne_of_none hp nL
  refine ⟨_, rfl, L, n, 8, rfl, upd_same, by decide, fun H3 pn s zs xn npn hzs hlz hs26 hnm => ?_⟩
  have hp3 : H3 p = some (.lst items) := xn.1 _ _ pL (kn hp nL)
  obtain ⟨n3, hn3⟩ := xn.2
  have pnL : pn ≠ L := fun e => by
    rw [e, hn3] at hzs
    have e2 := HO.lst.inj (Option.some.inj hzs)
    cases zs with
    | nil => cases e2
    | cons z r => cases e2
  have shz := names_sh hnm
  have e6 : cutV (zs.map V.str) none (some 6) = (zs.take 6).map V.str := cut_to (k := 6) (by omega)
  have pnd := places_nd (by omega) hnm 6
  have psh : ∀ z ∈ zs.take 6 ++ [("." : Str)], ShS z := fun z hz => by
    rcases List.mem_append.mp hz with g | g
    · exact shS_of (shz z (List.mem_of_mem_take g))
    · rw [List.mem_singleton.mp g]; exact shS_dot
  have pln : (zs.take 6 ++ [("." : Str)]).length = 7 := by
    rw [List.length_append, List.length_take, hlz]
    rfl
  clear npn xn nL
  -- what is held
  intro d nd
  have dL : d ≠ L := Ne.symm (ne_of_none hn3 nd)
  refine ⟨_, rfl, 6, rfl, pn, _, rfl, SqL.of (kn hzs nd), fun c1 nc1 => ?_⟩
  rw [e6]
  refine ⟨(show 1 ≤ sizeLine by decide), fun c2 nc2 => ?_⟩
  refine ⟨c1, c2, _, _, rfl, rfl, kn upd_same nc2, upd_same, small (by rw [List.length_map, List.length_take, List.length_singleton]; omega), fun cl ncl => ?_⟩
  have ep : (zs.take 6).map V.str ++ [.str "."] = (zs.take 6 ++ [("." : Str)]).map V.str := by rw [List.map_append]; rfl
  rw [ep]
  have b0 : BldS p pn cl L d items zs (zs.take 6 ++ [("." : Str)]) [] [] (upd (upd (upd (upd H3 d (.dK [])) c1 (.lst ((zs.take 6).map V.str))) c2 (.lst [.str "."])) cl (.lst ((zs.take 6 ++ [("." : Str)]).map V.str))) :=
    ⟨kn (kn (kn (kn hp3 nd) nc1) nc2) ncl, kn (kn (kn (kn hzs nd) nc1) nc2) ncl, upd_same, ⟨n3, kn (kn (kn (kn hn3 nd) nc1) nc2) ncl⟩, kn (kn (kn upd_same nc1) nc2) ncl, rfl⟩
  have clL : cl ≠ L := Ne.symm (ne_of_none (kn (kn (kn hn3 nd) nc1) nc2) ncl)
  generalize upd (upd (upd (upd H3 d (.dK [])) c1 (.lst ((zs.take 6).map V.str))) c2 (.lst [.str "."])) cl (.lst ((zs.take 6 ++ [("." : Str)]).map V.str)) = H4 at *
  generalize zs.take 6 ++ [("." : Str)] = pl at *
  clear nc1 nc2 ncl nd hp3 hzs hn3 ep e6
  refine ⟨cl, rfl, ⟨_, SqL.of b0.hc⟩, for_it (walk_list (xs := pl.map V.str))
    (fun i σ H' => ∃ (hs : List HldP) (kvs : List (Key × V)) (s1 s5 s6 s7 s8 s9 s10 s11 : Option V), σ = [some (.ref a), s1, some (.ref L), some (.ref pn), some (.ref d), s5, s6, s7, s8, s9, s10, s11] ∧ BldS p pn cl L d items zs pl hs kvs H' ∧ LowK kvs ∧ hs.length ≤ i ∧ (∀ h ∈ hs, h.1 ∈ pl.take i ∧ h.2.length ≤ 10 ∧ ∀ e ∈ h.2, ShS e.1 ∧ ShS e.2))
    ⟨[], [], _, _, _, _, _, _, _, _, rfl, b0, (fun p hp => nomatch hp), Nat.le_refl 0, fun h hh => nomatch hh⟩ (fun i σ H' _ hP => ?_) (fun i x σ H5 H6 hi hP hY => ?_) (fun σ H5 hP => ?_)⟩
  · obtain ⟨_, _, _, _, _, _, _, _, _, _, _, h, _⟩ := hP
    exact SqL.of h.hc
  · obtain ⟨hs, kvs, s1, s5, s6, s7, s8, s9, s10, s11, rfl, bs, lo, lhs, hall⟩ := hP
    obtain ⟨rfl, hx⟩ := hY
    rw [List.getElem?_map] at hx
    obtain ⟨z, hz, rfl⟩ := Option.map_eq_some_iff.mp hx
    have tk : pl.take (i + 1) = pl.take i ++ [z] := by rw [List.take_add_one, hz]; rfl
    have zn : z ∉ pl.take i := by
      have h1 : (pl.take (i + 1)).Nodup := List.Nodup.sublist (List.take_sublist _ _) pnd
      rw [tk] at h1
      intro zz
      exact (List.nodup_append.mp h1).2.2 z zz z (List.mem_singleton.mpr rfl) rfl
    rw [List.length_map, pln] at hi
    obtain ⟨n5, hn5⟩ := bs.hL
    refine ⟨_, rfl, L, n5, 5, rfl, hn5, by decide, by decide, fun dg n6 d0 d1 => ?_⟩
    have bs2 := bs.stl (StL.put (H := H6) (L := L) n6) pL pnL clL
    generalize upd H6 L (.lst [.int n6]) = H7 at *
    refine ⟨_, _, rfl, rfl, _, rfl, ite2 (fun g => ?_) (fun g => ?_)⟩
    rotate_left
    · exact ⟨hs, kvs, _, _, _, _, _, _, _, _, rfl, bs2, lo, by omega, fun h hh => ⟨by rw [tk]; exact List.mem_append_left _ (hall h hh).1, (hall h hh).2⟩⟩
    refine ⟨(show 0 ≤ sizeLine by decide), fun l nl nm => ⟨_, rfl, _, rfl, d, _, rfl, DPut.k (k := Sum.inr z) (kn bs2.hd nl) (by rw [HldsAt.len bs2.hh]; exact Nat.lt_of_le_of_lt lhs (Nat.lt_of_lt_of_le hi (show 7 ≤ sizeLine by decide))), ?_⟩⟩
    rw [putK_new _ (HldsAt.no bs2.hh fun h hh e => zn (by rw [← e]; exact (hall h hh).1))]
    have f0 := bs2.place (z := z) nl
    have no := HldsAt.fresh nl bs2.hh
    have pl1 : p ≠ l := ne_of_none bs2.hp nl
    have pl2 : pn ≠ l := ne_of_none bs2.hn nl
    have pl3 : cl ≠ l := ne_of_none bs2.hc nl
    obtain ⟨n7, hn7⟩ := bs2.hL
    have lL : l ≠ L := Ne.symm (ne_of_none hn7 nl)
    generalize upd (upd H7 l (.lst [])) d (.dK (kvs ++ [(Sum.inr z, .ref l)])) = H8 at *
    have low : LowK (kvs ++ [(Sum.inr z, .ref l)]) := fun x hx m e => by
      rcases List.mem_append.mp hx with h | h
      · exact lo x h m e
      · rw [List.mem_singleton.mp h] at e
        rw [← V.ref.inj e]
        exact nm
    have ev : valV (kvs ++ [(Sum.inr z, .ref l)]) (Sum.inr z) = some (.ref l) := by
      rw [valV_snoc _ _ _ _ (HldsAt.no bs2.hh fun h hh e => zn (by rw [← e]; exact (hall h hh).1)), if_pos rfl]
    obtain ⟨n8, hn8⟩ := f0.hL
    refine ⟨_, rfl, L, n8, 7, rfl, hn8, by decide, by decide, fun m n9 m0 m1 => ?_⟩
    have f1 := f0.stl (StL.put (H := H8) (L := L) n9) pL pnL clL lL
    generalize upd H8 L (.lst [.int n9]) = H9 at *
    refine ⟨m, rfl, Int.le_trans (by decide) m0, Int.lt_of_lt_of_le m1 (by decide), for_range (n := m.toNat) (lo := 0) (fun t σ H' => ∃ (es : List EntP) (s1 s6 s7 s8 s9 s10 s11 : Option V), σ = [some (.ref a), s1, some (.ref L), some (.ref pn), some (.ref d), some (.str z), s6, s7, s8, s9, s10, s11] ∧ FilS p pn cl L d l items zs pl hs kvs z es H' ∧ es.length ≤ t ∧ ∀ e ∈ es, ShS e.1 ∧ ShS e.2)
      ⟨[], _, _, _, _, _, _, _, rfl, f1, Nat.le_refl 0, fun e he => nomatch he⟩ (fun t σ H' ht hP => ?_) (fun σ H' hP => ?_)⟩
    · obtain ⟨es, s1, s6, s7, s8, s9, s10, s11, rfl, fs, les, hes⟩ := hP
      refine ⟨(show 8 ≤ sizeLine by decide), fun w nw => ?_⟩
      have fs2 := fs.same (same_new (o := HO.lst wds8) nw)
      have hw : upd H' w (.lst wds8) w = some (.lst wds8) := upd_same
      obtain ⟨na, hna⟩ := fs.hL
      have wL : w ≠ L := Ne.symm (ne_of_none hna nw)
      obtain ⟨nb, hnb⟩ := fs2.hL
      refine ⟨_, rfl, L, nb, 8, rfl, hnb, by decide, by decide, fun dd nd' e0 e1 => ?_⟩
      obtain ⟨o, ho, hat, _⟩ := atX_lt (l := wds8) e0 e1
      obtain ⟨wz, rfl, swz⟩ := wds8_sh o ho
      refine ⟨w, wds8, dd, _, rfl, rfl, SqL.of ((upd_ne wL).trans hw), hat, ?_⟩
      have fs3 := fs2.stl (StL.put (H := upd H' w (.lst wds8)) (L := L) nd') pL pnL clL lL
      obtain ⟨xs, hl3, hE3⟩ := fs3.hl
      obtain ⟨nc', hnc'⟩ := fs3.hL
      refine ⟨_, rfl, _, rfl, d, .ref l, rfl, .inl ⟨_, Sum.inr z, .inl fs3.hd, rfl, ev.symm⟩, .inl ⟨rfl, _, SqL.of hl3⟩, _, rfl, _, rfl, _, rfl, L, nc', 7, rfl, hnc', by decide, by decide, fun d2 ne' g0 g1 => ?_⟩
      have fs4 := fs3.stl (StL.put (H := upd (upd H' w (.lst wds8)) L (.lst [.int nd'])) (L := L) ne') pL pnL clL lL
      obtain ⟨o2, ho2, hat2, _⟩ := atX_lt (l := zs.map V.str) g0 (by rw [List.length_map, hlz]; exact Int.lt_trans g1 (by decide))
      obtain ⟨z2, hz2, rfl⟩ := List.mem_map.mp ho2
      refine ⟨pn, _, d2, _, rfl, rfl, SqL.of fs4.hn, hat2, (show 2 ≤ sizeLine by decide), fun b nb' => ?_⟩
      have fs5 := fs4.same (same_new (o := HO.tup [.str wz, .str z2]) nb')
      obtain ⟨ys, hl5, hE5⟩ := fs5.hl
      have ly := EnsAt.len hE5
      refine ⟨l, _, _, rfl, rfl, hl5, small1000 (by omega), es ++ [(wz, z2)], _, _, _, _, _, _, _, rfl, fs5.push pl1 pl2 pl3 lL no hl5 (e := (wz, z2)) upd_same, ?_, fun e he => ?_⟩
      · rw [List.length_append]
        show es.length + 1 ≤ t + 1
        omega
      · rcases List.mem_append.mp he with h | h
        · exact hes e h
        · rw [List.mem_singleton.mp h]
          exact ⟨swz, shS_of (shz z2 hz2)⟩
    · obtain ⟨es, s1, s6, s7, s8, s9, s10, s11, rfl, fs, les, hes⟩ := hP
      refine ⟨hs ++ [(z, es)], _, _, _, _, _, _, _, _, _, rfl, fs.done, low, ?_, fun h hh => ?_⟩
      · rw [List.length_append]
        show hs.length + 1 ≤ i + 1
        omega
      · rcases List.mem_append.mp hh with g | g
        · exact ⟨by rw [tk]; exact List.mem_append_left _ (hall h g).1, (hall h g).2⟩
        · rw [List.mem_singleton.mp g]
          refine ⟨by rw [tk]; exact List.mem_append_right _ (List.mem_singleton.mpr rfl), ?_, hes⟩
          show es.length ≤ 10
          omega
  obtain ⟨hs, kvs, s1, s5, s6, s7, s8, s9, s10, s11, rfl, bs, lo, lhs, hall⟩ := hP
  rw [List.length_map, pln] at lhs
  have ok : HldOk hs := ⟨by omega, fun h hh => (hall h hh).2.1, fun h hh => psh _ (List.mem_of_mem_take (hall h hh).1), fun h hh => (hall h hh).2.2⟩
  -- written out, asked
  refine ⟨_, rfl, d, kvs, hs, rfl, bs.hd, bs.hh, lo, ok, ?_⟩
  refine ⟨_, rfl, pn, rfl, ⟨_, SqL.of bs.hn⟩, for_it (walk_list (xs := zs.map V.str)) (fun _ σ H' => Same H5 H' ∧ ∃ s1 s5 s6 s7 s9 s10 s11 : Option V, σ = [some (.ref a), s1, some (.ref L), some (.ref pn), some (.ref d), s5, s6, s7, some (.str (shownH hs)), s9, s10, s11])
    ⟨(fun _ _ e => e), _, _, _, _, _, _, _, rfl⟩ (fun i σ H' _ hP => SqL.of (hP.1 _ _ bs.hn)) (fun i x σ H6 H7 hi hP hY => ?_) (fun σ H6 hP => ?_)⟩
  · obtain ⟨sm, s1, s5, s6, s7, s9, s10, s11, rfl⟩ := hP
    obtain ⟨rfl, hx⟩ := hY
    rw [List.getElem?_map] at hx
    obtain ⟨za, hza, rfl⟩ := Option.map_eq_some_iff.mp hx
    refine ⟨_, rfl, (show 1 ≤ sizeLine by decide), fun c3 nc3 => ?_⟩
    refine ⟨pn, c3, _, _, rfl, rfl, kn (sm _ _ bs.hn) nc3, upd_same, small (by rw [List.length_map, List.length_singleton]; omega), fun c4 nc4 => ?_⟩
    have ep : zs.map V.str ++ [.str "."] = (zs ++ [("." : Str)]).map V.str := by rw [List.map_append]; rfl
    rw [ep]
    have sm2 := sm.trans ((same_new (o := HO.lst [.str "."]) nc3).trans (same_new (o := HO.lst ((zs ++ [("." : Str)]).map V.str)) nc4))
    have hc4 : upd (upd H7 c3 (.lst [.str "."])) c4 (.lst ((zs ++ [("." : Str)]).map V.str)) c4 = some (.lst ((zs ++ [("." : Str)]).map V.str)) := upd_same
    generalize upd (upd H7 c3 (.lst [.str "."])) c4 (.lst ((zs ++ [("." : Str)]).map V.str)) = H8 at *
    refine ⟨c4, rfl, ⟨_, SqL.of hc4⟩, for_it (walk_list (xs := (zs ++ [("." : Str)]).map V.str)) (fun _ σ H' => Same H8 H' ∧ ∃ s1 s5 s6 s7 s10 s11 : Option V, σ = [some (.ref a), s1, some (.ref L), some (.ref pn), some (.ref d), s5, s6, s7, some (.str (shownH hs)), some (.str za), s10, s11])
      ⟨(fun _ _ e => e), _, _, _, _, _, _, rfl⟩ (fun i σ H' _ hP => SqL.of (hP.1 _ _ hc4)) (fun i y σ H9 Ha hi hP hY => ?_) (fun σ H9 hP => ?_)⟩
    · obtain ⟨sm3, s1, s5, s6, s7, s10, s11, rfl⟩ := hP
      obtain ⟨rfl, hy⟩ := hY
      rw [List.getElem?_map] at hy
      obtain ⟨zb, hzb, rfl⟩ := Option.map_eq_some_iff.mp hy
      have s9 := sm2.trans sm3
      refine ⟨_, rfl, _, rfl, _, rfl, d, kvs, hs, za, zb, rfl, s9 _ _ bs.hd, bs.hh.same s9, ok.few, ok.each, fun Hb c smb hc => ?_⟩
      have sb := s9.trans smb
      refine ⟨_, rfl, .bl c, .ty "bool", .type "bool", .type "bool", true, rfl, .ty "bool", .base (.bl c), kit_ty (show kitB "bool" "bool" = some true by decide +kernel), _, rfl, iteF ?_⟩
      refine ⟨_, rfl, _, rfl, _, rfl, _, rfl, d, kvs, hs, za, zb, rfl, sb _ _ bs.hd, bs.hh.same sb, ok.few, ok.each, fun Hc c2 smc hc2 => ⟨rfl, ?_⟩⟩
      have e : c = c2 := by rw [Bool.eq_iff_iff, hc, hc2]
      subst e
      refine ⟨_, rfl, iteD (by rw [decide_eq_true rfl]; rfl) ?_⟩
      exact ⟨sm3.trans (smb.trans smc), _, _, _, _, _, _, rfl⟩
    · obtain ⟨sm3, s1, s5, s6, s7, s10, s11, rfl⟩ := hP
      exact ⟨sm2.trans sm3, _, _, _, _, _, _, _, rfl⟩
  obtain ⟨sm, s1, s5, s6, s7, s9, s10, s11, rfl⟩ := hP
  refine ⟨_, rfl, d, kvs, hs, rfl, sm _ _ bs.hd, bs.hh.same sm, lo, ok, _, rfl, rfl, _, rfl, iteD (by rw [decide_eq_true rfl]; rfl) ?_⟩
  exact ⟨sm _ _ bs.hp, _, _, _, _, _, _, _, _, _, _, _, rfl⟩
end
end K43

set_option Elab.async false
set_option linter.all false
set_option maxRecDepth 100000
set_option maxHeartbeats 2000000
namespace K43
open PySem PySem.Spec PyProof.Rows L2 Wk
theorem all_mk {l : PySem.W.OpenLaw} {w : World} {K : PySem.W.Frag} {h : Heap} {mg : Str → Option Value} {fa f1 f2 f3 f4 f5 f6 f7   : Addr} (X : K.In h) (G : h.Ns mainGlobals mg) (hfa : mg "law" = some (.ref fa))
    {od1 an1 od2 an2 od3 an3 od4 an4 od5 an5 od6 an6 od7 an7 : Option Addr} {sl1 sl2 sl3 sl4 sl5 sl6 sl7 : Array (Option Value)} {oc1 kV1 dc1 pm1 cd1 ct1 oc2 kV2 dc2 pm2 cd2 ct2 oc3 kV3 dc3 pm3 cd3 ct3 oc4 kV4 dc4 pm4 cd4 ct4 oc5 kV5 dc5 pm5 cd5 ct5 oc6 kV6 dc6 pm6 cd6 ct6 oc7 kV7 dc7 pm7 cd7 ct7 : Value}
    (a1 : PySem.W.nsIn K mainGlobals "all_within" = some (some (.ref f1)))
    (l1 : K.lookup f1 = some ⟨oc1, od1, .func (PySem.W.fnOf "all_within" "all_within" (defArgs sAll) (defBody sAll) (defScope sAll) .none kV1 dc1 pm1 an1 cd1 ct1), sl1⟩)
    (c1 : PySem.W.codeIn K cd1 "all_within" = true) (k1 : PySem.W.keepIn K (.ref f1) = true)
    (a2 : PySem.W.nsIn K mainGlobals "may_come" = some (some (.ref f2)))
    (l2 : K.lookup f2 = some ⟨oc2, od2, .func (PySem.W.fnOf "may_come" "may_come" (defArgs sMay) (defBody sMay) (defScope sMay) .none kV2 dc2 pm2 an2 cd2 ct2), sl2⟩)
    (c2 : PySem.W.codeIn K cd2 "may_come" = true) (k2 : PySem.W.keepIn K (.ref f2) = true)
    (a3 : PySem.W.nsIn K mainGlobals "_law_left" = some (some (.ref f3)))
    (l3 : K.lookup f3 = some ⟨oc3, od3, .func (PySem.W.fnOf "_law_left" "_law_left" (defArgs sLeft) (defBody sLeft) (defScope sLeft) .none kV3 dc3 pm3 an3 cd3 ct3), sl3⟩)
    (c3 : PySem.W.codeIn K cd3 "_law_left" = true) (k3 : PySem.W.keepIn K (.ref f3) = true)
    (a4 : PySem.W.nsIn K mainGlobals "_law_digit" = some (some (.ref f4)))
    (l4 : K.lookup f4 = some ⟨oc4, od4, .func (PySem.W.fnOf "_law_digit" "_law_digit" (defArgs sDigit) (defBody sDigit) (defScope sDigit) .none kV4 dc4 pm4 an4 cd4 ct4), sl4⟩)
    (c4 : PySem.W.codeIn K cd4 "_law_digit" = true) (k4 : PySem.W.keepIn K (.ref f4) = true)
    (a5 : PySem.W.nsIn K mainGlobals "_law_names" = some (some (.ref f5)))
    (l5 : K.lookup f5 = some ⟨oc5, od5, .func (PySem.W.fnOf "_law_names" "_law_names" (defArgs sNames) (defBody sNames) (defScope sNames) .none kV5 dc5 pm5 an5 cd5 ct5), sl5⟩)
    (c5 : PySem.W.codeIn K cd5 "_law_names" = true) (k5 : PySem.W.keepIn K (.ref f5) = true)
    (a6 : PySem.W.nsIn K mainGlobals "_law_due" = some (some (.ref f6)))
    (l6 : K.lookup f6 = some ⟨oc6, od6, .func (PySem.W.fnOf "_law_due" "_law_due" (defArgs sDue) (defBody sDue) (defScope sDue) .none kV6 dc6 pm6 an6 cd6 ct6), sl6⟩)
    (c6 : PySem.W.codeIn K cd6 "_law_due" = true) (k6 : PySem.W.keepIn K (.ref f6) = true)
    (a7 : PySem.W.nsIn K mainGlobals "law" = some (some (.ref f7)))
    (l7 : K.lookup f7 = some ⟨oc7, od7, .func (PySem.W.fnOf "law" "law" (defArgs sLaw) (defBody sLaw) (defScope sLaw) .none kV7 dc7 pm7 an7 cd7 ct7), sl7⟩)
    (c7 : PySem.W.codeIn K cd7 "law" = true) (k7 : PySem.W.keepIn K (.ref f7) = true)
    (z1 : PySem.W.nsIn K mainGlobals "abs" = some none)
    (z2 : PySem.W.nsIn K mainGlobals "range" = some none)
    (z3 : PySem.W.nsIn K mainGlobals "list" = some none)
    (z4 : PySem.W.nsIn K mainGlobals "isinstance" = some none)
    (z5 : PySem.W.nsIn K mainGlobals "bool" = some none)
    (z6 : PySem.W.nsIn K mainGlobals "repr" = some none)
    : ∃ fd : FuncData, (∀ (s : Shared) (v : Value), BindsTo s fd ⟨[v], []⟩ [("_law_script", v)]) ∧ ∀ base : Heap, K.In base → base.Ns mainGlobals mg → FnG l.prog w K mg base 3 fa fd ["_law_script"] (spLaw K) := by
  have e := hfa.symm.trans (PySem.W.mg_of X G a7)
  cases e
  have F1 := fun_mk (st := sAll) l1 c1 k1
  have g1 := PySem.W.mg_of X G a1
  have b1 := F1.binds (ps := ["lists", "place"]) fun _ _ _ _ _ _ us hl => match us, hl with | [_, _], _ => rfl
  have F2 := fun_mk (st := sMay) l2 c2 k2
  have g2 := PySem.W.mg_of X G a2
  have b2 := F2.binds (ps := ["holds", "a", "b"]) fun _ _ _ _ _ _ us hl => match us, hl with | [_, _, _], _ => rfl
  have F3 := fun_mk (st := sLeft) l3 c3 k3
  have g3 := PySem.W.mg_of X G a3
  have b3 := F3.binds (ps := ["_law_cell"]) fun _ _ _ _ _ _ us hl => match us, hl with | [_], _ => rfl
  have F4 := fun_mk (st := sDigit) l4 c4 k4
  have g4 := PySem.W.mg_of X G a4
  have b4 := F4.binds (ps := ["_law_left_here", "_law_many"]) fun _ _ _ _ _ _ us hl => match us, hl with | [_, _], _ => rfl
  have F5 := fun_mk (st := sNames) l5 c5 k5
  have g5 := PySem.W.mg_of X G a5
  have b5 := F5.binds (ps := ["_law_left_here", "_law_many"]) fun _ _ _ _ _ _ us hl => match us, hl with | [_, _], _ => rfl
  have F6 := fun_mk (st := sDue) l6 c6 k6
  have g6 := PySem.W.mg_of X G a6
  have b6 := F6.binds (ps := ["_law_holds", "_law_a", "_law_b"]) fun _ _ _ _ _ _ us hl => match us, hl with | [_, _, _], _ => rfl
  have F7 := fun_mk (st := sLaw) l7 c7 k7
  have g7 := PySem.W.mg_of X G a7
  have n1 := PySem.W.mg_none_of X G z1
  have n2 := PySem.W.mg_none_of X G z2
  have n3 := PySem.W.mg_none_of X G z3
  have n4 := PySem.W.mg_none_of X G z4
  have n5 := PySem.W.mg_none_of X G z5
  have n6 := PySem.W.mg_none_of X G z6
  refine ⟨PySem.W.fnOf "law" "law" (defArgs sLaw) (defBody sLaw) (defScope sLaw) .none kV7 dc7 pm7 an7 cd7 ct7, fun s v => .of_eq rfl, fun base _ _ => ?_⟩
  have G1 := ok_all (P := l.prog) (w := w) (base := base) (k := 0) F1 n3
  have G2 := ok_may (P := l.prog) (w := w) F2 G1 b1 k1 g1
  have G3 := ok_left (P := l.prog) (w := w) (base := base) (k := 0) F3 n1 n2
  have G4 := ok_digit (P := l.prog) (w := w) (mg := mg) (base := base) (k := 0) F4
  have G5 := ok_names (P := l.prog) (w := w) F5 G4 b4 k4 g4 n2
  have G6 := ok_due (P := l.prog) (w := w) (base := base) (k := 0) F6 n3
  exact ok_law (P := l.prog) (w := w) F7 G3 b3 k3 g3 G5 b5 k5 g5 G4 b4 k4 g4 G2 b2 k2 g2 G6 b6 k6 g6 n2 n4 n5 n6
end K43
open PySem PySem.W PyProof.Rows
set_option maxRecDepth 100000 in
set_option maxHeartbeats 0 in
theorem PySem.Challenge.cw_walkrooms_k43_what_may_come_within_holds : PySem.Challenge.rw_walkrooms_k43_what_may_come_within.Holds := by
  w_on; o_law; k_head; (case hw => w_witness2)
  k_fill
  refine Wk.walk_endG (l := PySem.Challenge.rw_walkrooms_k43_what_may_come_within) (n := 63) (k := 3) (x := "_law_script") (sp := fun w => K43.spLaw _) rfl (by decide) rfl ⟨rfl, by decide, by decide⟩ (fun w h Y => PySem.W.kIn_of Y) ?F (fun _ _ a ns hl hS => ⟨a, ns, rfl, hS, hl, fun _ => rfl⟩)
  case F =>
    intro w mg fa h KX G hmg
    refine' K43.all_mk KX G hmg ?a1 ?l1 ?c1 ?k1 ?a2 ?l2 ?c2 ?k2 ?a3 ?l3 ?c3 ?k3 ?a4 ?l4 ?c4 ?k4 ?a5 ?l5 ?c5 ?k5 ?a6 ?l6 ?c6 ?k6 ?a7 ?l7 ?c7 ?k7 ?z1 ?z2 ?z3 ?z4 ?z5 ?z6
    (case a1 => k_is)
    (case l1 => k_is)
    (case c1 => k_is)
    (case k1 => k_is)
    (case a2 => k_is)
    (case l2 => k_is)
    (case c2 => k_is)
    (case k2 => k_is)
    (case a3 => k_is)
    (case l3 => k_is)
    (case c3 => k_is)
    (case k3 => k_is)
    (case a4 => k_is)
    (case l4 => k_is)
    (case c4 => k_is)
    (case k4 => k_is)
    (case a5 => k_is)
    (case l5 => k_is)
    (case c5 => k_is)
    (case k5 => k_is)
    (case a6 => k_is)
    (case l6 => k_is)
    (case c6 => k_is)
    (case k6 => k_is)
    (case a7 => k_is)
    (case l7 => k_is)
    (case c7 => k_is)
    (case k7 => k_is)
    (case z1 => k_is)
    (case z2 => k_is)
    (case z3 => k_is)
    (case z4 => k_is)
    (case z5 => k_is)
    (case z6 => k_is)
