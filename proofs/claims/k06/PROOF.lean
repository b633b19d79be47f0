import PyProof.Rows.All
import Wide.All
import OpenK.AllK
import Wide.FinOn
import HandS.ForMost
import HandS.IsInst
import HandS.Walk
import HandS.Codes
import HandS.EndTab
import KE.KxText
import HandS.FStr
import PySem.Challenge.RW_walkrooms_k06_written
set_option Elab.async false
set_option linter.all false
set_option maxRecDepth 100000
set_option maxHeartbeats 2000000
/-! What all laws of this program share: drawn texts, rows of parts as data, how they stand in memory. -/
namespace Wk
open PySem PySem.Spec PyProof.Rows L2
theorem small {n : Nat} (h : n ≤ 1000) : n ≤ sizeLine := Nat.le_of_lt (small1000 h)
theorem big {n : Nat} (h : n ≤ 1000000) : n ≤ sizeLine := Nat.le_trans h (by decide)
theorem yes {σ : L2.St} {H : Hp} {Q : Bool → Hp → Prop} (h : Q true H) : tYes σ H Q := h
theorem kn {H : Hp} {a p : Addr} {o u : HO} (h : H a = some o) (n : H p = none) : upd H p u a = some o := by
  rw [upd_ne (ne_of_none h n)]
  exact h
theorem atX_lt {α : Type} {l : List α} {d : Int} (h0 : 0 ≤ d) (h1 : d < l.length) : ∃ c ∈ l, atI l d = some c ∧ l[d.toNat]? = some c := by
  have hd : d.toNat < l.length := by omega
  refine ⟨l[d.toNat], List.getElem_mem hd, ?_, List.getElem?_eq_getElem hd⟩
  have e : atI l ((d.toNat : Nat) : Int) = some l[d.toNat] := atI_nat (List.getElem?_eq_getElem hd)
  rw [show ((d.toNat : Nat) : Int) = d by omega] at e
  exact e
/-! ### texts -/
/-- at most k signs, plain ones -/
def Sh (k : Nat) (z : Str) : Prop := z.cps.toList.length ≤ k ∧ ∀ c ∈ z.cps.toList, c < 128
theorem Sh.len {k : Nat} {z : Str} (h : Sh k z) : z.length ≤ k := by
  have := h.1
  rw [Array.length_toList] at this
  exact this
theorem Sh.mono {k j : Nat} {z : Str} (h : Sh k z) (hk : k ≤ j) : Sh j z := ⟨Nat.le_trans h.1 hk, h.2⟩
theorem app_codes (y z : Str) : (y ++ z).cps.toList = y.cps.toList ++ z.cps.toList := by
  show (y.cps ++ z.cps).toList = _
  rw [Array.toList_append]
theorem app_len (y z : Str) : (y ++ z).length = y.length + z.length := by
  show (y.cps ++ z.cps).size = _
  rw [Array.size_append]
  rfl
theorem Sh.app {k j : Nat} {y z : Str} (h : Sh k y) (g : Sh j z) : Sh (k + j) (y ++ z) := by
  refine ⟨?_, fun c hc => ?_⟩
  · rw [app_codes, List.length_append]
    exact Nat.add_le_add h.1 g.1
  · rw [app_codes] at hc
    rcases List.mem_append.mp hc with q | q
    · exact h.2 c q
    · exact g.2 c q
theorem Sh.sign {c : Nat} (h : c < 128) : Sh 1 ⟨#[c]⟩ := ⟨Nat.le_refl 1, fun d hd => by
  have : d = c := by simpa using hd
  rw [this]
  exact h⟩
theorem Sh.ok {k : Nat} {z : Str} (h : Sh k z) : PyData.strOk z = true := by
  unfold PyData.strOk
  rw [Array.all_eq_true']
  intro c hc
  have := h.2 c (Array.mem_def.mp hc)
  simp
  omega
/-! ### one number in a list -/
/-- but for L, which holds a list of one number, what stood stands -/
def StL (L : Addr) (H H' : Hp) : Prop := (∀ b o, b ≠ L → H b = some o → H' b = some o) ∧ ∃ n : Int, H' L = some (.lst [.int n])
theorem StL.refl {L : Addr} {H : Hp} {n : Int} (h : H L = some (.lst [.int n])) : StL L H H := ⟨fun _ _ _ e => e, n, h⟩
theorem StL.trans {L : Addr} {H H1 H2 : Hp} (a : StL L H H1) (b : StL L H1 H2) : StL L H H2 := ⟨fun c o n e => b.1 c o n (a.1 c o n e), b.2⟩
theorem StL.put {L : Addr} {H : Hp} (n : Int) : StL L H (upd H L (.lst [.int n])) := ⟨fun b o nb e => by rw [upd_ne nb]; exact e, n, upd_same⟩
theorem StL.new {L p : Addr} {H : Hp} {n : Int} {o : HO} (h : H L = some (.lst [.int n])) (np : H p = none) : StL L H (upd H p o) :=
  ⟨fun b u _ e => by rw [upd_ne (ne_of_none e np)]; exact e, n, by rw [upd_ne (ne_of_none h np)]; exact h⟩
theorem StL.none {L p : Addr} {H H' : Hp} (x : StL L H H') (h : H' p = Option.none) : H p = Option.none := by
  cases q : H p with
  | none => rfl
  | some o =>
    by_cases e : p = L
    · obtain ⟨n, hn⟩ := x.2
      rw [e, hn] at h
      cases h
    · rw [x.1 p o e q] at h
      cases h
def spLeft : Sp := fun vs H Q _ => ∃ c : Int, vs = [.int c] ∧ ∀ (p : Addr) (n : Int), H p = none → Q (.ref p) (upd H p (.lst [.int n]))
def spDigit : Sp := fun vs H Q _ => ∃ (L : Addr) (n m : Int), vs = [.ref L, .int m] ∧ H L = some (.lst [.int n]) ∧ 0 < m ∧ m < 1073741824 ∧ ∀ d n' : Int, 0 ≤ d → d < m → Q (.int d) (upd H L (.lst [.int n']))
theorem pos1 : (0 : Int) < 2147483629 := by decide
theorem pos2 : (0 : Int) < 2147483647 := by decide
/-! ### rows of parts -/
inductive Wd where
  | room | inn | out | opn | hear | new
deriving DecidableEq
def Wd.str : Wd → Str
  | .room => "room"
  | .inn => "in"
  | .out => "out"
  | .opn => "open"
  | .hear => "hear"
  | .new => "new"
def Wd.binds : Wd → Bool
  | .hear => true
  | .new => true
  | _ => false
inductive Part where
  | say (n : Str)
  | again (r : List Part)
  | oth (w : Wd) (n : Str) (r : List Part)
mutual
def PartAt (H : Hp) : Part → V → Prop
  | .say n, v => ∃ a, v = .ref a ∧ H a = some (.tup [.str "say", .str n])
  | .again r, v => ∃ a b xs, v = .ref a ∧ H a = some (.tup [.str "again", .ref b]) ∧ H b = some (.tup xs) ∧ PartsAt H r xs
  | .oth w n r, v => ∃ a b xs, v = .ref a ∧ H a = some (.tup [.str w.str, .str n, .ref b]) ∧ H b = some (.tup xs) ∧ PartsAt H r xs
def PartsAt (H : Hp) : List Part → List V → Prop
  | [], vs => vs = []
  | p :: r, vs => ∃ v us, vs = v :: us ∧ PartAt H p v ∧ PartsAt H r us
end
def RowAt (H : Hp) (r : List Part) (v : V) : Prop := ∃ a xs, v = .ref a ∧ H a = some (.tup xs) ∧ PartsAt H r xs
/-- all tuples stay -/
def STup (H H' : Hp) : Prop := ∀ a xs, H a = some (.tup xs) → H' a = some (.tup xs)
theorem STup.refl (H : Hp) : STup H H := fun _ _ h => h
theorem STup.trans {H H1 H2 : Hp} (a : STup H H1) (b : STup H1 H2) : STup H H2 := fun c o h => b c o (a c o h)
theorem STup.of {H H' : Hp} (h : Same H H') : STup H H' := fun a xs e => h _ _ e
theorem STup.new {H : Hp} {p : Addr} {o : HO} (n : H p = none) : STup H (upd H p o) := fun a xs e => kn e n
theorem STup.lst {H : Hp} {p : Addr} {o : HO} {ys : List V} (h : H p = some (.lst ys)) : STup H (upd H p o) := fun a xs e => by
  rw [upd_ne (fun z => by rw [z, h] at e; cases e)]
  exact e
mutual
theorem PartAt.mono {H H' : Hp} (s : STup H H') : ∀ (p : Part) (v : V), PartAt H p v → PartAt H' p v
  | .say n, v, h => by
    obtain ⟨a, e, h1⟩ := h
    exact ⟨a, e, s _ _ h1⟩
  | .again r, v, h => by
    obtain ⟨a, b, xs, e, h1, h2, h3⟩ := h
    exact ⟨a, b, xs, e, s _ _ h1, s _ _ h2, PartsAt.mono s r xs h3⟩
  | .oth w n r, v, h => by
    obtain ⟨a, b, xs, e, h1, h2, h3⟩ := h
    exact ⟨a, b, xs, e, s _ _ h1, s _ _ h2, PartsAt.mono s r xs h3⟩
theorem PartsAt.mono {H H' : Hp} (s : STup H H') : ∀ (r : List Part) (vs : List V), PartsAt H r vs → PartsAt H' r vs
  | [], vs, h => h
  | p :: r, vs, h => by
    obtain ⟨v, us, e, h1, h2⟩ := h
    exact ⟨v, us, e, PartAt.mono s p v h1, PartsAt.mono s r us h2⟩
end
theorem RowAt.mono {H H' : Hp} {r : List Part} {v : V} (s : STup H H') (h : RowAt H r v) : RowAt H' r v := by
  obtain ⟨a, xs, e, h1, h2⟩ := h
  exact ⟨a, xs, e, s _ _ h1, PartsAt.mono s r xs h2⟩
theorem PartsAt.len {H : Hp} : ∀ {r : List Part} {vs : List V}, PartsAt H r vs → vs.length = r.length
  | [], vs, h => by rw [show vs = [] from h]; rfl
  | p :: r, vs, h => by
    obtain ⟨v, us, e, _, h2⟩ := h
    rw [e, List.length_cons, List.length_cons, PartsAt.len h2]
theorem PartsAt.get {H : Hp} : ∀ {r : List Part} {vs : List V}, PartsAt H r vs → ∀ {i : Nat} {v : V}, vs[i]? = some v → ∃ p, r[i]? = some p ∧ PartAt H p v
  | [], vs, h, i, v, e => by rw [show vs = [] from h] at e; simp at e
  | p :: r, vs, h, 0, v, e => by
    obtain ⟨u, us, rfl, h1, _⟩ := h
    exact ⟨p, rfl, by rw [← Option.some.inj (show some u = some v from e)]; exact h1⟩
  | p :: r, vs, h, i + 1, v, e => by
    obtain ⟨u, us, rfl, _, h2⟩ := h
    exact PartsAt.get h2 (i := i) (v := v) e
theorem PartsAt.app {H : Hp} {q : List Part} {us : List V} (g : PartsAt H q us) : ∀ {r : List Part} {vs : List V}, PartsAt H r vs → PartsAt H (r ++ q) (vs ++ us)
  | [], vs, h => by rw [show vs = [] from h]; exact g
  | p :: r, vs, h => by
    obtain ⟨v, ws, rfl, h1, h2⟩ := h
    exact ⟨v, ws ++ us, rfl, h1, PartsAt.app g h2⟩
theorem PartsAt.one {H : Hp} {p : Part} {v : V} (h : PartAt H p v) : PartsAt H [p] [v] := ⟨v, [], rfl, h, rfl⟩
/-! ### their data -/
mutual
def dP : Part → PyData
  | .say n => .tuple [.str "say", .str n]
  | .again r => .tuple [.str "again", .tuple (dR r)]
  | .oth w n r => .tuple [.str w.str, .str n, .tuple (dR r)]
def dR : List Part → List PyData
  | [] => []
  | p :: r => dP p :: dR r
end
mutual
theorem PartAt.dp {K : PySem.W.Frag} {H : Hp} : ∀ (p : Part) (v : V), PartAt H p v → Dp K H v (dP p)
  | .say n, v, h => by
    obtain ⟨a, rfl, h1⟩ := h
    exact .tup (SqT.of h1) (.cons (.str _) (.cons (.str _) .nil))
  | .again r, v, h => by
    obtain ⟨a, b, xs, rfl, h1, h2, h3⟩ := h
    exact .tup (SqT.of h1) (.cons (.str _) (.cons (.tup (SqT.of h2) (PartsAt.dp r xs h3)) .nil))
  | .oth w n r, v, h => by
    obtain ⟨a, b, xs, rfl, h1, h2, h3⟩ := h
    exact .tup (SqT.of h1) (.cons (.str _) (.cons (.str _) (.cons (.tup (SqT.of h2) (PartsAt.dp r xs h3)) .nil)))
theorem PartsAt.dp {K : PySem.W.Frag} {H : Hp} : ∀ (r : List Part) (vs : List V), PartsAt H r vs → DpAll K H vs (dR r)
  | [], vs, h => by
    rw [show vs = [] from h]
    exact .nil
  | p :: r, vs, h => by
    obtain ⟨v, us, rfl, h1, h2⟩ := h
    exact .cons (PartAt.dp p v h1) (PartsAt.dp r us h2)
end
theorem RowAt.dp {K : PySem.W.Frag} {H : Hp} {r : List Part} {v : V} (h : RowAt H r v) : Dp K H v (.tuple (dR r)) := by
  obtain ⟨a, xs, rfl, h1, h2⟩ := h
  exact .tup (SqT.of h1) (PartsAt.dp r xs h2)
/-! ### measures and looks -/
mutual
def okP (f : Str → Prop) : Part → Prop
  | .say n => f n
  | .again r => okR f r
  | .oth _ n r => f n ∧ okR f r
def okR (f : Str → Prop) : List Part → Prop
  | [] => True
  | p :: r => okP f p ∧ okR f r
end
mutual
def deepP : Part → Nat
  | .say _ => 1
  | .again r => deepR r + 1
  | .oth _ _ r => deepR r + 1
def deepR : List Part → Nat
  | [] => 0
  | p :: r => max (deepP p) (deepR r)
end
mutual
def sizeP : Part → Nat
  | .say _ => 1
  | .again r => sizeR r + 1
  | .oth _ _ r => sizeR r + 1
def sizeR : List Part → Nat
  | [] => 0
  | p :: r => sizeP p + sizeR r
end
/-! what is bound, in the order in which it is met -/
mutual
def bdP : Part → List Str
  | .say _ => []
  | .again r => bdR r
  | .oth w n r => (if w.binds then [n] else []) ++ bdR r
def bdR : List Part → List Str
  | [] => []
  | p :: r => bdP p ++ bdR r
end
/-! each calling that is not bound there stands in S -/
mutual
def scP : List Str → Part → Prop
  | S, .say n => n ∈ S
  | S, .again r => scR S r
  | S, .oth w n r => if w.binds = true then scR (n :: S) r else n ∈ S ∧ scR S r
def scR : List Str → List Part → Prop
  | _, [] => True
  | S, p :: r => scP S p ∧ scR S r
end
mutual
theorem scP.mono : ∀ (p : Part) {S S' : List Str}, (∀ n ∈ S, n ∈ S') → scP S p → scP S' p
  | .say n, S, S', h, g => h n g
  | .again r, S, S', h, g => scR.mono r h g
  | .oth w n r, S, S', h, g => by
    unfold scP at g ⊢
    by_cases e : w.binds = true
    · rw [if_pos e] at g ⊢
      exact scR.mono r (fun m hm => by
        rcases List.mem_cons.mp hm with q | q
        · rw [q]; exact List.mem_cons_self
        · exact List.mem_cons_of_mem _ (h m q)) g
    · rw [if_neg e] at g ⊢
      exact ⟨h n g.1, scR.mono r h g.2⟩
theorem scR.mono : ∀ (r : List Part) {S S' : List Str}, (∀ n ∈ S, n ∈ S') → scR S r → scR S' r
  | [], S, S', h, g => trivial
  | p :: r, S, S', h, g => ⟨scP.mono p h g.1, scR.mono r h g.2⟩
end
theorem okR_app {f : Str → Prop} : ∀ {r q : List Part}, okR f r → okR f q → okR f (r ++ q)
  | [], q, _, g => g
  | p :: r, q, h, g => ⟨h.1, okR_app h.2 g⟩
theorem deepR_app : ∀ (r q : List Part), deepR (r ++ q) = max (deepR r) (deepR q)
  | [], q => by show deepR q = max 0 (deepR q); omega
  | p :: r, q => by
    show max (deepP p) (deepR (r ++ q)) = max (max (deepP p) (deepR r)) (deepR q)
    rw [deepR_app r q]
    omega
theorem sizeR_app : ∀ (r q : List Part), sizeR (r ++ q) = sizeR r + sizeR q
  | [], q => by show sizeR q = 0 + sizeR q; omega
  | p :: r, q => by
    show sizeP p + sizeR (r ++ q) = sizeP p + sizeR r + sizeR q
    rw [sizeR_app r q]
    omega
theorem bdR_app : ∀ (r q : List Part), bdR (r ++ q) = bdR r ++ bdR q
  | [], q => rfl
  | p :: r, q => by
    show bdP p ++ bdR (r ++ q) = (bdP p ++ bdR r) ++ bdR q
    rw [bdR_app r q, List.append_assoc]
theorem scR_app {S : List Str} : ∀ {r q : List Part}, scR S r → scR S q → scR S (r ++ q)
  | [], q, _, g => g
  | p :: r, q, h, g => ⟨h.1, scR_app h.2 g⟩
mutual
theorem okP.imp {f g : Str → Prop} (i : ∀ n, f n → g n) : ∀ p : Part, okP f p → okP g p
  | .say n, h => i n h
  | .again r, h => okR.imp i r h
  | .oth _ n r, h => ⟨i n h.1, okR.imp i r h.2⟩
theorem okR.imp {f g : Str → Prop} (i : ∀ n, f n → g n) : ∀ r : List Part, okR f r → okR g r
  | [], _ => trivial
  | p :: r, h => ⟨okP.imp i p h.1, okR.imp i r h.2⟩
end
theorem okR.mem {f : Str → Prop} : ∀ {r : List Part}, okR f r → ∀ p ∈ r, okP f p
  | [], _, p, hp => nomatch hp
  | q :: r, h, p, hp => by
    rcases List.mem_cons.mp hp with e | e
    · rw [e]; exact h.1
    · exact okR.mem h.2 p e
theorem deepR.mem : ∀ {r : List Part}, ∀ p ∈ r, deepP p ≤ deepR r
  | [], p, hp => nomatch hp
  | q :: r, p, hp => by
    show deepP p ≤ max (deepP q) (deepR r)
    rcases List.mem_cons.mp hp with e | e
    · rw [e]; omega
    · have := deepR.mem (r := r) p e; omega
theorem sizeR.mem : ∀ {r : List Part}, ∀ p ∈ r, sizeP p ≤ sizeR r
  | [], p, hp => nomatch hp
  | q :: r, p, hp => by
    show sizeP p ≤ sizeP q + sizeR r
    rcases List.mem_cons.mp hp with e | e
    · rw [e]; omega
    · have := sizeR.mem (r := r) p e; omega
mutual
theorem size_posP : ∀ p : Part, 1 ≤ sizeP p
  | .say _ => Nat.le_refl 1
  | .again r => by show 1 ≤ sizeR r + 1; omega
  | .oth _ _ r => by show 1 ≤ sizeR r + 1; omega
end
theorem len_sizeR : ∀ r : List Part, r.length ≤ sizeR r
  | [] => Nat.le_refl 0
  | p :: r => by
    have h1 := size_posP p
    have h2 := len_sizeR r
    show r.length + 1 ≤ sizeP p + sizeR r
    omega
/-! ### data that may be compared -/
theorem wd_ok (w : Wd) : PyData.strOk w.str = true := by cases w <;> decide +kernel
mutual
theorem layP {f : Str → Prop} (hf : ∀ n, f n → PyData.strOk n = true) : ∀ p : Part, okP f p → PyData.canLay0 (dP p) = true
  | .say n, h => by
    have h1 : PyData.strOk "say" = true := by decide +kernel
    simp only [dP, PyData.canLay0, PyData.canLayAll0, h1, hf n h, Bool.and_self]
  | .again r, h => by
    have h1 : PyData.strOk "again" = true := by decide +kernel
    simp only [dP, PyData.canLay0, PyData.canLayAll0, h1, layR hf r h, Bool.and_self]
  | .oth w n r, h => by
    simp only [dP, PyData.canLay0, PyData.canLayAll0, wd_ok w, hf n h.1, layR hf r h.2, Bool.and_self]
theorem layR {f : Str → Prop} (hf : ∀ n, f n → PyData.strOk n = true) : ∀ r : List Part, okR f r → PyData.canLayAll0 (dR r) = true
  | [], _ => by simp only [dR, PyData.canLayAll0]
  | p :: r, h => by simp only [dR, PyData.canLayAll0, layP hf p h.1, layR hf r h.2, Bool.and_self]
end
mutual
theorem depP : ∀ p : Part, PyData.depth (dP p) ≤ 2 * deepP p
  | .say n => by
    simp only [dP, PyData.depth, PyData.depthAll, deepP]
    omega
  | .again r => by
    have := depR r
    simp only [dP, PyData.depth, PyData.depthAll, deepP]
    omega
  | .oth w n r => by
    have := depR r
    simp only [dP, PyData.depth, PyData.depthAll, deepP]
    omega
theorem depR : ∀ r : List Part, PyData.depthAll (dR r) ≤ 2 * deepR r
  | [] => by simp only [dR, PyData.depthAll, deepR]; omega
  | p :: r => by
    have h1 := depP p
    have h2 := depR r
    simp only [dR, PyData.depthAll, deepR]
    omega
end
theorem shapedR {f : Str → Prop} (hf : ∀ n, f n → PyData.strOk n = true) {r : List Part} (h : okR f r) (hd : deepR r ≤ 30) : SeqAt.shaped (.tuple (dR r)) = true := by
  unfold SeqAt.shaped
  have := depR r
  simp only [PyData.canLay0, layR hf r h, PyData.depth, Bool.true_and]
  exact decide_eq_true (by omega)
/-! ### called otherwise -/
mutual
def calledP (x c : Str) : Part → Part
  | .say n => .say (if n = x then c else n)
  | .again r => .again (calledR x c r)
  | .oth w n r => if w.binds = true ∧ n = x then .oth w n r else .oth w (if n = x then c else n) (calledR x c r)
def calledR (x c : Str) : List Part → List Part
  | [] => []
  | p :: r => calledP x c p :: calledR x c r
end
theorem calledR_map (x c : Str) : ∀ r : List Part, calledR x c r = r.map (calledP x c)
  | [] => rfl
  | p :: r => by
    show calledP x c p :: calledR x c r = calledP x c p :: r.map (calledP x c)
    rw [calledR_map x c r]
mutual
theorem calledP_deep (x c : Str) : ∀ p : Part, deepP (calledP x c p) = deepP p
  | .say n => rfl
  | .again r => by
    show deepR (calledR x c r) + 1 = deepR r + 1
    rw [calledR_deep x c r]
  | .oth w n r => by
    unfold calledP
    by_cases e : w.binds = true ∧ n = x
    · rw [if_pos e]
    · rw [if_neg e]
      show deepR (calledR x c r) + 1 = deepR r + 1
      rw [calledR_deep x c r]
theorem calledR_deep (x c : Str) : ∀ r : List Part, deepR (calledR x c r) = deepR r
  | [] => rfl
  | p :: r => by
    show max (deepP (calledP x c p)) (deepR (calledR x c r)) = max (deepP p) (deepR r)
    rw [calledP_deep x c p, calledR_deep x c r]
end
mutual
theorem calledP_size (x c : Str) : ∀ p : Part, sizeP (calledP x c p) = sizeP p
  | .say n => rfl
  | .again r => by
    show sizeR (calledR x c r) + 1 = sizeR r + 1
    rw [calledR_size x c r]
  | .oth w n r => by
    unfold calledP
    by_cases e : w.binds = true ∧ n = x
    · rw [if_pos e]
    · rw [if_neg e]
      show sizeR (calledR x c r) + 1 = sizeR r + 1
      rw [calledR_size x c r]
theorem calledR_size (x c : Str) : ∀ r : List Part, sizeR (calledR x c r) = sizeR r
  | [] => rfl
  | p :: r => by
    show sizeP (calledP x c p) + sizeR (calledR x c r) = sizeP p + sizeR r
    rw [calledP_size x c p, calledR_size x c r]
end
theorem pick {f : Str → Prop} {x c n : Str} (hc : f c) (hn : f n) : f (if n = x then c else n) := by
  by_cases e : n = x
  · rw [if_pos e]; exact hc
  · rw [if_neg e]; exact hn
mutual
theorem calledP_ok {f : Str → Prop} (x c : Str) (hc : f c) : ∀ p : Part, okP f p → okP f (calledP x c p)
  | .say n, h => pick (x := x) hc h
  | .again r, h => calledR_ok x c hc r h
  | .oth w n r, h => by
    unfold calledP
    by_cases e : w.binds = true ∧ n = x
    · rw [if_pos e]
      exact h
    · rw [if_neg e]
      exact ⟨pick hc h.1, calledR_ok x c hc r h.2⟩
theorem calledR_ok {f : Str → Prop} (x c : Str) (hc : f c) : ∀ r : List Part, okR f r → okR f (calledR x c r)
  | [], _ => trivial
  | p :: r, h => ⟨calledP_ok x c hc p h.1, calledR_ok x c hc r h.2⟩
end
end Wk

set_option Elab.async false
set_option linter.all false
set_option maxRecDepth 100000
set_option maxHeartbeats 2000000
/-! What the laws draw: names, and houses of them. -/
namespace Wk
open PySem PySem.Spec PyProof.Rows L2
abbrev abc : Str := "abcdefghijklmnopqrstuvwxyz"
abbrev vow : Str := "aeiouxyz"
theorem abc_at : ∀ j : Nat, j < 26 → abc.cps.toList[j]? = some (97 + j) := by decide +kernel
theorem abc_len : abc.cps.toList.length = 26 := by decide +kernel
theorem vow_len : vow.cps.toList.length = 8 := by decide +kernel
theorem vow_lt : ∀ c ∈ vow.cps.toList, 97 ≤ c ∧ c < 123 := by decide +kernel
/-- a letter by its number, and up to five of eight more -/
def NameOf (j : Nat) (z : Str) : Prop := ∃ r, z.cps.toList = (97 + j) :: r ∧ r.length ≤ 5 ∧ ∀ c ∈ r, c ∈ vow.cps.toList
theorem NameOf.sh {j : Nat} {z : Str} (h : NameOf j z) (hj : j < 26) : Sh 6 z := by
  obtain ⟨r, e, h1, h2⟩ := h
  refine ⟨by rw [e, List.length_cons]; omega, fun c hc => ?_⟩
  rw [e] at hc
  rcases List.mem_cons.mp hc with q | q
  · omega
  · have := vow_lt c (h2 c q)
    omega
theorem NameOf.inj {i j : Nat} {z : Str} (h : NameOf i z) (g : NameOf j z) : i = j := by
  obtain ⟨r, e, _⟩ := h
  obtain ⟨q, e2, _⟩ := g
  rw [e] at e2
  have := (List.cons.inj e2).1
  omega
def spNames : Sp := fun vs H Q _ => ∃ (L : Addr) (n : Int) (m : Nat), vs = [.ref L, .int m] ∧ H L = some (.lst [.int n]) ∧ m ≤ 100 ∧
  ∀ (H' : Hp) (p : Addr) (s : Nat) (zs : List Str), StL L H H' → H p = none → H' p = some (.lst (zs.map V.str)) → zs.length = m → s < 26 → (∀ i z, zs[i]? = some z → NameOf ((s + 5 * i) % 26) z) → Q (.ref p) H'
/-! ### houses -/
/-- but for L and S what stood stands; L holds one number, S the names that are left -/
def StG (L S : Addr) (H H' : Hp) (sp : List Str) : Prop := (∀ b o, b ≠ L → b ≠ S → H b = some o → H' b = some o) ∧ (∃ n : Int, H' L = some (.lst [.int n])) ∧ H' S = some (.lst (sp.map V.str))
section
variable {L S p : Addr} {H H1 H2 : Hp} {sp sp1 sp2 : List Str} {o : HO}
theorem LS_ne {n : Int} (h1 : H L = some (.lst [.int n])) (h2 : H S = some (.lst (sp.map V.str))) : L ≠ S := fun e => by
  rw [e, h2] at h1
  have q := HO.lst.inj (Option.some.inj h1)
  cases sp with
  | nil => cases q
  | cons a r => cases q
theorem StG.ne (x : StG L S H H1 sp) : L ≠ S := by
  obtain ⟨n, hn⟩ := x.2.1
  exact LS_ne hn x.2.2
theorem StG.refl {n : Int} (h1 : H L = some (.lst [.int n])) (h2 : H S = some (.lst (sp.map V.str))) : StG L S H H sp := ⟨fun _ _ _ _ e => e, ⟨n, h1⟩, h2⟩
theorem StG.trans (a : StG L S H H1 sp1) (b : StG L S H1 H2 sp2) : StG L S H H2 sp2 := ⟨fun c u n1 n2 e => b.1 c u n1 n2 (a.1 c u n1 n2 e), b.2⟩
theorem StG.put (x : StG L S H H1 sp) (n : Int) : StG L S H (upd H1 L (.lst [.int n])) sp :=
  ⟨fun b u nb nc e => by rw [upd_ne nb]; exact x.1 b u nb nc e, ⟨n, upd_same⟩, by rw [upd_ne (Ne.symm x.ne)]; exact x.2.2⟩
theorem StG.new (x : StG L S H H1 sp) (n : H1 p = none) : StG L S H (upd H1 p o) sp := by
  obtain ⟨i, hi⟩ := x.2.1
  exact ⟨fun b u nb nc e => kn (x.1 b u nb nc e) n, ⟨i, kn hi n⟩, kn x.2.2 n⟩
theorem StG.pop (x : StG L S H H1 sp) : StG L S H (upd H1 S (.lst (sp1.map V.str))) sp1 := by
  obtain ⟨i, hi⟩ := x.2.1
  exact ⟨fun b u nb nc e => by rw [upd_ne nc]; exact x.1 b u nb nc e, ⟨i, by rw [upd_ne x.ne]; exact hi⟩, upd_same⟩
theorem StG.tup {n : Int} (x : StG L S H H1 sp1) (h1 : H L = some (.lst [.int n])) (h2 : H S = some (.lst (sp.map V.str))) : STup H H1 := fun a xs e =>
  x.1 a _ (fun z => by rw [z, h1] at e; cases e) (fun z => by rw [z, h2] at e; cases e) e
theorem StG.none {n : Int} (x : StG L S H H1 sp1) (h : H1 p = Option.none) (h1 : H L = some (.lst [.int n])) (h2 : H S = some (.lst (sp.map V.str))) : H p = Option.none := by
  obtain ⟨i, hi⟩ := x.2.1
  cases q : H p with
  | none => rfl
  | some u =>
    by_cases e1 : p = L
    · rw [e1, hi] at h
      cases h
    · by_cases e2 : p = S
      · rw [e2, x.2.2] at h
        cases h
      · rw [x.1 p u e1 e2 q] at h
        cases h
end
/-- how many parts a row has at most -/
def cntR : Nat → Nat
  | 0 => 2
  | 1 => 6
  | m + 2 => 3 * (1 + cntR (m + 1))
def cntP : Nat → Nat
  | 0 => 1
  | m + 1 => 1 + cntR m
def most : Nat → Nat
  | 0 => 2
  | 1 => 2
  | _ + 2 => 3
theorem cnt_eq : ∀ m : Nat, most m * cntP m = cntR m
  | 0 => rfl
  | 1 => rfl
  | m + 2 => rfl
structure GP (m : Nat) (ss sp sp' : List Str) (p : Part) : Prop where
  deep : deepP p ≤ m + 1
  size : sizeP p ≤ cntP m
  sc : scP ss p
  bd : sp = sp' ++ (bdP p).reverse
  ok : okP (fun n => n ∈ ss ∨ n ∈ sp) p
structure GR (m k : Nat) (ss sp sp' : List Str) (r : List Part) : Prop where
  deep : deepR r ≤ m + 1
  size : sizeR r ≤ k * cntP m
  sc : scR ss r
  bd : sp = sp' ++ (bdR r).reverse
  ok : okR (fun n => n ∈ ss ∨ n ∈ sp) r
theorem GR.nil {m : Nat} {ss sp : List Str} : GR m 0 ss sp sp [] := ⟨Nat.zero_le _, Nat.zero_le _, trivial, by simp [bdR], trivial⟩
theorem GR.snoc {m k : Nat} {ss sp sp1 sp2 : List Str} {r : List Part} {p : Part} (h : GR m k ss sp sp1 r) (g : GP m ss sp1 sp2 p) : GR m (k + 1) ss sp sp2 (r ++ [p]) := by
  have mem1 : ∀ n ∈ sp1, n ∈ sp := fun n hn => by rw [h.bd]; exact List.mem_append_left _ hn
  refine ⟨?_, ?_, scR_app h.sc ⟨g.sc, trivial⟩, ?_, okR_app h.ok ⟨okP.imp (fun n q => ?_) p g.ok, trivial⟩⟩
  · rw [deepR_app]
    have h1 := h.deep
    have h2 := g.deep
    show max (deepR r) (max (deepP p) 0) ≤ m + 1
    omega
  · rw [sizeR_app, Nat.succ_mul]
    have h1 := h.size
    have h2 := g.size
    show sizeR r + (sizeP p + 0) ≤ _
    omega
  · rw [bdR_app, List.reverse_append, show bdR [p] = bdP p from List.append_nil _, ← List.append_assoc, ← g.bd]
    exact h.bd
  · rcases q with q | q
    · exact .inl q
    · exact .inr (mem1 n q)
theorem GR.up {m k j : Nat} {ss sp sp' : List Str} {r : List Part} (h : GR m k ss sp sp' r) (hk : k ≤ j) : GR m j ss sp sp' r :=
  ⟨h.deep, Nat.le_trans h.size (Nat.mul_le_mul_right _ hk), h.sc, h.bd, h.ok⟩
theorem most_at (m : Nat) : atI [V.int 3, V.int 4] (if decide ((m : Int) > 1) = true then 1 else 0) = some (.int ((most m + 1 : Nat) : Int)) := by
  match m with
  | 0 => exact atI_nat (j := 0) rfl
  | 1 => exact atI_nat (j := 0) rfl
  | m + 2 =>
    rw [decide_eq_true (show (((m + 2 : Nat) : Int) > 1) by omega)]
    exact atI_nat (j := 1) rfl
theorem most_le (m : Nat) : most m ≤ 3 := by
  match m with
  | 0 => exact (by decide : 2 ≤ 3)
  | 1 => exact (by decide : 2 ≤ 3)
  | m + 2 => exact Nat.le_refl 3
/-- what a whole row of room m keeps -/
theorem GR.weak {m k : Nat} {ss sp sp' : List Str} {r : List Part} (h : GR m k ss sp sp' r) (hk : k ≤ most m) : sizeR r ≤ cntR m := by
  rw [← cnt_eq]
  exact Nat.le_trans h.size (Nat.mul_le_mul_right _ hk)
/-- the arguments of _law_part and _law_row -/
def GArg (vs : List V) (H : Hp) (L S A : Addr) (nL : Int) (m : Nat) (ss sp : List Str) : Prop :=
  vs = [.ref L, .int m, .ref A, .ref S] ∧ H L = some (.lst [.int nL]) ∧ H S = some (.lst (sp.map V.str)) ∧ H A = some (.lst (ss.map V.str)) ∧ A ≠ L ∧ A ≠ S ∧ ss ≠ [] ∧ ss.length + 2 * m ≤ 1000 ∧ (∀ z ∈ sp, Sh 6 z)
def spPart (n : Nat) : Sp := fun vs H Q _ => ∃ (L S A : Addr) (nL : Int) (m : Nat) (ss sp : List Str), GArg vs H L S A nL m ss sp ∧ m ≤ n ∧
  ∀ (H' : Hp) (v : V) (sp' : List Str) (p : Part), StG L S H H' sp' → PartAt H' p v → GP m ss sp sp' p → Q v H'
def spRow (n : Nat) : Sp := fun vs H Q _ => ∃ (L S A : Addr) (nL : Int) (m : Nat) (ss sp : List Str), GArg vs H L S A nL m ss sp ∧ m < n ∧
  ∀ (H' : Hp) (v : V) (sp' : List Str) (r : List Part), StG L S H H' sp' → RowAt H' r v → GR m (most m) ss sp sp' r → Q v H'
theorem GP.say {m : Nat} {ss sp : List Str} {n : Str} (h : n ∈ ss) : GP m ss sp sp (.say n) := by
  refine ⟨?_, ?_, h, by simp [bdP], .inl h⟩
  · show 1 ≤ m + 1
    omega
  · show 1 ≤ cntP m
    cases m with
    | zero => exact Nat.le_refl 1
    | succ m => show 1 ≤ 1 + cntR m; omega
theorem GP.again {m : Nat} {ss sp sp' : List Str} {r : List Part} (h : GR m (most m) ss sp sp' r) : GP (m + 1) ss sp sp' (.again r) := by
  have h1 := h.deep
  have h2 := h.weak (Nat.le_refl _)
  refine ⟨?_, ?_, h.sc, h.bd, h.ok⟩
  · show deepR r + 1 ≤ m + 1 + 1
    omega
  · show sizeR r + 1 ≤ 1 + cntR m
    omega
theorem GP.free {m : Nat} {ss sp sp' : List Str} {r : List Part} {w : Wd} {n : Str} (hw : w.binds = false) (hn : n ∈ ss) (h : GR m (most m) ss sp sp' r) : GP (m + 1) ss sp sp' (.oth w n r) := by
  have h1 := h.deep
  have h2 := h.weak (Nat.le_refl _)
  have hw2 : ¬ w.binds = true := by rw [hw]; decide
  refine ⟨?_, ?_, ?_, ?_, .inl hn, h.ok⟩
  · show deepR r + 1 ≤ m + 1 + 1
    omega
  · show sizeR r + 1 ≤ 1 + cntR m
    omega
  · unfold scP
    rw [if_neg hw2]
    exact ⟨hn, h.sc⟩
  · unfold bdP
    rw [if_neg hw2, List.nil_append]
    exact h.bd
theorem GP.bound {m : Nat} {ss sp1 sp' : List Str} {r : List Part} {w : Wd} {n : Str} (hw : w.binds = true) (h : GR m (most m) (ss ++ [n, n]) sp1 sp' r) : GP (m + 1) ss (sp1 ++ [n]) sp' (.oth w n r) := by
  have h1 := h.deep
  have h2 := h.weak (Nat.le_refl _)
  refine ⟨?_, ?_, ?_, ?_, .inr (List.mem_append_right _ List.mem_cons_self), okR.imp (fun k q => ?_) r h.ok⟩
  · show deepR r + 1 ≤ m + 1 + 1
    omega
  · show sizeR r + 1 ≤ 1 + cntR m
    omega
  · unfold scP
    rw [if_pos hw]
    refine scR.mono r (fun k hk => ?_) h.sc
    rcases List.mem_append.mp hk with q | q
    · exact List.mem_cons_of_mem _ q
    · have : k = n := by simpa using q
      rw [this]
      exact List.mem_cons_self
  · unfold bdP
    rw [if_pos hw, List.reverse_append, List.reverse_singleton, ← List.append_assoc, ← h.bd]
  · rcases q with q | q
    · rcases List.mem_append.mp q with u | u
      · exact .inl u
      · have : k = n := by simpa using u
        rw [this]
        exact .inr (List.mem_append_right _ List.mem_cons_self)
    · exact .inr (List.mem_append_left _ q)
theorem strs_dp {K : PySem.W.Frag} {H : Hp} : ∀ zs : List Str, DpAll K H (zs.map V.str) (zs.map PyData.str)
  | [] => .nil
  | z :: r => .cons (.str _) (strs_dp r)
theorem strs_lay : ∀ zs : List Str, (∀ z ∈ zs, PyData.strOk z = true) → PyData.canLayAll0 (zs.map PyData.str) = true
  | [], _ => by simp only [List.map_nil, PyData.canLayAll0]
  | z :: r, h => by simp only [List.map_cons, PyData.canLayAll0, PyData.canLay0, h z List.mem_cons_self, strs_lay r (fun y hy => h y (List.mem_cons_of_mem _ hy)), Bool.and_self]
theorem strs_dep : ∀ zs : List Str, PyData.depthAll (zs.map PyData.str) = 0
  | [] => by simp only [List.map_nil, PyData.depthAll]
  | z :: r => by simp only [List.map_cons, PyData.depthAll, PyData.depth, strs_dep r, Nat.max_self]
theorem strs_shaped {zs : List Str} (h : ∀ z ∈ zs, PyData.strOk z = true) : SeqAt.shaped (.list (zs.map PyData.str)) = true := by
  unfold SeqAt.shaped
  simp only [PyData.canLay0, strs_lay zs h, PyData.depth, strs_dep zs, Bool.true_and]
  decide
theorem nil_shaped : SeqAt.shaped (.list []) = true := strs_shaped (zs := []) fun _ h => nomatch h
theorem eqv_nil : ∀ l : List PyData, PyData.eqv (.list l) (.list []) = l.isEmpty
  | [] => by simp only [PyData.eqv, PyData.eqvAll, List.isEmpty]
  | _ :: _ => by simp only [PyData.eqv, PyData.eqvAll, List.isEmpty]
end Wk

set_option Elab.async false
set_option linter.all false
set_option maxRecDepth 100000
set_option maxHeartbeats 2000000
/-! What the program's own called promises. -/
namespace Wk
open PySem PySem.Spec PyProof.Rows L2
def bindV : List V := [.str "hear", .str "new"]
def wordP : Part → Str
  | .say _ => "say"
  | .again _ => "again"
  | .oth w _ _ => w.str
def bindsP : Part → Bool
  | .oth w _ _ => w.binds
  | _ => false
theorem inV_binds : ∀ p : Part, inV (.str (wordP p)) bindV = bindsP p
  | .say _ => (by decide +kernel : inV (.str "say") bindV = false)
  | .again _ => (by decide +kernel : inV (.str "again") bindV = false)
  | .oth w _ _ => (by cases w <;> decide +kernel : inV (.str w.str) bindV = w.binds)
theorem wd_again (w : Wd) : decide (V.str w.str = V.str "again") = false := by cases w <;> decide +kernel
theorem wd_say (w : Wd) : decide (V.str w.str = V.str "say") = false := by cases w <;> decide +kernel
theorem say_again : decide (V.str "say" = V.str "again") = false := by decide +kernel
theorem iteD {b : Bool} {A B : Prop} (e : b = false) (h : B) : if b = true then A else B := by
  rw [e]
  exact iteF h
theorem iteU {b : Bool} {A B : Prop} (e : b = true) (h : A) : if b = true then A else B := by
  rw [e]
  exact iteT h
theorem str_eq {x y : Str} (h : decide (V.str x = V.str y) = true) : x = y := V.str.inj (of_decide_eq_true h)
theorem str_ne {x y : Str} (h : ¬ decide (V.str x = V.str y) = true) : x ≠ y := fun e => h (decide_eq_true (by rw [e]))
theorem PartAt.word {H : Hp} : ∀ {p : Part} {v : V}, PartAt H p v → ∃ a xs, v = .ref a ∧ H a = some (.tup xs) ∧ xs[0]? = some (.str (wordP p))
  | .say n, v, h => by
    obtain ⟨a, rfl, h1⟩ := h
    exact ⟨a, _, rfl, h1, rfl⟩
  | .again r, v, h => by
    obtain ⟨a, b, xs, rfl, h1, _⟩ := h
    exact ⟨a, _, rfl, h1, rfl⟩
  | .oth w n r, v, h => by
    obtain ⟨a, b, xs, rfl, h1, _⟩ := h
    exact ⟨a, _, rfl, h1, rfl⟩
def spBinder : Sp := fun vs H Q _ => ∃ (v : V) (p : Part), vs = [v] ∧ PartAt H p v ∧ Q (.bl (bindsP p)) H
def spCalled (n : Nat) : Sp := fun vs H Q _ => ∃ (v : V) (x c : Str) (r : List Part), vs = [v, .str x, .str c] ∧ RowAt H r v ∧ deepR r < n ∧ r.length ≤ 1000 ∧ sizeR r ≤ 1000 ∧
  ∀ (H' : Hp) (u : V), Same H H' → RowAt H' (calledR x c r) u → Q u H'
def spPCalled (n : Nat) : Sp := fun vs H Q _ => ∃ (v : V) (x c : Str) (p : Part), vs = [v, .str x, .str c] ∧ PartAt H p v ∧ (deepP p ≤ n ∧ sizeP p ≤ 1000) ∧
  ∀ (H' : Hp) (u : V), Same H H' → PartAt H' (calledP x c p) u → Q u H'
theorem same_new {H : Hp} {p : Addr} {o : HO} (n : H p = none) : Same H (upd H p o) := fun b u e => kn e n
end Wk

set_option Elab.async false
set_option linter.all false
set_option maxRecDepth 100000
set_option maxHeartbeats 2000000
/-! Free callings, and callings put back. -/
namespace Wk
open PySem PySem.Spec PyProof.Rows L2
/-- each x called otherwise, also where it is bound -/
def sub (x c n : Str) : Str := if n = x then c else n
mutual
def lcP (x c : Str) : Part → Part
  | .say n => .say (sub x c n)
  | .again r => .again (lcR x c r)
  | .oth w n r => .oth w (sub x c n) (lcR x c r)
def lcR (x c : Str) : List Part → List Part
  | [] => []
  | p :: r => lcP x c p :: lcR x c r
end
theorem lcR_map (x c : Str) : ∀ r : List Part, lcR x c r = r.map (lcP x c)
  | [] => rfl
  | p :: r => by
    show lcP x c p :: lcR x c r = lcP x c p :: r.map (lcP x c)
    rw [lcR_map x c r]
mutual
theorem called_lcP {x c : Str} : ∀ p : Part, x ∉ bdP p → calledP x c p = lcP x c p
  | .say n, _ => rfl
  | .again r, h => by
    show Part.again (calledR x c r) = Part.again (lcR x c r)
    rw [called_lcR r h]
  | .oth w n r, h => by
    unfold bdP at h
    have h1 : x ∉ bdR r := fun z => h (List.mem_append_right _ z)
    have h2 : ¬ (w.binds = true ∧ n = x) := fun z => h (by rw [if_pos z.1, z.2]; exact List.mem_append_left _ List.mem_cons_self)
    unfold calledP
    rw [if_neg h2, called_lcR r h1]
    rfl
theorem called_lcR {x c : Str} : ∀ r : List Part, x ∉ bdR r → calledR x c r = lcR x c r
  | [], _ => rfl
  | p :: r, h => by
    unfold bdR at h
    show calledP x c p :: calledR x c r = lcP x c p :: lcR x c r
    rw [called_lcP p (fun z => h (List.mem_append_left _ z)), called_lcR r (fun z => h (List.mem_append_right _ z))]
end
def lone (ar : List Str) (n : Str) : List Str := if n ∈ ar then [] else [n]
mutual
def freeP : List Str → Part → List Str
  | ar, .say n => lone ar n
  | ar, .again r => freeR ar r
  | ar, .oth w n r => if w.binds = true then freeR (ar ++ [n]) r else lone ar n ++ freeR ar r
def freeR : List Str → List Part → List Str
  | _, [] => []
  | ar, p :: r => freeP ar p ++ freeR ar r
end
theorem freeR_map (ar : List Str) : ∀ r : List Part, freeR ar r = (r.map (freeP ar)).flatten
  | [] => rfl
  | p :: r => by
    show freeP ar p ++ freeR ar r = _
    rw [freeR_map ar r]
    rfl
theorem lone_le (ar : List Str) (n : Str) : (lone ar n).length ≤ 1 := by
  unfold lone
  by_cases h : n ∈ ar
  · rw [if_pos h]; exact Nat.zero_le _
  · rw [if_neg h]; exact Nat.le_refl 1
mutual
theorem freeP_le : ∀ (p : Part) (ar : List Str), (freeP ar p).length ≤ sizeP p
  | .say n, ar => lone_le ar n
  | .again r, ar => by
    have := freeR_le r ar
    show (freeR ar r).length ≤ sizeR r + 1
    omega
  | .oth w n r, ar => by
    unfold freeP
    show _ ≤ sizeR r + 1
    by_cases h : w.binds = true
    · rw [if_pos h]
      have := freeR_le r (ar ++ [n])
      omega
    · rw [if_neg h, List.length_append]
      have := freeR_le r ar
      have := lone_le ar n
      omega
theorem freeR_le : ∀ (r : List Part) (ar : List Str), (freeR ar r).length ≤ sizeR r
  | [], ar => Nat.le_refl 0
  | p :: r, ar => by
    show (freeP ar p ++ freeR ar r).length ≤ sizeP p + sizeR r
    rw [List.length_append]
    have := freeP_le p ar
    have := freeR_le r ar
    omega
end
/-- c stands nowhere but where it is bound -/
abbrev noc (c : Str) : Str → Prop := fun n => n ≠ c
theorem lone_none {ar : List Str} {n c : Str} (h : c ∉ lone ar n) (ha : c ∉ ar) : n ≠ c := fun e => by
  unfold lone at h
  rw [e, if_neg ha] at h
  exact h List.mem_cons_self
mutual
theorem free_nocP {c : Str} : ∀ (p : Part) (ar : List Str), c ∉ freeP ar p → c ∉ ar → c ∉ bdP p → okP (noc c) p
  | .say n, ar, h, ha, hb => lone_none h ha
  | .again r, ar, h, ha, hb => free_nocR r ar h ha hb
  | .oth w n r, ar, h, ha, hb => by
    unfold freeP at h
    unfold bdP at hb
    have hb1 : c ∉ bdR r := fun z => hb (List.mem_append_right _ z)
    by_cases hw : w.binds = true
    · rw [if_pos hw] at h hb
      have hn : n ≠ c := fun e => hb (by rw [e]; exact List.mem_append_left _ List.mem_cons_self)
      refine ⟨hn, free_nocR r (ar ++ [n]) h (fun z => ?_) hb1⟩
      rcases List.mem_append.mp z with q | q
      · exact ha q
      · exact hn (List.mem_singleton.mp q).symm
    · rw [if_neg hw] at h
      exact ⟨lone_none (fun z => h (List.mem_append_left _ z)) ha, free_nocR r ar (fun z => h (List.mem_append_right _ z)) ha hb1⟩
theorem free_nocR {c : Str} : ∀ (r : List Part) (ar : List Str), c ∉ freeR ar r → c ∉ ar → c ∉ bdR r → okR (noc c) r
  | [], _, _, _, _ => trivial
  | p :: r, ar, h, ha, hb => ⟨free_nocP p ar (fun z => h (List.mem_append_left _ z)) ha (fun z => hb (List.mem_append_left _ z)), free_nocR r ar (fun z => h (List.mem_append_right _ z)) ha (fun z => hb (List.mem_append_right _ z))⟩
end
theorem sub_back {x c n : Str} (h : n ≠ c) : sub c x (sub x c n) = n := by
  unfold sub
  by_cases e : n = x
  · rw [if_pos e, if_pos rfl, e]
  · rw [if_neg e, if_neg h]
mutual
theorem backP {x c : Str} : ∀ p : Part, okP (noc c) p → lcP c x (lcP x c p) = p
  | .say n, h => by
    show Part.say (sub c x (sub x c n)) = _
    rw [sub_back h]
  | .again r, h => by
    show Part.again (lcR c x (lcR x c r)) = _
    rw [backR r h]
  | .oth w n r, h => by
    show Part.oth w (sub c x (sub x c n)) (lcR c x (lcR x c r)) = _
    rw [sub_back h.1, backR r h.2]
theorem backR {x c : Str} : ∀ r : List Part, okR (noc c) r → lcR c x (lcR x c r) = r
  | [], _ => rfl
  | p :: r, h => by
    show lcP c x (lcP x c p) :: lcR c x (lcR x c r) = _
    rw [backP p h.1, backR r h.2]
end
mutual
theorem lc_bdP {x c : Str} : ∀ p : Part, x ∉ bdP p → bdP (lcP x c p) = bdP p
  | .say n, _ => rfl
  | .again r, h => lc_bdR r h
  | .oth w n r, h => by
    unfold bdP at h
    have h1 : x ∉ bdR r := fun z => h (List.mem_append_right _ z)
    show (if w.binds then [sub x c n] else []) ++ bdR (lcR x c r) = (if w.binds then [n] else []) ++ bdR r
    rw [lc_bdR r h1]
    by_cases hw : w.binds = true
    · rw [if_pos hw] at h
      have hn : n ≠ x := fun e => h (by rw [e]; exact List.mem_append_left _ List.mem_cons_self)
      unfold sub
      rw [if_pos hw, if_pos hw, if_neg hn]
    · rw [if_neg hw, if_neg hw]
theorem lc_bdR {x c : Str} : ∀ r : List Part, x ∉ bdR r → bdR (lcR x c r) = bdR r
  | [], _ => rfl
  | p :: r, h => by
    unfold bdR at h
    show bdP (lcP x c p) ++ bdR (lcR x c r) = bdP p ++ bdR r
    rw [lc_bdP p (fun z => h (List.mem_append_left _ z)), lc_bdR r (fun z => h (List.mem_append_right _ z))]
end
/-- called, and called back -/
theorem called_back {x c : Str} {r : List Part} (hx : x ∉ bdR r) (hc : c ∉ bdR r) (hf : c ∉ freeR [] r) : calledR c x (calledR x c r) = r := by
  rw [called_lcR r hx, called_lcR _ (by rw [lc_bdR r hx]; exact hc)]
  exact backR r (free_nocR r [] hf (fun z => nomatch z) hc)
/-- the rest of a part -/
def restP : Part → List Part
  | .say _ => []
  | .again r => r
  | .oth _ _ r => r
theorem rest_bd {p : Part} {n : Str} (h : n ∈ bdR (restP p)) : n ∈ bdP p := by
  cases p with
  | say _ => cases h
  | again r => exact h
  | oth w m r => exact List.mem_append_right _ h
theorem bd_mem {n : Str} : ∀ {r : List Part}, ∀ p ∈ r, n ∈ bdP p → n ∈ bdR r
  | [], p, hp, _ => nomatch hp
  | q :: r, p, hp, h => by
    rcases List.mem_cons.mp hp with e | e
    · rw [← e]; exact List.mem_append_left _ h
    · exact List.mem_append_right _ (bd_mem p e h)
theorem rest_deep (p : Part) : deepR (restP p) ≤ deepP p := by
  cases p with
  | say _ => exact Nat.zero_le _
  | again r => exact Nat.le_succ _
  | oth w m r => exact Nat.le_succ _
theorem rest_size (p : Part) : sizeR (restP p) ≤ sizeP p := by
  cases p with
  | say _ => exact Nat.zero_le _
  | again r => exact Nat.le_succ _
  | oth w m r => exact Nat.le_succ _
theorem rest_ok {f : Str → Prop} {p : Part} (h : okP f p) : okR f (restP p) := by
  cases p with
  | say _ => trivial
  | again r => exact h
  | oth w m r => exact h.2
theorem num_sh {n : Int} (h0 : 0 ≤ n) (h1 : n < 10 ^ 10) : Sh 10 (Str.ofString (toString n)) := by
  refine ⟨?_, fun c hc => ?_⟩
  · rw [Array.length_toList]
    exact PySem.W.KT.len_num h0 h1
  · by_cases g : c < 128
    · exact g
    · exact absurd hc (int_text_free' c ⟨by omega, by omega⟩ n)
def spLCalled (n : Nat) : Sp := fun vs H Q _ => ∃ (v : V) (x c : Str) (r : List Part), vs = [v, .str x, .str c] ∧ RowAt H r v ∧ deepR r < n ∧ sizeR r ≤ 1000 ∧
  ∀ (H' : Hp) (u : V), Same H H' → RowAt H' (lcR x c r) u → Q u H'
def spFree (n : Nat) : Sp := fun vs H Q _ => ∃ (v : V) (a : Addr) (ar : List Str) (r : List Part), vs = [v, .ref a] ∧ RowAt H r v ∧ H a = some (.lst (ar.map V.str)) ∧ deepR r < n ∧ sizeR r ≤ 1000 ∧ ar.length + deepR r ≤ 1000 ∧
  ∀ (H' : Hp) (p : Addr), Same H H' → H p = none → H' p = some (.lst ((freeR ar r).map V.str)) → Q (.ref p) H'
theorem inV_strs (n : Str) : ∀ l : List Str, inV (.str n) (l.map V.str) = decide (n ∈ l)
  | [] => rfl
  | m :: l => by
    show (eqV (.str m) (.str n) || inV (.str n) (l.map V.str)) = _
    rw [inV_strs n l]
    show ((m == n) || decide (n ∈ l)) = _
    by_cases e : m = n
    · rw [e]; simp
    · have e2 : ¬ n = m := fun z => e z.symm
      simp [e, e2]
theorem flat_strs : ∀ l : List Str, (l.map V.str).all flatV = true
  | [] => rfl
  | m :: l => by
    show (true && (l.map V.str).all flatV) = true
    rw [flat_strs l]
    rfl
end Wk

set_option Elab.async false
set_option linter.all false
set_option maxRecDepth 100000
set_option maxHeartbeats 2000000
/-! A turn of a law that draws a house: what stands while it is drawn. -/
namespace Wk
open PySem PySem.Spec PyProof.Rows L2
theorem cut_ints {ns : List Int} {lo hi : Option Int} : ∀ v ∈ cutV (ns.map V.int) lo hi, ∃ i : Int, v = .int i := by
  intro v hv
  unfold cutV at hv
  obtain ⟨i, _, e⟩ := List.mem_map.mp (List.mem_of_mem_drop (List.mem_of_mem_take hv))
  exact ⟨i, e.symm⟩
theorem cut_len {ns : List Int} {lo hi : Option Int} (h : ns.length ≤ 63) : (cutV (ns.map V.int) lo hi).length ≤ 63 := by
  unfold cutV
  rw [List.length_take, List.length_drop, List.length_map]
  omega
theorem cut_to {zs : List Str} {k : Nat} (h : k ≤ zs.length) : cutV (zs.map V.str) none (some (k : Int)) = (zs.take k).map V.str := by
  unfold cutV
  rw [HT.sIx_none, HT.sIx_nat, List.length_map, Nat.min_eq_left h, List.drop_zero, Nat.sub_zero, List.map_take]
theorem cut_mid {zs : List Str} {i k : Nat} (h : k ≤ zs.length) (hi : i ≤ k) : cutV (zs.map V.str) (some (i : Int)) (some (k : Int)) = ((zs.drop i).take (k - i)).map V.str := by
  unfold cutV
  rw [HT.sIx_nat, HT.sIx_nat, List.length_map, Nat.min_eq_left h, Nat.min_eq_left (Nat.le_trans hi h), List.map_take, List.map_drop]
theorem cut_off {zs : List Str} {i : Nat} (hi : i ≤ zs.length) : cutV (zs.map V.str) (some (i : Int)) none = (zs.drop i).map V.str := by
  unfold cutV
  rw [HT.sIx_none, HT.sIx_nat, List.length_map, Nat.min_eq_left hi, List.map_drop]
  rw [List.take_of_length_le]
  rw [List.length_drop, List.length_map]
  exact Nat.le_refl _
/-- p holds the items, pn the names, L one number -/
structure Sit (p pn L : Addr) (items : List V) (zs : List Str) (H : Hp) : Prop where
  hp : H p = some (.lst items)
  hn : H pn = some (.lst (zs.map V.str))
  hL : ∃ n : Int, H L = some (.lst [.int n])
  pL : p ≠ L
  nL : pn ≠ L
section
variable {p pn L q : Addr} {items : List V} {zs : List Str} {H H' : Hp} {o : HO}
theorem Sit.new (x : Sit p pn L items zs H) (n : H q = none) : Sit p pn L items zs (upd H q o) := by
  obtain ⟨i, hi⟩ := x.hL
  exact ⟨kn x.hp n, kn x.hn n, ⟨i, kn hi n⟩, x.pL, x.nL⟩
theorem Sit.put (x : Sit p pn L items zs H) (n : Int) : Sit p pn L items zs (upd H L (.lst [.int n])) :=
  ⟨by rw [upd_ne x.pL]; exact x.hp, by rw [upd_ne x.nL]; exact x.hn, ⟨n, upd_same⟩, x.pL, x.nL⟩
theorem Sit.same (x : Sit p pn L items zs H) (s : Same H H') : Sit p pn L items zs H' := by
  obtain ⟨i, hi⟩ := x.hL
  exact ⟨s _ _ x.hp, s _ _ x.hn, ⟨i, s _ _ hi⟩, x.pL, x.nL⟩
theorem Sit.drawn {S : Addr} {sp : List Str} (x : Sit p pn L items zs H) (g : StG L S H H' sp) (h1 : p ≠ S) (h2 : pn ≠ S) : Sit p pn L items zs H' :=
  ⟨g.1 _ _ x.pL h1 x.hp, g.1 _ _ x.nL h2 x.hn, g.2.1, x.pL, x.nL⟩
end
theorem apart {zs : List Str} {s i j : Nat} {x : Str} (hn : ∀ i z, zs[i]? = some z → NameOf ((s + 5 * i) % 26) z) (hi : zs[i]? = some x) (hj : zs[j]? = some x) (li : i < 26) (lj : j < 26) : i = j := by
  have := (hn i x hi).inj (hn j x hj)
  omega
theorem names_sh {zs : List Str} {s : Nat} (hn : ∀ i z, zs[i]? = some z → NameOf ((s + 5 * i) % 26) z) : ∀ z ∈ zs, Sh 6 z := by
  intro z hz
  obtain ⟨i, hi⟩ := List.getElem?_of_mem hz
  exact (hn i z hi).sh (Nat.mod_lt _ (by decide))
theorem mid_mem {zs : List Str} {i k : Nat} {x : Str} (h : x ∈ (zs.drop i).take k) : ∃ j, i ≤ j ∧ j < i + k ∧ zs[j]? = some x := by
  obtain ⟨j, hj⟩ := List.getElem?_of_mem h
  have hl : j < k := by
    have := (List.getElem?_eq_some_iff.mp hj).1
    rw [List.length_take] at this
    omega
  rw [List.getElem?_take_of_lt hl, List.getElem?_drop] at hj
  exact ⟨i + j, by omega, by omega, hj⟩
theorem off_mem {zs : List Str} {i : Nat} {x : Str} (h : x ∈ zs.drop i) : ∃ j, i ≤ j ∧ j < zs.length ∧ zs[j]? = some x := by
  obtain ⟨j, hj⟩ := List.getElem?_of_mem h
  rw [List.getElem?_drop] at hj
  exact ⟨i + j, by omega, (List.getElem?_eq_some_iff.mp hj).1, hj⟩
theorem head_mem {zs : List Str} {k : Nat} {x : Str} (h : x ∈ zs.take k) : ∃ j, j < k ∧ zs[j]? = some x := by
  obtain ⟨j, hj⟩ := List.getElem?_of_mem h
  have hl : j < k := by
    have := (List.getElem?_eq_some_iff.mp hj).1
    rw [List.length_take] at this
    omega
  rw [List.getElem?_take_of_lt hl] at hj
  exact ⟨j, hl, hj⟩
theorem at_names {zs : List Str} {d : Int} (h0 : 0 ≤ d) (h1 : d < zs.length) : ∃ z, zs[d.toNat]? = some z ∧ atI (zs.map V.str) d = some (.str z) := by
  have hd : d.toNat < zs.length := by omega
  refine ⟨zs[d.toNat], List.getElem?_eq_getElem hd, ?_⟩
  have e : atI (zs.map V.str) ((d.toNat : Nat) : Int) = some (.str zs[d.toNat]) := atI_nat (by rw [List.getElem?_map, List.getElem?_eq_getElem hd]; rfl)
  rw [show ((d.toNat : Nat) : Int) = d by omega] at e
  exact e
/-- a row that is drawn, or the rest of one of its parts -/
structure ROk (bd : List Str) (f : Str → Prop) (d sz : Nat) (r : List Part) : Prop where
  bd : ∀ n ∈ bdR r, n ∈ bd
  deep : deepR r ≤ d
  size : sizeR r ≤ sz
  ok : okR f r
theorem ROk.rest {bd : List Str} {f : Str → Prop} {d sz : Nat} {r : List Part} (h : ROk bd f d sz r) {p : Part} (hp : p ∈ r) : ROk bd f d sz (restP p) :=
  ⟨fun n hn => h.bd n (bd_mem p hp (rest_bd hn)), Nat.le_trans (rest_deep p) (Nat.le_trans (deepR.mem p hp) h.deep), Nat.le_trans (rest_size p) (Nat.le_trans (sizeR.mem p hp) h.size), rest_ok (h.ok.mem p hp)⟩
theorem eqv_rows {f : Str → Prop} (hf : ∀ n, f n → PyData.strOk n = true) {r : List Part} (h : okR f r) : PyData.eqv (.tuple (dR r)) (.tuple (dR r)) = true :=
  SeqAt.eqv_refl _ (by simp only [PyData.canLay0]; exact layR hf r h)
end Wk

set_option Elab.async false
set_option linter.all false
set_option maxRecDepth 100000
set_option maxHeartbeats 2000000
/-! How rows are written. -/
namespace Wk
open PySem PySem.Spec PyProof.Rows L2
def jn (l : List Str) : Str := Txt.join " | " l
def shT (l : List Str) : Str := if l.isEmpty = true then "0" else jn l
def grT (l : List Str) : Str := if 1 < l.length then "(" ++ jn l ++ ")" else shT l
def wtT (l : List Str) : Str := if l.isEmpty = true then "" else "." ++ grT l
def othT (w : Wd) (n : Str) (l : List Str) : Str := match w with
  | .room => n ++ "[" ++ jn l ++ "]"
  | .hear => "(" ++ n ++ ")" ++ wtT l
  | .new => "new " ++ n ++ " " ++ grT l
  | .inn => "in" ++ " " ++ n ++ wtT l
  | .out => "out" ++ " " ++ n ++ wtT l
  | .opn => "open" ++ " " ++ n ++ wtT l
mutual
def txP : Part → Str
  | .say n => "<" ++ n ++ ">"
  | .again r => "!" ++ grT (txL r)
  | .oth w n r => othT w n (txL r)
def txL : List Part → List Str
  | [] => []
  | p :: r => txP p :: txL r
end
theorem txL_map : ∀ r : List Part, txL r = r.map txP
  | [] => rfl
  | p :: r => by
    show txP p :: txL r = txP p :: r.map txP
    rw [txL_map r]
theorem txL_len (r : List Part) : (txL r).length = r.length := by rw [txL_map, List.length_map]
theorem emp (z : Str) : Str.empty ++ z = z := by
  cases z
  show (⟨#[] ++ _⟩ : Str) = _
  rw [Array.empty_append]
theorem jn_len (l : List Str) : (jn l).length ≤ (l.map (·.length)).sum + 3 * l.length := by
  show (Builtin.Str.glued " | " l).length ≤ _
  rw [PySem.size_glued]
  have e : (" | " : Str).length = 3 := by decide +kernel
  rw [e]
  have : (l.length - 1) * 3 ≤ 3 * l.length := by omega
  omega
theorem len1 : ("[" : Str).length = 1 ∧ ("]" : Str).length = 1 ∧ ("(" : Str).length = 1 ∧ (")" : Str).length = 1 ∧ ("<" : Str).length = 1 ∧ (">" : Str).length = 1 ∧ ("!" : Str).length = 1 ∧ ("." : Str).length = 1 ∧ (" " : Str).length = 1 ∧ ("0" : Str).length = 1 ∧ ("" : Str).length = 0 ∧ ("new " : Str).length = 4 ∧ ("in" : Str).length = 2 ∧ ("out" : Str).length = 3 ∧ ("open" : Str).length = 4 := by decide +kernel
theorem shT_len (l : List Str) : (shT l).length ≤ (jn l).length + 1 := by
  unfold shT
  obtain ⟨_, _, _, _, _, _, _, _, _, h0, _⟩ := len1
  split
  · omega
  · omega
theorem grT_len (l : List Str) : (grT l).length ≤ (jn l).length + 2 := by
  unfold grT
  obtain ⟨_, _, h1, h2, _⟩ := len1
  split
  · rw [app_len, app_len]; omega
  · have := shT_len l; omega
theorem wtT_len (l : List Str) : (wtT l).length ≤ (jn l).length + 3 := by
  unfold wtT
  obtain ⟨_, _, _, _, _, _, _, h1, _, _, h2, _⟩ := len1
  split
  · omega
  · rw [app_len]; have := grT_len l; omega
theorem othT_len (w : Wd) (n : Str) (l : List Str) : (othT w n l).length ≤ n.length + (jn l).length + 8 := by
  obtain ⟨h1, h2, h3, h4, h5, h6, h7, h8, h9, h10, h11, h12, h13, h14, h15⟩ := len1
  have a1 := grT_len l
  have a2 := wtT_len l
  cases w <;> simp only [othT, app_len] <;> omega
mutual
theorem txP_len : ∀ p : Part, okP (Sh 30) p → (txP p).length + 3 ≤ 63 * sizeP p
  | .say n, h => by
    have h1 : n.length ≤ 30 := (show Sh 30 n from h).len
    obtain ⟨_, _, _, _, h5, h6, _⟩ := len1
    show ("<" ++ n ++ ">").length + 3 ≤ 63 * 1
    rw [app_len, app_len]
    omega
  | .again r, h => by
    have h1 := txL_sum r h
    obtain ⟨_, _, _, _, _, _, h7, _⟩ := len1
    have h2 := grT_len (txL r)
    show ("!" ++ grT (txL r)).length + 3 ≤ 63 * (sizeR r + 1)
    rw [app_len]
    omega
  | .oth w n r, h => by
    have h0 : n.length ≤ 30 := (show Sh 30 n from h.1).len
    have h1 := txL_sum r h.2
    have h2 := othT_len w n (txL r)
    show (othT w n (txL r)).length + 3 ≤ 63 * (sizeR r + 1)
    omega
theorem txL_sum : ∀ r : List Part, okR (Sh 30) r → (jn (txL r)).length ≤ 63 * sizeR r
  | r, h => by
    have h1 := jn_len (txL r)
    have h2 := txL_sum2 r h
    omega
theorem txL_sum2 : ∀ r : List Part, okR (Sh 30) r → ((txL r).map (·.length)).sum + 3 * (txL r).length ≤ 63 * sizeR r
  | [], _ => Nat.le_refl 0
  | p :: r, h => by
    have h1 := txP_len p h.1
    have h2 := txL_sum2 r h.2
    show ((txP p).length :: (txL r).map (·.length)).sum + 3 * ((txL r).length + 1) ≤ 63 * (sizeP p + sizeR r)
    rw [List.sum_cons]
    omega
end
/-- a text of the row, by g -/
def spT (g : List Str → Str) (n : Nat) : Sp := fun vs H Q _ => ∃ (v : V) (r : List Part), vs = [v] ∧ RowAt H r v ∧ deepR r < n ∧ sizeR r ≤ 1000 ∧ okR (Sh 30) r ∧ ∀ H', Same H H' → Q (.str (g (txL r))) H'
def spTP (n : Nat) : Sp := fun vs H Q _ => ∃ (v : V) (p : Part), vs = [v] ∧ PartAt H p v ∧ deepP p ≤ n ∧ sizeP p ≤ 1000 ∧ okP (Sh 30) p ∧ ∀ H', Same H H' → Q (.str (txP p)) H'
section
variable {P : Program} {w : World} {K : PySem.W.Frag} {mg : Str → Option Value} {base : Heap}
theorem T_none {f : Addr} {fd : FuncData} {k : Nat} {ps : List Str} {g : List Str → Str} : FnOk P w K mg base CX0 k f fd ps (spT g 0) := by
  have no : ∀ vs H Q E, ¬ spT g 0 vs H Q E := fun vs H Q E h => by
    obtain ⟨_, _, _, _, h1, _⟩ := h
    omega
  exact ⟨fun vs H Q E h => absurd h (no vs H Q E), fun A outer s H args us vs Q E _ _ _ _ h => absurd h (no vs H Q E)⟩
end
end Wk

set_option Elab.async false
set_option linter.all false
set_option maxRecDepth 100000
set_option maxHeartbeats 2000000
namespace K6
open PySem PySem.Spec PyProof.Rows L2 Wk
def topS (i : Nat) : Stmt := PySem.Challenge.pw_walkrooms_k06_written.main.body.getD i (.Pass ⟨0, 0, 0, 0⟩)
abbrev sLeft : Stmt := topS 13
abbrev sDigit : Stmt := topS 14
abbrev sNames : Stmt := topS 15
abbrev sPart : Stmt := topS 16
abbrev sRow : Stmt := topS 17
theorem scLeft : FnScope ["_law_cell", "_law_left_here", "_law_number", "_law_turn"] ["_law_cell"] (defScope sLeft) := ⟨rfl, rfl, rfl, by decide +kernel, rfl, by decide +kernel, by decide +kernel⟩
theorem scDigit : FnScope ["_law_left_here", "_law_many", "_law_found"] ["_law_left_here", "_law_many"] (defScope sDigit) := ⟨rfl, rfl, rfl, by decide +kernel, rfl, by decide +kernel, by decide +kernel⟩
theorem scNames : FnScope ["_law_left_here", "_law_many", "_law_letters", "_law_start", "_law_found", "_law_k", "_law_word", "_law_j"] ["_law_left_here", "_law_many"] (defScope sNames) := ⟨rfl, rfl, rfl, by decide +kernel, rfl, by decide +kernel, by decide +kernel⟩
theorem scPart : FnScope ["_law_left_here", "_law_room", "_law_scope", "_law_spare", "_law_way", "_law_name", "_law_own"] ["_law_left_here", "_law_room", "_law_scope", "_law_spare"] (defScope sPart) := ⟨rfl, rfl, rfl, by decide +kernel, rfl, by decide +kernel, by decide +kernel⟩
abbrev nmRow : List Str := ["_law_left_here", "_law_room", "_law_scope", "_law_spare", "_law_many", "_law_k"]
theorem scRow : FnScope nmRow ["_law_left_here", "_law_room", "_law_scope", "_law_spare"] (defScope sRow) := ⟨rfl, rfl, rfl, by decide +kernel, rfl, by decide +kernel, by decide +kernel⟩
section
variable {P : Program} {w : World} {K : PySem.W.Frag} {mg : Str → Option Value} {base : Heap}
/-! ### _law_left: a new list of one number -/
theorem ok_left {f : Addr} {fd : FuncData} {k : Nat} (F : Fun K "_law_left" "_law_left" sLeft f fd) (ma : mg "abs" = none) (mr : mg "range" = none) : FnOk P w K mg base CX0 (k + 1) f fd ["_law_cell"] spLeft := by
  refine F.ok scLeft (fun vs H Q E h => ?_) (fun cdv A outer s H vs Q E hr h => ?_)
  · obtain ⟨v, rfl, _⟩ := h
    rfl
  obtain ⟨c, rfl, q⟩ := h
  refine ⟨_, pss_cons (ps_set (i := 1) scLeft.nd rfl (.inl rfl) (pe_callB call_abs (by rfl) ma (by decide +kernel) (pa_cons (pv 0) pa_nil)))
    (pss_cons (ps_if (pt_cmpR op_lt (pv 1) (pe_op op_pow pe_int pe_int) (nomark _))
      (pss_cons (ps_set (i := 2) scLeft.nd rfl (.inl rfl) (pv 0))
      (pss_one (ps_for PassesOwn.never rfl (pi_range1 rfl mr (pa_cons pe_int pa_nil)) (pg_name (i := 3) scLeft.nd rfl (.inl rfl))
        (pss_cons (ps_set (i := 2) scLeft.nd rfl (.inl rfl) (pe_op op_mod (pe_op op_mul (pe_op op_add (pe_op op_mod (pv 2) pe_int) pe_int) pe_int) pe_int))
        (pss_cons (ps_set (i := 2) scLeft.nd rfl (.inl rfl) (pe_op op_add (pe_op op_mod (pe_op op_mul (pv 2) pe_int) pe_int) (pv 3)))
        (pss_one (ps_set (i := 1) scLeft.nd rfl (.inl rfl) (pe_op op_add (pe_op op_mul (pv 1) pe_int) (pv 2))))))))) pss_nil)
    (pss_one (ps_ret (pe_lst (pa_cons (pv 1) pa_nil))))), ?_⟩
  have one_le : (1 : Nat) ≤ sizeLine := by decide
  refine ⟨_, rfl, c, rfl, _, rfl, _, _, rfl, rfl, by unfold CPow; decide, _, _, rfl, rfl, _, rfl, ite2 (fun h => ?_) (fun h => ?_)⟩
  · refine ⟨_, rfl, 40, rfl, by decide, by decide, for_range (n := 40) (lo := 0) (fun _ σ H' => H' = H ∧ ∃ a d : Option V, ∃ i j : Int, σ = [a, some (.int i), some (.int j), d]) ⟨rfl, _, _, _, _, rfl⟩ (fun i σ H' hi hP => ?_) fun σ H' hP => ?_⟩
    · obtain ⟨rfl, a, d, x, y, rfl⟩ := hP
      refine ⟨_, rfl, _, _, rfl, rfl, pos1, _, _, rfl, rfl, _, _, rfl, rfl, .inr ⟨by decide, by decide⟩, _, _, rfl, rfl, pos1, ?_⟩
      refine ⟨_, rfl, _, _, rfl, rfl, .inr ⟨by decide, by decide⟩, _, _, rfl, rfl, pos2, _, rfl, _, _, rfl, rfl, ?_⟩
      refine ⟨_, rfl, _, _, rfl, rfl, .inr ⟨by decide, by decide⟩, _, rfl, _, _, rfl, rfl, ?_⟩
      exact ⟨rfl, _, _, _, _, rfl⟩
    · obtain ⟨rfl, a, d, x, y, rfl⟩ := hP
      exact ⟨_, rfl, one_le, fun p np => q p _ np⟩
  · exact ⟨_, rfl, one_le, fun p np => q p _ np⟩
/-! ### _law_digit -/
theorem ok_digit {f : Addr} {fd : FuncData} {k : Nat} (F : Fun K "_law_digit" "_law_digit" sDigit f fd) : FnOk P w K mg base CX0 (k + 1) f fd ["_law_left_here", "_law_many"] spDigit := by
  refine F.ok scDigit (fun vs H Q E h => ?_) (fun cdv A outer s H vs Q E hr h => ?_)
  · obtain ⟨L, n, m, rfl, _⟩ := h
    rfl
  obtain ⟨L, n, m, rfl, hL, h0, h1, q⟩ := h
  refine ⟨_, pss_cons (ps_set (i := 2) scDigit.nd rfl (.inl rfl) (pe_op op_mod (pe_ix ix_list (pv 0) pe_int (fun _ _ => rfl)) (pv 1)))
    (pss_cons (ps_asg (pe_op op_fdiv (pe_ix ix_list (pv 0) pe_int (fun _ _ => rfl)) (pv 1)) (pg_sub (pv 0) pe_int set_list))
    (pss_one (ps_ret (pv 2)))), ?_⟩
  refine ⟨_, rfl, L, _, 0, _, rfl, rfl, SqL.of hL, atI_nat (j := 0) rfl, _, rfl, _, _, rfl, rfl, h0, ?_⟩
  refine ⟨_, rfl, L, _, 0, _, rfl, rfl, SqL.of hL, atI_nat (j := 0) rfl, _, rfl, _, _, rfl, rfl, ⟨h0, h1⟩, ?_⟩
  refine ⟨_, rfl, L, _, 0, 0, rfl, rfl, hL, rfl, ?_⟩
  exact ⟨_, rfl, q _ _ (Int.emod_nonneg n (by omega)) (Int.emod_lt_of_pos n h0)⟩
/-! ### _law_names -/
theorem ok_names {f fD : Addr} {fd fdD : FuncData} (F : Fun K "_law_names" "_law_names" sNames f fd) (GD : FnOk P w K mg base CX0 1 fD fdD ["_law_left_here", "_law_many"] spDigit) (bD : Binds K fdD ["_law_left_here", "_law_many"] []) (kD : PySem.W.keepIn K (.ref fD) = true)
    (mD : mg "_law_digit" = some (.ref fD)) (mr : mg "range" = none) : FnOk P w K mg base CX0 2 f fd ["_law_left_here", "_law_many"] spNames := by
  refine F.ok scNames (fun vs H Q E h => ?_) (fun cdv A outer s H vs Q E hr h => ?_)
  · obtain ⟨L, n, m, rfl, _⟩ := h
    rfl
  obtain ⟨L, n, m, rfl, hL, hm, q⟩ := h
  refine ⟨_, pss_cons (ps_set (i := 2) scNames.nd rfl (.inl rfl) pe_str)
    (pss_cons (ps_set (i := 3) scNames.nd rfl (.inl rfl) (pe_call GD hr (by rfl) mD kD bD .nil pass0 (pa_cons (pv 0) (pa_cons pe_int pa_nil))))
    (pss_cons (ps_set (i := 4) scNames.nd rfl (.inl rfl) (pe_lst pa_nil))
    (pss_cons (ps_for PassesOwn.never rfl (pi_range1 rfl mr (pa_cons (pv 1) pa_nil)) (pg_name (i := 5) scNames.nd rfl (.inl rfl))
        (pss_cons (ps_set (i := 6) scNames.nd rfl (.inl rfl) (pe_ix ix_str (pv 2) (pe_op op_mod (pe_op op_add (pv 3) (pe_op op_mul pe_int (pv 5))) pe_int) (fun _ _ => rfl)))
        (pss_cons (ps_for PassesOwn.never rfl (pi_range1 rfl mr (pa_cons (pe_call GD hr (by rfl) mD kD bD .nil pass0 (pa_cons (pv 0) (pa_cons pe_int pa_nil))) pa_nil)) (pg_name (i := 7) scNames.nd rfl (.inl rfl))
          (pss_one (ps_set (i := 6) scNames.nd rfl (.inl rfl) (pe_op op_add_str (pv 6) (pe_ix ix_str pe_str (pe_call GD hr (by rfl) mD kD bD .nil pass0 (pa_cons (pv 0) (pa_cons pe_int pa_nil))) (fun _ _ => rfl))))))
        (pss_one (ps_expr (pe_bm PySem.F.plainAttrs_list PySem.F.slot_list_append PySem.F.type_list_append mt_append (pv 4) (pa_cons (pv 6) pa_nil)))))))
    (pss_one (ps_ret (pv 4)))))), ?_⟩
  refine ⟨_, rfl, L, n, 26, rfl, hL, by decide, by decide, fun st n1 st0 st1 => ?_⟩
  refine ⟨(show 0 ≤ sizeLine by decide), fun p np => ?_⟩
  have pL : p ≠ L := fun e => by
    rw [e, upd_same] at np
    cases np
  have nH : H p = none := by rw [upd_ne pL] at np; exact np
  have x1 : StL L H (upd (upd H L (.lst [.int n1])) p (.lst [])) := (StL.put n1).trans (StL.new upd_same np)
  refine ⟨_, rfl, (m : Int), rfl, by omega, by omega, for_range (n := m) (lo := 0) (fun i σ H' => StL L H H' ∧ ∃ zs : List Str, H' p = some (.lst (zs.map V.str)) ∧ zs.length = i ∧ (∀ j z, zs[j]? = some z → NameOf ((st.toNat + 5 * j) % 26) z) ∧
      ∃ s5 s6 s7 : Option V, σ = [some (.ref L), some (.int m), some (.str abc), some (.int st), some (.ref p), s5, s6, s7]) ⟨x1, [], upd_same, rfl, fun j z e => (by simp at e), _, _, _, rfl⟩ (fun i σ H' hi hP => ?_) fun σ H' hP => ?_⟩
  · obtain ⟨x2, zs, hp, hl, hn, s5, s6, s7, rfl⟩ := hP
    have ei : (st + 5 * (0 + (i : Int))) % 26 = (((st.toNat + 5 * i) % 26 : Nat) : Int) := by omega
    refine ⟨_, rfl, _, rfl, _, rfl, _, _, rfl, rfl, .inl ⟨by decide, by decide⟩, _, _, rfl, rfl, _, _, rfl, rfl, (show (0 : Int) < 26 by decide), ?_⟩
    refine ⟨abc, _, 97 + (st.toNat + 5 * i) % 26, rfl, rfl, by decide +kernel, by rw [ei]; exact atI_nat (abc_at _ (Nat.mod_lt _ (by decide))), ?_⟩
    obtain ⟨n2, hn2⟩ := x2.2
    refine ⟨_, rfl, L, n2, 6, rfl, hn2, by decide, by decide, fun d n3 d0 d1 => ?_⟩
    have x3 := x2.trans (StL.put (H := H') (L := L) n3)
    have hp3 : upd H' L (.lst [.int n3]) p = some (.lst (zs.map V.str)) := by rw [upd_ne pL]; exact hp
    refine ⟨d, rfl, Int.le_trans (by decide) d0, Int.lt_of_lt_of_le d1 (by decide), for_range (n := d.toNat) (lo := 0) (fun j σ H' => StL L H H' ∧ H' p = some (.lst (zs.map V.str)) ∧ ∃ (z : Str) (r : List Nat), z.cps.toList = (97 + (st.toNat + 5 * i) % 26) :: r ∧ r.length = j ∧ (∀ c ∈ r, c ∈ vow.cps.toList) ∧
      ∃ s5 s7 : Option V, σ = [some (.ref L), some (.int m), some (.str abc), some (.int st), some (.ref p), s5, some (.str z), s7]) ⟨x3, hp3, _, [], rfl, rfl, fun c hc => (nomatch hc), _, _, rfl⟩ (fun j σ H' hj hP => ?_) fun σ H' hP => ?_⟩
    · obtain ⟨x4, hp4, z, r, ez, hr1, hv, s5, s7, rfl⟩ := hP
      obtain ⟨n4, hn4⟩ := x4.2
      refine ⟨_, rfl, _, rfl, L, n4, 8, rfl, hn4, by decide, by decide, fun g n5 g0 g1 => ?_⟩
      obtain ⟨c, hc, hat, _⟩ := atX_lt (l := vow.cps.toList) g0 (by rw [vow_len]; exact g1)
      refine ⟨vow, g, c, rfl, rfl, by decide +kernel, hat, z, _, rfl, rfl, ?_, ?_⟩
      · have hz : z.length = r.length + 1 := by
          show z.cps.size = _
          rw [← Array.length_toList, ez, List.length_cons]
        exact small (by rw [hz]; show r.length + 1 + 1 ≤ 1000; omega)
      · refine ⟨x4.trans (StL.put n5), by rw [upd_ne pL]; exact hp4, _, r ++ [c], ?_, ?_, ?_, _, _, rfl⟩
        · rw [app_codes, ez, List.cons_append]
        · rw [List.length_append, hr1]
          rfl
        · intro e he
          rcases List.mem_append.mp he with u | u
          · exact hv e u
          · rw [List.mem_singleton.mp u]
            exact hc
    · obtain ⟨x4, hp4, z, r, ez, hr1, hv, s5, s7, rfl⟩ := hP
      refine ⟨_, rfl, .inl ⟨rfl, _, SqL.of hp4⟩, _, rfl, p, _, _, rfl, rfl, hp4, by rw [List.length_map]; exact small1000 (by omega), ?_⟩
      obtain ⟨n4, hn4⟩ := x4.2
      refine ⟨⟨fun b o nb e => ?_, n4, by rw [upd_ne (Ne.symm pL)]; exact hn4⟩, zs ++ [z], by rw [upd_same, List.map_append]; rfl, by rw [List.length_append, hl]; rfl, fun j y hy => ?_, _, _, _, rfl⟩
      · rw [upd_ne (ne_of_none e nH)]
        exact x4.1 b o nb e
      · by_cases hj : j < zs.length
        · rw [List.getElem?_append_left hj] at hy
          exact hn j y hy
        · have ej : j = i := by
            have := (List.getElem?_eq_some_iff.mp hy).1
            rw [List.length_append, List.length_singleton] at this
            omega
          rw [List.getElem?_append_right (by omega), show j - zs.length = 0 by omega] at hy
          rw [← Option.some.inj (show some z = some y from hy), ej]
          exact ⟨r, ez, by omega, hv⟩
  · obtain ⟨x2, zs, hp, hl, hn, s5, s6, s7, rfl⟩ := hP
    exact ⟨_, rfl, q H' p st.toNat zs x2 nH hp hl (by omega) hn⟩
/-! ### _law_part and _law_row, by the room that is left -/
abbrev ps4 : List Str := ["_law_left_here", "_law_room", "_law_scope", "_law_spare"]
theorem ok_part {f fD fR : Addr} {fd fdD fdR : FuncData} {n : Nat} (F : Fun K "_law_part" "_law_part" sPart f fd) (GD : FnOk P w K mg base CX0 1 fD fdD ["_law_left_here", "_law_many"] spDigit) (bD : Binds K fdD ["_law_left_here", "_law_many"] []) (kD : PySem.W.keepIn K (.ref fD) = true)
    (mD : mg "_law_digit" = some (.ref fD)) (ml : mg "len" = none) (Gr : FnOk P w K mg base CX0 (2 * n + 1) fR fdR ps4 (spRow n)) (bR : Binds K fdR ps4 []) (kR : PySem.W.keepIn K (.ref fR) = true) (mR : mg "_law_row" = some (.ref fR)) :
    FnOk P w K mg base CX0 (2 * n + 1 + 1) f fd ps4 (spPart n) := by
  refine F.ok scPart (fun vs H Q E h => ?_) (fun cdv A outer s H vs Q E hr h => ?_)
  · obtain ⟨_, _, _, _, _, _, _, ⟨rfl, _⟩, _⟩ := h
    rfl
  obtain ⟨L, S, A0, nL, m, ss, sp, ⟨rfl, hL, hS, hA, hAL, hAS, hne, hlen, hsh⟩, hmn, q⟩ := h
  have hr1 : Room 1 _ := hr.mono (by omega)
  refine ⟨_, pss_cons (ps_set (i := 4) scPart.nd rfl (.inl rfl) (pe_call GD hr1 (by rfl) mD kD bD .nil pass0 (pa_cons (pv 0) (pa_cons pe_int pa_nil))))
    (pss_cons (ps_set (i := 5) scPart.nd rfl (.inl rfl) (pe_ix ix_list (pv 2) (pe_call GD hr1 (by rfl) mD kD bD .nil pass0 (pa_cons (pv 0) (pa_cons (pe_callB call_len_seq (by rfl) ml PySem.boot_len (pa_cons (pv 2) pa_nil)) pa_nil))) (fun _ _ => rfl)))
    (pss_cons (ps_if (PW.pt (pw_or (pt_cmpR op_eq (pv 4) pe_int (nomark _)) (pw_or1 (pt_cmpR op_eq (pv 1) pe_int (nomark _))))) (pss_one (ps_ret (pe_tup (pa_cons pe_str (pa_cons (pv 5) pa_nil))))) pss_nil)
    (C8.pss_cut (ps_if (PW.pt (pw_and (pt_cmpR op_gt (pv 4) pe_int (nomark _)) (pw_and1 (pt_cmpR (op_neD hr.units) (pv 3) (pe_lst pa_nil) (nomark _)))))
      (pss_cons (ps_set (i := 6) scPart.nd rfl (.inl rfl) (pe_bm0 PySem.F.plainAttrs_list PySem.F.slot_list_pop PySem.F.type_list_pop mt_pop (pv 3)))
      (pss_one (ps_ret (pe_tup (pa_cons (pe_ix ix_list (pe_lst (pa_cons pe_str (pa_cons pe_str pa_nil))) (pe_op op_sub (pv 4) pe_int) (fun _ _ => rfl)) (pa_cons (pv 6) (pa_cons
        (pe_call Gr hr (by rfl) mR kR bR .nil pass0 (pa_cons (pv 0) (pa_cons (pe_op op_sub (pv 1) pe_int) (pa_cons (pe_op op_cat (pv 2) (pe_lst (pa_cons (pv 6) (pa_cons (pv 6) pa_nil)))) (pa_cons (pv 3) pa_nil))))) pa_nil))))))) pss_nil)
    (pss_cons (ps_if (pt_cmpR op_eq (pv 4) pe_int (nomark _)) (pss_one (ps_ret (pe_tup (pa_cons pe_str (pa_cons
        (pe_call Gr hr (by rfl) mR kR bR .nil pass0 (pa_cons (pv 0) (pa_cons (pe_op op_sub (pv 1) pe_int) (pa_cons (pv 2) (pa_cons (pv 3) pa_nil))))) pa_nil))))) pss_nil)
    (pss_cons (ps_if (pt_chain op_lt op_lt pe_int (pv 4) pe_int) (pss_one (ps_ret (pe_tup (pa_cons (pe_ix ix_list (pe_lst (pa_cons pe_str (pa_cons pe_str (pa_cons pe_str pa_nil)))) (pe_op op_sub (pv 4) pe_int) (fun _ _ => rfl)) (pa_cons (pv 5) (pa_cons
        (pe_call Gr hr (by rfl) mR kR bR .nil pass0 (pa_cons (pv 0) (pa_cons (pe_op op_sub (pv 1) pe_int) (pa_cons (pv 2) (pa_cons (pv 3) pa_nil))))) pa_nil)))))) pss_nil)
    (pss_one (ps_ret (pe_tup (pa_cons pe_str (pa_cons (pv 5) (pa_cons
        (pe_call Gr hr (by rfl) mR kR bR .nil pass0 (pa_cons (pv 0) (pa_cons (pe_op op_sub (pv 1) pe_int) (pa_cons (pv 2) (pa_cons (pv 3) pa_nil))))) pa_nil))))))))))), ?_⟩
  refine ⟨_, rfl, L, nL, 10, rfl, hL, by decide, by decide, fun way n1 w0 w1 => ?_⟩
  have x1 := (StG.refl hL hS).put n1
  have hA1 := x1.1 _ _ hAL hAS hA
  have hss : 0 < ss.length := List.length_pos_iff.mpr hne
  refine ⟨_, rfl, _, rfl, _, rfl, A0, _, rfl, .inl (SqL.of hA1), L, n1, _, rfl, upd_same, by rw [List.length_map]; omega, by rw [List.length_map]; omega, fun d n2 d0 d1 => ?_⟩
  have x2 := x1.put n2
  have hA2 := x2.1 _ _ hAL hAS hA
  obtain ⟨v, hv, hat, _⟩ := atX_lt (l := ss.map V.str) d0 d1
  obtain ⟨nm, hnm, rfl⟩ := List.mem_map.mp hv
  refine ⟨A0, _, d, _, rfl, rfl, SqL.of hA2, hat, ?_⟩
  have sayIt : ∀ (p : Addr), upd (upd H L (.lst [.int n1])) L (.lst [.int n2]) p = none → Q (.ref p) (upd (upd (upd H L (.lst [.int n1])) L (.lst [.int n2])) p (.tup [.str "say", .str nm])) :=
    fun p np => q _ _ sp (.say nm) (x2.new np) ⟨p, rfl, upd_same⟩ (GP.say hnm)
  refine ⟨_, rfl, rfl, _, rfl, ite2 (fun h9 => ?_) (fun h9 => ?_)⟩
  · exact iteT ⟨_, rfl, (show 2 ≤ sizeLine by decide), fun p np => sayIt p np⟩
  refine ⟨_, rfl, rfl, _, rfl, ite2 (fun h0 => ?_) (fun h0 => ?_)⟩
  · exact ⟨_, rfl, (show 2 ≤ sizeLine by decide), fun p np => sayIt p np⟩
  have w9 : way ≠ 9 := fun e => h9 (decide_eq_true (by rw [e]))
  obtain ⟨m', rfl⟩ : ∃ m', m = m' + 1 := by
    cases m with
    | zero => exact absurd (decide_eq_true rfl) h0
    | succ m' => exact ⟨m', rfl⟩
  have em : (((m' + 1 : Nat) : Int) - 1) = (m' : Int) := by omega
  -- names that are bound
  refine ⟨fun σ' H' => StG L S H H' sp ∧ ∃ s6 : Option V, σ' = [some (.ref L), some (.int (m' + 1 : Nat)), some (.ref A0), some (.ref S), some (.int way), some (.str nm), s6], ?_, fun σ' H5 hmid => ?_⟩
  · refine ⟨_, rfl, _, _, rfl, rfl, _, rfl, ite2 (fun h6 => ?_) (fun h6 => ?_)⟩
    · have h6' : 6 < way := of_decide_eq_true h6
      refine ⟨_, rfl, (show 0 ≤ sizeLine by decide), fun e ne => ?_⟩
      have x3 := x2.new (o := .lst []) ne
      refine ⟨.list (sp.map PyData.str), .list [], .lst (SqL.of x3.2.2) (strs_dp sp), .lst (SqL.of upd_same) .nil, strs_shaped (fun z hz => (hsh z hz).ok), nil_shaped, _, rfl, ?_⟩
      rw [eqv_nil]
      rcases List.eq_nil_or_concat sp with rfl | ⟨sp1, own, rfl⟩
      · exact iteF ⟨x3, _, rfl⟩
      · rw [List.concat_eq_append] at *
        have ee : (!(List.map PyData.str (sp1 ++ [own])).isEmpty) = true := by
          rw [List.map_append]
          cases sp1 <;> rfl
        rw [ee]
        refine iteT ?_
        have em1 : (sp1 ++ [own]).map V.str = sp1.map V.str ++ [.str own] := by rw [List.map_append]; rfl
        have hS3 := x3.2.2
        rw [em1] at hS3
        refine ⟨_, rfl, .inl ⟨rfl, _, SqL.of hS3⟩, S, _, .str own, rfl, rfl, hS3, ?_, ?_⟩
        · rw [List.length_append, List.length_singleton, Nat.add_sub_cancel, List.getElem?_append_right (Nat.le_refl _), Nat.sub_self]
          rfl
        rw [List.dropLast_concat]
        have x4 := x3.pop (sp1 := sp1)
        obtain ⟨w, hw, hat2⟩ : ∃ w : Wd, w.binds = true ∧ atI [V.str "hear", V.str "new"] (way - 7) = some (.str w.str) := by
          by_cases e7 : way = 7
          · exact ⟨.hear, rfl, by rw [e7]; exact atI_nat (j := 0) rfl⟩
          · have e8 : way = 8 := by omega
            exact ⟨.new, rfl, by rw [e8]; exact atI_nat (j := 1) rfl⟩
        refine ⟨(show 2 ≤ sizeLine by decide), fun l1 nl1 => ?_⟩
        have x5 := x4.new (o := .lst [.str "hear", .str "new"]) nl1
        refine ⟨_, rfl, _, _, rfl, rfl, l1, _, way - 7, _, rfl, rfl, SqL.of upd_same, hat2, _, rfl, _, rfl, _, rfl, _, _, rfl, rfl, _, rfl, _, rfl, _, rfl, (show 2 ≤ sizeLine by decide), fun l2 nl2 => ?_⟩
        have x6 := x5.new (o := .lst [.str own, .str own]) nl2
        have hA6 := x6.1 _ _ hAL hAS hA
        refine ⟨A0, l2, _, _, rfl, rfl, hA6, upd_same, small (by rw [List.length_map]; show ss.length + 2 ≤ 1000; omega), fun A1 nA1 => ?_⟩
        have x7 := x6.new (o := .lst (ss.map V.str ++ [.str own, .str own])) nA1
        obtain ⟨n7, hn7⟩ := x7.2.1
        obtain ⟨n6, hn6⟩ := x6.2.1
        refine ⟨_, rfl, L, S, A1, n7, m', ss ++ [own, own], sp1, ⟨congrArg (fun t : Int => [V.ref L, V.int t, V.ref A1, V.ref S]) em, hn7, x7.2.2, by rw [upd_same, List.map_append]; rfl, Ne.symm (ne_of_none hn6 nA1), Ne.symm (ne_of_none x6.2.2 nA1),
          by simp, by rw [List.length_append]; show ss.length + 2 + 2 * m' ≤ 1000; omega, fun z hz => hsh z (List.mem_append_left _ hz)⟩, by omega, fun H8 v sp' r x8 hR hG => ?_⟩
        obtain ⟨rb, xs, rfl, hb, hps⟩ := hR
        refine ⟨(show 3 ≤ sizeLine by decide), fun t nt => ?_⟩
        exact q _ _ sp' (.oth w own r) ((x7.trans x8).new nt) ⟨t, rb, xs, rfl, upd_same, kn hb nt, PartsAt.mono (STup.new nt) r xs hps⟩ (GP.bound hw hG)
    · exact iteF ⟨x2, _, rfl⟩
  obtain ⟨x5, s6, rfl⟩ := hmid
  have hA5 := x5.1 _ _ hAL hAS hA
  obtain ⟨n5, hn5⟩ := x5.2.1
  have arg5 : GArg [.ref L, .int (((m' + 1 : Nat) : Int) - 1), .ref A0, .ref S] H5 L S A0 n5 m' ss sp := ⟨by rw [em], hn5, x5.2.2, hA5, hAL, hAS, hne, by omega, hsh⟩
  -- rows done again
  refine ⟨_, rfl, rfl, _, rfl, ite2 (fun h6 => ?_) (fun h6 => ?_)⟩
  · refine ⟨_, rfl, _, rfl, _, _, rfl, rfl, _, rfl, _, rfl, L, S, A0, n5, m', ss, sp, arg5, by omega, fun H8 v sp' r x8 hR hG => ?_⟩
    obtain ⟨rb, xs, rfl, hb, hps⟩ := hR
    refine ⟨(show 2 ≤ sizeLine by decide), fun t nt => ?_⟩
    exact q _ _ sp' (.again r) ((x5.trans x8).new nt) ⟨t, rb, xs, rfl, upd_same, kn hb nt, PartsAt.mono (STup.new nt) r xs hps⟩ (GP.again hG)
  -- deeds
  refine ⟨_, rfl, _, _, rfl, rfl, _, rfl, ?_⟩
  have deeds : ∀ (w : Wd), w.binds = false → ∀ (H8 : Hp) (v : V) (sp' : List Str) (r : List Part), StG L S H H8 sp' → RowAt H8 r v → GR m' (most m') ss sp sp' r → ∀ t, H8 t = none → Q (.ref t) (upd H8 t (.tup [.str w.str, .str nm, v])) := by
    intro w hw H8 v sp' r x8 hR hG t nt
    obtain ⟨rb, xs, rfl, hb, hps⟩ := hR
    exact q _ _ sp' (.oth w nm r) (x8.new nt) ⟨t, rb, xs, rfl, upd_same, kn hb nt, PartsAt.mono (STup.new nt) r xs hps⟩ (GP.free hw hnm hG)
  refine ite2 (fun h2 => ?_) (fun h2 => ?_)
  · refine ⟨_, _, rfl, rfl, _, rfl, ite2 (fun h3 => ?_) (fun h3 => ?_)⟩
    · have h2' : 2 < way := of_decide_eq_true h2
      have h3' : way < 6 := of_decide_eq_true h3
      obtain ⟨w, hw, hat2⟩ : ∃ w : Wd, w.binds = false ∧ atI [V.str "in", V.str "out", V.str "open"] (way - 3) = some (.str w.str) := by
        by_cases e3 : way = 3
        · exact ⟨.inn, rfl, by rw [e3]; exact atI_nat (j := 0) rfl⟩
        · by_cases e4 : way = 4
          · exact ⟨.out, rfl, by rw [e4]; exact atI_nat (j := 1) rfl⟩
          · have e5 : way = 5 := by omega
            exact ⟨.opn, rfl, by rw [e5]; exact atI_nat (j := 2) rfl⟩
      refine ⟨(show 3 ≤ sizeLine by decide), fun l1 nl1 => ?_⟩
      have x6 := x5.new (o := .lst [.str "in", .str "out", .str "open"]) nl1
      obtain ⟨n6, hn6⟩ := x6.2.1
      refine ⟨_, rfl, _, _, rfl, rfl, l1, _, way - 3, _, rfl, rfl, SqL.of upd_same, hat2, _, rfl, _, rfl, _, rfl, _, _, rfl, rfl, _, rfl, _, rfl, L, S, A0, n6, m', ss, sp, ⟨congrArg (fun t : Int => [V.ref L, V.int t, V.ref A0, V.ref S]) em, hn6, x6.2.2, kn hA5 nl1, hAL, hAS, hne, by omega, hsh⟩, by omega, fun H8 v sp' r x8 hR hG => ?_⟩
      exact ⟨(show 3 ≤ sizeLine by decide), fun t nt => deeds w hw H8 v sp' r (x6.trans x8) hR hG t nt⟩
    · refine ⟨_, rfl, _, rfl, _, rfl, _, _, rfl, rfl, _, rfl, _, rfl, L, S, A0, n5, m', ss, sp, arg5, by omega, fun H8 v sp' r x8 hR hG => ?_⟩
      exact ⟨(show 3 ≤ sizeLine by decide), fun t nt => deeds .room rfl H8 v sp' r (x5.trans x8) hR hG t nt⟩
  · refine ⟨_, rfl, iteF ?_⟩
    refine ⟨_, rfl, _, rfl, _, rfl, _, _, rfl, rfl, _, rfl, _, rfl, L, S, A0, n5, m', ss, sp, arg5, by omega, fun H8 v sp' r x8 hR hG => ?_⟩
    exact ⟨(show 3 ≤ sizeLine by decide), fun t nt => deeds .room rfl H8 v sp' r (x5.trans x8) hR hG t nt⟩
theorem ok_row {f fD fP : Addr} {fd fdD fdP : FuncData} {n : Nat} (F : Fun K "_law_row" "_law_row" sRow f fd) (GD : FnOk P w K mg base CX0 1 fD fdD ["_law_left_here", "_law_many"] spDigit) (bD : Binds K fdD ["_law_left_here", "_law_many"] []) (kD : PySem.W.keepIn K (.ref fD) = true)
    (mD : mg "_law_digit" = some (.ref fD)) (mi : mg "int" = none) (mt : mg "tuple" = none) (mr : mg "range" = none) (Gp : FnOk P w K mg base CX0 (2 * n + 2) fP fdP ps4 (spPart n)) (bP : Binds K fdP ps4 []) (kP : PySem.W.keepIn K (.ref fP) = true) (mP : mg "_law_part" = some (.ref fP)) :
    FnOk P w K mg base CX0 (2 * n + 2 + 1) f fd ps4 (spRow (n + 1)) := by
  refine F.ok scRow (fun vs H Q E h => ?_) (fun cdv A outer s H vs Q E hr h => ?_)
  · obtain ⟨_, _, _, _, _, _, _, ⟨rfl, _⟩, _⟩ := h
    rfl
  obtain ⟨L, S, A0, nL, m, ss, sp, ⟨rfl, hL, hS, hA, hAL, hAS, hne, hlen, hsh⟩, hmn, q⟩ := h
  have hr1 : Room 1 _ := hr.mono (by omega)
  refine ⟨_, pss_cons (ps_set (i := 4) scRow.nd rfl (.inl rfl) (pe_call GD hr1 (by rfl) mD kD bD .nil pass0 (pa_cons (pv 0) (pa_cons (pe_ix ix_list (pe_lst (pa_cons pe_int (pa_cons pe_int pa_nil))) (pe_callTy call_int1 (by rfl) mi (by decide +kernel) (pa_cons (pe_cmpR op_gt (pv 1) pe_int (nomark _)) pa_nil)) (fun _ _ => rfl)) pa_nil))))
    (pss_one (ps_ret (pe_callTy call_tuple_of (by rfl) mt (by decide +kernel) (pa_cons (pe_lc (own := [("_law_k", 5)]) (g := gName 5) (tt := tYes) (by rfl) scRow.nd (pi_range1 rfl mr (pa_cons (pv 4) pa_nil))
        (blkOk_by (own := [("_law_k", 5)]) (N := nmRow) (sc := defScope sRow) (by decide +kernel)) (fun _ _ _ _ _ => pg_name (i := 5) scRow.nd rfl (Or.inl rfl)) (fun _ _ _ _ _ => pts_nil)
        (fun _ _ _ _ _ => pe_call Gp hr (by rfl) mP kP bP .nil pass0 (pa_cons (pv 0) (pa_cons (pv 1) (pa_cons (pv 2) (pa_cons (pv 3) pa_nil)))))) pa_nil)))), ?_⟩
  refine ⟨_, rfl, (show 2 ≤ sizeLine by decide), fun l1 nl1 => ?_⟩
  have x1 := (StG.refl hL hS).new (o := .lst [.int 3, .int 4]) nl1
  refine ⟨_, rfl, _, _, rfl, rfl, .inr ⟨_, rfl, ?_⟩⟩
  refine ⟨l1, _, _, _, rfl, rfl, SqL.of upd_same, most_at m, ?_⟩
  obtain ⟨n1, hn1⟩ := x1.2.1
  have h3 := most_le m
  refine ⟨L, n1, _, rfl, hn1, by omega, by omega, fun d n2 d0 d1 => ?_⟩
  have x2 := x1.put n2
  refine ⟨_, rfl, d, rfl, Int.le_trans (by decide) d0, Int.lt_trans d1 (by omega), fun D nD => ?_⟩
  have nH : H D = none := x2.none nD hL hS
  have DL : D ≠ L := Ne.symm (ne_of_none hL nH)
  have DS : D ≠ S := Ne.symm (ne_of_none hS nH)
  refine lc_range (lo := 0) (n := d.toNat) (fun i H' => ∃ (sp' : List Str) (r : List Part) (vs : List V), StG L S H H' sp' ∧ H' D = some (.lst vs) ∧ PartsAt H' r vs ∧ GR m i ss sp sp' r ∧ vs.length = i)
    ⟨sp, [], [], x2.new nD, upd_same, rfl, GR.nil, rfl⟩ (fun i H' hi hP => ?_) fun H' hP => ?_
  · obtain ⟨sp', r, vs, x3, hD, hps, hG, hl⟩ := hP
    obtain ⟨n3, hn3⟩ := x3.2.1
    refine ⟨rfl, yes (iteT ?_)⟩
    refine ⟨_, rfl, _, rfl, _, rfl, _, rfl, L, S, A0, n3, m, ss, sp', ⟨rfl, hn3, x3.2.2, x3.1 _ _ hAL hAS hA, hAL, hAS, hne, hlen, fun z hz => hsh z (by rw [hG.bd]; exact List.mem_append_left _ hz)⟩, by omega, fun H4 v sp2 p x4 hp hg => ?_⟩
    have hD4 := x4.1 _ _ DL DS hD
    have st4 : STup H' H4 := x4.tup hn3 x3.2.2
    have st5 : STup H4 (upd H4 D (.lst (vs ++ [v]))) := STup.lst hD4
    refine ⟨vs, hD4, by rw [hl]; exact small1000 (by omega), sp2, r ++ [p], vs ++ [v], ?_, upd_same, PartsAt.app (PartsAt.one (PartAt.mono st5 p v hp)) (PartsAt.mono (st4.trans st5) r vs hps), hG.snoc hg, by rw [List.length_append, hl]; rfl⟩
    have x5 := x3.trans x4
    obtain ⟨n5, hn5⟩ := x5.2.1
    refine ⟨fun b o nb nc e => ?_, ⟨n5, by rw [upd_ne (Ne.symm DL)]; exact hn5⟩, by rw [upd_ne (Ne.symm DS)]; exact x5.2.2⟩
    rw [upd_ne (ne_of_none e nH)]
    exact x5.1 b o nb nc e
  · obtain ⟨sp', r, vs, x3, hD, hps, hG, hl⟩ := hP
    refine ⟨D, vs, rfl, .inl ⟨SqL.of hD, fun t nt => ?_⟩⟩
    exact q _ _ sp' r (x3.new nt) ⟨t, vs, rfl, upd_same, PartsAt.mono (STup.new nt) r vs hps⟩ (hG.up (by omega))
theorem none_left {f : Addr} {fd : FuncData} {k : Nat} : FnOk P w K mg base CX0 k f fd ps4 (spRow 0) := by
  have no : ∀ vs H Q E, ¬ spRow 0 vs H Q E := fun vs H Q E h => by
    obtain ⟨_, _, _, _, _, _, _, _, h1, _⟩ := h
    omega
  exact ⟨fun vs H Q E h => absurd h (no vs H Q E), fun A outer s H args us vs Q E _ _ _ _ h => absurd h (no vs H Q E)⟩
/-- both, by the room -/
theorem rows_ok {fD fP fR : Addr} {fdD fdP fdR : FuncData} (FP : Fun K "_law_part" "_law_part" sPart fP fdP) (FR : Fun K "_law_row" "_law_row" sRow fR fdR) (GD : FnOk P w K mg base CX0 1 fD fdD ["_law_left_here", "_law_many"] spDigit) (bD : Binds K fdD ["_law_left_here", "_law_many"] []) (kD : PySem.W.keepIn K (.ref fD) = true)
    (mD : mg "_law_digit" = some (.ref fD)) (ml : mg "len" = none) (mi : mg "int" = none) (mt : mg "tuple" = none) (mr : mg "range" = none) (bR : Binds K fdR ps4 []) (mR : mg "_law_row" = some (.ref fR)) (bP : Binds K fdP ps4 []) (mP : mg "_law_part" = some (.ref fP)) :
    ∀ n : Nat, FnOk P w K mg base CX0 (2 * n + 1) fR fdR ps4 (spRow n)
  | 0 => none_left
  | n + 1 => ok_row FR GD bD kD mD mi mt mr (ok_part FP GD bD kD mD ml (rows_ok FP FR GD bD kD mD ml mi mt mr bR mR bP mP n) bR FR.kp mR) bP FP.kp mP
end
end K6

set_option Elab.async false
set_option linter.all false
set_option maxRecDepth 100000
set_option maxHeartbeats 2000000
namespace K6
open PySem PySem.Spec PyProof.Rows L2 Wk
abbrev sBinder : Stmt := topS 8
abbrev sCalled : Stmt := topS 10
abbrev sPCalled : Stmt := topS 11
theorem scBinder : FnScope ["part"] ["part"] (defScope sBinder) := ⟨rfl, rfl, rfl, by decide +kernel, rfl, by decide +kernel, by decide +kernel⟩
theorem scCalled : FnScope ["row", "x", "calling", "part"] ["row", "x", "calling"] (defScope sCalled) := ⟨rfl, rfl, rfl, by decide +kernel, rfl, by decide +kernel, by decide +kernel⟩
theorem scPCalled : FnScope ["part", "x", "calling", "word", "name"] ["part", "x", "calling"] (defScope sPCalled) := ⟨rfl, rfl, rfl, by decide +kernel, rfl, by decide +kernel, by decide +kernel⟩
section
variable {P : Program} {w : World} {K : PySem.W.Frag} {mg : Str → Option Value} {base : Heap}
theorem ok_binder {f aB : Addr} {fd : FuncData} {k : Nat} (F : Fun K "is_binder" "is_binder" sBinder f fd) (mB : mg "BINDING_WORDS" = some (.ref aB)) (hB : ∀ H, SqT K H aB bindV) : FnOk P w K mg base CX0 (k + 1) f fd ["part"] spBinder := by
  refine F.ok scBinder (fun vs H Q E h => ?_) (fun cdv A outer s H vs Q E hr h => ?_)
  · obtain ⟨_, _, rfl, _⟩ := h
    rfl
  obtain ⟨v, p, rfl, hp, q⟩ := h
  refine ⟨_, pss_one (ps_ret (pe_cmpR op_in_seq (pe_ix ix_tup (pv 0) pe_int (fun _ _ => rfl)) (pe_glob (v := .ref aB) (by rfl) mB rfl) rfl)), ?_⟩
  obtain ⟨a, xs, rfl, ha, h0⟩ := hp.word
  refine ⟨_, rfl, a, xs, 0, _, rfl, rfl, SqT.of ha, atI_nat (j := 0) h0, aB, bindV, rfl, .inr (hB _), rfl, rfl, ?_⟩
  have e : inV (.str (wordP p)) bindV = bindsP p := inV_binds p
  show Q (.bl (inV (.str (wordP p)) bindV)) H
  rw [e]
  exact q
abbrev ps3 : List Str := ["row", "x", "calling"]
abbrev ps3p : List Str := ["part", "x", "calling"]
theorem ok_pcalled {f fB fC : Addr} {fd fdB fdC : FuncData} {n : Nat} (F : Fun K "part_called" "part_called" sPCalled f fd) (GB : FnOk P w K mg base CX0 1 fB fdB ["part"] spBinder) (bB : Binds K fdB ["part"] []) (kB : PySem.W.keepIn K (.ref fB) = true) (mB : mg "is_binder" = some (.ref fB))
    (GC : FnOk P w K mg base CX0 (2 * n + 1) fC fdC ps3 (spCalled n)) (bC : Binds K fdC ps3 []) (kC : PySem.W.keepIn K (.ref fC) = true) (mC : mg "called" = some (.ref fC)) : FnOk P w K mg base CX0 (2 * n + 1 + 1) f fd ps3p (spPCalled n) := by
  refine F.ok scPCalled (fun vs H Q E h => ?_) (fun cdv A outer s H vs Q E hr h => ?_)
  · obtain ⟨_, _, _, _, rfl, _⟩ := h
    rfl
  obtain ⟨v, x, c, p, rfl, hp, hd, q⟩ := h
  have hr1 : Room 1 _ := hr.mono (by omega)
  refine ⟨_, pss_cons (ps_set (i := 3) scPCalled.nd rfl (.inl rfl) (pe_ix ix_tup (pv 0) pe_int (fun _ _ => rfl)))
    (pss_cons (ps_if (pt_cmpR op_eq (pv 3) pe_str (nomark _)) (pss_one (ps_ret (pe_tup (pa_cons (pv 3) (pa_cons (pe_call GC hr (by rfl) mC kC bC .nil pass0 (pa_cons (pe_ix ix_tup (pv 0) pe_int (fun _ _ => rfl)) (pa_cons (pv 1) (pa_cons (pv 2) pa_nil)))) pa_nil))))) pss_nil)
    (pss_cons (ps_if (PW.pt (pw_and (pt_val (pe_call GB hr1 (by rfl) mB kB bB .nil pass0 (pa_cons (pv 0) pa_nil))) (pw_and1 (pt_cmpR op_eq (pe_ix ix_tup (pv 0) pe_int (fun _ _ => rfl)) (pv 1) (nomark _))))) (pss_one (ps_ret (pv 0))) pss_nil)
    (pss_cons (ps_set (i := 4) scPCalled.nd rfl (.inl rfl) (pe_ifExp (pt_cmpR op_eq (pe_ix ix_tup (pv 0) pe_int (fun _ _ => rfl)) (pv 1) (nomark _)) (pv 2) (pe_ix ix_tup (pv 0) pe_int (fun _ _ => rfl))))
    (pss_cons (ps_if (pt_cmpR op_eq (pv 3) pe_str (nomark _)) (pss_one (ps_ret (pe_tup (pa_cons (pv 3) (pa_cons (pv 4) pa_nil))))) pss_nil)
    (pss_one (ps_ret (pe_tup (pa_cons (pv 3) (pa_cons (pv 4) (pa_cons (pe_call GC hr (by rfl) mC kC bC .nil pass0 (pa_cons (pe_ix ix_tup (pv 0) pe_int (fun _ _ => rfl)) (pa_cons (pv 1) (pa_cons (pv 2) pa_nil)))) pa_nil))))))))))
    , ?_⟩
  cases p with
  | say n =>
    obtain ⟨a, rfl, ha⟩ := hp
    refine ⟨_, rfl, a, _, 0, _, rfl, rfl, SqT.of ha, atI_nat (j := 0) rfl, ?_⟩
    refine ⟨_, rfl, rfl, _, rfl, iteD say_again ?_⟩
    refine ⟨_, rfl, _, .say n, rfl, ⟨a, rfl, ha⟩, _, rfl, iteF ?_⟩
    refine ⟨_, rfl, a, _, 1, _, rfl, rfl, SqT.of ha, atI_nat (j := 1) rfl, _, rfl, rfl, _, rfl, ite2 (fun e => ?_) (fun e => ?_)⟩
    · refine ⟨_, rfl, ?_⟩
      refine ⟨_, rfl, rfl, _, rfl, iteT ?_⟩
      refine ⟨_, rfl, _, rfl, (show 2 ≤ sizeLine by decide), fun t nt => q _ _ (same_new nt) ?_⟩
      unfold calledP
      rw [if_pos (str_eq e)]
      exact ⟨t, rfl, upd_same⟩
    · refine ⟨_, rfl, a, _, 1, _, rfl, rfl, SqT.of ha, atI_nat (j := 1) rfl, ?_⟩
      refine ⟨_, rfl, rfl, _, rfl, iteT ?_⟩
      refine ⟨_, rfl, _, rfl, (show 2 ≤ sizeLine by decide), fun t nt => q _ _ (same_new nt) ?_⟩
      unfold calledP
      rw [if_neg (str_ne e)]
      exact ⟨t, rfl, upd_same⟩
  | again r =>
    obtain ⟨a, b, xs, rfl, ha, hb, hps⟩ := hp
    refine ⟨_, rfl, a, _, 0, _, rfl, rfl, SqT.of ha, atI_nat (j := 0) rfl, ?_⟩
    refine ⟨_, rfl, rfl, _, rfl, iteT ?_⟩
    have hd1 : deepR r + 1 ≤ n := hd.1
    have hs1 : sizeR r + 1 ≤ 1000 := hd.2
    refine ⟨_, rfl, _, rfl, a, _, 1, _, rfl, rfl, SqT.of ha, atI_nat (j := 1) rfl, _, rfl, _, rfl, .ref b, x, c, r, rfl, ⟨b, xs, rfl, hb, hps⟩, by omega, by have := len_sizeR r; omega, by omega, fun H' u sm hu => ?_⟩
    obtain ⟨b', ys, rfl, hb', hps'⟩ := hu
    refine ⟨(show 2 ≤ sizeLine by decide), fun t nt => q _ _ (sm.trans (same_new nt)) ?_⟩
    exact ⟨t, b', ys, rfl, upd_same, kn hb' nt, PartsAt.mono (STup.new nt) _ _ hps'⟩
  | oth w n r =>
    obtain ⟨a, b, xs, rfl, ha, hb, hps⟩ := hp
    have hd1 : deepR r + 1 ≤ _ := hd.1
    have hs1 : sizeR r + 1 ≤ 1000 := hd.2
    refine ⟨_, rfl, a, _, 0, _, rfl, rfl, SqT.of ha, atI_nat (j := 0) rfl, ?_⟩
    refine ⟨_, rfl, rfl, _, rfl, iteD (wd_again w) ?_⟩
    -- the rest, where the part does not bind x
    have go : ¬ (w.binds = true ∧ n = x) → ∀ (nm : Str), nm = (if n = x then c else n) → ∀ (H' : Hp) (u : V), Same H H' → RowAt H' (calledR x c r) u → ∀ t, H' t = none → Q (.ref t) (upd H' t (.tup [.str w.str, .str nm, u])) := by
      intro hb2 nm e H' u sm hu t nt
      obtain ⟨b', ys, rfl, hb', hps'⟩ := hu
      refine q _ _ (sm.trans (same_new nt)) ?_
      unfold calledP
      rw [if_neg hb2, ← e]
      exact ⟨t, b', ys, rfl, upd_same, kn hb' nt, PartsAt.mono (STup.new nt) _ _ hps'⟩
    refine ⟨_, rfl, _, .oth w n r, rfl, ⟨a, b, xs, rfl, ha, hb, hps⟩, _, rfl, ite2 (fun hw => ?_) (fun hw => ?_)⟩
    · refine ⟨_, rfl, a, _, 1, _, rfl, rfl, SqT.of ha, atI_nat (j := 1) rfl, _, rfl, rfl, _, rfl, ite2 (fun e => ?_) (fun e => ?_)⟩
      · refine ⟨_, rfl, q _ _ (Same.refl H) ?_⟩
        unfold calledP
        rw [if_pos ⟨hw, str_eq e⟩]
        exact ⟨a, b, xs, rfl, ha, hb, hps⟩
      · refine ⟨_, rfl, a, _, 1, _, rfl, rfl, SqT.of ha, atI_nat (j := 1) rfl, _, rfl, rfl, _, rfl, iteD (Bool.eq_false_iff.mpr e) ?_⟩
        refine ⟨_, rfl, a, _, 1, _, rfl, rfl, SqT.of ha, atI_nat (j := 1) rfl, ?_⟩
        refine ⟨_, rfl, rfl, _, rfl, iteD (wd_say w) ?_⟩
        refine ⟨_, rfl, _, rfl, _, rfl, a, _, 2, _, rfl, rfl, SqT.of ha, atI_nat (j := 2) rfl, _, rfl, _, rfl, .ref b, x, c, r, rfl, ⟨b, xs, rfl, hb, hps⟩, by omega, by have := len_sizeR r; omega, by omega, fun H' u sm hu => ?_⟩
        exact ⟨(show 3 ≤ sizeLine by decide), fun t nt => go (fun z => str_ne e z.2) _ (by rw [if_neg (str_ne e)]) H' u sm hu t nt⟩
    · have hb2 : ¬ (w.binds = true ∧ n = x) := fun z => hw z.1
      refine iteF ?_
      refine ⟨_, rfl, a, _, 1, _, rfl, rfl, SqT.of ha, atI_nat (j := 1) rfl, _, rfl, rfl, _, rfl, ite2 (fun e => ?_) (fun e => ?_)⟩
      · refine ⟨_, rfl, ?_⟩
        refine ⟨_, rfl, rfl, _, rfl, iteD (wd_say w) ?_⟩
        refine ⟨_, rfl, _, rfl, _, rfl, a, _, 2, _, rfl, rfl, SqT.of ha, atI_nat (j := 2) rfl, _, rfl, _, rfl, .ref b, x, c, r, rfl, ⟨b, xs, rfl, hb, hps⟩, by omega, by have := len_sizeR r; omega, by omega, fun H' u sm hu => ?_⟩
        exact ⟨(show 3 ≤ sizeLine by decide), fun t nt => go hb2 _ (by rw [if_pos (str_eq e)]) H' u sm hu t nt⟩
      · refine ⟨_, rfl, a, _, 1, _, rfl, rfl, SqT.of ha, atI_nat (j := 1) rfl, ?_⟩
        refine ⟨_, rfl, rfl, _, rfl, iteD (wd_say w) ?_⟩
        refine ⟨_, rfl, _, rfl, _, rfl, a, _, 2, _, rfl, rfl, SqT.of ha, atI_nat (j := 2) rfl, _, rfl, _, rfl, .ref b, x, c, r, rfl, ⟨b, xs, rfl, hb, hps⟩, by omega, by have := len_sizeR r; omega, by omega, fun H' u sm hu => ?_⟩
        exact ⟨(show 3 ≤ sizeLine by decide), fun t nt => go hb2 _ (by rw [if_neg (str_ne e)]) H' u sm hu t nt⟩
theorem ok_called {f fP : Addr} {fd fdP : FuncData} {n : Nat} (F : Fun K "called" "called" sCalled f fd) (mt : mg "tuple" = none)
    (GP : FnOk P w K mg base CX0 (2 * n + 2) fP fdP ps3p (spPCalled n)) (bP : Binds K fdP ps3p []) (kP : PySem.W.keepIn K (.ref fP) = true) (mP : mg "part_called" = some (.ref fP)) : FnOk P w K mg base CX0 (2 * n + 2 + 1) f fd ps3 (spCalled (n + 1)) := by
  refine F.ok scCalled (fun vs H Q E h => ?_) (fun cdv A outer s H vs Q E hr h => ?_)
  · obtain ⟨_, _, _, _, rfl, _⟩ := h
    rfl
  obtain ⟨v, x, c, r, rfl, hR, hd, hl, hs, q⟩ := h
  refine ⟨_, pss_one (ps_ret (pe_callTy call_tuple_of (by rfl) mt (by decide +kernel) (pa_cons (pe_lc (own := [("part", 3)]) (g := gName 3) (tt := tYes) (by rfl) scCalled.nd (pi_tup (pv 0))
        (blkOk_by (own := [("part", 3)]) (N := ["row", "x", "calling", "part"]) (sc := defScope sCalled) (by decide +kernel)) (fun _ _ _ _ _ => pg_name (i := 3) scCalled.nd rfl (Or.inl rfl)) (fun _ _ _ _ _ => pts_nil)
        (fun _ _ _ _ _ => pe_call GP hr (by rfl) mP kP bP .nil pass0 (pa_cons (pv 3) (pa_cons (pv 1) (pa_cons (pv 2) pa_nil))))) pa_nil))), ?_⟩
  obtain ⟨a, xs, rfl, ha, hps⟩ := hR
  have lx := PartsAt.len hps
  refine ⟨_, rfl, a, rfl, ⟨_, SqT.of ha⟩, fun D nD => ?_⟩
  refine lc_it (walk_tup (xs := xs)) (fun i H' => Same H H' ∧ ∃ vs : List V, H' D = some (.lst vs) ∧ PartsAt H' (calledR x c (r.take i)) vs ∧ vs.length = i) ⟨same_new nD, [], upd_same, rfl, rfl⟩ (fun i H' _ hP => SqT.of (hP.1 _ _ ha)) (fun i y H1 H2 hi hP hY => ?_) (fun H' hP => ?_)
  · obtain ⟨rfl, hy⟩ := hY
    obtain ⟨sm, vs, hD, hvs, hlv⟩ := hP
    obtain ⟨p, hp, hpa⟩ := PartsAt.get hps hy
    have pm : p ∈ r := List.mem_of_getElem? hp
    have d1 := deepR.mem p pm
    have s1 := sizeR.mem p pm
    refine ⟨rfl, yes (iteT ?_)⟩
    refine ⟨_, rfl, _, rfl, _, rfl, y, x, c, p, rfl, PartAt.mono (STup.of sm) p y hpa, ⟨by omega, by omega⟩, fun H3 u sm3 hu => ?_⟩
    have hD3 := sm3 _ _ hD
    have st4 : STup H3 (upd H3 D (.lst (vs ++ [u]))) := STup.lst hD3
    refine ⟨vs, hD3, by rw [hlv]; exact small1000 (by omega), fun b o e => ?_, vs ++ [u], upd_same, ?_, by rw [List.length_append, hlv]; rfl⟩
    · rw [upd_ne (ne_of_none e nD)]
      exact sm3 _ _ (sm _ _ e)
    · rw [calledR_map, List.take_add_one, hp, List.map_append, ← calledR_map]
      exact PartsAt.app (PartsAt.one (PartAt.mono st4 _ _ hu)) (PartsAt.mono ((STup.of sm3).trans st4) _ _ hvs)
  · obtain ⟨sm, vs, hD, hvs, hlv⟩ := hP
    rw [lx, List.take_length] at hvs
    refine ⟨D, vs, rfl, .inl ⟨SqL.of hD, fun t nt => q _ _ (sm.trans (same_new nt)) ⟨t, vs, rfl, upd_same, PartsAt.mono (STup.new nt) _ _ hvs⟩⟩⟩
theorem called_none {f : Addr} {fd : FuncData} {k : Nat} : FnOk P w K mg base CX0 k f fd ps3 (spCalled 0) := by
  have no : ∀ vs H Q E, ¬ spCalled 0 vs H Q E := fun vs H Q E h => by
    obtain ⟨_, _, _, _, _, _, h1, _⟩ := h
    omega
  exact ⟨fun vs H Q E h => absurd h (no vs H Q E), fun A outer s H args us vs Q E _ _ _ _ h => absurd h (no vs H Q E)⟩
theorem called_ok {fB fP fC : Addr} {fdB fdP fdC : FuncData} (FP : Fun K "part_called" "part_called" sPCalled fP fdP) (FC : Fun K "called" "called" sCalled fC fdC) (GB : FnOk P w K mg base CX0 1 fB fdB ["part"] spBinder) (bB : Binds K fdB ["part"] []) (kB : PySem.W.keepIn K (.ref fB) = true) (mB : mg "is_binder" = some (.ref fB))
    (mt : mg "tuple" = none) (bC : Binds K fdC ps3 []) (mC : mg "called" = some (.ref fC)) (bP : Binds K fdP ps3p []) (mP : mg "part_called" = some (.ref fP)) :
    ∀ n : Nat, FnOk P w K mg base CX0 (2 * n + 1) fC fdC ps3 (spCalled n)
  | 0 => called_none
  | n + 1 => ok_called FC mt (ok_pcalled FP GB bB kB mB (called_ok FP FC GB bB kB mB mt bC mC bP mP n) bC FC.kp mC) bP FP.kp mP
end
end K6

set_option Elab.async false
set_option linter.all false
set_option maxRecDepth 100000
set_option maxHeartbeats 4000000
namespace K6
open PySem PySem.Spec PyProof.Rows L2 Wk
abbrev sShown : Stmt := topS 1
abbrev sParts : Stmt := topS 2
abbrev sPartS : Stmt := topS 3
abbrev sWait : Stmt := topS 4
abbrev sGroup : Stmt := topS 5
theorem scShown : FnScope ["row"] ["row"] (defScope sShown) := ⟨rfl, rfl, rfl, by decide +kernel, rfl, by decide +kernel, by decide +kernel⟩
theorem scParts : FnScope ["row", "part"] ["row"] (defScope sParts) := ⟨rfl, rfl, rfl, by decide +kernel, rfl, by decide +kernel, by decide +kernel⟩
theorem scPartS : FnScope ["part", "word"] ["part"] (defScope sPartS) := ⟨rfl, rfl, rfl, by decide +kernel, rfl, by decide +kernel, by decide +kernel⟩
theorem scWait : FnScope ["rest"] ["rest"] (defScope sWait) := ⟨rfl, rfl, rfl, by decide +kernel, rfl, by decide +kernel, by decide +kernel⟩
theorem scGroup : FnScope ["rest"] ["rest"] (defScope sGroup) := ⟨rfl, rfl, rfl, by decide +kernel, rfl, by decide +kernel, by decide +kernel⟩
section
variable {P : Program} {w : World} {K : PySem.W.Frag} {mg : Str → Option Value} {base : Heap}
theorem ok_parts {f fP : Addr} {fd fdP : FuncData} {n k : Nat} (F : Fun K "parts_shown" "parts_shown" sParts f fd)
    (GP : FnOk P w K mg base CX0 k fP fdP ["part"] (spTP n)) (bP : Binds K fdP ["part"] []) (kP : PySem.W.keepIn K (.ref fP) = true) (mP : mg "part_shown" = some (.ref fP)) : FnOk P w K mg base CX0 (k + 1) f fd ["row"] (spT jn (n + 1)) := by
  refine F.ok scParts (fun vs H Q E h => ?_) (fun cdv A outer s H vs Q E hr h => ?_)
  · obtain ⟨_, _, rfl, _⟩ := h
    rfl
  obtain ⟨v, r, rfl, hR, hd, hs, hok, q⟩ := h
  refine ⟨_, pss_one (ps_ret (pe_join pe_str (pe_lc (own := [("part", 1)]) (g := gName 1) (tt := tYes) (by rfl) scParts.nd (pi_tup (pv 0))
        (blkOk_by (own := [("part", 1)]) (N := ["row", "part"]) (sc := defScope sParts) (by decide +kernel)) (fun _ _ _ _ _ => pg_name (i := 1) scParts.nd rfl (Or.inl rfl)) (fun _ _ _ _ _ => pts_nil)
        (fun _ _ _ _ _ => pe_call GP hr (by rfl) mP kP bP .nil pass0 (pa_cons (pv 1) pa_nil))))), ?_⟩
  obtain ⟨a, xs, rfl, ha, hps⟩ := hR
  have lx := PartsAt.len hps
  have lr := len_sizeR r
  refine ⟨⟨_, rfl⟩, _, rfl, a, rfl, ⟨_, SqT.of ha⟩, fun D nD => ?_⟩
  refine lc_it (walk_tup (xs := xs)) (fun i H' => Same H H' ∧ H' D = some (.lst ((txL (r.take i)).map V.str))) ⟨same_new nD, upd_same⟩ (fun i H' _ hP => SqT.of (hP.1 _ _ ha)) (fun i y H1 H2 hi hP hY => ?_) (fun H' hP => ?_)
  · obtain ⟨rfl, hy⟩ := hY
    obtain ⟨sm, hD⟩ := hP
    obtain ⟨p, hp, hpa⟩ := PartsAt.get hps hy
    have pm : p ∈ r := List.mem_of_getElem? hp
    have d1 := deepR.mem p pm
    have s1 := sizeR.mem p pm
    refine ⟨rfl, yes (iteT ?_)⟩
    refine ⟨_, rfl, y, p, rfl, PartAt.mono (STup.of sm) p y hpa, by omega, by omega, hok.mem p pm, fun H3 sm3 => ?_⟩
    refine ⟨_, sm3 _ _ hD, ?_, fun b o e => ?_, ?_⟩
    · rw [List.length_map, txL_len, List.length_take]
      exact small1000 (by omega)
    · rw [upd_ne (ne_of_none e nD)]
      exact sm3 _ _ (sm _ _ e)
    · rw [upd_same, txL_map, txL_map, List.take_add_one, hp, List.map_append, List.map_append]
      rfl
  · obtain ⟨sm, hD⟩ := hP
    rw [lx, List.take_length] at hD
    refine ⟨_, D, txL r, rfl, rfl, .inl (SqL.of hD), ?_, q _ sm⟩
    have h2 := txL_sum2 r hok
    have e : (" | " : Str).length = 3 := by decide +kernel
    rw [e]
    omega
theorem bigS {n : Nat} (h : n ≤ 100000) : n ≤ sizeLine := Nat.le_trans h (by decide)
theorem ok_shown {f fP : Addr} {fd fdP : FuncData} {n k : Nat} (F : Fun K "shown" "shown" sShown f fd)
    (GP : FnOk P w K mg base CX0 k fP fdP ["row"] (spT jn n)) (bP : Binds K fdP ["row"] []) (kP : PySem.W.keepIn K (.ref fP) = true) (mP : mg "parts_shown" = some (.ref fP)) : FnOk P w K mg base CX0 (k + 1) f fd ["row"] (spT shT n) := by
  refine F.ok scShown (fun vs H Q E h => ?_) (fun cdv A outer s H vs Q E hr h => ?_)
  · obtain ⟨_, _, rfl, _⟩ := h
    rfl
  obtain ⟨v, r, rfl, hR, hd, hs, hok, q⟩ := h
  refine ⟨_, pss_one (ps_ret (pe_ifExp (pt_truth (pv 0) (by intro _; rfl)) (pe_call GP hr (by rfl) mP kP bP .nil pass0 (pa_cons (pv 0) pa_nil)) pe_str)), ?_⟩
  have hR2 := hR
  obtain ⟨a, xs, rfl, ha, hps⟩ := hR2
  have lx := PartsAt.len hps
  refine ⟨_, rfl, _, .inr (.inl ⟨xs, SqT.of ha, rfl⟩), ?_⟩
  cases r with
  | nil =>
    have e : xs = [] := hps
    rw [e]
    exact iteF (q H (Same.refl H))
  | cons p r =>
    obtain ⟨u, us, rfl, _⟩ := hps
    refine iteT ⟨_, rfl, _, p :: r, rfl, hR, hd, hs, hok, fun H' sm => ?_⟩
    exact q H' sm
theorem ok_group {f fP fS : Addr} {fd fdP fdS : FuncData} {n k : Nat} (F : Fun K "grouped" "grouped" sGroup f fd) (ml : mg "len" = none)
    (GP : FnOk P w K mg base CX0 k fP fdP ["row"] (spT jn n)) (bP : Binds K fdP ["row"] []) (kP : PySem.W.keepIn K (.ref fP) = true) (mP : mg "parts_shown" = some (.ref fP))
    (GS : FnOk P w K mg base CX0 (k + 1) fS fdS ["row"] (spT shT n)) (bS : Binds K fdS ["row"] []) (kS : PySem.W.keepIn K (.ref fS) = true) (mS : mg "shown" = some (.ref fS)) : FnOk P w K mg base CX0 (k + 1 + 1) f fd ["rest"] (spT grT n) := by
  refine F.ok scGroup (fun vs H Q E h => ?_) (fun cdv A outer s H vs Q E hr h => ?_)
  · obtain ⟨_, _, rfl, _⟩ := h
    rfl
  obtain ⟨v, r, rfl, hR, hd, hs, hok, q⟩ := h
  refine ⟨_, pss_one (ps_ret (pe_ifExp (pt_cmpR op_gt (pe_callB call_len_seq (by rfl) ml PySem.boot_len (pa_cons (pv 0) pa_nil)) pe_int (nomark _))
    (pe_joined (.cons pe_str (.cons (pe_fmt (pe_call GP (hr.mono (by omega)) (by rfl) mP kP bP .nil pass0 (pa_cons (pv 0) pa_nil))) (.cons pe_str .nil))))
    (pe_call GS hr (by rfl) mS kS bS .nil pass0 (pa_cons (pv 0) pa_nil)))), ?_⟩
  have hR2 := hR
  obtain ⟨a, xs, rfl, ha, hps⟩ := hR2
  have lx := PartsAt.len hps
  have lj := txL_sum r hok
  obtain ⟨h1, h2, h3, h4, h5, h6, h7, h8, h9, h10, h11, h12, h13, h14, h15⟩ := len1
  refine ⟨_, rfl, a, _, rfl, .inr (SqT.of ha), _, _, rfl, rfl, _, rfl, ite2 (fun e => ?_) (fun e => ?_)⟩
  · have e' : 1 < (txL r).length := by
      rw [txL_len, ← lx]
      have := of_decide_eq_true e
      omega
    refine ⟨_, rfl, bigS (by rw [emp]; omega), _, rfl, _, r, rfl, hR, hd, hs, hok, fun H' sm => ?_⟩
    refine .inl ⟨_, rfl, bigS (by omega), _, rfl, bigS (by rw [emp, app_len]; omega), _, rfl, bigS (by rw [emp, app_len, app_len]; omega), ?_⟩
    rw [emp]
    have q1 := q H' sm
    unfold grT at q1
    rw [if_pos e'] at q1
    exact q1
  · have e' : ¬ 1 < (txL r).length := fun z => by
      rw [txL_len, ← lx] at z
      exact e (decide_eq_true (by omega))
    refine ⟨_, rfl, _, r, rfl, hR, hd, hs, hok, fun H' sm => ?_⟩
    have q1 := q H' sm
    unfold grT at q1
    rw [if_neg e'] at q1
    exact q1
theorem ok_wait {f fG : Addr} {fd fdG : FuncData} {n k : Nat} (F : Fun K "waiting_shown" "waiting_shown" sWait f fd)
    (GG : FnOk P w K mg base CX0 k fG fdG ["rest"] (spT grT n)) (bG : Binds K fdG ["rest"] []) (kG : PySem.W.keepIn K (.ref fG) = true) (mG : mg "grouped" = some (.ref fG)) : FnOk P w K mg base CX0 (k + 1) f fd ["rest"] (spT wtT n) := by
  refine F.ok scWait (fun vs H Q E h => ?_) (fun cdv A outer s H vs Q E hr h => ?_)
  · obtain ⟨_, _, rfl, _⟩ := h
    rfl
  obtain ⟨v, r, rfl, hR, hd, hs, hok, q⟩ := h
  refine ⟨_, pss_one (ps_ret (pe_ifExp (pt_truth (pv 0) (by intro _; rfl)) (pe_joined (.cons pe_str (.cons (pe_fmt (pe_call GG hr (by rfl) mG kG bG .nil pass0 (pa_cons (pv 0) pa_nil))) .nil))) pe_str)), ?_⟩
  have hR2 := hR
  obtain ⟨a, xs, rfl, ha, hps⟩ := hR2
  have lj := txL_sum r hok
  have lg := grT_len (txL r)
  obtain ⟨h1, h2, h3, h4, h5, h6, h7, h8, h9, h10, h11, h12, h13, h14, h15⟩ := len1
  refine ⟨_, rfl, _, .inr (.inl ⟨xs, SqT.of ha, rfl⟩), ?_⟩
  cases r with
  | nil =>
    have e : xs = [] := hps
    rw [e]
    exact iteF (q H (Same.refl H))
  | cons p r =>
    obtain ⟨u, us, rfl, _⟩ := hps
    refine iteT ⟨_, rfl, bigS (by rw [emp]; omega), _, rfl, _, p :: r, rfl, hR, hd, hs, hok, fun H' sm => ?_⟩
    refine .inl ⟨_, rfl, bigS (by omega), _, rfl, bigS (by rw [emp, app_len]; omega), ?_⟩
    rw [emp]
    exact q H' sm
theorem ok_partS {f fP fW fG : Addr} {fd fdP fdW fdG : FuncData} {n k : Nat} (F : Fun K "part_shown" "part_shown" sPartS f fd)
    (GP : FnOk P w K mg base CX0 k fP fdP ["row"] (spT jn n)) (bP : Binds K fdP ["row"] []) (kP : PySem.W.keepIn K (.ref fP) = true) (mP : mg "parts_shown" = some (.ref fP))
    (GG : FnOk P w K mg base CX0 (k + 2) fG fdG ["rest"] (spT grT n)) (bG : Binds K fdG ["rest"] []) (kG : PySem.W.keepIn K (.ref fG) = true) (mG : mg "grouped" = some (.ref fG))
    (GW : FnOk P w K mg base CX0 (k + 3) fW fdW ["rest"] (spT wtT n)) (bW : Binds K fdW ["rest"] []) (kW : PySem.W.keepIn K (.ref fW) = true) (mW : mg "waiting_shown" = some (.ref fW)) : FnOk P w K mg base CX0 (k + 3 + 1) f fd ["part"] (spTP n) := by
  refine F.ok scPartS (fun vs H Q E h => ?_) (fun cdv A outer s H vs Q E hr h => ?_)
  · obtain ⟨_, _, rfl, _⟩ := h
    rfl
  obtain ⟨v, p, rfl, hpa, hd, hs, hok, q⟩ := h
  refine ⟨_, pss_cons (ps_set (i := 1) scPartS.nd rfl (.inl rfl) (pe_ix ix_tup (pv 0) pe_int (fun _ _ => rfl)))
    (pss_cons (ps_if (pt_cmpR op_eq (pv 1) pe_str (nomark _)) (pss_one (ps_ret (pe_joined (.cons (pe_fmt (pe_ix ix_tup (pv 0) pe_int (fun _ _ => rfl))) (.cons pe_str (.cons (pe_fmt (pe_call GP (hr.mono (by omega)) (by rfl) mP kP bP .nil pass0 (pa_cons (pe_ix ix_tup (pv 0) pe_int (fun _ _ => rfl)) pa_nil))) (.cons pe_str .nil))))))) pss_nil)
    (pss_cons (ps_if (pt_cmpR op_eq (pv 1) pe_str (nomark _)) (pss_one (ps_ret (pe_joined (.cons pe_str (.cons (pe_fmt (pe_ix ix_tup (pv 0) pe_int (fun _ _ => rfl))) (.cons pe_str .nil)))))) pss_nil)
    (pss_cons (ps_if (pt_cmpR op_eq (pv 1) pe_str (nomark _)) (pss_one (ps_ret (pe_joined (.cons pe_str (.cons (pe_fmt (pe_ix ix_tup (pv 0) pe_int (fun _ _ => rfl))) (.cons pe_str (.cons (pe_fmt (pe_call GW hr (by rfl) mW kW bW .nil pass0 (pa_cons (pe_ix ix_tup (pv 0) pe_int (fun _ _ => rfl)) pa_nil))) .nil))))))) pss_nil)
    (pss_cons (ps_if (pt_cmpR op_eq (pv 1) pe_str (nomark _)) (pss_one (ps_ret (pe_joined (.cons pe_str (.cons (pe_fmt (pe_ix ix_tup (pv 0) pe_int (fun _ _ => rfl))) (.cons pe_str (.cons (pe_fmt (pe_call GG (hr.mono (by omega)) (by rfl) mG kG bG .nil pass0 (pa_cons (pe_ix ix_tup (pv 0) pe_int (fun _ _ => rfl)) pa_nil))) .nil))))))) pss_nil)
    (pss_cons (ps_if (pt_cmpR op_eq (pv 1) pe_str (nomark _)) (pss_one (ps_ret (pe_joined (.cons pe_str (.cons (pe_fmt (pe_call GG (hr.mono (by omega)) (by rfl) mG kG bG .nil pass0 (pa_cons (pe_ix ix_tup (pv 0) pe_int (fun _ _ => rfl)) pa_nil))) .nil))))) pss_nil)
    (pss_one (ps_ret (pe_joined (.cons (pe_fmt (pv 1)) (.cons pe_str (.cons (pe_fmt (pe_ix ix_tup (pv 0) pe_int (fun _ _ => rfl))) (.cons (pe_fmt (pe_call GW hr (by rfl) mW kW bW .nil pass0 (pa_cons (pe_ix ix_tup (pv 0) pe_int (fun _ _ => rfl)) pa_nil))) .nil)))))))))))), ?_⟩
  obtain ⟨h1, h2, h3, h4, h5, h6, h7, h8, h9, h10, h11, h12, h13, h14, h15⟩ := len1
  cases p with
  | say m =>
    obtain ⟨a, rfl, ha⟩ := hpa
    have lm : m.length ≤ 30 := (show Sh 30 m from hok).len
    refine ⟨_, rfl, a, _, 0, _, rfl, rfl, SqT.of ha, atI_nat (j := 0) rfl, ?_⟩
    refine ⟨_, rfl, rfl, _, rfl, iteD (by decide +kernel) ?_⟩
    refine ⟨_, rfl, rfl, _, rfl, iteU (by decide +kernel) ?_⟩
    refine ⟨_, rfl, bigS (by rw [emp]; omega), _, rfl, a, _, 1, _, rfl, rfl, SqT.of ha, atI_nat (j := 1) rfl, ?_⟩
    refine .inl ⟨_, rfl, bigS (by omega), _, rfl, bigS (by rw [emp, app_len]; omega), _, rfl, bigS (by rw [emp, app_len, app_len]; omega), ?_⟩
    rw [emp]
    exact q H (Same.refl H)
  | again r =>
    obtain ⟨a, b, xs, rfl, ha, hb, hps⟩ := hpa
    have hd1 : deepR r + 1 ≤ n := hd
    have hs1 : sizeR r + 1 ≤ 1000 := hs
    have lj := txL_sum r hok
    have lg := grT_len (txL r)
    refine ⟨_, rfl, a, _, 0, _, rfl, rfl, SqT.of ha, atI_nat (j := 0) rfl, ?_⟩
    refine ⟨_, rfl, rfl, _, rfl, iteD (by decide +kernel) ?_⟩
    refine ⟨_, rfl, rfl, _, rfl, iteD (by decide +kernel) ?_⟩
    refine ⟨_, rfl, rfl, _, rfl, iteD (by decide +kernel) ?_⟩
    refine ⟨_, rfl, rfl, _, rfl, iteD (by decide +kernel) ?_⟩
    refine ⟨_, rfl, rfl, _, rfl, iteU (by decide +kernel) ?_⟩
    refine ⟨_, rfl, bigS (by rw [emp]; omega), _, rfl, a, _, 1, _, rfl, rfl, SqT.of ha, atI_nat (j := 1) rfl, _, r, rfl, ⟨b, xs, rfl, hb, hps⟩, by omega, by omega, hok, fun H' sm => ?_⟩
    refine .inl ⟨_, rfl, bigS (by omega), _, rfl, bigS (by rw [emp, app_len]; omega), ?_⟩
    rw [emp]
    exact q H' sm
  | oth w m r =>
    obtain ⟨a, b, xs, rfl, ha, hb, hps⟩ := hpa
    have lm : m.length ≤ 30 := (show Sh 30 m from hok.1).len
    have hd1 : deepR r + 1 ≤ n := hd
    have hs1 : sizeR r + 1 ≤ 1000 := hs
    have lj := txL_sum r hok.2
    have lg := grT_len (txL r)
    have lw := wtT_len (txL r)
    have hR : RowAt H r (.ref b) := ⟨b, xs, rfl, hb, hps⟩
    refine ⟨_, rfl, a, _, 0, _, rfl, rfl, SqT.of ha, atI_nat (j := 0) rfl, ?_⟩
    cases w with
    | room =>
      refine ⟨_, rfl, rfl, _, rfl, iteU (by decide +kernel) ?_⟩
      refine ⟨_, rfl, a, _, 1, _, rfl, rfl, SqT.of ha, atI_nat (j := 1) rfl, .inl ⟨_, rfl, bigS (by omega), _, rfl, bigS (by rw [emp]; omega), _, rfl, bigS (by rw [emp, app_len]; omega), ?_⟩⟩
      refine ⟨_, rfl, a, _, 2, _, rfl, rfl, SqT.of ha, atI_nat (j := 2) rfl, _, r, rfl, hR, by omega, by omega, hok.2, fun H' sm => ?_⟩
      refine .inl ⟨_, rfl, bigS (by omega), _, rfl, bigS (by rw [emp, app_len, app_len]; omega), _, rfl, bigS (by rw [emp, app_len, app_len, app_len]; omega), ?_⟩
      rw [emp]
      exact q H' sm
    | hear =>
      refine ⟨_, rfl, rfl, _, rfl, iteD (by decide +kernel) ?_⟩
      refine ⟨_, rfl, rfl, _, rfl, iteD (by decide +kernel) ?_⟩
      refine ⟨_, rfl, rfl, _, rfl, iteU (by decide +kernel) ?_⟩
      refine ⟨_, rfl, bigS (by rw [emp]; omega), _, rfl, a, _, 1, _, rfl, rfl, SqT.of ha, atI_nat (j := 1) rfl, .inl ⟨_, rfl, bigS (by omega), _, rfl, bigS (by rw [emp, app_len]; omega), _, rfl, bigS (by rw [emp, app_len, app_len]; omega), ?_⟩⟩
      refine ⟨_, rfl, a, _, 2, _, rfl, rfl, SqT.of ha, atI_nat (j := 2) rfl, _, r, rfl, hR, by omega, by omega, hok.2, fun H' sm => ?_⟩
      refine .inl ⟨_, rfl, bigS (by omega), _, rfl, bigS (by rw [emp, app_len, app_len, app_len]; omega), ?_⟩
      rw [emp]
      exact q H' sm
    | new =>
      refine ⟨_, rfl, rfl, _, rfl, iteD (by decide +kernel) ?_⟩
      refine ⟨_, rfl, rfl, _, rfl, iteD (by decide +kernel) ?_⟩
      refine ⟨_, rfl, rfl, _, rfl, iteD (by decide +kernel) ?_⟩
      refine ⟨_, rfl, rfl, _, rfl, iteU (by decide +kernel) ?_⟩
      refine ⟨_, rfl, bigS (by rw [emp]; omega), _, rfl, a, _, 1, _, rfl, rfl, SqT.of ha, atI_nat (j := 1) rfl, .inl ⟨_, rfl, bigS (by omega), _, rfl, bigS (by rw [emp, app_len]; omega), _, rfl, bigS (by rw [emp, app_len, app_len]; omega), ?_⟩⟩
      refine ⟨_, rfl, a, _, 2, _, rfl, rfl, SqT.of ha, atI_nat (j := 2) rfl, _, r, rfl, hR, by omega, by omega, hok.2, fun H' sm => ?_⟩
      refine .inl ⟨_, rfl, bigS (by omega), _, rfl, bigS (by rw [emp, app_len, app_len, app_len]; omega), ?_⟩
      rw [emp]
      exact q H' sm
    | _ =>
      refine ⟨_, rfl, rfl, _, rfl, iteD (by decide +kernel) ?_⟩
      refine ⟨_, rfl, rfl, _, rfl, iteD (by decide +kernel) ?_⟩
      refine ⟨_, rfl, rfl, _, rfl, iteD (by decide +kernel) ?_⟩
      refine ⟨_, rfl, rfl, _, rfl, iteD (by decide +kernel) ?_⟩
      refine ⟨_, rfl, rfl, _, rfl, iteD (by decide +kernel) ?_⟩
      refine ⟨_, rfl, .inl ⟨_, rfl, by decide +kernel, _, rfl, by decide +kernel, _, rfl, by decide +kernel, ?_⟩⟩
      have l5 : ∀ z : Str, z.length ≤ 4 → (z ++ " ").length ≤ 5 := fun z hz => by rw [app_len, h9]; omega
      have l6 := l5 "in" (by decide +kernel)
      have l7 := l5 "out" (by decide +kernel)
      have l8 := l5 "open" (by decide +kernel)
      refine ⟨_, rfl, a, _, 1, _, rfl, rfl, SqT.of ha, atI_nat (j := 1) rfl, .inl ⟨_, rfl, bigS (by omega), _, rfl, bigS (by simp only [Wd.str, emp]; rw [app_len]; omega), ?_⟩⟩
      refine ⟨_, rfl, a, _, 2, _, rfl, rfl, SqT.of ha, atI_nat (j := 2) rfl, _, r, rfl, hR, by omega, by omega, hok.2, fun H' sm => ?_⟩
      refine .inl ⟨_, rfl, bigS (by omega), _, rfl, bigS (by simp only [Wd.str, emp]; rw [app_len, app_len]; omega), ?_⟩
      rw [emp]
      exact q H' sm
/-- all five, by the depth -/
theorem shown_ok {f1 f2 f3 f4 f5 : Addr} {d1 d2 d3 d4 d5 : FuncData} (F1 : Fun K "shown" "shown" sShown f1 d1) (F2 : Fun K "parts_shown" "parts_shown" sParts f2 d2) (F3 : Fun K "part_shown" "part_shown" sPartS f3 d3) (F4 : Fun K "waiting_shown" "waiting_shown" sWait f4 d4) (F5 : Fun K "grouped" "grouped" sGroup f5 d5)
    (b1 : Binds K d1 ["row"] []) (b2 : Binds K d2 ["row"] []) (b3 : Binds K d3 ["part"] []) (b4 : Binds K d4 ["rest"] []) (b5 : Binds K d5 ["rest"] [])
    (m1 : mg "shown" = some (.ref f1)) (m2 : mg "parts_shown" = some (.ref f2)) (m3 : mg "part_shown" = some (.ref f3)) (m4 : mg "waiting_shown" = some (.ref f4)) (m5 : mg "grouped" = some (.ref f5)) (ml : mg "len" = none) :
    ∀ n : Nat, FnOk P w K mg base CX0 (5 * n + 1) f2 d2 ["row"] (spT jn n)
  | 0 => T_none
  | n + 1 => by
    have G := shown_ok F1 F2 F3 F4 F5 b1 b2 b3 b4 b5 m1 m2 m3 m4 m5 ml n
    have GS := ok_shown F1 G b2 F2.kp m2
    have GG := ok_group F5 ml G b2 F2.kp m2 GS b1 F1.kp m1
    have GW := ok_wait F4 GG b5 F5.kp m5
    have GP := ok_partS F3 G b2 F2.kp m2 GG b5 F5.kp m5 GW b4 F4.kp m4
    exact ok_parts F2 GP b3 F3.kp m3
end
end K6

set_option Elab.async false
set_option linter.all false
set_option maxRecDepth 100000
set_option maxHeartbeats 4000000
namespace Wk
open PySem PySem.Spec PyProof.Rows L2
/-! texts are of plain signs -/
def Asc (z : Str) : Prop := ∀ c ∈ z.cps.toList, c < 128
theorem Asc.app {y z : Str} (h : Asc y) (g : Asc z) : Asc (y ++ z) := fun c hc => by
  rw [app_codes] at hc
  rcases List.mem_append.mp hc with q | q
  · exact h c q
  · exact g c q
theorem Asc.ok {z : Str} (h : Asc z) : PyData.strOk z = true := by
  unfold PyData.strOk
  rw [Array.all_eq_true']
  intro c hc
  have := h c (Array.mem_def.mp hc)
  simp
  omega
theorem asc_fold {sep : Array Nat} (hs : ∀ c ∈ sep.toList, c < 128) : ∀ (l : List Str) (acc : Array Nat), (∀ c ∈ acc.toList, c < 128) → (∀ z ∈ l, Asc z) → ∀ c ∈ (l.foldl (fun acc p => acc ++ sep ++ p.cps) acc).toList, c < 128
  | [], acc, h, _ => h
  | z :: r, acc, h, g => by
    rw [List.foldl_cons]
    refine asc_fold hs r _ (fun c hc => ?_) (fun y hy => g y (List.mem_cons_of_mem _ hy))
    rw [Array.toList_append, Array.toList_append] at hc
    rcases List.mem_append.mp hc with q | q
    · rcases List.mem_append.mp q with q | q
      · exact h c q
      · exact hs c q
    · exact g z List.mem_cons_self c q
theorem jn_asc {l : List Str} (h : ∀ z ∈ l, Asc z) : Asc (jn l) := by
  have hs : ∀ c ∈ (" | " : Str).cps.toList, c < 128 := by decide +kernel
  cases l with
  | nil => exact fun c hc => (nomatch (show c ∈ ([] : List Nat) from hc))
  | cons z r => exact asc_fold hs r z.cps (h z List.mem_cons_self) (fun y hy => h y (List.mem_cons_of_mem _ hy))
theorem asc_consts : Asc "[" ∧ Asc "]" ∧ Asc "(" ∧ Asc ")" ∧ Asc "<" ∧ Asc ">" ∧ Asc "!" ∧ Asc "." ∧ Asc " " ∧ Asc "0" ∧ Asc "" ∧ Asc "new " ∧ Asc "in" ∧ Asc "out" ∧ Asc "open" := by unfold Asc; decide +kernel
theorem shT_asc {l : List Str} (h : Asc (jn l)) : Asc (shT l) := by
  unfold shT
  obtain ⟨_, _, _, _, _, _, _, _, _, h0, _⟩ := asc_consts
  split
  · exact h0
  · exact h
theorem grT_asc {l : List Str} (h : Asc (jn l)) : Asc (grT l) := by
  unfold grT
  obtain ⟨_, _, h1, h2, _⟩ := asc_consts
  split
  · exact (h1.app h).app h2
  · exact shT_asc h
theorem wtT_asc {l : List Str} (h : Asc (jn l)) : Asc (wtT l) := by
  unfold wtT
  obtain ⟨_, _, _, _, _, _, _, h1, _, _, h2, _⟩ := asc_consts
  split
  · exact h2
  · exact h1.app (grT_asc h)
mutual
theorem txP_asc : ∀ p : Part, okP (Sh 30) p → Asc (txP p)
  | .say n, h => by
    obtain ⟨_, _, _, _, h5, h6, _⟩ := asc_consts
    exact (h5.app (show Sh 30 n from h).2).app h6
  | .again r, h => by
    obtain ⟨_, _, _, _, _, _, h7, _⟩ := asc_consts
    exact h7.app (grT_asc (jn_asc (txL_asc r h)))
  | .oth w n r, h => by
    obtain ⟨h1, h2, h3, h4, h5, h6, h7, h8, h9, h10, h11, h12, h13, h14, h15⟩ := asc_consts
    have hn : Asc n := (show Sh 30 n from h.1).2
    have hj := jn_asc (txL_asc r h.2)
    cases w with
    | room => exact ((hn.app h1).app hj).app h2
    | hear => exact ((h3.app hn).app h4).app (wtT_asc hj)
    | new => exact ((h12.app hn).app h9).app (grT_asc hj)
    | inn => exact ((h13.app h9).app hn).app (wtT_asc hj)
    | out => exact ((h14.app h9).app hn).app (wtT_asc hj)
    | opn => exact ((h15.app h9).app hn).app (wtT_asc hj)
theorem txL_asc : ∀ r : List Part, okR (Sh 30) r → ∀ z ∈ txL r, Asc z
  | [], _, z, hz => nomatch (show z ∈ ([] : List Str) from hz)
  | p :: r, h, z, hz => by
    rcases List.mem_cons.mp (show z ∈ txP p :: txL r from hz) with e | e
    · rw [e]
      exact txP_asc p h.1
    · exact txL_asc r h.2 z e
end
theorem eqv_tnil : ∀ l : List PyData, PyData.eqv (.tuple l) (.tuple []) = l.isEmpty
  | [] => by simp only [PyData.eqv, PyData.eqvAll, List.isEmpty]
  | _ :: _ => by simp only [PyData.eqv, PyData.eqvAll, List.isEmpty]
theorem tnil_shaped : SeqAt.shaped (.tuple []) = true := shapedR (f := fun _ => False) (r := []) (fun _ h => h.elim) trivial (Nat.zero_le _)
theorem dR_empty (r : List Part) : (dR r).isEmpty = r.isEmpty := by cases r <;> rfl
theorem txL_empty (r : List Part) : (txL r).isEmpty = r.isEmpty := by cases r <;> rfl
end Wk
namespace K6
open PySem PySem.Spec PyProof.Rows L2 Wk
abbrev sClosed : Stmt := topS 18
abbrev sWaits : Stmt := topS 19
abbrev sLShown : Stmt := topS 20
theorem scClosed : FnScope ["_law_row_here"] ["_law_row_here"] (defScope sClosed) := ⟨rfl, rfl, rfl, by decide +kernel, rfl, by decide +kernel, by decide +kernel⟩
theorem scWaits : FnScope ["_law_row_here"] ["_law_row_here"] (defScope sWaits) := ⟨rfl, rfl, rfl, by decide +kernel, rfl, by decide +kernel, by decide +kernel⟩
theorem scLShown : FnScope ["_law_row_here", "_law_some", "_law_part_here", "_law_head"] ["_law_row_here"] (defScope sLShown) := ⟨rfl, rfl, rfl, by decide +kernel, rfl, by decide +kernel, by decide +kernel⟩
section
variable {P : Program} {w : World} {K : PySem.W.Frag} {mg : Str → Option Value} {base : Heap}
abbrev rh : List Str := ["_law_row_here"]
theorem ok30 : ∀ n, Sh 30 n → PyData.strOk n = true := fun n h => h.ok
theorem ok_closed {f fS : Addr} {fd fdS : FuncData} {n k : Nat} (F : Fun K "_law_closed" "_law_closed" sClosed f fd) (ml : mg "len" = none)
    (GS : FnOk P w K mg base CX0 k fS fdS rh (spT shT n)) (bS : Binds K fdS rh []) (kS : PySem.W.keepIn K (.ref fS) = true) (mS : mg "_law_shown" = some (.ref fS)) : FnOk P w K mg base CX0 (k + 1) f fd rh (spT grT n) := by
  refine F.ok scClosed (fun vs H Q E h => ?_) (fun cdv A outer s H vs Q E hr h => ?_)
  · obtain ⟨_, _, rfl, _⟩ := h
    rfl
  obtain ⟨v, r, rfl, hR, hd, hs, hok, q⟩ := h
  refine ⟨_, pss_cons (ps_if (pt_cmpR op_gt (pe_callB call_len_seq (by rfl) ml PySem.boot_len (pa_cons (pv 0) pa_nil)) pe_int (nomark _))
      (pss_one (ps_ret (pe_op op_add_str (pe_op op_add_str pe_str (pe_call GS hr (by rfl) mS kS bS .nil pass0 (pa_cons (pv 0) pa_nil))) pe_str))) pss_nil)
    (pss_one (ps_ret (pe_call GS hr (by rfl) mS kS bS .nil pass0 (pa_cons (pv 0) pa_nil)))), ?_⟩
  have hR2 := hR
  obtain ⟨a, xs, rfl, ha, hps⟩ := hR2
  have lx := PartsAt.len hps
  have lj := txL_sum r hok
  obtain ⟨h1, h2, h3, h4, h5, h6, h7, h8, h9, h10, h11, h12, h13, h14, h15⟩ := len1
  refine ⟨_, rfl, a, _, rfl, .inr (SqT.of ha), _, _, rfl, rfl, _, rfl, ite2 (fun e => ?_) (fun e => ?_)⟩
  · have e' : 1 < (txL r).length := by
      rw [txL_len, ← lx]
      have := of_decide_eq_true e
      omega
    have es : shT (txL r) = jn (txL r) := by
      unfold shT
      rw [if_neg (fun z => by rw [List.isEmpty_iff.mp z] at e'; exact absurd e' (by decide))]
    refine ⟨_, rfl, _, r, rfl, hR, hd, hs, hok, fun H' sm => ?_⟩
    rw [es]
    refine ⟨_, _, rfl, rfl, bigS (by omega), _, _, rfl, rfl, bigS (by rw [app_len]; omega), ?_⟩
    have q1 := q H' sm
    unfold grT at q1
    rw [if_pos e'] at q1
    exact q1
  · have e' : ¬ 1 < (txL r).length := fun z => by
      rw [txL_len, ← lx] at z
      exact e (decide_eq_true (by omega))
    refine ⟨_, rfl, _, r, rfl, hR, hd, hs, hok, fun H' sm => ?_⟩
    have q1 := q H' sm
    unfold grT at q1
    rw [if_neg e'] at q1
    exact q1
/-- the choice by an empty row -/
theorem choose {r : List Part} {x y : V} : atI [x, y] (if r.isEmpty = true then 1 else 0) = some (if r.isEmpty = true then y else x) := by
  cases r with
  | nil => exact atI_nat (j := 1) rfl
  | cons p r => exact atI_nat (j := 0) rfl
theorem ok_waits {f fC : Addr} {fd fdC : FuncData} {n k : Nat} (hn : n ≤ 25) (F : Fun K "_law_waits" "_law_waits" sWaits f fd) (mi : mg "int" = none)
    (GC : FnOk P w K mg base CX0 k fC fdC rh (spT grT n)) (bC : Binds K fdC rh []) (kC : PySem.W.keepIn K (.ref fC) = true) (mC : mg "_law_closed" = some (.ref fC)) : FnOk P w K mg base CX0 (k + 1) f fd rh (spT wtT n) := by
  refine F.ok scWaits (fun vs H Q E h => ?_) (fun cdv A outer s H vs Q E hr h => ?_)
  · obtain ⟨_, _, rfl, _⟩ := h
    rfl
  obtain ⟨v, r, rfl, hR, hd, hs, hok, q⟩ := h
  refine ⟨_, pss_one (ps_ret (pe_ix ix_list (pe_lst (pa_cons (pe_op op_add_str pe_str (pe_call GC hr (by rfl) mC kC bC .nil pass0 (pa_cons (pv 0) pa_nil))) (pa_cons pe_str pa_nil)))
    (pe_callTy call_int1 (by rfl) mi (by decide +kernel) (pa_cons (pe_cmpR (op_eqD hr.units) (pv 0) (pe_tup pa_nil) (nomark _)) pa_nil)) (fun _ _ => rfl))), ?_⟩
  have lj := txL_sum r hok
  have lg := grT_len (txL r)
  obtain ⟨h1, h2, h3, h4, h5, h6, h7, h8, h9, h10, h11, h12, h13, h14, h15⟩ := len1
  refine ⟨_, rfl, _, r, rfl, hR, hd, hs, hok, fun H1 s1 => ?_⟩
  refine ⟨_, _, rfl, rfl, bigS (by omega), (show 2 ≤ sizeLine by decide), fun l1 nl1 => ?_⟩
  refine ⟨_, rfl, (show 0 ≤ sizeLine by decide), fun t1 nt1 => ?_⟩
  have s2 := s1.trans ((same_new (o := .lst [.str ("." ++ grT (txL r)), .str ""]) nl1).trans (same_new (o := .tup []) nt1))
  refine ⟨_, _, (hR.mono (STup.of s2)).dp, .tup (SqT.of upd_same) .nil, shapedR ok30 hok (by omega), tnil_shaped, .inr ⟨_, rfl, ?_⟩⟩
  rw [eqv_tnil, dR_empty]
  refine ⟨l1, _, _, _, rfl, rfl, SqL.of (kn upd_same nt1), choose, ?_⟩
  have q1 := q _ s2
  unfold wtT at q1
  rw [txL_empty] at q1
  by_cases e : r.isEmpty = true
  · rw [if_pos e] at q1 ⊢
    exact q1
  · rw [if_neg e] at q1 ⊢
    exact q1
end
end K6

set_option Elab.async false
set_option linter.all false
set_option maxRecDepth 100000
set_option maxHeartbeats 4000000
namespace K6
open PySem PySem.Spec PyProof.Rows L2 Wk
theorem nchoose {l : List Str} {x y : V} : atI [x, y] (if (!l.isEmpty) = true then 1 else 0) = some (if l.isEmpty = true then x else y) := by
  cases l with
  | nil => exact atI_nat (j := 0) rfl
  | cons p r => exact atI_nat (j := 1) rfl
section
variable {P : Program} {w : World} {K : PySem.W.Frag} {mg : Str → Option Value} {base : Heap}
theorem ok_lshown {f fC fW : Addr} {fd fdC fdW : FuncData} {n k : Nat} (hn : n ≤ 25) (F : Fun K "_law_shown" "_law_shown" sLShown f fd) (mi : mg "int" = none)
    (GS : FnOk P w K mg base CX0 k f fd rh (spT shT n)) (bS : Binds K fd rh []) (mS : mg "_law_shown" = some (.ref f))
    (GC : FnOk P w K mg base CX0 (k + 1) fC fdC rh (spT grT n)) (bC : Binds K fdC rh []) (kC : PySem.W.keepIn K (.ref fC) = true) (mC : mg "_law_closed" = some (.ref fC))
    (GW : FnOk P w K mg base CX0 (k + 2) fW fdW rh (spT wtT n)) (bW : Binds K fdW rh []) (kW : PySem.W.keepIn K (.ref fW) = true) (mW : mg "_law_waits" = some (.ref fW)) : FnOk P w K mg base CX0 (k + 2 + 1) f fd rh (spT shT (n + 1)) := by
  refine F.ok scLShown (fun vs H Q E h => ?_) (fun cdv A outer s H vs Q E hr h => ?_)
  · obtain ⟨_, _, rfl, _⟩ := h
    rfl
  obtain ⟨v, r, rfl, hR, hd, hs, hok, q⟩ := h
  refine ⟨_, pss_cons (ps_set (i := 1) scLShown.nd rfl (.inl rfl) (pe_lst pa_nil))
    (pss_cons (ps_for PassesOwn.never rfl (pi_tup (pv 0)) (pg_name (i := 2) scLShown.nd rfl (.inl rfl))
      (pss_cons (ps_set (i := 3) scLShown.nd rfl (.inl rfl) (pe_ix ix_tup (pv 2) pe_int (fun _ _ => rfl)))
      (pss_one (ps_if (pt_cmpR op_eq (pv 3) pe_str (nomark _))
        (pss_one (ps_expr (pe_bm PySem.F.plainAttrs_list PySem.F.slot_list_append PySem.F.type_list_append mt_append (pv 1) (pa_cons
          (pe_op op_add_str (pe_op op_add_str (pe_op op_add_str (pe_ix ix_tup (pv 2) pe_int (fun _ _ => rfl)) pe_str)
            (pe_ix ix_list (pe_lst (pa_cons (pe_call GS (hr.mono (by omega)) (by rfl) mS F.kp bS .nil pass0 (pa_cons (pe_ix ix_tup (pv 2) pe_int (fun _ _ => rfl)) pa_nil)) (pa_cons pe_str pa_nil)))
              (pe_callTy call_int1 (by rfl) mi (by decide +kernel) (pa_cons (pe_cmpR (op_eqD hr.units) (pe_ix ix_tup (pv 2) pe_int (fun _ _ => rfl)) (pe_tup pa_nil) (nomark _)) pa_nil)) (fun _ _ => rfl))) pe_str) pa_nil))))
        (pss_one (ps_if (pt_cmpR op_eq (pv 3) pe_str (nomark _))
          (pss_one (ps_expr (pe_bm PySem.F.plainAttrs_list PySem.F.slot_list_append PySem.F.type_list_append mt_append (pv 1) (pa_cons (pe_op op_add_str (pe_op op_add_str pe_str (pe_ix ix_tup (pv 2) pe_int (fun _ _ => rfl))) pe_str) pa_nil))))
          (pss_one (ps_if (pt_cmpR op_eq (pv 3) pe_str (nomark _))
            (pss_one (ps_expr (pe_bm PySem.F.plainAttrs_list PySem.F.slot_list_append PySem.F.type_list_append mt_append (pv 1) (pa_cons (pe_op op_add_str (pe_op op_add_str (pe_op op_add_str pe_str (pe_ix ix_tup (pv 2) pe_int (fun _ _ => rfl))) pe_str) (pe_call GW hr (by rfl) mW kW bW .nil pass0 (pa_cons (pe_ix ix_tup (pv 2) pe_int (fun _ _ => rfl)) pa_nil))) pa_nil))))
            (pss_one (ps_if (pt_cmpR op_eq (pv 3) pe_str (nomark _))
              (pss_one (ps_expr (pe_bm PySem.F.plainAttrs_list PySem.F.slot_list_append PySem.F.type_list_append mt_append (pv 1) (pa_cons (pe_op op_add_str (pe_op op_add_str (pe_op op_add_str pe_str (pe_ix ix_tup (pv 2) pe_int (fun _ _ => rfl))) pe_str) (pe_call GC (hr.mono (by omega)) (by rfl) mC kC bC .nil pass0 (pa_cons (pe_ix ix_tup (pv 2) pe_int (fun _ _ => rfl)) pa_nil))) pa_nil))))
              (pss_one (ps_if (pt_cmpR op_eq (pv 3) pe_str (nomark _))
                (pss_one (ps_expr (pe_bm PySem.F.plainAttrs_list PySem.F.slot_list_append PySem.F.type_list_append mt_append (pv 1) (pa_cons (pe_op op_add_str pe_str (pe_call GC (hr.mono (by omega)) (by rfl) mC kC bC .nil pass0 (pa_cons (pe_ix ix_tup (pv 2) pe_int (fun _ _ => rfl)) pa_nil))) pa_nil))))
                (pss_one (ps_expr (pe_bm PySem.F.plainAttrs_list PySem.F.slot_list_append PySem.F.type_list_append mt_append (pv 1) (pa_cons (pe_op op_add_str (pe_op op_add_str (pe_op op_add_str (pv 3) pe_str) (pe_ix ix_tup (pv 2) pe_int (fun _ _ => rfl))) (pe_call GW hr (by rfl) mW kW bW .nil pass0 (pa_cons (pe_ix ix_tup (pv 2) pe_int (fun _ _ => rfl)) pa_nil))) pa_nil))))))))))))))))
    (pss_one (ps_ret (pe_ix ix_list (pe_lst (pa_cons pe_str (pa_cons (pe_join pe_str (pv 1)) pa_nil))) (pe_callTy call_int1 (by rfl) mi (by decide +kernel) (pa_cons (pe_cmpR (op_neD hr.units) (pv 1) (pe_lst pa_nil) (nomark _)) pa_nil)) (fun _ _ => rfl))))), ?_⟩
  obtain ⟨h1, h2, h3, h4, h5, h6, h7, h8, h9, h10, h11, h12, h13, h14, h15⟩ := len1
  obtain ⟨a, xs, rfl, ha, hps⟩ := hR
  have lx := PartsAt.len hps
  have lr := len_sizeR r
  refine ⟨(show 0 ≤ sizeLine by decide), fun D nD => ?_⟩
  refine ⟨_, rfl, a, rfl, ⟨_, SqT.of (kn ha nD)⟩, for_it (walk_tup (xs := xs)) (fun i σ H' => Same H H' ∧ H' D = some (.lst ((txL (r.take i)).map V.str)) ∧ ∃ s2 s3 : Option V, σ = [some (.ref a), some (.ref D), s2, s3])
    ⟨same_new nD, upd_same, _, _, rfl⟩ (fun i σ H' _ hP => SqT.of (hP.1 _ _ ha)) (fun i y σ H1 H2 hi hP hY => ?_) (fun σ H' hP => ?_)⟩
  · obtain ⟨rfl, hy⟩ := hY
    obtain ⟨sm, hD, s2, s3, rfl⟩ := hP
    obtain ⟨p, hp, hpa⟩ := PartsAt.get hps hy
    have pm : p ∈ r := List.mem_of_getElem? hp
    have d1 := deepR.mem p pm
    have s1 := sizeR.mem p pm
    have hpo := hok.mem p pm
    have hpa2 := PartAt.mono (STup.of sm) p y hpa
    have lp := txP_len p hpo
    -- the text of the part is put to the list
    have fin : ∀ (H' : Hp) (σ' : L2.St) (t : Str), Same H2 H' → t = txP p → (∃ s2 s3 : Option V, σ' = [some (.ref a), some (.ref D), s2, s3]) → ∃ l zs y', V.ref D = .ref l ∧ [V.str t] = [y'] ∧ H' l = some (.lst zs) ∧ zs.length < sizeLine ∧
        (Same H (upd H' l (.lst (zs ++ [y']))) ∧ upd H' l (.lst (zs ++ [y'])) D = some (.lst ((txL (r.take (i + 1))).map V.str)) ∧ ∃ s2 s3 : Option V, σ' = [some (.ref a), some (.ref D), s2, s3]) := by
      intro H' σ' t s4 et hσ
      refine ⟨D, _, _, rfl, rfl, s4 _ _ hD, ?_, fun b o e => ?_, ?_, hσ⟩
      · rw [List.length_map, txL_len, List.length_take]
        exact small1000 (by omega)
      · rw [upd_ne (ne_of_none e nD)]
        exact s4 _ _ (sm _ _ e)
      · rw [upd_same, txL_map, txL_map, List.take_add_one, hp, List.map_append, List.map_append, et]
        rfl
    cases p with
    | say m =>
      obtain ⟨ta, rfl, hta⟩ := hpa2
      have lm : m.length ≤ 30 := (show Sh 30 m from hpo).len
      refine ⟨_, rfl, ta, _, 0, _, rfl, rfl, SqT.of hta, atI_nat (j := 0) rfl, ?_⟩
      refine ⟨_, rfl, rfl, _, rfl, iteD (by decide +kernel) ?_⟩
      refine ⟨_, rfl, rfl, _, rfl, iteU (by decide +kernel) ?_⟩
      refine ⟨_, rfl, .inl ⟨rfl, _, SqL.of hD⟩, _, rfl, ta, _, 1, _, rfl, rfl, SqT.of hta, atI_nat (j := 1) rfl, _, _, rfl, rfl, bigS (by omega), _, _, rfl, rfl, bigS (by rw [app_len]; omega), ?_⟩
      exact fin H2 _ _ (Same.refl _) rfl ⟨_, _, rfl⟩
    | again r2 =>
      obtain ⟨ta, tb, ys, rfl, hta, htb, hps2⟩ := hpa2
      have dd : deepR r2 + 1 ≤ deepR r := d1
      have ds : sizeR r2 + 1 ≤ sizeR r := s1
      have lj := txL_sum r2 hpo
      have lg := grT_len (txL r2)
      refine ⟨_, rfl, ta, _, 0, _, rfl, rfl, SqT.of hta, atI_nat (j := 0) rfl, ?_⟩
      refine ⟨_, rfl, rfl, _, rfl, iteD (by decide +kernel) ?_⟩
      refine ⟨_, rfl, rfl, _, rfl, iteD (by decide +kernel) ?_⟩
      refine ⟨_, rfl, rfl, _, rfl, iteD (by decide +kernel) ?_⟩
      refine ⟨_, rfl, rfl, _, rfl, iteD (by decide +kernel) ?_⟩
      refine ⟨_, rfl, rfl, _, rfl, iteU (by decide +kernel) ?_⟩
      refine ⟨_, rfl, .inl ⟨rfl, _, SqL.of hD⟩, _, rfl, ta, _, 1, _, rfl, rfl, SqT.of hta, atI_nat (j := 1) rfl, _, r2, rfl, ⟨tb, ys, rfl, htb, hps2⟩, by omega, by omega, hpo, fun H3 s4 => ?_⟩
      refine ⟨_, _, rfl, rfl, bigS (by omega), ?_⟩
      exact fin H3 _ _ s4 rfl ⟨_, _, rfl⟩
    | oth w m r2 =>
      obtain ⟨ta, tb, ys, rfl, hta, htb, hps2⟩ := hpa2
      have lm : m.length ≤ 30 := (show Sh 30 m from hpo.1).len
      have dd : deepR r2 + 1 ≤ deepR r := d1
      have ds : sizeR r2 + 1 ≤ sizeR r := s1
      have lj := txL_sum r2 hpo.2
      have lg := grT_len (txL r2)
      have lw := wtT_len (txL r2)
      have hR2 : RowAt H2 r2 (.ref tb) := ⟨tb, ys, rfl, htb, hps2⟩
      refine ⟨_, rfl, ta, _, 0, _, rfl, rfl, SqT.of hta, atI_nat (j := 0) rfl, ?_⟩
      cases w with
      | room =>
        refine ⟨_, rfl, rfl, _, rfl, iteU (by decide +kernel) ?_⟩
        refine ⟨_, rfl, .inl ⟨rfl, _, SqL.of hD⟩, _, rfl, ta, _, 1, _, rfl, rfl, SqT.of hta, atI_nat (j := 1) rfl, _, _, rfl, rfl, bigS (by omega), ?_⟩
        refine ⟨_, rfl, ta, _, 2, _, rfl, rfl, SqT.of hta, atI_nat (j := 2) rfl, _, r2, rfl, hR2, by omega, by omega, hpo.2, fun H3 s4 => ?_⟩
        refine ⟨(show 2 ≤ sizeLine by decide), fun l1 nl1 => ?_⟩
        have s5 := s4.trans (same_new (o := .lst [.str (shT (txL r2)), .str ""]) nl1)
        refine ⟨_, rfl, ta, _, 2, _, rfl, rfl, SqT.of (s5 _ _ hta), atI_nat (j := 2) rfl, (show 0 ≤ sizeLine by decide), fun t1 nt1 => ?_⟩
        have s6 := s5.trans (same_new (o := .tup []) nt1)
        refine ⟨_, _, (hR2.mono (STup.of s6)).dp, .tup (SqT.of upd_same) .nil, shapedR ok30 hpo.2 (by omega), tnil_shaped, .inr ⟨_, rfl, ?_⟩⟩
        rw [eqv_tnil, dR_empty]
        refine ⟨l1, _, _, _, rfl, rfl, SqL.of (kn upd_same nt1), choose, ?_⟩
        have ej : (if r2.isEmpty = true then V.str "" else V.str (shT (txL r2))) = .str (jn (txL r2)) := by
          unfold shT
          rw [txL_empty]
          cases r2 with
          | nil => rfl
          | cons p2 r3 => rfl
        rw [ej]
        refine ⟨_, _, rfl, rfl, bigS (by rw [app_len]; omega), _, _, rfl, rfl, bigS (by rw [app_len, app_len]; omega), ?_⟩
        exact fin _ _ _ s6 rfl ⟨_, _, rfl⟩
      | hear =>
        refine ⟨_, rfl, rfl, _, rfl, iteD (by decide +kernel) ?_⟩
        refine ⟨_, rfl, rfl, _, rfl, iteD (by decide +kernel) ?_⟩
        refine ⟨_, rfl, rfl, _, rfl, iteU (by decide +kernel) ?_⟩
        refine ⟨_, rfl, .inl ⟨rfl, _, SqL.of hD⟩, _, rfl, ta, _, 1, _, rfl, rfl, SqT.of hta, atI_nat (j := 1) rfl, _, _, rfl, rfl, bigS (by omega), _, _, rfl, rfl, bigS (by rw [app_len]; omega), ?_⟩
        refine ⟨_, rfl, ta, _, 2, _, rfl, rfl, SqT.of hta, atI_nat (j := 2) rfl, _, r2, rfl, hR2, by omega, by omega, hpo.2, fun H3 s4 => ?_⟩
        refine ⟨_, _, rfl, rfl, bigS (by rw [app_len, app_len]; omega), ?_⟩
        exact fin _ _ _ s4 rfl ⟨_, _, rfl⟩
      | new =>
        refine ⟨_, rfl, rfl, _, rfl, iteD (by decide +kernel) ?_⟩
        refine ⟨_, rfl, rfl, _, rfl, iteD (by decide +kernel) ?_⟩
        refine ⟨_, rfl, rfl, _, rfl, iteD (by decide +kernel) ?_⟩
        refine ⟨_, rfl, rfl, _, rfl, iteU (by decide +kernel) ?_⟩
        refine ⟨_, rfl, .inl ⟨rfl, _, SqL.of hD⟩, _, rfl, ta, _, 1, _, rfl, rfl, SqT.of hta, atI_nat (j := 1) rfl, _, _, rfl, rfl, bigS (by omega), _, _, rfl, rfl, bigS (by rw [app_len]; omega), ?_⟩
        refine ⟨_, rfl, ta, _, 2, _, rfl, rfl, SqT.of hta, atI_nat (j := 2) rfl, _, r2, rfl, hR2, by omega, by omega, hpo.2, fun H3 s4 => ?_⟩
        refine ⟨_, _, rfl, rfl, bigS (by rw [app_len, app_len]; omega), ?_⟩
        exact fin _ _ _ s4 rfl ⟨_, _, rfl⟩
      | _ =>
        refine ⟨_, rfl, rfl, _, rfl, iteD (by decide +kernel) ?_⟩
        refine ⟨_, rfl, rfl, _, rfl, iteD (by decide +kernel) ?_⟩
        refine ⟨_, rfl, rfl, _, rfl, iteD (by decide +kernel) ?_⟩
        refine ⟨_, rfl, rfl, _, rfl, iteD (by decide +kernel) ?_⟩
        refine ⟨_, rfl, rfl, _, rfl, iteD (by decide +kernel) ?_⟩
        have l5 : ∀ z : Str, z.length ≤ 4 → (z ++ " ").length ≤ 5 := fun z hz => by rw [app_len, h9]; omega
        have l6 := l5 "in" (by decide +kernel)
        have l7 := l5 "out" (by decide +kernel)
        have l8 := l5 "open" (by decide +kernel)
        refine ⟨_, rfl, .inl ⟨rfl, _, SqL.of hD⟩, _, rfl, _, _, rfl, rfl, by decide +kernel, _, rfl, ta, _, 1, _, rfl, rfl, SqT.of hta, atI_nat (j := 1) rfl, _, _, rfl, rfl, bigS (by simp only [Wd.str]; omega), ?_⟩
        refine ⟨_, rfl, ta, _, 2, _, rfl, rfl, SqT.of hta, atI_nat (j := 2) rfl, _, r2, rfl, hR2, by omega, by omega, hpo.2, fun H3 s4 => ?_⟩
        refine ⟨_, _, rfl, rfl, bigS (by simp only [Wd.str]; rw [app_len]; omega), ?_⟩
        exact fin _ _ _ s4 rfl ⟨_, _, rfl⟩
  · obtain ⟨sm, hD, s2, s3, rfl⟩ := hP
    rw [lx, List.take_length] at hD
    have lj2 := txL_sum2 r hok
    have e3 : (" | " : Str).length = 3 := by decide +kernel
    refine ⟨⟨_, rfl⟩, _, rfl, _, D, txL r, rfl, rfl, .inl (SqL.of hD), by rw [e3]; omega, (show 2 ≤ sizeLine by decide), fun l1 nl1 => ?_⟩
    have s4 := sm.trans (same_new (o := .lst [.str "0", .str (Txt.join " | " (txL r))]) nl1)
    have hD4 := kn (u := .lst [.str "0", .str (Txt.join " | " (txL r))]) hD nl1
    refine ⟨_, rfl, (show 0 ≤ sizeLine by decide), fun l2 nl2 => ?_⟩
    have s5 := s4.trans (same_new (o := .lst []) nl2)
    refine ⟨_, _, .lst (SqL.of (kn hD4 nl2)) (strs_dp (txL r)), .lst (SqL.of upd_same) .nil, strs_shaped (fun z hz => (txL_asc r hok z hz).ok), nil_shaped, .inr ⟨_, rfl, ?_⟩⟩
    rw [eqv_nil, List.isEmpty_map]
    refine ⟨l1, _, _, _, rfl, rfl, SqL.of (kn upd_same nl2), nchoose, ?_⟩
    have q1 := q _ s5
    unfold shT at q1
    by_cases e : (txL r).isEmpty = true
    · rw [if_pos e] at q1 ⊢
      exact q1
    · rw [if_neg e] at q1 ⊢
      exact q1
theorem lshown_ok {f1 f2 f3 : Addr} {d1 d2 d3 : FuncData} (F1 : Fun K "_law_closed" "_law_closed" sClosed f1 d1) (F2 : Fun K "_law_waits" "_law_waits" sWaits f2 d2) (F3 : Fun K "_law_shown" "_law_shown" sLShown f3 d3)
    (b1 : Binds K d1 rh []) (b2 : Binds K d2 rh []) (b3 : Binds K d3 rh []) (m1 : mg "_law_closed" = some (.ref f1)) (m2 : mg "_law_waits" = some (.ref f2)) (m3 : mg "_law_shown" = some (.ref f3)) (ml : mg "len" = none) (mi : mg "int" = none) :
    ∀ n : Nat, n ≤ 26 → FnOk P w K mg base CX0 (3 * n + 1) f3 d3 rh (spT shT n)
  | 0, _ => T_none
  | n + 1, h => by
    have GS := lshown_ok F1 F2 F3 b1 b2 b3 m1 m2 m3 ml mi n (by omega)
    have GC := ok_closed F1 ml GS b3 F3.kp m3
    have GW := ok_waits (by omega) F2 mi GC b1 F1.kp m1
    exact ok_lshown (by omega) F3 mi GS b3 m3 GC b1 F1.kp m1 GW b2 F2.kp m2
end
end K6

set_option Elab.async false
set_option linter.all false
set_option maxRecDepth 100000
set_option maxHeartbeats 4000000
namespace K6
open PySem PySem.Spec PyProof.Rows L2 Wk
abbrev sFixed : Stmt := topS 21
theorem scFixed : FnScope ["_law_a", "_law_b", "_law_rows"] [] (defScope sFixed) := ⟨rfl, rfl, rfl, by decide +kernel, rfl, by decide +kernel, by decide +kernel⟩
/-- a row and its text -/
def Item (H : Hp) (v : V) : Prop := ∃ (t : Addr) (rv : V) (r : List Part), v = .ref t ∧ H t = some (.tup [rv, .str (shT (txL r))]) ∧ RowAt H r rv ∧ deepR r ≤ 5 ∧ sizeR r ≤ 100 ∧ okR (Sh 30) r
theorem Item.mono {H H' : Hp} {v : V} (s : STup H H') (h : Item H v) : Item H' v := by
  obtain ⟨t, rv, r, e, h1, h2, h3⟩ := h
  exact ⟨t, rv, r, e, s _ _ h1, h2.mono s, h3⟩
theorem item_mk {H : Hp} {t : Addr} {rv : V} {z : Str} (r : List Part) (ez : z = shT (txL r)) (hd : deepR r ≤ 5) (hs : sizeR r ≤ 100) (ho : okR (Sh 30) r) (ht : H t = some (.tup [rv, .str z])) (hR : RowAt H r rv) : Item H (.ref t) :=
  ⟨t, rv, r, rfl, by rw [← ez]; exact ht, hR, hd, hs, ho⟩
section
variable {P : Program} {w : World} {K : PySem.W.Frag} {mg : Str → Option Value} {base : Heap}
def spFixed : Sp := fun vs H Q _ => vs = [] ∧ ∀ (H' : Hp) (R : Addr) (xs : List V), Same H H' → H' R = some (.lst xs) → xs.length ≤ 20 → (∀ v ∈ xs, Item H' v) → Q (.ref R) H'
theorem ok_fixed {f : Addr} {fd : FuncData} {k : Nat} (F : Fun K "_law_fixed" "_law_fixed" sFixed f fd) : FnOk P w K mg base CX0 (k + 1) f fd [] spFixed := by
  refine F.ok scFixed (fun vs H Q E h => ?_) (fun cdv A outer s H vs Q E hr h => ?_)
  · obtain ⟨rfl, _⟩ := h
    rfl
  obtain ⟨rfl, q⟩ := h
  refine ⟨_, pss_cons (ps_set (i := 0) scFixed.nd rfl (.inl rfl) (pe_tup (pa_cons pe_str (pa_cons pe_str pa_nil))))
    (C8.pss_cut (ps_set (i := 1) scFixed.nd rfl (.inl rfl) (pe_tup (pa_cons pe_str (pa_cons pe_str (pa_cons (pe_tup pa_nil) pa_nil)))))
    (C8.pss_cut (ps_set (i := 2) scFixed.nd rfl (.inl rfl) (pe_lst (pa_cons (pe_tup (pa_cons (pe_tup pa_nil) (pa_cons pe_str pa_nil))) (pa_cons (pe_tup (pa_cons (pe_tup (pa_cons (pv 1) pa_nil)) (pa_cons pe_str pa_nil))) (pa_cons (pe_tup (pa_cons (pe_tup (pa_cons (pe_tup (pa_cons pe_str (pa_cons pe_str (pa_cons (pe_tup (pa_cons (pv 0) (pa_cons (pv 1) pa_nil))) pa_nil)))) pa_nil)) (pa_cons pe_str pa_nil))) (pa_cons (pe_tup (pa_cons (pe_tup (pa_cons (pe_tup (pa_cons pe_str (pa_cons pe_str (pa_cons (pe_tup pa_nil) pa_nil)))) pa_nil)) (pa_cons pe_str pa_nil))) pa_nil))))))
    (C8.pss_cut (ps_set (i := 2) scFixed.nd rfl (.inl rfl) (pe_op op_cat (pv 2) (pe_lst (pa_cons (pe_tup (pa_cons (pe_tup (pa_cons (pe_tup (pa_cons pe_str (pa_cons pe_str (pa_cons (pe_tup (pa_cons (pv 1) pa_nil)) pa_nil)))) pa_nil)) (pa_cons pe_str pa_nil))) (pa_cons (pe_tup (pa_cons (pe_tup (pa_cons (pe_tup (pa_cons pe_str (pa_cons pe_str (pa_cons (pe_tup (pa_cons (pv 0) (pa_cons (pv 1) pa_nil))) pa_nil)))) pa_nil)) (pa_cons pe_str pa_nil))) pa_nil)))))
    (C8.pss_cut (ps_set (i := 2) scFixed.nd rfl (.inl rfl) (pe_op op_cat (pv 2) (pe_lst (pa_cons (pe_tup (pa_cons (pe_tup (pa_cons (pe_tup (pa_cons pe_str (pa_cons pe_str (pa_cons (pe_tup pa_nil) pa_nil)))) (pa_cons (pv 0) pa_nil))) (pa_cons pe_str pa_nil))) (pa_cons (pe_tup (pa_cons (pe_tup (pa_cons (pe_tup (pa_cons pe_str (pa_cons pe_str (pa_cons (pe_tup (pa_cons (pe_tup (pa_cons pe_str (pa_cons pe_str pa_nil))) pa_nil)) pa_nil)))) pa_nil)) (pa_cons pe_str pa_nil))) pa_nil)))))
    (C8.pss_cut (ps_set (i := 2) scFixed.nd rfl (.inl rfl) (pe_op op_cat (pv 2) (pe_lst (pa_cons (pe_tup (pa_cons (pe_tup (pa_cons (pe_tup (pa_cons pe_str (pa_cons pe_str (pa_cons (pe_tup pa_nil) pa_nil)))) pa_nil)) (pa_cons pe_str pa_nil))) (pa_cons (pe_tup (pa_cons (pe_tup (pa_cons (pe_tup (pa_cons pe_str (pa_cons pe_str (pa_cons (pe_tup (pa_cons (pv 0) (pa_cons (pv 1) pa_nil))) pa_nil)))) pa_nil)) (pa_cons pe_str pa_nil))) pa_nil)))))
    (C8.pss_cut (ps_set (i := 2) scFixed.nd rfl (.inl rfl) (pe_op op_cat (pv 2) (pe_lst (pa_cons (pe_tup (pa_cons (pe_tup (pa_cons (pe_tup (pa_cons pe_str (pa_cons pe_str (pa_cons (pe_tup (pa_cons (pe_tup (pa_cons pe_str (pa_cons pe_str (pa_cons (pe_tup pa_nil) pa_nil)))) pa_nil)) pa_nil)))) pa_nil)) (pa_cons pe_str pa_nil))) pa_nil))))
    (C8.pss_cut (ps_set (i := 2) scFixed.nd rfl (.inl rfl) (pe_op op_cat (pv 2) (pe_lst (pa_cons (pe_tup (pa_cons (pe_tup (pa_cons (pe_tup (pa_cons pe_str (pa_cons pe_str (pa_cons (pe_tup (pa_cons (pe_tup (pa_cons pe_str (pa_cons pe_str pa_nil))) pa_nil)) pa_nil)))) pa_nil)) (pa_cons pe_str pa_nil))) pa_nil))))
    (C8.pss_cut (ps_set (i := 2) scFixed.nd rfl (.inl rfl) (pe_op op_cat (pv 2) (pe_lst (pa_cons (pe_tup (pa_cons (pe_tup (pa_cons (pe_tup (pa_cons pe_str (pa_cons (pe_tup (pa_cons (pe_tup (pa_cons pe_str (pa_cons pe_str (pa_cons (pe_tup pa_nil) pa_nil)))) pa_nil)) pa_nil))) pa_nil)) (pa_cons pe_str pa_nil))) (pa_cons (pe_tup (pa_cons (pe_tup (pa_cons (pe_tup (pa_cons pe_str (pa_cons (pe_tup pa_nil) pa_nil))) pa_nil)) (pa_cons pe_str pa_nil))) pa_nil)))))
    (pss_one (ps_ret (pv 2))))))))))), ?_⟩
  refine ⟨(show 2 ≤ sizeLine by decide), fun pA_1 nA_1 => ?_⟩
  have sA_1 := same_new (o := .tup [.str "say", .str "a"]) nA_1
  have fA_1 := upd_same (H := H) (a := pA_1) (o := .tup [.str "say", .str "a"])
  generalize upd H pA_1 (.tup [.str "say", .str "a"]) = HA_1 at *
  refine ⟨fun σ' H' => Same H H' ∧ ∃ va vb s2, σ' = [some va, some vb, s2] ∧ PartAt H' (.say "a") va ∧ PartAt H' (.oth .room "b" []) vb, ?_, fun σ' H2_0 hm => ?_⟩
  · refine ⟨(show 0 ≤ sizeLine by decide), fun pB_1 nB_1 => ?_⟩
    have sB_1 := same_new (o := .tup []) nB_1
    have fB_1 := upd_same (H := HA_1) (a := pB_1) (o := .tup [])
    generalize upd HA_1 pB_1 (.tup []) = HB_1 at *
    refine ⟨(show 3 ≤ sizeLine by decide), fun pB_2 nB_2 => ?_⟩
    have sB_2 := same_new (o := .tup [.str "room", .str "b", .ref pB_1]) nB_2
    have fB_2 := upd_same (H := HB_1) (a := pB_2) (o := .tup [.str "room", .str "b", .ref pB_1])
    generalize upd HB_1 pB_2 (.tup [.str "room", .str "b", .ref pB_1]) = HB_2 at *
    exact ⟨sA_1.trans (sB_1.trans sB_2), _, _, _, rfl, ⟨_, rfl, sB_2 _ _ (sB_1 _ _ fA_1)⟩, ⟨_, _, _, rfl, fB_2, sB_2 _ _ fB_1, rfl⟩⟩
  obtain ⟨sm2, va2, vb2, s2', rfl, pa2, pb2⟩ := hm
  refine ⟨fun σ' H' => Same H H' ∧ ∃ va vb R vs, σ' = [some va, some vb, some (.ref R)] ∧ PartAt H' (.say "a") va ∧ PartAt H' (.oth .room "b" []) vb ∧ H' R = some (.lst vs) ∧ vs.length ≤ 4 ∧ ∀ v ∈ vs, Item H' v, ?_, fun σ' H3_0 hm => ?_⟩
  · refine ⟨(show 0 ≤ sizeLine by decide), fun p2_1 n2_1 => ?_⟩
    have s2_1 := same_new (o := .tup []) n2_1
    have f2_1 := upd_same (H := H2_0) (a := p2_1) (o := .tup [])
    generalize upd H2_0 p2_1 (.tup []) = H2_1 at *
    refine ⟨(show 2 ≤ sizeLine by decide), fun p2_2 n2_2 => ?_⟩
    have s2_2 := same_new (o := .tup [.ref p2_1, .str "0"]) n2_2
    have f2_2 := upd_same (H := H2_1) (a := p2_2) (o := .tup [.ref p2_1, .str "0"])
    generalize upd H2_1 p2_2 (.tup [.ref p2_1, .str "0"]) = H2_2 at *
    refine ⟨_, rfl, (show 1 ≤ sizeLine by decide), fun p2_3 n2_3 => ?_⟩
    have s2_3 := same_new (o := .tup [vb2]) n2_3
    have f2_3 := upd_same (H := H2_2) (a := p2_3) (o := .tup [vb2])
    generalize upd H2_2 p2_3 (.tup [vb2]) = H2_3 at *
    refine ⟨(show 2 ≤ sizeLine by decide), fun p2_4 n2_4 => ?_⟩
    have s2_4 := same_new (o := .tup [.ref p2_3, .str "b[]"]) n2_4
    have f2_4 := upd_same (H := H2_3) (a := p2_4) (o := .tup [.ref p2_3, .str "b[]"])
    generalize upd H2_3 p2_4 (.tup [.ref p2_3, .str "b[]"]) = H2_4 at *
    refine ⟨_, rfl, _, rfl, (show 2 ≤ sizeLine by decide), fun p2_5 n2_5 => ?_⟩
    have s2_5 := same_new (o := .tup [va2, vb2]) n2_5
    have f2_5 := upd_same (H := H2_4) (a := p2_5) (o := .tup [va2, vb2])
    generalize upd H2_4 p2_5 (.tup [va2, vb2]) = H2_5 at *
    refine ⟨(show 3 ≤ sizeLine by decide), fun p2_6 n2_6 => ?_⟩
    have s2_6 := same_new (o := .tup [.str "room", .str "b", .ref p2_5]) n2_6
    have f2_6 := upd_same (H := H2_5) (a := p2_6) (o := .tup [.str "room", .str "b", .ref p2_5])
    generalize upd H2_5 p2_6 (.tup [.str "room", .str "b", .ref p2_5]) = H2_6 at *
    refine ⟨(show 1 ≤ sizeLine by decide), fun p2_7 n2_7 => ?_⟩
    have s2_7 := same_new (o := .tup [.ref p2_6]) n2_7
    have f2_7 := upd_same (H := H2_6) (a := p2_7) (o := .tup [.ref p2_6])
    generalize upd H2_6 p2_7 (.tup [.ref p2_6]) = H2_7 at *
    refine ⟨(show 2 ≤ sizeLine by decide), fun p2_8 n2_8 => ?_⟩
    have s2_8 := same_new (o := .tup [.ref p2_7, .str "b[<a> | b[]]"]) n2_8
    have f2_8 := upd_same (H := H2_7) (a := p2_8) (o := .tup [.ref p2_7, .str "b[<a> | b[]]"])
    generalize upd H2_7 p2_8 (.tup [.ref p2_7, .str "b[<a> | b[]]"]) = H2_8 at *
    refine ⟨(show 0 ≤ sizeLine by decide), fun p2_9 n2_9 => ?_⟩
    have s2_9 := same_new (o := .tup []) n2_9
    have f2_9 := upd_same (H := H2_8) (a := p2_9) (o := .tup [])
    generalize upd H2_8 p2_9 (.tup []) = H2_9 at *
    refine ⟨(show 3 ≤ sizeLine by decide), fun p2_10 n2_10 => ?_⟩
    have s2_10 := same_new (o := .tup [.str "in", .str "a", .ref p2_9]) n2_10
    have f2_10 := upd_same (H := H2_9) (a := p2_10) (o := .tup [.str "in", .str "a", .ref p2_9])
    generalize upd H2_9 p2_10 (.tup [.str "in", .str "a", .ref p2_9]) = H2_10 at *
    refine ⟨(show 1 ≤ sizeLine by decide), fun p2_11 n2_11 => ?_⟩
    have s2_11 := same_new (o := .tup [.ref p2_10]) n2_11
    have f2_11 := upd_same (H := H2_10) (a := p2_11) (o := .tup [.ref p2_10])
    generalize upd H2_10 p2_11 (.tup [.ref p2_10]) = H2_11 at *
    refine ⟨(show 2 ≤ sizeLine by decide), fun p2_12 n2_12 => ?_⟩
    have s2_12 := same_new (o := .tup [.ref p2_11, .str "in a"]) n2_12
    have f2_12 := upd_same (H := H2_11) (a := p2_12) (o := .tup [.ref p2_11, .str "in a"])
    generalize upd H2_11 p2_12 (.tup [.ref p2_11, .str "in a"]) = H2_12 at *
    refine ⟨(show 4 ≤ sizeLine by decide), fun p2_13 n2_13 => ?_⟩
    have s2_13 := same_new (o := .lst [.ref p2_2, .ref p2_4, .ref p2_8, .ref p2_12]) n2_13
    have f2_13 := upd_same (H := H2_12) (a := p2_13) (o := .lst [.ref p2_2, .ref p2_4, .ref p2_8, .ref p2_12])
    generalize upd H2_12 p2_13 (.lst [.ref p2_2, .ref p2_4, .ref p2_8, .ref p2_12]) = H2_13 at *
    have S2_13 := Same.refl H2_13
    have S2_12 : Same H2_12 H2_13 := s2_13.trans S2_13
    have S2_11 : Same H2_11 H2_13 := s2_12.trans S2_12
    have S2_10 : Same H2_10 H2_13 := s2_11.trans S2_11
    have S2_9 : Same H2_9 H2_13 := s2_10.trans S2_10
    have S2_8 : Same H2_8 H2_13 := s2_9.trans S2_9
    have S2_7 : Same H2_7 H2_13 := s2_8.trans S2_8
    have S2_6 : Same H2_6 H2_13 := s2_7.trans S2_7
    have S2_5 : Same H2_5 H2_13 := s2_6.trans S2_6
    have S2_4 : Same H2_4 H2_13 := s2_5.trans S2_5
    have S2_3 : Same H2_3 H2_13 := s2_4.trans S2_4
    have S2_2 : Same H2_2 H2_13 := s2_3.trans S2_3
    have S2_1 : Same H2_1 H2_13 := s2_2.trans S2_2
    have S2_0 : Same H2_0 H2_13 := s2_1.trans S2_1
    have it : ∀ v ∈ [V.ref p2_2, V.ref p2_4, V.ref p2_8, V.ref p2_12], Item H2_13 v := by
      intro v hv
      simp only [List.mem_cons, List.not_mem_nil, or_false] at hv
      rcases hv with rfl | rfl | rfl | rfl
      · exact item_mk [] (by decide +kernel) (by decide +kernel) (by decide +kernel) (by first | (simp only [okR, okP, and_true]; done) | (simp only [okR, okP, and_true]; unfold Sh; decide +kernel)) (S2_2 _ _ f2_2) ⟨_, _, rfl, (S2_1 _ _ f2_1), rfl⟩
      · exact item_mk [.oth .room "b" []] (by decide +kernel) (by decide +kernel) (by decide +kernel) (by first | (simp only [okR, okP, and_true]; done) | (simp only [okR, okP, and_true]; unfold Sh; decide +kernel)) (S2_4 _ _ f2_4) ⟨_, _, rfl, (S2_3 _ _ f2_3), ⟨_, _, rfl, (PartAt.mono (STup.of S2_0) _ _ pb2), rfl⟩⟩
      · exact item_mk [.oth .room "b" [.say "a", .oth .room "b" []]] (by decide +kernel) (by decide +kernel) (by decide +kernel) (by first | (simp only [okR, okP, and_true]; done) | (simp only [okR, okP, and_true]; unfold Sh; decide +kernel)) (S2_8 _ _ f2_8) ⟨_, _, rfl, (S2_7 _ _ f2_7), ⟨_, _, rfl, ⟨_, _, _, rfl, (S2_6 _ _ f2_6), (S2_5 _ _ f2_5), ⟨_, _, rfl, (PartAt.mono (STup.of S2_0) _ _ pa2), ⟨_, _, rfl, (PartAt.mono (STup.of S2_0) _ _ pb2), rfl⟩⟩⟩, rfl⟩⟩
      · exact item_mk [.oth .inn "a" []] (by decide +kernel) (by decide +kernel) (by decide +kernel) (by first | (simp only [okR, okP, and_true]; done) | (simp only [okR, okP, and_true]; unfold Sh; decide +kernel)) (S2_12 _ _ f2_12) ⟨_, _, rfl, (S2_11 _ _ f2_11), ⟨_, _, rfl, ⟨_, _, _, rfl, (S2_10 _ _ f2_10), (S2_9 _ _ f2_9), rfl⟩, rfl⟩⟩
    exact ⟨sm2.trans S2_0, va2, vb2, p2_13, _, rfl, PartAt.mono (STup.of S2_0) _ _ pa2, PartAt.mono (STup.of S2_0) _ _ pb2, f2_13, Nat.le_refl _, it⟩
  obtain ⟨sm3, va3, vb3, R3, vs3, rfl, pa3, pb3, hR3, hlv3, hit3⟩ := hm
  refine ⟨fun σ' H' => Same H H' ∧ ∃ va vb R vs, σ' = [some va, some vb, some (.ref R)] ∧ PartAt H' (.say "a") va ∧ PartAt H' (.oth .room "b" []) vb ∧ H' R = some (.lst vs) ∧ vs.length ≤ 6 ∧ ∀ v ∈ vs, Item H' v, ?_, fun σ' H4_0 hm => ?_⟩
  · refine ⟨_, rfl, _, rfl, (show 1 ≤ sizeLine by decide), fun p3_1 n3_1 => ?_⟩
    have s3_1 := same_new (o := .tup [vb3]) n3_1
    have f3_1 := upd_same (H := H3_0) (a := p3_1) (o := .tup [vb3])
    generalize upd H3_0 p3_1 (.tup [vb3]) = H3_1 at *
    refine ⟨(show 3 ≤ sizeLine by decide), fun p3_2 n3_2 => ?_⟩
    have s3_2 := same_new (o := .tup [.str "out", .str "a", .ref p3_1]) n3_2
    have f3_2 := upd_same (H := H3_1) (a := p3_2) (o := .tup [.str "out", .str "a", .ref p3_1])
    generalize upd H3_1 p3_2 (.tup [.str "out", .str "a", .ref p3_1]) = H3_2 at *
    refine ⟨(show 1 ≤ sizeLine by decide), fun p3_3 n3_3 => ?_⟩
    have s3_3 := same_new (o := .tup [.ref p3_2]) n3_3
    have f3_3 := upd_same (H := H3_2) (a := p3_3) (o := .tup [.ref p3_2])
    generalize upd H3_2 p3_3 (.tup [.ref p3_2]) = H3_3 at *
    refine ⟨(show 2 ≤ sizeLine by decide), fun p3_4 n3_4 => ?_⟩
    have s3_4 := same_new (o := .tup [.ref p3_3, .str "out a.b[]"]) n3_4
    have f3_4 := upd_same (H := H3_3) (a := p3_4) (o := .tup [.ref p3_3, .str "out a.b[]"])
    generalize upd H3_3 p3_4 (.tup [.ref p3_3, .str "out a.b[]"]) = H3_4 at *
    refine ⟨_, rfl, _, rfl, (show 2 ≤ sizeLine by decide), fun p3_5 n3_5 => ?_⟩
    have s3_5 := same_new (o := .tup [va3, vb3]) n3_5
    have f3_5 := upd_same (H := H3_4) (a := p3_5) (o := .tup [va3, vb3])
    generalize upd H3_4 p3_5 (.tup [va3, vb3]) = H3_5 at *
    refine ⟨(show 3 ≤ sizeLine by decide), fun p3_6 n3_6 => ?_⟩
    have s3_6 := same_new (o := .tup [.str "open", .str "a", .ref p3_5]) n3_6
    have f3_6 := upd_same (H := H3_5) (a := p3_6) (o := .tup [.str "open", .str "a", .ref p3_5])
    generalize upd H3_5 p3_6 (.tup [.str "open", .str "a", .ref p3_5]) = H3_6 at *
    refine ⟨(show 1 ≤ sizeLine by decide), fun p3_7 n3_7 => ?_⟩
    have s3_7 := same_new (o := .tup [.ref p3_6]) n3_7
    have f3_7 := upd_same (H := H3_6) (a := p3_7) (o := .tup [.ref p3_6])
    generalize upd H3_6 p3_7 (.tup [.ref p3_6]) = H3_7 at *
    refine ⟨(show 2 ≤ sizeLine by decide), fun p3_8 n3_8 => ?_⟩
    have s3_8 := same_new (o := .tup [.ref p3_7, .str "open a.(<a> | b[])"]) n3_8
    have f3_8 := upd_same (H := H3_7) (a := p3_8) (o := .tup [.ref p3_7, .str "open a.(<a> | b[])"])
    generalize upd H3_7 p3_8 (.tup [.ref p3_7, .str "open a.(<a> | b[])"]) = H3_8 at *
    refine ⟨(show 2 ≤ sizeLine by decide), fun p3_9 n3_9 => ?_⟩
    have s3_9 := same_new (o := .lst [.ref p3_4, .ref p3_8]) n3_9
    have f3_9 := upd_same (H := H3_8) (a := p3_9) (o := .lst [.ref p3_4, .ref p3_8])
    generalize upd H3_8 p3_9 (.lst [.ref p3_4, .ref p3_8]) = H3_9 at *
    have S3_9 := Same.refl H3_9
    have S3_8 : Same H3_8 H3_9 := s3_9.trans S3_9
    have S3_7 : Same H3_7 H3_9 := s3_8.trans S3_8
    have S3_6 : Same H3_6 H3_9 := s3_7.trans S3_7
    have S3_5 : Same H3_5 H3_9 := s3_6.trans S3_6
    have S3_4 : Same H3_4 H3_9 := s3_5.trans S3_5
    have S3_3 : Same H3_3 H3_9 := s3_4.trans S3_4
    have S3_2 : Same H3_2 H3_9 := s3_3.trans S3_3
    have S3_1 : Same H3_1 H3_9 := s3_2.trans S3_2
    have S3_0 : Same H3_0 H3_9 := s3_1.trans S3_1
    have it : ∀ v ∈ [V.ref p3_4, V.ref p3_8], Item H3_9 v := by
      intro v hv
      simp only [List.mem_cons, List.not_mem_nil, or_false] at hv
      rcases hv with rfl | rfl
      · exact item_mk [.oth .out "a" [.oth .room "b" []]] (by decide +kernel) (by decide +kernel) (by decide +kernel) (by first | (simp only [okR, okP, and_true]; done) | (simp only [okR, okP, and_true]; unfold Sh; decide +kernel)) (S3_4 _ _ f3_4) ⟨_, _, rfl, (S3_3 _ _ f3_3), ⟨_, _, rfl, ⟨_, _, _, rfl, (S3_2 _ _ f3_2), (S3_1 _ _ f3_1), ⟨_, _, rfl, (PartAt.mono (STup.of S3_0) _ _ pb3), rfl⟩⟩, rfl⟩⟩
      · exact item_mk [.oth .opn "a" [.say "a", .oth .room "b" []]] (by decide +kernel) (by decide +kernel) (by decide +kernel) (by first | (simp only [okR, okP, and_true]; done) | (simp only [okR, okP, and_true]; unfold Sh; decide +kernel)) (S3_8 _ _ f3_8) ⟨_, _, rfl, (S3_7 _ _ f3_7), ⟨_, _, rfl, ⟨_, _, _, rfl, (S3_6 _ _ f3_6), (S3_5 _ _ f3_5), ⟨_, _, rfl, (PartAt.mono (STup.of S3_0) _ _ pa3), ⟨_, _, rfl, (PartAt.mono (STup.of S3_0) _ _ pb3), rfl⟩⟩⟩, rfl⟩⟩
    refine ⟨R3, p3_9, _, _, rfl, rfl, S3_0 _ _ hR3, f3_9, small (by simp only [List.length_cons, List.length_nil]; omega), fun pN nN => ?_⟩
    have sN := same_new (o := .lst (vs3 ++ [.ref p3_4, .ref p3_8])) nN
    refine ⟨sm3.trans (S3_0.trans sN), va3, vb3, pN, _, rfl, PartAt.mono (STup.of (S3_0.trans sN)) _ _ pa3, PartAt.mono (STup.of (S3_0.trans sN)) _ _ pb3, upd_same, by rw [List.length_append]; simp only [List.length_cons, List.length_nil]; omega, fun v hv => ?_⟩
    rcases List.mem_append.mp hv with g | g
    · exact (hit3 v g).mono (STup.of (S3_0.trans sN))
    · exact (it v g).mono (STup.of sN)
  obtain ⟨sm4, va4, vb4, R4, vs4, rfl, pa4, pb4, hR4, hlv4, hit4⟩ := hm
  refine ⟨fun σ' H' => Same H H' ∧ ∃ va vb R vs, σ' = [some va, some vb, some (.ref R)] ∧ PartAt H' (.say "a") va ∧ PartAt H' (.oth .room "b" []) vb ∧ H' R = some (.lst vs) ∧ vs.length ≤ 8 ∧ ∀ v ∈ vs, Item H' v, ?_, fun σ' H5_0 hm => ?_⟩
  · refine ⟨_, rfl, (show 0 ≤ sizeLine by decide), fun p4_1 n4_1 => ?_⟩
    have s4_1 := same_new (o := .tup []) n4_1
    have f4_1 := upd_same (H := H4_0) (a := p4_1) (o := .tup [])
    generalize upd H4_0 p4_1 (.tup []) = H4_1 at *
    refine ⟨(show 3 ≤ sizeLine by decide), fun p4_2 n4_2 => ?_⟩
    have s4_2 := same_new (o := .tup [.str "hear", .str "x", .ref p4_1]) n4_2
    have f4_2 := upd_same (H := H4_1) (a := p4_2) (o := .tup [.str "hear", .str "x", .ref p4_1])
    generalize upd H4_1 p4_2 (.tup [.str "hear", .str "x", .ref p4_1]) = H4_2 at *
    refine ⟨_, rfl, (show 2 ≤ sizeLine by decide), fun p4_3 n4_3 => ?_⟩
    have s4_3 := same_new (o := .tup [.ref p4_2, va4]) n4_3
    have f4_3 := upd_same (H := H4_2) (a := p4_3) (o := .tup [.ref p4_2, va4])
    generalize upd H4_2 p4_3 (.tup [.ref p4_2, va4]) = H4_3 at *
    refine ⟨(show 2 ≤ sizeLine by decide), fun p4_4 n4_4 => ?_⟩
    have s4_4 := same_new (o := .tup [.ref p4_3, .str "(x) | <a>"]) n4_4
    have f4_4 := upd_same (H := H4_3) (a := p4_4) (o := .tup [.ref p4_3, .str "(x) | <a>"])
    generalize upd H4_3 p4_4 (.tup [.ref p4_3, .str "(x) | <a>"]) = H4_4 at *
    refine ⟨(show 2 ≤ sizeLine by decide), fun p4_5 n4_5 => ?_⟩
    have s4_5 := same_new (o := .tup [.str "say", .str "x"]) n4_5
    have f4_5 := upd_same (H := H4_4) (a := p4_5) (o := .tup [.str "say", .str "x"])
    generalize upd H4_4 p4_5 (.tup [.str "say", .str "x"]) = H4_5 at *
    refine ⟨(show 1 ≤ sizeLine by decide), fun p4_6 n4_6 => ?_⟩
    have s4_6 := same_new (o := .tup [.ref p4_5]) n4_6
    have f4_6 := upd_same (H := H4_5) (a := p4_6) (o := .tup [.ref p4_5])
    generalize upd H4_5 p4_6 (.tup [.ref p4_5]) = H4_6 at *
    refine ⟨(show 3 ≤ sizeLine by decide), fun p4_7 n4_7 => ?_⟩
    have s4_7 := same_new (o := .tup [.str "hear", .str "x", .ref p4_6]) n4_7
    have f4_7 := upd_same (H := H4_6) (a := p4_7) (o := .tup [.str "hear", .str "x", .ref p4_6])
    generalize upd H4_6 p4_7 (.tup [.str "hear", .str "x", .ref p4_6]) = H4_7 at *
    refine ⟨(show 1 ≤ sizeLine by decide), fun p4_8 n4_8 => ?_⟩
    have s4_8 := same_new (o := .tup [.ref p4_7]) n4_8
    have f4_8 := upd_same (H := H4_7) (a := p4_8) (o := .tup [.ref p4_7])
    generalize upd H4_7 p4_8 (.tup [.ref p4_7]) = H4_8 at *
    refine ⟨(show 2 ≤ sizeLine by decide), fun p4_9 n4_9 => ?_⟩
    have s4_9 := same_new (o := .tup [.ref p4_8, .str "(x).<x>"]) n4_9
    have f4_9 := upd_same (H := H4_8) (a := p4_9) (o := .tup [.ref p4_8, .str "(x).<x>"])
    generalize upd H4_8 p4_9 (.tup [.ref p4_8, .str "(x).<x>"]) = H4_9 at *
    refine ⟨(show 2 ≤ sizeLine by decide), fun p4_10 n4_10 => ?_⟩
    have s4_10 := same_new (o := .lst [.ref p4_4, .ref p4_9]) n4_10
    have f4_10 := upd_same (H := H4_9) (a := p4_10) (o := .lst [.ref p4_4, .ref p4_9])
    generalize upd H4_9 p4_10 (.lst [.ref p4_4, .ref p4_9]) = H4_10 at *
    have S4_10 := Same.refl H4_10
    have S4_9 : Same H4_9 H4_10 := s4_10.trans S4_10
    have S4_8 : Same H4_8 H4_10 := s4_9.trans S4_9
    have S4_7 : Same H4_7 H4_10 := s4_8.trans S4_8
    have S4_6 : Same H4_6 H4_10 := s4_7.trans S4_7
    have S4_5 : Same H4_5 H4_10 := s4_6.trans S4_6
    have S4_4 : Same H4_4 H4_10 := s4_5.trans S4_5
    have S4_3 : Same H4_3 H4_10 := s4_4.trans S4_4
    have S4_2 : Same H4_2 H4_10 := s4_3.trans S4_3
    have S4_1 : Same H4_1 H4_10 := s4_2.trans S4_2
    have S4_0 : Same H4_0 H4_10 := s4_1.trans S4_1
    have it : ∀ v ∈ [V.ref p4_4, V.ref p4_9], Item H4_10 v := by
      intro v hv
      simp only [List.mem_cons, List.not_mem_nil, or_false] at hv
      rcases hv with rfl | rfl
      · exact item_mk [.oth .hear "x" [], .say "a"] (by decide +kernel) (by decide +kernel) (by decide +kernel) (by first | (simp only [okR, okP, and_true]; done) | (simp only [okR, okP, and_true]; unfold Sh; decide +kernel)) (S4_4 _ _ f4_4) ⟨_, _, rfl, (S4_3 _ _ f4_3), ⟨_, _, rfl, ⟨_, _, _, rfl, (S4_2 _ _ f4_2), (S4_1 _ _ f4_1), rfl⟩, ⟨_, _, rfl, (PartAt.mono (STup.of S4_0) _ _ pa4), rfl⟩⟩⟩
      · exact item_mk [.oth .hear "x" [.say "x"]] (by decide +kernel) (by decide +kernel) (by decide +kernel) (by first | (simp only [okR, okP, and_true]; done) | (simp only [okR, okP, and_true]; unfold Sh; decide +kernel)) (S4_9 _ _ f4_9) ⟨_, _, rfl, (S4_8 _ _ f4_8), ⟨_, _, rfl, ⟨_, _, _, rfl, (S4_7 _ _ f4_7), (S4_6 _ _ f4_6), ⟨_, _, rfl, ⟨_, rfl, (S4_5 _ _ f4_5)⟩, rfl⟩⟩, rfl⟩⟩
    refine ⟨R4, p4_10, _, _, rfl, rfl, S4_0 _ _ hR4, f4_10, small (by simp only [List.length_cons, List.length_nil]; omega), fun pN nN => ?_⟩
    have sN := same_new (o := .lst (vs4 ++ [.ref p4_4, .ref p4_9])) nN
    refine ⟨sm4.trans (S4_0.trans sN), va4, vb4, pN, _, rfl, PartAt.mono (STup.of (S4_0.trans sN)) _ _ pa4, PartAt.mono (STup.of (S4_0.trans sN)) _ _ pb4, upd_same, by rw [List.length_append]; simp only [List.length_cons, List.length_nil]; omega, fun v hv => ?_⟩
    rcases List.mem_append.mp hv with g | g
    · exact (hit4 v g).mono (STup.of (S4_0.trans sN))
    · exact (it v g).mono (STup.of sN)
  obtain ⟨sm5, va5, vb5, R5, vs5, rfl, pa5, pb5, hR5, hlv5, hit5⟩ := hm
  refine ⟨fun σ' H' => Same H H' ∧ ∃ va vb R vs, σ' = [some va, some vb, some (.ref R)] ∧ PartAt H' (.say "a") va ∧ PartAt H' (.oth .room "b" []) vb ∧ H' R = some (.lst vs) ∧ vs.length ≤ 10 ∧ ∀ v ∈ vs, Item H' v, ?_, fun σ' H6_0 hm => ?_⟩
  · refine ⟨_, rfl, (show 0 ≤ sizeLine by decide), fun p5_1 n5_1 => ?_⟩
    have s5_1 := same_new (o := .tup []) n5_1
    have f5_1 := upd_same (H := H5_0) (a := p5_1) (o := .tup [])
    generalize upd H5_0 p5_1 (.tup []) = H5_1 at *
    refine ⟨(show 3 ≤ sizeLine by decide), fun p5_2 n5_2 => ?_⟩
    have s5_2 := same_new (o := .tup [.str "new", .str "k", .ref p5_1]) n5_2
    have f5_2 := upd_same (H := H5_1) (a := p5_2) (o := .tup [.str "new", .str "k", .ref p5_1])
    generalize upd H5_1 p5_2 (.tup [.str "new", .str "k", .ref p5_1]) = H5_2 at *
    refine ⟨(show 1 ≤ sizeLine by decide), fun p5_3 n5_3 => ?_⟩
    have s5_3 := same_new (o := .tup [.ref p5_2]) n5_3
    have f5_3 := upd_same (H := H5_2) (a := p5_3) (o := .tup [.ref p5_2])
    generalize upd H5_2 p5_3 (.tup [.ref p5_2]) = H5_3 at *
    refine ⟨(show 2 ≤ sizeLine by decide), fun p5_4 n5_4 => ?_⟩
    have s5_4 := same_new (o := .tup [.ref p5_3, .str "new k 0"]) n5_4
    have f5_4 := upd_same (H := H5_3) (a := p5_4) (o := .tup [.ref p5_3, .str "new k 0"])
    generalize upd H5_3 p5_4 (.tup [.ref p5_3, .str "new k 0"]) = H5_4 at *
    refine ⟨_, rfl, _, rfl, (show 2 ≤ sizeLine by decide), fun p5_5 n5_5 => ?_⟩
    have s5_5 := same_new (o := .tup [va5, vb5]) n5_5
    have f5_5 := upd_same (H := H5_4) (a := p5_5) (o := .tup [va5, vb5])
    generalize upd H5_4 p5_5 (.tup [va5, vb5]) = H5_5 at *
    refine ⟨(show 3 ≤ sizeLine by decide), fun p5_6 n5_6 => ?_⟩
    have s5_6 := same_new (o := .tup [.str "new", .str "k", .ref p5_5]) n5_6
    have f5_6 := upd_same (H := H5_5) (a := p5_6) (o := .tup [.str "new", .str "k", .ref p5_5])
    generalize upd H5_5 p5_6 (.tup [.str "new", .str "k", .ref p5_5]) = H5_6 at *
    refine ⟨(show 1 ≤ sizeLine by decide), fun p5_7 n5_7 => ?_⟩
    have s5_7 := same_new (o := .tup [.ref p5_6]) n5_7
    have f5_7 := upd_same (H := H5_6) (a := p5_7) (o := .tup [.ref p5_6])
    generalize upd H5_6 p5_7 (.tup [.ref p5_6]) = H5_7 at *
    refine ⟨(show 2 ≤ sizeLine by decide), fun p5_8 n5_8 => ?_⟩
    have s5_8 := same_new (o := .tup [.ref p5_7, .str "new k (<a> | b[])"]) n5_8
    have f5_8 := upd_same (H := H5_7) (a := p5_8) (o := .tup [.ref p5_7, .str "new k (<a> | b[])"])
    generalize upd H5_7 p5_8 (.tup [.ref p5_7, .str "new k (<a> | b[])"]) = H5_8 at *
    refine ⟨(show 2 ≤ sizeLine by decide), fun p5_9 n5_9 => ?_⟩
    have s5_9 := same_new (o := .lst [.ref p5_4, .ref p5_8]) n5_9
    have f5_9 := upd_same (H := H5_8) (a := p5_9) (o := .lst [.ref p5_4, .ref p5_8])
    generalize upd H5_8 p5_9 (.lst [.ref p5_4, .ref p5_8]) = H5_9 at *
    have S5_9 := Same.refl H5_9
    have S5_8 : Same H5_8 H5_9 := s5_9.trans S5_9
    have S5_7 : Same H5_7 H5_9 := s5_8.trans S5_8
    have S5_6 : Same H5_6 H5_9 := s5_7.trans S5_7
    have S5_5 : Same H5_5 H5_9 := s5_6.trans S5_6
    have S5_4 : Same H5_4 H5_9 := s5_5.trans S5_5
    have S5_3 : Same H5_3 H5_9 := s5_4.trans S5_4
    have S5_2 : Same H5_2 H5_9 := s5_3.trans S5_3
    have S5_1 : Same H5_1 H5_9 := s5_2.trans S5_2
    have S5_0 : Same H5_0 H5_9 := s5_1.trans S5_1
    have it : ∀ v ∈ [V.ref p5_4, V.ref p5_8], Item H5_9 v := by
      intro v hv
      simp only [List.mem_cons, List.not_mem_nil, or_false] at hv
      rcases hv with rfl | rfl
      · exact item_mk [.oth .new "k" []] (by decide +kernel) (by decide +kernel) (by decide +kernel) (by first | (simp only [okR, okP, and_true]; done) | (simp only [okR, okP, and_true]; unfold Sh; decide +kernel)) (S5_4 _ _ f5_4) ⟨_, _, rfl, (S5_3 _ _ f5_3), ⟨_, _, rfl, ⟨_, _, _, rfl, (S5_2 _ _ f5_2), (S5_1 _ _ f5_1), rfl⟩, rfl⟩⟩
      · exact item_mk [.oth .new "k" [.say "a", .oth .room "b" []]] (by decide +kernel) (by decide +kernel) (by decide +kernel) (by first | (simp only [okR, okP, and_true]; done) | (simp only [okR, okP, and_true]; unfold Sh; decide +kernel)) (S5_8 _ _ f5_8) ⟨_, _, rfl, (S5_7 _ _ f5_7), ⟨_, _, rfl, ⟨_, _, _, rfl, (S5_6 _ _ f5_6), (S5_5 _ _ f5_5), ⟨_, _, rfl, (PartAt.mono (STup.of S5_0) _ _ pa5), ⟨_, _, rfl, (PartAt.mono (STup.of S5_0) _ _ pb5), rfl⟩⟩⟩, rfl⟩⟩
    refine ⟨R5, p5_9, _, _, rfl, rfl, S5_0 _ _ hR5, f5_9, small (by simp only [List.length_cons, List.length_nil]; omega), fun pN nN => ?_⟩
    have sN := same_new (o := .lst (vs5 ++ [.ref p5_4, .ref p5_8])) nN
    refine ⟨sm5.trans (S5_0.trans sN), va5, vb5, pN, _, rfl, PartAt.mono (STup.of (S5_0.trans sN)) _ _ pa5, PartAt.mono (STup.of (S5_0.trans sN)) _ _ pb5, upd_same, by rw [List.length_append]; simp only [List.length_cons, List.length_nil]; omega, fun v hv => ?_⟩
    rcases List.mem_append.mp hv with g | g
    · exact (hit5 v g).mono (STup.of (S5_0.trans sN))
    · exact (it v g).mono (STup.of sN)
  obtain ⟨sm6, va6, vb6, R6, vs6, rfl, pa6, pb6, hR6, hlv6, hit6⟩ := hm
  refine ⟨fun σ' H' => Same H H' ∧ ∃ va vb R vs, σ' = [some va, some vb, some (.ref R)] ∧ PartAt H' (.say "a") va ∧ PartAt H' (.oth .room "b" []) vb ∧ H' R = some (.lst vs) ∧ vs.length ≤ 11 ∧ ∀ v ∈ vs, Item H' v, ?_, fun σ' H7_0 hm => ?_⟩
  · refine ⟨_, rfl, (show 0 ≤ sizeLine by decide), fun p6_1 n6_1 => ?_⟩
    have s6_1 := same_new (o := .tup []) n6_1
    have f6_1 := upd_same (H := H6_0) (a := p6_1) (o := .tup [])
    generalize upd H6_0 p6_1 (.tup []) = H6_1 at *
    refine ⟨(show 3 ≤ sizeLine by decide), fun p6_2 n6_2 => ?_⟩
    have s6_2 := same_new (o := .tup [.str "in", .str "outer", .ref p6_1]) n6_2
    have f6_2 := upd_same (H := H6_1) (a := p6_2) (o := .tup [.str "in", .str "outer", .ref p6_1])
    generalize upd H6_1 p6_2 (.tup [.str "in", .str "outer", .ref p6_1]) = H6_2 at *
    refine ⟨(show 1 ≤ sizeLine by decide), fun p6_3 n6_3 => ?_⟩
    have s6_3 := same_new (o := .tup [.ref p6_2]) n6_3
    have f6_3 := upd_same (H := H6_2) (a := p6_3) (o := .tup [.ref p6_2])
    generalize upd H6_2 p6_3 (.tup [.ref p6_2]) = H6_3 at *
    refine ⟨(show 3 ≤ sizeLine by decide), fun p6_4 n6_4 => ?_⟩
    have s6_4 := same_new (o := .tup [.str "room", .str "inn", .ref p6_3]) n6_4
    have f6_4 := upd_same (H := H6_3) (a := p6_4) (o := .tup [.str "room", .str "inn", .ref p6_3])
    generalize upd H6_3 p6_4 (.tup [.str "room", .str "inn", .ref p6_3]) = H6_4 at *
    refine ⟨(show 1 ≤ sizeLine by decide), fun p6_5 n6_5 => ?_⟩
    have s6_5 := same_new (o := .tup [.ref p6_4]) n6_5
    have f6_5 := upd_same (H := H6_4) (a := p6_5) (o := .tup [.ref p6_4])
    generalize upd H6_4 p6_5 (.tup [.ref p6_4]) = H6_5 at *
    refine ⟨(show 2 ≤ sizeLine by decide), fun p6_6 n6_6 => ?_⟩
    have s6_6 := same_new (o := .tup [.ref p6_5, .str "inn[in outer]"]) n6_6
    have f6_6 := upd_same (H := H6_5) (a := p6_6) (o := .tup [.ref p6_5, .str "inn[in outer]"])
    generalize upd H6_5 p6_6 (.tup [.ref p6_5, .str "inn[in outer]"]) = H6_6 at *
    refine ⟨(show 1 ≤ sizeLine by decide), fun p6_7 n6_7 => ?_⟩
    have s6_7 := same_new (o := .lst [.ref p6_6]) n6_7
    have f6_7 := upd_same (H := H6_6) (a := p6_7) (o := .lst [.ref p6_6])
    generalize upd H6_6 p6_7 (.lst [.ref p6_6]) = H6_7 at *
    have S6_7 := Same.refl H6_7
    have S6_6 : Same H6_6 H6_7 := s6_7.trans S6_7
    have S6_5 : Same H6_5 H6_7 := s6_6.trans S6_6
    have S6_4 : Same H6_4 H6_7 := s6_5.trans S6_5
    have S6_3 : Same H6_3 H6_7 := s6_4.trans S6_4
    have S6_2 : Same H6_2 H6_7 := s6_3.trans S6_3
    have S6_1 : Same H6_1 H6_7 := s6_2.trans S6_2
    have S6_0 : Same H6_0 H6_7 := s6_1.trans S6_1
    have it : ∀ v ∈ [V.ref p6_6], Item H6_7 v := by
      intro v hv
      simp only [List.mem_cons, List.not_mem_nil, or_false] at hv
      rcases hv with rfl
      · exact item_mk [.oth .room "inn" [.oth .inn "outer" []]] (by decide +kernel) (by decide +kernel) (by decide +kernel) (by first | (simp only [okR, okP, and_true]; done) | (simp only [okR, okP, and_true]; unfold Sh; decide +kernel)) (S6_6 _ _ f6_6) ⟨_, _, rfl, (S6_5 _ _ f6_5), ⟨_, _, rfl, ⟨_, _, _, rfl, (S6_4 _ _ f6_4), (S6_3 _ _ f6_3), ⟨_, _, rfl, ⟨_, _, _, rfl, (S6_2 _ _ f6_2), (S6_1 _ _ f6_1), rfl⟩, rfl⟩⟩, rfl⟩⟩
    refine ⟨R6, p6_7, _, _, rfl, rfl, S6_0 _ _ hR6, f6_7, small (by simp only [List.length_cons, List.length_nil]; omega), fun pN nN => ?_⟩
    have sN := same_new (o := .lst (vs6 ++ [.ref p6_6])) nN
    refine ⟨sm6.trans (S6_0.trans sN), va6, vb6, pN, _, rfl, PartAt.mono (STup.of (S6_0.trans sN)) _ _ pa6, PartAt.mono (STup.of (S6_0.trans sN)) _ _ pb6, upd_same, by rw [List.length_append]; simp only [List.length_cons, List.length_nil]; omega, fun v hv => ?_⟩
    rcases List.mem_append.mp hv with g | g
    · exact (hit6 v g).mono (STup.of (S6_0.trans sN))
    · exact (it v g).mono (STup.of sN)
  obtain ⟨sm7, va7, vb7, R7, vs7, rfl, pa7, pb7, hR7, hlv7, hit7⟩ := hm
  refine ⟨fun σ' H' => Same H H' ∧ ∃ va vb R vs, σ' = [some va, some vb, some (.ref R)] ∧ PartAt H' (.say "a") va ∧ PartAt H' (.oth .room "b" []) vb ∧ H' R = some (.lst vs) ∧ vs.length ≤ 12 ∧ ∀ v ∈ vs, Item H' v, ?_, fun σ' H8_0 hm => ?_⟩
  · refine ⟨_, rfl, (show 2 ≤ sizeLine by decide), fun p7_1 n7_1 => ?_⟩
    have s7_1 := same_new (o := .tup [.str "say", .str "newer"]) n7_1
    have f7_1 := upd_same (H := H7_0) (a := p7_1) (o := .tup [.str "say", .str "newer"])
    generalize upd H7_0 p7_1 (.tup [.str "say", .str "newer"]) = H7_1 at *
    refine ⟨(show 1 ≤ sizeLine by decide), fun p7_2 n7_2 => ?_⟩
    have s7_2 := same_new (o := .tup [.ref p7_1]) n7_2
    have f7_2 := upd_same (H := H7_1) (a := p7_2) (o := .tup [.ref p7_1])
    generalize upd H7_1 p7_2 (.tup [.ref p7_1]) = H7_2 at *
    refine ⟨(show 3 ≤ sizeLine by decide), fun p7_3 n7_3 => ?_⟩
    have s7_3 := same_new (o := .tup [.str "new", .str "newer", .ref p7_2]) n7_3
    have f7_3 := upd_same (H := H7_2) (a := p7_3) (o := .tup [.str "new", .str "newer", .ref p7_2])
    generalize upd H7_2 p7_3 (.tup [.str "new", .str "newer", .ref p7_2]) = H7_3 at *
    refine ⟨(show 1 ≤ sizeLine by decide), fun p7_4 n7_4 => ?_⟩
    have s7_4 := same_new (o := .tup [.ref p7_3]) n7_4
    have f7_4 := upd_same (H := H7_3) (a := p7_4) (o := .tup [.ref p7_3])
    generalize upd H7_3 p7_4 (.tup [.ref p7_3]) = H7_4 at *
    refine ⟨(show 2 ≤ sizeLine by decide), fun p7_5 n7_5 => ?_⟩
    have s7_5 := same_new (o := .tup [.ref p7_4, .str "new newer <newer>"]) n7_5
    have f7_5 := upd_same (H := H7_4) (a := p7_5) (o := .tup [.ref p7_4, .str "new newer <newer>"])
    generalize upd H7_4 p7_5 (.tup [.ref p7_4, .str "new newer <newer>"]) = H7_5 at *
    refine ⟨(show 1 ≤ sizeLine by decide), fun p7_6 n7_6 => ?_⟩
    have s7_6 := same_new (o := .lst [.ref p7_5]) n7_6
    have f7_6 := upd_same (H := H7_5) (a := p7_6) (o := .lst [.ref p7_5])
    generalize upd H7_5 p7_6 (.lst [.ref p7_5]) = H7_6 at *
    have S7_6 := Same.refl H7_6
    have S7_5 : Same H7_5 H7_6 := s7_6.trans S7_6
    have S7_4 : Same H7_4 H7_6 := s7_5.trans S7_5
    have S7_3 : Same H7_3 H7_6 := s7_4.trans S7_4
    have S7_2 : Same H7_2 H7_6 := s7_3.trans S7_3
    have S7_1 : Same H7_1 H7_6 := s7_2.trans S7_2
    have S7_0 : Same H7_0 H7_6 := s7_1.trans S7_1
    have it : ∀ v ∈ [V.ref p7_5], Item H7_6 v := by
      intro v hv
      simp only [List.mem_cons, List.not_mem_nil, or_false] at hv
      rcases hv with rfl
      · exact item_mk [.oth .new "newer" [.say "newer"]] (by decide +kernel) (by decide +kernel) (by decide +kernel) (by first | (simp only [okR, okP, and_true]; done) | (simp only [okR, okP, and_true]; unfold Sh; decide +kernel)) (S7_5 _ _ f7_5) ⟨_, _, rfl, (S7_4 _ _ f7_4), ⟨_, _, rfl, ⟨_, _, _, rfl, (S7_3 _ _ f7_3), (S7_2 _ _ f7_2), ⟨_, _, rfl, ⟨_, rfl, (S7_1 _ _ f7_1)⟩, rfl⟩⟩, rfl⟩⟩
    refine ⟨R7, p7_6, _, _, rfl, rfl, S7_0 _ _ hR7, f7_6, small (by simp only [List.length_cons, List.length_nil]; omega), fun pN nN => ?_⟩
    have sN := same_new (o := .lst (vs7 ++ [.ref p7_5])) nN
    refine ⟨sm7.trans (S7_0.trans sN), va7, vb7, pN, _, rfl, PartAt.mono (STup.of (S7_0.trans sN)) _ _ pa7, PartAt.mono (STup.of (S7_0.trans sN)) _ _ pb7, upd_same, by rw [List.length_append]; simp only [List.length_cons, List.length_nil]; omega, fun v hv => ?_⟩
    rcases List.mem_append.mp hv with g | g
    · exact (hit7 v g).mono (STup.of (S7_0.trans sN))
    · exact (it v g).mono (STup.of sN)
  obtain ⟨sm8, va8, vb8, R8, vs8, rfl, pa8, pb8, hR8, hlv8, hit8⟩ := hm
  refine ⟨fun σ' H' => Same H H' ∧ ∃ va vb R vs, σ' = [some va, some vb, some (.ref R)] ∧ PartAt H' (.say "a") va ∧ PartAt H' (.oth .room "b" []) vb ∧ H' R = some (.lst vs) ∧ vs.length ≤ 14 ∧ ∀ v ∈ vs, Item H' v, ?_, fun σ' H9_0 hm => ?_⟩
  · refine ⟨_, rfl, (show 0 ≤ sizeLine by decide), fun p8_1 n8_1 => ?_⟩
    have s8_1 := same_new (o := .tup []) n8_1
    have f8_1 := upd_same (H := H8_0) (a := p8_1) (o := .tup [])
    generalize upd H8_0 p8_1 (.tup []) = H8_1 at *
    refine ⟨(show 3 ≤ sizeLine by decide), fun p8_2 n8_2 => ?_⟩
    have s8_2 := same_new (o := .tup [.str "hear", .str "x", .ref p8_1]) n8_2
    have f8_2 := upd_same (H := H8_1) (a := p8_2) (o := .tup [.str "hear", .str "x", .ref p8_1])
    generalize upd H8_1 p8_2 (.tup [.str "hear", .str "x", .ref p8_1]) = H8_2 at *
    refine ⟨(show 1 ≤ sizeLine by decide), fun p8_3 n8_3 => ?_⟩
    have s8_3 := same_new (o := .tup [.ref p8_2]) n8_3
    have f8_3 := upd_same (H := H8_2) (a := p8_3) (o := .tup [.ref p8_2])
    generalize upd H8_2 p8_3 (.tup [.ref p8_2]) = H8_3 at *
    refine ⟨(show 2 ≤ sizeLine by decide), fun p8_4 n8_4 => ?_⟩
    have s8_4 := same_new (o := .tup [.str "again", .ref p8_3]) n8_4
    have f8_4 := upd_same (H := H8_3) (a := p8_4) (o := .tup [.str "again", .ref p8_3])
    generalize upd H8_3 p8_4 (.tup [.str "again", .ref p8_3]) = H8_4 at *
    refine ⟨(show 1 ≤ sizeLine by decide), fun p8_5 n8_5 => ?_⟩
    have s8_5 := same_new (o := .tup [.ref p8_4]) n8_5
    have f8_5 := upd_same (H := H8_4) (a := p8_5) (o := .tup [.ref p8_4])
    generalize upd H8_4 p8_5 (.tup [.ref p8_4]) = H8_5 at *
    refine ⟨(show 2 ≤ sizeLine by decide), fun p8_6 n8_6 => ?_⟩
    have s8_6 := same_new (o := .tup [.ref p8_5, .str "!(x)"]) n8_6
    have f8_6 := upd_same (H := H8_5) (a := p8_6) (o := .tup [.ref p8_5, .str "!(x)"])
    generalize upd H8_5 p8_6 (.tup [.ref p8_5, .str "!(x)"]) = H8_6 at *
    refine ⟨(show 0 ≤ sizeLine by decide), fun p8_7 n8_7 => ?_⟩
    have s8_7 := same_new (o := .tup []) n8_7
    have f8_7 := upd_same (H := H8_6) (a := p8_7) (o := .tup [])
    generalize upd H8_6 p8_7 (.tup []) = H8_7 at *
    refine ⟨(show 2 ≤ sizeLine by decide), fun p8_8 n8_8 => ?_⟩
    have s8_8 := same_new (o := .tup [.str "again", .ref p8_7]) n8_8
    have f8_8 := upd_same (H := H8_7) (a := p8_8) (o := .tup [.str "again", .ref p8_7])
    generalize upd H8_7 p8_8 (.tup [.str "again", .ref p8_7]) = H8_8 at *
    refine ⟨(show 1 ≤ sizeLine by decide), fun p8_9 n8_9 => ?_⟩
    have s8_9 := same_new (o := .tup [.ref p8_8]) n8_9
    have f8_9 := upd_same (H := H8_8) (a := p8_9) (o := .tup [.ref p8_8])
    generalize upd H8_8 p8_9 (.tup [.ref p8_8]) = H8_9 at *
    refine ⟨(show 2 ≤ sizeLine by decide), fun p8_10 n8_10 => ?_⟩
    have s8_10 := same_new (o := .tup [.ref p8_9, .str "!0"]) n8_10
    have f8_10 := upd_same (H := H8_9) (a := p8_10) (o := .tup [.ref p8_9, .str "!0"])
    generalize upd H8_9 p8_10 (.tup [.ref p8_9, .str "!0"]) = H8_10 at *
    refine ⟨(show 2 ≤ sizeLine by decide), fun p8_11 n8_11 => ?_⟩
    have s8_11 := same_new (o := .lst [.ref p8_6, .ref p8_10]) n8_11
    have f8_11 := upd_same (H := H8_10) (a := p8_11) (o := .lst [.ref p8_6, .ref p8_10])
    generalize upd H8_10 p8_11 (.lst [.ref p8_6, .ref p8_10]) = H8_11 at *
    have S8_11 := Same.refl H8_11
    have S8_10 : Same H8_10 H8_11 := s8_11.trans S8_11
    have S8_9 : Same H8_9 H8_11 := s8_10.trans S8_10
    have S8_8 : Same H8_8 H8_11 := s8_9.trans S8_9
    have S8_7 : Same H8_7 H8_11 := s8_8.trans S8_8
    have S8_6 : Same H8_6 H8_11 := s8_7.trans S8_7
    have S8_5 : Same H8_5 H8_11 := s8_6.trans S8_6
    have S8_4 : Same H8_4 H8_11 := s8_5.trans S8_5
    have S8_3 : Same H8_3 H8_11 := s8_4.trans S8_4
    have S8_2 : Same H8_2 H8_11 := s8_3.trans S8_3
    have S8_1 : Same H8_1 H8_11 := s8_2.trans S8_2
    have S8_0 : Same H8_0 H8_11 := s8_1.trans S8_1
    have it : ∀ v ∈ [V.ref p8_6, V.ref p8_10], Item H8_11 v := by
      intro v hv
      simp only [List.mem_cons, List.not_mem_nil, or_false] at hv
      rcases hv with rfl | rfl
      · exact item_mk [.again [.oth .hear "x" []]] (by decide +kernel) (by decide +kernel) (by decide +kernel) (by first | (simp only [okR, okP, and_true]; done) | (simp only [okR, okP, and_true]; unfold Sh; decide +kernel)) (S8_6 _ _ f8_6) ⟨_, _, rfl, (S8_5 _ _ f8_5), ⟨_, _, rfl, ⟨_, _, _, rfl, (S8_4 _ _ f8_4), (S8_3 _ _ f8_3), ⟨_, _, rfl, ⟨_, _, _, rfl, (S8_2 _ _ f8_2), (S8_1 _ _ f8_1), rfl⟩, rfl⟩⟩, rfl⟩⟩
      · exact item_mk [.again []] (by decide +kernel) (by decide +kernel) (by decide +kernel) (by first | (simp only [okR, okP, and_true]; done) | (simp only [okR, okP, and_true]; unfold Sh; decide +kernel)) (S8_10 _ _ f8_10) ⟨_, _, rfl, (S8_9 _ _ f8_9), ⟨_, _, rfl, ⟨_, _, _, rfl, (S8_8 _ _ f8_8), (S8_7 _ _ f8_7), rfl⟩, rfl⟩⟩
    refine ⟨R8, p8_11, _, _, rfl, rfl, S8_0 _ _ hR8, f8_11, small (by simp only [List.length_cons, List.length_nil]; omega), fun pN nN => ?_⟩
    have sN := same_new (o := .lst (vs8 ++ [.ref p8_6, .ref p8_10])) nN
    refine ⟨sm8.trans (S8_0.trans sN), va8, vb8, pN, _, rfl, PartAt.mono (STup.of (S8_0.trans sN)) _ _ pa8, PartAt.mono (STup.of (S8_0.trans sN)) _ _ pb8, upd_same, by rw [List.length_append]; simp only [List.length_cons, List.length_nil]; omega, fun v hv => ?_⟩
    rcases List.mem_append.mp hv with g | g
    · exact (hit8 v g).mono (STup.of (S8_0.trans sN))
    · exact (it v g).mono (STup.of sN)
  obtain ⟨sm9, va9, vb9, R9, vs9, rfl, pa9, pb9, hR9, hlv9, hit9⟩ := hm
  exact ⟨_, rfl, q _ _ _ sm9 hR9 (by omega) hit9⟩
end
end K6

set_option Elab.async false
set_option linter.all false
set_option maxRecDepth 100000
set_option maxHeartbeats 4000000
namespace K6
open PySem PySem.Spec PyProof.Rows L2 Wk
abbrev sLaw : Stmt := topS 22
abbrev nmLaw : List Str := ["_law_script", "_law_row_here", "_law_cell", "_law_left_here", "_law_names_here", "_law_house", "_law_other", "_law_found", "_law_text", "_law_part_here"]
theorem scLaw : FnScope nmLaw ["_law_script"] (defScope sLaw) := ⟨rfl, rfl, rfl, by decide +kernel, rfl, by decide +kernel, by decide +kernel⟩
def spLaw (K : PySem.W.Frag) : Sp := fun vs H Q _ => ∃ (a : Addr) (ns : List Int), vs = [.ref a] ∧ SqL K H a (ns.map V.int) ∧ ns.length ≤ 63 ∧ ∀ H', Q (.bl true) H'
theorem nsay : (!decide (V.str "say" = V.str "say")) = false := by decide +kernel
theorem nwsay (w : Wd) : (!decide (V.str w.str = V.str "say")) = true := by rw [wd_say w]; rfl
theorem atI_last1 {α : Type} {xs : List α} {v : α} {k : Nat} (hk : xs.length = k + 1) (h : xs[k]? = some v) : atI xs (-1) = some v := by
  unfold atI ixN
  rw [if_neg (by omega), if_pos (by omega), show ((-1 : Int) + (xs.length : Int)).toNat = k by omega]
  exact h
theorem ne_same {z : Str} : (!decide (V.str z = V.str z)) = false := by rw [decide_eq_true rfl]; rfl
section
variable {P : Program} {w : World} {K : PySem.W.Frag} {mg : Str → Option Value} {base : Heap}
theorem ok_law {f f1 f2 f3 f4 f5 f6 f7 f8 : Addr} {fd d1 d2 d3 d4 d5 d6 d7 d8 : FuncData} (F : Fun K "law" "law" sLaw f fd)
    (G1 : FnOk P w K mg base CX0 1 f1 d1 ["_law_cell"] spLeft) (b1 : Binds K d1 ["_law_cell"] []) (k1 : PySem.W.keepIn K (.ref f1) = true) (m1 : mg "_law_left" = some (.ref f1))
    (G2 : FnOk P w K mg base CX0 1 f2 d2 ["_law_left_here", "_law_many"] spDigit) (b2 : Binds K d2 ["_law_left_here", "_law_many"] []) (k2 : PySem.W.keepIn K (.ref f2) = true) (m2 : mg "_law_digit" = some (.ref f2))
    (G3 : FnOk P w K mg base CX0 2 f3 d3 ["_law_left_here", "_law_many"] spNames) (b3 : Binds K d3 ["_law_left_here", "_law_many"] []) (k3 : PySem.W.keepIn K (.ref f3) = true) (m3 : mg "_law_names" = some (.ref f3))
    (G4 : FnOk P w K mg base CX0 11 f4 d4 ps4 (spRow 5)) (b4 : Binds K d4 ps4 []) (k4 : PySem.W.keepIn K (.ref f4) = true) (m4 : mg "_law_row" = some (.ref f4))
    (G5 : FnOk P w K mg base CX0 13 f5 d5 ps3 (spCalled 6)) (b5 : Binds K d5 ps3 []) (k5 : PySem.W.keepIn K (.ref f5) = true) (m5 : mg "called" = some (.ref f5))
    (G6 : FnOk P w K mg base CX0 32 f6 d6 ["row"] (spT shT 6)) (b6 : Binds K d6 ["row"] []) (k6 : PySem.W.keepIn K (.ref f6) = true) (m6 : mg "shown" = some (.ref f6))
    (G7 : FnOk P w K mg base CX0 19 f7 d7 rh (spT shT 6)) (b7 : Binds K d7 rh []) (k7 : PySem.W.keepIn K (.ref f7) = true) (m7 : mg "_law_shown" = some (.ref f7))
    (G8 : FnOk P w K mg base CX0 1 f8 d8 [] spFixed) (b8 : Binds K d8 [] []) (k8 : PySem.W.keepIn K (.ref f8) = true) (m8 : mg "_law_fixed" = some (.ref f8))
    (ms : mg "str" = none) (mi : mg "isinstance" = none) :
    FnOk P w K mg base CX0 33 f fd ["_law_script"] (spLaw K) := by
  refine F.ok scLaw (fun vs H Q E h => ?_) (fun cdv A outer s H vs Q E hr h => ?_)
  · obtain ⟨a, ns, rfl, _⟩ := h
    rfl
  obtain ⟨a, ns, rfl, hS, hlen, q⟩ := h
  have r1 : Room 1 _ := hr.mono (by decide)
  refine ⟨_, pss_cons (ps_if (pt_cmpR (op_neD hr.units) (pe_lc (own := [("_law_row_here", 1), ("_law_text", 8)]) (g := gTup K 2 (gCons (gName 1) (gCons (gName 8) gNil)))
        (tt := tOr (tTest (tOp rNe (tCall (spT shT 6) [] E0 (tCons (tVar 1) tNil)) (tVar 8))) (tTest (tOp rNe (tCall (spT shT 6) [] E0 (tCons (tVar 1) tNil)) (tVar 8)))) (te := tVar 8) (by rfl) scLaw.nd
        (pi_list (pe_call0 G8 r1 (by rfl) m8 k8 b8 .nil pass0)) (blkOk_by (own := [("_law_row_here", 1), ("_law_text", 8)]) (N := nmLaw) (sc := defScope sLaw) (by decide +kernel))
        (fun _ _ _ _ _ => pg_tup rfl (pgs_cons (pg_name (i := 1) scLaw.nd rfl (Or.inl rfl)) (pgs_cons (pg_name (i := 8) scLaw.nd rfl (Or.inl rfl)) pgs_nil)))
        (fun _ _ _ _ _ => pts_one (PW.pt (pw_or (pt_cmpR op_ne (pe_call G6 hr (by rfl) m6 k6 b6 .nil pass0 (pa_cons (pv 1) pa_nil)) (pv 8) (nomark _)) (pw_or1 (pt_cmpR op_ne (pe_call G7 (hr.mono (by decide)) (by rfl) m7 k7 b7 .nil pass0 (pa_cons (pv 1) pa_nil)) (pv 8) (nomark _))))))
        (fun _ _ _ _ _ => pv 8)) (pe_lst pa_nil) (nomark _)) (pss_one (ps_ret pe_bl)) pss_nil)
    (pss_cons (ps_for PassesOwn.never rfl (pi_list (pe_op op_cat (pe_slice sl_list (pv 0) po_none (po_some pe_int)) (pe_lst (pa_cons pe_int pa_nil)))) (pg_name (i := 2) scLaw.nd rfl (.inl rfl))
      (pss_cons (ps_set (i := 3) scLaw.nd rfl (.inl rfl) (pe_call G1 r1 (by rfl) m1 k1 b1 .nil pass0 (pa_cons (pv 2) pa_nil)))
      (pss_cons (ps_set (i := 4) scLaw.nd rfl (.inl rfl) (pe_call G3 (hr.mono (by decide)) (by rfl) m3 k3 b3 .nil pass0 (pa_cons (pv 3) (pa_cons pe_int pa_nil))))
      (pss_cons (ps_set (i := 5) scLaw.nd rfl (.inl rfl) (pe_call G4 (hr.mono (by decide)) (by rfl) m4 k4 b4 .nil pass0 (pa_cons (pv 3) (pa_cons pe_int (pa_cons (pe_slice sl_list (pv 4) po_none (po_some pe_int)) (pa_cons (pe_slice sl_list (pv 4) (po_some pe_int) po_none) pa_nil))))))
      (pss_cons (ps_set (i := 6) scLaw.nd rfl (.inl rfl) (pe_call G5 (hr.mono (by decide)) (by rfl) m5 k5 b5 .nil pass0 (pa_cons (pv 5) (pa_cons (pe_ix ix_list (pv 4) pe_int (fun _ _ => rfl)) (pa_cons
          (pe_op op_add_str (pe_op op_add_str (pe_ix ix_list (pv 4) pe_int (fun _ _ => rfl)) pe_str) (pe_callTy call_str_int (by rfl) ms (by decide +kernel) (pa_cons (pe_op op_add pe_int (pe_call G2 r1 (by rfl) m2 k2 b2 .nil pass0 (pa_cons (pv 3) (pa_cons pe_int pa_nil)))) pa_nil))) pa_nil)))))
      (pss_one (ps_for PassesOwn.never rfl (pi_list (pe_op op_cat (pe_lst (pa_cons (pv 5) (pa_cons (pv 6) pa_nil))) (pe_lc (own := [("_law_part_here", 9)]) (g := gName 9) (tt := tTest (tOp rNe (tOp (rIxT K) (tVar 9) (tC (.int 0))) (tC (.str "say"))))
            (te := tOp (rIxT K) (tVar 9) (tUn (rU fun i => .int (-i)) (tC (.int 1)))) (by rfl) scLaw.nd (pi_tup (pv 5))
            (blkOk_by (own := [("_law_part_here", 9)]) (N := nmLaw) (sc := defScope sLaw) (by decide +kernel)) (fun _ _ _ _ _ => pg_name (i := 9) scLaw.nd rfl (Or.inl rfl)) (fun _ _ _ _ _ => pts_one (pt_cmpR op_ne (pe_ix ix_tup (pv 9) pe_int (fun _ _ => rfl)) pe_str (nomark _)))
            (fun _ _ _ _ _ => pe_ix ix_tup (pv 9) (pe_un un_neg pe_int) (fun _ _ => rfl))))) (pg_name (i := 1) scLaw.nd rfl (.inl rfl))
        (pss_cons (ps_set (i := 7) scLaw.nd rfl (.inl rfl) (pe_call G6 hr (by rfl) m6 k6 b6 .nil pass0 (pa_cons (pv 1) pa_nil)))
        (pss_one (ps_if (PW.pt (pw_or (pt_not (pt_val (pe_callB call_isi (by rfl) mi (by decide +kernel) (pa_cons (pv 7) (pa_cons (pe_bltn (v := .ty "str") (by rfl) ms (by decide +kernel) rfl) pa_nil)))))
            (pw_or1 (pt_cmpR op_ne (pv 7) (pe_call G7 (hr.mono (by decide)) (by rfl) m7 k7 b7 .nil pass0 (pa_cons (pv 1) pa_nil)) (nomark _))))) (pss_one (ps_ret pe_bl)) pss_nil))))))))))
    (pss_one (ps_ret pe_bl))), ?_⟩
  -- the written ones
  refine ⟨rfl, fun H1 R xs s1 hR hl hit => ?_⟩
  refine ⟨R, rfl, ⟨_, SqL.of hR⟩, fun D nD => ?_⟩
  refine lc_it (walk_list (xs := xs)) (fun i H' => Same H1 H' ∧ H' D = some (.lst [])) ⟨same_new nD, upd_same⟩ (fun i H' _ hP => SqL.of (hP.1 _ _ hR)) (fun i v H2 H3 hi hP hY => ?_) (fun H2 hP => ?_)
  · obtain ⟨rfl, hv⟩ := hY
    obtain ⟨sm, hD⟩ := hP
    obtain ⟨t, rv, r, rfl, ht, hrow, hd, hsz, hok⟩ := (hit v (List.mem_of_getElem? hv)).mono (STup.of sm)
    refine ⟨t, _, rfl, SqT.of ht, rfl, _, _, rfl, _, _, rfl, rfl, rfl, ?_⟩
    refine ⟨_, rfl, rv, r, rfl, hrow, by omega, by omega, hok, fun H4 s4 => ?_⟩
    refine ⟨_, rfl, rfl, _, rfl, iteD ne_same ?_⟩
    refine ⟨_, rfl, rv, r, rfl, hrow.mono (STup.of s4), by omega, by omega, hok, fun H5 s5 => ?_⟩
    exact ⟨_, rfl, rfl, _, rfl, iteD ne_same ⟨sm.trans (s4.trans s5), s5 _ _ (s4 _ _ hD)⟩⟩
  obtain ⟨sm, hD⟩ := hP
  refine ⟨(show 0 ≤ sizeLine by decide), fun e ne => ?_⟩
  refine ⟨_, _, .lst (SqL.of (kn hD ne)) .nil, .lst (SqL.of upd_same) .nil, nil_shaped, nil_shaped, _, rfl, ?_⟩
  rw [eqv_nil]
  refine iteF ?_
  have hS1 : SqL K (upd H2 e (.lst [])) a (ns.map V.int) := (s1.trans (sm.trans (same_new ne))).seq hS
  generalize upd H2 e (.lst []) = H0 at *
  clear sm hD ne hit hR s1
  -- the drawn ones
  refine ⟨.ref a, rfl, 8, rfl, a, ns.map V.int, rfl, hS1, fun c nc => ?_⟩
  refine ⟨(show 1 ≤ sizeLine by decide), fun c2 nc2 => ?_⟩
  have hc2 : upd (upd H0 c (.lst (cutV (ns.map V.int) none (some 8)))) c2 (.lst [.int 7]) c = some (.lst (cutV (ns.map V.int) none (some 8))) := kn upd_same nc2
  have hl2 := cut_len (ns := ns) (lo := none) (hi := some 8) hlen
  refine ⟨c, c2, _, _, rfl, rfl, hc2, upd_same, small (by rw [List.length_singleton]; omega), fun p np => ?_⟩
  have allI : ∀ v ∈ cutV (ns.map V.int) none (some 8) ++ [V.int 7], ∃ i : Int, v = .int i := fun v hv => by
    rcases List.mem_append.mp hv with g | g
    · exact cut_ints v g
    · exact ⟨7, List.mem_singleton.mp g⟩
  generalize cutV (ns.map V.int) none (some 8) ++ [V.int 7] = items at *
  refine ⟨p, rfl, ⟨_, SqL.of upd_same⟩, for_it (walk_list (xs := items))
    (fun _ σ H' => H' p = some (.lst items) ∧ ∃ s1 s2 s3 s4 s5 s6 s7 s8 s9 : Option V, σ = [some (.ref a), s1, s2, s3, s4, s5, s6, s7, s8, s9])
    ⟨upd_same, _, _, _, _, _, _, _, _, _, rfl⟩ (fun i σ H' _ hP => SqL.of hP.1) (fun i x σ H1 H2 hi hP hY => ?_) (fun σ H' hP => q _)⟩
  obtain ⟨hp, s1, s2, s3, s4, s5, s6, s7, s8, s9, rfl⟩ := hP
  obtain ⟨rfl, hx⟩ := hY
  obtain ⟨j, rfl⟩ := allI x (List.mem_of_getElem? hx)
  refine ⟨_, rfl, j, rfl, fun L n nL => ?_⟩
  have pL : p ≠ L := ne_of_none hp nL
  refine ⟨_, rfl, L, n, 13, rfl, upd_same, by decide, fun H3 pn s zs xn npn hzs hlz hs26 hnm => ?_⟩
  have sit3 : Sit p pn L items zs H3 := ⟨xn.1 _ _ pL (kn hp nL), hzs, xn.2, pL, fun e => by
    obtain ⟨i, hi⟩ := xn.2
    rw [e, hi] at hzs
    have e2 := HO.lst.inj (Option.some.inj hzs)
    cases zs with
    | nil => cases e2
    | cons z r => cases e2⟩
  have shz := names_sh hnm
  refine ⟨_, rfl, _, rfl, 5, rfl, pn, _, rfl, SqL.of sit3.hn, fun A1 nA1 => ?_⟩
  have e5 : cutV (zs.map V.str) none (some 5) = (zs.take 5).map V.str := cut_to (k := 5) (by omega)
  have e13 : cutV (zs.map V.str) (some 5) none = (zs.drop 5).map V.str := cut_off (i := 5) (by omega)
  rw [e5]
  have sit4 := sit3.new (o := .lst ((zs.take 5).map V.str)) nA1
  refine ⟨_, rfl, 5, rfl, pn, _, rfl, SqL.of sit4.hn, fun S1 nS1 => ?_⟩
  rw [e13]
  have sit5 := sit4.new (o := .lst ((zs.drop 5).map V.str)) nS1
  obtain ⟨n5, hn5⟩ := sit5.hL
  obtain ⟨n3, hn3⟩ := sit3.hL
  have A1S : A1 ≠ S1 := ne_of_none upd_same nS1
  have l5 : (zs.take 5).length = 5 := by rw [List.length_take]; omega
  refine ⟨L, S1, A1, n5, 4, zs.take 5, zs.drop 5, ⟨rfl, hn5, upd_same, kn upd_same nS1, Ne.symm (ne_of_none hn3 nA1), A1S, (fun e => by
    rw [e] at l5
    cases l5), (by rw [l5]; decide), fun z hz => shz z (List.mem_of_mem_drop hz)⟩, by decide, fun H6 hv sp' r x6 hR hG => ?_⟩
  have sit6 := sit5.drawn x6 (ne_of_none sit4.hp nS1) (ne_of_none sit4.hn nS1)
  have gsz : sizeR r ≤ 201 := hG.weak (Nat.le_refl _)
  have gdp : deepR r ≤ 5 := hG.deep
  have gok : okR (Sh 30) r := okR.imp (fun n hn => by
    rcases hn with g | g
    · exact (shz n (List.mem_of_mem_take g)).mono (by decide)
    · exact (shz n (List.mem_of_mem_drop g)).mono (by decide)) r hG.ok
  have lrr := len_sizeR r
  -- the house with a private name
  obtain ⟨z0, h0⟩ : ∃ z, zs[0]? = some z := ⟨zs[0]'(by omega), List.getElem?_eq_getElem (by omega)⟩
  have at0 : atI (zs.map V.str) 0 = some (.str z0) := atI_nat (j := 0) (by rw [List.getElem?_map, h0]; rfl)
  have sh0 := shz z0 (List.mem_of_getElem? h0)
  obtain ⟨n6, hn6⟩ := sit6.hL
  have shd : Sh 1 "." := by unfold Sh; decide +kernel
  have sh4 := sh0.app shd
  refine ⟨_, rfl, _, rfl, pn, _, 0, _, rfl, rfl, SqL.of sit6.hn, at0, _, rfl, pn, _, 0, _, rfl, rfl, SqL.of sit6.hn, at0, z0, ".", rfl, rfl, small (by have := sh0.len; have := shd.len; omega), ?_⟩
  refine ⟨_, rfl, L, n6, 9999, rfl, hn6, by decide, by decide, fun u n7 u0 u1 => ?_⟩
  have sit7 := sit6.put n7
  have shn : Sh 10 (Str.ofString (toString (1 + u))) := num_sh (by omega) (Int.lt_of_lt_of_le (show 1 + u < 1000001 by omega) (by decide))
  have sh5 := sh4.app shn
  refine ⟨_, _, rfl, rfl, 1 + u, rfl, ?_, ?_⟩
  · refine Nat.lt_of_lt_of_le (PySem.Flt.log2_lt_of (k := 20) (by decide) ?_) (by decide)
    show (1 + u).natAbs < 1048576
    omega
  refine ⟨_, _, rfl, rfl, small (by have := sh4.len; have := shn.len; omega), ?_⟩
  have hR7 := hR.mono (STup.lst (o := .lst [.int n7]) hn6)
  refine ⟨hv, z0, _, r, rfl, hR7, by omega, by omega, by omega, fun H8 ov s8' hov => ?_⟩
  have sit8 := sit7.same s8'
  have hR8 := hR7.mono (STup.of s8')
  have ook : okR (Sh 30) (calledR z0 (z0 ++ "." ++ Str.ofString (toString (1 + u))) r) := calledR_ok _ _ (sh5.mono (by decide)) r gok
  have od := calledR_deep z0 (z0 ++ "." ++ Str.ofString (toString (1 + u))) r
  have os := calledR_size z0 (z0 ++ "." ++ Str.ofString (toString (1 + u))) r
  generalize calledR z0 (z0 ++ "." ++ Str.ofString (toString (1 + u))) r = ro at *
  -- the rows that are asked
  refine ⟨_, rfl, _, rfl, (show 2 ≤ sizeLine by decide), fun R0 nR0 => ?_⟩
  obtain ⟨hb, xs8, rfl, hhb, hps⟩ := hR8
  refine ⟨_, rfl, hb, rfl, ⟨_, SqT.of (kn hhb nR0)⟩, fun D nD => ?_⟩
  refine lc_it (walk_tup (xs := xs8)) (fun i H' => Same (upd H8 R0 (.lst [.ref hb, ov])) H' ∧ ∃ ys : List V, H' D = some (.lst ys) ∧ ys.length ≤ i ∧ ∀ v ∈ ys, ∃ r' : List Part, RowAt H' r' v ∧ deepR r' ≤ 5 ∧ sizeR r' ≤ 201 ∧ okR (Sh 30) r')
    ⟨same_new nD, [], upd_same, Nat.le_refl _, fun v hv => (nomatch hv)⟩ (fun i H' _ hP => SqT.of (hP.1 _ _ (kn hhb nR0))) (fun i v H9 H10 hi hP hY => ?_) (fun H9 hP => ?_)
  · obtain ⟨rfl, hy⟩ := hY
    obtain ⟨sm, ys, hD, hly, hall⟩ := hP
    obtain ⟨pt, hpt, hpa⟩ := PartsAt.get hps hy
    have pm : pt ∈ r := List.mem_of_getElem? hpt
    have lxs := PartsAt.len hps
    have rd := rest_deep pt
    have rd2 := deepR.mem pt pm
    have rs := rest_size pt
    have rs2 := sizeR.mem pt pm
    have rk := rest_ok (gok.mem pt pm)
    have hpa2 := PartAt.mono (STup.of ((same_new nR0).trans sm)) pt v hpa
    have grow : ∀ (u : V), RowAt H10 (restP pt) u → ∃ acc, H10 D = some (.lst acc) ∧ acc.length < sizeLine ∧ (Same (upd H8 R0 (.lst [.ref hb, ov])) (upd H10 D (.lst (acc ++ [u]))) ∧ ∃ ys : List V, upd H10 D (.lst (acc ++ [u])) D = some (.lst ys) ∧ ys.length ≤ i + 1 ∧ ∀ v ∈ ys, ∃ r' : List Part, RowAt (upd H10 D (.lst (acc ++ [u]))) r' v ∧ deepR r' ≤ 5 ∧ sizeR r' ≤ 201 ∧ okR (Sh 30) r') := by
      intro u hu
      refine ⟨ys, hD, small1000 (by omega), fun b o e => ?_, ys ++ [u], upd_same, by rw [List.length_append]; exact Nat.succ_le_succ hly, fun v hv => ?_⟩
      · rw [upd_ne (ne_of_none e nD)]
        exact sm _ _ e
      · rcases List.mem_append.mp hv with g | g
        · obtain ⟨r', h1, h2⟩ := hall v g
          exact ⟨r', h1.mono (STup.lst hD), h2⟩
        · rw [List.mem_singleton.mp g]
          exact ⟨restP pt, hu.mono (STup.lst hD), by omega, by omega, rk⟩
    cases pt with
    | say m =>
      obtain ⟨ta, rfl, hta⟩ := hpa2
      exact ⟨rfl, _, rfl, ta, _, 0, _, rfl, rfl, SqT.of hta, atI_nat (j := 0) rfl, rfl, _, rfl, iteD nsay ⟨sm, ys, hD, by omega, hall⟩⟩
    | again r2 =>
      obtain ⟨ta, tb, zz, rfl, hta, htb, hps2⟩ := hpa2
      refine ⟨rfl, _, rfl, ta, _, 0, _, rfl, rfl, SqT.of hta, atI_nat (j := 0) rfl, rfl, _, rfl, iteU (by decide +kernel) ?_⟩
      exact ⟨_, rfl, _, rfl, ta, _, -1, .ref tb, rfl, rfl, SqT.of hta, atI_last1 (k := 1) rfl rfl, grow _ ⟨tb, zz, rfl, htb, hps2⟩⟩
    | oth w m r2 =>
      obtain ⟨ta, tb, zz, rfl, hta, htb, hps2⟩ := hpa2
      refine ⟨rfl, _, rfl, ta, _, 0, _, rfl, rfl, SqT.of hta, atI_nat (j := 0) rfl, rfl, _, rfl, iteU (nwsay w) ?_⟩
      exact ⟨_, rfl, _, rfl, ta, _, -1, .ref tb, rfl, rfl, SqT.of hta, atI_last1 (k := 2) rfl rfl, grow _ ⟨tb, zz, rfl, htb, hps2⟩⟩
  obtain ⟨sm9, ys, hD9, hly, hall⟩ := hP
  have lxs := PartsAt.len hps
  have hR09 := sm9 _ _ upd_same
  refine ⟨R0, D, _, _, rfl, rfl, hR09, hD9, small (by simp only [List.length_cons, List.length_nil]; omega), fun R nR => ?_⟩
  have s10 : Same H8 (upd H9 R (.lst ([V.ref hb, ov] ++ ys))) := (same_new nR0).trans (sm9.trans (same_new nR))
  have rows : ∀ v ∈ [V.ref hb, ov] ++ ys, ∃ r' : List Part, RowAt (upd H9 R (.lst ([V.ref hb, ov] ++ ys))) r' v ∧ deepR r' ≤ 5 ∧ sizeR r' ≤ 201 ∧ okR (Sh 30) r' := fun v hv => by
    rcases List.mem_append.mp hv with g | g
    · simp only [List.mem_cons, List.not_mem_nil, or_false] at g
      rcases g with rfl | rfl
      · exact ⟨r, ⟨hb, xs8, rfl, s10 _ _ hhb, PartsAt.mono (STup.of s10) _ _ hps⟩, gdp, gsz, gok⟩
      · exact ⟨ro, hov.mono (STup.of s10), by omega, by omega, ook⟩
    · obtain ⟨r', h1, h2⟩ := hall v g
      exact ⟨r', h1.mono (STup.new nR), h2⟩
  have hpR := s10 _ _ sit8.hp
  refine ⟨R, rfl, ⟨_, SqL.of upd_same⟩, for_it (walk_list (xs := [V.ref hb, ov] ++ ys))
    (fun _ σ H' => Same (upd H9 R (.lst ([V.ref hb, ov] ++ ys))) H' ∧ ∃ s1 s2 s3 s4 s5 s6 s7 s8 s9 : Option V, σ = [some (.ref a), s1, s2, s3, s4, s5, s6, s7, s8, s9])
    ⟨Same.refl _, _, _, _, _, _, _, _, _, _, rfl⟩ (fun i σ H' _ hP => SqL.of (hP.1 _ _ upd_same)) (fun i v σ H11 H12 hi hP hY => ?_) (fun σ H' hP => ?_)⟩
  · obtain ⟨s11, t1, t2, t3, t4, t5, t6, t7, t8, t9, rfl⟩ := hP
    obtain ⟨rfl, hv⟩ := hY
    obtain ⟨r', hr', rd, rs, rk⟩ := rows v (List.mem_of_getElem? hv)
    have hr2 := hr'.mono (STup.of s11)
    refine ⟨_, rfl, v, r', rfl, hr2, by omega, by omega, rk, fun H13 s13 => ?_⟩
    refine ⟨_, rfl, .str _, .ty "str", .type "str", .type "str", true, rfl, .ty "str", .base (.str _), kit_ty (by decide +kernel), _, rfl, iteF ?_⟩
    refine ⟨_, rfl, _, rfl, v, r', rfl, hr2.mono (STup.of s13), by omega, by omega, rk, fun H14 s14 => ?_⟩
    exact ⟨rfl, _, rfl, iteD ne_same ⟨s11.trans (s13.trans s14), _, _, _, _, _, _, _, _, _, rfl⟩⟩
  · obtain ⟨s11, t1, t2, t3, t4, t5, t6, t7, t8, t9, rfl⟩ := hP
    exact ⟨s11 _ _ hpR, _, _, _, _, _, _, _, _, _, rfl⟩
end
end K6

set_option Elab.async false
set_option linter.all false
set_option maxRecDepth 100000
set_option maxHeartbeats 2000000
namespace K6
open PySem PySem.Spec PyProof.Rows L2 Wk
theorem all_mk {l : PySem.W.OpenLaw} {w : World} {K : PySem.W.Frag} {h : Heap} {mg : Str → Option Value} {fa f1 f2 f3 f4 f5 f6 f7 f8 f9 f10 f11 f12 f13 f14 f15 f16 f17 f18 t1 : Addr} (X : K.In h) (G : h.Ns mainGlobals mg) (hfa : mg "law" = some (.ref fa))
    {od1 an1 od2 an2 od3 an3 od4 an4 od5 an5 od6 an6 od7 an7 od8 an8 od9 an9 od10 an10 od11 an11 od12 an12 od13 an13 od14 an14 od15 an15 od16 an16 od17 an17 od18 an18 : Option Addr} {sl1 sl2 sl3 sl4 sl5 sl6 sl7 sl8 sl9 sl10 sl11 sl12 sl13 sl14 sl15 sl16 sl17 sl18 : Array (Option Value)} {oc1 kV1 dc1 pm1 cd1 ct1 oc2 kV2 dc2 pm2 cd2 ct2 oc3 kV3 dc3 pm3 cd3 ct3 oc4 kV4 dc4 pm4 cd4 ct4 oc5 kV5 dc5 pm5 cd5 ct5 oc6 kV6 dc6 pm6 cd6 ct6 oc7 kV7 dc7 pm7 cd7 ct7 oc8 kV8 dc8 pm8 cd8 ct8 oc9 kV9 dc9 pm9 cd9 ct9 oc10 kV10 dc10 pm10 cd10 ct10 oc11 kV11 dc11 pm11 cd11 ct11 oc12 kV12 dc12 pm12 cd12 ct12 oc13 kV13 dc13 pm13 cd13 ct13 oc14 kV14 dc14 pm14 cd14 ct14 oc15 kV15 dc15 pm15 cd15 ct15 oc16 kV16 dc16 pm16 cd16 ct16 oc17 kV17 dc17 pm17 cd17 ct17 oc18 kV18 dc18 pm18 cd18 ct18 : Value}
    (a1 : PySem.W.nsIn K mainGlobals "shown" = some (some (.ref f1)))
    (l1 : K.lookup f1 = some ⟨oc1, od1, .func (PySem.W.fnOf "shown" "shown" (defArgs sShown) (defBody sShown) (defScope sShown) .none kV1 dc1 pm1 an1 cd1 ct1), sl1⟩)
    (c1 : PySem.W.codeIn K cd1 "shown" = true) (k1 : PySem.W.keepIn K (.ref f1) = true)
    (a2 : PySem.W.nsIn K mainGlobals "parts_shown" = some (some (.ref f2)))
    (l2 : K.lookup f2 = some ⟨oc2, od2, .func (PySem.W.fnOf "parts_shown" "parts_shown" (defArgs sParts) (defBody sParts) (defScope sParts) .none kV2 dc2 pm2 an2 cd2 ct2), sl2⟩)
    (c2 : PySem.W.codeIn K cd2 "parts_shown" = true) (k2 : PySem.W.keepIn K (.ref f2) = true)
    (a3 : PySem.W.nsIn K mainGlobals "part_shown" = some (some (.ref f3)))
    (l3 : K.lookup f3 = some ⟨oc3, od3, .func (PySem.W.fnOf "part_shown" "part_shown" (defArgs sPartS) (defBody sPartS) (defScope sPartS) .none kV3 dc3 pm3 an3 cd3 ct3), sl3⟩)
    (c3 : PySem.W.codeIn K cd3 "part_shown" = true) (k3 : PySem.W.keepIn K (.ref f3) = true)
    (a4 : PySem.W.nsIn K mainGlobals "waiting_shown" = some (some (.ref f4)))
    (l4 : K.lookup f4 = some ⟨oc4, od4, .func (PySem.W.fnOf "waiting_shown" "waiting_shown" (defArgs sWait) (defBody sWait) (defScope sWait) .none kV4 dc4 pm4 an4 cd4 ct4), sl4⟩)
    (c4 : PySem.W.codeIn K cd4 "waiting_shown" = true) (k4 : PySem.W.keepIn K (.ref f4) = true)
    (a5 : PySem.W.nsIn K mainGlobals "grouped" = some (some (.ref f5)))
    (l5 : K.lookup f5 = some ⟨oc5, od5, .func (PySem.W.fnOf "grouped" "grouped" (defArgs sGroup) (defBody sGroup) (defScope sGroup) .none kV5 dc5 pm5 an5 cd5 ct5), sl5⟩)
    (c5 : PySem.W.codeIn K cd5 "grouped" = true) (k5 : PySem.W.keepIn K (.ref f5) = true)
    (a6 : PySem.W.nsIn K mainGlobals "is_binder" = some (some (.ref f6)))
    (l6 : K.lookup f6 = some ⟨oc6, od6, .func (PySem.W.fnOf "is_binder" "is_binder" (defArgs sBinder) (defBody sBinder) (defScope sBinder) .none kV6 dc6 pm6 an6 cd6 ct6), sl6⟩)
    (c6 : PySem.W.codeIn K cd6 "is_binder" = true) (k6 : PySem.W.keepIn K (.ref f6) = true)
    (a7 : PySem.W.nsIn K mainGlobals "called" = some (some (.ref f7)))
    (l7 : K.lookup f7 = some ⟨oc7, od7, .func (PySem.W.fnOf "called" "called" (defArgs sCalled) (defBody sCalled) (defScope sCalled) .none kV7 dc7 pm7 an7 cd7 ct7), sl7⟩)
    (c7 : PySem.W.codeIn K cd7 "called" = true) (k7 : PySem.W.keepIn K (.ref f7) = true)
    (a8 : PySem.W.nsIn K mainGlobals "part_called" = some (some (.ref f8)))
    (l8 : K.lookup f8 = some ⟨oc8, od8, .func (PySem.W.fnOf "part_called" "part_called" (defArgs sPCalled) (defBody sPCalled) (defScope sPCalled) .none kV8 dc8 pm8 an8 cd8 ct8), sl8⟩)
    (c8 : PySem.W.codeIn K cd8 "part_called" = true) (k8 : PySem.W.keepIn K (.ref f8) = true)
    (a9 : PySem.W.nsIn K mainGlobals "_law_left" = some (some (.ref f9)))
    (l9 : K.lookup f9 = some ⟨oc9, od9, .func (PySem.W.fnOf "_law_left" "_law_left" (defArgs sLeft) (defBody sLeft) (defScope sLeft) .none kV9 dc9 pm9 an9 cd9 ct9), sl9⟩)
    (c9 : PySem.W.codeIn K cd9 "_law_left" = true) (k9 : PySem.W.keepIn K (.ref f9) = true)
    (a10 : PySem.W.nsIn K mainGlobals "_law_digit" = some (some (.ref f10)))
    (l10 : K.lookup f10 = some ⟨oc10, od10, .func (PySem.W.fnOf "_law_digit" "_law_digit" (defArgs sDigit) (defBody sDigit) (defScope sDigit) .none kV10 dc10 pm10 an10 cd10 ct10), sl10⟩)
    (c10 : PySem.W.codeIn K cd10 "_law_digit" = true) (k10 : PySem.W.keepIn K (.ref f10) = true)
    (a11 : PySem.W.nsIn K mainGlobals "_law_names" = some (some (.ref f11)))
    (l11 : K.lookup f11 = some ⟨oc11, od11, .func (PySem.W.fnOf "_law_names" "_law_names" (defArgs sNames) (defBody sNames) (defScope sNames) .none kV11 dc11 pm11 an11 cd11 ct11), sl11⟩)
    (c11 : PySem.W.codeIn K cd11 "_law_names" = true) (k11 : PySem.W.keepIn K (.ref f11) = true)
    (a12 : PySem.W.nsIn K mainGlobals "_law_part" = some (some (.ref f12)))
    (l12 : K.lookup f12 = some ⟨oc12, od12, .func (PySem.W.fnOf "_law_part" "_law_part" (defArgs sPart) (defBody sPart) (defScope sPart) .none kV12 dc12 pm12 an12 cd12 ct12), sl12⟩)
    (c12 : PySem.W.codeIn K cd12 "_law_part" = true) (k12 : PySem.W.keepIn K (.ref f12) = true)
    (a13 : PySem.W.nsIn K mainGlobals "_law_row" = some (some (.ref f13)))
    (l13 : K.lookup f13 = some ⟨oc13, od13, .func (PySem.W.fnOf "_law_row" "_law_row" (defArgs sRow) (defBody sRow) (defScope sRow) .none kV13 dc13 pm13 an13 cd13 ct13), sl13⟩)
    (c13 : PySem.W.codeIn K cd13 "_law_row" = true) (k13 : PySem.W.keepIn K (.ref f13) = true)
    (a14 : PySem.W.nsIn K mainGlobals "_law_closed" = some (some (.ref f14)))
    (l14 : K.lookup f14 = some ⟨oc14, od14, .func (PySem.W.fnOf "_law_closed" "_law_closed" (defArgs sClosed) (defBody sClosed) (defScope sClosed) .none kV14 dc14 pm14 an14 cd14 ct14), sl14⟩)
    (c14 : PySem.W.codeIn K cd14 "_law_closed" = true) (k14 : PySem.W.keepIn K (.ref f14) = true)
    (a15 : PySem.W.nsIn K mainGlobals "_law_waits" = some (some (.ref f15)))
    (l15 : K.lookup f15 = some ⟨oc15, od15, .func (PySem.W.fnOf "_law_waits" "_law_waits" (defArgs sWaits) (defBody sWaits) (defScope sWaits) .none kV15 dc15 pm15 an15 cd15 ct15), sl15⟩)
    (c15 : PySem.W.codeIn K cd15 "_law_waits" = true) (k15 : PySem.W.keepIn K (.ref f15) = true)
    (a16 : PySem.W.nsIn K mainGlobals "_law_shown" = some (some (.ref f16)))
    (l16 : K.lookup f16 = some ⟨oc16, od16, .func (PySem.W.fnOf "_law_shown" "_law_shown" (defArgs sLShown) (defBody sLShown) (defScope sLShown) .none kV16 dc16 pm16 an16 cd16 ct16), sl16⟩)
    (c16 : PySem.W.codeIn K cd16 "_law_shown" = true) (k16 : PySem.W.keepIn K (.ref f16) = true)
    (a17 : PySem.W.nsIn K mainGlobals "_law_fixed" = some (some (.ref f17)))
    (l17 : K.lookup f17 = some ⟨oc17, od17, .func (PySem.W.fnOf "_law_fixed" "_law_fixed" (defArgs sFixed) (defBody sFixed) (defScope sFixed) .none kV17 dc17 pm17 an17 cd17 ct17), sl17⟩)
    (c17 : PySem.W.codeIn K cd17 "_law_fixed" = true) (k17 : PySem.W.keepIn K (.ref f17) = true)
    (a18 : PySem.W.nsIn K mainGlobals "law" = some (some (.ref f18)))
    (l18 : K.lookup f18 = some ⟨oc18, od18, .func (PySem.W.fnOf "law" "law" (defArgs sLaw) (defBody sLaw) (defScope sLaw) .none kV18 dc18 pm18 an18 cd18 ct18), sl18⟩)
    (c18 : PySem.W.codeIn K cd18 "law" = true) (k18 : PySem.W.keepIn K (.ref f18) = true)
    (z1 : PySem.W.nsIn K mainGlobals "abs" = some none)
    (z2 : PySem.W.nsIn K mainGlobals "range" = some none)
    (z3 : PySem.W.nsIn K mainGlobals "len" = some none)
    (z4 : PySem.W.nsIn K mainGlobals "int" = some none)
    (z5 : PySem.W.nsIn K mainGlobals "tuple" = some none)
    (z6 : PySem.W.nsIn K mainGlobals "str" = some none)
    (z7 : PySem.W.nsIn K mainGlobals "isinstance" = some none)
    {u1_0 u1_1 : Tok} {dd1 : Option Addr} {nn1 : Nat} {sl_1 : Array (Option Value)} (y1 : PySem.W.nsIn K mainGlobals "BINDING_WORDS" = some (some (.ref t1)))
    (x1 : K.lookup t1 = some ⟨.type "tuple", dd1, .seq #[.str "hear" u1_0, .str "new" u1_1] nn1, sl_1⟩)
    : ∃ fd : FuncData, (∀ (s : Shared) (v : Value), BindsTo s fd ⟨[v], []⟩ [("_law_script", v)]) ∧ ∀ base : Heap, K.In base → base.Ns mainGlobals mg → FnOk l.prog w K mg base CX0 33 fa fd ["_law_script"] (spLaw K) := by
  have e := hfa.symm.trans (PySem.W.mg_of X G a18)
  cases e
  have F1 := fun_mk (st := sShown) l1 c1 k1
  have g1 := PySem.W.mg_of X G a1
  have b1 := F1.binds (ps := ["row"]) fun _ _ _ _ _ _ us hl => match us, hl with | [_], _ => rfl
  have F2 := fun_mk (st := sParts) l2 c2 k2
  have g2 := PySem.W.mg_of X G a2
  have b2 := F2.binds (ps := ["row"]) fun _ _ _ _ _ _ us hl => match us, hl with | [_], _ => rfl
  have F3 := fun_mk (st := sPartS) l3 c3 k3
  have g3 := PySem.W.mg_of X G a3
  have b3 := F3.binds (ps := ["part"]) fun _ _ _ _ _ _ us hl => match us, hl with | [_], _ => rfl
  have F4 := fun_mk (st := sWait) l4 c4 k4
  have g4 := PySem.W.mg_of X G a4
  have b4 := F4.binds (ps := ["rest"]) fun _ _ _ _ _ _ us hl => match us, hl with | [_], _ => rfl
  have F5 := fun_mk (st := sGroup) l5 c5 k5
  have g5 := PySem.W.mg_of X G a5
  have b5 := F5.binds (ps := ["rest"]) fun _ _ _ _ _ _ us hl => match us, hl with | [_], _ => rfl
  have F6 := fun_mk (st := sBinder) l6 c6 k6
  have g6 := PySem.W.mg_of X G a6
  have b6 := F6.binds (ps := ["part"]) fun _ _ _ _ _ _ us hl => match us, hl with | [_], _ => rfl
  have F7 := fun_mk (st := sCalled) l7 c7 k7
  have g7 := PySem.W.mg_of X G a7
  have b7 := F7.binds (ps := ["row", "x", "calling"]) fun _ _ _ _ _ _ us hl => match us, hl with | [_, _, _], _ => rfl
  have F8 := fun_mk (st := sPCalled) l8 c8 k8
  have g8 := PySem.W.mg_of X G a8
  have b8 := F8.binds (ps := ["part", "x", "calling"]) fun _ _ _ _ _ _ us hl => match us, hl with | [_, _, _], _ => rfl
  have F9 := fun_mk (st := sLeft) l9 c9 k9
  have g9 := PySem.W.mg_of X G a9
  have b9 := F9.binds (ps := ["_law_cell"]) fun _ _ _ _ _ _ us hl => match us, hl with | [_], _ => rfl
  have F10 := fun_mk (st := sDigit) l10 c10 k10
  have g10 := PySem.W.mg_of X G a10
  have b10 := F10.binds (ps := ["_law_left_here", "_law_many"]) fun _ _ _ _ _ _ us hl => match us, hl with | [_, _], _ => rfl
  have F11 := fun_mk (st := sNames) l11 c11 k11
  have g11 := PySem.W.mg_of X G a11
  have b11 := F11.binds (ps := ["_law_left_here", "_law_many"]) fun _ _ _ _ _ _ us hl => match us, hl with | [_, _], _ => rfl
  have F12 := fun_mk (st := sPart) l12 c12 k12
  have g12 := PySem.W.mg_of X G a12
  have b12 := F12.binds (ps := ["_law_left_here", "_law_room", "_law_scope", "_law_spare"]) fun _ _ _ _ _ _ us hl => match us, hl with | [_, _, _, _], _ => rfl
  have F13 := fun_mk (st := sRow) l13 c13 k13
  have g13 := PySem.W.mg_of X G a13
  have b13 := F13.binds (ps := ["_law_left_here", "_law_room", "_law_scope", "_law_spare"]) fun _ _ _ _ _ _ us hl => match us, hl with | [_, _, _, _], _ => rfl
  have F14 := fun_mk (st := sClosed) l14 c14 k14
  have g14 := PySem.W.mg_of X G a14
  have b14 := F14.binds (ps := ["_law_row_here"]) fun _ _ _ _ _ _ us hl => match us, hl with | [_], _ => rfl
  have F15 := fun_mk (st := sWaits) l15 c15 k15
  have g15 := PySem.W.mg_of X G a15
  have b15 := F15.binds (ps := ["_law_row_here"]) fun _ _ _ _ _ _ us hl => match us, hl with | [_], _ => rfl
  have F16 := fun_mk (st := sLShown) l16 c16 k16
  have g16 := PySem.W.mg_of X G a16
  have b16 := F16.binds (ps := ["_law_row_here"]) fun _ _ _ _ _ _ us hl => match us, hl with | [_], _ => rfl
  have F17 := fun_mk (st := sFixed) l17 c17 k17
  have g17 := PySem.W.mg_of X G a17
  have b17 := F17.binds (ps := []) fun _ _ _ _ _ _ us hl => match us, hl with | [], _ => rfl
  have F18 := fun_mk (st := sLaw) l18 c18 k18
  have g18 := PySem.W.mg_of X G a18
  have n1 := PySem.W.mg_none_of X G z1
  have n2 := PySem.W.mg_none_of X G z2
  have n3 := PySem.W.mg_none_of X G z3
  have n4 := PySem.W.mg_none_of X G z4
  have n5 := PySem.W.mg_none_of X G z5
  have n6 := PySem.W.mg_none_of X G z6
  have n7 := PySem.W.mg_none_of X G z7
  have v1 := PySem.W.mg_of X G y1
  have T1 : ∀ H, SqT K H t1 [.str "hear", .str "new"] := fun H => .inr ⟨_, _, _, x1, rfl, rfl, (show 2 ≤ sizeLine by decide), (.cons ⟨_, rfl⟩ (.cons ⟨_, rfl⟩ .nil))⟩
  refine ⟨PySem.W.fnOf "law" "law" (defArgs sLaw) (defBody sLaw) (defScope sLaw) .none kV18 dc18 pm18 an18 cd18 ct18, fun s v => .of_eq rfl, fun base _ _ => ?_⟩
  have G2 := shown_ok (P := l.prog) (w := w) (base := base) F1 F2 F3 F4 F5 b1 b2 b3 b4 b5 g1 g2 g3 g4 g5 n3 6
  have G1 := ok_shown (P := l.prog) (w := w) F1 G2 b2 k2 g2
  have G6 := ok_binder (P := l.prog) (w := w) (base := base) (k := 0) F6 v1 T1
  have G7 := called_ok (P := l.prog) (w := w) F8 F7 G6 b6 k6 g6 n5 b7 g7 b8 g8 6
  have G9 := ok_left (P := l.prog) (w := w) (base := base) (k := 0) F9 n1 n2
  have G10 := ok_digit (P := l.prog) (w := w) (mg := mg) (base := base) (k := 0) F10
  have G11 := ok_names (P := l.prog) (w := w) F11 G10 b10 k10 g10 n2
  have G13 := rows_ok (P := l.prog) (w := w) F12 F13 G10 b10 k10 g10 n3 n4 n5 n2 b13 g13 b12 g12 5
  have G16 := lshown_ok (P := l.prog) (w := w) (base := base) F14 F15 F16 b14 b15 b16 g14 g15 g16 n3 n4 6 (by decide)
  have G17 := ok_fixed (P := l.prog) (w := w) (mg := mg) (base := base) (k := 0) F17
  exact ok_law (P := l.prog) (w := w) F18 G9 b9 k9 g9 G10 b10 k10 g10 G11 b11 k11 g11 G13 b13 k13 g13 G7 b7 k7 g7 G1 b1 k1 g1 G16 b16 k16 g16 G17 b17 k17 g17 n6 n7
end K6
open PySem PySem.W PyProof.Rows
set_option maxRecDepth 100000 in
set_option maxHeartbeats 0 in
theorem PySem.Challenge.cw_walkrooms_k06_written_holds : PySem.Challenge.rw_walkrooms_k06_written.Holds := by
  w_on; o_law; k_head; (case hw => w_witness2)
  k_fill
  refine L2.walk_of (l := PySem.Challenge.rw_walkrooms_k06_written) (n := 63) (k := 33) (x := "_law_script") (CX := fun _ => L2.CX0) (sp := fun w => K6.spLaw _) rfl (by decide) rfl ⟨rfl, by decide, by decide⟩ (fun w h Y => PySem.W.kIn_of Y) ?F (fun _ _ a ns hl _ hS => ⟨a, ns, rfl, hS, hl, fun _ => rfl⟩) (fun _ _ _ _ _ h => h)
  case F =>
    intro w mg fa h KX G hmg
    refine' K6.all_mk KX G hmg ?a1 ?l1 ?c1 ?k1 ?a2 ?l2 ?c2 ?k2 ?a3 ?l3 ?c3 ?k3 ?a4 ?l4 ?c4 ?k4 ?a5 ?l5 ?c5 ?k5 ?a6 ?l6 ?c6 ?k6 ?a7 ?l7 ?c7 ?k7 ?a8 ?l8 ?c8 ?k8 ?a9 ?l9 ?c9 ?k9 ?a10 ?l10 ?c10 ?k10 ?a11 ?l11 ?c11 ?k11 ?a12 ?l12 ?c12 ?k12 ?a13 ?l13 ?c13 ?k13 ?a14 ?l14 ?c14 ?k14 ?a15 ?l15 ?c15 ?k15 ?a16 ?l16 ?c16 ?k16 ?a17 ?l17 ?c17 ?k17 ?a18 ?l18 ?c18 ?k18 ?z1 ?z2 ?z3 ?z4 ?z5 ?z6 ?z7 ?y1 ?x1
    (case a1 => k_is)
    (case l1 => k_is)
    (case c1 => k_is)
    (case k1 => k_is)
    (case a2 => k_is)
    (case l2 => k_is)
    (case c2 => k_is)
    (case k2 => k_is)
    (case a3 => k_is)
    (case l3 => k_is)
    (case c3 => k_is)
    (case k3 => k_is)
    (case a4 => k_is)
    (case l4 => k_is)
    (case c4 => k_is)
    (case k4 => k_is)
    (case a5 => k_is)
    (case l5 => k_is)
    (case c5 => k_is)
    (case k5 => k_is)
    (case a6 => k_is)
    (case l6 => k_is)
    (case c6 => k_is)
    (case k6 => k_is)
    (case a7 => k_is)
    (case l7 => k_is)
    (case c7 => k_is)
    (case k7 => k_is)
    (case a8 => k_is)
    (case l8 => k_is)
    (case c8 => k_is)
    (case k8 => k_is)
    (case a9 => k_is)
    (case l9 => k_is)
    (case c9 => k_is)
    (case k9 => k_is)
    (case a10 => k_is)
    (case l10 => k_is)
    (case c10 => k_is)
    (case k10 => k_is)
    (case a11 => k_is)
    (case l11 => k_is)
    (case c11 => k_is)
    (case k11 => k_is)
    (case a12 => k_is)
    (case l12 => k_is)
    (case c12 => k_is)
    (case k12 => k_is)
    (case a13 => k_is)
    (case l13 => k_is)
    (case c13 => k_is)
    (case k13 => k_is)
    (case a14 => k_is)
    (case l14 => k_is)
    (case c14 => k_is)
    (case k14 => k_is)
    (case a15 => k_is)
    (case l15 => k_is)
    (case c15 => k_is)
    (case k15 => k_is)
    (case a16 => k_is)
    (case l16 => k_is)
    (case c16 => k_is)
    (case k16 => k_is)
    (case a17 => k_is)
    (case l17 => k_is)
    (case c17 => k_is)
    (case k17 => k_is)
    (case a18 => k_is)
    (case l18 => k_is)
    (case c18 => k_is)
    (case k18 => k_is)
    (case z1 => k_is)
    (case z2 => k_is)
    (case z3 => k_is)
    (case z4 => k_is)
    (case z5 => k_is)
    (case z6 => k_is)
    (case z7 => k_is)
    (case y1 => k_is)
    (case x1 => k_is)
