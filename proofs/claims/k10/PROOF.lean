import PyProof.Rows.All
import Wide.All
import OpenK.AllK
import Wide.FinOn
import HandS.ForMost
import HandS.IsInst
import HandS.Walk
import HandS.Codes
import HandS.EndTab
import KE.KxText
import HandS.AnyAll
import HandS.GenBody
import HandS.SetTxt0
import HandS.SetFor
import HandS.Strs
import HandS.More
import PyProof.AutoSeq1
import HandS.FStr
import HandS.TupAny
import HandS.CallLocal
import HandS.ForExc
import HandS.ExcIs
import HandS.TupMul
import PySem.Challenge.RW_walkrooms_k10_houses_settled
set_option Elab.async false
set_option linter.all false
set_option maxRecDepth 100000
set_option maxHeartbeats 2000000
/-! What all laws of this program share: drawn texts, rows of parts as data, how they stand in memory. -/
namespace Wk
open PySem PySem.Spec PyProof.Rows L2
theorem small {n : Nat} (h : n ≤ 1000) : n ≤ sizeLine := Nat.le_of_lt (small1000 h)
theorem big {n : Nat} (h : n ≤ 1000000) : n ≤ sizeLine := Nat.le_trans h (by decide)
theorem yes {σ : L2.St} {H : Hp} {Q : Bool → Hp → Prop} (h : Q true H) : tYes σ H Q := h
theorem kn {H : Hp} {a p : Addr} {o u : HO} (h : H a = some o) (n : H p = none) : upd H p u a = some o := by
  rw [upd_ne (ne_of_none h n)]
  exact h
theorem atX_lt {α : Type} {l : List α} {d : Int} (h0 : 0 ≤ d) (h1 : d < l.length) : ∃ c ∈ l, atI l d = some c ∧ l[d.toNat]? = some c := by
  have hd : d.toNat < l.length := by omega
  refine ⟨l[d.toNat], List.getElem_mem hd, ?_, List.getElem?_eq_getElem hd⟩
  have e : atI l ((d.toNat : Nat) : Int) = some l[d.toNat] := atI_nat (List.getElem?_eq_getElem hd)
  rw [show ((d.toNat : Nat) : Int) = d by omega] at e
  exact e
/-! ### texts -/
/-- at most k signs, plain ones -/
def Sh (k : Nat) (z : Str) : Prop := z.cps.toList.length ≤ k ∧ ∀ c ∈ z.cps.toList, c < 128
theorem Sh.len {k : Nat} {z : Str} (h : Sh k z) : z.length ≤ k := by
  have := h.1
  rw [Array.length_toList] at this
  exact this
theorem Sh.mono {k j : Nat} {z : Str} (h : Sh k z) (hk : k ≤ j) : Sh j z := ⟨Nat.le_trans h.1 hk, h.2⟩
theorem app_codes (y z : Str) : (y ++ z).cps.toList = y.cps.toList ++ z.cps.toList := by
  show (y.cps ++ z.cps).toList = _
  rw [Array.toList_append]
theorem app_len (y z : Str) : (y ++ z).length = y.length + z.length := by
  show (y.cps ++ z.cps).size = _
  rw [Array.size_append]
  rfl
theorem Sh.app {k j : Nat} {y z : Str} (h : Sh k y) (g : Sh j z) : Sh (k + j) (y ++ z) := by
  refine ⟨?_, fun c hc => ?_⟩
  · rw [app_codes, List.length_append]
    exact Nat.add_le_add h.1 g.1
  · rw [app_codes] at hc
    rcases List.mem_append.mp hc with q | q
    · exact h.2 c q
    · exact g.2 c q
theorem Sh.sign {c : Nat} (h : c < 128) : Sh 1 ⟨#[c]⟩ := ⟨Nat.le_refl 1, fun d hd => by
  have : d = c := by simpa using hd
  rw [this]
  exact h⟩
theorem Sh.ok {k : Nat} {z : Str} (h : Sh k z) : PyData.strOk z = true := by
  unfold PyData.strOk
  rw [Array.all_eq_true']
  intro c hc
  have := h.2 c (Array.mem_def.mp hc)
  simp
  omega
/-! ### one number in a list -/
/-- but for L, which holds a list of one number, what stood stands -/
def StL (L : Addr) (H H' : Hp) : Prop := (∀ b o, b ≠ L → H b = some o → H' b = some o) ∧ ∃ n : Int, H' L = some (.lst [.int n])
theorem StL.refl {L : Addr} {H : Hp} {n : Int} (h : H L = some (.lst [.int n])) : StL L H H := ⟨fun _ _ _ e => e, n, h⟩
theorem StL.trans {L : Addr} {H H1 H2 : Hp} (a : StL L H H1) (b : StL L H1 H2) : StL L H H2 := ⟨fun c o n e => b.1 c o n (a.1 c o n e), b.2⟩
theorem StL.put {L : Addr} {H : Hp} (n : Int) : StL L H (upd H L (.lst [.int n])) := ⟨fun b o nb e => by rw [upd_ne nb]; exact e, n, upd_same⟩
theorem StL.new {L p : Addr} {H : Hp} {n : Int} {o : HO} (h : H L = some (.lst [.int n])) (np : H p = none) : StL L H (upd H p o) :=
  ⟨fun b u _ e => by rw [upd_ne (ne_of_none e np)]; exact e, n, by rw [upd_ne (ne_of_none h np)]; exact h⟩
theorem StL.none {L p : Addr} {H H' : Hp} (x : StL L H H') (h : H' p = Option.none) : H p = Option.none := by
  cases q : H p with
  | none => rfl
  | some o =>
    by_cases e : p = L
    · obtain ⟨n, hn⟩ := x.2
      rw [e, hn] at h
      cases h
    · rw [x.1 p o e q] at h
      cases h
def spLeft : Sp := fun vs H Q _ => ∃ c : Int, vs = [.int c] ∧ ∀ (p : Addr) (n : Int), H p = none → Q (.ref p) (upd H p (.lst [.int n]))
def spDigit : Sp := fun vs H Q _ => ∃ (L : Addr) (n m : Int), vs = [.ref L, .int m] ∧ H L = some (.lst [.int n]) ∧ 0 < m ∧ m < 1073741824 ∧ ∀ d n' : Int, 0 ≤ d → d < m → Q (.int d) (upd H L (.lst [.int n']))
theorem pos1 : (0 : Int) < 2147483629 := by decide
theorem pos2 : (0 : Int) < 2147483647 := by decide
/-! ### rows of parts -/
inductive Wd where
  | room | inn | out | opn | hear | new
deriving DecidableEq
def Wd.str : Wd → Str
  | .room => "room"
  | .inn => "in"
  | .out => "out"
  | .opn => "open"
  | .hear => "hear"
  | .new => "new"
def Wd.binds : Wd → Bool
  | .hear => true
  | .new => true
  | _ => false
inductive Part where
  | say (n : Str)
  | again (r : List Part)
  | oth (w : Wd) (n : Str) (r : List Part)
mutual
def PartAt (H : Hp) : Part → V → Prop
  | .say n, v => ∃ a, v = .ref a ∧ H a = some (.tup [.str "say", .str n])
  | .again r, v => ∃ a b xs, v = .ref a ∧ H a = some (.tup [.str "again", .ref b]) ∧ H b = some (.tup xs) ∧ PartsAt H r xs
  | .oth w n r, v => ∃ a b xs, v = .ref a ∧ H a = some (.tup [.str w.str, .str n, .ref b]) ∧ H b = some (.tup xs) ∧ PartsAt H r xs
def PartsAt (H : Hp) : List Part → List V → Prop
  | [], vs => vs = []
  | p :: r, vs => ∃ v us, vs = v :: us ∧ PartAt H p v ∧ PartsAt H r us
end
def RowAt (H : Hp) (r : List Part) (v : V) : Prop := ∃ a xs, v = .ref a ∧ H a = some (.tup xs) ∧ PartsAt H r xs
/-- all tuples stay -/
def STup (H H' : Hp) : Prop := ∀ a xs, H a = some (.tup xs) → H' a = some (.tup xs)
theorem STup.refl (H : Hp) : STup H H := fun _ _ h => h
theorem STup.trans {H H1 H2 : Hp} (a : STup H H1) (b : STup H1 H2) : STup H H2 := fun c o h => b c o (a c o h)
theorem STup.of {H H' : Hp} (h : Same H H') : STup H H' := fun a xs e => h _ _ e
theorem STup.new {H : Hp} {p : Addr} {o : HO} (n : H p = none) : STup H (upd H p o) := fun a xs e => kn e n
theorem STup.lst {H : Hp} {p : Addr} {o : HO} {ys : List V} (h : H p = some (.lst ys)) : STup H (upd H p o) := fun a xs e => by
  rw [upd_ne (fun z => by rw [z, h] at e; cases e)]
  exact e
mutual
theorem PartAt.mono {H H' : Hp} (s : STup H H') : ∀ (p : Part) (v : V), PartAt H p v → PartAt H' p v
  | .say n, v, h => by
    obtain ⟨a, e, h1⟩ := h
    exact ⟨a, e, s _ _ h1⟩
  | .again r, v, h => by
    obtain ⟨a, b, xs, e, h1, h2, h3⟩ := h
    exact ⟨a, b, xs, e, s _ _ h1, s _ _ h2, PartsAt.mono s r xs h3⟩
  | .oth w n r, v, h => by
    obtain ⟨a, b, xs, e, h1, h2, h3⟩ := h
    exact ⟨a, b, xs, e, s _ _ h1, s _ _ h2, PartsAt.mono s r xs h3⟩
theorem PartsAt.mono {H H' : Hp} (s : STup H H') : ∀ (r : List Part) (vs : List V), PartsAt H r vs → PartsAt H' r vs
  | [], vs, h => h
  | p :: r, vs, h => by
    obtain ⟨v, us, e, h1, h2⟩ := h
    exact ⟨v, us, e, PartAt.mono s p v h1, PartsAt.mono s r us h2⟩
end
theorem RowAt.mono {H H' : Hp} {r : List Part} {v : V} (s : STup H H') (h : RowAt H r v) : RowAt H' r v := by
  obtain ⟨a, xs, e, h1, h2⟩ := h
  exact ⟨a, xs, e, s _ _ h1, PartsAt.mono s r xs h2⟩
theorem PartsAt.len {H : Hp} : ∀ {r : List Part} {vs : List V}, PartsAt H r vs → vs.length = r.length
  | [], vs, h => by rw [show vs = [] from h]; rfl
  | p :: r, vs, h => by
    obtain ⟨v, us, e, _, h2⟩ := h
    rw [e, List.length_cons, List.length_cons, PartsAt.len h2]
theorem PartsAt.get {H : Hp} : ∀ {r : List Part} {vs : List V}, PartsAt H r vs → ∀ {i : Nat} {v : V}, vs[i]? = some v → ∃ p, r[i]? = some p ∧ PartAt H p v
  | [], vs, h, i, v, e => by rw [show vs = [] from h] at e; simp at e
  | p :: r, vs, h, 0, v, e => by
    obtain ⟨u, us, rfl, h1, _⟩ := h
    exact ⟨p, rfl, by rw [← Option.some.inj (show some u = some v from e)]; exact h1⟩
  | p :: r, vs, h, i + 1, v, e => by
    obtain ⟨u, us, rfl, _, h2⟩ := h
    exact PartsAt.get h2 (i := i) (v := v) e
theorem PartsAt.app {H : Hp} {q : List Part} {us : List V} (g : PartsAt H q us) : ∀ {r : List Part} {vs : List V}, PartsAt H r vs → PartsAt H (r ++ q) (vs ++ us)
  | [], vs, h => by rw [show vs = [] from h]; exact g
  | p :: r, vs, h => by
    obtain ⟨v, ws, rfl, h1, h2⟩ := h
    exact ⟨v, ws ++ us, rfl, h1, PartsAt.app g h2⟩
theorem PartsAt.one {H : Hp} {p : Part} {v : V} (h : PartAt H p v) : PartsAt H [p] [v] := ⟨v, [], rfl, h, rfl⟩
/-! ### their data -/
mutual
def dP : Part → PyData
  | .say n => .tuple [.str "say", .str n]
  | .again r => .tuple [.str "again", .tuple (dR r)]
  | .oth w n r => .tuple [.str w.str, .str n, .tuple (dR r)]
def dR : List Part → List PyData
  | [] => []
  | p :: r => dP p :: dR r
end
mutual
theorem PartAt.dp {K : PySem.W.Frag} {H : Hp} : ∀ (p : Part) (v : V), PartAt H p v → Dp K H v (dP p)
  | .say n, v, h => by
    obtain ⟨a, rfl, h1⟩ := h
    exact .tup (SqT.of h1) (.cons (.str _) (.cons (.str _) .nil))
  | .again r, v, h => by
    obtain ⟨a, b, xs, rfl, h1, h2, h3⟩ := h
    exact .tup (SqT.of h1) (.cons (.str _) (.cons (.tup (SqT.of h2) (PartsAt.dp r xs h3)) .nil))
  | .oth w n r, v, h => by
    obtain ⟨a, b, xs, rfl, h1, h2, h3⟩ := h
    exact .tup (SqT.of h1) (.cons (.str _) (.cons (.str _) (.cons (.tup (SqT.of h2) (PartsAt.dp r xs h3)) .nil)))
theorem PartsAt.dp {K : PySem.W.Frag} {H : Hp} : ∀ (r : List Part) (vs : List V), PartsAt H r vs → DpAll K H vs (dR r)
  | [], vs, h => by
    rw [show vs = [] from h]
    exact .nil
  | p :: r, vs, h => by
    obtain ⟨v, us, rfl, h1, h2⟩ := h
    exact .cons (PartAt.dp p v h1) (PartsAt.dp r us h2)
end
theorem RowAt.dp {K : PySem.W.Frag} {H : Hp} {r : List Part} {v : V} (h : RowAt H r v) : Dp K H v (.tuple (dR r)) := by
  obtain ⟨a, xs, rfl, h1, h2⟩ := h
  exact .tup (SqT.of h1) (PartsAt.dp r xs h2)
/-! ### measures and looks -/
mutual
def okP (f : Str → Prop) : Part → Prop
  | .say n => f n
  | .again r => okR f r
  | .oth _ n r => f n ∧ okR f r
def okR (f : Str → Prop) : List Part → Prop
  | [] => True
  | p :: r => okP f p ∧ okR f r
end
mutual
def deepP : Part → Nat
  | .say _ => 1
  | .again r => deepR r + 1
  | .oth _ _ r => deepR r + 1
def deepR : List Part → Nat
  | [] => 0
  | p :: r => max (deepP p) (deepR r)
end
mutual
def sizeP : Part → Nat
  | .say _ => 1
  | .again r => sizeR r + 1
  | .oth _ _ r => sizeR r + 1
def sizeR : List Part → Nat
  | [] => 0
  | p :: r => sizeP p + sizeR r
end
/-! what is bound, in the order in which it is met -/
mutual
def bdP : Part → List Str
  | .say _ => []
  | .again r => bdR r
  | .oth w n r => (if w.binds then [n] else []) ++ bdR r
def bdR : List Part → List Str
  | [] => []
  | p :: r => bdP p ++ bdR r
end
/-! each calling that is not bound there stands in S -/
mutual
def scP : List Str → Part → Prop
  | S, .say n => n ∈ S
  | S, .again r => scR S r
  | S, .oth w n r => if w.binds = true then scR (n :: S) r else n ∈ S ∧ scR S r
def scR : List Str → List Part → Prop
  | _, [] => True
  | S, p :: r => scP S p ∧ scR S r
end
mutual
theorem scP.mono : ∀ (p : Part) {S S' : List Str}, (∀ n ∈ S, n ∈ S') → scP S p → scP S' p
  | .say n, S, S', h, g => h n g
  | .again r, S, S', h, g => scR.mono r h g
  | .oth w n r, S, S', h, g => by
    unfold scP at g ⊢
    by_cases e : w.binds = true
    · rw [if_pos e] at g ⊢
      exact scR.mono r (fun m hm => by
        rcases List.mem_cons.mp hm with q | q
        · rw [q]; exact List.mem_cons_self
        · exact List.mem_cons_of_mem _ (h m q)) g
    · rw [if_neg e] at g ⊢
      exact ⟨h n g.1, scR.mono r h g.2⟩
theorem scR.mono : ∀ (r : List Part) {S S' : List Str}, (∀ n ∈ S, n ∈ S') → scR S r → scR S' r
  | [], S, S', h, g => trivial
  | p :: r, S, S', h, g => ⟨scP.mono p h g.1, scR.mono r h g.2⟩
end
theorem okR_app {f : Str → Prop} : ∀ {r q : List Part}, okR f r → okR f q → okR f (r ++ q)
  | [], q, _, g => g
  | p :: r, q, h, g => ⟨h.1, okR_app h.2 g⟩
theorem deepR_app : ∀ (r q : List Part), deepR (r ++ q) = max (deepR r) (deepR q)
  | [], q => by show deepR q = max 0 (deepR q); omega
  | p :: r, q => by
    show max (deepP p) (deepR (r ++ q)) = max (max (deepP p) (deepR r)) (deepR q)
    rw [deepR_app r q]
    omega
theorem sizeR_app : ∀ (r q : List Part), sizeR (r ++ q) = sizeR r + sizeR q
  | [], q => by show sizeR q = 0 + sizeR q; omega
  | p :: r, q => by
    show sizeP p + sizeR (r ++ q) = sizeP p + sizeR r + sizeR q
    rw [sizeR_app r q]
    omega
theorem bdR_app : ∀ (r q : List Part), bdR (r ++ q) = bdR r ++ bdR q
  | [], q => rfl
  | p :: r, q => by
    show bdP p ++ bdR (r ++ q) = (bdP p ++ bdR r) ++ bdR q
    rw [bdR_app r q, List.append_assoc]
theorem scR_app {S : List Str} : ∀ {r q : List Part}, scR S r → scR S q → scR S (r ++ q)
  | [], q, _, g => g
  | p :: r, q, h, g => ⟨h.1, scR_app h.2 g⟩
mutual
theorem okP.imp {f g : Str → Prop} (i : ∀ n, f n → g n) : ∀ p : Part, okP f p → okP g p
  | .say n, h => i n h
  | .again r, h => okR.imp i r h
  | .oth _ n r, h => ⟨i n h.1, okR.imp i r h.2⟩
theorem okR.imp {f g : Str → Prop} (i : ∀ n, f n → g n) : ∀ r : List Part, okR f r → okR g r
  | [], _ => trivial
  | p :: r, h => ⟨okP.imp i p h.1, okR.imp i r h.2⟩
end
theorem okR.mem {f : Str → Prop} : ∀ {r : List Part}, okR f r → ∀ p ∈ r, okP f p
  | [], _, p, hp => nomatch hp
  | q :: r, h, p, hp => by
    rcases List.mem_cons.mp hp with e | e
    · rw [e]; exact h.1
    · exact okR.mem h.2 p e
theorem deepR.mem : ∀ {r : List Part}, ∀ p ∈ r, deepP p ≤ deepR r
  | [], p, hp => nomatch hp
  | q :: r, p, hp => by
    show deepP p ≤ max (deepP q) (deepR r)
    rcases List.mem_cons.mp hp with e | e
    · rw [e]; omega
    · have := deepR.mem (r := r) p e; omega
theorem sizeR.mem : ∀ {r : List Part}, ∀ p ∈ r, sizeP p ≤ sizeR r
  | [], p, hp => nomatch hp
  | q :: r, p, hp => by
    show sizeP p ≤ sizeP q + sizeR r
    rcases List.mem_cons.mp hp with e | e
    · rw [e]; omega
    · have := sizeR.mem (r := r) p e; omega
mutual
theorem size_posP : ∀ p : Part, 1 ≤ sizeP p
  | .say _ => Nat.le_refl 1
  | .again r => by show 1 ≤ sizeR r + 1; omega
  | .oth _ _ r => by show 1 ≤ sizeR r + 1; omega
end
theorem len_sizeR : ∀ r : List Part, r.length ≤ sizeR r
  | [] => Nat.le_refl 0
  | p :: r => by
    have h1 := size_posP p
    have h2 := len_sizeR r
    show r.length + 1 ≤ sizeP p + sizeR r
    omega
/-! ### data that may be compared -/
theorem wd_ok (w : Wd) : PyData.strOk w.str = true := by cases w <;> decide +kernel
mutual
theorem layP {f : Str → Prop} (hf : ∀ n, f n → PyData.strOk n = true) : ∀ p : Part, okP f p → PyData.canLay0 (dP p) = true
  | .say n, h => by
    have h1 : PyData.strOk "say" = true := by decide +kernel
    simp only [dP, PyData.canLay0, PyData.canLayAll0, h1, hf n h, Bool.and_self]
  | .again r, h => by
    have h1 : PyData.strOk "again" = true := by decide +kernel
    simp only [dP, PyData.canLay0, PyData.canLayAll0, h1, layR hf r h, Bool.and_self]
  | .oth w n r, h => by
    simp only [dP, PyData.canLay0, PyData.canLayAll0, wd_ok w, hf n h.1, layR hf r h.2, Bool.and_self]
theorem layR {f : Str → Prop} (hf : ∀ n, f n → PyData.strOk n = true) : ∀ r : List Part, okR f r → PyData.canLayAll0 (dR r) = true
  | [], _ => by simp only [dR, PyData.canLayAll0]
  | p :: r, h => by simp only [dR, PyData.canLayAll0, layP hf p h.1, layR hf r h.2, Bool.and_self]
end
mutual
theorem depP : ∀ p : Part, PyData.depth (dP p) ≤ 2 * deepP p
  | .say n => by
    simp only [dP, PyData.depth, PyData.depthAll, deepP]
    omega
  | .again r => by
    have := depR r
    simp only [dP, PyData.depth, PyData.depthAll, deepP]
    omega
  | .oth w n r => by
    have := depR r
    simp only [dP, PyData.depth, PyData.depthAll, deepP]
    omega
theorem depR : ∀ r : List Part, PyData.depthAll (dR r) ≤ 2 * deepR r
  | [] => by simp only [dR, PyData.depthAll, deepR]; omega
  | p :: r => by
    have h1 := depP p
    have h2 := depR r
    simp only [dR, PyData.depthAll, deepR]
    omega
end
theorem shapedR {f : Str → Prop} (hf : ∀ n, f n → PyData.strOk n = true) {r : List Part} (h : okR f r) (hd : deepR r ≤ 30) : SeqAt.shaped (.tuple (dR r)) = true := by
  unfold SeqAt.shaped
  have := depR r
  simp only [PyData.canLay0, layR hf r h, PyData.depth, Bool.true_and]
  exact decide_eq_true (by omega)
/-! ### called otherwise -/
mutual
def calledP (x c : Str) : Part → Part
  | .say n => .say (if n = x then c else n)
  | .again r => .again (calledR x c r)
  | .oth w n r => if w.binds = true ∧ n = x then .oth w n r else .oth w (if n = x then c else n) (calledR x c r)
def calledR (x c : Str) : List Part → List Part
  | [] => []
  | p :: r => calledP x c p :: calledR x c r
end
theorem calledR_map (x c : Str) : ∀ r : List Part, calledR x c r = r.map (calledP x c)
  | [] => rfl
  | p :: r => by
    show calledP x c p :: calledR x c r = calledP x c p :: r.map (calledP x c)
    rw [calledR_map x c r]
mutual
theorem calledP_deep (x c : Str) : ∀ p : Part, deepP (calledP x c p) = deepP p
  | .say n => rfl
  | .again r => by
    show deepR (calledR x c r) + 1 = deepR r + 1
    rw [calledR_deep x c r]
  | .oth w n r => by
    unfold calledP
    by_cases e : w.binds = true ∧ n = x
    · rw [if_pos e]
    · rw [if_neg e]
      show deepR (calledR x c r) + 1 = deepR r + 1
      rw [calledR_deep x c r]
theorem calledR_deep (x c : Str) : ∀ r : List Part, deepR (calledR x c r) = deepR r
  | [] => rfl
  | p :: r => by
    show max (deepP (calledP x c p)) (deepR (calledR x c r)) = max (deepP p) (deepR r)
    rw [calledP_deep x c p, calledR_deep x c r]
end
mutual
theorem calledP_size (x c : Str) : ∀ p : Part, sizeP (calledP x c p) = sizeP p
  | .say n => rfl
  | .again r => by
    show sizeR (calledR x c r) + 1 = sizeR r + 1
    rw [calledR_size x c r]
  | .oth w n r => by
    unfold calledP
    by_cases e : w.binds = true ∧ n = x
    · rw [if_pos e]
    · rw [if_neg e]
      show sizeR (calledR x c r) + 1 = sizeR r + 1
      rw [calledR_size x c r]
theorem calledR_size (x c : Str) : ∀ r : List Part, sizeR (calledR x c r) = sizeR r
  | [] => rfl
  | p :: r => by
    show sizeP (calledP x c p) + sizeR (calledR x c r) = sizeP p + sizeR r
    rw [calledP_size x c p, calledR_size x c r]
end
theorem pick {f : Str → Prop} {x c n : Str} (hc : f c) (hn : f n) : f (if n = x then c else n) := by
  by_cases e : n = x
  · rw [if_pos e]; exact hc
  · rw [if_neg e]; exact hn
mutual
theorem calledP_ok {f : Str → Prop} (x c : Str) (hc : f c) : ∀ p : Part, okP f p → okP f (calledP x c p)
  | .say n, h => pick (x := x) hc h
  | .again r, h => calledR_ok x c hc r h
  | .oth w n r, h => by
    unfold calledP
    by_cases e : w.binds = true ∧ n = x
    · rw [if_pos e]
      exact h
    · rw [if_neg e]
      exact ⟨pick hc h.1, calledR_ok x c hc r h.2⟩
theorem calledR_ok {f : Str → Prop} (x c : Str) (hc : f c) : ∀ r : List Part, okR f r → okR f (calledR x c r)
  | [], _ => trivial
  | p :: r, h => ⟨calledP_ok x c hc p h.1, calledR_ok x c hc r h.2⟩
end
end Wk

set_option Elab.async false
set_option linter.all false
set_option maxRecDepth 100000
set_option maxHeartbeats 2000000
/-! What the laws draw: names, and houses of them. -/
namespace Wk
open PySem PySem.Spec PyProof.Rows L2
abbrev abc : Str := "abcdefghijklmnopqrstuvwxyz"
abbrev vow : Str := "aeiouxyz"
theorem abc_at : ∀ j : Nat, j < 26 → abc.cps.toList[j]? = some (97 + j) := by decide +kernel
theorem abc_len : abc.cps.toList.length = 26 := by decide +kernel
theorem vow_len : vow.cps.toList.length = 8 := by decide +kernel
theorem vow_lt : ∀ c ∈ vow.cps.toList, 97 ≤ c ∧ c < 123 := by decide +kernel
/-- a letter by its number, and up to five of eight more -/
def NameOf (j : Nat) (z : Str) : Prop := ∃ r, z.cps.toList = (97 + j) :: r ∧ r.length ≤ 5 ∧ ∀ c ∈ r, c ∈ vow.cps.toList
theorem NameOf.sh {j : Nat} {z : Str} (h : NameOf j z) (hj : j < 26) : Sh 6 z := by
  obtain ⟨r, e, h1, h2⟩ := h
  refine ⟨by rw [e, List.length_cons]; omega, fun c hc => ?_⟩
  rw [e] at hc
  rcases List.mem_cons.mp hc with q | q
  · omega
  · have := vow_lt c (h2 c q)
    omega
theorem NameOf.inj {i j : Nat} {z : Str} (h : NameOf i z) (g : NameOf j z) : i = j := by
  obtain ⟨r, e, _⟩ := h
  obtain ⟨q, e2, _⟩ := g
  rw [e] at e2
  have := (List.cons.inj e2).1
  omega
def spNames : Sp := fun vs H Q _ => ∃ (L : Addr) (n : Int) (m : Nat), vs = [.ref L, .int m] ∧ H L = some (.lst [.int n]) ∧ m ≤ 100 ∧
  ∀ (H' : Hp) (p : Addr) (s : Nat) (zs : List Str), StL L H H' → H p = none → H' p = some (.lst (zs.map V.str)) → zs.length = m → s < 26 → (∀ i z, zs[i]? = some z → NameOf ((s + 5 * i) % 26) z) → Q (.ref p) H'
/-! ### houses -/
/-- but for L and S what stood stands; L holds one number, S the names that are left -/
def StG (L S : Addr) (H H' : Hp) (sp : List Str) : Prop := (∀ b o, b ≠ L → b ≠ S → H b = some o → H' b = some o) ∧ (∃ n : Int, H' L = some (.lst [.int n])) ∧ H' S = some (.lst (sp.map V.str))
section
variable {L S p : Addr} {H H1 H2 : Hp} {sp sp1 sp2 : List Str} {o : HO}
theorem LS_ne {n : Int} (h1 : H L = some (.lst [.int n])) (h2 : H S = some (.lst (sp.map V.str))) : L ≠ S := fun e => by
  rw [e, h2] at h1
  have q := HO.lst.inj (Option.some.inj h1)
  cases sp with
  | nil => cases q
  | cons a r => cases q
theorem StG.ne (x : StG L S H H1 sp) : L ≠ S := by
  obtain ⟨n, hn⟩ := x.2.1
  exact LS_ne hn x.2.2
theorem StG.refl {n : Int} (h1 : H L = some (.lst [.int n])) (h2 : H S = some (.lst (sp.map V.str))) : StG L S H H sp := ⟨fun _ _ _ _ e => e, ⟨n, h1⟩, h2⟩
theorem StG.trans (a : StG L S H H1 sp1) (b : StG L S H1 H2 sp2) : StG L S H H2 sp2 := ⟨fun c u n1 n2 e => b.1 c u n1 n2 (a.1 c u n1 n2 e), b.2⟩
theorem StG.put (x : StG L S H H1 sp) (n : Int) : StG L S H (upd H1 L (.lst [.int n])) sp :=
  ⟨fun b u nb nc e => by rw [upd_ne nb]; exact x.1 b u nb nc e, ⟨n, upd_same⟩, by rw [upd_ne (Ne.symm x.ne)]; exact x.2.2⟩
theorem StG.new (x : StG L S H H1 sp) (n : H1 p = none) : StG L S H (upd H1 p o) sp := by
  obtain ⟨i, hi⟩ := x.2.1
  exact ⟨fun b u nb nc e => kn (x.1 b u nb nc e) n, ⟨i, kn hi n⟩, kn x.2.2 n⟩
theorem StG.pop (x : StG L S H H1 sp) : StG L S H (upd H1 S (.lst (sp1.map V.str))) sp1 := by
  obtain ⟨i, hi⟩ := x.2.1
  exact ⟨fun b u nb nc e => by rw [upd_ne nc]; exact x.1 b u nb nc e, ⟨i, by rw [upd_ne x.ne]; exact hi⟩, upd_same⟩
theorem StG.tup {n : Int} (x : StG L S H H1 sp1) (h1 : H L = some (.lst [.int n])) (h2 : H S = some (.lst (sp.map V.str))) : STup H H1 := fun a xs e =>
  x.1 a _ (fun z => by rw [z, h1] at e; cases e) (fun z => by rw [z, h2] at e; cases e) e
theorem StG.none {n : Int} (x : StG L S H H1 sp1) (h : H1 p = Option.none) (h1 : H L = some (.lst [.int n])) (h2 : H S = some (.lst (sp.map V.str))) : H p = Option.none := by
  obtain ⟨i, hi⟩ := x.2.1
  cases q : H p with
  | none => rfl
  | some u =>
    by_cases e1 : p = L
    · rw [e1, hi] at h
      cases h
    · by_cases e2 : p = S
      · rw [e2, x.2.2] at h
        cases h
      · rw [x.1 p u e1 e2 q] at h
        cases h
end
/-- how many parts a row has at most -/
def cntR : Nat → Nat
  | 0 => 2
  | 1 => 6
  | m + 2 => 3 * (1 + cntR (m + 1))
def cntP : Nat → Nat
  | 0 => 1
  | m + 1 => 1 + cntR m
def most : Nat → Nat
  | 0 => 2
  | 1 => 2
  | _ + 2 => 3
theorem cnt_eq : ∀ m : Nat, most m * cntP m = cntR m
  | 0 => rfl
  | 1 => rfl
  | m + 2 => rfl
structure GP (m : Nat) (ss sp sp' : List Str) (p : Part) : Prop where
  deep : deepP p ≤ m + 1
  size : sizeP p ≤ cntP m
  sc : scP ss p
  bd : sp = sp' ++ (bdP p).reverse
  ok : okP (fun n => n ∈ ss ∨ n ∈ sp) p
structure GR (m k : Nat) (ss sp sp' : List Str) (r : List Part) : Prop where
  deep : deepR r ≤ m + 1
  size : sizeR r ≤ k * cntP m
  sc : scR ss r
  bd : sp = sp' ++ (bdR r).reverse
  ok : okR (fun n => n ∈ ss ∨ n ∈ sp) r
theorem GR.nil {m : Nat} {ss sp : List Str} : GR m 0 ss sp sp [] := ⟨Nat.zero_le _, Nat.zero_le _, trivial, by simp [bdR], trivial⟩
theorem GR.snoc {m k : Nat} {ss sp sp1 sp2 : List Str} {r : List Part} {p : Part} (h : GR m k ss sp sp1 r) (g : GP m ss sp1 sp2 p) : GR m (k + 1) ss sp sp2 (r ++ [p]) := by
  have mem1 : ∀ n ∈ sp1, n ∈ sp := fun n hn => by rw [h.bd]; exact List.mem_append_left _ hn
  refine ⟨?_, ?_, scR_app h.sc ⟨g.sc, trivial⟩, ?_, okR_app h.ok ⟨okP.imp (fun n q => ?_) p g.ok, trivial⟩⟩
  · rw [deepR_app]
    have h1 := h.deep
    have h2 := g.deep
    show max (deepR r) (max (deepP p) 0) ≤ m + 1
    omega
  · rw [sizeR_app, Nat.succ_mul]
    have h1 := h.size
    have h2 := g.size
    show sizeR r + (sizeP p + 0) ≤ _
    omega
  · rw [bdR_app, List.reverse_append, show bdR [p] = bdP p from List.append_nil _, ← List.append_assoc, ← g.bd]
    exact h.bd
  · rcases q with q | q
    · exact .inl q
    · exact .inr (mem1 n q)
theorem GR.up {m k j : Nat} {ss sp sp' : List Str} {r : List Part} (h : GR m k ss sp sp' r) (hk : k ≤ j) : GR m j ss sp sp' r :=
  ⟨h.deep, Nat.le_trans h.size (Nat.mul_le_mul_right _ hk), h.sc, h.bd, h.ok⟩
theorem most_at (m : Nat) : atI [V.int 3, V.int 4] (if decide ((m : Int) > 1) = true then 1 else 0) = some (.int ((most m + 1 : Nat) : Int)) := by
  match m with
  | 0 => exact atI_nat (j := 0) rfl
  | 1 => exact atI_nat (j := 0) rfl
  | m + 2 =>
    rw [decide_eq_true (show (((m + 2 : Nat) : Int) > 1) by omega)]
    exact atI_nat (j := 1) rfl
theorem most_le (m : Nat) : most m ≤ 3 := by
  match m with
  | 0 => exact (by decide : 2 ≤ 3)
  | 1 => exact (by decide : 2 ≤ 3)
  | m + 2 => exact Nat.le_refl 3
/-- what a whole row of room m keeps -/
theorem GR.weak {m k : Nat} {ss sp sp' : List Str} {r : List Part} (h : GR m k ss sp sp' r) (hk : k ≤ most m) : sizeR r ≤ cntR m := by
  rw [← cnt_eq]
  exact Nat.le_trans h.size (Nat.mul_le_mul_right _ hk)
/-- the arguments of _law_part and _law_row -/
def GArg (vs : List V) (H : Hp) (L S A : Addr) (nL : Int) (m : Nat) (ss sp : List Str) : Prop :=
  vs = [.ref L, .int m, .ref A, .ref S] ∧ H L = some (.lst [.int nL]) ∧ H S = some (.lst (sp.map V.str)) ∧ H A = some (.lst (ss.map V.str)) ∧ A ≠ L ∧ A ≠ S ∧ ss ≠ [] ∧ ss.length + 2 * m ≤ 1000 ∧ (∀ z ∈ sp, Sh 6 z)
def spPart (n : Nat) : Sp := fun vs H Q _ => ∃ (L S A : Addr) (nL : Int) (m : Nat) (ss sp : List Str), GArg vs H L S A nL m ss sp ∧ m ≤ n ∧
  ∀ (H' : Hp) (v : V) (sp' : List Str) (p : Part), StG L S H H' sp' → PartAt H' p v → GP m ss sp sp' p → Q v H'
def spRow (n : Nat) : Sp := fun vs H Q _ => ∃ (L S A : Addr) (nL : Int) (m : Nat) (ss sp : List Str), GArg vs H L S A nL m ss sp ∧ m < n ∧
  ∀ (H' : Hp) (v : V) (sp' : List Str) (r : List Part), StG L S H H' sp' → RowAt H' r v → GR m (most m) ss sp sp' r → Q v H'
theorem GP.say {m : Nat} {ss sp : List Str} {n : Str} (h : n ∈ ss) : GP m ss sp sp (.say n) := by
  refine ⟨?_, ?_, h, by simp [bdP], .inl h⟩
  · show 1 ≤ m + 1
    omega
  · show 1 ≤ cntP m
    cases m with
    | zero => exact Nat.le_refl 1
    | succ m => show 1 ≤ 1 + cntR m; omega
theorem GP.again {m : Nat} {ss sp sp' : List Str} {r : List Part} (h : GR m (most m) ss sp sp' r) : GP (m + 1) ss sp sp' (.again r) := by
  have h1 := h.deep
  have h2 := h.weak (Nat.le_refl _)
  refine ⟨?_, ?_, h.sc, h.bd, h.ok⟩
  · show deepR r + 1 ≤ m + 1 + 1
    omega
  · show sizeR r + 1 ≤ 1 + cntR m
    omega
theorem GP.free {m : Nat} {ss sp sp' : List Str} {r : List Part} {w : Wd} {n : Str} (hw : w.binds = false) (hn : n ∈ ss) (h : GR m (most m) ss sp sp' r) : GP (m + 1) ss sp sp' (.oth w n r) := by
  have h1 := h.deep
  have h2 := h.weak (Nat.le_refl _)
  have hw2 : ¬ w.binds = true := by rw [hw]; decide
  refine ⟨?_, ?_, ?_, ?_, .inl hn, h.ok⟩
  · show deepR r + 1 ≤ m + 1 + 1
    omega
  · show sizeR r + 1 ≤ 1 + cntR m
    omega
  · unfold scP
    rw [if_neg hw2]
    exact ⟨hn, h.sc⟩
  · unfold bdP
    rw [if_neg hw2, List.nil_append]
    exact h.bd
theorem GP.bound {m : Nat} {ss sp1 sp' : List Str} {r : List Part} {w : Wd} {n : Str} (hw : w.binds = true) (h : GR m (most m) (ss ++ [n, n]) sp1 sp' r) : GP (m + 1) ss (sp1 ++ [n]) sp' (.oth w n r) := by
  have h1 := h.deep
  have h2 := h.weak (Nat.le_refl _)
  refine ⟨?_, ?_, ?_, ?_, .inr (List.mem_append_right _ List.mem_cons_self), okR.imp (fun k q => ?_) r h.ok⟩
  · show deepR r + 1 ≤ m + 1 + 1
    omega
  · show sizeR r + 1 ≤ 1 + cntR m
    omega
  · unfold scP
    rw [if_pos hw]
    refine scR.mono r (fun k hk => ?_) h.sc
    rcases List.mem_append.mp hk with q | q
    · exact List.mem_cons_of_mem _ q
    · have : k = n := by simpa using q
      rw [this]
      exact List.mem_cons_self
  · unfold bdP
    rw [if_pos hw, List.reverse_append, List.reverse_singleton, ← List.append_assoc, ← h.bd]
  · rcases q with q | q
    · rcases List.mem_append.mp q with u | u
      · exact .inl u
      · have : k = n := by simpa using u
        rw [this]
        exact .inr (List.mem_append_right _ List.mem_cons_self)
    · exact .inr (List.mem_append_left _ q)
theorem strs_dp {K : PySem.W.Frag} {H : Hp} : ∀ zs : List Str, DpAll K H (zs.map V.str) (zs.map PyData.str)
  | [] => .nil
  | z :: r => .cons (.str _) (strs_dp r)
theorem strs_lay : ∀ zs : List Str, (∀ z ∈ zs, PyData.strOk z = true) → PyData.canLayAll0 (zs.map PyData.str) = true
  | [], _ => by simp only [List.map_nil, PyData.canLayAll0]
  | z :: r, h => by simp only [List.map_cons, PyData.canLayAll0, PyData.canLay0, h z List.mem_cons_self, strs_lay r (fun y hy => h y (List.mem_cons_of_mem _ hy)), Bool.and_self]
theorem strs_dep : ∀ zs : List Str, PyData.depthAll (zs.map PyData.str) = 0
  | [] => by simp only [List.map_nil, PyData.depthAll]
  | z :: r => by simp only [List.map_cons, PyData.depthAll, PyData.depth, strs_dep r, Nat.max_self]
theorem strs_shaped {zs : List Str} (h : ∀ z ∈ zs, PyData.strOk z = true) : SeqAt.shaped (.list (zs.map PyData.str)) = true := by
  unfold SeqAt.shaped
  simp only [PyData.canLay0, strs_lay zs h, PyData.depth, strs_dep zs, Bool.true_and]
  decide
theorem nil_shaped : SeqAt.shaped (.list []) = true := strs_shaped (zs := []) fun _ h => nomatch h
theorem eqv_nil : ∀ l : List PyData, PyData.eqv (.list l) (.list []) = l.isEmpty
  | [] => by simp only [PyData.eqv, PyData.eqvAll, List.isEmpty]
  | _ :: _ => by simp only [PyData.eqv, PyData.eqvAll, List.isEmpty]
end Wk

set_option Elab.async false
set_option linter.all false
set_option maxRecDepth 100000
set_option maxHeartbeats 2000000
/-! What the program's own called promises. -/
namespace Wk
open PySem PySem.Spec PyProof.Rows L2
def bindV : List V := [.str "hear", .str "new"]
def wordP : Part → Str
  | .say _ => "say"
  | .again _ => "again"
  | .oth w _ _ => w.str
def bindsP : Part → Bool
  | .oth w _ _ => w.binds
  | _ => false
theorem inV_binds : ∀ p : Part, inV (.str (wordP p)) bindV = bindsP p
  | .say _ => (by decide +kernel : inV (.str "say") bindV = false)
  | .again _ => (by decide +kernel : inV (.str "again") bindV = false)
  | .oth w _ _ => (by cases w <;> decide +kernel : inV (.str w.str) bindV = w.binds)
theorem wd_again (w : Wd) : decide (V.str w.str = V.str "again") = false := by cases w <;> decide +kernel
theorem wd_say (w : Wd) : decide (V.str w.str = V.str "say") = false := by cases w <;> decide +kernel
theorem say_again : decide (V.str "say" = V.str "again") = false := by decide +kernel
theorem iteD {b : Bool} {A B : Prop} (e : b = false) (h : B) : if b = true then A else B := by
  rw [e]
  exact iteF h
theorem iteU {b : Bool} {A B : Prop} (e : b = true) (h : A) : if b = true then A else B := by
  rw [e]
  exact iteT h
theorem str_eq {x y : Str} (h : decide (V.str x = V.str y) = true) : x = y := V.str.inj (of_decide_eq_true h)
theorem str_ne {x y : Str} (h : ¬ decide (V.str x = V.str y) = true) : x ≠ y := fun e => h (decide_eq_true (by rw [e]))
theorem PartAt.word {H : Hp} : ∀ {p : Part} {v : V}, PartAt H p v → ∃ a xs, v = .ref a ∧ H a = some (.tup xs) ∧ xs[0]? = some (.str (wordP p))
  | .say n, v, h => by
    obtain ⟨a, rfl, h1⟩ := h
    exact ⟨a, _, rfl, h1, rfl⟩
  | .again r, v, h => by
    obtain ⟨a, b, xs, rfl, h1, _⟩ := h
    exact ⟨a, _, rfl, h1, rfl⟩
  | .oth w n r, v, h => by
    obtain ⟨a, b, xs, rfl, h1, _⟩ := h
    exact ⟨a, _, rfl, h1, rfl⟩
def spBinder : Sp := fun vs H Q _ => ∃ (v : V) (p : Part), vs = [v] ∧ PartAt H p v ∧ Q (.bl (bindsP p)) H
def spCalled (n : Nat) : Sp := fun vs H Q _ => ∃ (v : V) (x c : Str) (r : List Part), vs = [v, .str x, .str c] ∧ RowAt H r v ∧ deepR r < n ∧ r.length ≤ 1000 ∧ sizeR r ≤ 1000 ∧
  ∀ (H' : Hp) (u : V), Same H H' → RowAt H' (calledR x c r) u → Q u H'
def spPCalled (n : Nat) : Sp := fun vs H Q _ => ∃ (v : V) (x c : Str) (p : Part), vs = [v, .str x, .str c] ∧ PartAt H p v ∧ (deepP p ≤ n ∧ sizeP p ≤ 1000) ∧
  ∀ (H' : Hp) (u : V), Same H H' → PartAt H' (calledP x c p) u → Q u H'
theorem same_new {H : Hp} {p : Addr} {o : HO} (n : H p = none) : Same H (upd H p o) := fun b u e => kn e n
end Wk

set_option Elab.async false
set_option linter.all false
set_option maxRecDepth 100000
set_option maxHeartbeats 2000000
/-! Free callings, and callings put back. -/
namespace Wk
open PySem PySem.Spec PyProof.Rows L2
/-- each x called otherwise, also where it is bound -/
def sub (x c n : Str) : Str := if n = x then c else n
mutual
def lcP (x c : Str) : Part → Part
  | .say n => .say (sub x c n)
  | .again r => .again (lcR x c r)
  | .oth w n r => .oth w (sub x c n) (lcR x c r)
def lcR (x c : Str) : List Part → List Part
  | [] => []
  | p :: r => lcP x c p :: lcR x c r
end
theorem lcR_map (x c : Str) : ∀ r : List Part, lcR x c r = r.map (lcP x c)
  | [] => rfl
  | p :: r => by
    show lcP x c p :: lcR x c r = lcP x c p :: r.map (lcP x c)
    rw [lcR_map x c r]
mutual
theorem called_lcP {x c : Str} : ∀ p : Part, x ∉ bdP p → calledP x c p = lcP x c p
  | .say n, _ => rfl
  | .again r, h => by
    show Part.again (calledR x c r) = Part.again (lcR x c r)
    rw [called_lcR r h]
  | .oth w n r, h => by
    unfold bdP at h
    have h1 : x ∉ bdR r := fun z => h (List.mem_append_right _ z)
    have h2 : ¬ (w.binds = true ∧ n = x) := fun z => h (by rw [if_pos z.1, z.2]; exact List.mem_append_left _ List.mem_cons_self)
    unfold calledP
    rw [if_neg h2, called_lcR r h1]
    rfl
theorem called_lcR {x c : Str} : ∀ r : List Part, x ∉ bdR r → calledR x c r = lcR x c r
  | [], _ => rfl
  | p :: r, h => by
    unfold bdR at h
    show calledP x c p :: calledR x c r = lcP x c p :: lcR x c r
    rw [called_lcP p (fun z => h (List.mem_append_left _ z)), called_lcR r (fun z => h (List.mem_append_right _ z))]
end
def lone (ar : List Str) (n : Str) : List Str := if n ∈ ar then [] else [n]
mutual
def freeP : List Str → Part → List Str
  | ar, .say n => lone ar n
  | ar, .again r => freeR ar r
  | ar, .oth w n r => if w.binds = true then freeR (ar ++ [n]) r else lone ar n ++ freeR ar r
def freeR : List Str → List Part → List Str
  | _, [] => []
  | ar, p :: r => freeP ar p ++ freeR ar r
end
theorem freeR_map (ar : List Str) : ∀ r : List Part, freeR ar r = (r.map (freeP ar)).flatten
  | [] => rfl
  | p :: r => by
    show freeP ar p ++ freeR ar r = _
    rw [freeR_map ar r]
    rfl
theorem lone_le (ar : List Str) (n : Str) : (lone ar n).length ≤ 1 := by
  unfold lone
  by_cases h : n ∈ ar
  · rw [if_pos h]; exact Nat.zero_le _
  · rw [if_neg h]; exact Nat.le_refl 1
mutual
theorem freeP_le : ∀ (p : Part) (ar : List Str), (freeP ar p).length ≤ sizeP p
  | .say n, ar => lone_le ar n
  | .again r, ar => by
    have := freeR_le r ar
    show (freeR ar r).length ≤ sizeR r + 1
    omega
  | .oth w n r, ar => by
    unfold freeP
    show _ ≤ sizeR r + 1
    by_cases h : w.binds = true
    · rw [if_pos h]
      have := freeR_le r (ar ++ [n])
      omega
    · rw [if_neg h, List.length_append]
      have := freeR_le r ar
      have := lone_le ar n
      omega
theorem freeR_le : ∀ (r : List Part) (ar : List Str), (freeR ar r).length ≤ sizeR r
  | [], ar => Nat.le_refl 0
  | p :: r, ar => by
    show (freeP ar p ++ freeR ar r).length ≤ sizeP p + sizeR r
    rw [List.length_append]
    have := freeP_le p ar
    have := freeR_le r ar
    omega
end
/-- c stands nowhere but where it is bound -/
abbrev noc (c : Str) : Str → Prop := fun n => n ≠ c
theorem lone_none {ar : List Str} {n c : Str} (h : c ∉ lone ar n) (ha : c ∉ ar) : n ≠ c := fun e => by
  unfold lone at h
  rw [e, if_neg ha] at h
  exact h List.mem_cons_self
mutual
theorem free_nocP {c : Str} : ∀ (p : Part) (ar : List Str), c ∉ freeP ar p → c ∉ ar → c ∉ bdP p → okP (noc c) p
  | .say n, ar, h, ha, hb => lone_none h ha
  | .again r, ar, h, ha, hb => free_nocR r ar h ha hb
  | .oth w n r, ar, h, ha, hb => by
    unfold freeP at h
    unfold bdP at hb
    have hb1 : c ∉ bdR r := fun z => hb (List.mem_append_right _ z)
    by_cases hw : w.binds = true
    · rw [if_pos hw] at h hb
      have hn : n ≠ c := fun e => hb (by rw [e]; exact List.mem_append_left _ List.mem_cons_self)
      refine ⟨hn, free_nocR r (ar ++ [n]) h (fun z => ?_) hb1⟩
      rcases List.mem_append.mp z with q | q
      · exact ha q
      · exact hn (List.mem_singleton.mp q).symm
    · rw [if_neg hw] at h
      exact ⟨lone_none (fun z => h (List.mem_append_left _ z)) ha, free_nocR r ar (fun z => h (List.mem_append_right _ z)) ha hb1⟩
theorem free_nocR {c : Str} : ∀ (r : List Part) (ar : List Str), c ∉ freeR ar r → c ∉ ar → c ∉ bdR r → okR (noc c) r
  | [], _, _, _, _ => trivial
  | p :: r, ar, h, ha, hb => ⟨free_nocP p ar (fun z => h (List.mem_append_left _ z)) ha (fun z => hb (List.mem_append_left _ z)), free_nocR r ar (fun z => h (List.mem_append_right _ z)) ha (fun z => hb (List.mem_append_right _ z))⟩
end
theorem sub_back {x c n : Str} (h : n ≠ c) : sub c x (sub x c n) = n := by
  unfold sub
  by_cases e : n = x
  · rw [if_pos e, if_pos rfl, e]
  · rw [if_neg e, if_neg h]
mutual
theorem backP {x c : Str} : ∀ p : Part, okP (noc c) p → lcP c x (lcP x c p) = p
  | .say n, h => by
    show Part.say (sub c x (sub x c n)) = _
    rw [sub_back h]
  | .again r, h => by
    show Part.again (lcR c x (lcR x c r)) = _
    rw [backR r h]
  | .oth w n r, h => by
    show Part.oth w (sub c x (sub x c n)) (lcR c x (lcR x c r)) = _
    rw [sub_back h.1, backR r h.2]
theorem backR {x c : Str} : ∀ r : List Part, okR (noc c) r → lcR c x (lcR x c r) = r
  | [], _ => rfl
  | p :: r, h => by
    show lcP c x (lcP x c p) :: lcR c x (lcR x c r) = _
    rw [backP p h.1, backR r h.2]
end
mutual
theorem lc_bdP {x c : Str} : ∀ p : Part, x ∉ bdP p → bdP (lcP x c p) = bdP p
  | .say n, _ => rfl
  | .again r, h => lc_bdR r h
  | .oth w n r, h => by
    unfold bdP at h
    have h1 : x ∉ bdR r := fun z => h (List.mem_append_right _ z)
    show (if w.binds then [sub x c n] else []) ++ bdR (lcR x c r) = (if w.binds then [n] else []) ++ bdR r
    rw [lc_bdR r h1]
    by_cases hw : w.binds = true
    · rw [if_pos hw] at h
      have hn : n ≠ x := fun e => h (by rw [e]; exact List.mem_append_left _ List.mem_cons_self)
      unfold sub
      rw [if_pos hw, if_pos hw, if_neg hn]
    · rw [if_neg hw, if_neg hw]
theorem lc_bdR {x c : Str} : ∀ r : List Part, x ∉ bdR r → bdR (lcR x c r) = bdR r
  | [], _ => rfl
  | p :: r, h => by
    unfold bdR at h
    show bdP (lcP x c p) ++ bdR (lcR x c r) = bdP p ++ bdR r
    rw [lc_bdP p (fun z => h (List.mem_append_left _ z)), lc_bdR r (fun z => h (List.mem_append_right _ z))]
end
/-- called, and called back -/
theorem called_back {x c : Str} {r : List Part} (hx : x ∉ bdR r) (hc : c ∉ bdR r) (hf : c ∉ freeR [] r) : calledR c x (calledR x c r) = r := by
  rw [called_lcR r hx, called_lcR _ (by rw [lc_bdR r hx]; exact hc)]
  exact backR r (free_nocR r [] hf (fun z => nomatch z) hc)
/-- the rest of a part -/
def restP : Part → List Part
  | .say _ => []
  | .again r => r
  | .oth _ _ r => r
theorem rest_bd {p : Part} {n : Str} (h : n ∈ bdR (restP p)) : n ∈ bdP p := by
  cases p with
  | say _ => cases h
  | again r => exact h
  | oth w m r => exact List.mem_append_right _ h
theorem bd_mem {n : Str} : ∀ {r : List Part}, ∀ p ∈ r, n ∈ bdP p → n ∈ bdR r
  | [], p, hp, _ => nomatch hp
  | q :: r, p, hp, h => by
    rcases List.mem_cons.mp hp with e | e
    · rw [← e]; exact List.mem_append_left _ h
    · exact List.mem_append_right _ (bd_mem p e h)
theorem rest_deep (p : Part) : deepR (restP p) ≤ deepP p := by
  cases p with
  | say _ => exact Nat.zero_le _
  | again r => exact Nat.le_succ _
  | oth w m r => exact Nat.le_succ _
theorem rest_size (p : Part) : sizeR (restP p) ≤ sizeP p := by
  cases p with
  | say _ => exact Nat.zero_le _
  | again r => exact Nat.le_succ _
  | oth w m r => exact Nat.le_succ _
theorem rest_ok {f : Str → Prop} {p : Part} (h : okP f p) : okR f (restP p) := by
  cases p with
  | say _ => trivial
  | again r => exact h
  | oth w m r => exact h.2
theorem num_sh {n : Int} (h0 : 0 ≤ n) (h1 : n < 10 ^ 10) : Sh 10 (Str.ofString (toString n)) := by
  refine ⟨?_, fun c hc => ?_⟩
  · rw [Array.length_toList]
    exact PySem.W.KT.len_num h0 h1
  · by_cases g : c < 128
    · exact g
    · exact absurd hc (int_text_free' c ⟨by omega, by omega⟩ n)
def spLCalled (n : Nat) : Sp := fun vs H Q _ => ∃ (v : V) (x c : Str) (r : List Part), vs = [v, .str x, .str c] ∧ RowAt H r v ∧ deepR r < n ∧ sizeR r ≤ 1000 ∧
  ∀ (H' : Hp) (u : V), Same H H' → RowAt H' (lcR x c r) u → Q u H'
def spFree (n : Nat) : Sp := fun vs H Q _ => ∃ (v : V) (a : Addr) (ar : List Str) (r : List Part), vs = [v, .ref a] ∧ RowAt H r v ∧ H a = some (.lst (ar.map V.str)) ∧ deepR r < n ∧ sizeR r ≤ 1000 ∧ ar.length + deepR r ≤ 1000 ∧
  ∀ (H' : Hp) (p : Addr), Same H H' → H p = none → H' p = some (.lst ((freeR ar r).map V.str)) → Q (.ref p) H'
theorem inV_strs (n : Str) : ∀ l : List Str, inV (.str n) (l.map V.str) = decide (n ∈ l)
  | [] => rfl
  | m :: l => by
    show (eqV (.str m) (.str n) || inV (.str n) (l.map V.str)) = _
    rw [inV_strs n l]
    show ((m == n) || decide (n ∈ l)) = _
    by_cases e : m = n
    · rw [e]; simp
    · have e2 : ¬ n = m := fun z => e z.symm
      simp [e, e2]
theorem flat_strs : ∀ l : List Str, (l.map V.str).all flatV = true
  | [] => rfl
  | m :: l => by
    show (true && (l.map V.str).all flatV) = true
    rw [flat_strs l]
    rfl
end Wk

set_option Elab.async false
set_option linter.all false
set_option maxRecDepth 100000
set_option maxHeartbeats 2000000
/-! A turn of a law that draws a house: what stands while it is drawn. -/
namespace Wk
open PySem PySem.Spec PyProof.Rows L2
theorem cut_ints {ns : List Int} {lo hi : Option Int} : ∀ v ∈ cutV (ns.map V.int) lo hi, ∃ i : Int, v = .int i := by
  intro v hv
  unfold cutV at hv
  obtain ⟨i, _, e⟩ := List.mem_map.mp (List.mem_of_mem_drop (List.mem_of_mem_take hv))
  exact ⟨i, e.symm⟩
theorem cut_len {ns : List Int} {lo hi : Option Int} (h : ns.length ≤ 63) : (cutV (ns.map V.int) lo hi).length ≤ 63 := by
  unfold cutV
  rw [List.length_take, List.length_drop, List.length_map]
  omega
theorem cut_to {zs : List Str} {k : Nat} (h : k ≤ zs.length) : cutV (zs.map V.str) none (some (k : Int)) = (zs.take k).map V.str := by
  unfold cutV
  rw [HT.sIx_none, HT.sIx_nat, List.length_map, Nat.min_eq_left h, List.drop_zero, Nat.sub_zero, List.map_take]
theorem cut_mid {zs : List Str} {i k : Nat} (h : k ≤ zs.length) (hi : i ≤ k) : cutV (zs.map V.str) (some (i : Int)) (some (k : Int)) = ((zs.drop i).take (k - i)).map V.str := by
  unfold cutV
  rw [HT.sIx_nat, HT.sIx_nat, List.length_map, Nat.min_eq_left h, Nat.min_eq_left (Nat.le_trans hi h), List.map_take, List.map_drop]
theorem cut_off {zs : List Str} {i : Nat} (hi : i ≤ zs.length) : cutV (zs.map V.str) (some (i : Int)) none = (zs.drop i).map V.str := by
  unfold cutV
  rw [HT.sIx_none, HT.sIx_nat, List.length_map, Nat.min_eq_left hi, List.map_drop]
  rw [List.take_of_length_le]
  rw [List.length_drop, List.length_map]
  exact Nat.le_refl _
/-- p holds the items, pn the names, L one number -/
structure Sit (p pn L : Addr) (items : List V) (zs : List Str) (H : Hp) : Prop where
  hp : H p = some (.lst items)
  hn : H pn = some (.lst (zs.map V.str))
  hL : ∃ n : Int, H L = some (.lst [.int n])
  pL : p ≠ L
  nL : pn ≠ L
section
variable {p pn L q : Addr} {items : List V} {zs : List Str} {H H' : Hp} {o : HO}
theorem Sit.new (x : Sit p pn L items zs H) (n : H q = none) : Sit p pn L items zs (upd H q o) := by
  obtain ⟨i, hi⟩ := x.hL
  exact ⟨kn x.hp n, kn x.hn n, ⟨i, kn hi n⟩, x.pL, x.nL⟩
theorem Sit.put (x : Sit p pn L items zs H) (n : Int) : Sit p pn L items zs (upd H L (.lst [.int n])) :=
  ⟨by rw [upd_ne x.pL]; exact x.hp, by rw [upd_ne x.nL]; exact x.hn, ⟨n, upd_same⟩, x.pL, x.nL⟩
theorem Sit.same (x : Sit p pn L items zs H) (s : Same H H') : Sit p pn L items zs H' := by
  obtain ⟨i, hi⟩ := x.hL
  exact ⟨s _ _ x.hp, s _ _ x.hn, ⟨i, s _ _ hi⟩, x.pL, x.nL⟩
theorem Sit.drawn {S : Addr} {sp : List Str} (x : Sit p pn L items zs H) (g : StG L S H H' sp) (h1 : p ≠ S) (h2 : pn ≠ S) : Sit p pn L items zs H' :=
  ⟨g.1 _ _ x.pL h1 x.hp, g.1 _ _ x.nL h2 x.hn, g.2.1, x.pL, x.nL⟩
end
theorem apart {zs : List Str} {s i j : Nat} {x : Str} (hn : ∀ i z, zs[i]? = some z → NameOf ((s + 5 * i) % 26) z) (hi : zs[i]? = some x) (hj : zs[j]? = some x) (li : i < 26) (lj : j < 26) : i = j := by
  have := (hn i x hi).inj (hn j x hj)
  omega
theorem names_sh {zs : List Str} {s : Nat} (hn : ∀ i z, zs[i]? = some z → NameOf ((s + 5 * i) % 26) z) : ∀ z ∈ zs, Sh 6 z := by
  intro z hz
  obtain ⟨i, hi⟩ := List.getElem?_of_mem hz
  exact (hn i z hi).sh (Nat.mod_lt _ (by decide))
theorem mid_mem {zs : List Str} {i k : Nat} {x : Str} (h : x ∈ (zs.drop i).take k) : ∃ j, i ≤ j ∧ j < i + k ∧ zs[j]? = some x := by
  obtain ⟨j, hj⟩ := List.getElem?_of_mem h
  have hl : j < k := by
    have := (List.getElem?_eq_some_iff.mp hj).1
    rw [List.length_take] at this
    omega
  rw [List.getElem?_take_of_lt hl, List.getElem?_drop] at hj
  exact ⟨i + j, by omega, by omega, hj⟩
theorem off_mem {zs : List Str} {i : Nat} {x : Str} (h : x ∈ zs.drop i) : ∃ j, i ≤ j ∧ j < zs.length ∧ zs[j]? = some x := by
  obtain ⟨j, hj⟩ := List.getElem?_of_mem h
  rw [List.getElem?_drop] at hj
  exact ⟨i + j, by omega, (List.getElem?_eq_some_iff.mp hj).1, hj⟩
theorem head_mem {zs : List Str} {k : Nat} {x : Str} (h : x ∈ zs.take k) : ∃ j, j < k ∧ zs[j]? = some x := by
  obtain ⟨j, hj⟩ := List.getElem?_of_mem h
  have hl : j < k := by
    have := (List.getElem?_eq_some_iff.mp hj).1
    rw [List.length_take] at this
    omega
  rw [List.getElem?_take_of_lt hl] at hj
  exact ⟨j, hl, hj⟩
theorem at_names {zs : List Str} {d : Int} (h0 : 0 ≤ d) (h1 : d < zs.length) : ∃ z, zs[d.toNat]? = some z ∧ atI (zs.map V.str) d = some (.str z) := by
  have hd : d.toNat < zs.length := by omega
  refine ⟨zs[d.toNat], List.getElem?_eq_getElem hd, ?_⟩
  have e : atI (zs.map V.str) ((d.toNat : Nat) : Int) = some (.str zs[d.toNat]) := atI_nat (by rw [List.getElem?_map, List.getElem?_eq_getElem hd]; rfl)
  rw [show ((d.toNat : Nat) : Int) = d by omega] at e
  exact e
/-- a row that is drawn, or the rest of one of its parts -/
structure ROk (bd : List Str) (f : Str → Prop) (d sz : Nat) (r : List Part) : Prop where
  bd : ∀ n ∈ bdR r, n ∈ bd
  deep : deepR r ≤ d
  size : sizeR r ≤ sz
  ok : okR f r
theorem ROk.rest {bd : List Str} {f : Str → Prop} {d sz : Nat} {r : List Part} (h : ROk bd f d sz r) {p : Part} (hp : p ∈ r) : ROk bd f d sz (restP p) :=
  ⟨fun n hn => h.bd n (bd_mem p hp (rest_bd hn)), Nat.le_trans (rest_deep p) (Nat.le_trans (deepR.mem p hp) h.deep), Nat.le_trans (rest_size p) (Nat.le_trans (sizeR.mem p hp) h.size), rest_ok (h.ok.mem p hp)⟩
theorem eqv_rows {f : Str → Prop} (hf : ∀ n, f n → PyData.strOk n = true) {r : List Part} (h : okR f r) : PyData.eqv (.tuple (dR r)) (.tuple (dR r)) = true :=
  SeqAt.eqv_refl _ (by simp only [PyData.canLay0]; exact layR hf r h)
end Wk

set_option Elab.async false
set_option linter.all false
set_option maxRecDepth 100000
set_option maxHeartbeats 2000000
/-! A generator expression whose element may call own defs: the generator's frame as a context of its own, each draw keeps it. -/
namespace Wk
open PySem PySem.Spec PyProof.Rows L2 GxR GenW
/-- the context of the generator's frame -/
abbrev gfx (X : Cx) (A' : Around) (s : Shared) (H : Hp) (cenv : Env) (fp : List Addr) (pn : List (Addr × Obj)) : Cx :=
  { X with A := A'.deeper cenv, s_0 := s, H_0 := H, env := cenv, outer := X.stack, stack := cenv :: X.stack, ex := fp, fn := fun _ => false, pn := pn, xe := fun _ _ => False }
theorem over_gen {A : Around} {elt : Expr} {cs : List Comprehension} {scope : Scope} {pos : Pos} {it : Value} {env : Env} :
    A.over (.compLoop (.GeneratorExp elt cs scope pos) 0 it .none env) [] = A.deeper env := by
  first
    | rfl
    | (obtain ⟨hd, d, fr, gs, u⟩ := A; simp [Around.over, Around.deeper, marksOver, frameCount, unitsOf, envsOf, guardsOf, pushEnvs, pushGuards, Code.envs, Code.env?, Code.isFrame, Code.guards, Code.isGuard, Code.weight, Code.frames, Code.isCreation, Code.isCaller, Code.cUnits])
theorem gen_start {X : Cx} {pins pins' : List (Addr × Obj)} {σ : L2.St} {H : Hp} {s s' : Shared} {scope : Scope} {own : List (Str × Nat)} {fp : List Addr} {pn : List (Addr × Obj)} {A' : Around} {code : Value} {cenv : Env} {m : Str → Option Value}
    (I : Inv X pins σ H s) (ok : BlkOk X.N X.env.scope scope own) (hN : X.N.Nodup) (hcell : ∀ y ∈ scope.names, y.2 ≠ .cell)
    (hfp : ∀ b ∈ fp, FpOk X pins H b ∧ b < s.heap.objs.size) (hA : A'.handled = none) (hA2 : A'.frames = some X.stack)
    (hce : cenv = genEnv scope (cloFrom X.env.cells scope.names []) s.heap.objs.size code builtinsNs X.env)
    (os : s'.os = s.os) (hb : AllBare s'.gens) (kp : ∀ b o, s.heap.get? b = some o → s'.heap.get? b = some o) (hn : s'.heap.Ns s.heap.objs.size m)
    (hpn : ∀ p ∈ pn ++ pins', s'.heap.get? p.1 = some p.2 ∧ H p.1 = none ∧ p.1 ≠ s.heap.objs.size ∧ p.1 ∉ frs X.stack ∧ ∀ v, p.2.data ≠ .cell v) :
    Inv (gfx X A' s H cenv fp pn) pins' (wipe σ (own.map (·.2))) H s' := by
  have hfree : ∀ y ∈ scope.names, y.2 = .free → ∃ c, X.env.cells.lookup y.1 = some c := fun y hy e => by
    rcases ok.free y hy e with k | k
    · exact I.ok.has _ (.inl k)
    · exact I.ok.has _ (.inr k)
  have hL : cenv.locals = s.heap.objs.size := by rw [hce]; rfl
  have hcl : cenv.cells = cloFrom X.env.cells scope.names [] := by rw [hce]; rfl
  have hsc : cenv.scope = scope := by rw [hce]; rfl
  have cm : ∀ {y c}, (y, c) ∈ cloFrom X.env.cells scope.names [] → X.env.cells.lookup y = some c ∧ c < s.heap.objs.size := fun {y c} hm => by
    rcases cloFrom_mem hm with hm | ⟨h1, rfl⟩
    · cases hm
    · obtain ⟨c, hc⟩ := hfree _ h1 rfl
      rw [hc]
      obtain ⟨w, z⟩ := I.cell _ _ hc
      exact ⟨rfl, z.lt⟩
  have mem : ∀ {y c}, cenv.cells.lookup y = some c → X.env.cells.lookup y = some c ∧ c < s.heap.objs.size := fun {y c} e => by
    rw [hcl] at e
    exact cm (PySem.mem_of_lookup e)
  have look : ∀ {y}, scope.names.lookup y = some .free → ∃ c, cenv.cells.lookup y = some c ∧ X.env.cells.lookup y = some c := fun {y} hl => by
    have hy : (y, NameKind.free) ∈ scope.names := PySem.mem_of_lookup hl
    obtain ⟨c', e'⟩ := mem_lookup (cloFrom_has (cells := X.env.cells) (acc := []) hy)
    rw [← hcl] at e'
    exact ⟨c', e', (mem e').1⟩
  have okB : (gfx X A' s H cenv fp pn).Ok := by
    refine ⟨I.ok.mod, by show cenv.scope.kind = _; rw [hsc]; exact ok.kind, by show cenv.globals = _; rw [hce]; exact I.ok.glob, by show cenv.builtins = _; rw [hce]; rfl, by show s.heap.objs.size ≤ cenv.locals; rw [hL]; exact Nat.le_refl _,
      fun y z c e1 e2 => I.ok.inj y z c (mem e1).1 (mem e2).1, fun y hy => ?_, fun y c z e => ?_, fun _ => hA, ?_, .inr ⟨rfl, by show cenv.frame = some cenv.locals; rw [hce]; rfl⟩, fun b hb => ⟨?_, fun y c e z => ?_⟩, I.bs, Nat.le_trans I.ok.bsz I.sz, fun b o e hb => ?_, fun b hb z => ?_, I.stack, I.stkFree⟩
    · have hy : scope.names.lookup y = some .cell ∨ scope.names.lookup y = some .free := by rw [← hsc]; exact hy
      rcases hy with hy | hy
      · exact absurd rfl (hcell _ (PySem.mem_of_lookup hy))
      · obtain ⟨c, e1, _⟩ := look hy
        exact ⟨c, e1⟩
    · have z : false = true := z
      cases z
    · show (A'.frames.map (cenv :: ·)) = some (cenv :: X.stack)
      rw [hA2]; rfl
    · show b ≠ cenv.locals
      rw [hL]; exact Nat.ne_of_lt (hfp b hb).2
    · exact (hfp b hb).1.2.2.2.2.1 y c (mem e).1 z
    · rcases (hfp b hb).1.2.2.2.1 with z | z
      · exact I.ok.noex b o e z
      · exact absurd (Nat.lt_of_lt_of_le (Heap.lt_size e) (Nat.le_trans I.ok.bsz z)) (Nat.lt_irrefl _)
    · rcases List.mem_cons.mp (I.stkSub b z) with z | z
      · exact (hfp b hb).1.2.1 z
      · exact (hfp b hb).1.2.2.1 z
  refine ⟨okB, os, hb, Un.kept kp, ⟨m, by show Heap.Ns _ cenv.locals _; rw [hL]; exact hn, fun i y av e1 e2 e3 => ?_⟩, fun y c e => ?_, ?_, fun y c e => I.freeC y c (mem e).1, fun p hp => ?_, I.hok.kept kp, by rw [wipe_length]; exact I.len⟩
  · obtain ⟨e2, hne⟩ := wipe_some e2
    have e3 : Vis scope y := by rw [← hsc]; exact e3
    have no : ∀ k', (k' = NameKind.local ∨ k' = .cell) → scope.names.lookup y ≠ some k' := fun k' hh e => by
      rcases ok.own _ (PySem.mem_of_lookup e) hh with e' | e'
      · obtain ⟨p, hp, hpy⟩ := List.mem_map.mp e'
        have e3 := ok.ix p hp
        have : p.1 = y := hpy
        rw [this] at e3
        exact hne (List.mem_map.mpr ⟨p, hp, nodup_ix hN e3 e1⟩)
      · exact e' (List.mem_of_getElem? e1)
    have hfr : scope.names.lookup y = some .free := by
      rcases e3 with e3 | e3 | e3
      · exact absurd e3 (no _ (.inl rfl))
      · exact absurd e3 (no _ (.inr rfl))
      · exact e3
    obtain ⟨m, hn, hl⟩ := I.loc
    have hvis : Vis X.env.scope y := (ok.free _ (PySem.mem_of_lookup hfr) rfl).elim (fun k => .inr (.inl k)) (fun k => .inr (.inr k))
    obtain ⟨w, r, q⟩ := hl i y av e1 e2 hvis
    refine ⟨w, r, .inr ⟨.inr (by show cenv.scope.names.lookup y = _; rw [hsc]; exact hfr), ?_⟩⟩
    obtain ⟨c, h1, h2⟩ := look hfr
    rcases q with ⟨k, _⟩ | ⟨_, c', e', z⟩
    · have k : X.env.scope.names.lookup y = some .local := k
      rcases ok.free _ (PySem.mem_of_lookup hfr) rfl with k' | k' <;> rw [show X.env.scope.names.lookup y = _ from k'] at k <;> cases k
    · rw [h2] at e'; cases e'
      exact ⟨c, h1, z.keeps kp⟩
  · obtain ⟨w, z⟩ := I.cell y c (mem e).1
    exact ⟨w, z.keeps kp⟩
  · show H cenv.locals = none
    rw [hL]; exact I.hok.fresh (Nat.le_refl _)
  · obtain ⟨p1, p2, p3, p4, p5⟩ := hpn p hp
    exact ⟨p1, p2, by show p.1 ≠ cenv.locals; rw [hL]; exact p3, p4, p5⟩

/-! ### while the generator sleeps -/
/-- the consumer's own objects at Ps may change, all else is kept -/
structure Slp (Ps : List Addr) (s s' : Shared) : Prop where
  os : s'.os = s.os
  bare : AllBare s'.gens
  keep : ∀ b o, b ∉ Ps → s.heap.get? b = some o → s'.heap.get? b = some o
  own : ∀ b ∈ Ps, ∃ o, s'.heap.get? b = some o ∧ ∀ v, o.data ≠ .cell v
def KeptP (Ps : List Addr) (s₀ s : Shared) : Prop := ∀ b ∈ Ps, ∀ o, s₀.heap.get? b = some o → s.heap.get? b = some o
theorem KeptP.refl (Ps : List Addr) (s : Shared) : KeptP Ps s s := fun _ _ _ e => e
theorem KeptP.trans {Ps : List Addr} {a b c : Shared} (x : KeptP Ps a b) (y : KeptP Ps b c) : KeptP Ps a c := fun d hd o e => y d hd o (x d hd o e)
/-- the consumer's objects are none of the generator's -/
structure Far (X : Cx) (fp Ps : List Addr) : Prop where
  old : ∀ b ∈ Ps, X.s_0.heap.objs.size ≤ b
  loc : ∀ b ∈ Ps, b ≠ X.env.locals
  cel : ∀ b ∈ Ps, ∀ x c, X.env.cells.lookup x = some c → c ≠ b
  apn : ∀ b ∈ Ps, ∀ p ∈ X.pn, p.1 ≠ b
  afs : ∀ b ∈ Ps, b ∉ X.fs
  afp : ∀ b ∈ fp, b ∉ Ps
  aex : ∀ b ∈ fp, b ∈ X.ex
  exp : ∀ b ∈ fp, ∀ p ∈ X.pn, p.1 ≠ b
/-- at turn i -/
structure GAt (X : Cx) (fp Ps : List Addr) (tn : Nat → Heap → Prop) (τ : L2.St) (W : Nat → Hp → Prop) (i : Nat) (H : Hp) (s : Shared) : Prop where
  inv : Inv X [] τ H s
  tn : tn i s.heap
  nfp : ∀ b ∈ fp, H b = none
  nps : ∀ b ∈ Ps, H b = none
  obj : ∀ b ∈ Ps, ∃ o, s.heap.get? b = some o ∧ ∀ v, o.data ≠ .cell v
  w : W i H
theorem GAt.slept {X : Cx} {fp Ps : List Addr} {tn : Nat → Heap → Prop} {τ : L2.St} {W : Nat → Hp → Prop} {i : Nat} {H : Hp} {s s' : Shared} (F : Far X fp Ps)
    (hk : ∀ i h h', tn i h → (∀ b ∈ fp, ∀ o, h.get? b = some o → h'.get? b = some o) → tn i h') (G : GAt X fp Ps tn τ W i H s) (z : Slp Ps s s') : GAt X fp Ps tn τ W i H s' := by
  obtain ⟨I, t, nf, np, ob, w⟩ := G
  obtain ⟨z1, z2, z3, z4⟩ := z
  have nt : ∀ b u, H b = some u → b ∉ Ps := fun b u q hb => by rw [np b hb] at q; cases q
  obtain ⟨hh, g, d, tk, o⟩ := s'
  have ho : o = s.os := z1
  subst ho
  refine ⟨?_, hk _ _ _ t fun b hb o e => z3 b o (F.afp b hb) e, nf, np, z4, w⟩
  refine I.step (g' := g) (t' := tk) (d' := d) (ch := Ps) (fun b hb => ⟨.inr (F.old b hb), F.loc b hb, F.cel b hb, fun p hp => F.apn b hb p (by simpa using hp)⟩)
    (fun b ob _ _ hc q _ => z3 b ob hc q) (fun b ob _ _ hc q _ => ⟨ob.slots, z3 b ob hc q⟩) (fun _ _ _ _ n => n) (fun b ob hc q => ⟨ob, z3 b ob hc q⟩)
    (fun _ _ q => q) (fun _ _ _ q => q) (fun b ps q => ⟨#[], by rw [q]; simp⟩) (fun m hm => ?_) (fun b u q => ?_) z2
  · obtain ⟨ob, es, ep, ho, r⟩ := hm
    exact ⟨ob, es, ep, z3 _ ob (fun z => F.loc _ z rfl) ho, r⟩
  · refine (I.hok b u q).stay (fun c v hc y => z3 c v ?_ y) (fun _ y => y) fun _ _ y => y
    rcases hc with y | y
    · rw [y]; exact nt b u q
    · exact nt c _ y
theorem Slp.refl_of {X : Cx} {fp Ps : List Addr} {tn : Nat → Heap → Prop} {τ : L2.St} {W : Nat → Hp → Prop} {i : Nat} {H : Hp} {s : Shared} (G : GAt X fp Ps tn τ W i H s) : Slp Ps s s :=
  ⟨rfl, G.inv.bare, fun _ _ _ e => e, G.obj⟩

/-! ### the generator's own run -/
section
variable {X : Cx} {A' : Around} {elt tg iter : Expr} {scope : Scope} {pos : Pos} {it : Addr} {fp Ps : List Addr} {tn : Nat → Heap → Prop} {J : It} {τ : L2.St} {vs : List Nat} {W : Nat → Hp → Prop} {n₀ : Nat} {val : Nat → V} {g : TG} {te : TE}
def gEnd (X : Cx) (fp Ps : List Addr) (τ : L2.St) (W : Nat → Hp → Prop) (n₀ : Nat) : Nat → Shared → Shared → Prop := fun n s₀ s₁ => n = 0 ∧ (∃ H, GAt X fp Ps (fun _ _ => True) τ W n₀ H s₁) ∧ KeptP Ps s₀ s₁
def gPro (X : Cx) (fp Ps : List Addr) (tn : Nat → Heap → Prop) (τ : L2.St) (W : Nat → Hp → Prop) (n₀ : Nat) (val : Nat → V) : Protocol := fun n s₀ v s₁ kap =>
  RelV (val (n₀ - 1 - n)) v ∧ (∃ H, GAt X fp Ps tn τ W (n₀ - n) H s₁) ∧ KeptP Ps s₀ s₁ ∧ ∀ s₂, Slp Ps s₁ s₂ → kap (.send .none) s₂
/-- what each turn does -/
def Turns (J : It) (W : Nat → Hp → Prop) (n₀ : Nat) (g : TG) (te : TE) (τ : L2.St) (vs : List Nat) (val : Nat → V) : Prop :=
  ∀ i H, i ≤ n₀ → W i H → (i = n₀ ∧ J.stop i H) ∨ (i < n₀ ∧ J.go i H ∧ ∀ x H', J.yld i H x H' → g x τ H' fun σ2 H2 => wipe σ2 vs = τ ∧ te σ2 H2 fun y H3 => y = val i ∧ W (i + 1) H3)
theorem seg_gx (hA : X.A = A'.over (.compLoop (.GeneratorExp elt [⟨tg, iter, [], 0⟩] scope pos) 0 (.ref it) .none X.env) []) (hc : X.calm = true) (hxe : X.xe = fun _ _ => False) (hco : X.env.scope.isCoroutine = false)
    (T : Turn X.prog X.w X.K tg J fp it tn) (pg : PG X tg g) (pe : PE X elt te) (F : Far X fp Ps) (hτ : ∀ σ : L2.St, wipe σ vs = τ → τ.length = σ.length ∧ ∀ (j : Nat) v, τ[j]? = some (some v) → σ[j]? = some (some v)) (turn : Turns J W n₀ g te τ vs val) :
    ∀ (k i : Nat) (s₀ s : Shared) (H : Hp), n₀ - i = k → i ≤ n₀ → GAt X fp Ps tn τ W i H s → KeptP Ps s₀ s →
      Seg (model X.prog X.w) A' (fun n s₀ r s₁ => r = .ok .next ∧ gEnd X fp Ps τ W n₀ n s₀ s₁) (gPro X fp Ps tn τ W n₀ val) (n₀ - i) s₀
        (.compLoop (.GeneratorExp elt [⟨tg, iter, [], 0⟩] scope pos) 0 (.ref it) .none X.env)
        ((model X.prog X.w).den (.compLoop (.GeneratorExp elt [⟨tg, iter, [], 0⟩] scope pos) 0 (.ref it) .none X.env)) [] s := by
  have stat : ∀ {pins : List (Addr × Obj)} {H' : Hp} {s' : Shared}, Inv X pins τ H' s' → (∀ b ∈ fp, H' b = none) → (∀ p ∈ pins, p.1 ∈ Ps) → ∀ b ∈ fp, FpOk X pins H' b := fun {pins H' s'} I' hn hp b hb =>
    ⟨hn b hb, (I'.ok.exf b (F.aex b hb)).1, I'.ok.exfs b (F.aex b hb), .inl (F.aex b hb), fun x c e => (I'.ok.exf b (F.aex b hb)).2 x c e, fun p hp' => by
      rcases List.mem_append.mp hp' with z | z
      · exact F.exp b hb p z
      · exact fun e => F.afp b hb (e ▸ hp p z)⟩
  have pin0 : ∀ {i : Nat} {H : Hp} {s : Shared}, GAt X fp Ps tn τ W i H s → Inv X (pinsAt Ps s.heap) τ H s := fun {i H s} G => G.inv.pins_of fun p hp => by
    obtain ⟨hb, e⟩ := of_pinsAt hp
    obtain ⟨o, e', d⟩ := G.obj p.1 hb
    rw [e] at e'; cases e'
    exact ⟨e, G.nps _ hb, F.loc _ hb, F.afs _ hb, d⟩
  have npsOf : ∀ {i : Nat} {H H' : Hp} {s s' : Shared} {pins : List (Addr × Obj)} {σ' : L2.St}, GAt X fp Ps tn τ W i H s → Inv X (pinsAt Ps s.heap ++ pins) σ' H' s' →
      KeptP Ps s s' ∧ (∀ b ∈ Ps, H' b = none) ∧ ∀ b ∈ Ps, ∃ o, s'.heap.get? b = some o ∧ ∀ v, o.data ≠ .cell v := fun {i H H' s s' pins σ'} G I' => by
    have q : ∀ b ∈ Ps, ∀ o, s.heap.get? b = some o → s'.heap.get? b = some o ∧ H' b = none ∧ ∀ v, o.data ≠ .cell v := fun b hb o e =>
      let z := I'.pin (b, o) (List.mem_append_right _ (List.mem_append_left _ (mem_pinsAt hb e)))
      ⟨z.1, z.2.1, z.2.2.2.2⟩
    refine ⟨fun b hb o e => (q b hb o e).1, fun b hb => ?_, fun b hb => ?_⟩
    · obtain ⟨o, e, _⟩ := G.obj b hb
      exact (q b hb o e).2.1
    · obtain ⟨o, e, _⟩ := G.obj b hb
      exact ⟨o, (q b hb o e).1, (q b hb o e).2.2⟩
  intro k
  induction k with
  | zero =>
    intro i s₀ s H hk hi G kp
    have hin : i = n₀ := by omega
    subst hin
    have stop : J.stop i H := by
      rcases turn i H hi G.w with ⟨_, stop⟩ | ⟨z, _⟩
      · exact stop
      · omega
    show Seg _ A' _ _ _ s₀ _ ((compTurn (.GeneratorExp elt [⟨tg, iter, [], 0⟩] scope pos) 0 (.ref it) .none X.env).onRaise (leaving X.env)) [] s
    rw [compTurn_gen, Sem.onRaise_eq_wrap]
    refine seg_bind_wrap (wpAny_standAt ?_)
    refine seg_bind_wrap ?_
    rw [← hA]
    have I0 := pin0 G
    refine thnF (T.done X rfl rfl rfl hc i (pinsAt Ps s.heap) s τ H (fun _ _ => False) I0 (stat I0 G.nfp fun p hp => (of_pinsAt hp).1) G.tn stop) fun r s6 ⟨hr, I6⟩ => ?_
    subst hr
    have I6' : Inv X (pinsAt Ps s.heap ++ []) τ H s6 := by rw [List.append_nil]; exact I6
    obtain ⟨q1, q2, q3⟩ := npsOf G I6'
    exact seg_end (.ok .next) ⟨rfl, by omega, ⟨H, I6.pins_of (fun p hp => by cases hp), True.intro, G.nfp, q2, q3, G.w⟩, kp.trans q1⟩
  | succ k ih =>
    intro i s₀ s H hk hi G kp
    have hlt : i < n₀ := by omega
    obtain ⟨go, step⟩ : J.go i H ∧ ∀ x H', J.yld i H x H' → g x τ H' fun σ2 H2 => wipe σ2 vs = τ ∧ te σ2 H2 fun y H3 => y = val i ∧ W (i + 1) H3 := by
      rcases turn i H hi G.w with ⟨z, _⟩ | ⟨_, z⟩
      · omega
      · exact z
    obtain ⟨m, hm⟩ : ∃ m, n₀ - i = m + 1 := ⟨n₀ - i - 1, by omega⟩
    rw [hm]
    show Seg _ A' _ _ _ s₀ _ ((compTurn (.GeneratorExp elt [⟨tg, iter, [], 0⟩] scope pos) 0 (.ref it) .none X.env).onRaise (leaving X.env)) [] s
    rw [compTurn_gen, Sem.onRaise_eq_wrap]
    refine seg_bind_wrap (wpAny_standAt ?_)
    refine seg_bind_wrap ?_
    rw [← hA]
    have I0 := pin0 G
    refine thnF (T.item X rfl rfl rfl hc i (pinsAt Ps s.heap) s τ H (fun _ _ => False) I0 (stat I0 G.nfp fun p hp => (of_pinsAt hp).1) G.tn go) fun r s6 ⟨u, hr, h6⟩ => ?_
    subst hr
    refine seg_bind_wrap ?_
    rw [← hA]
    refine thnF h6 fun _ s7 ⟨x, H7, I7, r7, y7, st7, n7⟩ => ?_
    have I7' := I7.pinned (stat I7 n7 fun p hp => (of_pinsAt hp).1) (T.obj _ _ st7)
    refine seg_bind_wrap ?_
    rw [← hA]
    have w8 := pg.run _ s7 _ H7 x u _ I7' r7 (step x H7 y7)
    rw [hxe] at w8
    refine thnF w8 fun _ s8 ⟨σ8, H8, I8, hw8, q8⟩ => ?_
    simp only [List.forIn_nil]
    refine seg_bind_wrap (wpAny_pure ?_)
    simp only [if_true]
    have hy : ∀ v, yieldOut X.env v = yieldValue v := fun v => by simp only [yieldOut, hco, Bool.false_eq_true, if_false]
    simp only [hy]
    rw [Sem.bind_eq_wrap', Sem.bind_eq_wrap', Sem.wrap_wrap, Sem.wrap_wrap]
    refine seg_wrap ?_
    rw [← hA]
    have w9 := pe.run _ s8 σ8 H8 _ I8 q8
    rw [hxe] at w9
    refine thnF w9 fun z s10 ⟨yv, H10, I10, r10, hv, nx⟩ => ?_
    subst hv
    obtain ⟨q1, q2, q3⟩ := npsOf G I10
    obtain ⟨hl, hw⟩ := hτ σ8 hw8
    have pinF : ∀ b ∈ fp, ∀ o, s7.heap.get? b = some o → s10.heap.get? b = some o ∧ H10 b = none := fun b hb o e =>
      let z := I10.pin (b, o) (List.mem_append_right _ (List.mem_append_right _ (mem_pinsAt hb e)))
      ⟨z.1, z.2.1⟩
    have G10 : GAt X fp Ps tn τ W (i + 1) H10 s10 := by
      refine ⟨(I10.pins_of (fun p hp => by cases hp)).weak hl hw, T.keep _ _ _ st7 fun b hb o e => (pinF b hb o e).1, fun b hb => ?_, q2, q3, nx⟩
      obtain ⟨o, e, _⟩ := T.obj _ _ st7 b hb
      exact (pinF b hb o e).2
    have e1 : n₀ - 1 - m = i := by omega
    have e2 : n₀ - m = i + 1 := by omega
    refine seg_at (seg_yield rfl rfl rfl ⟨?_, ?_, kp.trans q1, fun s'' hal => ?_⟩)
    · rw [e1]; exact r10
    · rw [e2]; exact ⟨H10, G10⟩
    · have r := ih (i + 1) s'' s'' H10 (by omega) hlt (G10.slept F T.keep hal) (KeptP.refl _ _)
      rw [show n₀ - (i + 1) = m from by omega] at r
      exact seg_again rfl r
end
end Wk

set_option Elab.async false
set_option linter.all false
set_option maxRecDepth 100000
set_option maxHeartbeats 2000000
namespace Wk
open PySem PySem.Spec PyProof.Rows L2 GxR GenW
section
variable {X : Cx} {A' A : Around} {elt tg iter : Expr} {scope : Scope} {pos : Pos} {it a : Addr} {gn : Nat} {go : Obj} {fp Ps : List Addr} {tn : Nat → Heap → Prop} {J : It} {τ : L2.St} {vs : List Nat} {W : Nat → Hp → Prop} {n₀ : Nat} {val : Nat → V} {g : TG} {te : TE}
theorem seg_gs (hA : X.A = A'.over (.compLoop (.GeneratorExp elt [⟨tg, iter, [], 0⟩] scope pos) 0 (.ref it) .none X.env) []) (hc : X.calm = true) (hxe : X.xe = fun _ _ => False) (hco : X.env.scope.isCoroutine = false)
    (T : Turn X.prog X.w X.K tg J fp it tn) (pg : PG X tg g) (pe : PE X elt te) (F : Far X fp Ps) (hτ : ∀ σ : L2.St, wipe σ vs = τ → τ.length = σ.length ∧ ∀ (j : Nat) v, τ[j]? = some (some v) → σ[j]? = some (some v)) (turn : Turns J W n₀ g te τ vs val)
    {s₀ s : Shared} {H : Hp} (G : GAt X fp Ps tn τ W 0 H s) (kp : KeptP Ps s₀ s) :
    Seg (model X.prog X.w) A' (fun n s₀ r s₁ => r = .ok .next ∧ gEnd X fp Ps τ W n₀ n s₀ s₁) (gPro X fp Ps tn τ W n₀ val) n₀ s₀
      (.compStart (.GeneratorExp elt [⟨tg, iter, [], 0⟩] scope pos) 0 (.ref it) .none X.env)
      ((model X.prog X.w).den (.compStart (.GeneratorExp elt [⟨tg, iter, [], 0⟩] scope pos) 0 (.ref it) .none X.env)) [] s := by
  have loop := seg_gx (iter := iter) (scope := scope) (pos := pos) hA hc hxe hco T pg pe F hτ turn n₀ 0 s₀ s H (Nat.sub_zero _) (Nat.zero_le _) G kp
  rw [Nat.sub_zero] at loop
  show Seg _ A' _ _ _ s₀ _ ((compStart (.GeneratorExp elt [⟨tg, iter, [], 0⟩] scope pos) 0 (.ref it) .none X.env).onRaise (leaving X.env)) [] s
  unfold compStart
  rw [Sem.onRaise_eq_wrap]
  show Seg _ A' _ _ _ s₀ _ ((ask >>= _).wrap _ _ _ _) [] s
  refine seg_bind_wrap (wpAny_askSetting ?_)
  split
  · exact seg_again rfl loop
  · first
      | exact seg_bind_wrap (wpAny_rule (seg_bind_wrap (wpAny_standAt (seg_bind_wrap (T.self _ 0 s _ _ G.tn (seg_again rfl loop))))))
      | (refine seg_bind_wrap (wpAny_rule ?_); show Seg _ A' _ _ _ s₀ _ ((standAt iter.pos >>= _).wrap _ _ _ _) [] s; exact seg_bind_wrap (wpAny_standAt (seg_bind_wrap (T.self _ 0 s _ _ G.tn (seg_again rfl loop)))))
/-- asleep at turn i, ready to be woken -/
structure Awk (X : Cx) (A' : Around) (fp Ps : List Addr) (tn : Nat → Heap → Prop) (τ : L2.St) (W : Nat → Hp → Prop) (n₀ : Nat) (val : Nat → V) (gn : Nat) (i : Nat) (s : Shared) : Prop where
  ate : ∃ H, GAt X fp Ps tn τ W i H s
  rdy : ∃ gs, s.gens[gn]? = some gs ∧ ∀ s', Slp Ps s s' → gs.Goes (model X.prog X.w) A' (fun n s₀ r s₁ => r = .ok .next ∧ gEnd X fp Ps τ W n₀ n s₀ s₁) (gPro X fp Ps tn τ W n₀ val) (n₀ - i) (.send .none) s'
theorem Slp.trans {Ps : List Addr} {s s' s'' : Shared} (x : Slp Ps s s') (y : Slp Ps s' s'') : Slp Ps s s'' := ⟨y.os.trans x.os, y.bare, fun b o hb e => y.keep b o hb (x.keep b o hb e), y.own⟩
/-- the consumer's own doings -/
theorem Awk.slept {i : Nat} {s s' : Shared} (F : Far X fp Ps) (hk : ∀ i h h', tn i h → (∀ b ∈ fp, ∀ o, h.get? b = some o → h'.get? b = some o) → tn i h') (w : Awk X A' fp Ps tn τ W n₀ val gn i s) (z : Slp Ps s s') (hg : s'.gens = s.gens) : Awk X A' fp Ps tn τ W n₀ val gn i s' := by
  obtain ⟨⟨H, G⟩, gs, e, r⟩ := w
  exact ⟨⟨H, G.slept F hk z⟩, gs, by rw [hg]; exact e, fun s'' z' => r s'' (z.trans z')⟩
theorem GAt.top {i : Nat} {H : Hp} {s : Shared} (G : GAt X fp Ps tn τ W i H s) : GAt X fp Ps (fun _ _ => True) τ W i H s := ⟨G.inv, True.intro, G.nfp, G.nps, G.obj, G.w⟩
theorem Awk.item (hA1 : A' = A.in1) (hh : A.handled = none) (hroom : A.depth < recursionLimit) (F : Far X fp Ps) (hk : ∀ i h h', tn i h → (∀ b ∈ fp, ∀ o, h.get? b = some o → h'.get? b = some o) → tn i h') (hpn : (a, go) ∈ X.pn) (hG : ∀ h : Heap, h.get? a = some go → h.IsGen a gn)
    {i : Nat} {s : Shared} {Q : Option Value → Shared → Prop} {E : Value → Shared → Prop} (hi : i < n₀) (w : Awk X A' fp Ps tn τ W n₀ val gn i s)
    (hQ : ∀ v s', RelV (val i) v → Awk X A' fp Ps tn τ W n₀ val gn (i + 1) s' → KeptP Ps s s' → Q (some v) s') : wpAny (model X.prog X.w) A (pyNext (.ref a)) Q E s := by
  subst hA1
  obtain ⟨⟨H, G⟩, gs, hgs, hgo⟩ := w
  obtain ⟨m, hm⟩ : ∃ m, n₀ - i = m + 1 := ⟨n₀ - i - 1, by omega⟩
  rw [hm] at hgo
  have hg := hG _ (G.inv.pin (a, go) (List.mem_append_left _ hpn)).1
  have z0 : Slp Ps s (s.setGen gn .running) := ⟨rfl, G.inv.bare.moved (GenOnlyQ.of (GenOnly.setGen s gn .running) (setGen_self hgs) rfl), fun _ _ _ e => e, G.obj⟩
  have hlt : gn < s.gens.size := by
    rcases Nat.lt_or_ge gn s.gens.size with z | z
    · exact z
    · rw [Array.getElem?_eq_none z] at hgs; cases hgs
  refine wpAny_gsz (Nat.le_refl s.gens.size) ?_
  refine wpAny_pyNext_genexpQ (P := gEnd X fp Ps τ W n₀) hh G.inv.nolimit hroom hg hgs (hgo _ z0) (fun v s₁ gs' hb hv => ?_) (fun s₁ hp h' hk => ?_)
  · obtain ⟨rv, ⟨H1, G1⟩, kp, hkap⟩ := hv
    have e1 : n₀ - 1 - (m + 1 - 1) = i := by omega
    have e2 : n₀ - (m + 1 - 1) = i + 1 := by omega
    rw [e1] at rv
    rw [e2] at G1
    intro hsz
    have hsz1 : s.gens.size ≤ s₁.gens.size := by rw [setGen_size] at hsz; exact hsz
    have hlt1 : gn < s₁.gens.size := Nat.lt_of_lt_of_le hlt hsz1
    have hs1 : (s₁.setGen gn gs').gens[gn]? = some gs' := setGen_self (Array.getElem?_eq_getElem hlt1)
    have z1 : Slp Ps s₁ (s₁.setGen gn gs') := ⟨rfl, G1.inv.bare.moved (GenOnlyQ.of (GenOnly.setGen s₁ gn gs') hs1 hb), fun _ _ _ e => e, G1.obj⟩
    refine hQ v _ rv ⟨⟨H1, G1.slept F hk z1⟩, gs', hs1, fun s'' hal => ?_⟩ kp
    have e : n₀ - (i + 1) = m := by omega
    rw [e]
    exact hkap s'' (z1.trans hal)
  · exact absurd hp.1 (Nat.succ_ne_zero m)
theorem Awk.done (hA1 : A' = A.in1) (hh : A.handled = none) (hroom : A.depth < recursionLimit) (F : Far X fp Ps) (hpn : (a, go) ∈ X.pn) (hG : ∀ h : Heap, h.get? a = some go → h.IsGen a gn)
    {s : Shared} {Q : Option Value → Shared → Prop} {E : Value → Shared → Prop} (w : Awk X A' fp Ps tn τ W n₀ val gn n₀ s)
    (hQ : ∀ s' H, GAt X fp Ps (fun _ _ => True) τ W n₀ H s' → KeptP Ps s s' → Q none s') : wpAny (model X.prog X.w) A (pyNext (.ref a)) Q E s := by
  subst hA1
  obtain ⟨⟨H, G⟩, gs, hgs, hgo⟩ := w
  rw [Nat.sub_self] at hgo
  have hg := hG _ (G.inv.pin (a, go) (List.mem_append_left _ hpn)).1
  have z0 : Slp Ps s (s.setGen gn .running) := ⟨rfl, G.inv.bare.moved (GenOnlyQ.of (GenOnly.setGen s gn .running) (setGen_self hgs) rfl), fun _ _ _ e => e, G.obj⟩
  have hlt : gn < s.gens.size := by
    rcases Nat.lt_or_ge gn s.gens.size with z | z
    · exact z
    · rw [Array.getElem?_eq_none z] at hgs; cases hgs
  refine wpAny_gsz (Nat.le_refl s.gens.size) ?_
  refine wpAny_pyNext_genexpQ (P := gEnd X fp Ps τ W n₀) hh G.inv.nolimit hroom hg hgs (hgo _ z0) (fun v s₁ gs' hb hv => ?_) (fun s₁ hp h' hk => ?_)
  · obtain ⟨_, ⟨H1, G1⟩, _, hkap⟩ := hv
    exact False.elim (hkap s₁ (Slp.refl_of G1))
  · obtain ⟨_, ⟨H1, G1⟩, kp⟩ := hp
    intro hsz
    have hsz1 : s.gens.size ≤ s₁.gens.size := by
      have z : s.gens.size ≤ (s₁.setGen gn .finished).gens.size := hsz
      rw [setGen_size] at z; exact z
    have hs1 : (s₁.setGen gn .finished).gens[gn]? = some .finished := setGen_self (Array.getElem?_eq_getElem (Nat.lt_of_lt_of_le hlt hsz1))
    have b1 : AllBare (s₁.setGen gn .finished).gens := G1.inv.bare.moved (GenOnlyQ.of (GenOnly.setGen s₁ gn .finished) hs1 rfl)
    have z1 : Slp Ps s₁ { s₁.setGen gn .finished with heap := h' } := ⟨rfl, b1, fun b o _ e => hk b o e, fun b hb => by
      obtain ⟨o, e, d⟩ := G1.obj b hb
      exact ⟨o, hk b o e, d⟩⟩
    exact hQ _ H1 (G1.slept F (fun _ _ _ _ _ => True.intro) z1) fun b hb o e => hk b o (kp b hb o e)

/-! ### all, any, sum of it -/
theorem all_gx (hA1 : A' = A.in1.in1) (hh : A.handled = none) (hroom : A.depth < recursionLimit) (F : Far X fp Ps) (hk : ∀ i h h', tn i h → (∀ b ∈ fp, ∀ o, h.get? b = some o → h'.get? b = some o) → tn i h') (hpn : (a, go) ∈ X.pn) (hG : ∀ h : Heap, h.get? a = some go → h.IsGen a gn)
    {tr : Nat → Bool} (hv : ∀ j, val j = .bl (tr j)) {R : Result → Shared → Prop} (h1 : ∀ s' H, (∀ j, j < n₀ → tr j = true) → GAt X fp Ps (fun _ _ => True) τ W n₀ H s' → R (.ok (.ret (.bool true))) s')
    (h2 : ∀ s' H j, j < n₀ → tr j = false → GAt X fp Ps (fun _ _ => True) τ W (j + 1) H s' → R (.ok (.ret (.bool false))) s') :
    ∀ (k i : Nat) (s : Shared), n₀ - i = k → i ≤ n₀ → (∀ j, j < i → tr j = true) → Awk X A' fp Ps tn τ W n₀ val gn i s → codeAny (model X.prog X.w) A (.builtin "all.loop" ⟨[.ref a], []⟩) R s := by
  intro k
  induction k with
  | zero =>
    intro i s hk' hi ha w
    have hin : i = n₀ := by omega
    subst hin
    refine codeAny_builtin PySem.F.entry_all_loop ?_
    rw [Around.under_plainId PySem.F.plain_all_loop _]
    show wpAny _ A.in1 (pyNext (.ref a) >>= _) _ _ s
    refine wpAny_bind (Awk.done (A := A.in1) hA1 hh hroom F hpn hG w fun s' H G _ => ?_)
    exact wpAny_bind (wpAny_rule (wpAny_pure (h1 s' H ha G)))
  | succ k ih =>
    intro i s hk' hi ha w
    have hlt : i < n₀ := by omega
    refine codeAny_builtin PySem.F.entry_all_loop ?_
    rw [Around.under_plainId PySem.F.plain_all_loop _]
    show wpAny _ A.in1 (pyNext (.ref a) >>= _) _ _ s
    refine wpAny_bind (Awk.item (A := A.in1) hA1 hh hroom F hk hpn hG hlt w fun v s' rv w' _ => ?_)
    rw [hv i] at rv
    have e : v = .bool (tr i) := rv
    subst e
    refine wpAny_bind (wpAny_holding (wpAny_truthy_bool ?_))
    refine wpAny_bind (wpAny_letGo ?_)
    cases hb : tr i with
    | true =>
      simp only [if_true]
      refine wpAny_pure ⟨plainId_quiet PySem.F.plain_all_loop _, ih (i + 1) _ (by omega) hlt (fun j hj => ?_) w'⟩
      rcases Nat.lt_or_ge j i with z | z
      · exact ha j z
      · rw [show j = i from by omega]; exact hb
    | false =>
      simp only [Bool.false_eq_true, if_false]
      obtain ⟨⟨H, G⟩, _⟩ := w'
      exact wpAny_bind (wpAny_rule (wpAny_pure (h2 s' H i hlt hb G.top)))
end
end Wk

set_option Elab.async false
set_option linter.all false
set_option maxRecDepth 100000
set_option maxHeartbeats 2000000
namespace Wk
open PySem PySem.Spec PyProof.Rows L2 GxR GenW
section
variable {X : Cx} {A' A : Around} {elt tg iter : Expr} {scope : Scope} {pos : Pos} {it a S : Addr} {gn : Nat} {go : Obj} {fp Ps : List Addr} {tn : Nat → Heap → Prop} {J : It} {τ : L2.St} {vs : List Nat} {W : Nat → Hp → Prop} {n₀ : Nat} {val : Nat → V} {g : TG} {te : TE}
theorem sum_gx (hA1 : A' = A.in1.in1) (hh : A.handled = none) (hroom : A.depth < recursionLimit) (F : Far X fp [S]) (hk : ∀ i h h', tn i h → (∀ b ∈ fp, ∀ o, h.get? b = some o → h'.get? b = some o) → tn i h') (hpn : (a, go) ∈ X.pn) (hG : ∀ h : Heap, h.get? a = some go → h.IsGen a gn)
    {vi : Nat → Int} (hv : ∀ j, val j = .int (vi j)) (hfit : ∀ j, j < n₀ → InLong (vi j) ∧ InLong (preSum vi (j + 1))) {R : Result → Shared → Prop} (h1 : ∀ s' t' H, GAt X fp [S] (fun _ _ => True) τ W n₀ H s' → R (.ok (.ret (.int (preSum vi n₀) t'))) s') :
    ∀ (k i : Nat) (s : Shared) (tA : Tok) (c : Nat), n₀ - i = k → i ≤ n₀ → Awk X A' fp [S] tn τ W n₀ val gn i s → s.heap.get? S = some { cls := .type "list", dict := none, data := .seq #[.int (preSum vi i) tA] c, slots := #[] } →
      codeAny (model X.prog X.w) A (.builtin "sum.loop" ⟨[.ref a, .ref S, rawInt 0, rawInt 0], []⟩) R s := by
  intro k
  induction k with
  | zero =>
    intro i s tA c hk' hi w hS
    have hin : i = n₀ := by omega
    subst hin
    refine codeAny_builtin PySem.F.entry_sum_loop ?_
    rw [Around.under_plainId PySem.F.plain_sum_loop _]
    show wpAny _ A.in1 (seqItems? (.ref S) >>= _) _ _ s
    refine wpAny_bind (wpAny_seqItems hS rfl ?_)
    show wpAny _ A.in1 (tryCatch (pyNext (.ref a)) _ >>= _) _ _ s
    refine wpAny_bind (wpAny_tryCatch (Awk.done (A := A.in1) hA1 hh hroom F hpn hG w fun s' H G _ => ?_))
    exact wpAny_pure (h1 s' tA H G)
  | succ k ih =>
    intro i s tA c hk' hi w hS
    have hlt : i < n₀ := by omega
    refine codeAny_builtin PySem.F.entry_sum_loop ?_
    rw [Around.under_plainId PySem.F.plain_sum_loop _]
    show wpAny _ A.in1 (seqItems? (.ref S) >>= _) _ _ s
    refine wpAny_bind (wpAny_seqItems hS rfl ?_)
    show wpAny _ A.in1 (tryCatch (pyNext (.ref a)) _ >>= _) _ _ s
    refine wpAny_bind (wpAny_tryCatch (Awk.item (A := A.in1) hA1 hh hroom F hk hpn hG hlt w fun v s' rv w' kp => ?_))
    rw [hv i] at rv
    obtain ⟨t, rfl⟩ := _root_.id rv
    have hS' := kp S (List.mem_singleton.mpr rfl) _ hS
    obtain ⟨⟨f1, f2⟩, f3, f4⟩ := hfit i hlt
    have hc : ((decide (-(2 ^ 63) ≤ vi i) && decide (vi i < 2 ^ 63)) && (decide (-(2 ^ 63) ≤ preSum vi i + vi i) && decide (preSum vi i + vi i < 2 ^ 63))) = true := by
      simp only [preSum] at f3 f4
      simp only [Bool.and_eq_true, decide_eq_true_eq]
      exact ⟨⟨f1, f2⟩, f3, f4⟩
    show wpAny _ A.in1 (if (_ : Bool) = true then (mkInt (preSum vi i + vi i) >>= _) else _) _ _ _
    split
    · refine wpAny_bind (wpAny_mkInt ?_)
      show wpAny _ A.in1 (updateSeq S (fun _ => #[.int (preSum vi i + vi i) s'.toks]) >>= _) _ _ _
      refine wpAny_bind ?_
      obtain ⟨⟨H, G⟩, _⟩ := id w'
      refine wpAny_updateSeq hS' rfl (wpAny_pure ⟨plainId_quiet PySem.F.plain_sum_loop _, ih (i + 1) _ s'.toks _ (by omega) hlt (w'.slept F hk ⟨rfl, G.inv.bare, fun b o hb e => ?_, fun b hb => ?_⟩ rfl) (Heap.get?_update_self _ hS' rfl)⟩)
      · exact (Heap.get?_update_other _ _ (fun h : S = b => hb (List.mem_singleton.mpr h.symm))).trans e
      · rw [List.mem_singleton.mp hb]
        exact ⟨_, Heap.get?_update_self _ hS' rfl, fun v q => by cases q⟩
    · rename_i hneg
      exact absurd hc hneg
end
/-- a generator, just made in the state s5; s3: ahead of its frame -/
structure Made (X : Cx) (pins : List (Addr × Obj)) (σ : L2.St) (elt tg iter : Expr) (scope : Scope) (gpos : Pos) (J : It) (H2 : Hp) (s3 : Shared) (fp : List Addr) (it : Addr) (tn : Nat → Heap → Prop) (cenv : Env) (a : Addr) (go : Obj) (gn : Nat) (s5 : Shared) : Prop where
  inv : Inv X pins σ H2 s3
  turn : Turn X.prog X.w X.K tg J fp it tn
  fpo : ∀ b ∈ fp, FpOk X pins H2 b ∧ b < s3.heap.objs.size
  env : ∃ code, cenv = genEnv scope (cloFrom X.env.cells scope.names []) s3.heap.objs.size code builtinsNs X.env
  tn0 : tn 0 s5.heap
  os : s5.os = s3.os
  bare : AllBare s5.gens
  keep : ∀ b o, s3.heap.get? b = some o → s5.heap.get? b = some o
  ns : ∃ m, s5.heap.Ns s3.heap.objs.size m
  gen : s5.gens[gn]? = some (.fresh (.compStart (.GeneratorExp elt [⟨tg, iter, [], 0⟩] scope gpos) 0 (.ref it) .none cenv))
  obj : s5.heap.get? a = some go
  isg : ∀ h : Heap, h.get? a = some go → h.IsGen a gn
  lta : s3.heap.objs.size < a
  noc : ∀ v, go.data ≠ .cell v
section
variable {X : Cx} {pins : List (Addr × Obj)} {σ : L2.St} {H : Hp} {s : Shared} {elt tg iter : Expr} {scope : Scope} {gpos : Pos} {own : List (Str × Nat)} {wi : TI}
theorem gen_mk {c P : Addr} {k : Nat} {Q' : Value → Shared → Prop} {R : It → Hp → Prop} (hr : Room k X.A) (TB : GxR.TabB X.base X.mg c P) (hcode : X.env.code = .ref c) (hco : scope.isCoroutine = false) (hcell : ∀ y ∈ scope.names, y.2 ≠ .cell)
    (hdot : scope.names.lookup (".0" : Str) = some NameKind.local) (ok : BlkOk X.N X.env.scope scope own) (hi : PI X tg iter wi) (hs : ∀ v, genFold iter X.env v = pure v) (I : Inv X pins σ H s)
    (h : wi σ H fun J H1 => TabG H1 P ∧ ∀ H2, Tabbed P H1 H2 → R J H2)
    (hQ : ∀ J H2 s3 fp it tn cenv a go gn s5, R J H2 → Made X pins σ elt tg iter scope gpos J H2 s3 fp it tn cenv a go gn s5 → Q' (.ref a) s5) :
    wpAny (model X.prog X.w) X.A (eval (.GeneratorExp elt [⟨tg, iter, [], 0⟩] scope gpos) X.env) Q' X.xe s := by
  have hfree : ∀ y ∈ scope.names, y.2 = .free → ∃ c, X.env.cells.lookup y.1 = some c := fun y hy e => by
    rcases ok.free y hy e with k | k
    · exact I.ok.has _ (.inl k)
    · exact I.ok.has _ (.inr k)
  refine wpAny_GeneratorExp_make hco (closure_ok hfree) hcell hdot ok.kind (by have := hr.dp; omega) ?_ hs
  refine thn (hi.run pins s σ H _ I h) fun xv s1 hx => thn hx fun itv s2 h2 => ?_
  obtain ⟨it, fp, tn, J, H1, e, I1, T, st1, f1, ⟨ps, hP, ht⟩, q⟩ := h2
  subst e
  have hPs : s2.heap.get? P = some { cls := .none, data := .fields ps } := I1.hok P _ hP
  have cd : PySem.W.CodeHd s2.heap c P := TB.code.keeps fun b u e => I1.bk b u e
  have hcP : cStatics ≠ P := fun e => by
    obtain ⟨_, hns, _⟩ := I1.nolimit
    obtain ⟨o', es, ep, ho, hd, _⟩ := hns
    rw [e, hPs] at ho
    cases ho
    cases hd
  have nfP : ∀ b ∈ fp, b ≠ P := fun b hb z => by
    have q := (f1 b hb).1
    rw [z, hP] at q; cases q
  have sz : ∀ b ∈ fp, b < s2.heap.objs.size := fun b hb => by
    obtain ⟨o, e, _⟩ := T.obj _ _ st1 b hb
    exact Heap.lt_size e
  have cont : ∀ (code : Value) (h3 : Heap) (tk : Nat) (more : Array Value), Heap.ExtBut P s2.heap h3 → s2.heap.objs.size ≤ h3.objs.size → h3.get? P = some { cls := .none, data := .fields (ps ++ more) } → TriplesOk (ps ++ more).toList →
      wpAny (model X.prog X.w) X.A (builtinsFor X.env.globals X.env.builtins) (fun bi s₄ =>
        ∀ h', h'.Ns s₄.heap.objs.size (fun y => if y = ".0" then some (.ref it) else none) → Heap.SameBut s₄.heap.objs.size (s₄.heap.push { cls := .type "frame", data := .dict #[] }) h' →
          Q' (.ref h'.objs.size) { s₄ with
            gens := s₄.gens.push (.fresh (.compStart (.GeneratorExp elt [⟨tg, iter, [], 0⟩] scope gpos) 0 (.ref it) .none (genEnv scope (cloFrom X.env.cells scope.names []) s₄.heap.objs.size code bi X.env))),
            toks := s₄.toks + 1 + 1 + 1,
            heap := h'.push { cls := .type "generator", data := .fields #[.int s₄.gens.size 0, .str "<genexpr>" (s₄.toks + 1), .str (X.env.qual ++ "<genexpr>") (s₄.toks + 1 + 1)] } }) X.xe { s2 with heap := h3, toks := tk } := by
    intro code h3 tk more hx hsz hP3 ht3
    obtain ⟨bm, ob, e1, e2, e3, e4, e5, e6, e7, e8⟩ := TB.bm
    refine wpAny_builtinsFor (m := X.mg) (by rw [I1.ok.glob]; exact (I1.mod.glob.keeps I1.bk).extBut hx TB.gP) e1 e2 (hx _ _ e4 (I1.bk _ _ e5)) e6 e7 e8 ?_
    intro h' hn' hs'
    have I3 : Inv X pins σ (upd H1 P (.tbl (ps ++ more))) ({ s2 with heap := h3, toks := tk } : Shared) :=
      inv_tab (g' := s2.gens) (d' := s2.drawn) (t' := tk) I1 hP (fun b o hb e => hx b o hb e) hP3 I1.bare
    have hsz' : h'.objs.size = h3.objs.size + 1 := by rw [hs'.1, Heap.size_push]
    have keep' : ∀ b o, h3.get? b = some o → h'.get? b = some o := fun b o e => hs'.extBut b o (Nat.ne_of_lt (Heap.lt_size e)) (Heap.get?_push_of_some _ e)
    refine hQ J (upd H1 P (.tbl (ps ++ more))) ({ s2 with heap := h3, toks := tk } : Shared) fp it tn _ _ _ s2.gens.size _ (q _ ⟨⟨ps ++ more, upd_same, ht3⟩, fun b hb => upd_ne hb⟩) ⟨I3, T, fun b hb => ⟨⟨?_, (f1 b hb).2⟩, ?_⟩, ⟨code, rfl⟩, ?_, rfl, ?_, fun b o e => ?_, ⟨_, hn'.push _⟩, Array.getElem?_push_size .., Heap.get?_push_size _ rfl, fun h e => ⟨_, _, _, e, rfl, rfl, rfl⟩, ?_, fun v q => by cases q⟩
    · rw [upd_ne (nfP b hb)]; exact (f1 b hb).1
    · exact Nat.lt_of_lt_of_le (sz b hb) hsz
    · exact T.keep _ _ _ st1 fun b hb o e => Heap.get?_push_of_some _ (keep' b o (hx b o (nfP b hb) e))
    · exact I1.bare.push rfl
    · exact Heap.get?_push_of_some _ (keep' b o e)
    · show h3.objs.size < h'.objs.size
      omega
  refine ⟨I1.nolimit, ?_⟩
  cases hf : codeAmong gpos ps.toList with
  | none =>
    refine wpAny_genexprCodeX hcode (cd.code hPs ht) (cd.tab hPs) hf fun c' h' tk hx hge hlt hco' _ htab' _ => ?_
    obtain ⟨o1, vs, f1, tf, fl, tg, inF, tx, tt, op, _, _, _, _, _, _, _, _, _, htr, _⟩ := hco'
    exact cont _ h' tk _ hx (Nat.le_trans hge (Nat.le_of_lt hlt)) htab'.2 htr
  | some cv =>
    refine wpAny_genexprCode_hit hcode (cd.code hPs ht) hf ?_
    have z := cont cv s2.heap s2.toks #[] (Heap.ExtBut.refl _ _) (Nat.le_refl _) (by rw [Array.append_empty]; exact hPs) (by rw [Array.append_empty]; exact ht)
    exact z
end
end Wk

set_option Elab.async false
set_option linter.all false
set_option maxRecDepth 100000
set_option maxHeartbeats 2000000
namespace Wk
open PySem PySem.Spec PyProof.Rows L2 GxR GenW
section
variable {X : Cx} {pins : List (Addr × Obj)} {σ : L2.St} {H H2 : Hp} {s s3 s5 s6 : Shared} {elt tg iter : Expr} {scope : Scope} {gpos : Pos} {own : List (Str × Nat)} {wi : TI} {A' : Around} {it a : Addr} {gn n₀ : Nat} {go : Obj} {fp Ps : List Addr} {tn : Nat → Heap → Prop}
  {J : It} {W : Nat → Hp → Prop} {val : Nat → V} {g : TG} {te : TE} {cenv : Env}
theorem Made.awk (M : Made X pins σ elt tg iter scope gpos J H2 s3 fp it tn cenv a go gn s5) (hc : X.calm = true) (hN : X.N.Nodup) (ok : BlkOk X.N X.env.scope scope own) (hcell : ∀ y ∈ scope.names, y.2 ≠ .cell) (hco : scope.isCoroutine = false)
    (hA : A'.handled = none) (hA2 : A'.frames = some X.stack) (hpg : PG (gfx X A' s3 H2 cenv fp [(a, go)]) tg g) (hpe : PE (gfx X A' s3 H2 cenv fp [(a, go)]) elt te)
    (turn : Turns J W n₀ g te (wipe σ (own.map (·.2))) (own.map (·.2)) val) (w0 : W 0 H2) (os6 : s6.os = s5.os) (g6 : s6.gens = s5.gens) (k6 : ∀ b o, s5.heap.get? b = some o → s6.heap.get? b = some o)
    (hPs : ∀ b ∈ Ps, s5.heap.objs.size ≤ b ∧ ∃ o, s6.heap.get? b = some o ∧ ∀ v, o.data ≠ .cell v) :
    Far (gfx X A' s3 H2 cenv fp [(a, go)]) fp Ps ∧ Awk (gfx X A' s3 H2 cenv fp [(a, go)]) A' fp Ps tn (wipe σ (own.map (·.2))) W n₀ val gn 0 s6 := by
  obtain ⟨code, hce⟩ := M.env
  obtain ⟨m, hn⟩ := M.ns
  have lt5 : s3.heap.objs.size < s5.heap.objs.size := Nat.lt_trans M.lta (Heap.lt_size M.obj)
  have hL : cenv.locals = s3.heap.objs.size := by rw [hce]; rfl
  have nostk : ∀ b, s3.heap.objs.size ≤ b → b ∉ frs X.stack := fun b hb z => by
    have f := M.inv.fpOk (H' := H2) hb (M.inv.hok.fresh hb)
    rcases List.mem_cons.mp (M.inv.stkSub b z) with y | y
    · exact f.2.1 y
    · exact f.2.2.1 y
  have I6 : Inv (gfx X A' s3 H2 cenv fp [(a, go)]) [] (wipe σ (own.map (·.2))) H2 s6 := by
    refine gen_start M.inv ok hN hcell M.fpo hA hA2 hce (os6.trans M.os) (by rw [g6]; exact M.bare) (fun b o e => k6 b o (M.keep b o e)) (hn.at' fun o e => k6 _ o e) fun p hp => ?_
    have e : p = (a, go) := by simpa using hp
    subst e
    exact ⟨k6 _ _ M.obj, M.inv.hok.fresh (Nat.le_of_lt M.lta), Nat.ne_of_gt M.lta, nostk _ (Nat.le_of_lt M.lta), M.noc⟩
  have I5 : Inv (gfx X A' s3 H2 cenv fp [(a, go)]) [] (wipe σ (own.map (·.2))) H2 s5 := by
    refine gen_start M.inv ok hN hcell M.fpo hA hA2 hce M.os M.bare M.keep hn fun p hp => ?_
    have e : p = (a, go) := by simpa using hp
    subst e
    exact ⟨M.obj, M.inv.hok.fresh (Nat.le_of_lt M.lta), Nat.ne_of_gt M.lta, nostk _ (Nat.le_of_lt M.lta), M.noc⟩
  have ge3 : ∀ b ∈ Ps, s3.heap.objs.size ≤ b := fun b hb => Nat.le_trans (Nat.le_of_lt lt5) (hPs b hb).1
  have F : Far (gfx X A' s3 H2 cenv fp [(a, go)]) fp Ps := by
    refine ⟨ge3, fun b hb => ?_, fun b hb x c e z => ?_, fun b hb p hp => ?_, fun b hb => nostk b (ge3 b hb), fun b hb z => ?_, fun b hb => hb, fun b hb p hp => ?_⟩
    · show b ≠ cenv.locals
      rw [hL]; exact Nat.ne_of_gt (Nat.lt_of_lt_of_le lt5 (hPs b hb).1)
    · obtain ⟨v, q⟩ := I5.cell x c e
      exact absurd (Nat.lt_of_lt_of_le q.lt (by rw [z]; exact (hPs b hb).1)) (Nat.lt_irrefl _)
    · have e : p = (a, go) := by simpa using hp
      subst e
      exact Nat.ne_of_lt (Nat.lt_of_lt_of_le (Heap.lt_size M.obj) (hPs b hb).1)
    · exact absurd (Nat.lt_of_lt_of_le (M.fpo b hb).2 (ge3 b z)) (Nat.lt_irrefl _)
    · have e : p = (a, go) := by simpa using hp
      subst e
      exact Nat.ne_of_gt (Nat.lt_trans (M.fpo b hb).2 M.lta)
  refine ⟨F, ?_⟩
  have G6 : GAt (gfx X A' s3 H2 cenv fp [(a, go)]) fp Ps tn (wipe σ (own.map (·.2))) W 0 H2 s6 :=
    ⟨I6, M.turn.keep _ _ _ M.tn0 fun b _ o e => k6 b o e, fun b hb => (M.fpo b hb).1.1, fun b hb => M.inv.hok.fresh (ge3 b hb), fun b hb => (hPs b hb).2, w0⟩
  refine ⟨⟨H2, G6⟩, .fresh (.compStart (.GeneratorExp elt [⟨tg, iter, [], 0⟩] scope gpos) 0 (.ref it) .none cenv), by rw [g6]; exact M.gen, fun s' z => ⟨rfl, ?_⟩⟩
  have hτ : ∀ σ' : L2.St, wipe σ' (own.map (·.2)) = wipe σ (own.map (·.2)) → (wipe σ (own.map (·.2))).length = σ'.length ∧ ∀ (j : Nat) v, (wipe σ (own.map (·.2)))[j]? = some (some v) → σ'[j]? = some (some v) := fun σ' e => by
    refine ⟨by rw [← e, wipe_length], fun j v h => ?_⟩
    rw [← e] at h
    exact (wipe_some h).1
  rw [Nat.sub_zero]
  exact seg_gs (X := gfx X A' s3 H2 cenv fp [(a, go)]) over_gen.symm hc rfl (by show cenv.scope.isCoroutine = false; rw [hce]; exact hco) M.turn hpg hpe F hτ turn (G6.slept F M.turn.keep z) (KeptP.refl _ _)
/-- back in the def's own context -/
theorem Made.back {tn' : Nat → Heap → Prop} {τ : L2.St} {i : Nat} {s' : Shared} {H' : Hp} (M : Made X pins σ elt tg iter scope gpos J H2 s3 fp it tn cenv a go gn s5) (G : GAt (gfx X A' s3 H2 cenv fp [(a, go)]) fp Ps tn' τ W i H' s') : Inv X pins σ H' s' :=
  M.inv.call' (ch := fp) G.inv.os G.inv.base G.inv.hok G.inv.bare fun b hb => ⟨(M.fpo b hb).1.2.2.2.1, (M.fpo b hb).1.2.1, (M.fpo b hb).1.2.2.2.2.1, (M.fpo b hb).1.2.2.2.2.2⟩
/-- all(elt for tg in iter) -/
def tAllX (P : Addr) (wi : TI) (g : TG) (te : TE) (vs : List Nat) : TE := fun σ H Q => wi σ H fun J H1 => TabG H1 P ∧ ∀ H2, Tabbed P H1 H2 → ∃ (n₀ : Nat) (tr : Nat → Bool) (W : Nat → Hp → Prop), W 0 H2 ∧ Turns J W n₀ g te (wipe σ vs) vs (fun i => .bl (tr i)) ∧
  (∀ H, (∀ j, j < n₀ → tr j = true) → W n₀ H → Q (.bl true) H) ∧ ∀ j H, j < n₀ → tr j = false → W (j + 1) H → Q (.bl false) H
/-- sum(elt for tg in iter) -/
def tSumX (P : Addr) (wi : TI) (g : TG) (te : TE) (vs : List Nat) : TE := fun σ H Q => wi σ H fun J H1 => TabG H1 P ∧ ∀ H2, Tabbed P H1 H2 → ∃ (n₀ : Nat) (vi : Nat → Int) (W : Nat → Hp → Prop), W 0 H2 ∧ Turns J W n₀ g te (wipe σ vs) vs (fun i => .int (vi i)) ∧
  (∀ j, j < n₀ → InLong (vi j) ∧ InLong (preSum vi (j + 1))) ∧ ∀ H, W n₀ H → Q (.int (preSum vi n₀)) H
theorem Room.gen {k : Nat} {A : Around} (r : Room (k + 1) A) (env : Env) : Room k (A.in1.in1.deeper env) :=
  ⟨r.hd, by have := r.dp; show A.depth + 1 + 3 * k + 5 < _; omega, by have := r.un; show A.units + 1 + 1 + 3 + 16 * k + 200 < _; omega⟩
theorem pe_allX {c P : Addr} {p pos : Pos} {k : Nat} (hr : Room k X.A) (hc : X.calm = true) (hN : X.N.Nodup) (hg : Gl X "all") (hm : X.mg "all" = none) (hb : bootBuiltins "all" = some (.builtin "all")) (TB : GxR.TabB X.base X.mg c P) (hcode : X.env.code = .ref c)
    (hco : scope.isCoroutine = false) (hcell : ∀ y ∈ scope.names, y.2 ≠ .cell) (hdot : scope.names.lookup (".0" : Str) = some NameKind.local) (ok : BlkOk X.N X.env.scope scope own) (hi : PI X tg iter wi) (hs : ∀ v, genFold iter X.env v = pure v)
    (hpg : ∀ (s : Shared) (H : Hp) (C : Addr) (code : Value) (cl : List (Str × Addr)) (fp : List Addr) (pn : List (Addr × Obj)), PG (gfx X X.A.in1.in1 s H (genEnv scope cl C code builtinsNs X.env) fp pn) tg g)
    (hpe : ∀ (s : Shared) (H : Hp) (C : Addr) (code : Value) (cl : List (Str × Addr)) (fp : List Addr) (pn : List (Addr × Obj)), PE (gfx X X.A.in1.in1 s H (genEnv scope cl C code builtinsNs X.env) fp pn) elt te)
    (he : starEach [.GeneratorExp elt [⟨tg, iter, [], 0⟩] scope gpos] X.env = (false, eval (.GeneratorExp elt [⟨tg, iter, [], 0⟩] scope gpos) X.env) :: starEach [] X.env := by rfl) :
    PE X (.Call (.Name "all" p) [.GeneratorExp elt [⟨tg, iter, [], 0⟩] scope gpos] [] pos) (tAllX P wi g te (own.map (·.2))) := by
  refine ⟨fun pins s σ H Q I h => ?_⟩
  refine wpAny_Call_Name_kw (ld_blt I hg hm hb (PyProof.Rows.callWith_builtin1 ?_ he (by rfl)))
  rw [he]
  show wpAny _ _ (spliced ((false, eval (.GeneratorExp elt [⟨tg, iter, [], 0⟩] scope gpos) X.env) :: backTo pos (starEach [] X.env))) _ _ s
  refine Calls.spliced_cons (gen_mk hr TB hcode hco hcell hdot ok hi hs I h fun J H2 s3 fp it tn cenv a go gn s5 hR M => ?_)
  obtain ⟨n₀, tr, W, w0, turn, q1, q2⟩ := hR
  obtain ⟨code, hce⟩ := M.env
  have fr : X.A.in1.in1.frames = some X.stack := I.ok.frames
  obtain ⟨F, aw⟩ := M.awk (A' := X.A.in1.in1) (Ps := []) (val := fun i => .bl (tr i)) hc hN ok hcell hco hr.hd fr (by rw [hce]; exact hpg _ _ _ _ _ _ _) (by rw [hce]; exact hpe _ _ _ _ _ _ _) turn w0 rfl rfl (fun _ _ e => e) (fun b hb => by cases hb)
  refine Calls.spliced_nil ?_
  refine call_function_tree PySem.F.kind_all PySem.F.plain_all PySem.F.entry_all (PySem.F.args_all1 _) ?_
  unfold Builtin.«all»
  refine wpAny_bind (m := oneArg "all" _) (wpAny_pure ?_)
  refine wpAny_bind (wpAny_pyIter_gen (M.isg _ M.obj) ?_)
  refine wpAny_pure ⟨plainId_quiet PySem.F.plain_all_loop _, ?_⟩
  refine all_gx (A := X.A) (go := go) rfl hr.hd (by have := hr.dp; omega) F M.turn.keep (List.mem_singleton.mpr rfl) M.isg (fun _ => rfl) (fun s' H' ht G => ?_) (fun s' H' j hj hf G => ?_) n₀ 0 s5 (Nat.sub_zero _) (Nat.zero_le _) (fun j hj => by omega) aw
  · exact ⟨.bl true, H', M.back G, rfl, q1 H' ht G.w⟩
  · exact ⟨.bl false, H', M.back G, rfl, q2 j H' hj hf G.w⟩
theorem pe_sumX {c P : Addr} {p pos : Pos} {k : Nat} (hr : Room k X.A) (hc : X.calm = true) (hN : X.N.Nodup) (hg : Gl X "sum") (hm : X.mg "sum" = none) (hb : bootBuiltins "sum" = some (.builtin "sum")) (TB : GxR.TabB X.base X.mg c P) (hcode : X.env.code = .ref c)
    (hco : scope.isCoroutine = false) (hcell : ∀ y ∈ scope.names, y.2 ≠ .cell) (hdot : scope.names.lookup (".0" : Str) = some NameKind.local) (ok : BlkOk X.N X.env.scope scope own) (hi : PI X tg iter wi) (hs : ∀ v, genFold iter X.env v = pure v)
    (hpg : ∀ (s : Shared) (H : Hp) (C : Addr) (code : Value) (cl : List (Str × Addr)) (fp : List Addr) (pn : List (Addr × Obj)), PG (gfx X X.A.in1.in1 s H (genEnv scope cl C code builtinsNs X.env) fp pn) tg g)
    (hpe : ∀ (s : Shared) (H : Hp) (C : Addr) (code : Value) (cl : List (Str × Addr)) (fp : List Addr) (pn : List (Addr × Obj)), PE (gfx X X.A.in1.in1 s H (genEnv scope cl C code builtinsNs X.env) fp pn) elt te)
    (he : starEach [.GeneratorExp elt [⟨tg, iter, [], 0⟩] scope gpos] X.env = (false, eval (.GeneratorExp elt [⟨tg, iter, [], 0⟩] scope gpos) X.env) :: starEach [] X.env := by rfl) :
    PE X (.Call (.Name "sum" p) [.GeneratorExp elt [⟨tg, iter, [], 0⟩] scope gpos] [] pos) (tSumX P wi g te (own.map (·.2))) := by
  refine ⟨fun pins s σ H Q I h => ?_⟩
  refine wpAny_Call_Name_kw (ld_blt I hg hm hb (PyProof.Rows.callWith_builtin1 ?_ he (by rfl)))
  rw [he]
  show wpAny _ _ (spliced ((false, eval (.GeneratorExp elt [⟨tg, iter, [], 0⟩] scope gpos) X.env) :: backTo pos (starEach [] X.env))) _ _ s
  refine Calls.spliced_cons (gen_mk hr TB hcode hco hcell hdot ok hi hs I h fun J H2 s3 fp it tn cenv a go gn s5 hR M => ?_)
  obtain ⟨n₀, vi, W, w0, turn, hfit, q1⟩ := hR
  obtain ⟨code, hce⟩ := M.env
  have fr : X.A.in1.in1.frames = some X.stack := I.ok.frames
  refine Calls.spliced_nil ?_
  refine call_function_tree PySem.F.kind_sum PySem.F.plain_sum PySem.F.entry_sum (PySem.F.args_sum1 _) ?_
  unfold Builtin.«sum»
  simp only [List.length_cons, List.length_nil]
  rw [if_neg (by decide)]
  refine wpAny_bind (wpAny_of_eq (show Builtin.Builtins.bindParams "sum" ["start"] 0 { } = pure [none] from rfl) ?_)
  refine wpAny_bind (wpAny_pyIter_gen (M.isg _ M.obj) ?_)
  refine wpAny_bind (wpAny_mkInt ?_)
  refine wpAny_bind (wpAny_pure ?_)
  simp only [List.forIn_cons, List.forIn_nil]
  refine wpAny_bind (wpAny_bind (wpAny_bind (wpAny_isInstance (T := "int") (b := false) (typeIs_int _ _ _) PySem.sub_int_str ?_)))
  simp only [Bool.false_eq_true, if_false]
  refine wpAny_pure (wpAny_bind (wpAny_bind (wpAny_isInstance (T := "int") (b := false) (typeIs_int _ _ _) PySem.sub_int_bytes ?_)))
  simp only [Bool.false_eq_true, if_false]
  refine wpAny_pure (wpAny_bind (wpAny_bind (wpAny_isInstance (T := "int") (b := false) (typeIs_int _ _ _) PySem.sub_int_bytearray ?_)))
  simp only [Bool.false_eq_true, if_false]
  refine wpAny_pure (wpAny_pure ?_)
  refine wpAny_bind (wpAny_newObj_type ?_)
  refine wpAny_pure ⟨plainId_quiet PySem.F.plain_sum_loop _, ?_⟩
  obtain ⟨F, aw⟩ := M.awk (A' := X.A.in1.in1) (Ps := [s5.heap.objs.size]) (val := fun i => .int (vi i)) (s6 := { s5 with toks := s5.toks + 1, heap := s5.heap.push { cls := .type "list", dict := none, data := .seq #[.int 0 s5.toks] 0, slots := #[] } }) hc hN ok hcell hco hr.hd fr (by rw [hce]; exact hpg _ _ _ _ _ _ _) (by rw [hce]; exact hpe _ _ _ _ _ _ _) turn w0 rfl rfl
    (fun _ _ e => Heap.get?_push_of_some _ e) (fun b hb => by
      rw [List.mem_singleton.mp hb]
      exact ⟨Nat.le_refl _, _, Heap.get?_push_size _ rfl, fun v q => by cases q⟩)
  exact sum_gx (A := X.A) (go := go) rfl hr.hd (by have := hr.dp; omega) F M.turn.keep (List.mem_singleton.mpr rfl) M.isg (fun _ => rfl) hfit (fun s' t' H' G => ⟨.int _, H', M.back G, ⟨_, rfl⟩, q1 H' G.w⟩) n₀ 0 _ s5.toks 0 (Nat.sub_zero _) (Nat.zero_le _) aw (Heap.get?_push_size _ rfl)
end
end Wk

set_option Elab.async false
set_option linter.all false
set_option maxRecDepth 100000
set_option maxHeartbeats 3200000
/-! Sets of texts: set(list of texts), len, sorted. -/
namespace Wk
open PySem PySem.Spec PyProof.Rows L2
def strOf : Value → Str
  | .str k _ => k
  | _ => ⟨#[]⟩
theorem tail_perm (ep : Nat) (es : Array (Int × Value)) (t : SetTable) (b : Bool) : (Froz.tailTx ep es t b).1.toList.Perm es.toList := by
  unfold Froz.tailTx
  by_cases c : (!b && t.tooFull) = true
  · rw [if_pos c]; exact relayAll_perm _ _ _
  · rw [if_neg c]
theorem tail_ris (ep : Nat) (es : Array (Int × Value)) (t : SetTable) (b : Bool) (r : Ris t.place.toList) : Ris (Froz.tailTx ep es t b).2.2.place.toList := by
  unfold Froz.tailTx
  by_cases c : (!b && t.tooFull) = true
  · rw [if_pos c]; exact relayAll_ris _ _ _
  · rw [if_neg c]; exact r
theorem tail_led (ep : Nat) (es : Array (Int × Value)) (t : SetTable) (b : Bool) : (Froz.tailTx ep es t b).2.2.led = t.led := by
  unfold Froz.tailTx
  by_cases c : (!b && t.tooFull) = true
  · rw [if_pos c]; exact relayAll_led _ _ _
  · rw [if_neg c]
theorem addTx_perm (h : Int) (v : Value) (D : Froz.SD) : (Froz.addTx h v D).1.toList.Perm ((h, v) :: D.1.toList) := by
  have p := layNew_perm D.2.2 D.1 h v
  rw [Array.toList_push] at p
  exact (tail_perm _ _ _ _).trans (p.trans (List.perm_append_singleton (h, v) D.1.toList))
theorem off_ris {t : SetTable} (q : Ris t.place.toList) : Ris (if t.plain = true then { t with plain := false } else t).place.toList := by
  by_cases c : t.plain = true
  · rw [if_pos c]; exact q
  · rw [if_neg c]; exact q
theorem off_led (t : SetTable) : (if t.plain = true then { t with plain := false } else t).led = t.led := by
  by_cases c : t.plain = true
  · rw [if_pos c]
  · rw [if_neg c]
theorem addTx_ris (h : Int) (v : Value) (D : Froz.SD) (r : Ris D.2.2.place.toList) : Ris (Froz.addTx h v D).2.2.place.toList :=
  tail_ris _ _ _ _ (off_ris (layNew_ris D.2.2 D.1 h v r))
theorem addTx_led (h : Int) (v : Value) (D : Froz.SD) : (Froz.addTx h v D).2.2.led = D.2.2.led :=
  (tail_led _ _ _ _).trans ((off_led _).trans (layNew_led D.2.2 D.1 h v))
/-- the set of the texts l at a -/
structure TxR (P : Program) (w : World) (h : Heap) (a : Addr) (l : List Str) : Prop where
  ex : ∃ D : Froz.SD, h.get? a = some (Froz.sObj "set" D) ∧ Froz.TxOk P w D l ∧ Ris D.2.2.place.toList ∧ (w.params.followText "set-order" = true ∨ D.2.2.led = true) ∧ (D.1.toList.map fun e => strOf e.2).Perm l
  nd : l.Nodup
  sz : l.length < scanBound
section
variable {P : Program} {w : World} {A : Around} {E : Value → Shared → Prop} {s : Shared} {a : Addr} {l : List Str}
theorem TxR.at {h h' : Heap} (R : TxR P w h a l) (k : ∀ o, h.get? a = some o → h'.get? a = some o) : TxR P w h' a l := by
  obtain ⟨⟨D, e, r⟩, nd, sz⟩ := R
  exact ⟨⟨D, k _ e, r⟩, nd, sz⟩
theorem tx_fresh {h : Heap} (e : h.get? a = some { cls := .type "set", dict := none, data := .set #[] 0 (.fresh 0 0 (!w.params.followText "set-order")) }) : TxR P w h a [] := by
  refine ⟨⟨(#[], 0, .fresh 0 0 (!w.params.followText "set-order")), e, .nil rfl, List.Pairwise.nil, ?_, .nil⟩, .nil, by decide⟩
  show _ ∨ (!w.params.followText "set-order") = true
  cases w.params.followText "set-order"
  · exact .inr rfl
  · exact .inl rfl
/-- a text laid into it -/
theorem tx_add {k : Str} {u : Tok} {Q : Bool → Shared → Prop} (R : TxR P w s.heap a l) (hb : l.length + 1 < scanBound)
    (hQ : ∀ b h', Heap.SameBut a s.heap h' → TxR P w h' a (if k ∈ l then l else k :: l) → Q b { s with heap := h' }) : wpAny (model P w) A (setAddHashed a (.str k u) (hashStr w k)) Q E s := by
  obtain ⟨⟨D, ho, ok, ri, le, pm⟩, nd, sz⟩ := id R
  by_cases hk : k ∈ l
  · have q := hQ false s.heap (Heap.SameBut.refl a s.heap) (by rw [if_pos hk]; exact R)
    have hkey : (strKind P w).is k (.str k u) = true := Froz.is_str k u
    have hfound : ∃ j, List.findIdx? (fun e => (strKind P w).is k e.2) D.1.toList = some j := by
      cases hr : List.findIdx? (fun e => (strKind P w).is k e.2) D.1.toList with
      | some j => exact ⟨j, rfl⟩
      | none =>
        obtain ⟨e, he, z⟩ := (ok.mem k).mp hk
        have c := List.findIdx?_eq_none_iff.mp hr e he
        rw [z] at c; cases c
    obtain ⟨j, hj⟩ := hfound
    have hbs : D.1.size < scanBound := by rw [ok.sz]; exact sz
    unfold setAddHashed setAddHashedIn
    refine wpAny_holding (wpAny_bind (wpAny_setState_of ho rfl ok.fit ?_))
    dsimp only
    rw [byScan_of rfl hbs ok.el]
    simp only [↓reduceIte]
    unfold setAddByScan
    refine wpAny_bind ?_
    refine wpAny_bind (wpAny_rule ?_)
    refine wpAny_bind (wpAny_setScan_of (knd := strKind P w) (k := k) hkey ho rfl ok.fit ok.el ?_)
    rw [hj]
    dsimp only
    exact wpAny_pure (wpAny_pure q)
  · refine Froz.add_x ho ok hk hb (hQ true _ (Heap.SameBut.update ..) ?_)
    rw [if_neg hk]
    refine ⟨⟨_, Froz.get_upd _ ho rfl, Froz.add_ok u ok, addTx_ris _ _ _ ri, le.imp id fun z => by rw [addTx_led]; exact z, ?_⟩, List.nodup_cons.mpr ⟨hk, nd⟩, hb⟩
    exact ((addTx_perm (hashStr w k) (.str k u) D).map _).trans (List.Perm.cons _ pm)
theorem tx_loop {I : Addr} {fp wr : List Addr} {G : Array GenState → Array GenState → Prop} {n : Nat} {Pv : Nat → Value → Prop} {St : Nat → Shared → Prop} {R : Result → Shared → Prop}
    (W : WalksS P w A.in1 I fp wr G n Pv St) (S : Addr) (hSf : S ∉ fp) (xs : List Str) (hn : n = xs.length) (hval : ∀ i v, Pv i v → ∃ x t, xs[i]? = some x ∧ v = .str x t) (hb : xs.length + 1 < scanBound) :
    ∀ (k i : Nat) (s : Shared) (l : List Str), n - i = k → i ≤ n → St i s → TxR P w s.heap S l → l.length ≤ i → (∀ x, x ∈ l ↔ x ∈ xs.take i) →
      (∀ s' l', Moved (S :: wr) G s s' → TxR P w s'.heap S l' → l'.length ≤ n → (∀ x, x ∈ l' ↔ x ∈ xs) → R (.ok (.ret .none)) s') →
      codeAny (model P w) A (.builtin "set.update.loop" ⟨[.ref S, .ref I], []⟩) R s := by
  have hSw : S ∉ wr := fun h => hSf (W.sub _ h)
  have hsub : ∀ b ∈ wr, b ∈ S :: wr := fun b hb => List.mem_cons_of_mem _ hb
  intro k
  induction k with
  | zero =>
    intro i s l hk hi hst hT hl hm hR
    have hin : i = n := by omega
    subst hin
    refine codeAny_builtin PyProof.Rows.F.entry_set_update_loop ?_
    rw [Around.under_plainId PyProof.Rows.F.plain_set_update_loop _]
    show wpAny _ A.in1 (pyNext (.ref I) >>= _) _ _ s
    refine wpAny_bind (W.done s _ _ hst fun s' mv => ?_)
    show wpAny _ A.in1 (ret Value.none) _ _ s'
    refine wpAny_pure (hR s' l (mv.mono hsub) (hT.at fun o e => mv.heap S o hSw e) hl fun x => ?_)
    rw [hm x, hn, List.take_length]
  | succ k ih =>
    intro i s l hk hi hst hT hl hm hR
    have hlt : i < n := by omega
    refine codeAny_builtin PyProof.Rows.F.entry_set_update_loop ?_
    rw [Around.under_plainId PyProof.Rows.F.plain_set_update_loop _]
    show wpAny _ A.in1 (pyNext (.ref I) >>= _) _ _ s
    refine wpAny_bind (W.item i s _ _ hlt hst fun v s' hP hst' mv => ?_)
    obtain ⟨x, t, hx, rfl⟩ := hval i v hP
    have hT' : TxR P w s'.heap S l := hT.at fun o e => mv.heap S o hSw e
    show wpAny _ A.in1 (holding [Value.str x t] (setAdd S (.str x t)) >>= _) _ _ s'
    refine wpAny_bind (wpAny_holding ?_)
    unfold setAdd
    refine wpAny_holding ?_
    refine wpAny_bind ((strKind P w).pyHash (Froz.is_str x t) ?_)
    refine tx_add (s := { s' with toks := s'.toks + 1 }) hT' (by omega) fun b h' hsb hT2 => ?_
    refine wpAny_pure ⟨plainId_quiet PyProof.Rows.F.plain_set_update_loop _, ih (i + 1) _ _ (by omega) hlt (W.frame _ s' _ _ hst' (Nat.le_add_right _ _) fun b hb o e => ?_) hT2 ?_ (fun y => ?_) fun s'' l' mv' hT'' hl' hm' => ?_⟩
    · rw [hsb.2 b (fun h : b = S => hSf (by rw [← h]; exact hb))]; exact e
    · split
      · omega
      · rw [List.length_cons]; omega
    · have e : xs.take (i + 1) = xs.take i ++ [x] := by
        rw [List.take_succ, hx]; rfl
      rw [e, List.mem_append, List.mem_singleton, ← hm y]
      split
      · rename_i c
        exact ⟨.inl, fun z => z.elim id fun z => z ▸ c⟩
      · rw [List.mem_cons]; exact Or.comm
    · refine hR s'' l' (Moved.trans W.gtrans ((mv.mono hsub).then_heap (Nat.le_add_right _ _) fun b o hb e => ?_) mv') hT'' hl' hm'
      rw [hsb.2 b (fun h : b = S => hb (by rw [h]; exact List.mem_cons_self))]; exact e
end
end Wk

set_option Elab.async false
set_option linter.all false
set_option maxRecDepth 100000
set_option maxHeartbeats 3200000
namespace Wk
open PySem PySem.Spec PyProof.Rows L2
abbrev set0 (w : World) : Obj := { cls := .type "set", dict := none, data := .set #[] 0 (.fresh 0 0 (!w.params.followText "set-order")) }
theorem strs_get : ∀ {vs : List Value} {xs : List Str}, StrsAre vs xs → ∀ (i : Nat) (v : Value), vs[i]? = some v → ∃ x t, xs[i]? = some x ∧ v = .str x t
  | _, _, .nil, i, v, h => by simp at h
  | _, _, .cons x t r, 0, v, h => by
    simp at h
    exact ⟨x, t, rfl, h.symm⟩
  | _, _, .cons x t r, i + 1, v, h => by
    simp at h
    obtain ⟨y, u, h1, h2⟩ := strs_get r i v h
    exact ⟨y, u, by simpa using h1, h2⟩
theorem strs_len : ∀ {vs : List Value} {xs : List Str}, StrsAre vs xs → vs.length = xs.length
  | _, _, .nil => rfl
  | _, _, .cons x t r => by simp [strs_len r]
section
variable {P : Program} {w : World} {A : Around} {E : Value → Shared → Prop} {s : Shared}
/-- set(a list of texts) -/
theorem call_setTx {l : Addr} {items : Array Value} (xs : List Str) {Q : Value → Shared → Prop} (hh : A.handled = none) (hl : s.heap.IsList l items) (hit : StrsAre items.toList xs) (hb : xs.length + 1 < scanBound)
    (h : ∀ h' tk L, TxR P w h' s.heap.objs.size L → (∀ x, x ∈ L ↔ x ∈ xs) → L.length ≤ xs.length → (∀ b o, s.heap.get? b = some o → h'.get? b = some o) → Q (.ref s.heap.objs.size) { s with heap := h', toks := tk }) :
    wpAny (model P w) A (call (.type "set") [.ref l]) Q E s := by
  have hisz : items.size = xs.length := by rw [← strs_len hit, Array.length_toList]
  obtain ⟨c, tl, hmro⟩ := PySem.F.called_set.mro
  have hmade := PySem.F.called_set.made
  have hsub := PySem.F.called_set.sub
  refine wpAny_call (codeAny_of_tree ?_)
  show wpAny _ _ (callAny (.type "set") _) _ _ _
  refine wpAny_pure ⟨Code.quiet_builtin _ (by decide +kernel), codeAny_builtin PySem.F.entry_type_call ?_⟩
  rw [Around.under_plain (weight_type_call_type "set" [.ref l] []) rfl]
  have h1 := PySem.F.called_set.notType
  have h2 := PySem.F.called_set.canCreate
  have hct := PySem.F.typeCall_set_1 (.ref l)
  have hS : (s.heap.push (set0 w)).get? s.heap.objs.size = some (set0 w) := Heap.get?_push_size _ rfl
  repeat (any_goals (first | assumption | wp_step))
  refine codeAny_mono (code_set_led1 (.ref l) (E := E) (Q₁ := fun obj s₁ => obj = .ref s.heap.objs.size ∧ s₁ = { s with heap := s.heap.push (set0 w) }) ⟨rfl, rfl⟩) fun r s₁ hr => ?_
  cases r with
  | error e => exact hr
  | ok fl =>
    cases fl with
    | ret obj =>
      obtain ⟨rfl, rfl⟩ := hr
      have hT : Shared.TypeIs { s with heap := s.heap.push (set0 w) } (.ref s.heap.objs.size) "set" := ⟨_, hS, rfl⟩
      have hli := PySem.F.called_set.init.lookup
      have hbi := PySem.F.called_set.init.bind (.ref s.heap.objs.size)
      repeat (any_goals (first | assumption | wp_step))
      refine codeAny_mono (codeAny_call_builtin (R := wants (fun r s₂ => r = .none ∧ ∃ h' tk L, s₂ = { s with heap := h', toks := tk } ∧ TxR P w h' s.heap.objs.size L ∧ (∀ x, x ∈ L ↔ x ∈ xs) ∧ L.length ≤ xs.length ∧
          (∀ b o, s.heap.get? b = some o → h'.get? b = some o)) E) PySem.F.called_set.init.plain PySem.F.entry_set_init (check_set_init_1 hT ?_)) fun r₂ s₂ hr₂ => ?_
      · obtain ⟨ol, hol, hcl, nl, hdl⟩ := hl
        obtain ⟨ocls, odict, odata, oslots⟩ := ol
        simp only at hcl hdl
        subst hcl; subst hdl
        have hol' : (s.heap.push (set0 w)).get? l = some { cls := .type "list", dict := odict, data := .seq items nl, slots := oslots } := Heap.get?_push_of_some _ hol
        have hsls := PySem.F.sub_list_set
        have hslf := PySem.F.sub_list_frozenset
        have hne : (Value.type "list" == Value.type "dict") = false := by decide
        have hl1 : (s.heap.push (set0 w)).IsList l items := ⟨_, hol', rfl, nl, rfl⟩
        unfold Builtin.«set.__init__» noKeywords Builtin.Frozenset.updateFrom
        generalize hPI : pyIter = PI
        wp_walk
        subst hPI
        refine wpAny_pyIter_list hl1 (wpAny_bind (wpAny_runValue ?_))
        have hlS : l < s.heap.objs.size := Heap.lt_size hol
        have hh3 : A.in1.in1.in1.handled = none := hh
        have hz : (s.heap.push (set0 w)).objs.size = s.heap.objs.size + 1 := Heap.size_push ..
        have hneI : l ≠ (s.heap.push (set0 w)).objs.size := by rw [hz]; exact Nat.ne_of_lt (Nat.lt_succ_of_lt hlS)
        have hSf : s.heap.objs.size ∉ [(s.heap.push (set0 w)).objs.size, l] := fun z => by
          rw [hz] at z
          rcases List.mem_cons.mp z with z | z
          · exact absurd z (Nat.ne_of_lt (Nat.lt_succ_self _))
          · exact absurd (List.mem_singleton.mp z) (Nat.ne_of_gt hlS)
        refine tx_loop ((Walks.list hh3 _ l hneI items).toS) s.heap.objs.size hSf xs hisz (fun i v hv => strs_get hit i v (by rw [Array.getElem?_toList]; exact hv)) hb (items.size - 0) 0 _ [] (by omega) (Nat.zero_le _)
          ⟨⟨_, Heap.get?_push_size _ rfl, rfl, rfl⟩, hl1.push _⟩ (tx_fresh (Heap.get?_push_of_some _ hS)) (Nat.le_refl _) (fun x => by simp) fun s' L hm hT' hL hmem => ?_
        obtain ⟨h', g2, d', tk', os'⟩ := s'
        have eg : g2 = s.gens := hm.gens
        have ed : d' = s.drawn := hm.drawn
        have eo : os' = s.os := hm.os
        subst eg; subst ed; subst eo
        refine wpAny_pure ?_
        show wpAny _ _ (ret Value.none) _ _ _
        refine wpAny_pure ⟨rfl, h', tk', L, rfl, hT', hmem, by rw [← hisz]; exact hL, fun b o e => ?_⟩
        have hbl : b < s.heap.objs.size := Heap.lt_size e
        refine hm.heap b o (fun z => ?_) (Heap.get?_push_of_some _ (Heap.get?_push_of_some _ e))
        rcases List.mem_cons.mp z with z | z
        · exact absurd hbl (by rw [z]; exact Nat.lt_irrefl _)
        · have z := List.mem_singleton.mp z
          exact absurd hbl (by rw [z]; exact Nat.not_lt_of_le (by rw [hz]; exact Nat.le_succ _))
      · cases r₂ with
        | error e => exact hr₂
        | ok fl₂ =>
          cases fl₂ with
          | ret r =>
            obtain ⟨rfl, h', tk, L, rfl, hT', hmem, hL, hk'⟩ := hr₂
            repeat (any_goals (first | assumption | wp_step))
            exact h _ _ _ hT' hmem hL hk'
          | _ => exact hr₂.elim
    | _ => exact hr.elim
/-- sorted of it -/
theorem sorted_tx {a : Addr} {l : List Str} {Q : Value → Shared → Prop} (R : TxR P w s.heap a l) (hh : A.handled = none) (h64 : l.length < 64)
    (hQ : ∀ s' p (out : Array Value) (c : Nat) (ys : List Str), (∀ b o, s.heap.get? b = some o → s'.heap.get? b = some o) → s'.gens = s.gens → s'.os = s.os → s.heap.objs.size ≤ p →
      s'.heap.get? p = some (seqObj "list" out c) → StrsAre out.toList ys → ys.Perm l → sortedS ys = true → Q (.ref p) s') :
    wpAny (model P w) A (call (.builtin "sorted") [.ref a]) Q E s := by
  obtain ⟨⟨D, ho, ok, ri, le, pm⟩, nd, sz⟩ := R
  have str : ∀ e ∈ D.1.toList, ∃ t, e.2 = Value.str (strOf e.2) t := fun e he => by
    obtain ⟨⟨k, h1, _⟩, _⟩ := ok.el e he
    obtain ⟨t, q⟩ := Value.isStrOf_shape (x := k) (v := e.2) h1
    rw [q]
    exact ⟨t, rfl⟩
  refine Calls.call_function_entry PyProof.Rows.kind_sorted PyProof.Rows.plain_sorted PyProof.Rows.entry_sorted (PyProof.Rows.args_sorted1 _) ?_
  unfold Builtin.«sorted»
  refine wpAny_bind (m := checkCount "sorted" 1 1 _) (wpAny_pure ?_)
  refine wpAny_bind (collect_set (A := A.in1) hh ⟨_, ho, rfl, rfl⟩ ok.fit (by rw [ok.sz]; exact sz) ri le fun s1 vs k1 hz g1 o1 pv => ?_)
  have all : ∀ (us : List Value), (∀ v ∈ us, ∃ t, v = Value.str (strOf v) t) → StrsAre us (us.map strOf) := by
    intro us
    induction us with
    | nil => intro _; exact .nil
    | cons v us ih =>
      intro hu
      obtain ⟨t, e⟩ := hu v List.mem_cons_self
      have r := ih fun u hu' => hu u (List.mem_cons_of_mem _ hu')
      rw [e]
      exact .cons _ t r
  have hS : StrsAre vs (vs.map strOf) := all vs fun v hv => by
    obtain ⟨e, he, q⟩ := List.mem_map.mp (pv.mem_iff.mp hv)
    rw [← q]
    exact str e he
  have pl : (vs.map strOf).Perm l := by
    have q := pv.map strOf
    rw [List.map_map] at q
    exact q.trans pm
  have hal : vs.length = l.length := by rw [← pl.length_eq, List.length_map]
  refine wpAny_bind (wpAny_newList ?_ (by rw [hal, sizeLine_eq]; omega))
  have hoL : (s1.heap.push (seqObj "list" vs.toArray 0)).get? s1.heap.objs.size = some (seqObj "list" vs.toArray 0) := Heap.get?_push_size _ rfl
  refine wpAny_bind (wpAny_holding (wpAny_call_entry PyProof.Rows.slot_list_sort ⟨_, hoL, rfl⟩ PyProof.Rows.entry_list_sort
    (list_sort_treeK strKind_oneLt hoL hS.keysOf (fun v₁ v₂ rest e => keyKind_strs (by rw [← e]; exact hS)) (by rw [hal]; exact h64) fun st' hp hs => ⟨_, rfl, ?_⟩)
    (PyProof.Rows.args_list_sort _)))
  obtain ⟨ys, y1, y2, y3⟩ := sorted_out_str hS hp hs
  obtain ⟨e', he'⟩ := PyProof.Rows.sortedHeap_at (vs := vs) (out := (arrOf st').map (·.2)) hoL
  refine wpAny_pure ⟨_, rfl, hQ _ s1.heap.objs.size _ e' ys (fun b u e => ?_) g1 o1 hz he' y1 (y2.trans pl) y3⟩
  have q := k1 b u e
  have hlt := Heap.lt_size q
  show (sortedHeap (s1.heap.push (seqObj "list" vs.toArray 0)) s1.heap.objs.size vs ((arrOf st').map (·.2))).get? b = some u
  rw [sortedHeap_old (Nat.ne_of_lt hlt) (by rw [size_push']; exact Nat.lt_succ_of_lt hlt)]
  exact Heap.get?_push_of_some _ q
end
end Wk

set_option Elab.async false
set_option linter.all false
set_option maxRecDepth 100000
set_option maxHeartbeats 3200000
namespace Wk
open PySem PySem.Spec PyProof.Rows L2
/-- the set of the texts l at a, tracked -/
def TxO (P : Program) (w : World) (a : Addr) (l : List Str) : HO := .ext fun h => TxR P w h a l
section
variable {X : Cx}
theorem txO_new {P : Program} {w : World} {H : Hp} {h : Heap} {a : Addr} {l : List Str} (R : TxR P w h a l) : ObjOk P w H h a (TxO P w a l) := by
  have ⟨⟨D, ho, _⟩, _, _⟩ := R
  exact ⟨R, ⟨_, ho⟩, fun h1 h2 p k => TxR.at p k⟩
theorem txO_get {pins : List (Addr × Obj)} {σ : L2.St} {H : Hp} {s : Shared} {a : Addr} {l : List Str} (I : Inv X pins σ H s) (ha : H a = some (TxO X.prog X.w a l)) : TxR X.prog X.w s.heap a l := (I.hok a _ ha).1
/-- set(a list of texts) -/
def rSetTx (K : PySem.W.Frag) (P : Program) (w : World) : List V → Hp → VK → Prop := fun xs H Q => ∃ (l : Addr) (ts : List Str), xs = [V.ref l] ∧ SqL K H l (ts.map V.str) ∧ ts.length + 1 < scanBound ∧
  ∀ (p : Addr) (L : List Str), H p = none → L.Nodup → (∀ x, x ∈ L ↔ x ∈ ts) → L.length ≤ ts.length → Q (.ref p) (upd H p (TxO P w p L))
theorem cr_setTx (hc : X.calm = true) : CallR X (.type "set") (rSetTx X.K X.prog X.w) := by
  intro pins s σ H xs us Q I r h
  obtain ⟨l, ts, rfl, hl, hb, q⟩ := h
  rw [Vals.ref1 r]
  obtain ⟨its, ri, pl, hz⟩ := I.list hl
  refine call_setTx ts (I.ok.hd hc) pl.isList (by simpa using strsAre_of ri) hb fun h' tk L hT hm hL hk => ?_
  have hn : H s.heap.objs.size = none := I.hok.fresh (Nat.le_refl _)
  exact ⟨.ref _, upd H s.heap.objs.size (TxO X.prog X.w s.heap.objs.size L), I.laid (t' := tk) hk (Nat.le_refl _) (txO_new hT), rfl, q _ L hn hT.nd hm hL⟩
/-- len of it -/
def rLenTx (P : Program) (w : World) : List V → Hp → VK → Prop := fun xs H Q => ∃ (a : Addr) (l : List Str), xs = [V.ref a] ∧ H a = some (TxO P w a l) ∧ Q (.int (l.length : Nat)) H
theorem cr_lenTx : CallR X (.builtin "len") (rLenTx X.prog X.w) := by
  intro pins s σ H xs us Q I r h
  obtain ⟨a, l, rfl, ha, q⟩ := h
  rw [Vals.ref1 r]
  obtain ⟨⟨D, ho, ok, ri, le, pm⟩, nd, sz⟩ := txO_get I ha
  refine call_len_set ho ⟨rfl, rfl, rfl⟩ rfl ok.fit (by
    have hb : scanBound ≤ 2 ^ 62 := by decide
    rw [ok.sz]
    omega) ⟨.int (l.length : Nat), H, I.tok _, ⟨_, by rw [ok.sz]⟩, q⟩
/-- sorted of it -/
def rSortedTx (P : Program) (w : World) : List V → Hp → VK → Prop := fun vs H Q => ∃ (a : Addr) (l : List Str), vs = [V.ref a] ∧ H a = some (TxO P w a l) ∧ l.length < 64 ∧
  ∀ (ys : List Str) (p : Addr), ys.Perm l → sortedS ys = true → H p = none → Q (.ref p) (upd H p (.lst (ys.map V.str)))
theorem vals_of_strs : ∀ {us : List Value} {ys : List Str}, StrsAre us ys → Vals (ys.map V.str) us
  | _, _, .nil => .nil
  | _, _, .cons y t r => .cons ⟨t, rfl⟩ (vals_of_strs r)
theorem cr_sortedTx (hc : X.calm = true) : CallR X (.builtin "sorted") (rSortedTx X.prog X.w) := by
  intro pins s σ H vs us Q I r h
  obtain ⟨a, l, rfl, ha, h64, q⟩ := h
  rw [Vals.ref1 r]
  refine sorted_tx (txO_get I ha) (I.ok.hd hc) h64 fun s' p out c ys k g o hp hg hi hs hm => ?_
  have hlen : (ys.map V.str).length ≤ sizeLine := by rw [List.length_map, hs.length_eq, sizeLine_eq]; omega
  have hn : H p = none := I.hok.fresh hp
  have J : Inv X pins σ (upd H p (.lst (ys.map V.str))) s' := I.call' (s' := s') (ch := []) o (Un.laid k hp hn) (I.hok.laid k hp ⟨hlen, out.toList, c, vals_of_strs hi, hg⟩) (by rw [g]; exact I.bare) (fun _ z => nomatch z)
  exact ⟨.ref p, _, J, rfl, q ys p hs hm hn⟩
end
end Wk

set_option Elab.async false
set_option linter.all false
set_option maxRecDepth 100000
set_option maxHeartbeats 3200000
namespace Wk
open PySem PySem.Spec PyProof.Rows L2
theorem forIn_same {α β : Type} {M : Model} {A : Around} {E : Value → Shared → Prop} {f : α → β → Sem (ForInStep β)} {b : β} {Q : β → Shared → Prop} {s : Shared} :
    ∀ (l : List α), (∀ x ∈ l, ∀ (R : ForInStep β → Shared → Prop), R (.yield b) s → wpAny M A (f x b) R E s) → Q b s → wpAny M A (forIn l b f) Q E s
  | [], _, hQ => by
    rw [List.forIn_nil]
    exact wpAny_pure hQ
  | x :: l, hf, hQ => by
    rw [List.forIn_cons]
    refine wpAny_bind (hf x List.mem_cons_self _ ?_)
    exact forIn_same l (fun y hy => hf y (List.mem_cons_of_mem _ hy)) hQ
section
variable {P : Program} {w : World} {A : Around} {E : Value → Shared → Prop} {s : Shared}
theorem quiet_at {sets : List Addr} {Q : Bool → Shared → Prop} (h : ∀ a ∈ sets, ∃ o es ep t, s.heap.get? a = some o ∧ o.data = .set es ep t ∧ t.fits es.size = true ∧ ∀ e ∈ es.toList, ∃ k u, e.2 = Value.str k u) (hQ : Q true s) :
    wpAny (model P w) A (setsQuiet sets) Q E s := by
  unfold setsQuiet
  refine wpAny_bind (forIn_same sets (fun a ha R hR => ?_) ?_)
  · obtain ⟨o, es, ep, t, ho, hd, hf, hs⟩ := h a ha
    refine wpAny_bind (wpAny_setEntries_of ho hd hf ?_)
    rw [← Array.forIn_toList]
    refine wpAny_bind (forIn_same es.toList (fun e he R' hR' => ?_) ?_)
    · obtain ⟨k, u, e2⟩ := hs e he
      obtain ⟨e1, v⟩ := e
      have e2 : v = Value.str k u := e2
      subst e2
      exact wpAny_pure hR'
    · exact wpAny_pure hR
  · exact wpAny_pure hQ
variable {a : Addr} {l : List Str}
theorem TxR.strs {h : Heap} (R : TxR P w h a l) : ∃ o es ep t, h.get? a = some o ∧ o.data = .set es ep t ∧ t.fits es.size = true ∧ ∀ e ∈ es.toList, ∃ k u, e.2 = Value.str k u := by
  obtain ⟨⟨D, ho, ok, _⟩, _, _⟩ := R
  refine ⟨_, _, _, _, ho, rfl, ok.fit, fun e he => ?_⟩
  obtain ⟨⟨k, h1, _⟩, _⟩ := ok.el e he
  obtain ⟨t, q⟩ := Value.isStrOf_shape (x := k) (v := e.2) h1
  exact ⟨k, t, q⟩
/-- its entries: the texts l in some order, with their hashes -/
def Ents (w : World) (l : List Str) (es : List (Int × Value)) : Prop := (es.map fun e => strOf e.2).Perm l ∧ ∀ e ∈ es, ∃ k u, e.2 = Value.str k u ∧ e.1 = hashStr w k
theorem TxR.ents {h : Heap} (R : TxR P w h a l) : ∃ D : Froz.SD, h.get? a = some (Froz.sObj "set" D) ∧ Froz.TxOk P w D l ∧ Ris D.2.2.place.toList ∧ (w.params.followText "set-order" = true ∨ D.2.2.led = true) ∧ (D.1.toList.map fun e => strOf e.2).Perm l ∧ Ents w l D.1.toList := by
  obtain ⟨⟨D, ho, ok, ri, le, pm⟩, _, _⟩ := R
  refine ⟨D, ho, ok, ri, le, pm, pm, fun e he => ?_⟩
  obtain ⟨⟨k, h1, h2⟩, _⟩ := ok.el e he
  obtain ⟨t, q⟩ := Value.isStrOf_shape (x := k) (v := e.2) h1
  exact ⟨k, t, q, h2⟩
theorem Ents.perm {es es' : List (Int × Value)} (x : Ents w l es) (p : es'.Perm es) : Ents w l es' := ⟨(p.map _).trans x.1, fun e he => x.2 e (p.mem_iff.mp he)⟩
theorem walk_tx {Q : Array (Int × Value) → Shared → Prop} (R : TxR P w s.heap a l) (hQ : ∀ (out : Array (Int × Value)) d, Ents w l out.toList → Q out { s with drawn := d }) : wpAny (model P w) A (setWalk a) Q E s := by
  obtain ⟨D, ho, ok, ri, le, pm, en⟩ := R.ents
  obtain ⟨es, ep, t⟩ := D
  unfold setWalk
  refine wpAny_bind (wpAny_setState_of ho rfl ok.fit ?_)
  dsimp only
  refine wpAny_bind (wpAny_byText ?_)
  by_cases bt : w.params.followText "set-order" = true
  · refine wp_if_pos bt ?_
    exact wpAny_bind (wpAny_askSetting (wpAny_pure (hQ _ s.drawn (en.perm (pick_perm _ _)))))
  · refine wp_if_neg bt ?_
    have hl : t.led = true := le.resolve_left bt
    by_cases dr : (!t.plain && decide (es.size > 1)) = true
    · refine wp_if_pos dr ?_
      refine wpAny_bind (drawOrder_at _ _ _ _ (by rw [Array.length_toList]; exact Nat.le_refl _) fun ys d p => wpAny_pure (hQ _ d (en.perm (by simpa using p))))
    · refine wp_if_neg dr ?_
      refine wpAny_bind (wpAny_of_eq (a := ()) ?_ ?_)
      · show (if (!t.led && decide (es.size > 1)) = true then unsupported "set:maker-not-led" else pure ()) = pure ()
        rw [hl] <;> rfl
      · exact wpAny_pure (hQ es s.drawn en)
end
end Wk

set_option Elab.async false
set_option linter.all false
set_option maxRecDepth 100000
set_option maxHeartbeats 3200000
namespace Wk
open PySem PySem.Spec PyProof.Rows L2
theorem forIn_acc {α β : Type} {M : Model} {A : Around} {E : Value → Shared → Prop} {f : α → β → Sem (ForInStep β)} {b : β} {Q : β → Shared → Prop} (J : List α → Shared → Prop) :
    ∀ (l done : List α) (s : Shared), J done s → (∀ x ∈ l, ∀ done s, J done s → wpAny M A (f x b) (fun st s' => st = .yield b ∧ J (done ++ [x]) s') E s) → (∀ s', J (done ++ l) s' → Q b s') → wpAny M A (forIn l b f) Q E s
  | [], done, s, hJ, _, hQ => by
    rw [List.forIn_nil]
    exact wpAny_pure (hQ s (by rw [List.append_nil]; exact hJ))
  | x :: l, done, s, hJ, hf, hQ => by
    rw [List.forIn_cons]
    refine wpAny_bind (wpAny_mono (hf x List.mem_cons_self done s hJ) (fun st s' ⟨e, hJ'⟩ => ?_) fun _ _ z => z)
    subst e
    exact forIn_acc J l (done ++ [x]) s' hJ' (fun y hy => hf y (List.mem_cons_of_mem _ hy)) fun s'' z => hQ s'' (by rw [List.append_assoc] at z; exact z)
theorem sub_len : ∀ (l D : List Str), l.Nodup → (∀ x ∈ l, x ∈ D) → l.length ≤ D.length
  | [], D, _, _ => Nat.zero_le _
  | x :: l, D, nd, hs => by
    obtain ⟨h1, h2⟩ := List.nodup_cons.mp nd
    have hx : x ∈ D := hs x List.mem_cons_self
    have q := sub_len l (D.erase x) h2 fun y hy => (List.mem_erase_of_ne (show y ≠ x from fun e => h1 (e ▸ hy))).mpr (hs y (List.mem_cons_of_mem _ hy))
    have e := List.length_erase_of_mem hx
    have p := List.length_pos_of_mem hx
    rw [List.length_cons]
    omega
section
variable {P : Program} {w : World} {A : Around} {E : Value → Shared → Prop} {s : Shared} {a b r : Addr} {la lb lr : List Str}
theorem unseen_tx {Q : Array (Int × Value) → Shared → Prop} (Ra : TxR P w s.heap a la) (Rb : TxR P w s.heap b lb) (Rr : TxR P w s.heap r lr)
    (hQ : ∀ (out : Array (Int × Value)) h' d, Heap.SameBut r s.heap h' → TxR P w h' r lr → Ents w la out.toList → Q out { s with heap := h', drawn := d }) : wpAny (model P w) A (setWalkUnseen a [b, r] (some r)) Q E s := by
  obtain ⟨D, ho, ok, ri, le, pm, en⟩ := Ra.ents
  obtain ⟨es, ep, t⟩ := D
  obtain ⟨D2, ho2, ok2, ri2, le2, pm2, en2⟩ := Rr.ents
  obtain ⟨ef, ep2, tf⟩ := D2
  unfold setWalkUnseen
  refine wpAny_bind (wpAny_setState_of ho rfl ok.fit ?_)
  dsimp only
  refine wpAny_bind (wpAny_byText ?_)
  by_cases c1 : (w.params.followText "set-order" || t.led && t.plain || decide (es.size ≤ 1)) = true
  · refine wp_if_pos c1 ?_
    exact walk_tx Ra fun out d e => hQ out s.heap d (Heap.SameBut.refl r s.heap) Rr e
  · refine wp_if_neg c1 ?_
    have bt : ¬ w.params.followText "set-order" = true := fun z => c1 (by rw [z]; rfl)
    have hl : t.led = true := le.resolve_left bt
    have hl2 : tf.led = true := le2.resolve_left bt
    refine wpAny_bind (quiet_at (fun c hc => ?_) ?_)
    · rcases List.mem_cons.mp hc with z | z
      · rw [z]; exact Ra.strs
      · rcases List.mem_cons.mp z with z | z
        · rw [z]; exact Rb.strs
        · rw [List.mem_singleton.mp z]; exact Rr.strs
    · refine wp_if_neg (by simp) ?_
      refine wpAny_bind (wpAny_rule ?_)
      refine wpAny_bind (wpAny_setState_of ho2 rfl ok2.fit ?_)
      dsimp only
      by_cases c2 : (tf.led && !t.led || tf.plain && !t.plain) = true
      · refine wp_if_pos c2 ?_
        refine wpAny_bind (wpAny_storeSet_of ho2 rfl ?_ (fits_of_scanBound (by
          have z : ef.size = lr.length := ok2.sz
          rw [z]; exact Rr.sz)))
        have q := store_at (es' := ef) (t' := { tf with led := tf.led && t.led, plain := tf.plain && t.plain }) ho2 rfl
        refine wpAny_pure (hQ es _ s.drawn (Heap.SameBut.update ..) ⟨⟨(ef, ep2 + 1, { tf with led := tf.led && t.led, plain := tf.plain && t.plain }), q, ⟨ok2.el, ok2.mem, ok2.sz, ok2.fit⟩, ri2, .inr ?_, pm2⟩, Rr.nd, Rr.sz⟩ en)
        show (tf.led && t.led) = true
        rw [hl, hl2]; rfl
      · refine wp_if_neg c2 ?_
        exact wpAny_pure (hQ es s.heap s.drawn (Heap.SameBut.refl r s.heap) Rr en)
/-- the entries of the one that stand in the other, laid into r -/
theorem inter_loop {f : Int × Value → PUnit → Sem (ForInStep PUnit)} {es : List (Int × Value)} {Q : PUnit → Shared → Prop} (en : Ents w la es) (sz : la.length + 1 < scanBound) (Rr : TxR P w s.heap r [])
    (hf : ∀ (e1 : Int) (k : Str) (u : Tok) (s' : Shared) (L : List Str) (R : ForInStep PUnit → Shared → Prop), e1 = hashStr w k → (∃ h', s' = { s with heap := h' } ∧ Heap.SameBut r s.heap h') → TxR P w s'.heap r L → L.length + 1 < scanBound →
      (∀ h', Heap.SameBut r s'.heap h' → TxR P w h' r (if k ∈ lb then (if k ∈ L then L else k :: L) else L) → R (.yield ⟨⟩) { s' with heap := h' }) → wpAny (model P w) A (f (e1, .str k u) ⟨⟩) R E s')
    (hQ : ∀ h' L, Heap.SameBut r s.heap h' → TxR P w h' r L → (∀ x, x ∈ L ↔ x ∈ la ∧ x ∈ lb) → Q ⟨⟩ { s with heap := h' }) : wpAny (model P w) A (forIn es ⟨⟩ f) Q E s := by
  have hlen : es.length = la.length := by rw [← en.1.length_eq, List.length_map]
  refine forIn_acc (fun done s' => ∃ h' L, s' = { s with heap := h' } ∧ Heap.SameBut r s.heap h' ∧ TxR P w h' r L ∧ (∀ x, x ∈ L ↔ x ∈ done.map (fun e => strOf e.2) ∧ x ∈ lb) ∧ ∀ x ∈ L, x ∈ la) es [] s ⟨s.heap, [], rfl, Heap.SameBut.refl r s.heap, Rr, fun x => by simp, fun x hx => by cases hx⟩ ?_ ?_
  · rintro ⟨e1, v⟩ he done s' ⟨h', L, rfl, sb, RL, hm, hs⟩
    obtain ⟨k, u, h1, h2⟩ := en.2 _ he
    have h1 : v = .str k u := h1
    have h2 : e1 = hashStr w k := h2
    subst h1
    have kla : k ∈ la := en.1.mem_iff.mp (List.mem_map.mpr ⟨_, he, rfl⟩)
    have hL : L.length ≤ la.length := sub_len L la RL.nd hs
    by_cases hfull : L.length + 1 < scanBound
    · refine hf e1 k u _ L _ h2 ⟨h', rfl, sb⟩ RL hfull fun h'' sb' RL' => ⟨rfl, h'', _, rfl, sb.trans sb', RL', fun x => ?_, fun x hx => ?_⟩
      · rw [List.map_append, List.mem_append]
        show _ ↔ (x ∈ done.map _ ∨ x ∈ [k]) ∧ x ∈ lb
        rw [List.mem_singleton]
        by_cases c1 : k ∈ lb
        · rw [if_pos c1]
          by_cases c2 : k ∈ L
          · rw [if_pos c2, hm x]
            refine ⟨fun z => ⟨.inl z.1, z.2⟩, fun z => ⟨z.1.elim id fun e => ?_, z.2⟩⟩
            rw [e]; exact ((hm k).mp c2).1
          · rw [if_neg c2, List.mem_cons, hm x]
            refine ⟨fun z => z.elim (fun e => ⟨.inr e, by rw [e]; exact c1⟩) fun z => ⟨.inl z.1, z.2⟩, fun z => z.1.elim (fun y => .inr ⟨y, z.2⟩) .inl⟩
        · rw [if_neg c1, hm x]
          refine ⟨fun z => ⟨.inl z.1, z.2⟩, fun z => ⟨z.1.elim id fun e => absurd (by rw [← e]; exact z.2) c1, z.2⟩⟩
      · have key : x ∈ L ∨ x = k := by
          by_cases c1 : k ∈ lb
          · rw [if_pos c1] at hx
            by_cases c2 : k ∈ L
            · rw [if_pos c2] at hx; exact .inl hx
            · rw [if_neg c2] at hx
              exact (List.mem_cons.mp hx).elim .inr .inl
          · rw [if_neg c1] at hx; exact .inl hx
        rcases key with z | z
        · exact hs x z
        · rw [z]; exact kla
    · exact absurd hL (by omega)
  · rintro s' ⟨h', L, rfl, sb, RL, hm, _⟩
    refine hQ h' L sb RL fun x => ?_
    rw [hm x, List.nil_append, en.1.mem_iff]
end
end Wk

set_option Elab.async false
set_option linter.all false
set_option maxRecDepth 100000
set_option maxHeartbeats 3200000
namespace Wk
open PySem PySem.Spec PyProof.Rows L2
theorem entry_set_and : entryFor table "set.__and__" = some Builtin.«frozenset.__and__» :=
  entryFor_alias (id' := "frozenset.__and__") (by kernel_rfl) rfl (by decide +kernel) (by kernel_rfl)
section
variable {P : Program} {w : World} {A : Around} {E : Value → Shared → Prop} {s : Shared} {a b r : Addr} {la lb lr : List Str}
theorem TxR.typeIs (R : TxR P w s.heap a la) : s.TypeIs (.ref a) "set" := by
  obtain ⟨⟨D, ho, _⟩, _, _⟩ := R
  exact ⟨_, ho, rfl⟩
/-- the one is walked, the other asked -/
theorem inter_core {id : String} {ax wk : Addr} {lx ly : List Str} {Q : Unit → Shared → Prop} (Rx : TxR P w s.heap ax lx) (Ry : TxR P w s.heap wk ly) (Rr : TxR P w s.heap r []) (nx : ax ≠ r) (ny : wk ≠ r) (sy : ly.length + 1 < scanBound)
    (hQ : ∀ h' d L, Heap.SameBut r s.heap h' → TxR P w h' r L → (∀ x, x ∈ L ↔ x ∈ ly ∧ x ∈ lx) → Q () { s with heap := h', drawn := d }) :
    wpAny (model P w) A (do
      let was ← setEpoch wk
      let out ← setWalkUnseen wk [ax, r] (some r)
      forIn out PUnit.unit fun x __s => do
        holding [x.snd] do
          let f ← setFind ax x.snd x.fst
          if f.isSome = true then do
            let _ ← setAddHashed r x.snd x.fst
            pure ()
          else pure ()
        Builtin.Frozenset.unchanged id wk was
        pure (ForInStep.yield PUnit.unit)
      pure ()) Q E s := by
  obtain ⟨Dy, hoy, oky, _⟩ := Ry.ents
  refine wpAny_bind (wpAny_setEpoch_of hoy rfl oky.fit ?_)
  refine wpAny_bind (unseen_tx Ry Rx Rr fun out h2 d sb2 Rr2 en => ?_)
  refine wpAny_bind ?_
  rw [← Array.forIn_toList]
  refine inter_loop (s := { s with heap := h2, drawn := d }) (lb := lx) en sy Rr2 (fun e1 k u s' L R e ⟨h', es', sb'⟩ RL hL hR => ?_) fun h' L sb' RL hm => wpAny_pure (hQ h' d L (sb2.trans sb') RL hm)
  subst e
  have kx : TxR P w s'.heap ax lx := Rx.at fun o e => by
    rw [es']
    exact (sb'.2 ax nx).trans ((sb2.2 ax nx).trans e)
  obtain ⟨⟨Dx, hox, okx, _⟩, _, sx⟩ := _root_.id kx
  have hkey : (strKind P w).is k (.str k u) = true := Froz.is_str k u
  have epo : ∀ (h3 : Heap), Heap.SameBut r s'.heap h3 → ∀ (R' : Unit → Shared → Prop), R' () { s' with heap := h3 } → wpAny (model P w) A (Builtin.Frozenset.unchanged id wk Dy.2.1) R' E { s' with heap := h3 } := fun h3 sb3 R' hR' => by
    unfold Builtin.Frozenset.unchanged
    have q : h3.get? wk = some (Froz.sObj "set" Dy) := by
      rw [sb3.2 wk ny, es']
      exact (sb'.2 wk ny).trans ((sb2.2 wk ny).trans hoy)
    refine wpAny_bind (wpAny_setEpoch_of (s := { s' with heap := h3 }) q rfl oky.fit ?_)
    exact wp_if_neg (by simp) (wpAny_pure hR')
  refine wpAny_bind (wpAny_holding ?_)
  refine wpAny_bind (PySem.W.setFind_any (knd := strKind P w) (S := fun k => decide (k ∈ lx)) hkey rfl hox rfl okx.el (fun k => by rw [decide_eq_true_eq]; exact okx.mem k) (by rw [okx.sz]; exact sx) okx.fit fun res hres => ?_)
  by_cases c : k ∈ lx
  · rw [if_pos c] at hR
    refine wp_if_pos (by rw [hres]; exact decide_eq_true c) ?_
    refine wpAny_bind (tx_add RL hL fun bb h3 sb3 R3 => ?_)
    refine wpAny_pure (wpAny_bind (epo h3 sb3 _ (wpAny_pure (hR h3 sb3 R3))))
  · rw [if_neg c] at hR
    refine wp_if_neg (by rw [hres]; simpa using c) ?_
    exact wpAny_pure (wpAny_bind (epo s'.heap (Heap.SameBut.refl r s'.heap) _ (wpAny_pure (hR s'.heap (Heap.SameBut.refl r s'.heap) RL))))
theorem inter_at {id : String} {Q : Value → Shared → Prop} (hne : a ≠ b) (Ra : TxR P w s.heap a la) (Rb : TxR P w s.heap b lb) (sa : la.length + 1 < scanBound) (sb : lb.length + 1 < scanBound)
    (hQ : ∀ h' d L, (∀ c o, s.heap.get? c = some o → h'.get? c = some o) → TxR P w h' s.heap.objs.size L → (∀ x, x ∈ L ↔ x ∈ la ∧ x ∈ lb) → Q (.ref s.heap.objs.size) { s with heap := h', drawn := d }) :
    wpAny (model P w) A (Builtin.Frozenset.intersection id a (.ref b)) Q E s := by
  have hba : (Value.ref b == Value.ref a) = false := by
    first
      | exact beq_eq_false_iff_ne.mpr (fun e => hne (by cases e; rfl))
      | simp [Ne.symm hne]
      | (cases hq : (Value.ref b == Value.ref a) with
         | false => rfl
         | true => exact absurd (by simpa using hq) hne)
  unfold Builtin.Frozenset.intersection
  refine wp_if_neg (by rw [hba]; exact Bool.false_ne_true) ?_
  unfold Builtin.Frozenset.baseOf
  refine wpAny_bind (wpAny_bind (wpAny_isInstance (T := "set") (b := true) Ra.typeIs sub_set_self (wpAny_pure ?_)))
  simp only [if_true]
  unfold newSet
  refine wpAny_bind (wpAny_bind (wpAny_byText ?_))
  simp only [newObj]
  refine wpAny_bind (wpAny_alloc (wpAny_pure ?_))
  have hn : (s.heap.push (set0 w)).get? s.heap.objs.size = some (set0 w) := Heap.get?_push_size _ rfl
  have kp : ∀ c o, s.heap.get? c = some o → (s.heap.push (set0 w)).get? c = some o := fun c o e => Heap.get?_push_of_some _ e
  have Rr : TxR P w (s.heap.push (set0 w)) s.heap.objs.size [] := tx_fresh hn
  have Ra1 : TxR P w (s.heap.push (set0 w)) a la := Ra.at fun o e => kp _ _ e
  have Rb1 : TxR P w (s.heap.push (set0 w)) b lb := Rb.at fun o e => kp _ _ e
  have lta : a < s.heap.objs.size := by obtain ⟨⟨D, ho, _⟩, _, _⟩ := Ra; exact Heap.lt_size ho
  have ltb : b < s.heap.objs.size := by obtain ⟨⟨D, ho, _⟩, _, _⟩ := Rb; exact Heap.lt_size ho
  generalize hh1 : s.heap.push (set0 w) = h1 at hn kp Rr Ra1 Rb1
  generalize hr : s.heap.objs.size = r at hn kp Rr Ra1 Rb1 lta ltb hQ
  unfold Builtin.Frozenset.addrOf
  refine wpAny_bind (wpAny_pure ?_)
  refine wpAny_bind (wpAny_holding ?_)
  unfold Builtin.Frozenset.isAnySet
  refine wpAny_bind (wpAny_bind (wpAny_isInstance (T := "set") (b := true) (TxR.typeIs (s := { s with heap := h1 }) Rb1) sub_set_self ?_))
  refine wpAny_pure ?_
  simp only [if_true]
  refine wpAny_bind (wpAny_pure ?_)
  obtain ⟨Da, hoa, oka, _⟩ := Ra1.ents
  obtain ⟨Db, hob, okb, _⟩ := Rb1.ents
  unfold Builtin.Frozenset.sizeOf
  refine wpAny_bind (wpAny_bind (wpAny_setEntries_of (s := { s with heap := h1 }) hob rfl okb.fit (wpAny_pure ?_)))
  refine wpAny_bind (wpAny_bind (wpAny_setEntries_of (s := { s with heap := h1 }) hoa rfl oka.fit (wpAny_pure ?_)))
  have fin : ∀ h' d L, Heap.SameBut r h1 h' → TxR P w h' r L → (∀ x, x ∈ L ↔ x ∈ la ∧ x ∈ lb) → wpAny (model P w) A (pure (Value.ref r)) Q E { s with heap := h', drawn := d } := fun h' d L sb' RL hm =>
    wpAny_pure (hQ h' d L (fun c o e => (sb'.2 c (fun z => by
      have := Heap.lt_size e
      rw [z, hr] at this
      exact Nat.lt_irrefl _ this)).trans (kp c o e)) RL hm)
  by_cases c : Db.1.size > Da.1.size
  · simp only [if_pos c]
    exact inter_core (s := { s with heap := h1 }) Rb1 Ra1 Rr (Nat.ne_of_lt ltb) (Nat.ne_of_lt lta) sa fun h' d L sb' RL hm => fin h' d L sb' RL hm
  · simp only [if_neg c]
    exact inter_core (s := { s with heap := h1 }) Ra1 Rb1 Rr (Nat.ne_of_lt lta) (Nat.ne_of_lt ltb) sb fun h' d L sb' RL hm => fin h' d L sb' RL fun x => (hm x).trans And.comm
theorem and_tx {Q : Value → Shared → Prop} (hne : a ≠ b) (Ra : TxR P w s.heap a la) (Rb : TxR P w s.heap b lb) (sa : la.length + 1 < scanBound) (sb : lb.length + 1 < scanBound)
    (hQ : ∀ h' d L, (∀ c o, s.heap.get? c = some o → h'.get? c = some o) → TxR P w h' s.heap.objs.size L → (∀ x, x ∈ L ↔ x ∈ la ∧ x ∈ lb) → Q (.ref s.heap.objs.size) { s with heap := h', drawn := d }) :
    wpAny (model P w) A (binaryOp .BitAnd (.ref a) (.ref b)) Q E s := by
  refine wpAny_binaryOp_same Ra.typeIs Rb.typeIs PySem.F.fills_set_and PySem.F.slot_set_and ?_
  refine wpAny_call_entry PySem.F.slot_set_and Ra.typeIs entry_set_and ?_ (PySem.F.args_set_and_2 _ _)
  unfold Builtin.«frozenset.__and__»
  wp_delta
  refine wpAny_bind (wpAny_of_eq (show Builtin.Frozenset.slot1 "__and__" ⟨[.ref a, .ref b], []⟩ = pure (Value.ref a, Value.ref b) from rfl) ?_)
  dsimp only
  rw [if_neg Bool.false_ne_true]
  dsimp only
  have any : ∀ {c : Addr} {lc : List Str} {Q' : Bool → Shared → Prop}, TxR P w s.heap c lc → Q' true s → wpAny (model P w) A.in1 (Builtin.Frozenset.isAnySet (.ref c)) Q' E s := fun {c lc Q'} R q => by
    unfold Builtin.Frozenset.isAnySet
    exact wpAny_bind (wpAny_isInstance (T := "set") (b := true) R.typeIs sub_set_self (wpAny_pure q))
  refine wpAny_bind (wpAny_bind (any Ra (any Rb ?_)))
  refine wp_if_neg (by simp) ?_
  refine wpAny_bind (wpAny_pure ?_)
  refine wpAny_bind (inter_at hne Ra Rb sa sb fun h' d L hk R hm => ?_)
  exact wpAny_pure ⟨_, rfl, (fun z => by cases z), hQ h' d L hk R hm⟩
end
/-- the intersection of two sets of texts -/
def rAndTx (P : Program) (w : World) : V → V → Hp → VK → Prop := fun x y H Q => ∃ (a b : Addr) (la lb : List Str), x = .ref a ∧ y = .ref b ∧ a ≠ b ∧ H a = some (TxO P w a la) ∧ H b = some (TxO P w b lb) ∧ la.length + 1 < scanBound ∧ lb.length + 1 < scanBound ∧
  ∀ (p : Addr) (L : List Str), H p = none → L.Nodup → (∀ x, x ∈ L ↔ x ∈ la ∧ x ∈ lb) → Q (.ref p) (upd H p (TxO P w p L))
theorem op_andTx {X : Cx} : OpR X (binaryOp .BitAnd) (rAndTx X.prog X.w) := by
  intro pins s σ H x y v u Q I rx ry h
  obtain ⟨a, b, la, lb, rfl, rfl, hne, ha, hb, sa, sb, q⟩ := h
  cases rx
  cases ry
  refine and_tx hne (txO_get I ha) (txO_get I hb) sa sb fun h' d L hk R hm => ?_
  have hn : H s.heap.objs.size = none := I.hok.fresh (Nat.le_refl _)
  have J : Inv X pins σ (upd H s.heap.objs.size (TxO X.prog X.w s.heap.objs.size L)) { s with heap := h', drawn := d } :=
    I.call' (ch := []) rfl (Un.laid hk (Nat.le_refl _) hn) (I.hok.laid hk (Nat.le_refl _) (txO_new R)) I.bare (fun _ z => nomatch z)
  exact ⟨.ref _, _, J, rfl, q _ L hn R.nd hm⟩
end Wk

set_option Elab.async false
set_option linter.all false
set_option maxRecDepth 100000
set_option maxHeartbeats 2000000
/-! How large and how deep rows are, rests and callings: promises. -/
namespace Wk
open PySem PySem.Spec PyProof.Rows L2 GxR
theorem size_rest : ∀ p : Part, sizeP p = 1 + sizeR (restP p)
  | .say _ => rfl
  | .again r => by show sizeR r + 1 = 1 + sizeR r; omega
  | .oth _ _ r => by show sizeR r + 1 = 1 + sizeR r; omega
theorem deep_rest : ∀ p : Part, deepP p = 1 + deepR (restP p)
  | .say _ => rfl
  | .again r => by show deepR r + 1 = 1 + deepR r; omega
  | .oth _ _ r => by show deepR r + 1 = 1 + deepR r; omega
/-- but for the table at T, which may have grown, what stood stands -/
def SameT (T : Addr) (H H' : Hp) : Prop := (∀ b o, b ≠ T → H b = some o → H' b = some o) ∧ TabG H' T
theorem SameT.refl {T : Addr} {H : Hp} (t : TabG H T) : SameT T H H := ⟨fun _ _ _ e => e, t⟩
theorem SameT.trans {T : Addr} {H H1 H2 : Hp} (a : SameT T H H1) (b : SameT T H1 H2) : SameT T H H2 := ⟨fun c o n e => b.1 c o n (a.1 c o n e), b.2⟩
theorem SameT.tab {T : Addr} {H H' : Hp} (h : Tabbed T H H') : SameT T H H' := ⟨fun b o n e => by rw [h.2 b n]; exact e, h.1⟩
theorem SameT.of {T : Addr} {H H' : Hp} (t : TabG H T) (s : Same H H') : SameT T H H' := ⟨fun b o _ e => s b o e, by
  obtain ⟨ps, e, h⟩ := t
  exact ⟨ps, s _ _ e, h⟩⟩
theorem SameT.tup {T : Addr} {H H' : Hp} (t : TabG H T) (s : SameT T H H') : STup H H' := fun a xs e => s.1 a _ (fun z => by
  obtain ⟨ps, q, _⟩ := t
  rw [z, q] at e
  cases e) e
def spRest : Sp := fun vs H Q _ => ∃ (v : V) (p : Part), vs = [v] ∧ PartAt H p v ∧ ∀ (H' : Hp) (u : V), Same H H' → RowAt H' (restP p) u → Q u H'
def spParts (T : Addr) (n : Nat) : Sp := fun vs H Q _ => ∃ (v : V) (r : List Part), vs = [v] ∧ RowAt H r v ∧ deepR r < n ∧ sizeR r ≤ 1000 ∧ TabG H T ∧ ∀ (H' : Hp), SameT T H H' → Q (.int (sizeR r : Nat)) H'
def spDeep (n : Nat) : Sp := fun vs H Q _ => ∃ (v : V) (r : List Part), vs = [v] ∧ RowAt H r v ∧ deepR r < n ∧ sizeR r ≤ 1000 ∧ ∀ (H' : Hp), Same H H' → Q (.int (deepR r : Nat)) H'
/-- a def whose code object is at c -/
structure FunC (K : PySem.W.Frag) (x qual : Str) (st : Stmt) (f c : Addr) (fd : FuncData) : Prop where
  ex : ∃ (oc : Value) (od : Option Addr) (kV doc pm : Value) (an : Option Addr) (ct : Value) (osl : Array (Option Value)),
    fd = PySem.W.fnOf x qual (defArgs st) (defBody st) (defScope st) .none kV doc pm an (.ref c) ct ∧ K.lookup f = some ⟨oc, od, .func fd, osl⟩ ∧ PySem.W.codeIn K (.ref c) qual = true
  kp : PySem.W.keepIn K (.ref f) = true
theorem FunC.fn {K : PySem.W.Frag} {x qual : Str} {st : Stmt} {f c : Addr} {fd : FuncData} (F : FunC K x qual st f c fd) : Fun K x qual st f fd := by
  obtain ⟨⟨oc, od, kV, doc, pm, an, ct, osl, rfl, lk, hcd⟩, kp⟩ := F
  exact ⟨⟨oc, od, kV, doc, pm, an, _, ct, osl, rfl, lk, hcd⟩, kp⟩
theorem FunC.ok {P : Program} {w : World} {K : PySem.W.Frag} {mg : Str → Option Value} {base : Heap} {x qual : Str} {st : Stmt} {f c : Addr} {fd : FuncData} {N ps : List Str} {k : Nat} {sp : Sp} (F : FunC K x qual st f c fd) (S : FnScope N ps (defScope st))
    (len : ∀ vs H Q E, sp vs H Q E → vs.length = ps.length)
    (hb : ∀ (A : Around) (outer : List Env) (s : Shared) (H : Hp) (vs : List V) (Q : VK) (E : XK), Room k (A.deeper (envOfC qual (defScope st) s.heap.objs.size f (.ref c))) → sp vs H Q E →
      ∃ t, PSs (cxOf CX0 P w K mg base N qual (defScope st) f (.ref c) A outer s H E) (defBody st) t ∧ t { nx := fun _ H' => Q .non H', rt := Q } (start N vs) H) : FnOk P w K mg base CX0 (k + 1) f fd ps sp := by
  obtain ⟨⟨oc, od, kV, doc, pm, an, ct, osl, rfl, lk, hcd⟩, _⟩ := F
  exact fn_of lk hcd S len hb
theorem preSum_sizes (r : List Part) : ∀ i, i ≤ r.length → preSum (fun j => ((r[j]?).elim (0 : Int) fun p => (sizeP p : Nat))) i = (sizeR (r.take i) : Nat)
  | 0, _ => by simp [preSum, sizeR]
  | i + 1, h => by
    have hi : i < r.length := h
    rw [preSum, preSum_sizes r i (Nat.le_of_lt hi), List.take_add_one, List.getElem?_eq_getElem hi, sizeR_app]
    show _ = (((sizeR (r.take i) + (sizeP r[i] + 0)) : Nat) : Int)
    simp
theorem sizeR_take (r : List Part) (i : Nat) : sizeR (r.take i) ≤ sizeR r := by
  have e := sizeR_app (r.take i) (r.drop i)
  rw [List.take_append_drop] at e
  omega
/-! ### callings -/
/-- the calling of a part -/
def callP : Part → V
  | .say n => .str n
  | .again _ => .non
  | .oth _ n _ => .str n
mutual
/-- the free callings, as often as they stand there; S: what is bound around -/
def frP : List Str → Part → List Str
  | S, .say n => if n ∈ S then [] else [n]
  | S, .again r => frR S r
  | S, .oth w n r => if w.binds = true then frR (S ++ [n]) r else (if n ∈ S then [] else [n]) ++ frR S r
def frR : List Str → List Part → List Str
  | _, [] => []
  | S, p :: r => frP S p ++ frR S r
end
theorem frR_app (S : List Str) : ∀ r q : List Part, frR S (r ++ q) = frR S r ++ frR S q
  | [], q => rfl
  | p :: r, q => by
    show frP S p ++ frR S (r ++ q) = (frP S p ++ frR S r) ++ frR S q
    rw [frR_app S r q, List.append_assoc]
mutual
theorem frP_len : ∀ (p : Part) (S : List Str), (frP S p).length ≤ sizeP p
  | .say n, S => by
    unfold frP sizeP
    split <;> simp
  | .again r, S => by
    have := frR_len r S
    show (frR S r).length ≤ sizeR r + 1
    omega
  | .oth w n r, S => by
    unfold frP
    show _ ≤ sizeR r + 1
    split
    · have := frR_len r (S ++ [n])
      omega
    · have := frR_len r S
      rw [List.length_append]
      split <;> simp <;> omega
theorem frR_len : ∀ (r : List Part) (S : List Str), (frR S r).length ≤ sizeR r
  | [], S => Nat.le_refl _
  | p :: r, S => by
    have h1 := frP_len p S
    have h2 := frR_len r S
    show (frP S p ++ frR S r).length ≤ sizeP p + sizeR r
    rw [List.length_append]
    omega
end
mutual
theorem bdP_len : ∀ (p : Part), (bdP p).length ≤ sizeP p
  | .say n => Nat.zero_le _
  | .again r => by
    have := bdR_len r
    show (bdR r).length ≤ sizeR r + 1
    omega
  | .oth w n r => by
    have := bdR_len r
    show ((if w.binds then [n] else []) ++ bdR r).length ≤ sizeR r + 1
    rw [List.length_append]
    split <;> simp <;> omega
theorem bdR_len : ∀ (r : List Part), (bdR r).length ≤ sizeR r
  | [] => Nat.le_refl _
  | p :: r => by
    have h1 := bdP_len p
    have h2 := bdR_len r
    show (bdP p ++ bdR r).length ≤ sizeP p + sizeR r
    rw [List.length_append]
    omega
end
/-- what a part itself adds, what is bound within it -/
def fhP : List Str → Part → List Str
  | S, .say n => if n ∈ S then [] else [n]
  | _, .again _ => []
  | S, .oth w n _ => if w.binds = true then [] else if n ∈ S then [] else [n]
def bhP : Part → List Str
  | .oth w n _ => if w.binds = true then [n] else []
  | _ => []
def inP : List Str → Part → List Str
  | S, .oth w n _ => if w.binds = true then S ++ [n] else S
  | S, _ => S
theorem frP_eq (S : List Str) : ∀ p : Part, frP S p = fhP S p ++ frR (inP S p) (restP p)
  | .say n => by
    show (if n ∈ S then [] else [n]) = (if n ∈ S then [] else [n]) ++ []
    rw [List.append_nil]
  | .again r => rfl
  | .oth w n r => by
    show (if w.binds = true then frR (S ++ [n]) r else (if n ∈ S then [] else [n]) ++ frR S r) = (if w.binds = true then [] else if n ∈ S then [] else [n]) ++ frR (if w.binds = true then S ++ [n] else S) r
    by_cases c : w.binds = true
    · rw [if_pos c, if_pos c, if_pos c, List.nil_append]
    · rw [if_neg c, if_neg c, if_neg c]
theorem bdP_eq : ∀ p : Part, bdP p = bhP p ++ bdR (restP p)
  | .say n => rfl
  | .again r => rfl
  | .oth w n r => rfl
theorem inP_len (S : List Str) : ∀ p : Part, (inP S p).length ≤ S.length + 1
  | .say n => Nat.le_succ _
  | .again r => Nat.le_succ _
  | .oth w n r => by
    show (if w.binds = true then S ++ [n] else S).length ≤ S.length + 1
    by_cases c : w.binds = true
    · rw [if_pos c, List.length_append]; exact Nat.le_refl _
    · rw [if_neg c]; exact Nat.le_succ _
theorem fhP_len (S : List Str) : ∀ p : Part, (fhP S p).length ≤ 1
  | .say n => by
    show (if n ∈ S then [] else [n] : List Str).length ≤ 1
    by_cases c : n ∈ S
    · rw [if_pos c]; exact Nat.zero_le _
    · rw [if_neg c]; exact Nat.le_refl _
  | .again r => Nat.zero_le _
  | .oth w n r => by
    show (if w.binds = true then [] else if n ∈ S then [] else [n] : List Str).length ≤ 1
    by_cases b : w.binds = true
    · rw [if_pos b]; exact Nat.zero_le _
    · rw [if_neg b]
      by_cases c : n ∈ S
      · rw [if_pos c]; exact Nat.zero_le _
      · rw [if_neg c]; exact Nat.le_refl _
theorem bhP_len : ∀ p : Part, (bhP p).length ≤ 1
  | .say n => Nat.zero_le _
  | .again r => Nat.zero_le _
  | .oth w n r => by
    show (if w.binds = true then [n] else [] : List Str).length ≤ 1
    by_cases b : w.binds = true
    · rw [if_pos b]; exact Nat.le_refl _
    · rw [if_neg b]; exact Nat.zero_le _
/-- but for the two lists, what stood stands -/
def Sam2 (F B : Addr) (H H' : Hp) : Prop := ∀ b o, b ≠ F → b ≠ B → H b = some o → H' b = some o
theorem Sam2.trans {F B : Addr} {H H1 H2 : Hp} (a : Sam2 F B H H1) (b : Sam2 F B H1 H2) : Sam2 F B H H2 := fun c o n m e => b c o n m (a c o n m e)
theorem Sam2.of {F B : Addr} {H H' : Hp} (s : Same H H') : Sam2 F B H H' := fun c o _ _ e => s c o e
theorem Sam2.tup {F B : Addr} {H H' : Hp} {xs ys : List V} (hF : H F = some (.lst xs)) (hB : H B = some (.lst ys)) (s : Sam2 F B H H') : STup H H' := fun a zs e => s a _ (fun z => by rw [z, hF] at e; cases e) (fun z => by rw [z, hB] at e; cases e) e
def spCalling : Sp := fun vs H Q _ => ∃ (v : V) (p : Part), vs = [v] ∧ PartAt H p v ∧ Q (callP p) H
def spGather (n : Nat) : Sp := fun vs H Q _ => ∃ (v : V) (r : List Part) (aS F B : Addr) (S fs bs : List Str), vs = [v, .ref aS, .ref F, .ref B] ∧ RowAt H r v ∧ H aS = some (.tup (S.map V.str)) ∧ H F = some (.lst (fs.map V.str)) ∧ H B = some (.lst (bs.map V.str)) ∧ F ≠ B ∧
  deepR r < n ∧ sizeR r + fs.length ≤ 1000 ∧ sizeR r + bs.length ≤ 1000 ∧ S.length + deepR r ≤ 1000 ∧
  ∀ H', Sam2 F B H H' → H' F = some (.lst ((fs ++ frR S r).map V.str)) → H' B = some (.lst ((bs ++ bdR r).map V.str)) → Q .non H'
def spCallings (n : Nat) : Sp := fun vs H Q _ => ∃ (v : V) (r : List Part), vs = [v] ∧ RowAt H r v ∧ deepR r < n ∧ sizeR r ≤ 1000 ∧ deepR r ≤ 1000 ∧
  ∀ (H' : Hp) (t F B : Addr), Same H H' → H F = none → H B = none → F ≠ B → H' t = some (.tup [.ref F, .ref B]) → H' F = some (.lst ((frR [] r).map V.str)) → H' B = some (.lst ((bdR r).map V.str)) → Q (.ref t) H'
/-- each of g's texts once, sorted, in a new list -/
def spSorted (g : List Part → List Str) (n : Nat) : Sp := fun vs H Q _ => ∃ (v : V) (r : List Part), vs = [v] ∧ RowAt H r v ∧ deepR r < n ∧ sizeR r ≤ 1000 ∧ deepR r ≤ 1000 ∧ (∀ L : List Str, L.Nodup → (∀ x, x ∈ L ↔ x ∈ g r) → L.length < 64) ∧
  ∀ (H' : Hp) (p : Addr) (ys : List Str), Same H H' → H p = none → ys.Nodup → (∀ x, x ∈ ys ↔ x ∈ g r) → sortedS ys = true → H' p = some (.lst (ys.map V.str)) → Q (.ref p) H'
end Wk

set_option Elab.async false
set_option linter.all false
set_option maxRecDepth 100000
set_option maxHeartbeats 2000000
/-! Rows level by level. -/
namespace Wk
open PySem PySem.Spec PyProof.Rows L2 GxR
def isSay : Part → Bool
  | .say _ => true
  | _ => false
def nextR (r : List Part) : List (List Part) := (r.filter fun p => !isSay p).map restP
def nextL : List (List Part) → List (List Part)
  | [] => []
  | r :: ls => nextR r ++ nextL ls
def deepL : List (List Part) → Nat
  | [] => 0
  | r :: ls => max (deepR r) (deepL ls)
def sizeL : List (List Part) → Nat
  | [] => 0
  | r :: ls => sizeR r + sizeL ls
theorem deepL_app : ∀ a b, deepL (a ++ b) = max (deepL a) (deepL b)
  | [], b => by show deepL b = max 0 (deepL b); omega
  | r :: a, b => by
    show max (deepR r) (deepL (a ++ b)) = max (max (deepR r) (deepL a)) (deepL b)
    rw [deepL_app a b]; omega
theorem sizeL_app : ∀ a b, sizeL (a ++ b) = sizeL a + sizeL b
  | [], b => by show sizeL b = 0 + sizeL b; omega
  | r :: a, b => by
    show sizeR r + sizeL (a ++ b) = sizeR r + sizeL a + sizeL b
    rw [sizeL_app a b]; omega
theorem nextL_app : ∀ a b, nextL (a ++ b) = nextL a ++ nextL b
  | [], b => rfl
  | r :: a, b => by
    show nextR r ++ nextL (a ++ b) = (nextR r ++ nextL a) ++ nextL b
    rw [nextL_app a b, List.append_assoc]
theorem nextR_cons (p : Part) (r : List Part) : nextR (p :: r) = (if isSay p = true then [] else [restP p]) ++ nextR r := by
  unfold nextR
  cases p <;> simp [List.filter_cons, isSay]
theorem nextR_deep : ∀ r : List Part, deepL (nextR r) = deepR r - 1
  | [] => rfl
  | p :: r => by
    rw [nextR_cons, deepL_app, nextR_deep r]
    have d := deep_rest p
    show max (deepL (if isSay p = true then [] else [restP p])) (deepR r - 1) = max (deepP p) (deepR r) - 1
    cases p with
    | say n =>
      have e : deepR (restP (.say n)) = 0 := rfl
      show max 0 (deepR r - 1) = _
      omega
    | again q =>
      show max (max (deepR (restP (.again q))) 0) (deepR r - 1) = _
      omega
    | oth w n q =>
      show max (max (deepR (restP (.oth w n q))) 0) (deepR r - 1) = _
      omega
theorem nextL_deep : ∀ ls, deepL (nextL ls) = deepL ls - 1
  | [] => rfl
  | r :: ls => by
    show deepL (nextR r ++ nextL ls) = max (deepR r) (deepL ls) - 1
    rw [deepL_app, nextR_deep, nextL_deep ls]; omega
theorem nextR_size : ∀ r : List Part, sizeL (nextR r) + (nextR r).length ≤ sizeR r
  | [] => Nat.le_refl _
  | p :: r => by
    rw [nextR_cons, sizeL_app, List.length_append]
    have h := nextR_size r
    have s := size_rest p
    show sizeL (if isSay p = true then [] else [restP p]) + sizeL (nextR r) + ((if isSay p = true then [] else [restP p]).length + (nextR r).length) ≤ sizeP p + sizeR r
    cases p with
    | say n =>
      show 0 + sizeL (nextR r) + (0 + (nextR r).length) ≤ _
      omega
    | again q =>
      show (sizeR (restP (.again q)) + 0) + sizeL (nextR r) + (1 + (nextR r).length) ≤ _
      omega
    | oth w n q =>
      show (sizeR (restP (.oth w n q)) + 0) + sizeL (nextR r) + (1 + (nextR r).length) ≤ _
      omega
theorem nextL_size : ∀ ls, sizeL (nextL ls) + (nextL ls).length ≤ sizeL ls
  | [] => Nat.le_refl _
  | r :: ls => by
    show sizeL (nextR r ++ nextL ls) + (nextR r ++ nextL ls).length ≤ sizeR r + sizeL ls
    rw [sizeL_app, List.length_append]
    have h1 := nextR_size r
    have h2 := nextL_size ls
    omega
abbrev okS (r : List Part) : Prop := okR (fun n => PyData.strOk n = true) r
def okL (ls : List (List Part)) : Prop := ∀ r ∈ ls, okS r
theorem okR_mem {f : Str → Prop} : ∀ {r : List Part}, okR f r → ∀ p ∈ r, okP f p
  | p :: r, h, q, hq => by
    rcases List.mem_cons.mp hq with e | e
    · rw [e]; exact h.1
    · exact okR_mem h.2 q e
theorem nextR_ok {r : List Part} (h : okS r) : okL (nextR r) := fun q hq => by
  obtain ⟨p, hp, rfl⟩ := List.mem_map.mp hq
  exact rest_ok (okR_mem h p (List.mem_filter.mp hp).1)
theorem nextL_ok : ∀ {ls : List (List Part)}, okL ls → okL (nextL ls)
  | [], h => fun q hq => by cases hq
  | r :: ls, h => fun q hq => by
    rcases List.mem_append.mp hq with z | z
    · exact nextR_ok (h r List.mem_cons_self) q z
    · exact nextL_ok (fun x hx => h x (List.mem_cons_of_mem _ hx)) q z
/-! ### in memory -/
def LvAt (H : Hp) : List (List Part) → List V → Prop
  | [], vs => vs = []
  | r :: ls, vs => ∃ v ws, vs = v :: ws ∧ RowAt H r v ∧ LvAt H ls ws
theorem LvAt.mono {H H' : Hp} (s : STup H H') : ∀ {ls : List (List Part)} {vs : List V}, LvAt H ls vs → LvAt H' ls vs
  | [], _, h => h
  | r :: ls, _, h => by
    obtain ⟨v, ws, rfl, h1, h2⟩ := h
    exact ⟨v, ws, rfl, h1.mono s, LvAt.mono s h2⟩
theorem LvAt.len {H : Hp} : ∀ {ls : List (List Part)} {vs : List V}, LvAt H ls vs → vs.length = ls.length
  | [], _, h => by rw [h]; rfl
  | r :: ls, _, h => by
    obtain ⟨v, ws, rfl, _, h2⟩ := h
    rw [List.length_cons, List.length_cons, LvAt.len h2]
theorem LvAt.get {H : Hp} : ∀ {ls : List (List Part)} {vs : List V}, LvAt H ls vs → ∀ {i : Nat} {v : V}, vs[i]? = some v → ∃ r, ls[i]? = some r ∧ RowAt H r v
  | [], _, h, i, v, hv => by rw [show _ = [] from h] at hv; simp at hv
  | r :: ls, _, h, 0, v, hv => by
    obtain ⟨u, ws, rfl, h1, _⟩ := h
    have z : u = v := by simpa using hv
    exact ⟨r, rfl, z ▸ h1⟩
  | r :: ls, _, h, i + 1, v, hv => by
    obtain ⟨u, ws, rfl, _, h2⟩ := h
    obtain ⟨q, h3, h4⟩ := LvAt.get h2 (i := i) (v := v) (by simpa using hv)
    exact ⟨q, by simpa using h3, h4⟩
theorem LvAt.app {H : Hp} {ls2 : List (List Part)} {vs2 : List V} (g : LvAt H ls2 vs2) : ∀ {ls : List (List Part)} {vs : List V}, LvAt H ls vs → LvAt H (ls ++ ls2) (vs ++ vs2)
  | [], _, h => by rw [show _ = [] from h]; exact g
  | r :: ls, _, h => by
    obtain ⟨v, ws, rfl, h1, h2⟩ := h
    exact ⟨v, ws ++ vs2, rfl, h1, LvAt.app g h2⟩
theorem LvAt.one {H : Hp} {r : List Part} {v : V} (h : RowAt H r v) : LvAt H [r] [v] := ⟨v, [], rfl, h, rfl⟩
theorem LvAt.dp {K : PySem.W.Frag} {H : Hp} : ∀ {ls : List (List Part)} {vs : List V}, LvAt H ls vs → DpAll K H vs (ls.map fun r => PyData.tuple (dR r))
  | [], _, h => by rw [show _ = [] from h]; exact .nil
  | r :: ls, _, h => by
    obtain ⟨v, ws, rfl, h1, h2⟩ := h
    exact .cons h1.dp (LvAt.dp h2)
theorem lvl_lay : ∀ {ls : List (List Part)}, okL ls → PyData.canLayAll0 (ls.map fun r => PyData.tuple (dR r)) = true
  | [], _ => by simp only [List.map_nil, PyData.canLayAll0]
  | r :: ls, h => by
    simp only [List.map_cons, PyData.canLayAll0, PyData.canLay0, layR (fun n h => h) r (h r List.mem_cons_self), lvl_lay fun x hx => h x (List.mem_cons_of_mem _ hx), Bool.and_self]
theorem lvl_dep : ∀ ls : List (List Part), PyData.depthAll (ls.map fun r => PyData.tuple (dR r)) ≤ 2 * deepL ls + 1
  | [] => by simp only [List.map_nil, PyData.depthAll]; omega
  | r :: ls => by
    have h1 := depR r
    have h2 := lvl_dep ls
    simp only [List.map_cons, PyData.depthAll, PyData.depth, deepL]
    omega
theorem lvl_shaped {ls : List (List Part)} (h : okL ls) (hd : deepL ls ≤ 25) : SeqAt.shaped (.list (ls.map fun r => PyData.tuple (dR r))) = true := by
  unfold SeqAt.shaped
  have := lvl_dep ls
  simp only [PyData.canLay0, lvl_lay h, PyData.depth, Bool.true_and]
  exact decide_eq_true (by omega)
theorem row_empty (r : List Part) : PyData.eqv (.tuple (dR r)) (.tuple []) = r.isEmpty := by
  cases r with
  | nil => simp only [dR, PyData.eqv, PyData.eqvAll, List.isEmpty]
  | cons p r => simp only [dR, PyData.eqv, PyData.eqvAll, List.isEmpty]
theorem deep_pos {r : List Part} (h : r ≠ []) : 1 ≤ deepR r := by
  cases r with
  | nil => exact absurd rfl h
  | cons p r =>
    have d := deep_rest p
    show 1 ≤ max (deepP p) (deepR r)
    omega
theorem full_iff : ∀ ls : List (List Part), (ls.filter fun r => !r.isEmpty).isEmpty = decide (deepL ls = 0)
  | [] => rfl
  | r :: ls => by
    have ih := full_iff ls
    cases r with
    | nil =>
      show (ls.filter fun r => !r.isEmpty).isEmpty = decide (max 0 (deepL ls) = 0)
      rw [ih, Nat.zero_max]
    | cons p r =>
      have := deep_pos (r := p :: r) (by simp)
      have e : ¬ (deepL ((p :: r) :: ls) = 0) := by
        show ¬ (max (deepR (p :: r)) (deepL ls) = 0)
        omega
      rw [decide_eq_false e]
      rfl
def spLDeep : Sp := fun vs H Q _ => ∃ (v : V) (r : List Part), vs = [v] ∧ RowAt H r v ∧ okS r ∧ deepR r ≤ 25 ∧ sizeR r ≤ 900 ∧ ∀ (H' : Hp), Same H H' → Q (.int (deepR r : Nat)) H'
end Wk

set_option Elab.async false
set_option linter.all false
set_option maxRecDepth 100000
set_option maxHeartbeats 2000000
/-! What the law's own walk writes down of each part. -/
namespace Wk
open PySem PySem.Spec PyProof.Rows L2 GxR
/-- kind, calling, how many are bound around -/
abbrev Ent : Type := Str × Str × Nat
def entP : List Str → Part → Ent
  | S, .say n => (if n ∈ S then "held" else "free", n, S.length)
  | _, .again _ => ("again", "", 0)
  | S, .oth w n _ => if w.binds = true then ("bound", n, S.length) else (if n ∈ S then "held" else "free", n, S.length)
mutual
def alP : List Str → Part → List Ent
  | S, .say n => [entP S (.say n)]
  | S, .again r => entP S (.again r) :: alR S r
  | S, .oth w n r => entP S (.oth w n r) :: alR (inP S (.oth w n r)) r
def alR : List Str → List Part → List Ent
  | _, [] => []
  | S, p :: r => alP S p ++ alR S r
end
theorem alP_eq (S : List Str) : ∀ p : Part, alP S p = entP S p :: alR (inP S p) (restP p)
  | .say n => rfl
  | .again r => rfl
  | .oth w n r => rfl
theorem alR_app (S : List Str) : ∀ r q : List Part, alR S (r ++ q) = alR S r ++ alR S q
  | [], q => rfl
  | p :: r, q => by
    show alP S p ++ alR S (r ++ q) = (alP S p ++ alR S r) ++ alR S q
    rw [alR_app S r q, List.append_assoc]
mutual
theorem alP_len : ∀ (p : Part) (S : List Str), (alP S p).length = sizeP p
  | .say n, S => rfl
  | .again r, S => by
    have := alR_len r S
    show (alR S r).length + 1 = sizeR r + 1
    omega
  | .oth w n r, S => by
    have := alR_len r (inP S (.oth w n r))
    show (alR (inP S (.oth w n r)) r).length + 1 = sizeR r + 1
    omega
theorem alR_len : ∀ (r : List Part) (S : List Str), (alR S r).length = sizeR r
  | [], S => rfl
  | p :: r, S => by
    have h1 := alP_len p S
    have h2 := alR_len r S
    show (alP S p ++ alR S r).length = sizeP p + sizeR r
    rw [List.length_append]
    omega
end
/-- the callings of one kind, as they stand there -/
def ofKind (k : Str) (es : List Ent) : List Str := (es.filter fun e => e.1 == k).map (·.2.1)
theorem ofKind_app (k : Str) (a b : List Ent) : ofKind k (a ++ b) = ofKind k a ++ ofKind k b := by
  unfold ofKind
  rw [List.filter_append, List.map_append]
theorem ent_free (S : List Str) : ∀ p : Part, ofKind "free" [entP S p] = fhP S p
  | .say n => by
    show ofKind "free" [(if n ∈ S then "held" else "free", n, S.length)] = if n ∈ S then [] else [n]
    by_cases c : n ∈ S
    · rw [if_pos c, if_pos c]; rfl
    · rw [if_neg c, if_neg c]; rfl
  | .again r => rfl
  | .oth w n r => by
    show ofKind "free" [if w.binds = true then ("bound", n, S.length) else (if n ∈ S then "held" else "free", n, S.length)] = if w.binds = true then [] else if n ∈ S then [] else [n]
    by_cases b : w.binds = true
    · rw [if_pos b, if_pos b]; rfl
    · rw [if_neg b, if_neg b]
      by_cases c : n ∈ S
      · rw [if_pos c, if_pos c]; rfl
      · rw [if_neg c, if_neg c]; rfl
theorem ent_bound (S : List Str) : ∀ p : Part, ofKind "bound" [entP S p] = bhP p
  | .say n => by
    show ofKind "bound" [(if n ∈ S then "held" else "free", n, S.length)] = []
    by_cases c : n ∈ S
    · rw [if_pos c]; rfl
    · rw [if_neg c]; rfl
  | .again r => rfl
  | .oth w n r => by
    show ofKind "bound" [if w.binds = true then ("bound", n, S.length) else (if n ∈ S then "held" else "free", n, S.length)] = if w.binds = true then [n] else []
    by_cases b : w.binds = true
    · rw [if_pos b, if_pos b]; rfl
    · rw [if_neg b, if_neg b]
      by_cases c : n ∈ S
      · rw [if_pos c]; rfl
      · rw [if_neg c]; rfl
theorem ofKind_cons (k : Str) (e : Ent) (es : List Ent) : ofKind k (e :: es) = ofKind k [e] ++ ofKind k es := ofKind_app k [e] es
mutual
theorem al_freeP : ∀ (p : Part) (S : List Str), ofKind "free" (alP S p) = frP S p
  | .say n, S => by
    rw [alP_eq, ofKind_cons, ent_free, frP_eq]
    rfl
  | .again r, S => by
    rw [alP_eq, ofKind_cons, ent_free, frP_eq]
    show _ ++ ofKind "free" (alR S r) = _
    rw [al_freeR r S]
    rfl
  | .oth w n r, S => by
    rw [alP_eq, ofKind_cons, ent_free, frP_eq]
    show _ ++ ofKind "free" (alR (inP S (.oth w n r)) r) = _
    rw [al_freeR r (inP S (.oth w n r))]
    rfl
theorem al_freeR : ∀ (r : List Part) (S : List Str), ofKind "free" (alR S r) = frR S r
  | [], S => rfl
  | p :: r, S => by
    show ofKind "free" (alP S p ++ alR S r) = frP S p ++ frR S r
    rw [ofKind_app, al_freeP p S, al_freeR r S]
end
mutual
theorem al_boundP : ∀ (p : Part) (S : List Str), ofKind "bound" (alP S p) = bdP p
  | .say n, S => by
    rw [alP_eq, ofKind_cons, ent_bound, bdP_eq]
    rfl
  | .again r, S => by
    rw [alP_eq, ofKind_cons, ent_bound, bdP_eq]
    show _ ++ ofKind "bound" (alR S r) = _
    rw [al_boundR r S]
    rfl
  | .oth w n r, S => by
    rw [alP_eq, ofKind_cons, ent_bound, bdP_eq]
    show _ ++ ofKind "bound" (alR (inP S (.oth w n r)) r) = _
    rw [al_boundR r (inP S (.oth w n r))]
    rfl
theorem al_boundR : ∀ (r : List Part) (S : List Str), ofKind "bound" (alR S r) = bdR r
  | [], S => rfl
  | p :: r, S => by
    show ofKind "bound" (alP S p ++ alR S r) = bdP p ++ bdR r
    rw [ofKind_app, al_boundP p S, al_boundR r S]
end
/-! ### in memory -/
def EntAt (H : Hp) (e : Ent) (v : V) : Prop := ∃ t, v = .ref t ∧ H t = some (.tup [.str e.1, .str e.2.1, .int (e.2.2 : Nat)])
def EntsAt (H : Hp) : List Ent → List V → Prop
  | [], vs => vs = []
  | e :: es, vs => ∃ v ws, vs = v :: ws ∧ EntAt H e v ∧ EntsAt H es ws
theorem EntAt.mono {H H' : Hp} (s : STup H H') {e : Ent} {v : V} (h : EntAt H e v) : EntAt H' e v := by
  obtain ⟨t, rfl, q⟩ := h
  exact ⟨t, rfl, s _ _ q⟩
theorem EntsAt.mono {H H' : Hp} (s : STup H H') : ∀ {es : List Ent} {vs : List V}, EntsAt H es vs → EntsAt H' es vs
  | [], _, h => h
  | e :: es, _, h => by
    obtain ⟨v, ws, rfl, h1, h2⟩ := h
    exact ⟨v, ws, rfl, h1.mono s, EntsAt.mono s h2⟩
theorem EntsAt.len {H : Hp} : ∀ {es : List Ent} {vs : List V}, EntsAt H es vs → vs.length = es.length
  | [], _, h => by rw [h]; rfl
  | e :: es, _, h => by
    obtain ⟨v, ws, rfl, _, h2⟩ := h
    rw [List.length_cons, List.length_cons, EntsAt.len h2]
theorem EntsAt.get {H : Hp} : ∀ {es : List Ent} {vs : List V}, EntsAt H es vs → ∀ {i : Nat} {v : V}, vs[i]? = some v → ∃ e, es[i]? = some e ∧ EntAt H e v
  | [], _, h, i, v, hv => by rw [show _ = [] from h] at hv; simp at hv
  | e :: es, _, h, 0, v, hv => by
    obtain ⟨u, ws, rfl, h1, _⟩ := h
    have z : u = v := by simpa using hv
    exact ⟨e, rfl, z ▸ h1⟩
  | e :: es, _, h, i + 1, v, hv => by
    obtain ⟨u, ws, rfl, _, h2⟩ := h
    obtain ⟨e', h3, h4⟩ := EntsAt.get h2 (i := i) (v := v) (by simpa using hv)
    exact ⟨e', by simpa using h3, h4⟩
theorem EntsAt.snoc {H : Hp} {e : Ent} {v : V} (h : EntAt H e v) : ∀ {es : List Ent} {vs : List V}, EntsAt H es vs → EntsAt H (es ++ [e]) (vs ++ [v])
  | [], _, g => by
    rw [show _ = [] from g]
    exact ⟨v, [], rfl, h, rfl⟩
  | f :: es, _, g => by
    obtain ⟨u, ws, rfl, h1, h2⟩ := g
    exact ⟨u, ws ++ [v], rfl, h1, EntsAt.snoc h h2⟩
def Sam1 (F : Addr) (H H' : Hp) : Prop := ∀ b o, b ≠ F → H b = some o → H' b = some o
theorem Sam1.trans {F : Addr} {H H1 H2 : Hp} (a : Sam1 F H H1) (b : Sam1 F H1 H2) : Sam1 F H H2 := fun c o n e => b c o n (a c o n e)
theorem Sam1.of {F : Addr} {H H' : Hp} (s : Same H H') : Sam1 F H H' := fun c o _ e => s c o e
theorem Sam1.tup {F : Addr} {H H' : Hp} {xs : List V} (hF : H F = some (.lst xs)) (s : Sam1 F H H') : STup H H' := fun a zs e => s a _ (fun z => by rw [z, hF] at e; cases e) e
def spAll (n : Nat) : Sp := fun vs H Q _ => ∃ (v : V) (r : List Part) (aS Fd : Addr) (S : List Str) (us : List V) (es : List Ent), vs = [v, .ref aS, .ref Fd] ∧ RowAt H r v ∧ H aS = some (.lst (S.map V.str)) ∧ H Fd = some (.lst us) ∧ aS ≠ Fd ∧ EntsAt H es us ∧
  deepR r < n ∧ sizeR r + us.length ≤ 1000 ∧ S.length + deepR r ≤ 1000 ∧
  ∀ H' us', Sam1 Fd H H' → H' Fd = some (.lst us') → EntsAt H' (es ++ alR S r) us' → Q (.ref Fd) H'
end Wk

set_option Elab.async false
set_option linter.all false
set_option maxRecDepth 100000
set_option maxHeartbeats 2000000
/-! Sorted lists of the same texts are alike; callings of drawn rows; what stays but for a table. -/
namespace Wk
open PySem PySem.Spec PyProof.Rows L2 GxR
def leS (a b : Str) : Prop := ¬ b.cps.toList < a.cps.toList
theorem leS.trans {a b c : Str} (h : leS a b) (g : leS b c) : leS a c := by
  have h1 : a.cps.toList ≤ b.cps.toList := h
  have h2 : b.cps.toList ≤ c.cps.toList := g
  have h3 : a.cps.toList ≤ c.cps.toList := List.le_trans h1 h2
  exact h3
theorem leS.anti {a b : Str} (h : leS a b) (g : leS b a) : a = b := by
  have h1 : a.cps.toList ≤ b.cps.toList := h
  have h2 : b.cps.toList ≤ a.cps.toList := g
  have e : a.cps.toList = b.cps.toList := List.le_antisymm h1 h2
  exact Str.ext' (Array.toList_inj.mp e)
theorem rising_pw : ∀ (l : List Str) (p : Str), risingS p l = true → (p :: l).Pairwise leS
  | [], p, _ => List.pairwise_singleton _ _
  | x :: r, p, h => by
    have h' : (!ltCps x.cps.toList p.cps.toList && risingS x r) = true := h
    obtain ⟨h1, h2⟩ := Bool.and_eq_true_iff.mp h'
    have ih := rising_pw r x h2
    have hx : leS p x := by
      rw [ltCps_eq] at h1
      intro z
      rw [decide_eq_true z] at h1
      cases h1
    refine List.pairwise_cons.mpr ⟨fun y hy => ?_, ih⟩
    rcases List.mem_cons.mp hy with e | e
    · rw [e]; exact hx
    · exact hx.trans ((List.pairwise_cons.mp ih).1 y e)
theorem sorted_pw : ∀ l : List Str, sortedS l = true → l.Pairwise leS
  | [], _ => List.Pairwise.nil
  | x :: r, h => rising_pw r x h
theorem pw_uniq : ∀ (ys zs : List Str), ys.Pairwise leS → zs.Pairwise leS → ys.Nodup → zs.Nodup → (∀ x, x ∈ ys ↔ x ∈ zs) → ys = zs
  | [], [], _, _, _, _, _ => rfl
  | [], z :: zs, _, _, _, _, h => absurd ((h z).mpr List.mem_cons_self) (fun q => nomatch q)
  | y :: ys, [], _, _, _, _, h => absurd ((h y).mp List.mem_cons_self) (fun q => nomatch q)
  | y :: ys, z :: zs, p, q, n, m, h => by
    obtain ⟨p1, p2⟩ := List.pairwise_cons.mp p
    obtain ⟨q1, q2⟩ := List.pairwise_cons.mp q
    obtain ⟨n1, n2⟩ := List.nodup_cons.mp n
    obtain ⟨m1, m2⟩ := List.nodup_cons.mp m
    have e : y = z := by
      by_cases e : y = z
      · exact e
      · have hy : y ∈ zs := by
          rcases List.mem_cons.mp ((h y).mp List.mem_cons_self) with g | g
          · exact absurd g e
          · exact g
        have hz : z ∈ ys := by
          rcases List.mem_cons.mp ((h z).mpr List.mem_cons_self) with g | g
          · exact absurd g.symm e
          · exact g
        exact (p1 z hz).anti (q1 y hy)
    subst e
    have ih := pw_uniq ys zs p2 q2 n2 m2 (fun x => by
      constructor
      · intro g
        rcases List.mem_cons.mp ((h x).mp (List.mem_cons_of_mem _ g)) with e | e
        · exact absurd (e ▸ g) n1
        · exact e
      · intro g
        rcases List.mem_cons.mp ((h x).mpr (List.mem_cons_of_mem _ g)) with e | e
        · exact absurd (e ▸ g) m1
        · exact e)
    rw [ih]
theorem sorted_uniq {ys zs : List Str} (p : sortedS ys = true) (q : sortedS zs = true) (n : ys.Nodup) (m : zs.Nodup) (h : ∀ x, x ∈ ys ↔ x ∈ zs) : ys = zs :=
  pw_uniq ys zs (sorted_pw ys p) (sorted_pw zs q) n m h
/-! ### callings of rows whose names are ok -/
mutual
theorem fr_okP {f : Str → Prop} : ∀ (p : Part) (S : List Str), okP f p → ∀ x ∈ frP S p, f x
  | .say n, S, h, x, hx => by
    unfold frP at hx
    by_cases c : n ∈ S
    · rw [if_pos c] at hx; cases hx
    · rw [if_neg c] at hx
      rw [List.mem_singleton.mp hx]
      exact h
  | .again r, S, h, x, hx => fr_okR r S h x hx
  | .oth w n r, S, h, x, hx => by
    unfold frP at hx
    by_cases b : w.binds = true
    · rw [if_pos b] at hx
      exact fr_okR r _ h.2 x hx
    · rw [if_neg b] at hx
      rcases List.mem_append.mp hx with g | g
      · by_cases c : n ∈ S
        · rw [if_pos c] at g; cases g
        · rw [if_neg c] at g
          rw [List.mem_singleton.mp g]
          exact h.1
      · exact fr_okR r S h.2 x g
theorem fr_okR {f : Str → Prop} : ∀ (r : List Part) (S : List Str), okR f r → ∀ x ∈ frR S r, f x
  | [], S, _, x, hx => nomatch hx
  | p :: r, S, h, x, hx => by
    rcases List.mem_append.mp (show x ∈ frP S p ++ frR S r from hx) with g | g
    · exact fr_okP p S h.1 x g
    · exact fr_okR r S h.2 x g
end
mutual
theorem bd_okP {f : Str → Prop} : ∀ (p : Part), okP f p → ∀ x ∈ bdP p, f x
  | .say n, h, x, hx => nomatch hx
  | .again r, h, x, hx => bd_okR r h x hx
  | .oth w n r, h, x, hx => by
    unfold bdP at hx
    rcases List.mem_append.mp hx with g | g
    · by_cases b : w.binds = true
      · rw [if_pos b] at g
        rw [List.mem_singleton.mp g]
        exact h.1
      · rw [if_neg b] at g; cases g
    · exact bd_okR r h.2 x g
theorem bd_okR {f : Str → Prop} : ∀ (r : List Part), okR f r → ∀ x ∈ bdR r, f x
  | [], _, x, hx => nomatch hx
  | p :: r, h, x, hx => by
    rcases List.mem_append.mp (show x ∈ bdP p ++ bdR r from hx) with g | g
    · exact bd_okP p h.1 x g
    · exact bd_okR r h.2 x g
end
/-! ### but for a table -/
section
variable {T p : Addr} {H0 H H' : Hp} {o : HO}
theorem TabG.ne (t : TabG H T) (n : H p = none) : T ≠ p := fun e => by
  obtain ⟨ps, h, _⟩ := t
  rw [e, n] at h
  cases h
theorem TabG.new (t : TabG H T) (n : H p = none) : TabG (upd H p o) T := by
  obtain ⟨ps, h, g⟩ := t
  exact ⟨ps, kn h n, g⟩
theorem TabG.same (t : TabG H T) (s : Same H H') : TabG H' T := by
  obtain ⟨ps, h, g⟩ := t
  exact ⟨ps, s _ _ h, g⟩
theorem SameT.new (s : SameT T H0 H) (n : H p = none) : SameT T H0 (upd H p o) := ⟨fun b u nb e => kn (s.1 b u nb e) n, TabG.new s.2 n⟩
theorem SameT.own (t : TabG H0 T) (s : SameT T H0 H) (n : H0 p = none) : SameT T H0 (upd H p o) := by
  have ne : T ≠ p := TabG.ne t n
  refine ⟨fun b u nb e => ?_, ?_⟩
  · rw [upd_ne (ne_of_none e n)]
    exact s.1 b u nb e
  · obtain ⟨ps, h, g⟩ := s.2
    exact ⟨ps, by rw [upd_ne ne]; exact h, g⟩
theorem SameT.sm (s : SameT T H0 H) (h : Same H H') : SameT T H0 H' := s.trans (SameT.of s.2 h)
theorem SameT.none (t : TabG H0 T) (s : SameT T H0 H) (n : H p = none) : H0 p = none := by
  cases e : H0 p with
  | none => rfl
  | some u =>
    have ne : p ≠ T := fun z => TabG.ne s.2 n z.symm
    rw [s.1 p u ne e] at n
    cases n
end
theorem ints_shaped (a b : Int) : SeqAt.shaped (.list [.int a, .int b]) = true := by
  unfold SeqAt.shaped
  simp only [PyData.canLay0, PyData.canLayAll0, PyData.depth, PyData.depthAll, Bool.and_self, Bool.true_and]
  rfl
theorem ints_eqv (a b : Int) : PyData.eqv (.list [.int a, .int b]) (.list [.int a, .int b]) = true := SeqAt.eqv_refl _ (by simp only [PyData.canLay0, PyData.canLayAll0, Bool.and_self])
theorem strs_eqv {ys : List Str} (hk : ∀ z ∈ ys, PyData.strOk z = true) : PyData.eqv (.list (ys.map PyData.str)) (.list (ys.map PyData.str)) = true := SeqAt.eqv_refl _ (by simp only [PyData.canLay0]; exact strs_lay ys hk)
end Wk
namespace Wk
open PySem PySem.Spec PyProof.Rows L2 GxR
theorem SameT.sam1 {T F : Addr} {H0 H H' : Hp} (t : TabG H0 T) (s : SameT T H0 H) (n : H0 F = Option.none) (m : Sam1 F H H') : SameT T H0 H' :=
  ⟨fun b o nb e => m b o (ne_of_none e n) (s.1 b o nb e), by
    obtain ⟨ps, h, g⟩ := s.2
    exact ⟨ps, m _ _ (TabG.ne t n) h, g⟩⟩
theorem TabG.neL {T p : Addr} {H : Hp} {xs : List V} (t : TabG H T) (h : H p = some (.lst xs)) : p ≠ T := fun e => by
  obtain ⟨ps, q, _⟩ := t
  rw [e, q] at h
  cases h
theorem lt64 {g : List Str} {D : List Str} (h : ∀ x ∈ g, x ∈ D) (l : D.length < 64) : ∀ L : List Str, L.Nodup → (∀ x, x ∈ L ↔ x ∈ g) → L.length < 64 := fun L nd hm =>
  Nat.lt_of_le_of_lt (sub_len L D nd fun x hx => h x ((hm x).mp hx)) l
end Wk

set_option Elab.async false
set_option linter.all false
set_option maxRecDepth 100000
set_option maxHeartbeats 2000000
/-! What stays but for some code tables. -/
namespace Wk
open PySem PySem.Spec PyProof.Rows L2 GxR
def TabsG (Ts : List Addr) (H : Hp) : Prop := ∀ T ∈ Ts, TabG H T
def SamTs (Ts : List Addr) (H H' : Hp) : Prop := (∀ b o, b ∉ Ts → H b = some o → H' b = some o) ∧ TabsG Ts H'
section
variable {Ts : List Addr} {T p F : Addr} {H H0 H' H1 H2 : Hp} {o : HO} {xs : List V}
theorem TabsG.out (t : TabsG Ts H) (n : H p = none) : p ∉ Ts := fun h => by
  obtain ⟨ps, q, _⟩ := t p h
  rw [q] at n
  cases n
theorem TabsG.outL (t : TabsG Ts H) (h : H p = some (.lst xs)) : p ∉ Ts := fun z => by
  obtain ⟨ps, q, _⟩ := t p z
  rw [q] at h
  cases h
theorem TabsG.outT (t : TabsG Ts H) (h : H p = some (.tup xs)) : p ∉ Ts := fun z => by
  obtain ⟨ps, q, _⟩ := t p z
  rw [q] at h
  cases h
theorem TabsG.same (t : TabsG Ts H) (s : Same H H') : TabsG Ts H' := fun T h => TabG.same (t T h) s
theorem TabsG.new (t : TabsG Ts H) (n : H p = none) : TabsG Ts (upd H p o) := fun T h => TabG.new (t T h) n
theorem SamTs.refl (t : TabsG Ts H) : SamTs Ts H H := ⟨fun _ _ _ e => e, t⟩
theorem SamTs.trans (a : SamTs Ts H H1) (b : SamTs Ts H1 H2) : SamTs Ts H H2 := ⟨fun c o n e => b.1 c o n (a.1 c o n e), b.2⟩
theorem SamTs.of (t : TabsG Ts H) (s : Same H H') : SamTs Ts H H' := ⟨fun b o _ e => s b o e, t.same s⟩
theorem SamTs.tab (m : T ∈ Ts) (t : TabsG Ts H) (h : Tabbed T H H') : SamTs Ts H H' := ⟨fun b o n e => by
    rw [h.2 b (fun z => n (z ▸ m))]; exact e, fun T' h' => by
    by_cases e : T' = T
    · rw [e]; exact h.1
    · obtain ⟨ps, q, g⟩ := t T' h'
      exact ⟨ps, by rw [h.2 T' e]; exact q, g⟩⟩
theorem SamTs.tup (t : TabsG Ts H) (s : SamTs Ts H H') : STup H H' := fun a xs e => s.1 a _ (t.outT e) e
theorem SamTs.new (s : SamTs Ts H0 H) (n : H p = none) : SamTs Ts H0 (upd H p o) := ⟨fun b u nb e => kn (s.1 b u nb e) n, s.2.new n⟩
theorem SamTs.own (t : TabsG Ts H0) (s : SamTs Ts H0 H) (n : H0 p = none) : SamTs Ts H0 (upd H p o) := by
  refine ⟨fun b u nb e => ?_, fun T h => ?_⟩
  · rw [upd_ne (ne_of_none e n)]
    exact s.1 b u nb e
  · obtain ⟨ps, q, g⟩ := s.2 T h
    have ne : T ≠ p := fun z => t.out n (z ▸ h)
    exact ⟨ps, by rw [upd_ne ne]; exact q, g⟩
theorem SamTs.sm (s : SamTs Ts H0 H) (h : Same H H') : SamTs Ts H0 H' := s.trans (SamTs.of s.2 h)
theorem SamTs.none (t : TabsG Ts H0) (s : SamTs Ts H0 H) (n : H p = Option.none) : H0 p = Option.none := by
  cases e : H0 p with
  | none => rfl
  | some u =>
    rw [s.1 p u (s.2.out n) e] at n
    cases n
theorem SamTs.lst (t : TabsG Ts H) (s : SamTs Ts H H') (h : H p = some (.lst xs)) : H' p = some (.lst xs) := s.1 _ _ (t.outL h) h
end
end Wk

set_option Elab.async false
set_option linter.all false
set_option maxRecDepth 100000
set_option maxHeartbeats 2000000
/-! all(test for x in text) where the test reads a captured text of the def. -/
namespace Wk
open PySem PySem.Spec PyProof.Rows L2 GxR
section
variable {X : Cx} {pins : List (Addr × Obj)} {σ : L2.St} {H : Hp} {s : Shared}
/-- the test of one sign c, in a frame whose cell for y holds the text z -/
def EltC (X : Cx) (scope : Scope) (x y : Str) (elt : Expr) (pb : Str → Nat → Bool) : Prop :=
  ∀ (z : Str) (ce : Env) (B : Around) (F : Value → Shared → Prop) (c : Nat) (t ty : Tok) (cy : Addr) (r : Shared) (m : Str → Option Value),
    ce.scope = scope → ce.cells.lookup y = some cy → r.heap.IsCell cy (some (.str z ty)) → r.heap.Ns ce.locals m → m x = some (.str ⟨#[c]⟩ t) →
    wpAny (model X.prog X.w) B (eval elt ce) (fun b r' => b = .bool (pb z c) ∧ Keeps r r') F r
/-- x in y, y captured -/
theorem elt_in {scope : Scope} {x y : Str} {p1 p2 p3 : Pos} (hk : scope.kind = .function) (hl : scope.names.lookup x = some .local) (hf : scope.names.lookup y = some .free)
    (hd : (x == ("__debug__" : Str)) = false := by decide) (hd2 : (y == ("__debug__" : Str)) = false := by decide) (hd3 : (y == ("__classdict__" : Str)) = false := by decide) :
    EltC X scope x y (.Compare (.Name x p1) [.In] [.Name y p2] p3) (fun z c => decide (c ∈ z.cps.toList)) := by
  intro z ce B F c t ty cy r m hs hc hcell hn hm
  have k1 : ce.scope.kind = .function := by rw [hs]; exact hk
  have k2 : ce.kindOf x = some .local := by show ce.scope.names.lookup x = _; rw [hs]; exact hl
  have k3 : ce.kindOf y = some .free := by show ce.scope.names.lookup y = _; rw [hs]; exact hf
  refine wpAny_Compare1 (wpAny_Name (wpAny_loadName_local k1 k2 hn hm ?_) hd)
  refine wpAny_Name (wpAny_loadName_free k1 k3 hc hcell ?_ hd3) hd2
  exact PyProof.Rows.in_str ⟨congrArg Value.bool (PySem.StrLaws.found_one z c), keeps_refl _⟩
/-- the reading: slot i holds the captured text -/
def tAllC (P : Addr) (i : Nat) (pb : Str → Nat → Bool) (te : TE) : TE := fun σ H Q => te σ H fun v H1 => ∃ a z : Str, v = .str a ∧ σ[i]? = some (some (.str z)) ∧ TabG H1 P ∧
  ∀ H2, Tabbed P H1 H2 → Q (.bl (a.cps.toList.all (pb z))) H2
theorem gen_cap {c P : Addr} {elt iter : Expr} {x y : Str} {px gpos : Pos} {scope : Scope} {pb : Str → Nat → Bool} {te : TE} {k i : Nat} {Q' : Value → Shared → Prop} {R : Str → Str → Hp → Prop}
    (hr : Room k X.A) (TB : GxR.TabB X.base X.mg c P) (hcode : X.env.code = .ref c) (S : GenS X.env scope x) (hN : X.N[i]? = some y) (hy : X.env.scope.names.lookup y = some .cell)
    (hcl : ∀ cells : List (Str × Addr), (cloFrom cells scope.names []).lookup y = some ((cells.lookup y).getD 0)) (hi : PE X iter te) (hel : EltC X scope x y elt pb)
    (hs : ∀ v, genFold iter X.env v = pure v) (I : Inv X pins σ H s) (h : te σ H fun v H1 => ∃ a z : Str, v = .str a ∧ σ[i]? = some (some (.str z)) ∧ TabG H1 P ∧ R a z H1)
    (hQ : ∀ a z H1 g s5, R a z H1 → Ready X pins σ H1 P a (pb z) g s5 → Q' (.ref g) s5) :
    wpAny (model X.prog X.w) X.A (eval (.GeneratorExp elt [⟨.Name x px, iter, [], 0⟩] scope gpos) X.env) Q' X.xe s := by
  refine wpAny_GeneratorExp_walksQ hr.hd S.co (closure_ok S.free) S.cell S.dot S.loc S.kind (by have := hr.dp; omega) ?_ hs
  refine thn (hi.run pins s σ H _ I h) fun xv s1 ⟨v, H1, I1, r1, q1⟩ => ?_
  obtain ⟨a, z, rfl, hz, ⟨ps, hP, ht⟩, q1⟩ := q1
  obtain ⟨t, rfl⟩ := _root_.id r1
  -- the captured cell
  obtain ⟨cy, ty, hcy, hcell⟩ : ∃ cy ty, X.env.cells.lookup y = some cy ∧ s1.heap.IsCell cy (some (.str z ty)) := by
    obtain ⟨m, hn, hl⟩ := I1.loc
    obtain ⟨u, ru, lk⟩ := hl i y (.str z) hN hz (.inr (.inl hy))
    obtain ⟨ty, rfl⟩ := _root_.id ru
    rcases lk with ⟨hk, _⟩ | ⟨_, cy, hcy, hcell⟩
    · have hk2 : X.env.scope.names.lookup y = some .local := hk
      rw [hy] at hk2
      cases hk2
    · exact ⟨cy, ty, hcy, hcell⟩
  refine wpAny_pyIter_str fun o St W hst => ?_
  have hPs : s1.heap.get? P = some { cls := .none, data := .fields ps } := I1.hok P _ hP
  have hPlt : P < s1.heap.objs.size := Heap.lt_size hPs
  have hP2 : (s1.heap.push o).get? P = some { cls := .none, data := .fields ps } := Heap.get?_push_of_some _ hPs
  have cd : PySem.W.CodeHd (s1.heap.push o) c P :=
    TB.code.keeps fun b u e => Heap.get?_push_of_some _ (I1.bk b u e)
  have lim2 : (s1.heap.push o).NoLimit := I1.nolimit.push o
  have cyP : cy ≠ P := fun e => by
    obtain ⟨oc, e1, e2⟩ := hcell
    rw [e, hPs] at e1
    cases e1
    cases e2
  -- what follows once the code object is there
  have go : ∀ (code : Value) (h3 : Heap) (tk : Nat) (ps' : Array Value), Heap.ExtBut P (s1.heap.push o) h3 →
      (s1.heap.push o).objs.size ≤ h3.objs.size → h3.get? P = some { cls := .none, data := .fields ps' } →
      (∃ more, ps' = ps ++ more) → TriplesOk ps'.toList →
      wpAny (model X.prog X.w) X.A (builtinsFor X.env.globals X.env.builtins) (fun bi s₄ =>
        ∃ Ia fp wr n₀ Pf St₀ pz F, Value.ref s1.heap.objs.size = .ref Ia ∧
          (∀ A' : Around, A'.handled = none → Walks X.prog X.w A' Ia fp wr n₀ Pf St₀) ∧ St₀ 0 s₄.heap ∧
          (∀ b ∈ fp, b < s₄.heap.objs.size) ∧ s₄.heap.NoLimit ∧ cStatics ∉ wr ∧
          (∀ href : Heap, (∀ b o, s₄.heap.get? b = some o → href.get? b = some o) →
            QuietGen X.prog X.w (genEnv scope (cloFrom X.env.cells scope.names []) s₄.heap.objs.size code bi X.env) x [] elt
              (List.range s₄.heap.objs.size) wr Pf pz F href) ∧
          (∀ a h₅ tk gs, gs.bare = true → s₄.heap.objs.size < a → h₅.objs.size = a + 1 →
            (∀ b o, s₄.heap.get? b = some o → h₅.get? b = some o) →
            WalksS X.prog X.w X.A.in4 a (a :: s₄.heap.objs.size :: List.range s₄.heap.objs.size) (s₄.heap.objs.size :: wr)
              (GenOnlyQ s₄.gens.size) (passing pz n₀ 0).length (fun j y => ∃ i, (passing pz n₀ 0)[j]? = some i ∧ F i y)
              (GenAt X.prog X.w X.A.in4 a s₄.gens.size s₄.heap.objs.size (List.range s₄.heap.objs.size) wr pz n₀ F) →
            GenAt X.prog X.w X.A.in4 a s₄.gens.size s₄.heap.objs.size (List.range s₄.heap.objs.size) wr pz n₀ F 0
              { s₄ with gens := s₄.gens.push gs, toks := tk, heap := h₅ } →
            Q' (.ref a) { s₄ with gens := s₄.gens.push gs, toks := tk, heap := h₅ })) X.xe { s1 with heap := h3, toks := tk } := by
    intro code h3 tk ps' hx hsz hP3 hmore ht3
    obtain ⟨bm, ob, e1, e2, e3, e4, e5, e6, e7, e8⟩ := TB.bm
    have hcP : cStatics ≠ P := fun e => by
      obtain ⟨_, hns, _⟩ := I1.nolimit
      obtain ⟨o', es, ep, ho, hd, _⟩ := hns
      rw [e, hPs] at ho
      cases ho
      cases hd
    have hcl2 : cStatics < s1.heap.objs.size := let ⟨_, hns, _⟩ := I1.nolimit; hns.lt
    have sz2 : (s1.heap.push o).objs.size = s1.heap.objs.size + 1 := Heap.size_push ..
    have keep3 : ∀ b u, b ≠ P → s1.heap.get? b = some u → h3.get? b = some u :=
      fun b u hb e => hx b u hb (Heap.get?_push_of_some _ e)
    refine wpAny_builtinsFor (m := X.mg) (by
      rw [I1.ok.glob]
      exact ((I1.mod.glob.keeps I1.bk).push o).extBut hx TB.gP) e1 e2 (keep3 _ _ e4 (I1.bk _ _ e5)) e6 e7 e8 ?_
    refine ⟨s1.heap.objs.size, [s1.heap.objs.size], [s1.heap.objs.size], a.cps.size, SignAt a, St, (fun _ => true),
      (fun i y => ∃ cc, a.cps[i]? = some cc ∧ y = .bool (pb z cc)), rfl, W, ?_, ?_, lim2.extBut hx hcP, ?_, ?_, ?_⟩
    · refine (W X.A hr.hd).frame _ _ _ hst fun b hb u e => hx b u (fun q => ?_) e
      rcases List.mem_cons.mp hb with q2 | q2
      · exact Nat.ne_of_lt hPlt (q.symm.trans q2)
      · cases q2
    · intro b hb
      rcases List.mem_cons.mp hb with q | q
      · rw [q]
        show s1.heap.objs.size < h3.objs.size
        omega
      · cases q
    · intro q
      rcases List.mem_cons.mp q with q | q
      · exact Nat.ne_of_lt hcl2 q
      · cases q
    · intro href hhref
      refine ⟨fun A' E' i v s₂ m₂ hA hPv hn hm hk => ?_, fun A' E' i v s₂ m₂ hA hPv hp hn hm hk => ?_⟩
      · simp only [List.forIn_nil]
        exact wpAny_pure ⟨rfl, keeps_refl _⟩
      · obtain ⟨cc, u, hcc, rfl⟩ := hPv
        obtain ⟨oc, c1, c2⟩ := hcell
        have sz3 : s1.heap.objs.size ≤ h3.objs.size := by omega
        have c3 := hk cy (List.mem_range.mpr (Nat.lt_of_lt_of_le (Heap.lt_size c1) sz3)) (fun q => by
            rcases List.mem_cons.mp q with q | q
            · exact absurd (Heap.lt_size c1) (by rw [q]; exact Nat.lt_irrefl _)
            · cases q) oc (hhref _ _ (keep3 _ _ cyP c1))
        have lk : (genEnv scope (cloFrom X.env.cells scope.names []) h3.objs.size code builtinsNs X.env).cells.lookup y = some cy := by
          show (cloFrom X.env.cells scope.names []).lookup y = some cy
          rw [hcl, hcy]
          rfl
        exact wpAny_mono (hel z _ A' E' cc u ty cy s₂ m₂ rfl lk ⟨oc, c3, c2⟩ hn hm) (fun y s3 r => ⟨⟨cc, hcc, r.1⟩, r.2⟩) fun _ _ e => e
    · intro g h5 tk5 gs hgb hag hsz5 hk5 W5 hat
      simp only [GxR.passing_true, List.length_range] at W5
      refine hQ a z H1 g _ q1 ⟨_, _, _, _, _, W5.in4_1, hat, ?_, fun s' hm => ?_⟩
      · intro j y sj Qj Ej hy2 hQj
        obtain ⟨i2, hij, cc, hcc, rfl⟩ := hy2
        obtain ⟨hj, ej⟩ := List.getElem?_eq_some_iff.mp hij
        rw [List.getElem_range] at ej
        subst ej
        have e9 : a.cps.toList[j]? = some cc := by
          rw [Array.getElem?_toList]
          exact hcc
        have hQ2 : Qj (trF (pb z) a.cps.toList j) sj := hQj
        rw [trF_some e9] at hQ2
        exact wpAny_truthy_bool hQ2
      · obtain ⟨more, em⟩ := hmore
        have nwr : ∀ b u, s1.heap.get? b = some u → b ∉ h3.objs.size :: [s1.heap.objs.size] := fun b u e hb => by
          have hl := Heap.lt_size e
          rcases List.mem_cons.mp hb with q | q
          · rw [q] at hl
            have h9 : (h3.objs.size : Nat) < s1.heap.objs.size := hl
            omega
          · rcases List.mem_cons.mp q with q | q
            · rw [q] at hl
              exact Nat.lt_irrefl _ hl
            · cases q
        have J := inv_tab (more := more) (h' := s'.heap) (g' := s'.gens) (d' := s'.drawn) (t' := s'.toks) I1 hP
          (fun b u hb e => hm.heap b u (nwr b u e) (hk5 b u (keep3 b u hb e)))
          (by rw [← em]; exact hm.heap P _ (nwr P _ hPs) (hk5 P _ hP3)) (AllBare.movedS (I1.bare.push hgb) hm)
        rw [sh_eta s1 s' hm.os] at J
        exact ⟨upd H1 P (.tbl (ps ++ more)), ⟨⟨ps ++ more, upd_same, by rw [← em]; exact ht3⟩, fun b hb => upd_ne hb⟩, J⟩
  refine ⟨lim2, ?_⟩
  cases hf : codeAmong gpos ps.toList with
  | none =>
    refine wpAny_genexprCodeX hcode (cd.code hP2 ht) (cd.tab hP2) hf fun c' h' tk hx hge hlt hco' _ htab' _ => ?_
    obtain ⟨o1, vs, f1, tf, fl, tg, inF, tx, tt, op, _, _, _, _, _, _, _, _, _, htr, _⟩ := hco'
    exact go _ h' tk _ hx (Nat.le_trans hge (Nat.le_of_lt hlt)) htab'.2 ⟨_, rfl⟩ htr
  | some cv =>
    refine wpAny_genexprCode_hit hcode (cd.code hP2 ht) hf ?_
    exact go cv (s1.heap.push o) s1.toks ps (Heap.ExtBut.refl _ _) (Nat.le_refl _) hP2 ⟨#[], by simp⟩ ht
theorem pe_allC {c P : Addr} {elt iter : Expr} {x y : Str} {px p pos gpos : Pos} {scope : Scope} {pb : Str → Nat → Bool} {te : TE} {k i : Nat}
    (hr : Room k X.A) (hg : Gl X "all") (hm : X.mg "all" = none) (hb : bootBuiltins "all" = some (.builtin "all")) (TB : GxR.TabB X.base X.mg c P) (hcode : X.env.code = .ref c) (S : GenS X.env scope x)
    (hN : X.N[i]? = some y) (hy : X.env.scope.names.lookup y = some .cell) (hcl : ∀ cells : List (Str × Addr), (cloFrom cells scope.names []).lookup y = some ((cells.lookup y).getD 0))
    (hi : PE X iter te) (hel : EltC X scope x y elt pb) (hs : ∀ v, genFold iter X.env v = pure v)
    (he : starEach [.GeneratorExp elt [⟨.Name x px, iter, [], 0⟩] scope gpos] X.env = (false, eval (.GeneratorExp elt [⟨.Name x px, iter, [], 0⟩] scope gpos) X.env) :: starEach [] X.env := by rfl) :
    PE X (.Call (.Name "all" p) [.GeneratorExp elt [⟨.Name x px, iter, [], 0⟩] scope gpos] [] pos) (tAllC P i pb te) := by
  refine ⟨fun pins s σ H Q I h => ?_⟩
  refine wpAny_Call_Name_kw (ld_blt I hg hm hb (PyProof.Rows.callWith_builtin1 ?_ he (by rfl)))
  rw [he]
  show wpAny _ _ (spliced ((false, eval (.GeneratorExp elt [⟨.Name x px, iter, [], 0⟩] scope gpos) X.env) :: backTo pos (starEach [] X.env))) _ _ s
  refine Calls.spliced_cons (gen_cap (i := i) (y := y) (R := fun a z H1 => ∀ H2, Tabbed P H1 H2 → Q (.bl (a.cps.toList.all (pb z))) H2)
    hr TB hcode S hN hy hcl hi hel hs I h fun a z H1 g s5 hR hG => ?_)
  obtain ⟨fp, wr, G, F, St, W, hst, htr, hI⟩ := hG
  refine Calls.spliced_nil (call_all_walkS (W.self 0 _ _ _ hst ⟨g, fp, wr, G, _, F, St, _, rfl, W, hst, htr, fun s' hmv => ?_⟩))
  obtain ⟨H2, hT, J⟩ := hI s' hmv
  refine ⟨.bl _, H2, J, rfl, ?_⟩
  rw [all_signs a (pb z)]
  exact hR H2 hT
end
end Wk

set_option Elab.async false
set_option linter.all false
set_option maxRecDepth 100000
set_option maxHeartbeats 2000000
/-! Names: what is computed, and promises. -/
namespace Wk
open PySem PySem.Spec PyProof.Rows L2 GxR
abbrev fg : Str := "0123456789"
def wordB (z s : Str) : Bool := decide (1 ≤ z.length) && (decide (z.length ≤ 6) && z.cps.toList.all fun c => decide (c ∈ s.cps.toList))
def takenV : List V := [.str "in", .str "out", .str "open", .str "new"]
def nameB (z : Str) : Bool := !inV (.str z) takenV && wordB z abc
def nmV : V → Bool
  | .str z => nameB z
  | _ => false
inductive Thing (H : Hp) : V → Prop where
  | str (z : Str) (h : z.length ≤ 1000) : Thing H (.str z)
  | non : Thing H .non
  | int (i : Int) : Thing H (.int i)
  | bl (b : Bool) : Thing H (.bl b)
  | lst {a : Addr} {xs : List V} (e : H a = some (.lst xs)) : Thing H (.ref a)
  | tup {a : Addr} {xs : List V} (e : H a = some (.tup xs)) : Thing H (.ref a)
  | dct {a : Addr} {xs : List (Key × V)} (e : H a = some (.dK xs)) : Thing H (.ref a)
def strish : V → Bool
  | .str _ => true
  | _ => false
theorem Thing.ty {K : PySem.W.Frag} {H : Hp} {v : V} (h : Thing H v) : ∃ t : String, TyX K H v (.type t) ∧ PySem.W.kitOne K (.type t) (.type "str") = some (strish v) := by
  cases h with
  | str z h => exact ⟨_, .base (.str z), kit_ty (show kitB "str" "str" = some true by decide +kernel)⟩
  | non => exact ⟨_, .base .non, kit_ty (show kitB "NoneType" "str" = some false by decide +kernel)⟩
  | int i => exact ⟨_, .base (.int i), kit_ty (show kitB "int" "str" = some false by decide +kernel)⟩
  | bl b => exact ⟨_, .base (.bl b), kit_ty (show kitB "bool" "str" = some false by decide +kernel)⟩
  | lst e => exact ⟨_, .base (.lst e), kit_ty (show kitB "list" "str" = some false by decide +kernel)⟩
  | tup e => exact ⟨_, .base (.tup e), kit_ty (show kitB "tuple" "str" = some false by decide +kernel)⟩
  | dct e => exact ⟨_, .base (.dK e), kit_ty (show kitB "dict" "str" = some false by decide +kernel)⟩
theorem Thing.cases {H : Hp} {v : V} (h : Thing H v) : (∃ z : Str, v = .str z ∧ z.length ≤ 1000) ∨ (strish v = false ∧ nmV v = false) := by
  cases h with
  | str z h => exact .inl ⟨z, rfl, h⟩
  | _ => exact .inr ⟨rfl, rfl⟩
def spWord (Ts : List Addr) : Sp := fun vs H Q _ => ∃ z s : Str, vs = [.str z, .str s] ∧ z.length ≤ 1000 ∧ TabsG Ts H ∧ ∀ H', SamTs Ts H H' → Q (.bl (wordB z s)) H'
def spName (Ts : List Addr) (g : V → Bool) : Sp := fun vs H Q _ => ∃ v : V, vs = [v] ∧ Thing H v ∧ TabsG Ts H ∧ ∀ H', SamTs Ts H H' → Q (.bl (g v)) H'
/-! drawn names are names -/
theorem name_len {j : Nat} {z : Str} (h : NameOf j z) : z.length ≤ 6 ∧ 1 ≤ z.length := by
  obtain ⟨r, e, h1, _⟩ := h
  have : z.length = z.cps.toList.length := (Array.length_toList).symm
  rw [this, e, List.length_cons]
  omega
theorem name_word {j : Nat} {z : Str} (h : NameOf j z) (hj : j < 26) : wordB z abc = true := by
  obtain ⟨l1, l2⟩ := name_len h
  obtain ⟨r, e, h1, h2⟩ := h
  have va : ∀ c ∈ vow.cps.toList, c ∈ abc.cps.toList := by decide +kernel
  have ja : 97 + j ∈ abc.cps.toList := List.mem_of_getElem? (abc_at j hj)
  unfold wordB
  rw [decide_eq_true l2, decide_eq_true l1, Bool.true_and, Bool.true_and, List.all_eq_true]
  intro c hc
  rw [e] at hc
  rcases List.mem_cons.mp hc with q | q
  · rw [q]; exact decide_eq_true ja
  · exact decide_eq_true (va c (h2 c q))
/-! the second sign of a drawn name is a vowel, x, y or z: it is none of the four words -/
theorem name_free {j : Nat} {z : Str} (h : NameOf j z) : inV (.str z) takenV = false := by
  obtain ⟨r, e, h1, h2⟩ := h
  have no : ∀ (t : Str) (c : Nat), c ∈ t.cps.toList.drop 1 → c ∉ vow.cps.toList → z ≠ t := by
    intro t c hc hv ez
    rw [← ez, e] at hc
    exact hv (h2 c hc)
  have n1 : z ≠ "in" := no "in" 110 (by decide +kernel) (by decide +kernel)
  have n2 : z ≠ "out" := no "out" 116 (by decide +kernel) (by decide +kernel)
  have n3 : z ≠ "open" := no "open" 112 (by decide +kernel) (by decide +kernel)
  have n4 : z ≠ "new" := no "new" 119 (by decide +kernel) (by decide +kernel)
  have e5 : takenV = (["in", "out", "open", "new"] : List Str).map V.str := rfl
  rw [e5, inV_strs]
  exact decide_eq_false (by simp [n1, n2, n3, n4])
theorem name_ok {j : Nat} {z : Str} (h : NameOf j z) (hj : j < 26) : nameB z = true := by
  unfold nameB
  rw [name_free h, name_word h hj]
  rfl
end Wk

set_option Elab.async false
set_option linter.all false
set_option maxRecDepth 100000
set_option maxHeartbeats 2000000
/-! d.get(x) of a dict that the module wrote, its keys texts. -/
namespace Wk
open PySem PySem.Spec PyProof.Rows L2 GxR
/-- at a: a written dict in which x has r -/
def KGot (K : PySem.W.Frag) (w : World) (a : Addr) : Prop := ∃ es n, K.lookup a = some ⟨.type "dict", none, .dict es n, #[]⟩ ∧ PySem.W.KeysLit w.params es.toList ∧ (a == sysModules) = false
def tKGet (K : PySem.W.Frag) (w : World) (td ty : TE) : TE := fun σ H Q => td σ H fun x H1 => ∃ a, x = .ref a ∧ KGot K w a ∧ ty σ H1 fun y H2 => ∃ (z : Str) (r : Option Value) (v0 : V), y = .str z ∧ PySem.W.nsIn K a z = some r ∧ RelV v0 (r.getD .none) ∧ Q v0 H2
section
variable {X : Cx} {o e : Expr} {apos cpos : Pos} {td ty : TE}
theorem pe_kget (ho : PE X o td) (he : PE X e ty) (m : M1 X o "get" apos e cpos) : PE X (.Call (.Attribute o "get" apos) [e] [] cpos) (tKGet X.K X.w td ty) := by
  refine ⟨fun pins s σ H Q I h => ?_⟩
  refine wpAny_Call_method m.base m.few m.line PySem.F.plainAttrs_dict PySem.F.slot_dict_get PySem.F.type_dict_get (thn (ho.run pins s σ H _ I h) fun u s1 ⟨x, H1, I1, rx, a, ex, d, q1⟩ => ?_)
  subst ex
  obtain rfl : u = Value.ref a := rx
  obtain ⟨es, n, hl, hk, low⟩ := d
  have mp := fun (s : Shared) (k : X.K.In s.heap) => PySem.W.mapOf_K (prog := X.prog) (w := X.w) k hl hk
  refine ⟨(mp s1 I1.kIn).typeIs, fun b eb => ?_, ?_⟩
  · cases eb
    exact ⟨_, I1.kIn _ _ hl, rfl⟩
  rw [m.trees]
  refine Calls.callWith_builtin rfl (Calls.evalArgs_plain (Calls.spliced_cons (thn (he.run pins s1 σ H1 _ I1 q1) fun iv s2 ⟨y, H2, I2, ry, z, r, v0, ey, g, rv, q2⟩ => Calls.spliced_nil ?_)))
  subst ey
  obtain ⟨t, rfl⟩ := (show ∃ t, iv = Value.str z t from ry)
  refine call_meetsIn PySem.F.slot_dict_get (mp s2 I2.kIn).typeIs PySem.F.entry_dict_get (PySem.F.args_dict_get_2 _ _) (meets_dict_get (strKind X.prog X.w) a (strKind_is X.prog X.w z t) low) ⟨_, mp s2 I2.kIn, ?_⟩
  rw [PySem.W.find_K hl g]
  exact ⟨v0, H2, I2.tok _, rv, q2⟩
end
end Wk

set_option Elab.async false
set_option linter.all false
set_option maxRecDepth 100000
set_option maxHeartbeats 2000000
/-! What is a house: levels of rows, promises. -/
namespace Wk
open PySem PySem.Spec PyProof.Rows L2 GxR
/-- how many things a part has -/
def szP : Part → Nat
  | .say _ => 2
  | .again _ => 2
  | .oth _ _ _ => 3
def NmOk (n : Str) : Prop := nameB n = true ∧ n.length ≤ 1000
/-- parts and their rests, level by level -/
def flL (ls : List (List Part)) : List Part := ls.flatten
def nxL (ls : List (List Part)) : List (List Part) := (flL ls).map restP
theorem flL_cons (r : List Part) (ls : List (List Part)) : flL (r :: ls) = r ++ flL ls := rfl
theorem sizeR_rests : ∀ r : List Part, sizeR r = r.length + sizeL (r.map restP)
  | [] => rfl
  | p :: r => by
    have h := sizeR_rests r
    have s := size_rest p
    show sizeP p + sizeR r = r.length + 1 + (sizeR (restP p) + sizeL (r.map restP))
    omega
theorem sizeL_rests : ∀ ls : List (List Part), sizeL ls = (flL ls).length + sizeL (nxL ls)
  | [] => rfl
  | r :: ls => by
    have h := sizeL_rests ls
    have h2 := sizeR_rests r
    show sizeR r + sizeL ls = (r ++ flL ls).length + sizeL ((r ++ flL ls).map restP)
    rw [List.length_append, List.map_append, sizeL_app]
    have e : sizeL (nxL ls) = sizeL ((flL ls).map restP) := rfl
    omega
theorem deepR_rests : ∀ r : List Part, deepL (r.map restP) ≤ deepR r - 1
  | [] => Nat.le_refl _
  | p :: r => by
    have h := deepR_rests r
    have d := deep_rest p
    show max (deepR (restP p)) (deepL (r.map restP)) ≤ max (deepP p) (deepR r) - 1
    omega
theorem deepL_rests : ∀ ls : List (List Part), deepL (nxL ls) ≤ deepL ls - 1
  | [] => Nat.le_refl _
  | r :: ls => by
    have h := deepL_rests ls
    have h2 := deepR_rests r
    show deepL ((r ++ flL ls).map restP) ≤ max (deepR r) (deepL ls) - 1
    rw [List.map_append, deepL_app]
    have e : deepL (nxL ls) = deepL ((flL ls).map restP) := rfl
    omega
theorem deep_posP : ∀ p : Part, 1 ≤ deepP p := fun p => by
  have := deep_rest p
  omega
theorem deepL_pos : ∀ ls : List (List Part), flL ls ≠ [] → 1 ≤ deepL ls
  | [], h => absurd rfl h
  | [] :: ls, h => by
    have := deepL_pos ls h
    show 1 ≤ max (deepR []) (deepL ls)
    omega
  | (p :: r) :: ls, h => by
    have := deep_posP p
    show 1 ≤ max (max (deepP p) (deepR r)) (deepL ls)
    omega
def okLs (f : Str → Prop) (ls : List (List Part)) : Prop := ∀ r ∈ ls, okR f r
theorem okLs.parts {f : Str → Prop} {ls : List (List Part)} (h : okLs f ls) : ∀ p ∈ flL ls, okP f p := fun p hp => by
  obtain ⟨r, hr, hp⟩ := List.mem_flatten.mp hp
  exact (h r hr).mem p hp
theorem okLs.next {f : Str → Prop} {ls : List (List Part)} (h : okLs f ls) : okLs f (nxL ls) := fun r hr => by
  obtain ⟨p, hp, rfl⟩ := List.mem_map.mp hr
  exact rest_ok (h.parts p hp)
theorem len_sum : ∀ (ls : List (List Part)) (i : Nat), i ≤ ls.length → preSum (fun j => ((ls[j]?).elim (0 : Int) fun r => (r.length : Nat))) i = ((flL (ls.take i)).length : Nat)
  | ls, 0, _ => by simp [preSum, flL]
  | ls, i + 1, h => by
    have hi : i < ls.length := h
    rw [preSum, len_sum ls i (Nat.le_of_lt hi), List.take_add_one, List.getElem?_eq_getElem hi]
    unfold flL
    rw [List.flatten_append, List.length_append]
    simp
theorem flL_take (ls : List (List Part)) (i : Nat) : (flL (ls.take i)).length ≤ (flL ls).length := by
  have e : flL ls = flL (ls.take i) ++ flL (ls.drop i) := by
    unfold flL
    rw [← List.flatten_append, List.take_append_drop]
  rw [e, List.length_append]
  omega
def spForm : Sp := fun vs H Q _ => ∃ (v : V) (p : Part), vs = [v] ∧ PartAt H p v ∧ Q (.bl true) H
def spNPart (Ts : List Addr) : Sp := fun vs H Q _ => ∃ (v : V) (p : Part), vs = [v] ∧ PartAt H p v ∧ okP NmOk p ∧ TabsG Ts H ∧ ∀ H', SamTs Ts H H' → Q (.bl true) H'
def spSmall (Ts : List Addr) : Sp := fun vs H Q _ => ∃ (v : V) (r : List Part), vs = [v] ∧ RowAt H r v ∧ okR NmOk r ∧ sizeR r ≤ 400 ∧ deepR r ≤ 24 ∧ TabsG Ts H ∧ ∀ H', SamTs Ts H H' → Q (.bl true) H'
/-- a row that is a house -/
structure HouseR (r : List Part) : Prop where
  ok : okR NmOk r
  size : sizeR r ≤ 400
  deep : deepR r ≤ 24
  nd : (bdR r).Nodup
  apart : ∀ x ∈ bdR r, x ∉ frR [] r
def spHouse (Ts : List Addr) (n : Nat) : Sp := fun vs H Q _ => ∃ (v : V) (r : List Part), vs = [v] ∧ RowAt H r v ∧ HouseR r ∧ deepR r < n ∧ TabsG Ts H ∧ ∀ H', SamTs Ts H H' → Q (.bl true) H'
end Wk
namespace Wk
open PySem PySem.Spec PyProof.Rows L2 GxR
theorem FunC.okN {P : Program} {w : World} {K : PySem.W.Frag} {mg : Str → Option Value} {base : Heap} {x qual : Str} {st : Stmt} {f c : Addr} {fd : FuncData} {N ps : List Str} {k : Nat} {sp : Sp} (F : FunC K x qual st f c fd) (S : FnScope N ps (defScope st))
    (len : ∀ vs H Q E, sp vs H Q E → vs.length = ps.length)
    (hb : ∀ (A : Around) (outer : List Env) (s : Shared) (H : Hp) (vs : List V) (Q : VK) (E : XK), Room k (A.deeper (envOfC qual (defScope st) s.heap.objs.size f (.ref c))) → sp vs H Q E →
      ∃ t, PSs (cxOf CX0 P w K mg base N qual (defScope st) f (.ref c) A outer s H E).nox (defBody st) t ∧ t { nx := fun _ H' => Q .non H', rt := Q } (start N vs) H) : FnOk P w K mg base CX0 (k + 1) f fd ps sp :=
  F.ok S len fun A outer s H vs Q E hr h => by
    obtain ⟨t, g, q⟩ := hb A outer s H vs Q E hr h
    exact ⟨t, g.nox, q⟩
end Wk

set_option Elab.async false
set_option linter.all false
set_option maxRecDepth 100000
set_option maxHeartbeats 2000000
/-! Rows freed: what is computed, and what stays true. -/
namespace Wk
open PySem PySem.Spec PyProof.Rows L2 GxR
theorem emp_app (x : Str) : Str.empty ++ x = x := by
  refine Str.ext' (Array.toList_inj.mp ?_)
  rw [app_codes]
  rfl
/-- the private name with base x and number k -/
def priv (x : Str) (k : Nat) : Str := x ++ "." ++ Str.ofString (toString (k : Int))
/-- one part freed, where f frees rows -/
def frdP (f : Nat → List Part → Nat × List Part) (k : Nat) : Part → Nat × List Part
  | .say n => (k, [.say n])
  | .again r => (k, [.again r])
  | .oth w n r => match w with
    | .room => ((f k r).1, [.oth .room n (f k r).2])
    | .new => f (k + 1) (calledR n (priv n k) r)
    | w => (k, [.oth w n r])
def frdL (f : Nat → List Part → Nat × List Part) : Nat → List Part → Nat × List Part
  | k, [] => (k, [])
  | k, p :: r => ((frdL f (frdP f k p).1 r).1, (frdP f k p).2 ++ (frdL f (frdP f k p).1 r).2)
def frdR : Nat → Nat → List Part → Nat × List Part
  | 0, k, r => (k, r)
  | n + 1, k, r => frdL (frdR n) k r
theorem frdL_snoc (f : Nat → List Part → Nat × List Part) : ∀ (r : List Part) (k : Nat) (p : Part), frdL f k (r ++ [p]) = ((frdP f (frdL f k r).1 p).1, (frdL f k r).2 ++ (frdP f (frdL f k r).1 p).2)
  | [], k, p => by
    show ((frdP f k p).1, (frdP f k p).2 ++ []) = ((frdP f k p).1, [] ++ (frdP f k p).2)
    rw [List.append_nil, List.nil_append]
  | q :: r, k, p => by
    show ((frdL f (frdP f k q).1 (r ++ [p])).1, (frdP f k q).2 ++ (frdL f (frdP f k q).1 (r ++ [p])).2) = _
    rw [frdL_snoc f r (frdP f k q).1 p]
    show (_, (frdP f k q).2 ++ (_ ++ _)) = (_, ((frdP f k q).2 ++ _) ++ _)
    rw [List.append_assoc]
    rfl
mutual
/-- no part that is open is a new -/
def nnP : Part → Prop
  | .say _ => True
  | .again _ => True
  | .oth w _ r => w ≠ .new ∧ (w = .room → nnR r)
def nnR : List Part → Prop
  | [] => True
  | p :: r => nnP p ∧ nnR r
end
theorem nnR_app : ∀ {r q : List Part}, nnR r → nnR q → nnR (r ++ q)
  | [], q, _, g => g
  | p :: r, q, h, g => ⟨h.1, nnR_app h.2 g⟩
theorem nnR.mem : ∀ {r : List Part}, nnR r → ∀ p ∈ r, nnP p
  | [], _, p, hp => nomatch hp
  | q :: r, h, p, hp => by
    rcases List.mem_cons.mp hp with e | e
    · rw [e]; exact h.1
    · exact nnR.mem h.2 p e
/-- what is freed is freed -/
theorem frdR_id : ∀ (n k : Nat) (r : List Part), nnR r → frdR n k r = (k, r)
  | 0, k, r, _ => rfl
  | n + 1, k, r, h => by
    show frdL (frdR n) k r = (k, r)
    induction r with
    | nil => rfl
    | cons p r ih =>
      have e : frdP (frdR n) k p = (k, [p]) := by
        cases p with
        | say m => rfl
        | again q => rfl
        | oth w m q =>
          obtain ⟨h1, h2⟩ := h.1
          cases w with
          | room =>
            show ((frdR n k q).1, [Part.oth .room m (frdR n k q).2]) = _
            rw [frdR_id n k q (h2 rfl)]
          | new => exact absurd rfl h1
          | _ => rfl
      show ((frdL (frdR n) (frdP (frdR n) k p).1 r).1, (frdP (frdR n) k p).2 ++ (frdL (frdR n) (frdP (frdR n) k p).1 r).2) = _
      rw [e]
      dsimp only
      rw [ih h.2]
      rfl
/-! ### what stays -/
/-- names short, bound ones shorter and each bound once -/
structure Gd (r : List Part) : Prop where
  ok : okR (Sh 30) r
  sh : ∀ x ∈ bdR r, Sh 6 x
  nd : (bdR r).Nodup
structure FrOk (k : Nat) (r : List Part) (o : Nat × List Part) : Prop where
  lo : k ≤ o.1
  hi : o.1 ≤ k + sizeR r
  deep : deepR o.2 ≤ deepR r
  size : sizeR o.2 ≤ sizeR r
  bd : (bdR o.2).Sublist (bdR r)
  ok : okR (Sh 30) o.2
  nn : nnR o.2
theorem FrOk.gd {k : Nat} {r : List Part} {o : Nat × List Part} (h : FrOk k r o) (g : Gd r) : Gd o.2 := ⟨h.ok, fun x hx => g.sh x (h.bd.subset hx), h.bd.nodup g.nd⟩
theorem priv_sh {x : Str} {k : Nat} (h : Sh 6 x) (hk : k < 10 ^ 10) : Sh 30 (priv x k) := by
  have shd : Sh 1 "." := by unfold Sh; decide +kernel
  have shn : Sh 10 (Str.ofString (toString (k : Int))) := num_sh (by omega) (by omega)
  exact ((h.app shd).app shn).mono (by decide)
theorem Gd.tail {p : Part} {r : List Part} (g : Gd (p :: r)) : Gd r := ⟨g.ok.2, fun x hx => g.sh x (List.mem_append_right _ hx), (List.nodup_append.mp (show (bdP p ++ bdR r).Nodup from g.nd)).2.1⟩
theorem Gd.head {p : Part} {r : List Part} (g : Gd (p :: r)) : Gd [p] := ⟨⟨g.ok.1, trivial⟩, fun x hx => g.sh x (by
    have : bdR [p] = bdP p := List.append_nil _
    rw [this] at hx
    exact List.mem_append_left _ hx), by
    have : bdR [p] = bdP p := List.append_nil _
    rw [this]
    exact (List.nodup_append.mp (show (bdP p ++ bdR r).Nodup from g.nd)).1⟩
theorem Gd.mem : ∀ {r : List Part}, Gd r → ∀ p ∈ r, Gd [p]
  | q :: r, g, p, hp => by
    rcases List.mem_cons.mp hp with e | e
    · rw [e]; exact g.head
    · exact Gd.mem g.tail p e
theorem Gd.rest {p : Part} (g : Gd [p]) : Gd (restP p) := by
  have e : bdR [p] = bdP p := List.append_nil _
  refine ⟨rest_ok g.ok.1, fun x hx => g.sh x (by rw [e]; exact rest_bd hx), ?_⟩
  have h := g.nd
  rw [e, bdP_eq] at h
  exact (List.nodup_append.mp h).2.1
theorem Gd.out {w : Wd} {x : Str} {r : List Part} (g : Gd [.oth w x r]) (hw : w.binds = true) : x ∉ bdR r ∧ Sh 6 x := by
  have e : bdR [.oth w x r] = x :: bdR r := by
    show ((if w.binds then [x] else []) ++ bdR r) ++ [] = _
    rw [if_pos hw, List.append_nil]
    rfl
  have h := g.nd
  have s := g.sh
  rw [e] at h s
  exact ⟨(List.nodup_cons.mp h).1, s x List.mem_cons_self⟩
theorem Gd.called {x c : Str} {r : List Part} (g : Gd r) (hx : x ∉ bdR r) (hc : Sh 30 c) : Gd (calledR x c r) := by
  have e : bdR (calledR x c r) = bdR r := by rw [called_lcR r hx]; exact lc_bdR r hx
  refine ⟨calledR_ok x c hc r g.ok, ?_, ?_⟩
  · rw [e]; exact g.sh
  · rw [e]; exact g.nd
theorem frd_ok : ∀ (n k : Nat) (r : List Part), deepR r ≤ n → Gd r → k + sizeR r < 10 ^ 10 → FrOk k r (frdR n k r)
  | 0, k, r, hd, g, hk => by
    have e : r = [] := by
      cases r with
      | nil => rfl
      | cons p r =>
        have := deep_rest p
        have h2 : max (deepP p) (deepR r) ≤ 0 := hd
        omega
    subst e
    exact ⟨Nat.le_refl _, Nat.le_refl _, Nat.le_refl _, Nat.le_refl _, List.Sublist.refl _, trivial, trivial⟩
  | n + 1, k, r, hd, g, hk => by
    show FrOk k r (frdL (frdR n) k r)
    induction r generalizing k with
    | nil => exact ⟨Nat.le_refl _, Nat.le_refl _, Nat.le_refl _, Nat.le_refl _, List.Sublist.refl _, trivial, trivial⟩
    | cons p r ih =>
      have hd' : max (deepP p) (deepR r) ≤ n + 1 := hd
      have hk' : k + (sizeP p + sizeR r) < 10 ^ 10 := hk
      have g1 := g.head
      have d2 := deep_rest p
      have s2 := size_rest p
      have one : FrOk k [p] (frdP (frdR n) k p) := by
        cases p with
        | say m => exact ⟨Nat.le_refl _, Nat.le_add_right _ _, Nat.le_refl _, Nat.le_refl _, List.Sublist.refl _, g1.ok, trivial, trivial⟩
        | again q => exact ⟨Nat.le_refl _, Nat.le_add_right _ _, Nat.le_refl _, Nat.le_refl _, List.Sublist.refl _, g1.ok, trivial, trivial⟩
        | oth w m q =>
          have v1 : deepR (restP (Part.oth w m q)) = deepR q := rfl
          have v2 : sizeR (restP (Part.oth w m q)) = sizeR q := rfl
          have z1 : sizeR [Part.oth w m q] = sizeR q + 1 := rfl
          have z2 : deepR [Part.oth w m q] = deepR q + 1 := by show max (deepR q + 1) 0 = _; omega
          cases w with
          | room =>
            have f := frd_ok n k q (by omega) g1.rest (by omega)
            refine ⟨f.lo, by have := f.hi; show (frdR n k q).1 ≤ _; omega, ?_, ?_, ?_, ⟨⟨g1.ok.1.1, f.ok⟩, trivial⟩, ⟨⟨(fun e => by cases e), fun _ => f.nn⟩, trivial⟩⟩
            · have := f.deep
              show max (deepR (frdR n k q).2 + 1) 0 ≤ _
              omega
            · have := f.size
              show sizeR (frdR n k q).2 + 1 ≤ _
              omega
            · show (bdR [Part.oth .room m (frdR n k q).2]).Sublist (bdR [Part.oth .room m q])
              have e1 : ∀ t, bdR [Part.oth .room m t] = bdR t := fun t => by
                show ([] ++ bdR t) ++ [] = _
                rw [List.append_nil]; rfl
              rw [e1, e1]
              exact f.bd
          | new =>
            obtain ⟨hx, hs⟩ := g1.out rfl
            have eb : bdR (calledR m (priv m k) q) = bdR q := by rw [called_lcR q hx]; exact lc_bdR q hx
            have f := frd_ok n (k + 1) (calledR m (priv m k) q) (by rw [calledR_deep]; omega) (g1.rest.called hx (priv_sh hs (by omega))) (by rw [calledR_size]; omega)
            have fl := f.lo
            have fh := f.hi
            have fd := f.deep
            have fs := f.size
            rw [calledR_size] at fh fs
            rw [calledR_deep] at fd
            refine ⟨?_, ?_, ?_, ?_, ?_, f.ok, f.nn⟩
            · show k ≤ (frdR n (k + 1) (calledR m (priv m k) q)).1; omega
            · show (frdR n (k + 1) (calledR m (priv m k) q)).1 ≤ _; omega
            · show deepR (frdR n (k + 1) (calledR m (priv m k) q)).2 ≤ _; omega
            · show sizeR (frdR n (k + 1) (calledR m (priv m k) q)).2 ≤ _; omega
            · have b := f.bd
              rw [eb] at b
              show (bdR (frdR n (k + 1) (calledR m (priv m k) q)).2).Sublist ((m :: bdR q) ++ [])
              rw [List.append_nil]
              exact b.cons m
          | inn => exact ⟨Nat.le_refl _, Nat.le_add_right _ _, Nat.le_refl _, Nat.le_refl _, List.Sublist.refl _, g1.ok, ⟨(fun e => by cases e), (fun e => by cases e)⟩, trivial⟩
          | out => exact ⟨Nat.le_refl _, Nat.le_add_right _ _, Nat.le_refl _, Nat.le_refl _, List.Sublist.refl _, g1.ok, ⟨(fun e => by cases e), (fun e => by cases e)⟩, trivial⟩
          | opn => exact ⟨Nat.le_refl _, Nat.le_add_right _ _, Nat.le_refl _, Nat.le_refl _, List.Sublist.refl _, g1.ok, ⟨(fun e => by cases e), (fun e => by cases e)⟩, trivial⟩
          | hear => exact ⟨Nat.le_refl _, Nat.le_add_right _ _, Nat.le_refl _, Nat.le_refl _, List.Sublist.refl _, g1.ok, ⟨(fun e => by cases e), (fun e => by cases e)⟩, trivial⟩
      have o1 := one.lo
      have o2 := one.hi
      have o3 := one.deep
      have o4 := one.size
      have z1 : sizeR [p] = sizeP p := by show sizeP p + 0 = _; omega
      have z2 : deepR [p] = deepP p := by show max (deepP p) 0 = _; omega
      rw [z1] at o2 o4
      rw [z2] at o3
      have tl := ih (frdP (frdR n) k p).1 (by omega) g.tail (by omega)
      have t1 := tl.lo
      have t2 := tl.hi
      have t3 := tl.deep
      have t4 := tl.size
      refine ⟨?_, ?_, ?_, ?_, ?_, okR_app one.ok tl.ok, nnR_app one.nn tl.nn⟩
      · show k ≤ (frdL (frdR n) (frdP (frdR n) k p).1 r).1; omega
      · show (frdL (frdR n) (frdP (frdR n) k p).1 r).1 ≤ k + (sizeP p + sizeR r); omega
      · show deepR ((frdP (frdR n) k p).2 ++ (frdL (frdR n) (frdP (frdR n) k p).1 r).2) ≤ max (deepP p) (deepR r)
        rw [deepR_app]; omega
      · show sizeR ((frdP (frdR n) k p).2 ++ (frdL (frdR n) (frdP (frdR n) k p).1 r).2) ≤ sizeP p + sizeR r
        rw [sizeR_app]; omega
      · show (bdR ((frdP (frdR n) k p).2 ++ (frdL (frdR n) (frdP (frdR n) k p).1 r).2)).Sublist (bdP p ++ bdR r)
        rw [bdR_app]
        have b1 := one.bd
        rw [show bdR [p] = bdP p from List.append_nil _] at b1
        exact b1.append tl.bd
end Wk

set_option Elab.async false
set_option linter.all false
set_option maxRecDepth 100000
set_option maxHeartbeats 2000000
/-! xs.extend(a tuple). -/
namespace Wk
open PySem PySem.Spec PyProof.Rows L2 GxR
theorem ext_tup (l : Addr) (us : Array Value) (n : Nat) (b : Addr) (vs : Array Value) (m : Nat) (dd : Option Addr) (sl : Array (Option Value)) (h0 : ¬(!us.isEmpty && Builtin.List.listTooLong (us.size + vs.size)) = true) (h1 : us.size ≤ sizeLine) (h2 : us.size + vs.size ≤ sizeLine + 1) :
    Meets (Builtin.«list.extend» ⟨[.ref l, .ref b], []⟩) (fun _ R s => s.heap.get? l = some ⟨.type "list", none, .seq us n, #[]⟩ ∧ s.heap.get? b = some ⟨.type "tuple", dd, .seq vs m, sl⟩ ∧ R (.ok (.ret Value.none)) { s with heap := s.heap.update l (Obj.mapSeq fun x => x ++ vs), toks := s.toks }) := by
  refine .of_wp fun prog w A R s h => ?_
  obtain ⟨hp, g, d, tk, os⟩ := s
  obtain ⟨hl, hb, h⟩ := h
  have hz' : (us ++ vs).size ≤ sizeLine + 1 := by rw [Array.size_append]; exact h2
  wp_walk using (wpAny_updateSeq hl rfl (hz := h1) (_hz' := hz')), AutoSeq1.wpAny_loadPart' hl, AutoSeq1.wpAny_loadPart' hb
  exact ⟨_, rfl, h⟩
def rExtT (K : PySem.W.Frag) : V → List V → Hp → VK → Prop := fun x vs H Q => ∃ l b xs zs, x = .ref l ∧ vs = [.ref b] ∧ H l = some (.lst xs) ∧ SqT K H b zs ∧ xs.length + zs.length ≤ sizeLine ∧ Q .non (upd H l (.lst (xs ++ zs)))
theorem mt_extT {X : Cx} : MtM X "list.extend" (rExtT X.K) := by
  intro pins s σ H x vs v us Q I rx rv h
  obtain ⟨l, b, xs, zs, rfl, rfl, hH, hB, hz, q⟩ := h
  cases rx
  obtain ⟨u, rfl, ru⟩ := rv.one
  cases ru
  obtain ⟨z, its, n, r, hl, e⟩ := I.lstM hH
  obtain ⟨its2, r2, ⟨⟨cls, dd, data, sl⟩, e2, hc, m, hd⟩, z2⟩ := I.tuple hB
  simp only at hc hd
  subst hc hd
  have hl2 := r2.length
  have hsz : its.toArray.size + its2.toArray.size ≤ sizeLine := by rw [List.size_toArray, List.size_toArray]; omega
  have hlong : ¬ (!its.toArray.isEmpty && Builtin.List.listTooLong (its.toArray.size + its2.toArray.size)) = true := by
    rw [notLongL hsz]
    simp
  refine call_meets F.slot_list_extend ⟨_, e, rfl⟩ F.entry_list_extend (F.args_list_extend_2 _ _) (ext_tup l its.toArray n b its2.toArray m dd sl hlong (by rw [List.size_toArray]; omega) (by omega)) ⟨e, e2, ?_⟩
  refine ⟨.non, _, I.lset (its' := its ++ its2) hH e (by simp) (r.append r2) (by rw [List.length_append]; omega), rfl, q⟩
end Wk
namespace Wk
open PySem PySem.Spec PyProof.Rows L2 GxR
/-- the told tuple: next, and the row -/
def ToldAt (H : Hp) (o : Nat × List Part) (v : V) : Prop := ∃ (t : Addr) (u : V), v = .ref t ∧ H t = some (.tup [.int o.1, u]) ∧ RowAt H o.2 u
theorem ToldAt.mono {H H' : Hp} {o : Nat × List Part} {v : V} (s : STup H H') (h : ToldAt H o v) : ToldAt H' o v := by
  obtain ⟨t, u, rfl, h1, h2⟩ := h
  exact ⟨t, u, rfl, s _ _ h1, h2.mono s⟩
def spFreed (n : Nat) : Sp := fun vs H Q _ => ∃ (k : Nat) (v : V) (r : List Part), vs = [.int k, v] ∧ RowAt H r v ∧ deepR r < n ∧ sizeR r ≤ 1000 ∧ Gd r ∧ k + sizeR r < 10 ^ 9 ∧
  ∀ (H' : Hp) (u : V), Same H H' → ToldAt H' (frdR n k r) u → Q u H'
def spPFreed (n : Nat) : Sp := fun vs H Q _ => ∃ (k : Nat) (v : V) (p : Part), vs = [.int k, v] ∧ PartAt H p v ∧ deepP p ≤ n ∧ sizeP p ≤ 1000 ∧ Gd [p] ∧ k + sizeP p < 10 ^ 9 ∧
  ∀ (H' : Hp) (u : V), Same H H' → ToldAt H' (frdP (frdR n) k p) u → Q u H'
def spSettled (Ts : List Addr) (n : Nat) : Sp := fun vs H Q _ => ∃ (v : V) (r : List Part), vs = [v] ∧ RowAt H r v ∧ HouseR r ∧ deepR r < n ∧ Gd r ∧ TabsG Ts H ∧
  ∀ (H' : Hp) (u : V), SamTs Ts H H' → ToldAt H' (frdR n 1 r) u → Q u H'
theorem num_log {k : Nat} (h : k < 10 ^ 9) : (k : Int).natAbs.log2 < 1920 := by
  refine Nat.lt_of_lt_of_le (PySem.Flt.log2_lt_of (k := 30) (by decide) ?_) (by decide)
  show (k : Int).natAbs < 1073741824
  omega
theorem frd_lens {n k : Nat} {r : List Part} (hd : deepR r ≤ n) (g : Gd r) (hk : k + sizeR r < 10 ^ 9) (hs : sizeR r ≤ 1000) : (frdR n k r).2.length ≤ 1000 := by
  have := (frd_ok n k r hd g (by omega)).size
  have := len_sizeR (frdR n k r).2
  omega
theorem Gd.take : ∀ {r : List Part} (i : Nat), Gd r → Gd (r.take i)
  | r, i, g => by
    have e : r = r.take i ++ r.drop i := (List.take_append_drop i r).symm
    have eb : bdR r = bdR (r.take i) ++ bdR (r.drop i) := by rw [← bdR_app, ← e]
    have nd := g.nd
    rw [eb] at nd
    refine ⟨?_, fun x hx => g.sh x (by rw [eb]; exact List.mem_append_left _ hx), (List.nodup_append.mp nd).1⟩
    have ok := g.ok
    have un : ∀ {a b : List Part}, okR (Sh 30) (a ++ b) → okR (Sh 30) a := by
      intro a
      induction a with
      | nil => intro b _; exact trivial
      | cons p a ih => intro b h; exact ⟨h.1, ih h.2⟩
    rw [e] at ok
    exact un ok
theorem deepR_take (r : List Part) (i : Nat) : deepR (r.take i) ≤ deepR r := by
  have e := deepR_app (r.take i) (r.drop i)
  rw [List.take_append_drop] at e
  omega
end Wk

set_option Elab.async false
set_option linter.all false
set_option maxRecDepth 100000
set_option maxHeartbeats 2000000
/-! Drawn rows are houses; rests that are open. -/
namespace Wk
open PySem PySem.Spec PyProof.Rows L2 GxR
mutual
theorem fr_scP {ss : List Str} : ∀ (p : Part) (S S' : List Str), scP S' p → (∀ x ∈ S', x ∈ S ∨ x ∈ ss) → ∀ x ∈ frP S p, x ∈ ss
  | .say n, S, S', h, i, x, hx => by
    unfold frP at hx
    by_cases c : n ∈ S
    · rw [if_pos c] at hx; cases hx
    · rw [if_neg c] at hx
      rw [List.mem_singleton.mp hx]
      rcases i n h with g | g
      · exact absurd g c
      · exact g
  | .again r, S, S', h, i, x, hx => fr_scR r S S' h i x hx
  | .oth w n r, S, S', h, i, x, hx => by
    unfold frP at hx
    unfold scP at h
    by_cases b : w.binds = true
    · rw [if_pos b] at hx h
      refine fr_scR r (S ++ [n]) (n :: S') h (fun y hy => ?_) x hx
      rcases List.mem_cons.mp hy with e | e
      · exact .inl (List.mem_append_right _ (by rw [e]; exact List.mem_singleton.mpr rfl))
      · rcases i y e with g | g
        · exact .inl (List.mem_append_left _ g)
        · exact .inr g
    · rw [if_neg b] at hx h
      rcases List.mem_append.mp hx with g | g
      · by_cases c : n ∈ S
        · rw [if_pos c] at g; cases g
        · rw [if_neg c] at g
          rw [List.mem_singleton.mp g]
          rcases i n h.1 with k | k
          · exact absurd k c
          · exact k
      · exact fr_scR r S S' h.2 i x g
theorem fr_scR {ss : List Str} : ∀ (r : List Part) (S S' : List Str), scR S' r → (∀ x ∈ S', x ∈ S ∨ x ∈ ss) → ∀ x ∈ frR S r, x ∈ ss
  | [], S, S', _, _, x, hx => nomatch hx
  | p :: r, S, S', h, i, x, hx => by
    rcases List.mem_append.mp (show x ∈ frP S p ++ frR S r from hx) with g | g
    · exact fr_scP p S S' h.1 i x g
    · exact fr_scR r S S' h.2 i x g
end
theorem names_nd {zs : List Str} {s : Nat} (hn : ∀ i z, zs[i]? = some z → NameOf ((s + 5 * i) % 26) z) (hl : zs.length ≤ 26) : zs.Nodup := by
  rw [List.nodup_iff_pairwise_ne, List.pairwise_iff_getElem]
  intro i j hi hj hij e
  have h1 : zs[i]? = some zs[i] := List.getElem?_eq_getElem hi
  have h2 : zs[j]? = some zs[i] := by rw [List.getElem?_eq_getElem hj, e]
  have := apart hn h1 h2 (by omega) (by omega)
  omega
theorem drawn_house {zs sp' : List Str} {s m : Nat} {r : List Part} (hn : ∀ i z, zs[i]? = some z → NameOf ((s + 5 * i) % 26) z) (hl : zs.length ≤ 26) (hm : m ≤ 4) (hsz : sizeR r ≤ 400)
    (hG : GR m (most m) (zs.take 5) (zs.drop 5) sp' r) : HouseR r ∧ Gd r := by
  have nd := names_nd hn hl
  have e5 : zs = zs.take 5 ++ zs.drop 5 := (List.take_append_drop 5 zs).symm
  have nd2 := nd
  rw [e5] at nd2
  obtain ⟨na, nb, nc⟩ := List.nodup_append.mp nd2
  have hin : okR (fun n => n ∈ zs) r := okR.imp (fun n h => by
    rcases h with g | g
    · exact List.mem_of_mem_take g
    · exact List.mem_of_mem_drop g) r hG.ok
  have nm : ∀ n ∈ zs, ∃ j, j < 26 ∧ NameOf j n := fun n h => by
    obtain ⟨i, hi⟩ := List.getElem?_of_mem h
    exact ⟨_, Nat.mod_lt _ (by decide), hn i n hi⟩
  have bdin : ∀ x ∈ bdR r, x ∈ zs.drop 5 := fun x hx => by
    rw [hG.bd]
    exact List.mem_append_right _ (List.mem_reverse.mpr hx)
  have bnd : (bdR r).Nodup := by
    have h := nb
    rw [hG.bd] at h
    exact (List.reverse_perm (bdR r)).nodup_iff.mp (List.nodup_append.mp h).2.1
  have dp := hG.deep
  refine ⟨⟨okR.imp (fun n h => ?_) r hin, hsz, by omega, bnd, fun x hx hf => ?_⟩, ⟨okR.imp (fun n h => ?_) r hin, fun x hx => ?_, bnd⟩⟩
  · obtain ⟨j, hj, h⟩ := nm n h
    exact ⟨name_ok h hj, by have := (name_len h).1; omega⟩
  · have h1 := fr_scR r [] (zs.take 5) hG.sc (fun y hy => .inr hy) x hf
    exact nc x h1 x (bdin x hx) rfl
  · obtain ⟨j, hj, h⟩ := nm n h
    exact (h.sh hj).mono (by decide)
  · obtain ⟨j, hj, h⟩ := nm x (List.mem_of_mem_drop (bdin x hx))
    exact h.sh hj
/-! ### rests of what is open -/
mutual
def rsP (c : Str) : Part → List (List Part)
  | .say _ => []
  | .again r => [r]
  | .oth w x r => match w with
    | .room => rsR c r
    | .hear => [lcR x c r]
    | _ => [r]
def rsR (c : Str) : List Part → List (List Part)
  | [] => []
  | p :: r => rsP c p ++ rsR c r
end
theorem rsR_app (c : Str) : ∀ r q : List Part, rsR c (r ++ q) = rsR c r ++ rsR c q
  | [], q => rfl
  | p :: r, q => by
    show rsP c p ++ rsR c (r ++ q) = (rsP c p ++ rsR c r) ++ rsR c q
    rw [rsR_app c r q, List.append_assoc]
mutual
theorem rsP_len (c : Str) : ∀ p : Part, (rsP c p).length ≤ sizeP p
  | .say _ => Nat.zero_le _
  | .again r => by show 1 ≤ sizeR r + 1; omega
  | .oth w x r => by
    have h := rsR_len c r
    cases w with
    | room => show (rsR c r).length ≤ sizeR r + 1; omega
    | _ => show 1 ≤ sizeR r + 1; omega
theorem rsR_len (c : Str) : ∀ r : List Part, (rsR c r).length ≤ sizeR r
  | [] => Nat.le_refl _
  | p :: r => by
    have h1 := rsP_len c p
    have h2 := rsR_len c r
    show (rsP c p ++ rsR c r).length ≤ sizeP p + sizeR r
    rw [List.length_append]
    omega
end
structure RsOk (d s : Nat) (q : List Part) : Prop where
  gd : Gd q
  deep : deepR q ≤ d
  size : sizeR q ≤ s
theorem lcR_deepsize {x c : Str} {r : List Part} (h : x ∉ bdR r) : deepR (lcR x c r) = deepR r ∧ sizeR (lcR x c r) = sizeR r := by
  rw [← called_lcR r h]
  exact ⟨calledR_deep x c r, calledR_size x c r⟩
mutual
theorem rsP_ok {c : Str} (hc : Sh 30 c) : ∀ p : Part, Gd [p] → ∀ q ∈ rsP c p, RsOk (deepP p) (sizeP p) q
  | .say _, g, q, hq => nomatch hq
  | .again r, g, q, hq => by
    rw [List.mem_singleton.mp hq]
    exact ⟨g.rest, Nat.le_succ _, Nat.le_succ _⟩
  | .oth w x r, g, q, hq => by
    cases w with
    | room =>
      have h := rsR_ok hc r g.rest q hq
      exact ⟨h.gd, Nat.le_trans h.deep (Nat.le_succ _), Nat.le_trans h.size (Nat.le_succ _)⟩
    | hear =>
      rw [List.mem_singleton.mp (show q ∈ [lcR x c r] from hq)]
      obtain ⟨hx, _⟩ := g.out rfl
      obtain ⟨e1, e2⟩ := lcR_deepsize (c := c) hx
      refine ⟨?_, by rw [e1]; exact Nat.le_succ _, by rw [e2]; exact Nat.le_succ _⟩
      rw [← called_lcR r hx]
      exact g.rest.called hx hc
    | inn =>
      rw [List.mem_singleton.mp (show q ∈ [r] from hq)]
      exact ⟨g.rest, Nat.le_succ _, Nat.le_succ _⟩
    | out =>
      rw [List.mem_singleton.mp (show q ∈ [r] from hq)]
      exact ⟨g.rest, Nat.le_succ _, Nat.le_succ _⟩
    | opn =>
      rw [List.mem_singleton.mp (show q ∈ [r] from hq)]
      exact ⟨g.rest, Nat.le_succ _, Nat.le_succ _⟩
    | new =>
      rw [List.mem_singleton.mp (show q ∈ [r] from hq)]
      exact ⟨g.rest, Nat.le_succ _, Nat.le_succ _⟩
theorem rsR_ok {c : Str} (hc : Sh 30 c) : ∀ r : List Part, Gd r → ∀ q ∈ rsR c r, RsOk (deepR r) (sizeR r) q
  | [], g, q, hq => nomatch hq
  | p :: r, g, q, hq => by
    rcases List.mem_append.mp (show q ∈ rsP c p ++ rsR c r from hq) with h | h
    · have k := rsP_ok hc p g.head q h
      have k1 := k.deep
      have k2 := k.size
      exact ⟨k.gd, (by show deepR q ≤ max (deepP p) (deepR r); omega), (by show sizeR q ≤ sizeP p + sizeR r; omega)⟩
    · have k := rsR_ok hc r g.tail q h
      have k1 := k.deep
      have k2 := k.size
      exact ⟨k.gd, (by show deepR q ≤ max (deepP p) (deepR r); omega), (by show sizeR q ≤ sizeP p + sizeR r; omega)⟩
end
def spRests (n : Nat) : Sp := fun vs H Q _ => ∃ (v : V) (c : Str) (r : List Part), vs = [v, .str c] ∧ RowAt H r v ∧ deepR r < n ∧ sizeR r ≤ 1000 ∧
  ∀ (H' : Hp) (p : Addr) (us : List V), Same H H' → H p = none → H' p = some (.lst us) → LvAt H' (rsR c r) us → Q (.ref p) H'
/-! ### told tuples compared -/
theorem told_shaped {k : Int} {r : List Part} (h : okR (Sh 30) r) (hd : deepR r ≤ 30) : SeqAt.shaped (.tuple [.int k, .tuple (dR r)]) = true := by
  unfold SeqAt.shaped
  have h1 := depR r
  have h2 := layR (f := Sh 30) (fun n h => h.ok) r h
  simp only [PyData.canLay0, PyData.canLayAll0, h2, PyData.depth, PyData.depthAll, Bool.true_and, Bool.and_self]
  exact decide_eq_true (by omega)
theorem told_eqv {k : Int} {r : List Part} (h : okR (Sh 30) r) : PyData.eqv (.tuple [.int k, .tuple (dR r)]) (.tuple [.int k, .tuple (dR r)]) = true :=
  SeqAt.eqv_refl _ (by
    have h2 := layR (f := Sh 30) (fun n h => h.ok) r h
    simp only [PyData.canLay0, PyData.canLayAll0, h2, Bool.and_self])
theorem ToldAt.dp {K : PySem.W.Frag} {H : Hp} {o : Nat × List Part} {v : V} (h : ToldAt H o v) : Dp K H v (.tuple [.int o.1, .tuple (dR o.2)]) := by
  obtain ⟨t, u, rfl, h1, h2⟩ := h
  exact .tup (SqT.of h1) (.cons (.int _) (.cons h2.dp .nil))
end Wk

set_option Elab.async false
set_option linter.all false
set_option maxRecDepth 100000
set_option maxHeartbeats 4000000
/-! Things of any kind, and which of them are small rows. -/
namespace Wk
open PySem PySem.Spec PyProof.Rows L2 GxR
inductive Th where
  | str (z : Str)
  | non
  | int (i : Int)
  | bl (b : Bool)
  | lst (xs : List Th)
  | tup (xs : List Th)
  | dct
mutual
def ThAt (H : Hp) : Th → V → Prop
  | .str z, v => v = .str z
  | .non, v => v = .non
  | .int i, v => v = .int i
  | .bl b, v => v = .bl b
  | .lst xs, v => ∃ a vs, v = .ref a ∧ H a = some (.lst vs) ∧ ThsAt H xs vs
  | .tup xs, v => ∃ a vs, v = .ref a ∧ H a = some (.tup vs) ∧ ThsAt H xs vs
  | .dct, v => ∃ a, v = .ref a ∧ H a = some (.dK [])
def ThsAt (H : Hp) : List Th → List V → Prop
  | [], vs => vs = []
  | t :: ts, vs => ∃ v us, vs = v :: us ∧ ThAt H t v ∧ ThsAt H ts us
end
/-- all but tables stays -/
def Kpt (H H' : Hp) : Prop := ∀ a o, (∀ ps, o ≠ HO.tbl ps) → H a = some o → H' a = some o
theorem Kpt.refl (H : Hp) : Kpt H H := fun _ _ _ e => e
theorem Kpt.trans {H H1 H2 : Hp} (a : Kpt H H1) (b : Kpt H1 H2) : Kpt H H2 := fun c o n e => b c o n (a c o n e)
theorem Kpt.of {Ts : List Addr} {H H' : Hp} (t : TabsG Ts H) (s : SamTs Ts H H') : Kpt H H' := fun a o n e => s.1 a o (fun m => by
  obtain ⟨ps, q, _⟩ := t a m
  rw [q] at e
  exact n ps (Option.some.inj e).symm) e
theorem Kpt.same {H H' : Hp} (s : Same H H') : Kpt H H' := fun a o _ e => s a o e
mutual
theorem ThAt.mono {H H' : Hp} (s : Kpt H H') : ∀ (t : Th) (v : V), ThAt H t v → ThAt H' t v
  | .str z, v, h => h
  | .non, v, h => h
  | .int i, v, h => h
  | .bl b, v, h => h
  | .lst xs, v, h => by
    obtain ⟨a, vs, e, h1, h2⟩ := h
    exact ⟨a, vs, e, s _ _ (fun _ z => by cases z) h1, ThsAt.mono s xs vs h2⟩
  | .tup xs, v, h => by
    obtain ⟨a, vs, e, h1, h2⟩ := h
    exact ⟨a, vs, e, s _ _ (fun _ z => by cases z) h1, ThsAt.mono s xs vs h2⟩
  | .dct, v, h => by
    obtain ⟨a, e, h1⟩ := h
    exact ⟨a, e, s _ _ (fun _ z => by cases z) h1⟩
theorem ThsAt.mono {H H' : Hp} (s : Kpt H H') : ∀ (ts : List Th) (vs : List V), ThsAt H ts vs → ThsAt H' ts vs
  | [], vs, h => h
  | t :: ts, vs, h => by
    obtain ⟨v, us, e, h1, h2⟩ := h
    exact ⟨v, us, e, ThAt.mono s t v h1, ThsAt.mono s ts us h2⟩
end
theorem ThsAt.len {H : Hp} : ∀ {ts : List Th} {vs : List V}, ThsAt H ts vs → vs.length = ts.length
  | [], vs, h => by rw [show vs = [] from h]; rfl
  | t :: ts, vs, h => by
    obtain ⟨v, us, e, _, h2⟩ := h
    rw [e, List.length_cons, List.length_cons, ThsAt.len h2]
theorem ThsAt.get {H : Hp} : ∀ {ts : List Th} {vs : List V}, ThsAt H ts vs → ∀ {i : Nat} {v : V}, vs[i]? = some v → ∃ t, ts[i]? = some t ∧ ThAt H t v
  | [], vs, h, i, v, e => by rw [show vs = [] from h] at e; simp at e
  | t :: ts, vs, h, 0, v, e => by
    obtain ⟨u, us, rfl, h1, _⟩ := h
    exact ⟨t, rfl, by rw [← Option.some.inj (show some u = some v from e)]; exact h1⟩
  | t :: ts, vs, h, i + 1, v, e => by
    obtain ⟨u, us, rfl, _, h2⟩ := h
    exact ThsAt.get h2 (i := i) (v := v) e
theorem ThsAt.app {H : Hp} {qs : List Th} {us : List V} (g : ThsAt H qs us) : ∀ {ts : List Th} {vs : List V}, ThsAt H ts vs → ThsAt H (ts ++ qs) (vs ++ us)
  | [], vs, h => by rw [show vs = [] from h]; exact g
  | t :: ts, vs, h => by
    obtain ⟨v, ws, rfl, h1, h2⟩ := h
    exact ⟨v, ws ++ us, rfl, h1, ThsAt.app g h2⟩
theorem ThsAt.one {H : Hp} {t : Th} {v : V} (h : ThAt H t v) : ThsAt H [t] [v] := ⟨v, [], rfl, h, rfl⟩
/-! ### rows as things -/
mutual
def thP : Part → Th
  | .say n => .tup [.str "say", .str n]
  | .again r => .tup [.str "again", .tup (thR r)]
  | .oth w n r => .tup [.str w.str, .str n, .tup (thR r)]
def thR : List Part → List Th
  | [] => []
  | p :: r => thP p :: thR r
end
def thRow (r : List Part) : Th := .tup (thR r)
theorem thR_map : ∀ r : List Part, thR r = r.map thP
  | [] => rfl
  | p :: r => by
    show thP p :: thR r = thP p :: r.map thP
    rw [thR_map r]
mutual
theorem thP_at {H : Hp} : ∀ (p : Part) (v : V), ThAt H (thP p) v → PartAt H p v
  | .say n, v, h => by
    obtain ⟨a, vs, e, h1, u1, w1, e1, h2, u2, w2, e2, h3, h4⟩ := h
    have z1 : u1 = .str "say" := h2
    have z2 : u2 = .str n := h3
    have z3 : w2 = [] := h4
    subst z1 z2 z3 e2 e1
    exact ⟨a, e, h1⟩
  | .again r, v, h => by
    obtain ⟨a, vs, e, h1, u1, w1, e1, h2, u2, w2, e2, ⟨b, xs, eb, hb, hx⟩, h4⟩ := h
    have z1 : u1 = .str "again" := h2
    have z3 : w2 = [] := h4
    subst z1 z3 eb e2 e1
    exact ⟨a, b, xs, e, h1, hb, thR_at r xs hx⟩
  | .oth w n r, v, h => by
    obtain ⟨a, vs, e, h1, u1, w1, e1, h2, u2, w2, e2, h3, u3, w3, e3, ⟨b, xs, eb, hb, hx⟩, h4⟩ := h
    have z1 : u1 = .str w.str := h2
    have z2 : u2 = .str n := h3
    have z3 : w3 = [] := h4
    subst z1 z2 z3 eb e3 e2 e1
    exact ⟨a, b, xs, e, h1, hb, thR_at r xs hx⟩
theorem thR_at {H : Hp} : ∀ (r : List Part) (vs : List V), ThsAt H (thR r) vs → PartsAt H r vs
  | [], vs, h => h
  | p :: r, vs, h => by
    obtain ⟨v, us, e, h1, h2⟩ := h
    exact ⟨v, us, e, thP_at p v h1, thR_at r us h2⟩
end
theorem thRow_at {H : Hp} {r : List Part} {v : V} (h : ThAt H (thRow r) v) : RowAt H r v := by
  obtain ⟨a, vs, e, h1, h2⟩ := h
  exact ⟨a, vs, e, h1, thR_at r vs h2⟩
mutual
theorem at_thP {H : Hp} : ∀ (p : Part) (v : V), PartAt H p v → ThAt H (thP p) v
  | .say n, v, h => by
    obtain ⟨a, e, h1⟩ := h
    exact ⟨a, _, e, h1, _, _, rfl, rfl, _, _, rfl, rfl, rfl⟩
  | .again r, v, h => by
    obtain ⟨a, b, xs, e, h1, h2, h3⟩ := h
    exact ⟨a, _, e, h1, _, _, rfl, rfl, _, _, rfl, ⟨b, xs, rfl, h2, at_thR r xs h3⟩, rfl⟩
  | .oth w n r, v, h => by
    obtain ⟨a, b, xs, e, h1, h2, h3⟩ := h
    exact ⟨a, _, e, h1, _, _, rfl, rfl, _, _, rfl, rfl, _, _, rfl, ⟨b, xs, rfl, h2, at_thR r xs h3⟩, rfl⟩
theorem at_thR {H : Hp} : ∀ (r : List Part) (vs : List V), PartsAt H r vs → ThsAt H (thR r) vs
  | [], vs, h => h
  | p :: r, vs, h => by
    obtain ⟨v, us, e, h1, h2⟩ := h
    exact ⟨v, us, e, at_thP p v h1, at_thR r us h2⟩
end
theorem at_thRow {H : Hp} {r : List Part} {v : V} (h : RowAt H r v) : ThAt H (thRow r) v := by
  obtain ⟨a, vs, e, h1, h2⟩ := h
  exact ⟨a, vs, e, h1, at_thR r vs h2⟩
/-! ### forms -/
def szOf (z : Str) : Option Nat :=
  if z = "room" then some 3 else if z = "in" then some 3 else if z = "out" then some 3 else if z = "open" then some 3 else if z = "say" then some 2 else if z = "hear" then some 3 else if z = "new" then some 3 else if z = "again" then some 2 else none
def isTup : Th → Bool
  | .tup _ => true
  | _ => false
def itemsT : Th → List Th
  | .tup xs => xs
  | _ => []
def formB : Th → Bool
  | .tup (.str z :: r) => decide (szOf z = some (r.length + 1))
  | _ => false
def nmT : Th → Bool
  | .str z => nameB z
  | _ => false
def npB : Th → Bool
  | .tup (.str z :: x :: r) => decide (szOf z = some (r.length + 2)) && (decide (z = "again") || nmT x)
  | _ => false
def restT : Th → Th
  | .tup (.str z :: r) => if z = "say" then .tup [] else (r.getLast?).getD .non
  | _ => .non
theorem sz_cases {z : Str} {n : Nat} (h : szOf z = some n) : (z = "say" ∧ n = 2) ∨ (z = "again" ∧ n = 2) ∨ ∃ w : Wd, z = w.str ∧ n = 3 := by
  unfold szOf at h
  by_cases c1 : z = "room"
  · rw [if_pos c1] at h; exact .inr (.inr ⟨.room, c1, (Option.some.inj h).symm⟩)
  rw [if_neg c1] at h
  by_cases c2 : z = "in"
  · rw [if_pos c2] at h; exact .inr (.inr ⟨.inn, c2, (Option.some.inj h).symm⟩)
  rw [if_neg c2] at h
  by_cases c3 : z = "out"
  · rw [if_pos c3] at h; exact .inr (.inr ⟨.out, c3, (Option.some.inj h).symm⟩)
  rw [if_neg c3] at h
  by_cases c4 : z = "open"
  · rw [if_pos c4] at h; exact .inr (.inr ⟨.opn, c4, (Option.some.inj h).symm⟩)
  rw [if_neg c4] at h
  by_cases c5 : z = "say"
  · rw [if_pos c5] at h; exact .inl ⟨c5, (Option.some.inj h).symm⟩
  rw [if_neg c5] at h
  by_cases c6 : z = "hear"
  · rw [if_pos c6] at h; exact .inr (.inr ⟨.hear, c6, (Option.some.inj h).symm⟩)
  rw [if_neg c6] at h
  by_cases c7 : z = "new"
  · rw [if_pos c7] at h; exact .inr (.inr ⟨.new, c7, (Option.some.inj h).symm⟩)
  rw [if_neg c7] at h
  by_cases c8 : z = "again"
  · rw [if_pos c8] at h; exact .inr (.inl ⟨c8, (Option.some.inj h).symm⟩)
  rw [if_neg c8] at h
  cases h
theorem wd_ne_again (w : Wd) : w.str ≠ "again" := by cases w <;> decide +kernel
theorem wd_ne_say (w : Wd) : w.str ≠ "say" := by cases w <;> decide +kernel
/-- a thing that is a part but for its rest -/
theorem np_cases {t : Th} (h : npB t = true) : (∃ n, t = .tup [.str "say", .str n] ∧ nameB n = true) ∨ (∃ x, t = .tup [.str "again", x]) ∨ ∃ (w : Wd) (n : Str) (x : Th), t = .tup [.str w.str, .str n, x] ∧ nameB n = true := by
  match t, h with
  | .tup (.str z :: x :: r), h =>
    obtain ⟨h1, h2⟩ := Bool.and_eq_true_iff.mp (show (decide (szOf z = some (r.length + 2)) && (decide (z = "again") || nmT x)) = true from h)
    have h1 := of_decide_eq_true h1
    have nm : z ≠ "again" → ∃ n, x = .str n ∧ nameB n = true := fun ne => by
      rw [decide_eq_false ne, Bool.false_or] at h2
      cases x with
      | str n => exact ⟨n, rfl, h2⟩
      | _ => cases h2
    rcases sz_cases h1 with ⟨e, l⟩ | ⟨e, l⟩ | ⟨w, e, l⟩
    · have lr : r = [] := List.length_eq_zero_iff.mp (by omega)
      obtain ⟨n, e2, hn⟩ := nm (by rw [e]; decide +kernel)
      subst e lr e2
      exact .inl ⟨n, rfl, hn⟩
    · have lr : r = [] := List.length_eq_zero_iff.mp (by omega)
      subst e lr
      exact .inr (.inl ⟨x, rfl⟩)
    · obtain ⟨y, rfl⟩ := List.length_eq_one_iff.mp (show r.length = 1 by omega)
      obtain ⟨n, e2, hn⟩ := nm (by rw [e]; exact wd_ne_again w)
      subst e e2
      exact .inr (.inr ⟨w, n, y, rfl, hn⟩)
theorem np_part {p : Part} (h : okP NmOk p) : npB (thP p) = true := by
  cases p with
  | say n =>
    have h1 : nameB n = true := h.1
    show (decide (szOf "say" = some 2) && (decide (("say" : Str) = "again") || nameB n)) = true
    rw [h1]
    decide +kernel
  | again r =>
    show (decide (szOf "again" = some 2) && (decide (("again" : Str) = "again") || nmT (Th.tup (thR r)))) = true
    rw [decide_eq_true (rfl : ("again" : Str) = "again"), Bool.true_or]
    decide +kernel
  | oth w n r =>
    have h1 : nameB n = true := h.1.1
    show (decide (szOf w.str = some 3) && (decide (w.str = "again") || nameB n)) = true
    rw [h1, Bool.or_true, Bool.and_true]
    cases w <;> decide +kernel
theorem rest_part (p : Part) : restT (thP p) = thRow (restP p) := by
  cases p with
  | say n => rfl
  | again r =>
    show (if ("again" : Str) = "say" then Th.tup [] else _) = _
    rw [if_neg (by decide +kernel)]
    rfl
  | oth w n r =>
    show (if w.str = "say" then Th.tup [] else _) = _
    rw [if_neg (wd_ne_say w)]
    rfl
/-! ### small rows -/
def smallT : Nat → Nat → List Th → Bool
  | 0, _, _ => false
  | n + 1, m, ts => if ts.all isTup = true then (if m + (ts.map itemsT).flatten.length ≤ 400 then (if (ts.map itemsT).flatten = [] then true else if (ts.map itemsT).flatten.all npB = true then smallT n (m + (ts.map itemsT).flatten.length) ((ts.map itemsT).flatten.map restT) else false) else false) else false
theorem flat_rows (ls : List (List Part)) : ((ls.map thRow).map itemsT).flatten = (flL ls).map thP := by
  induction ls with
  | nil => rfl
  | cons r ls ih =>
    show itemsT (thRow r) ++ ((ls.map thRow).map itemsT).flatten = (r ++ flL ls).map thP
    rw [ih, List.map_append]
    show thR r ++ _ = _
    rw [thR_map]
theorem all_tup (ls : List (List Part)) : (ls.map thRow).all isTup = true := by
  rw [List.all_map]
  exact List.all_eq_true.mpr fun _ _ => rfl
theorem rests_rows (ls : List (List Part)) : ((flL ls).map thP).map restT = (nxL ls).map thRow := by
  unfold nxL
  rw [List.map_map, List.map_map]
  exact List.map_congr_left fun p _ => rest_part p
/-- rows of parts are small where they are not too large -/
theorem small_of : ∀ (n m : Nat) (ls : List (List Part)), okLs NmOk ls → m + sizeL ls ≤ 400 → deepL ls < n → smallT n m (ls.map thRow) = true
  | 0, m, ls, _, _, h => absurd h (Nat.not_lt_zero _)
  | n + 1, m, ls, hok, hs, hd => by
    have sz := sizeL_rests ls
    have dl := deepL_rests ls
    unfold smallT
    rw [if_pos (all_tup ls), flat_rows, List.length_map, if_pos (by omega)]
    by_cases e : (flL ls).map thP = []
    · rw [if_pos e]
    · rw [if_neg e]
      have e2 : flL ls ≠ [] := fun z => e (by rw [z]; rfl)
      have dp := deepL_pos ls e2
      rw [if_pos (by
        rw [List.all_map]
        exact List.all_eq_true.mpr fun p hp => np_part (hok.parts p hp)), rests_rows]
      exact small_of n _ (nxL ls) hok.next (by omega) (by omega)
theorem tups_of : ∀ ts : List Th, ts.all isTup = true → ∃ xs : List (List Th), ts = xs.map Th.tup
  | [], _ => ⟨[], rfl⟩
  | t :: ts, h => by
    obtain ⟨h1, h2⟩ := Bool.and_eq_true_iff.mp (show (isTup t && ts.all isTup) = true from h)
    obtain ⟨xs, e⟩ := tups_of ts h2
    cases t with
    | tup ys => exact ⟨ys :: xs, by rw [e]; rfl⟩
    | _ => cases h1
/-- parts whose rests are rows -/
theorem parts_of : ∀ (ts : List Th) (ls : List (List Part)), ts.all npB = true → (∀ t ∈ ts, ∀ (z : Str) (r : List Th), t = Th.tup r → Th.str z ∈ r → z.length ≤ 1000) → ts.map restT = ls.map thRow → (∀ r ∈ ls, okR NmOk r) → ∃ ps : List Part, ts = ps.map thP ∧ ps.map restP = ls ∧ ∀ p ∈ ps, okP NmOk p
  | [], ls, _, _, e, _ => ⟨[], rfl, (by
      cases ls with
      | nil => rfl
      | cons a l => cases e), fun _ h => nomatch h⟩
  | t :: ts, [], _, _, e, _ => by cases e
  | t :: ts, l :: ls, h, hz, e, hok => by
    obtain ⟨h1, h2⟩ := Bool.and_eq_true_iff.mp (show (npB t && ts.all npB) = true from h)
    have e' : restT t :: ts.map restT = thRow l :: ls.map thRow := e
    obtain ⟨e1, e2⟩ := List.cons.inj e'
    obtain ⟨ps, p1, p2, p3⟩ := parts_of ts ls h2 (fun t ht => hz t (List.mem_cons_of_mem _ ht)) e2 (fun r hr => hok r (List.mem_cons_of_mem _ hr))
    have okl := hok l List.mem_cons_self
    obtain ⟨p, q1, q2, q3⟩ : ∃ p : Part, t = thP p ∧ restP p = l ∧ okP NmOk p := by
      rcases np_cases h1 with ⟨n, rfl, hn⟩ | ⟨y, rfl⟩ | ⟨w, n, y, rfl, hn⟩
      · have el : l = [] := by
          have q : Th.tup [] = thRow l := e1
          cases l with
          | nil => rfl
          | cons a b => cases (Th.tup.inj q)
        exact ⟨.say n, rfl, el.symm, hn, hz _ List.mem_cons_self n _ rfl (List.mem_cons_of_mem _ List.mem_cons_self)⟩
      · have q : restT (Th.tup [.str "again", y]) = y := by
          show (if ("again" : Str) = "say" then Th.tup [] else _) = _
          rw [if_neg (by decide +kernel)]
          rfl
        rw [q] at e1
        exact ⟨.again l, by rw [e1]; rfl, rfl, okl⟩
      · have q : restT (Th.tup [.str w.str, .str n, y]) = y := by
          show (if w.str = "say" then Th.tup [] else _) = _
          rw [if_neg (wd_ne_say w)]
          rfl
        rw [q] at e1
        exact ⟨.oth w n l, by rw [e1]; rfl, rfl, ⟨hn, hz _ List.mem_cons_self n _ rfl (List.mem_cons_of_mem _ List.mem_cons_self)⟩, okl⟩
    exact ⟨p :: ps, by rw [q1, p1]; rfl, by rw [List.map_cons, q2, p2], fun r hr => by
      rcases List.mem_cons.mp hr with z | z
      · rw [z]; exact q3
      · exact p3 r z⟩
/-! texts and rows within are not too long -/
mutual
def okT : Th → Prop
  | .str z => z.length ≤ 1000
  | .lst xs => xs.length ≤ 1000 ∧ okTs xs
  | .tup xs => xs.length ≤ 1000 ∧ okTs xs
  | _ => True
def okTs : List Th → Prop
  | [] => True
  | t :: ts => okT t ∧ okTs ts
end
theorem okTs.mem : ∀ {ts : List Th}, okTs ts → ∀ t ∈ ts, okT t
  | [], _, t, h => nomatch h
  | q :: ts, g, t, h => by
    rcases List.mem_cons.mp h with e | e
    · rw [e]; exact g.1
    · exact okTs.mem g.2 t e
theorem okTs.of : ∀ {ts : List Th}, (∀ t ∈ ts, okT t) → okTs ts
  | [], _ => trivial
  | q :: ts, h => ⟨h q List.mem_cons_self, okTs.of fun t ht => h t (List.mem_cons_of_mem _ ht)⟩
theorem okT.items {t : Th} (h : okT t) : (itemsT t).length ≤ 1000 ∧ ∀ q ∈ itemsT t, okT q := by
  cases t with
  | tup xs => exact ⟨h.1, h.2.mem⟩
  | _ => exact ⟨Nat.zero_le _, fun q hq => nomatch hq⟩
theorem okT.rest {t : Th} (h : okT t) : okT (restT t) := by
  match t, h with
  | .tup (.str z :: r), h =>
    show okT (if z = "say" then Th.tup [] else (r.getLast?).getD .non)
    by_cases c : z = "say"
    · rw [if_pos c]; exact ⟨Nat.zero_le _, trivial⟩
    · rw [if_neg c]
      cases e : r.getLast? with
      | none => trivial
      | some x => exact h.2.2.mem x (List.mem_of_getLast? e)
  | .tup [], h => trivial
  | .tup (.non :: r), h => trivial
  | .tup (.int _ :: r), h => trivial
  | .tup (.bl _ :: r), h => trivial
  | .tup (.lst _ :: r), h => trivial
  | .tup (.tup _ :: r), h => trivial
  | .tup (.dct :: r), h => trivial
  | .str _, h => trivial
  | .non, h => trivial
  | .int _, h => trivial
  | .bl _, h => trivial
  | .lst _, h => trivial
  | .dct, h => trivial
theorem split_flat : ∀ (xs : List (List Th)) (ps : List Part), xs.flatten = ps.map thP → ∃ ls : List (List Part), xs = ls.map (List.map thP) ∧ flL ls = ps
  | [], ps, e => ⟨[], rfl, by
      cases ps with
      | nil => rfl
      | cons a b => cases e⟩
  | x :: xs, ps, e => by
    have e' : ps.map thP = x ++ xs.flatten := e.symm
    obtain ⟨a, b, e1, e2, e3⟩ := List.map_eq_append_iff.mp e'
    obtain ⟨ls, l1, l2⟩ := split_flat xs b e3.symm
    exact ⟨a :: ls, by rw [List.map_cons, e2, l1], by rw [flL_cons, l2, e1]⟩
theorem deepR_up : ∀ r : List Part, deepR r ≤ deepL (r.map restP) + 1
  | [] => Nat.zero_le _
  | p :: r => by
    have h := deepR_up r
    have d := deep_rest p
    show max (deepP p) (deepR r) ≤ max (deepR (restP p)) (deepL (r.map restP)) + 1
    omega
theorem deepL_up : ∀ ls : List (List Part), deepL ls ≤ deepL (nxL ls) + 1
  | [] => Nat.zero_le _
  | r :: ls => by
    have h := deepL_up ls
    have h2 := deepR_up r
    show max (deepR r) (deepL ls) ≤ deepL ((r ++ flL ls).map restP) + 1
    rw [List.map_append, deepL_app]
    have e : deepL (nxL ls) = deepL ((flL ls).map restP) := rfl
    omega
/-- what is small is rows of parts -/
theorem rows_of : ∀ (n m : Nat) (ts : List Th), (∀ t ∈ ts, okT t) → smallT n m ts = true → ∃ ls : List (List Part), ts = ls.map thRow ∧ okLs NmOk ls ∧ m + sizeL ls ≤ 400 ∧ deepL ls < n
  | 0, m, ts, _, h => by cases h
  | n + 1, m, ts, ok, h => by
    unfold smallT at h
    by_cases c1 : ts.all isTup = true
    · rw [if_pos c1] at h
      obtain ⟨xs, rfl⟩ := tups_of ts c1
      have ei : ((xs.map Th.tup).map itemsT).flatten = xs.flatten := by
        rw [List.map_map, show itemsT ∘ Th.tup = id from rfl, List.map_id]
      rw [ei] at h
      by_cases c2 : m + xs.flatten.length ≤ 400
      · rw [if_pos c2] at h
        by_cases c3 : xs.flatten = []
        · have all0 : ∀ x ∈ xs, x = [] := List.flatten_eq_nil_iff.mp c3
          refine ⟨xs.map fun _ => [], ?_, fun r hr => ?_, ?_, ?_⟩
          · rw [List.map_map]
            exact List.map_congr_left fun x hx => by rw [all0 x hx]; rfl
          · obtain ⟨_, _, rfl⟩ := List.mem_map.mp hr
            trivial
          · have z : ∀ ys : List (List Th), sizeL (ys.map fun _ => ([] : List Part)) = 0 := by
              intro ys
              induction ys with
              | nil => rfl
              | cons y ys ih => show 0 + sizeL (ys.map fun _ => ([] : List Part)) = 0; omega
            rw [z]; omega
          · have z : ∀ ys : List (List Th), deepL (ys.map fun _ => ([] : List Part)) = 0 := by
              intro ys
              induction ys with
              | nil => rfl
              | cons y ys ih => show max 0 (deepL (ys.map fun _ => ([] : List Part))) = 0; omega
            rw [z]; omega
        · rw [if_neg c3] at h
          by_cases c4 : xs.flatten.all npB = true
          · rw [if_pos c4] at h
            have okp : ∀ t ∈ xs.flatten, okT t := fun t ht => by
              obtain ⟨x, hx, hx2⟩ := List.mem_flatten.mp ht
              exact (ok (.tup x) (List.mem_map.mpr ⟨x, hx, rfl⟩)).2.mem t hx2
            obtain ⟨ls', e', hok', hs', hd'⟩ := rows_of n _ _ (fun t ht => by
              obtain ⟨q, hq, rfl⟩ := List.mem_map.mp ht
              exact (okp q hq).rest) h
            obtain ⟨ps, p1, p2, p3⟩ := parts_of xs.flatten ls' c4 (fun t ht z r er hz => by
              have o := okp t ht
              rw [er] at o
              exact o.2.mem _ hz) e' hok'
            obtain ⟨ls, l1, l2⟩ := split_flat xs ps p1
            have enx : nxL ls = ls' := by unfold nxL; rw [l2, p2]
            have sz := sizeL_rests ls
            have du := deepL_up ls
            rw [enx] at sz du
            have el : (flL ls).length = xs.flatten.length := by rw [l2, p1, List.length_map]
            refine ⟨ls, ?_, fun r hr => ?_, by omega, by omega⟩
            · rw [l1, List.map_map]
              exact List.map_congr_left fun r _ => by
                show Th.tup (r.map thP) = Th.tup (thR r)
                rw [thR_map]
            · have sub : ∀ p ∈ r, p ∈ ps := fun p hp => by
                rw [← l2]
                exact List.mem_flatten.mpr ⟨r, hr, hp⟩
              have mk : ∀ q : List Part, (∀ p ∈ q, okP NmOk p) → okR NmOk q := by
                intro q
                induction q with
                | nil => intro _; trivial
                | cons p q ih => intro hh; exact ⟨hh p List.mem_cons_self, ih fun y hy => hh y (List.mem_cons_of_mem _ hy)⟩
              exact mk r fun p hp => p3 p (sub p hp)
          · rw [if_neg c4] at h; cases h
      · rw [if_neg c2] at h; cases h
    · rw [if_neg c1] at h; cases h
/-- a thing is a small row -/
theorem small_iff {t : Th} (ok : okT t) : smallT 25 0 [t] = true ↔ ∃ r : List Part, t = thRow r ∧ okR NmOk r ∧ sizeR r ≤ 400 ∧ deepR r ≤ 24 := by
  constructor
  · intro h
    obtain ⟨ls, e, hok, hs, hd⟩ := rows_of 25 0 [t] (fun q hq => by rw [List.mem_singleton.mp hq]; exact ok) h
    match ls, e, hok, hs, hd with
    | [r], e, hok, hs, hd =>
      have hs' : 0 + (sizeR r + 0) ≤ 400 := hs
      have hd' : max (deepR r) 0 < 25 := hd
      exact ⟨r, (List.cons.inj e).1, hok r List.mem_cons_self, by omega, by omega⟩
    | [], e, _, _, _ => cases e
    | _ :: _ :: _, e, _, _, _ => cases (List.cons.inj e).2
  · rintro ⟨r, rfl, hok, hs, hd⟩
    exact small_of 25 0 [r] (fun q hq => by rw [List.mem_singleton.mp hq]; exact hok) (by show 0 + (sizeR r + 0) ≤ 400; omega) (by show max (deepR r) 0 < 25; omega)
end Wk

set_option Elab.async false
set_option linter.all false
set_option maxRecDepth 100000
set_option maxHeartbeats 4000000
/-! Things of any kind: their types, promises. -/
namespace Wk
open PySem PySem.Spec PyProof.Rows L2 GxR
def isStrT : Th → Bool
  | .str _ => true
  | _ => false
theorem ThAt.tyT {K : PySem.W.Frag} {H : Hp} {t : Th} {v : V} (h : ThAt H t v) : ∃ ty : String, TyX K H v (.type ty) ∧ PySem.W.kitOne K (.type ty) (.type "tuple") = some (isTup t) ∧ PySem.W.kitOne K (.type ty) (.type "str") = some (isStrT t) := by
  cases t with
  | str z => cases h; exact ⟨_, .base (.str z), kit_ty (show kitB "str" "tuple" = some false by decide +kernel), kit_ty (show kitB "str" "str" = some true by decide +kernel)⟩
  | non => cases h; exact ⟨_, .base .non, kit_ty (show kitB "NoneType" "tuple" = some false by decide +kernel), kit_ty (show kitB "NoneType" "str" = some false by decide +kernel)⟩
  | int i => cases h; exact ⟨_, .base (.int i), kit_ty (show kitB "int" "tuple" = some false by decide +kernel), kit_ty (show kitB "int" "str" = some false by decide +kernel)⟩
  | bl b => cases h; exact ⟨_, .base (.bl b), kit_ty (show kitB "bool" "tuple" = some false by decide +kernel), kit_ty (show kitB "bool" "str" = some false by decide +kernel)⟩
  | lst xs =>
    obtain ⟨a, vs, rfl, e, _⟩ := h
    exact ⟨_, .base (.lst e), kit_ty (show kitB "list" "tuple" = some false by decide +kernel), kit_ty (show kitB "list" "str" = some false by decide +kernel)⟩
  | tup xs =>
    obtain ⟨a, vs, rfl, e, _⟩ := h
    exact ⟨_, .base (.tup e), kit_ty (show kitB "tuple" "tuple" = some true by decide +kernel), kit_ty (show kitB "tuple" "str" = some false by decide +kernel)⟩
  | dct =>
    obtain ⟨a, rfl, e⟩ := h
    exact ⟨_, .base (.dK e), kit_ty (show kitB "dict" "tuple" = some false by decide +kernel), kit_ty (show kitB "dict" "str" = some false by decide +kernel)⟩
theorem ThAt.thing {H : Hp} {t : Th} {v : V} (h : ThAt H t v) (ok : okT t) : Thing H v ∧ nmV v = nmT t := by
  cases t with
  | str z => cases h; exact ⟨.str z ok, rfl⟩
  | non => cases h; exact ⟨.non, rfl⟩
  | int i => cases h; exact ⟨.int i, rfl⟩
  | bl b => cases h; exact ⟨.bl b, rfl⟩
  | lst xs =>
    obtain ⟨a, vs, rfl, e, _⟩ := h
    exact ⟨.lst e, rfl⟩
  | tup xs =>
    obtain ⟨a, vs, rfl, e, _⟩ := h
    exact ⟨.tup e, rfl⟩
  | dct =>
    obtain ⟨a, rfl, e⟩ := h
    exact ⟨.dct e, rfl⟩
def szV (z : Str) : V := match szOf z with
  | some n => .int (n : Nat)
  | none => .non
def SizesG (K : PySem.W.Frag) (w : World) (d : Addr) : Prop := KGot K w d ∧ ∀ z : Str, ∃ (r : Option Value), PySem.W.nsIn K d z = some r ∧ RelV (szV z) (r.getD .none)
theorem szV_eq (z : Str) (n : Nat) : decide (szV z = V.int (n : Nat)) = decide (szOf z = some n) := by
  unfold szV
  cases e : szOf z with
  | none =>
    rw [decide_eq_false (by intro h; cases h), decide_eq_false (by intro h; cases h)]
  | some k =>
    by_cases c : k = n
    · rw [c, decide_eq_true rfl, decide_eq_true rfl]
    · rw [decide_eq_false (by intro h; exact c (by have := V.int.inj h; omega)), decide_eq_false (by intro h; exact c (Option.some.inj h))]
theorem szV_scal (z : Str) (n : Int) : scal (szV z) (.int n) = true := by
  unfold szV
  cases szOf z <;> rfl
theorem np_form {t : Th} (h : npB t = true) : formB t = true := by
  match t, h with
  | .tup (.str z :: x :: r), h => exact (Bool.and_eq_true_iff.mp h).1
theorem form_cases {t : Th} (h : formB t = true) : ∃ z x r, t = .tup (.str z :: x :: r) ∧ szOf z = some (r.length + 2) := by
  match t, h with
  | .tup (.str z :: []), h =>
    have h1 : szOf z = some 1 := of_decide_eq_true h
    rcases sz_cases h1 with ⟨_, l⟩ | ⟨_, l⟩ | ⟨_, _, l⟩ <;> omega
  | .tup (.str z :: x :: r), h => exact ⟨z, x, r, rfl, of_decide_eq_true h⟩
def spFormG : Sp := fun vs H Q _ => ∃ (v : V) (t : Th), vs = [v] ∧ ThAt H t v ∧ Q (.bl (formB t)) H
def spCallingG : Sp := fun vs H Q _ => ∃ (v : V) (z : Str) (x : Th) (r : List Th), vs = [v] ∧ ThAt H (.tup (.str z :: x :: r)) v ∧ ((z = "again" → Q .non H) ∧ (z ≠ "again" → ∀ u, ThAt H x u → Q u H))
/-- a thing of G, or a row without parts -/
def ThOr (G H : Hp) (t : Th) (v : V) : Prop := ThAt G t v ∨ (t = .tup [] ∧ ∃ a, v = .ref a ∧ H a = some (.tup []))
def OrsAt (G H : Hp) : List Th → List V → Prop
  | [], vs => vs = []
  | t :: ts, vs => ∃ v us, vs = v :: us ∧ ThOr G H t v ∧ OrsAt G H ts us
theorem OrsAt.mono {G H H' : Hp} (s : STup H H') : ∀ {ts : List Th} {vs : List V}, OrsAt G H ts vs → OrsAt G H' ts vs
  | [], _, h => h
  | t :: ts, _, h => by
    obtain ⟨v, us, e, h1, h2⟩ := h
    refine ⟨v, us, e, ?_, OrsAt.mono s h2⟩
    rcases h1 with h1 | ⟨e1, a, e2, h3⟩
    · exact .inl h1
    · exact .inr ⟨e1, a, e2, s _ _ h3⟩
theorem OrsAt.len {G H : Hp} : ∀ {ts : List Th} {vs : List V}, OrsAt G H ts vs → vs.length = ts.length
  | [], vs, h => by rw [show vs = [] from h]; rfl
  | t :: ts, vs, h => by
    obtain ⟨v, us, e, _, h2⟩ := h
    rw [e, List.length_cons, List.length_cons, OrsAt.len h2]
theorem OrsAt.snoc {G H : Hp} {q : Th} {u : V} (g : ThOr G H q u) : ∀ {ts : List Th} {vs : List V}, OrsAt G H ts vs → OrsAt G H (ts ++ [q]) (vs ++ [u])
  | [], vs, h => by rw [show vs = [] from h]; exact ⟨u, [], rfl, g, rfl⟩
  | t :: ts, vs, h => by
    obtain ⟨v, ws, rfl, h1, h2⟩ := h
    exact ⟨v, ws ++ [u], rfl, h1, OrsAt.snoc g h2⟩
theorem OrsAt.all {G H : Hp} (s : Kpt G H) : ∀ {ts : List Th} {vs : List V}, OrsAt G H ts vs → ThsAt H ts vs
  | [], _, h => h
  | t :: ts, _, h => by
    obtain ⟨v, us, e, h1, h2⟩ := h
    refine ⟨v, us, e, ?_, OrsAt.all s h2⟩
    rcases h1 with h1 | ⟨rfl, a, e2, h3⟩
    · exact ThAt.mono s t v h1
    · exact ⟨a, [], e2, h3, rfl⟩
def spRestG : Sp := fun vs H Q _ => ∃ (v : V) (t : Th) (G : Hp), vs = [v] ∧ ThAt G t v ∧ Kpt G H ∧ npB t = true ∧ ∀ (H' : Hp) (u : V), Same H H' → ThOr G H' (restT t) u → Q u H'
def spNPartG (Ts : List Addr) : Sp := fun vs H Q _ => ∃ (v : V) (t : Th), vs = [v] ∧ ThAt H t v ∧ okT t ∧ TabsG Ts H ∧ ∀ H', SamTs Ts H H' → Q (.bl (npB t)) H'
def spSmallG (Ts : List Addr) : Sp := fun vs H Q _ => ∃ (v : V) (t : Th), vs = [v] ∧ ThAt H t v ∧ okT t ∧ TabsG Ts H ∧ ∀ H', SamTs Ts H H' → Q (.bl (smallT 25 0 [t])) H'
def spHouseG (Ts : List Addr) : Sp := fun vs H Q _ => ∃ (v : V) (t : Th), vs = [v] ∧ ThAt H t v ∧ okT t ∧ TabsG Ts H ∧ ∀ (H' : Hp) (b : Bool), SamTs Ts H H' → (b = true ↔ ∃ r, t = thRow r ∧ HouseR r) → Q (.bl b) H'
theorem lens_sum : ∀ (ts : List Th) (i : Nat), i ≤ ts.length → preSum (fun j => ((ts[j]?).elim (0 : Int) fun t => ((itemsT t).length : Nat))) i = ((((ts.take i).map itemsT).flatten).length : Nat)
  | ts, 0, _ => by simp [preSum]
  | ts, i + 1, h => by
    have hi : i < ts.length := h
    rw [preSum, lens_sum ts i (Nat.le_of_lt hi), List.take_add_one, List.getElem?_eq_getElem hi, List.map_append, List.flatten_append, List.length_append]
    simp
theorem flat_le {ts : List Th} (ok : ∀ t ∈ ts, okT t) : ∀ i, (((ts.take i).map itemsT).flatten).length ≤ 1000 * i
  | 0 => by simp
  | i + 1 => by
    have h := flat_le ok i
    rw [List.take_add_one, List.map_append, List.flatten_append, List.length_append]
    cases e : ts[i]? with
    | none =>
      show (((ts.take i).map itemsT).flatten).length + 0 ≤ 1000 * (i + 1)
      omega
    | some t =>
      have o := (ok t (List.mem_of_getElem? e)).items.1
      show (((ts.take i).map itemsT).flatten).length + (itemsT t ++ []).length ≤ 1000 * (i + 1)
      rw [List.append_nil]
      omega
end Wk
namespace Wk
open PySem PySem.Spec PyProof.Rows L2 GxR
theorem wd_inj {w w' : Wd} (h : w.str = w'.str) : w = w' := by
  cases w <;> cases w' <;> first | rfl | exact absurd h (by decide +kernel)
mutual
theorem thP_inj : ∀ (p q : Part), thP p = thP q → p = q
  | .say n, .say m, h => by
    have := Th.tup.inj h
    have h1 := (List.cons.inj (List.cons.inj this).2).1
    rw [Th.str.inj h1]
  | .again r, .again t, h => by
    have := Th.tup.inj h
    have h1 := (List.cons.inj (List.cons.inj this).2).1
    rw [thR_inj r t (Th.tup.inj h1)]
  | .oth w n r, .oth w' m t, h => by
    have := Th.tup.inj h
    have h0 := (List.cons.inj this).1
    have h1 := (List.cons.inj (List.cons.inj this).2).1
    have h2 := (List.cons.inj (List.cons.inj (List.cons.inj this).2).2).1
    rw [wd_inj (Th.str.inj h0), Th.str.inj h1, thR_inj r t (Th.tup.inj h2)]
  | .say n, .again t, h => by
    have h0 := Th.str.inj (List.cons.inj (Th.tup.inj h)).1
    exact absurd h0 (by decide +kernel)
  | .again r, .say m, h => by
    have h0 := Th.str.inj (List.cons.inj (Th.tup.inj h)).1
    exact absurd h0 (by decide +kernel)
  | .say n, .oth w m t, h => by
    have h0 := Th.str.inj (List.cons.inj (Th.tup.inj h)).1
    exact absurd h0.symm (wd_ne_say w)
  | .oth w n r, .say m, h => by
    have h0 := Th.str.inj (List.cons.inj (Th.tup.inj h)).1
    exact absurd h0 (wd_ne_say w)
  | .again r, .oth w m t, h => by
    have h0 := Th.str.inj (List.cons.inj (Th.tup.inj h)).1
    exact absurd h0.symm (wd_ne_again w)
  | .oth w n r, .again t, h => by
    have h0 := Th.str.inj (List.cons.inj (Th.tup.inj h)).1
    exact absurd h0 (wd_ne_again w)
theorem thR_inj : ∀ (r q : List Part), thR r = thR q → r = q
  | [], [], _ => rfl
  | p :: r, q :: t, h => by
    have h' : thP p :: thR r = thP q :: thR t := h
    rw [thP_inj p q (List.cons.inj h').1, thR_inj r t (List.cons.inj h').2]
  | [], q :: t, h => by cases h
  | p :: r, [], h => by cases h
end
theorem thRow_inj {r q : List Part} (h : thRow r = thRow q) : r = q := thR_inj r q (Th.tup.inj h)
/-- as many as the unlike ones: each once -/
theorem nodup_of_len : ∀ {l D : List Str}, D.Nodup → (∀ x ∈ l, x ∈ D) → D.length = l.length → (∀ x ∈ D, x ∈ l) → l.Nodup
  | l, D, nd, sub, len, sup => by
    by_cases h : l.Nodup
    · exact h
    · exfalso
      -- some text stands twice
      have key : ∀ m : List Str, ¬ m.Nodup → ∃ a x b, m = a ++ x :: b ∧ x ∈ a ++ b := by
        intro m
        induction m with
        | nil => intro h; exact absurd List.nodup_nil h
        | cons y m ih =>
          intro h
          by_cases c : y ∈ m
          · exact ⟨[], y, m, rfl, c⟩
          · have h2 : ¬ m.Nodup := fun z => h (List.nodup_cons.mpr ⟨c, z⟩)
            obtain ⟨a, x, b, e, hx⟩ := ih h2
            exact ⟨y :: a, x, b, by rw [e]; rfl, List.mem_cons_of_mem _ hx⟩
      obtain ⟨a, x, b, e, hx⟩ := key l h
      have hsub : ∀ z ∈ D, z ∈ a ++ b := fun z hz => by
        have := sup z hz
        rw [e] at this
        rcases List.mem_append.mp this with g | g
        · exact List.mem_append_left _ g
        · rcases List.mem_cons.mp g with g | g
          · rw [g]; exact hx
          · exact List.mem_append_right _ g
      have := sub_len D (a ++ b) nd hsub
      rw [e, List.length_append, List.length_cons] at len
      rw [List.length_append] at this
      omega
end Wk

set_option Elab.async false
set_option linter.all false
set_option maxRecDepth 100000
set_option maxHeartbeats 4000000
/-! All parts of a row within bounds; what binds well: promises. -/
namespace Wk
open PySem PySem.Spec PyProof.Rows L2 GxR
def wordT : Th → Bool
  | .tup (.str _ :: _) => true
  | _ => false
def spBegins : Sp := fun vs H Q _ => ∃ (v : V) (t : Th), vs = [v] ∧ ThAt H t v ∧ Q (.bl (wordT t)) H
theorem form_word {t : Th} (h : wordT t = false) : formB t = false := by
  cases t with
  | tup xs =>
    cases xs with
    | nil => rfl
    | cons x r => cases x <;> first | rfl | cases h
  | _ => rfl
theorem word_cases {t : Th} (h : wordT t = true) : ∃ z r, t = .tup (.str z :: r) := by
  match t, h with
  | .tup (.str z :: r), _ => exact ⟨z, r, rfl⟩
theorem OrsAt.get {G H : Hp} : ∀ {ts : List Th} {vs : List V}, OrsAt G H ts vs → ∀ {i : Nat} {v : V}, vs[i]? = some v → ∃ t, ts[i]? = some t ∧ ThOr G H t v
  | [], vs, h, i, v, e => by
    rw [show vs = [] from h] at e
    cases e
  | t :: ts, vs, h, i, v, e => by
    obtain ⟨u, us, rfl, h1, h2⟩ := h
    cases i with
    | zero =>
      cases e
      exact ⟨t, rfl, h1⟩
    | succ i => exact OrsAt.get h2 e
theorem ThOr.tup {G H : Hp} {ys : List Th} {v : V} (s : Kpt G H) (h : ThOr G H (.tup ys) v) : ∃ a xs, v = .ref a ∧ H a = some (.tup xs) ∧ ThsAt G ys xs := by
  rcases h with h | ⟨e, a, rfl, h⟩
  · obtain ⟨a, xs, rfl, ha, hx⟩ := h
    exact ⟨a, xs, rfl, s _ _ (fun _ z => by cases z) ha, hx⟩
  · cases e
    exact ⟨a, [], rfl, h, rfl⟩
/-- the parts within the bounds of a house, or none -/
def spPartsG (Ts : List Addr) (fN fR : Addr) : Sp := fun vs H Q _ => ∃ (v : V) (t : Th), vs = [v, .int 400, .int 24, .ref fN, .ref fR] ∧ ThAt H t v ∧ okT t ∧ TabsG Ts H ∧
  (smallT 25 0 [t] = false → ∀ H', SamTs Ts H H' → Q .non H') ∧ (smallT 25 0 [t] = true → ∀ (H' : Hp) (a : Addr), SamTs Ts H H' → Q (.ref a) H')
/-- what is bound, and what is free -/
def spBinds (Ts : List Addr) : Sp := fun vs H Q _ => ∃ (Fl Bl : Addr) (fs bs : List Str), vs = [.ref Fl, .ref Bl] ∧ H Fl = some (.lst (fs.map V.str)) ∧ H Bl = some (.lst (bs.map V.str)) ∧ fs.length ≤ 1000 ∧ bs.length ≤ 1000 ∧ TabsG Ts H ∧
  ∀ (H' : Hp) (b : Bool), SamTs Ts H H' → (b = true ↔ bs.Nodup ∧ ∀ x ∈ bs, x ∉ fs) → Q (.bl b) H'
theorem thR_len (r : List Part) : (thR r).length = r.length := by rw [thR_map, List.length_map]
theorem wd_len (w : Wd) : w.str.length ≤ 1000 := by cases w <;> decide +kernel
theorem sizeP_pos (p : Part) : 1 ≤ sizeP p := by
  cases p <;> (show 1 ≤ _; unfold sizeP; omega)
mutual
theorem okT_P : ∀ p : Part, okP NmOk p → sizeP p ≤ 1000 → okT (thP p)
  | .say n, h, hs => by
    have h : NmOk n := h
    exact ⟨(show 2 ≤ 1000 by decide), (show ("say" : Str).length ≤ 1000 by decide +kernel), h.2, trivial⟩
  | .again r, h, hs => by
    have h : okR NmOk r := h
    have hs : sizeP (.again r) ≤ 1000 := hs
    unfold sizeP at hs
    have l := len_sizeR r
    exact ⟨(show 2 ≤ 1000 by decide), (show ("again" : Str).length ≤ 1000 by decide +kernel), ⟨by rw [thR_len]; omega, okT_R r h (by omega)⟩, trivial⟩
  | .oth w n r, h, hs => by
    have h : NmOk n ∧ okR NmOk r := h
    unfold sizeP at hs
    have l := len_sizeR r
    exact ⟨(show 3 ≤ 1000 by decide), wd_len w, h.1.2, ⟨by rw [thR_len]; omega, okT_R r h.2 (by omega)⟩, trivial⟩
theorem okT_R : ∀ r : List Part, okR NmOk r → sizeR r ≤ 1000 → okTs (thR r)
  | [], _, _ => trivial
  | p :: r, h, hs => by
    have h : okP NmOk p ∧ okR NmOk r := h
    unfold sizeR at hs
    exact ⟨okT_P p h.1 (by omega), okT_R r h.2 (by omega)⟩
end
theorem okT_row {r : List Part} (h : okR NmOk r) (hs : sizeR r ≤ 1000) : okT (thRow r) := by
  have l := len_sizeR r
  exact ⟨by rw [thR_len]; omega, okT_R r h hs⟩
/-- of a row that is a house -/
theorem house_of_G {P : Program} {w : World} {K : PySem.W.Frag} {mg : Str → Option Value} {base : Heap} {Ts : List Addr} {f : Addr} {fd : FuncData} {k n : Nat}
    (G : FnOk P w K mg base CX0 k f fd ["thing"] (spHouseG Ts)) : FnOk P w K mg base CX0 k f fd ["thing"] (spHouse Ts n) := by
  refine G.imp fun vs H Q E h => ?_
  obtain ⟨v, r, rfl, hR, hh, hd, tg, q⟩ := h
  have hz := hh.size
  refine ⟨v, thRow r, rfl, at_thRow hR, okT_row hh.ok (by omega), tg, fun H' b st e => ?_⟩
  have : b = true := e.mpr ⟨r, rfl, hh⟩
  rw [this]
  exact q H' st
end Wk

set_option Elab.async false
set_option linter.all false
set_option maxRecDepth 100000
set_option maxHeartbeats 2000000
namespace K10
open PySem PySem.Spec PyProof.Rows L2 Wk GxR
def topS (i : Nat) : Stmt := PySem.Challenge.pw_walkrooms_k10_houses_settled.main.body.getD i (.Pass ⟨0, 0, 0, 0⟩)
end K10

set_option Elab.async false
set_option linter.all false
set_option maxRecDepth 100000
set_option maxHeartbeats 2000000
namespace K10
open PySem PySem.Spec PyProof.Rows L2 Wk GxR
abbrev sIsName : Stmt := topS 14
abbrev sCons : Stmt := topS 15
theorem scIN : FnScope ["thing"] ["thing"] (defScope sIsName) := ⟨rfl, rfl, rfl, by decide +kernel, rfl, by decide +kernel, by decide +kernel⟩
theorem scCO : FnScope ["text", "signs"] ["text", "signs"] (defScope sCons) := ⟨rfl, rfl, rfl, by decide +kernel, rfl, by decide +kernel, by decide +kernel⟩
section
variable {P : Program} {w : World} {K : PySem.W.Frag} {mg : Str → Option Value} {base : Heap} {T : Addr} {Ts : List Addr}
theorem ok_cons {f c : Addr} {oc : Value} {od an : Option Addr} {osl : Array (Option Value)} {kV doc pm ct : Value} {k : Nat} {t6 : Tok}
    (l : K.lookup f = some ⟨oc, od, .func (PySem.W.fnOf "consists_of" "consists_of" (defArgs sCons) (defBody sCons) (defScope sCons) .none kV doc pm an (.ref c) ct), osl⟩)
    (hc : PySem.W.codeIn K (.ref c) "consists_of" = true) (TB : GxR.TabB base mg c T) (mT : T ∈ Ts) (ml : mg "len" = none) (ma : mg "all" = none) (mM : mg "MOST_SIGNS" = some (.int 6 t6)) :
    FnOk P w K mg base CX0 (k + 1) f (PySem.W.fnOf "consists_of" "consists_of" (defArgs sCons) (defBody sCons) (defScope sCons) .none kV doc pm an (.ref c) ct) ["text", "signs"] (spWord Ts) := by
  refine fn_of l hc scCO (fun vs H Q E h => ?_) fun A outer s H vs Q E hr h => ?_
  · obtain ⟨z, s, rfl, _⟩ := h
    rfl
  obtain ⟨z, sg, rfl, hz, tg, q⟩ := h
  have free1 : ∀ y ∈ ([(Str.ofString ".0", NameKind.local), (Str.ofString "sign", NameKind.local), (Str.ofString "signs", NameKind.free)] : List (Str × NameKind)), y.2 = NameKind.free →
      ∃ cc, (cxOf CX0 P w K mg base ["text", "signs"] "consists_of" (defScope sCons) f (.ref c) A outer s H E).env.cells.lookup y.1 = some cc := fun y hy e => by
    simp only [List.mem_cons, List.not_mem_nil, or_false] at hy
    rcases hy with rfl | rfl | rfl
    · cases e
    · cases e
    · exact ⟨_, rfl⟩
  refine ⟨_, pss_one (ps_ret (pe_and (pe_chain op_le op_le pe_int (pe_callB call_len_str (by rfl) ml PySem.boot_len (pa_cons (pv 0) pa_nil)) (pe_glob (v := .int 6) (by rfl) mM ⟨_, rfl⟩))
    (pe_one (pe_allC (i := 1) (y := "signs") hr (by rfl) ma (by decide +kernel) TB rfl ⟨rfl, rfl, by decide +kernel, rfl, rfl, free1⟩ rfl rfl (fun _ => rfl) (pv 0) (elt_in rfl rfl rfl) (fun _ => rfl))))), ?_⟩
  refine ⟨.str z, rfl, z, rfl, small hz, 1, z.length, rfl, rfl, _, rfl, ?_⟩
  refine ite2 (fun h1 => ?_) (fun h1 => ?_)
  · have h1' : 1 ≤ z.length := by
      have := of_decide_eq_true h1
      omega
    refine ⟨_, _, rfl, rfl, _, rfl, ite2 (fun h2 => ?_) (fun h2 => ?_)⟩
    · have h2' : z.length ≤ 6 := by
        have := of_decide_eq_true h2
        omega
      refine ⟨.str z, rfl, z, sg, rfl, rfl, tg T mT, fun H2 hT => ?_⟩
      have e : wordB z sg = z.cps.toList.all fun c => decide (c ∈ sg.cps.toList) := by
        unfold wordB
        rw [decide_eq_true h1', decide_eq_true h2', Bool.true_and, Bool.true_and]
      rw [← e]
      exact q H2 (SamTs.tab mT tg hT)
    · have h2' : ¬ z.length ≤ 6 := fun g => h2 (decide_eq_true (by omega))
      have e : wordB z sg = false := by
        unfold wordB
        rw [decide_eq_false h2', Bool.false_and, Bool.and_false]
      have q1 := q H (SamTs.refl tg)
      rw [e] at q1
      exact q1
  · have h1' : ¬ 1 ≤ z.length := fun g => h1 (decide_eq_true (by omega))
    have e : wordB z sg = false := by
      unfold wordB
      rw [decide_eq_false h1', Bool.false_and]
    have q1 := q H (SamTs.refl tg)
    rw [e] at q1
    exact ⟨_, rfl, iteF q1⟩
theorem ok_name {f fC aT : Addr} {fd fdC : FuncData} {tL : Tok} (F : Fun K "is_name" "is_name" sIsName f fd) (GC : FnOk P w K mg base CX0 1 fC fdC ["text", "signs"] (spWord Ts)) (bC : Binds K fdC ["text", "signs"] []) (kC : PySem.W.keepIn K (.ref fC) = true)
    (mC : mg "consists_of" = some (.ref fC)) (mi : mg "isinstance" = none) (ms : mg "str" = none) (mT : mg "TAKEN_WORDS" = some (.ref aT)) (hT : ∀ H, SqT K H aT takenV) (mL : mg "LETTERS" = some (.str abc tL)) :
    FnOk P w K mg base CX0 2 f fd ["thing"] (spName Ts nmV) := by
  refine F.ok scIN (fun vs H Q E h => ?_) (fun cdv A outer s H vs Q E hr h => ?_)
  · obtain ⟨v, rfl, _⟩ := h
    rfl
  obtain ⟨v, rfl, th, tg, q⟩ := h
  refine ⟨_, pss_cons (ps_if (PW.pt (pw_or (pt_not (pt_val (pe_callB call_isi (by rfl) mi (by decide +kernel) (pa_cons (pv 0) (pa_cons (pe_bltn (v := .ty "str") (by rfl) ms (by decide +kernel) rfl) pa_nil)))))
      (pw_or1 (pt_cmpR op_in_seq (pv 0) (pe_glob (v := .ref aT) (by rfl) mT rfl) rfl)))) (pss_one (ps_ret pe_bl)) pss_nil)
    (pss_one (ps_ret (pe_call GC hr (by rfl) mC kC bC .nil pass0 (pa_cons (pv 0) (pa_cons (pe_glob (v := .str abc) (by rfl) mL ⟨_, rfl⟩) pa_nil))))), ?_⟩
  obtain ⟨t, hty, hk⟩ := th.ty (K := K)
  refine ⟨v, rfl, v, .ty "str", .type t, .type "str", strish v, rfl, .ty "str", hty, hk, _, rfl, ?_⟩
  rcases th.cases with ⟨z, rfl, hz⟩ | ⟨e1, e2⟩
  · refine iteF ?_
    refine ⟨.str z, rfl, aT, takenV, rfl, .inr (hT H), rfl, rfl, _, rfl, ite2 (fun h => ?_) (fun h => ?_)⟩
    · have e : nmV (.str z) = false := by
        show nameB z = false
        unfold nameB
        rw [show inV (.str z) takenV = true from h, Bool.not_true, Bool.false_and]
      have q1 := q H (SamTs.refl tg)
      rw [e] at q1
      exact q1
    · have h' : inV (.str z) takenV = false := Bool.eq_false_iff.mpr h
      have e : nmV (.str z) = wordB z abc := by
        show nameB z = _
        unfold nameB
        rw [h', Bool.not_false, Bool.true_and]
      refine ⟨.str z, rfl, z, abc, rfl, hz, tg, fun H' x => ?_⟩
      have q1 := q H' x
      rw [e] at q1
      exact q1
  · rw [e1]
    refine iteT ?_
    have q1 := q H (SamTs.refl tg)
    rw [e2] at q1
    exact q1
end
end K10

set_option Elab.async false
set_option linter.all false
set_option maxRecDepth 100000
set_option maxHeartbeats 2000000
namespace K10
open PySem PySem.Spec PyProof.Rows L2 Wk GxR
abbrev sRest : Stmt := topS 22
theorem scRest : FnScope ["part"] ["part"] (defScope sRest) := ⟨rfl, rfl, rfl, by decide +kernel, rfl, by decide +kernel, by decide +kernel⟩
abbrev sCalling : Stmt := topS 21
abbrev sCallings : Stmt := topS 31
abbrev sGather : Stmt := topS 32
theorem scCalling : FnScope ["part"] ["part"] (defScope sCalling) := ⟨rfl, rfl, rfl, by decide +kernel, rfl, by decide +kernel, by decide +kernel⟩
theorem scGather : FnScope ["row", "around", "free", "bound", "part", "calling", "within"] ["row", "around", "free", "bound"] (defScope sGather) := ⟨rfl, rfl, rfl, by decide +kernel, rfl, by decide +kernel, by decide +kernel⟩
theorem scCallings : FnScope ["row", "free", "bound"] ["row"] (defScope sCallings) := ⟨rfl, rfl, rfl, by decide +kernel, rfl, by decide +kernel, by decide +kernel⟩
theorem atI_last {xs : List V} {k : Nat} {y : V} (hl : xs.length = k + 1) (h : xs[k]? = some y) : atI xs (-1) = some y := by
  unfold atI ixN
  rw [if_neg (by omega), if_pos (by omega), show ((-1 : Int) + (xs.length : Int)).toNat = k by omega]
  exact h
section
variable {P : Program} {w : World} {K : PySem.W.Frag} {mg : Str → Option Value} {base : Heap}
theorem ok_rest {f : Addr} {fd : FuncData} {k : Nat} (F : Fun K "rest_of" "rest_of" sRest f fd) : FnOk P w K mg base CX0 (k + 1) f fd ["part"] spRest := by
  refine F.ok scRest (fun vs H Q E h => ?_) (fun cdv A outer s H vs Q E hr h => ?_)
  · obtain ⟨_, _, rfl, _⟩ := h
    rfl
  obtain ⟨v, p, rfl, hp, q⟩ := h
  refine ⟨_, pss_one (ps_ret (pe_ifExp (pt_cmpR op_eq (pe_ix ix_tup (pv 0) pe_int (fun _ _ => rfl)) pe_str (nomark _)) (pe_tup pa_nil) (pe_ix ix_tup (pv 0) (pe_un un_neg pe_int) (fun _ _ => rfl)))), ?_⟩
  cases p with
  | say n =>
    obtain ⟨a, rfl, ha⟩ := hp
    refine ⟨_, rfl, a, _, 0, _, rfl, rfl, SqT.of ha, atI_nat (j := 0) rfl, rfl, _, rfl, iteT ?_⟩
    refine ⟨(show 0 ≤ sizeLine by decide), fun t nt => q _ _ (same_new nt) ⟨t, [], rfl, upd_same, rfl⟩⟩
  | again r =>
    obtain ⟨a, b, xs, rfl, ha, hb, hps⟩ := hp
    refine ⟨_, rfl, a, _, 0, _, rfl, rfl, SqT.of ha, atI_nat (j := 0) rfl, rfl, _, rfl, iteD (by decide +kernel) ?_⟩
    exact ⟨_, rfl, _, rfl, a, _, -1, _, rfl, rfl, SqT.of ha, atI_last (k := 1) rfl rfl, q _ _ (fun _ _ e => e) ⟨b, xs, rfl, hb, hps⟩⟩
  | oth w n r =>
    obtain ⟨a, b, xs, rfl, ha, hb, hps⟩ := hp
    refine ⟨_, rfl, a, _, 0, _, rfl, rfl, SqT.of ha, atI_nat (j := 0) rfl, rfl, _, rfl, iteD (wd_say w) ?_⟩
    exact ⟨_, rfl, _, rfl, a, _, -1, _, rfl, rfl, SqT.of ha, atI_last (k := 2) rfl rfl, q _ _ (fun _ _ e => e) ⟨b, xs, rfl, hb, hps⟩⟩
theorem ok_calling {f : Addr} {fd : FuncData} {k : Nat} (F : Fun K "calling_of" "calling_of" sCalling f fd) : FnOk P w K mg base CX0 (k + 1) f fd ["part"] spCalling := by
  refine F.ok scCalling (fun vs H Q E h => ?_) (fun cdv A outer s H vs Q E hr h => ?_)
  · obtain ⟨_, _, rfl, _⟩ := h
    rfl
  obtain ⟨v, p, rfl, hp, q⟩ := h
  refine ⟨_, pss_one (ps_ret (pe_ifExp (pt_cmpR op_eq (pe_ix ix_tup (pv 0) pe_int (fun _ _ => rfl)) pe_str (nomark _)) pe_non (pe_ix ix_tup (pv 0) pe_int (fun _ _ => rfl)))), ?_⟩
  cases p with
  | say n =>
    obtain ⟨a, rfl, ha⟩ := hp
    refine ⟨_, rfl, a, _, 0, _, rfl, rfl, SqT.of ha, atI_nat (j := 0) rfl, rfl, _, rfl, iteD say_again ?_⟩
    exact ⟨_, rfl, a, _, 1, _, rfl, rfl, SqT.of ha, atI_nat (j := 1) rfl, q⟩
  | again r =>
    obtain ⟨a, b, xs, rfl, ha, hb, hps⟩ := hp
    exact ⟨_, rfl, a, _, 0, _, rfl, rfl, SqT.of ha, atI_nat (j := 0) rfl, rfl, _, rfl, iteU (by decide +kernel) q⟩
  | oth w n r =>
    obtain ⟨a, b, xs, rfl, ha, hb, hps⟩ := hp
    refine ⟨_, rfl, a, _, 0, _, rfl, rfl, SqT.of ha, atI_nat (j := 0) rfl, rfl, _, rfl, iteD (wd_again w) ?_⟩
    exact ⟨_, rfl, a, _, 1, _, rfl, rfl, SqT.of ha, atI_nat (j := 1) rfl, q⟩
abbrev ps4g : List Str := ["row", "around", "free", "bound"]
theorem ok_gather {f fC fB fR : Addr} {fd fdC fdB fdR : FuncData} {n : Nat} (F : Fun K "gather_callings" "gather_callings" sGather f fd)
    (GC : FnOk P w K mg base CX0 1 fC fdC ["part"] spCalling) (bC : Binds K fdC ["part"] []) (kC : PySem.W.keepIn K (.ref fC) = true) (mC : mg "calling_of" = some (.ref fC))
    (GB : FnOk P w K mg base CX0 1 fB fdB ["part"] spBinder) (bB : Binds K fdB ["part"] []) (kB : PySem.W.keepIn K (.ref fB) = true) (mB : mg "is_binder" = some (.ref fB))
    (GR : FnOk P w K mg base CX0 1 fR fdR ["part"] spRest) (bR : Binds K fdR ["part"] []) (kR : PySem.W.keepIn K (.ref fR) = true) (mR : mg "rest_of" = some (.ref fR))
    (G : FnOk P w K mg base CX0 (n + 1) f fd ps4g (spGather n)) (bF : Binds K fd ps4g []) (mF : mg "gather_callings" = some (.ref f)) : FnOk P w K mg base CX0 (n + 1 + 1) f fd ps4g (spGather (n + 1)) := by
  refine F.ok scGather (fun vs H Q E h => ?_) (fun cdv A outer s H vs Q E hr h => ?_)
  · obtain ⟨_, _, _, _, _, _, _, _, rfl, _⟩ := h
    rfl
  obtain ⟨v, r, aS, Fl, Bl, S, fs, bs, rfl, hR, hS, hF, hB, hne, hd, hsf, hsb, hsS, q⟩ := h
  have hr1 : Room 1 _ := hr.mono (by omega)
  refine ⟨_, pss_one (ps_for PassesOwn.never rfl (pi_tup (pv 0)) (pg_name (i := 4) scGather.nd rfl (.inl rfl))
    (pss_cons (ps_set (i := 5) scGather.nd rfl (.inl rfl) (pe_call GC hr1 (by rfl) mC kC bC .nil pass0 (pa_cons (pv 4) pa_nil)))
    (pss_cons (ps_set (i := 6) scGather.nd rfl (.inl rfl) (pv 1))
    (C8.pss_cut (ps_if (pt_val (pe_call GB hr1 (by rfl) mB kB bB .nil pass0 (pa_cons (pv 4) pa_nil)))
      (pss_cons (ps_expr (pe_bm PySem.F.plainAttrs_list PySem.F.slot_list_append PySem.F.type_list_append mt_append (pv 3) (pa_cons (pv 5) pa_nil)))
        (pss_one (ps_set (i := 6) scGather.nd rfl (.inl rfl) (pe_op op_catA (pv 1) (pe_tup (pa_cons (pv 5) pa_nil))))))
      (pss_one (ps_if (PW.pt (pw_and (pt_cmp (pc_notN (pv 5))) (pw_and1 (pt_cmpR op_notIn_seq (pv 5) (pv 1) rfl)))) (pss_one (ps_expr (pe_bm PySem.F.plainAttrs_list PySem.F.slot_list_append PySem.F.type_list_append mt_append (pv 2) (pa_cons (pv 5) pa_nil)))) pss_nil)))
    (pss_one (ps_expr (pe_call G hr (by rfl) mF F.kp bF .nil pass0 (pa_cons (pe_call GR hr1 (by rfl) mR kR bR .nil pass0 (pa_cons (pv 4) pa_nil)) (pa_cons (pv 6) (pa_cons (pv 2) (pa_cons (pv 3) pa_nil))))))))))), ?_⟩
  obtain ⟨a, xs, rfl, ha, hps⟩ := hR
  have lx := PartsAt.len hps
  refine ⟨_, rfl, a, rfl, ⟨_, SqT.of ha⟩, for_it (walk_tup (xs := xs)) (fun i σ H' => Sam2 Fl Bl H H' ∧ H' Fl = some (.lst ((fs ++ frR S (r.take i)).map V.str)) ∧ H' Bl = some (.lst ((bs ++ bdR (r.take i)).map V.str)) ∧
      ∃ s4 s5 s6 : Option V, σ = [some (.ref a), some (.ref aS), some (.ref Fl), some (.ref Bl), s4, s5, s6])
    ⟨fun _ _ _ _ e => e, by simpa [frR] using hF, by simpa [bdR] using hB, _, _, _, rfl⟩ (fun i σ H' _ hP => SqT.of (hP.1.tup hF hB _ _ ha)) (fun i y σ H1 H2 hi hP hY => ?_) (fun σ H' hP => ?_)⟩
  · obtain ⟨rfl, hy⟩ := hY
    obtain ⟨sm, hF1, hB1, s4, s5, s6, rfl⟩ := hP
    obtain ⟨p, hp, hpa⟩ := PartsAt.get hps hy
    have pm : p ∈ r := List.mem_of_getElem? hp
    have d1 := deepR.mem p pm
    have d2 := deep_rest p
    have st := sm.tup hF hB
    have hpa2 := PartAt.mono st p y hpa
    have hS2 := st _ _ hS
    have tk : r.take (i + 1) = r.take i ++ [p] := by rw [List.take_add_one, hp]; rfl
    have z1 := sizeR_take r (i + 1)
    rw [tk, sizeR_app] at z1
    have z2 : sizeR [p] = sizeP p := by show sizeP p + 0 = sizeP p; omega
    have z3 := size_rest p
    have lf := frR_len (r.take i) S
    have lb := bdR_len (r.take i)
    refine ⟨_, rfl, y, p, rfl, hpa2, ?_⟩
    refine ⟨_, rfl, ?_⟩
    refine ⟨fun σ' H' => ∃ aW, σ' = [some (.ref a), some (.ref aS), some (.ref Fl), some (.ref Bl), some y, some (callP p), some (.ref aW)] ∧ Sam2 Fl Bl H2 H' ∧ H' aW = some (.tup ((inP S p).map V.str)) ∧
      H' Fl = some (.lst ((fs ++ frR S (r.take i) ++ fhP S p).map V.str)) ∧ H' Bl = some (.lst ((bs ++ bdR (r.take i) ++ bhP p).map V.str)), ?_, fun σ' H3 hm => ?_⟩
    · refine ⟨_, rfl, y, p, rfl, hpa2, _, rfl, ?_⟩
      have bF1 : ((fs ++ frR S (r.take i)).map V.str).length < sizeLine := by
        rw [List.length_map, List.length_append]; exact small1000 (by omega)
      have bB1 : ((bs ++ bdR (r.take i)).map V.str).length < sizeLine := by
        rw [List.length_map, List.length_append]; exact small1000 (by omega)
      -- a calling that is not bound by its part
      have go : ∀ m : Str, callP p = .str m → inP S p = S → bhP p = [] → fhP S p = (if m ∈ S then [] else [m]) →
          (fun σ' H' => ∃ aW, σ' = [some (.ref a), some (.ref aS), some (.ref Fl), some (.ref Bl), some y, some (callP p), some (.ref aW)] ∧ Sam2 Fl Bl H2 H' ∧ H' aW = some (.tup ((inP S p).map V.str)) ∧
            H' Fl = some (.lst ((fs ++ frR S (r.take i) ++ fhP S p).map V.str)) ∧ H' Bl = some (.lst ((bs ++ bdR (r.take i) ++ bhP p).map V.str)) : L2.St → Hp → Prop)
            [some (.ref a), some (.ref aS), some (.ref Fl), some (.ref Bl), some y, some (callP p), some (.ref aS)] (if m ∈ S then H2 else upd H2 Fl (.lst ((fs ++ frR S (r.take i)).map V.str ++ [.str m]))) := by
        intro m e1 e2 e3 e4
        refine ⟨aS, rfl, ?_, ?_, ?_, ?_⟩
        · split
          · exact fun _ _ _ _ e => e
          · exact fun b o n1 _ e => by rw [upd_ne n1]; exact e
        · rw [e2]
          split
          · exact hS2
          · rw [upd_ne (fun z => by rw [z, hF1] at hS2; cases hS2)]; exact hS2
        · rw [e4]
          split
          · rw [List.append_nil]; exact hF1
          · rw [upd_same]; simp
        · rw [e3, List.append_nil]
          split
          · exact hB1
          · rw [upd_ne (Ne.symm hne)]; exact hB1
      cases p with
      | say m =>
        refine iteF ?_
        refine ⟨_, rfl, _, rfl, iteU rfl ?_⟩
        refine ⟨_, rfl, _, rfl, aS, _, rfl, .inr (SqT.of hS2), rfl, Wk.flat_strs S, _, rfl, ite2 (fun e => ?_) (fun e => ?_)⟩
        · have e : m ∉ S := by
            have z : (!inV (.str m) (S.map V.str)) = true := e
            rw [inV_strs] at z
            simpa using z
          have g := go m rfl rfl rfl rfl
          rw [if_neg e] at g
          exact ⟨_, rfl, .inl ⟨rfl, _, SqL.of hF1⟩, _, rfl, Fl, _, _, rfl, rfl, hF1, bF1, g⟩
        · have e : m ∈ S := by
            have z : ¬ (!inV (.str m) (S.map V.str)) = true := e
            rw [inV_strs] at z
            simpa using z
          have g := go m rfl rfl rfl rfl
          rw [if_pos e] at g
          exact g
      | again r' =>
        refine iteF ?_
        refine ⟨_, rfl, _, rfl, iteF ?_⟩
        exact ⟨aS, rfl, fun _ _ _ _ e => e, hS2, by rw [show fhP S (.again r') = [] from rfl, List.append_nil]; exact hF1, by rw [show bhP (.again r') = [] from rfl, List.append_nil]; exact hB1⟩
      | oth wd m r' =>
        refine ite2 (fun hw => ?_) (fun hw => ?_)
        · have hw : wd.binds = true := hw
          have e1 : inP S (.oth wd m r') = S ++ [m] := if_pos hw
          have e2 : fhP S (.oth wd m r') = [] := if_pos hw
          have e3 : bhP (.oth wd m r') = [m] := if_pos hw
          refine ⟨_, rfl, .inl ⟨rfl, _, SqL.of hB1⟩, _, rfl, Bl, _, _, rfl, rfl, hB1, bB1, ?_⟩
          have nSB : aS ≠ Bl := fun z => by rw [z, hB1] at hS2; cases hS2
          have hS3 : upd H2 Bl (.lst ((bs ++ bdR (r.take i)).map V.str ++ [.str m])) aS = some (.tup (S.map V.str)) := by rw [upd_ne nSB]; exact hS2
          refine ⟨_, rfl, _, rfl, (show 1 ≤ sizeLine by decide), fun t nt => ?_⟩
          have sm3 : Sam2 Fl Bl H2 (upd (upd H2 Bl (.lst ((bs ++ bdR (r.take i)).map V.str ++ [.str m]))) t (.tup [.str m])) := fun b o n1 n2 e => kn (by rw [upd_ne n2]; exact e) nt
          have hF3 : upd (upd H2 Bl (.lst ((bs ++ bdR (r.take i)).map V.str ++ [.str m]))) t (.tup [.str m]) Fl = some (.lst ((fs ++ frR S (r.take i)).map V.str)) := kn (by rw [upd_ne hne]; exact hF1) nt
          have hB3 : upd (upd H2 Bl (.lst ((bs ++ bdR (r.take i)).map V.str ++ [.str m]))) t (.tup [.str m]) Bl = some (.lst ((bs ++ bdR (r.take i)).map V.str ++ [.str m])) := kn upd_same nt
          refine ⟨aS, t, _, _, rfl, rfl, SqT.of (kn hS3 nt), SqT.of upd_same, by rw [List.length_map]; exact small (by show S.length + 1 ≤ 1000; omega), fun e => ?_, (fun _ e => by cases e), fun _ _ u nu => ?_⟩
          · have e : S = [] := List.map_eq_nil_iff.mp e
            refine ⟨t, rfl, sm3, ?_, ?_, ?_⟩
            · rw [e1, e]; exact upd_same
            · rw [e2, List.append_nil]; exact hF3
            · rw [e3]; exact hB3.trans (by simp)
          · refine ⟨u, rfl, fun b o n1 n2 e => kn (sm3 b o n1 n2 e) nu, ?_, ?_, ?_⟩
            · rw [e1]; exact upd_same.trans (by show _ = some (HO.tup ((S ++ [m]).map V.str)); rw [List.map_append]; rfl)
            · rw [e2, List.append_nil]; exact kn hF3 nu
            · rw [e3]; exact (kn hB3 nu).trans (by simp)
        · have hw : ¬ wd.binds = true := hw
          have e1 : inP S (.oth wd m r') = S := if_neg hw
          have e2 : fhP S (.oth wd m r') = if m ∈ S then [] else [m] := if_neg hw
          have e3 : bhP (.oth wd m r') = [] := if_neg hw
          refine ⟨_, rfl, _, rfl, iteU rfl ?_⟩
          refine ⟨_, rfl, _, rfl, aS, _, rfl, .inr (SqT.of hS2), rfl, Wk.flat_strs S, _, rfl, ite2 (fun e => ?_) (fun e => ?_)⟩
          · have e : m ∉ S := by
              have z : (!inV (.str m) (S.map V.str)) = true := e
              rw [inV_strs] at z
              simpa using z
            have g := go m rfl e1 e3 e2
            rw [if_neg e] at g
            exact ⟨_, rfl, .inl ⟨rfl, _, SqL.of hF1⟩, _, rfl, Fl, _, _, rfl, rfl, hF1, bF1, g⟩
          · have e : m ∈ S := by
              have z : ¬ (!inV (.str m) (S.map V.str)) = true := e
              rw [inV_strs] at z
              simpa using z
            have g := go m rfl e1 e3 e2
            rw [if_pos e] at g
            exact g
    · obtain ⟨aW, rfl, sm3, hW, hF3, hB3⟩ := hm
      have hpa3 := PartAt.mono (sm3.tup hF1 hB1) p y hpa2
      have lh := fhP_len S p
      have lbh := bhP_len p
      have li := inP_len S p
      refine ⟨_, rfl, y, p, rfl, hpa3, fun H4 u sm4 hu => ?_⟩
      refine ⟨_, rfl, _, rfl, _, rfl, u, restP p, aW, Fl, Bl, inP S p, fs ++ frR S (r.take i) ++ fhP S p, bs ++ bdR (r.take i) ++ bhP p, rfl, hu, sm4 _ _ hW, sm4 _ _ hF3, sm4 _ _ hB3, hne, by omega, ?_, ?_, by omega, fun H5 sm5 hF5 hB5 => ?_⟩
      · rw [List.length_append, List.length_append]; omega
      · rw [List.length_append, List.length_append]; omega
      · refine ⟨sm.trans (sm3.trans ((Sam2.of sm4).trans sm5)), ?_, ?_, _, _, _, rfl⟩
        · rw [hF5, tk, frR_app, show frR S [p] = frP S p ++ [] from rfl, List.append_nil, frP_eq S p]
          simp only [List.append_assoc]
        · rw [hB5, tk, bdR_app, show bdR [p] = bdP p ++ [] from rfl, List.append_nil, bdP_eq p]
          simp only [List.append_assoc]
  · obtain ⟨sm, hF1, hB1, s4, s5, s6, rfl⟩ := hP
    rw [lx, List.take_length] at hF1 hB1
    exact q H' sm hF1 hB1
theorem gather_none {f : Addr} {fd : FuncData} {k : Nat} : FnOk P w K mg base CX0 k f fd ps4g (spGather 0) := by
  have no : ∀ vs H Q E, ¬ spGather 0 vs H Q E := fun vs H Q E h => by
    obtain ⟨_, _, _, _, _, _, _, _, _, _, _, _, _, _, h1, _⟩ := h
    omega
  exact ⟨fun vs H Q E h => absurd h (no vs H Q E), fun A outer s H args us vs Q E _ _ _ _ h => absurd h (no vs H Q E)⟩
theorem gather_ok {f fC fB fR : Addr} {fd fdC fdB fdR : FuncData} (F : Fun K "gather_callings" "gather_callings" sGather f fd)
    (GC : FnOk P w K mg base CX0 1 fC fdC ["part"] spCalling) (bC : Binds K fdC ["part"] []) (kC : PySem.W.keepIn K (.ref fC) = true) (mC : mg "calling_of" = some (.ref fC))
    (GB : FnOk P w K mg base CX0 1 fB fdB ["part"] spBinder) (bB : Binds K fdB ["part"] []) (kB : PySem.W.keepIn K (.ref fB) = true) (mB : mg "is_binder" = some (.ref fB))
    (GR : FnOk P w K mg base CX0 1 fR fdR ["part"] spRest) (bR : Binds K fdR ["part"] []) (kR : PySem.W.keepIn K (.ref fR) = true) (mR : mg "rest_of" = some (.ref fR))
    (bF : Binds K fd ps4g []) (mF : mg "gather_callings" = some (.ref f)) : ∀ n : Nat, FnOk P w K mg base CX0 (n + 1) f fd ps4g (spGather n)
  | 0 => gather_none
  | n + 1 => ok_gather F GC bC kC mC GB bB kB mB GR bR kR mR (gather_ok F GC bC kC mC GB bB kB mB GR bR kR mR bF mF n) bF mF
theorem ok_callings {f fG : Addr} {fd fdG : FuncData} {n : Nat} (F : Fun K "callings_of" "callings_of" sCallings f fd)
    (G : FnOk P w K mg base CX0 (n + 1) fG fdG ps4g (spGather n)) (bG : Binds K fdG ps4g []) (kG : PySem.W.keepIn K (.ref fG) = true) (mG : mg "gather_callings" = some (.ref fG)) : FnOk P w K mg base CX0 (n + 1 + 1) f fd ["row"] (spCallings n) := by
  refine F.ok scCallings (fun vs H Q E h => ?_) (fun cdv A outer s H vs Q E hr h => ?_)
  · obtain ⟨_, _, rfl, _⟩ := h
    rfl
  obtain ⟨v, r, rfl, hR, hd, hs, hd2, q⟩ := h
  refine ⟨_, pss_cons (ps_set (i := 1) scCallings.nd rfl (.inl rfl) (pe_lst pa_nil)) (pss_cons (ps_set (i := 2) scCallings.nd rfl (.inl rfl) (pe_lst pa_nil))
    (pss_cons (ps_expr (pe_call G hr (by rfl) mG kG bG .nil pass0 (pa_cons (pv 0) (pa_cons (pe_tup pa_nil) (pa_cons (pv 1) (pa_cons (pv 2) pa_nil))))))
    (pss_one (ps_ret (pe_tup (pa_cons (pv 1) (pa_cons (pv 2) pa_nil))))))), ?_⟩
  refine ⟨(show 0 ≤ sizeLine by decide), fun Fl nF => ?_⟩
  refine ⟨(show 0 ≤ sizeLine by decide), fun Bl nB => ?_⟩
  have hne : Fl ≠ Bl := fun z => by rw [← z, upd_same] at nB; cases nB
  have nB0 : H Bl = none := by rw [← nB, upd_ne (Ne.symm hne)]
  refine ⟨_, rfl, (show 0 ≤ sizeLine by decide), fun t nt => ?_⟩
  have k3 : ∀ b o, H b = some o → upd (upd (upd H Fl (.lst [])) Bl (.lst [])) t (.tup []) b = some o := fun b o e => kn (kn (kn e nF) nB) nt
  refine ⟨_, rfl, _, rfl, v, r, t, Fl, Bl, [], [], [], rfl, RowAt.mono (fun a xs e => k3 a _ e) hR, upd_same, kn (kn upd_same nB) nt, kn upd_same nt, hne, hd, hs, hs, by simpa using hd2, fun H' sm hF hB => ?_⟩
  refine ⟨_, rfl, _, rfl, (show 2 ≤ sizeLine by decide), fun u nu => ?_⟩
  refine q _ u Fl Bl (fun b o e => kn (sm b o (fun z => by rw [z, nF] at e; cases e) (fun z => by rw [z, nB0] at e; cases e) (k3 b o e)) nu) nF nB0 hne upd_same (kn hF nu) (kn hB nu)
end
end K10

set_option Elab.async false
set_option linter.all false
set_option maxRecDepth 100000
set_option maxHeartbeats 2000000
namespace K10
open PySem PySem.Spec PyProof.Rows L2 Wk
abbrev sBinder : Stmt := topS 23
abbrev sCalled : Stmt := topS 33
abbrev sPCalled : Stmt := topS 34
theorem scBinder : FnScope ["part"] ["part"] (defScope sBinder) := ⟨rfl, rfl, rfl, by decide +kernel, rfl, by decide +kernel, by decide +kernel⟩
theorem scCalled : FnScope ["row", "x", "calling", "part"] ["row", "x", "calling"] (defScope sCalled) := ⟨rfl, rfl, rfl, by decide +kernel, rfl, by decide +kernel, by decide +kernel⟩
theorem scPCalled : FnScope ["part", "x", "calling", "word", "name"] ["part", "x", "calling"] (defScope sPCalled) := ⟨rfl, rfl, rfl, by decide +kernel, rfl, by decide +kernel, by decide +kernel⟩
section
variable {P : Program} {w : World} {K : PySem.W.Frag} {mg : Str → Option Value} {base : Heap}
theorem ok_binder {f aB : Addr} {fd : FuncData} {k : Nat} (F : Fun K "is_binder" "is_binder" sBinder f fd) (mB : mg "BINDING_WORDS" = some (.ref aB)) (hB : ∀ H, SqT K H aB bindV) : FnOk P w K mg base CX0 (k + 1) f fd ["part"] spBinder := by
  refine F.ok scBinder (fun vs H Q E h => ?_) (fun cdv A outer s H vs Q E hr h => ?_)
  · obtain ⟨_, _, rfl, _⟩ := h
    rfl
  obtain ⟨v, p, rfl, hp, q⟩ := h
  refine ⟨_, pss_one (ps_ret (pe_cmpR op_in_seq (pe_ix ix_tup (pv 0) pe_int (fun _ _ => rfl)) (pe_glob (v := .ref aB) (by rfl) mB rfl) rfl)), ?_⟩
  obtain ⟨a, xs, rfl, ha, h0⟩ := hp.word
  refine ⟨_, rfl, a, xs, 0, _, rfl, rfl, SqT.of ha, atI_nat (j := 0) h0, aB, bindV, rfl, .inr (hB _), rfl, rfl, ?_⟩
  have e : inV (.str (wordP p)) bindV = bindsP p := inV_binds p
  show Q (.bl (inV (.str (wordP p)) bindV)) H
  rw [e]
  exact q
abbrev ps3 : List Str := ["row", "x", "calling"]
abbrev ps3p : List Str := ["part", "x", "calling"]
theorem ok_pcalled {f fB fC : Addr} {fd fdB fdC : FuncData} {n : Nat} (F : Fun K "part_called" "part_called" sPCalled f fd) (GB : FnOk P w K mg base CX0 1 fB fdB ["part"] spBinder) (bB : Binds K fdB ["part"] []) (kB : PySem.W.keepIn K (.ref fB) = true) (mB : mg "is_binder" = some (.ref fB))
    (GC : FnOk P w K mg base CX0 (2 * n + 1) fC fdC ps3 (spCalled n)) (bC : Binds K fdC ps3 []) (kC : PySem.W.keepIn K (.ref fC) = true) (mC : mg "called" = some (.ref fC)) : FnOk P w K mg base CX0 (2 * n + 1 + 1) f fd ps3p (spPCalled n) := by
  refine F.ok scPCalled (fun vs H Q E h => ?_) (fun cdv A outer s H vs Q E hr h => ?_)
  · obtain ⟨_, _, _, _, rfl, _⟩ := h
    rfl
  obtain ⟨v, x, c, p, rfl, hp, hd, q⟩ := h
  have hr1 : Room 1 _ := hr.mono (by omega)
  refine ⟨_, pss_cons (ps_set (i := 3) scPCalled.nd rfl (.inl rfl) (pe_ix ix_tup (pv 0) pe_int (fun _ _ => rfl)))
    (pss_cons (ps_if (pt_cmpR op_eq (pv 3) pe_str (nomark _)) (pss_one (ps_ret (pe_tup (pa_cons (pv 3) (pa_cons (pe_call GC hr (by rfl) mC kC bC .nil pass0 (pa_cons (pe_ix ix_tup (pv 0) pe_int (fun _ _ => rfl)) (pa_cons (pv 1) (pa_cons (pv 2) pa_nil)))) pa_nil))))) pss_nil)
    (pss_cons (ps_if (PW.pt (pw_and (pt_val (pe_call GB hr1 (by rfl) mB kB bB .nil pass0 (pa_cons (pv 0) pa_nil))) (pw_and1 (pt_cmpR op_eq (pe_ix ix_tup (pv 0) pe_int (fun _ _ => rfl)) (pv 1) (nomark _))))) (pss_one (ps_ret (pv 0))) pss_nil)
    (pss_cons (ps_set (i := 4) scPCalled.nd rfl (.inl rfl) (pe_ifExp (pt_cmpR op_eq (pe_ix ix_tup (pv 0) pe_int (fun _ _ => rfl)) (pv 1) (nomark _)) (pv 2) (pe_ix ix_tup (pv 0) pe_int (fun _ _ => rfl))))
    (pss_cons (ps_if (pt_cmpR op_eq (pv 3) pe_str (nomark _)) (pss_one (ps_ret (pe_tup (pa_cons (pv 3) (pa_cons (pv 4) pa_nil))))) pss_nil)
    (pss_one (ps_ret (pe_tup (pa_cons (pv 3) (pa_cons (pv 4) (pa_cons (pe_call GC hr (by rfl) mC kC bC .nil pass0 (pa_cons (pe_ix ix_tup (pv 0) pe_int (fun _ _ => rfl)) (pa_cons (pv 1) (pa_cons (pv 2) pa_nil)))) pa_nil))))))))))
    , ?_⟩
  cases p with
  | say n =>
    obtain ⟨a, rfl, ha⟩ := hp
    refine ⟨_, rfl, a, _, 0, _, rfl, rfl, SqT.of ha, atI_nat (j := 0) rfl, ?_⟩
    refine ⟨_, rfl, rfl, _, rfl, iteD say_again ?_⟩
    refine ⟨_, rfl, _, .say n, rfl, ⟨a, rfl, ha⟩, _, rfl, iteF ?_⟩
    refine ⟨_, rfl, a, _, 1, _, rfl, rfl, SqT.of ha, atI_nat (j := 1) rfl, _, rfl, rfl, _, rfl, ite2 (fun e => ?_) (fun e => ?_)⟩
    · refine ⟨_, rfl, ?_⟩
      refine ⟨_, rfl, rfl, _, rfl, iteT ?_⟩
      refine ⟨_, rfl, _, rfl, (show 2 ≤ sizeLine by decide), fun t nt => q _ _ (same_new nt) ?_⟩
      unfold calledP
      rw [if_pos (str_eq e)]
      exact ⟨t, rfl, upd_same⟩
    · refine ⟨_, rfl, a, _, 1, _, rfl, rfl, SqT.of ha, atI_nat (j := 1) rfl, ?_⟩
      refine ⟨_, rfl, rfl, _, rfl, iteT ?_⟩
      refine ⟨_, rfl, _, rfl, (show 2 ≤ sizeLine by decide), fun t nt => q _ _ (same_new nt) ?_⟩
      unfold calledP
      rw [if_neg (str_ne e)]
      exact ⟨t, rfl, upd_same⟩
  | again r =>
    obtain ⟨a, b, xs, rfl, ha, hb, hps⟩ := hp
    refine ⟨_, rfl, a, _, 0, _, rfl, rfl, SqT.of ha, atI_nat (j := 0) rfl, ?_⟩
    refine ⟨_, rfl, rfl, _, rfl, iteT ?_⟩
    have hd1 : deepR r + 1 ≤ n := hd.1
    have hs1 : sizeR r + 1 ≤ 1000 := hd.2
    refine ⟨_, rfl, _, rfl, a, _, 1, _, rfl, rfl, SqT.of ha, atI_nat (j := 1) rfl, _, rfl, _, rfl, .ref b, x, c, r, rfl, ⟨b, xs, rfl, hb, hps⟩, by omega, by have := len_sizeR r; omega, by omega, fun H' u sm hu => ?_⟩
    obtain ⟨b', ys, rfl, hb', hps'⟩ := hu
    refine ⟨(show 2 ≤ sizeLine by decide), fun t nt => q _ _ (sm.trans (same_new nt)) ?_⟩
    exact ⟨t, b', ys, rfl, upd_same, kn hb' nt, PartsAt.mono (STup.new nt) _ _ hps'⟩
  | oth w n r =>
    obtain ⟨a, b, xs, rfl, ha, hb, hps⟩ := hp
    have hd1 : deepR r + 1 ≤ _ := hd.1
    have hs1 : sizeR r + 1 ≤ 1000 := hd.2
    refine ⟨_, rfl, a, _, 0, _, rfl, rfl, SqT.of ha, atI_nat (j := 0) rfl, ?_⟩
    refine ⟨_, rfl, rfl, _, rfl, iteD (wd_again w) ?_⟩
    -- the rest, where the part does not bind x
    have go : ¬ (w.binds = true ∧ n = x) → ∀ (nm : Str), nm = (if n = x then c else n) → ∀ (H' : Hp) (u : V), Same H H' → RowAt H' (calledR x c r) u → ∀ t, H' t = none → Q (.ref t) (upd H' t (.tup [.str w.str, .str nm, u])) := by
      intro hb2 nm e H' u sm hu t nt
      obtain ⟨b', ys, rfl, hb', hps'⟩ := hu
      refine q _ _ (sm.trans (same_new nt)) ?_
      unfold calledP
      rw [if_neg hb2, ← e]
      exact ⟨t, b', ys, rfl, upd_same, kn hb' nt, PartsAt.mono (STup.new nt) _ _ hps'⟩
    refine ⟨_, rfl, _, .oth w n r, rfl, ⟨a, b, xs, rfl, ha, hb, hps⟩, _, rfl, ite2 (fun hw => ?_) (fun hw => ?_)⟩
    · refine ⟨_, rfl, a, _, 1, _, rfl, rfl, SqT.of ha, atI_nat (j := 1) rfl, _, rfl, rfl, _, rfl, ite2 (fun e => ?_) (fun e => ?_)⟩
      · refine ⟨_, rfl, q _ _ (Same.refl H) ?_⟩
        unfold calledP
        rw [if_pos ⟨hw, str_eq e⟩]
        exact ⟨a, b, xs, rfl, ha, hb, hps⟩
      · refine ⟨_, rfl, a, _, 1, _, rfl, rfl, SqT.of ha, atI_nat (j := 1) rfl, _, rfl, rfl, _, rfl, iteD (Bool.eq_false_iff.mpr e) ?_⟩
        refine ⟨_, rfl, a, _, 1, _, rfl, rfl, SqT.of ha, atI_nat (j := 1) rfl, ?_⟩
        refine ⟨_, rfl, rfl, _, rfl, iteD (wd_say w) ?_⟩
        refine ⟨_, rfl, _, rfl, _, rfl, a, _, 2, _, rfl, rfl, SqT.of ha, atI_nat (j := 2) rfl, _, rfl, _, rfl, .ref b, x, c, r, rfl, ⟨b, xs, rfl, hb, hps⟩, by omega, by have := len_sizeR r; omega, by omega, fun H' u sm hu => ?_⟩
        exact ⟨(show 3 ≤ sizeLine by decide), fun t nt => go (fun z => str_ne e z.2) _ (by rw [if_neg (str_ne e)]) H' u sm hu t nt⟩
    · have hb2 : ¬ (w.binds = true ∧ n = x) := fun z => hw z.1
      refine iteF ?_
      refine ⟨_, rfl, a, _, 1, _, rfl, rfl, SqT.of ha, atI_nat (j := 1) rfl, _, rfl, rfl, _, rfl, ite2 (fun e => ?_) (fun e => ?_)⟩
      · refine ⟨_, rfl, ?_⟩
        refine ⟨_, rfl, rfl, _, rfl, iteD (wd_say w) ?_⟩
        refine ⟨_, rfl, _, rfl, _, rfl, a, _, 2, _, rfl, rfl, SqT.of ha, atI_nat (j := 2) rfl, _, rfl, _, rfl, .ref b, x, c, r, rfl, ⟨b, xs, rfl, hb, hps⟩, by omega, by have := len_sizeR r; omega, by omega, fun H' u sm hu => ?_⟩
        exact ⟨(show 3 ≤ sizeLine by decide), fun t nt => go hb2 _ (by rw [if_pos (str_eq e)]) H' u sm hu t nt⟩
      · refine ⟨_, rfl, a, _, 1, _, rfl, rfl, SqT.of ha, atI_nat (j := 1) rfl, ?_⟩
        refine ⟨_, rfl, rfl, _, rfl, iteD (wd_say w) ?_⟩
        refine ⟨_, rfl, _, rfl, _, rfl, a, _, 2, _, rfl, rfl, SqT.of ha, atI_nat (j := 2) rfl, _, rfl, _, rfl, .ref b, x, c, r, rfl, ⟨b, xs, rfl, hb, hps⟩, by omega, by have := len_sizeR r; omega, by omega, fun H' u sm hu => ?_⟩
        exact ⟨(show 3 ≤ sizeLine by decide), fun t nt => go hb2 _ (by rw [if_neg (str_ne e)]) H' u sm hu t nt⟩
theorem ok_called {f fP : Addr} {fd fdP : FuncData} {n : Nat} (F : Fun K "called" "called" sCalled f fd) (mt : mg "tuple" = none)
    (GP : FnOk P w K mg base CX0 (2 * n + 2) fP fdP ps3p (spPCalled n)) (bP : Binds K fdP ps3p []) (kP : PySem.W.keepIn K (.ref fP) = true) (mP : mg "part_called" = some (.ref fP)) : FnOk P w K mg base CX0 (2 * n + 2 + 1) f fd ps3 (spCalled (n + 1)) := by
  refine F.ok scCalled (fun vs H Q E h => ?_) (fun cdv A outer s H vs Q E hr h => ?_)
  · obtain ⟨_, _, _, _, rfl, _⟩ := h
    rfl
  obtain ⟨v, x, c, r, rfl, hR, hd, hl, hs, q⟩ := h
  refine ⟨_, pss_one (ps_ret (pe_callTy call_tuple_of (by rfl) mt (by decide +kernel) (pa_cons (pe_lc (own := [("part", 3)]) (g := gName 3) (tt := tYes) (by rfl) scCalled.nd (pi_tup (pv 0))
        (blkOk_by (own := [("part", 3)]) (N := ["row", "x", "calling", "part"]) (sc := defScope sCalled) (by decide +kernel)) (fun _ _ _ _ _ => pg_name (i := 3) scCalled.nd rfl (Or.inl rfl)) (fun _ _ _ _ _ => pts_nil)
        (fun _ _ _ _ _ => pe_call GP hr (by rfl) mP kP bP .nil pass0 (pa_cons (pv 3) (pa_cons (pv 1) (pa_cons (pv 2) pa_nil))))) pa_nil))), ?_⟩
  obtain ⟨a, xs, rfl, ha, hps⟩ := hR
  have lx := PartsAt.len hps
  refine ⟨_, rfl, a, rfl, ⟨_, SqT.of ha⟩, fun D nD => ?_⟩
  refine lc_it (walk_tup (xs := xs)) (fun i H' => Same H H' ∧ ∃ vs : List V, H' D = some (.lst vs) ∧ PartsAt H' (calledR x c (r.take i)) vs ∧ vs.length = i) ⟨same_new nD, [], upd_same, rfl, rfl⟩ (fun i H' _ hP => SqT.of (hP.1 _ _ ha)) (fun i y H1 H2 hi hP hY => ?_) (fun H' hP => ?_)
  · obtain ⟨rfl, hy⟩ := hY
    obtain ⟨sm, vs, hD, hvs, hlv⟩ := hP
    obtain ⟨p, hp, hpa⟩ := PartsAt.get hps hy
    have pm : p ∈ r := List.mem_of_getElem? hp
    have d1 := deepR.mem p pm
    have s1 := sizeR.mem p pm
    refine ⟨rfl, yes (iteT ?_)⟩
    refine ⟨_, rfl, _, rfl, _, rfl, y, x, c, p, rfl, PartAt.mono (STup.of sm) p y hpa, ⟨by omega, by omega⟩, fun H3 u sm3 hu => ?_⟩
    have hD3 := sm3 _ _ hD
    have st4 : STup H3 (upd H3 D (.lst (vs ++ [u]))) := STup.lst hD3
    refine ⟨vs, hD3, by rw [hlv]; exact small1000 (by omega), fun b o e => ?_, vs ++ [u], upd_same, ?_, by rw [List.length_append, hlv]; rfl⟩
    · rw [upd_ne (ne_of_none e nD)]
      exact sm3 _ _ (sm _ _ e)
    · rw [calledR_map, List.take_add_one, hp, List.map_append, ← calledR_map]
      exact PartsAt.app (PartsAt.one (PartAt.mono st4 _ _ hu)) (PartsAt.mono ((STup.of sm3).trans st4) _ _ hvs)
  · obtain ⟨sm, vs, hD, hvs, hlv⟩ := hP
    rw [lx, List.take_length] at hvs
    refine ⟨D, vs, rfl, .inl ⟨SqL.of hD, fun t nt => q _ _ (sm.trans (same_new nt)) ⟨t, vs, rfl, upd_same, PartsAt.mono (STup.new nt) _ _ hvs⟩⟩⟩
theorem called_none {f : Addr} {fd : FuncData} {k : Nat} : FnOk P w K mg base CX0 k f fd ps3 (spCalled 0) := by
  have no : ∀ vs H Q E, ¬ spCalled 0 vs H Q E := fun vs H Q E h => by
    obtain ⟨_, _, _, _, _, _, h1, _⟩ := h
    omega
  exact ⟨fun vs H Q E h => absurd h (no vs H Q E), fun A outer s H args us vs Q E _ _ _ _ h => absurd h (no vs H Q E)⟩
theorem called_ok {fB fP fC : Addr} {fdB fdP fdC : FuncData} (FP : Fun K "part_called" "part_called" sPCalled fP fdP) (FC : Fun K "called" "called" sCalled fC fdC) (GB : FnOk P w K mg base CX0 1 fB fdB ["part"] spBinder) (bB : Binds K fdB ["part"] []) (kB : PySem.W.keepIn K (.ref fB) = true) (mB : mg "is_binder" = some (.ref fB))
    (mt : mg "tuple" = none) (bC : Binds K fdC ps3 []) (mC : mg "called" = some (.ref fC)) (bP : Binds K fdP ps3p []) (mP : mg "part_called" = some (.ref fP)) :
    ∀ n : Nat, FnOk P w K mg base CX0 (2 * n + 1) fC fdC ps3 (spCalled n)
  | 0 => called_none
  | n + 1 => ok_called FC mt (ok_pcalled FP GB bB kB mB (called_ok FP FC GB bB kB mB mt bC mC bP mP n) bC FC.kp mC) bP FP.kp mP
end
end K10

set_option Elab.async false
set_option linter.all false
set_option maxRecDepth 100000
set_option maxHeartbeats 4000000
namespace K10
open PySem PySem.Spec PyProof.Rows L2 Wk GxR
abbrev sForm : Stmt := topS 19
abbrev sBegins : Stmt := topS 20
abbrev sNPart : Stmt := topS 30
theorem scForm : FnScope ["thing"] ["thing"] (defScope sForm) := ⟨rfl, rfl, rfl, by decide +kernel, rfl, by decide +kernel, by decide +kernel⟩
theorem scBegins : FnScope ["thing"] ["thing"] (defScope sBegins) := ⟨rfl, rfl, rfl, by decide +kernel, rfl, by decide +kernel, by decide +kernel⟩
theorem scNPart : FnScope ["thing"] ["thing"] (defScope sNPart) := ⟨rfl, rfl, rfl, by decide +kernel, rfl, by decide +kernel, by decide +kernel⟩
section
variable {P : Program} {w : World} {K : PySem.W.Frag} {mg : Str → Option Value} {base : Heap} {T : Addr} {Ts : List Addr}
theorem ok_begins {f : Addr} {fd : FuncData} {k : Nat} (F : Fun K "begins_with_word" "begins_with_word" sBegins f fd) (mi : mg "isinstance" = none) (mt : mg "tuple" = none) (ms : mg "str" = none) (ml : mg "len" = none) :
    FnOk P w K mg base CX0 (k + 1) f fd ["thing"] spBegins := by
  refine F.ok scBegins (fun vs H Q E h => ?_) (fun cdv A outer s H vs Q E hr h => ?_)
  · obtain ⟨_, _, rfl, _⟩ := h
    rfl
  obtain ⟨v, t, rfl, ht, q⟩ := h
  refine ⟨_, pss_one (ps_ret (pe_and (pe_callB call_isi (by rfl) mi (by decide +kernel) (pa_cons (pv 0) (pa_cons (pe_bltn (v := .ty "tuple") (by rfl) mt (by decide +kernel) rfl) pa_nil)))
    (pe_and (pe_cmpR op_gt (pe_callB call_len_seq (by rfl) ml PySem.boot_len (pa_cons (pv 0) pa_nil)) pe_int (nomark _))
      (pe_one (pe_callB call_isi (by rfl) mi (by decide +kernel) (pa_cons (pe_ix ix_tup (pv 0) pe_int (fun _ _ => rfl)) (pa_cons (pe_bltn (v := .ty "str") (by rfl) ms (by decide +kernel) rfl) pa_nil))))))), ?_⟩
  obtain ⟨ty, h1, h2, h3⟩ := ht.tyT (K := K)
  refine ⟨_, rfl, v, .ty "tuple", .type ty, .type "tuple", isTup t, rfl, .ty "tuple", h1, h2, _, rfl, ?_⟩
  match t, ht, q with
  | .tup [], ht, q =>
    obtain ⟨a, vs, rfl, ha, hv⟩ := ht
    have e0 : vs = [] := hv
    subst e0
    exact iteT ⟨_, rfl, a, [], rfl, .inr (SqT.of ha), _, _, rfl, rfl, _, rfl, iteD (by decide) q⟩
  | .tup (x :: r), ht, q =>
    obtain ⟨a, vs, rfl, ha, u, us, rfl, hx, hus⟩ := ht
    refine iteT ⟨_, rfl, a, u :: us, rfl, .inr (SqT.of ha), _, _, rfl, rfl, _, rfl, iteU (decide_eq_true (by show (0 : Int) < (((u :: us).length : Nat) : Int); rw [List.length_cons]; omega)) ?_⟩
    obtain ⟨ty, g1, g2, g3⟩ := hx.tyT (K := K)
    refine ⟨_, rfl, a, _, 0, _, rfl, rfl, SqT.of ha, atI_nat (j := 0) rfl, u, .ty "str", .type ty, .type "str", isStrT x, rfl, .ty "str", g1, g3, ?_⟩
    have e : wordT (.tup (x :: r)) = isStrT x := by cases x <;> rfl
    rw [e] at q
    exact q
  | .non, _, q => exact iteF q
  | .int _, _, q => exact iteF q
  | .bl _, _, q => exact iteF q
  | .lst _, _, q => exact iteF q
  | .str _, _, q => exact iteF q
  | .dct, _, q => exact iteF q
theorem ok_formG {f dS fB : Addr} {fd fdB : FuncData} {k : Nat} (F : Fun K "has_form" "has_form" sForm f fd) (ml : mg "len" = none) (mS : mg "SIZES" = some (.ref dS)) (hS : SizesG K w dS)
    (GB : FnOk P w K mg base CX0 k fB fdB ["thing"] spBegins) (bB : Binds K fdB ["thing"] []) (kB : PySem.W.keepIn K (.ref fB) = true) (mB : mg "begins_with_word" = some (.ref fB)) :
    FnOk P w K mg base CX0 (k + 1) f fd ["thing"] spFormG := by
  refine F.ok scForm (fun vs H Q E h => ?_) (fun cdv A outer s H vs Q E hr h => ?_)
  · obtain ⟨_, _, rfl, _⟩ := h
    rfl
  obtain ⟨v, t, rfl, ht, q⟩ := h
  refine ⟨_, pss_one (ps_ret (pe_and (pe_call GB hr (by rfl) mB kB bB .nil pass0 (pa_cons (pv 0) pa_nil))
      (pe_one (pe_cmpR op_eq (pe_kget (pe_glob (v := .ref dS) (by rfl) mS rfl) (pe_ix ix_tup (pv 0) pe_int (fun _ _ => rfl)) ⟨rfl, rfl, rfl, rfl⟩) (pe_callB call_len_seq (by rfl) ml PySem.boot_len (pa_cons (pv 0) pa_nil)) (nomark _))))), ?_⟩
  refine ⟨_, rfl, v, t, rfl, ht, _, rfl, ?_⟩
  by_cases c : wordT t = true
  · rw [c]
    refine iteT ?_
    obtain ⟨z, r, rfl⟩ := word_cases c
    obtain ⟨a, vs, rfl, ha, u, us, rfl, hx, hus⟩ := ht
    have lu := ThsAt.len hus
    have ez : u = .str z := hx
    subst ez
    obtain ⟨rr, r1, r2⟩ := hS.2 z
    refine ⟨dS, rfl, hS.1, _, rfl, a, _, 0, _, rfl, rfl, SqT.of ha, atI_nat (j := 0) rfl, z, rr, szV z, rfl, r1, r2, _, rfl, a, _, rfl, .inr (SqT.of ha), szV_scal z _, ?_⟩
    have e : formB (.tup (.str z :: r)) = decide (szV z = V.int ((V.str z :: us).length : Nat)) := by
      rw [szV_eq, List.length_cons, lu]
      rfl
    rw [e] at q
    exact q
  · have c' : wordT t = false := Bool.eq_false_iff.mpr c
    rw [c']
    rw [form_word c'] at q
    exact iteF q
theorem ok_callingG {f : Addr} {fd : FuncData} {k : Nat} (F : Fun K "calling_of" "calling_of" sCalling f fd) : FnOk P w K mg base CX0 (k + 1) f fd ["part"] spCallingG := by
  refine F.ok scCalling (fun vs H Q E h => ?_) (fun cdv A outer s H vs Q E hr h => ?_)
  · obtain ⟨_, _, _, _, rfl, _⟩ := h
    rfl
  obtain ⟨v, z, x, r, rfl, ht, q1, q2⟩ := h
  refine ⟨_, pss_one (ps_ret (pe_ifExp (pt_cmpR op_eq (pe_ix ix_tup (pv 0) pe_int (fun _ _ => rfl)) pe_str (nomark _)) pe_non (pe_ix ix_tup (pv 0) pe_int (fun _ _ => rfl)))), ?_⟩
  obtain ⟨a, vs, rfl, ha, u, us, rfl, hx, u2, us2, rfl, hx2, _⟩ := ht
  have ez : u = .str z := hx
  subst ez
  refine ⟨_, rfl, a, _, 0, _, rfl, rfl, SqT.of ha, atI_nat (j := 0) rfl, rfl, _, rfl, ite2 (fun c => q1 (str_eq c)) (fun c => ?_)⟩
  exact ⟨_, rfl, a, _, 1, _, rfl, rfl, SqT.of ha, atI_nat (j := 1) rfl, q2 (str_ne c) u2 hx2⟩
theorem ok_restG {f : Addr} {fd : FuncData} {k : Nat} (F : Fun K "rest_of" "rest_of" sRest f fd) : FnOk P w K mg base CX0 (k + 1) f fd ["part"] spRestG := by
  refine F.ok scRest (fun vs H Q E h => ?_) (fun cdv A outer s H vs Q E hr h => ?_)
  · obtain ⟨_, _, _, rfl, _⟩ := h
    rfl
  obtain ⟨v, t, G, rfl, ht, kp, hn, q⟩ := h
  refine ⟨_, pss_one (ps_ret (pe_ifExp (pt_cmpR op_eq (pe_ix ix_tup (pv 0) pe_int (fun _ _ => rfl)) pe_str (nomark _)) (pe_tup pa_nil) (pe_ix ix_tup (pv 0) (pe_un un_neg pe_int) (fun _ _ => rfl)))), ?_⟩
  rcases np_cases hn with ⟨n, rfl, _⟩ | ⟨y, rfl⟩ | ⟨wd, n, y, rfl, _⟩
  · obtain ⟨a, vs, rfl, ha0, u, us, rfl, hx, _⟩ := ht
    have ez : u = .str "say" := hx
    subst ez
    have ha := kp _ _ (fun _ z => by cases z) ha0
    refine ⟨_, rfl, a, _, 0, _, rfl, rfl, SqT.of ha, atI_nat (j := 0) rfl, rfl, _, rfl, iteU (by decide +kernel) ?_⟩
    exact ⟨(show 0 ≤ sizeLine by decide), fun p np => q _ _ (same_new np) (.inr ⟨rfl, p, rfl, upd_same⟩)⟩
  · obtain ⟨a, vs, rfl, ha0, u, us, rfl, hx, u2, us2, rfl, hy, h0⟩ := ht
    have ez : u = .str "again" := hx
    have e0 : us2 = [] := h0
    subst ez e0
    have ha := kp _ _ (fun _ z => by cases z) ha0
    refine ⟨_, rfl, a, _, 0, _, rfl, rfl, SqT.of ha, atI_nat (j := 0) rfl, rfl, _, rfl, iteD (by decide +kernel) ?_⟩
    refine ⟨_, rfl, _, rfl, a, _, -1, _, rfl, rfl, SqT.of ha, atI_last (k := 1) rfl rfl, q _ _ (fun _ _ e => e) ?_⟩
    have e : restT (Th.tup [.str "again", y]) = y := by
      show (if ("again" : Str) = "say" then Th.tup [] else _) = _
      rw [if_neg (by decide +kernel)]
      rfl
    rw [e]
    exact .inl hy
  · obtain ⟨a, vs, rfl, ha0, u, us, rfl, hx, u2, us2, rfl, _, u3, us3, rfl, hy, h0⟩ := ht
    have ez : u = .str wd.str := hx
    have e0 : us3 = [] := h0
    subst ez e0
    have ha := kp _ _ (fun _ z => by cases z) ha0
    refine ⟨_, rfl, a, _, 0, _, rfl, rfl, SqT.of ha, atI_nat (j := 0) rfl, rfl, _, rfl, iteD (wd_say wd) ?_⟩
    refine ⟨_, rfl, _, rfl, a, _, -1, _, rfl, rfl, SqT.of ha, atI_last (k := 2) rfl rfl, q _ _ (fun _ _ e => e) ?_⟩
    have e : restT (Th.tup [.str wd.str, .str n, y]) = y := by
      show (if wd.str = "say" then Th.tup [] else _) = _
      rw [if_neg (wd_ne_say wd)]
      rfl
    rw [e]
    exact .inl hy
theorem ok_npartG {f fF fC fN : Addr} {fd fdF fdC fdN : FuncData} (F : Fun K "is_named_part" "is_named_part" sNPart f fd)
    (GF : FnOk P w K mg base CX0 2 fF fdF ["thing"] spFormG) (bF : Binds K fdF ["thing"] []) (kF : PySem.W.keepIn K (.ref fF) = true) (mF : mg "has_form" = some (.ref fF))
    (GC : FnOk P w K mg base CX0 1 fC fdC ["part"] spCallingG) (bC : Binds K fdC ["part"] []) (kC : PySem.W.keepIn K (.ref fC) = true) (mC : mg "calling_of" = some (.ref fC))
    (GN : FnOk P w K mg base CX0 2 fN fdN ["thing"] (spName Ts nmV)) (bN : Binds K fdN ["thing"] []) (kN : PySem.W.keepIn K (.ref fN) = true) (mN : mg "is_name" = some (.ref fN)) :
    FnOk P w K mg base CX0 3 f fd ["thing"] (spNPartG Ts) := by
  refine F.ok scNPart (fun vs H Q E h => ?_) (fun cdv A outer s H vs Q E hr h => ?_)
  · obtain ⟨_, _, rfl, _⟩ := h
    rfl
  obtain ⟨v, t, rfl, ht, ok, tg, q⟩ := h
  have r1 : Room 1 _ := hr.mono (by decide)
  refine ⟨_, pss_cons (ps_if (pt_not (pt_val (pe_call GF hr (by rfl) mF kF bF .nil pass0 (pa_cons (pv 0) pa_nil)))) (pss_one (ps_ret pe_bl)) pss_nil)
    (pss_one (ps_ret (pe_or (pe_cmpR op_eq (pe_ix ix_tup (pv 0) pe_int (fun _ _ => rfl)) pe_str (nomark _)) (pe_one (pe_call GN hr (by rfl) mN kN bN .nil pass0 (pa_cons (pe_call GC r1 (by rfl) mC kC bC .nil pass0 (pa_cons (pv 0) pa_nil)) pa_nil)))))), ?_⟩
  refine ⟨_, rfl, v, t, rfl, ht, _, rfl, ?_⟩
  by_cases c : formB t = true
  · rw [c]
    refine iteF ?_
    obtain ⟨z, x, r, rfl, hz⟩ := form_cases c
    have ht2 := ht
    obtain ⟨a, vs, rfl, ha, u, us, rfl, hx, hus⟩ := ht2
    have ez : u = .str z := hx
    subst ez
    have en : npB (.tup (.str z :: x :: r)) = (decide (z = "again") || nmT x) := by
      show (decide (szOf z = some (r.length + 2)) && (decide (z = "again") || nmT x)) = _
      rw [decide_eq_true hz, Bool.true_and]
    refine ⟨_, rfl, a, _, 0, _, rfl, rfl, SqT.of ha, atI_nat (j := 0) rfl, rfl, _, rfl, ite2 (fun g => ?_) (fun g => ?_)⟩
    · have q1 := q H (SamTs.refl tg)
      rw [en, decide_eq_true (str_eq g), Bool.true_or] at q1
      exact q1
    · have g' := str_ne g
      refine ⟨_, rfl, .ref a, z, x, r, rfl, ht, fun e => absurd e g', fun _ u2 hu2 => ?_⟩
      obtain ⟨th, e2⟩ := hu2.thing ok.2.2.1
      refine ⟨u2, rfl, th, tg, fun H' st => ?_⟩
      have q1 := q H' st
      rw [en, decide_eq_false g', Bool.false_or, ← e2] at q1
      exact q1
  · have c' : formB t = false := Bool.eq_false_iff.mpr c
    rw [c']
    refine iteT ?_
    have e : npB t = false := Bool.eq_false_iff.mpr fun h => c (np_form h)
    have q1 := q H (SamTs.refl tg)
    rw [e] at q1
    exact q1
end
end K10

set_option Elab.async false
set_option linter.all false
set_option maxRecDepth 100000
set_option maxHeartbeats 8000000
namespace K10
open PySem PySem.Spec PyProof.Rows L2 Wk GxR
abbrev sWithin : Stmt := topS 28
abbrev sBinds : Stmt := topS 29
abbrev sHouse : Stmt := topS 27
abbrev nmSm : List Str := ["thing", "most_parts", "most_deep", "is_part", "rest", "rows", "told", "deeper", "parts", "row", "part"]
abbrev psW : List Str := ["thing", "most_parts", "most_deep", "is_part", "rest"]
theorem scWithin : FnScope nmSm psW (defScope sWithin) := ⟨rfl, rfl, rfl, by decide +kernel, rfl, by decide +kernel, by decide +kernel⟩
theorem scBinds : FnScope ["free", "bound"] ["free", "bound"] (defScope sBinds) := ⟨rfl, rfl, rfl, by decide +kernel, rfl, by decide +kernel, by decide +kernel⟩
theorem scHouse : FnScope ["thing", "free", "bound"] ["thing"] (defScope sHouse) := ⟨rfl, rfl, rfl, by decide +kernel, rfl, by decide +kernel, by decide +kernel⟩
section
variable {P : Program} {w : World} {K : PySem.W.Frag} {mg : Str → Option Value} {base : Heap} {T : Addr} {Ts : List Addr}
theorem ok_within {f c fN fR : Addr} {fd fdN fdR : FuncData} (F : FunC K "parts_within" "parts_within" sWithin f c fd) (TB : TabB base mg c T) (mT : T ∈ Ts)
    (GN : FnOk P w K mg base CX0 3 fN fdN ["thing"] (spNPartG Ts)) (bN : Binds K fdN ["thing"] []) (kN : PySem.W.keepIn K (.ref fN) = true)
    (GR : FnOk P w K mg base CX0 1 fR fdR ["part"] spRestG) (bR : Binds K fdR ["part"] []) (kR : PySem.W.keepIn K (.ref fR) = true)
    (mi : mg "isinstance" = none) (mt : mg "tuple" = none) (ml : mg "len" = none) (ma : mg "all" = none) (ms : mg "sum" = none) (mr : mg "range" = none) :
    FnOk P w K mg base CX0 5 f fd psW (spPartsG Ts fN fR) := by
  refine F.okN scWithin (fun vs H Q E h => ?_) (fun A outer s H vs Q E hr h => ?_)
  · obtain ⟨_, _, rfl, _⟩ := h
    rfl
  obtain ⟨v, t, rfl, ht, ok, tg, qn, qy⟩ := h
  have r1 : Room 1 _ := hr.mono (by decide)
  have hr2 : ∀ e, Room 3 ((A.deeper (envOfC "parts_within" (defScope sWithin) s.heap.objs.size f (.ref c))).in1.in1.deeper e) := fun e => Wk.Room.gen hr e
  refine ⟨_, pss_cons (ps_set (i := 5) scWithin.nd rfl (.inl rfl) (pe_lst (pa_cons (pv 0) pa_nil))) (pss_cons (ps_set (i := 6) scWithin.nd rfl (.inl rfl) (pe_lst pa_nil))
    (pss_cons (ps_for PassesOwn.never rfl (pi_range1 rfl mr (pa_cons (pe_op op_add (pv 2) pe_int) pa_nil)) (pg_name (i := 7) scWithin.nd rfl (.inl rfl))
      (pss_cons (ps_if (pt_not (pt_val (pe_allX (own := [("row", 9)]) (g := gName 9) hr rfl scWithin.nd (by rfl) ma (by decide +kernel) TB rfl rfl (by decide +kernel) rfl
          (blkOk_by (own := [("row", 9)]) (N := nmSm) (sc := defScope sWithin) (by decide +kernel)) (pi_list (pv 5)) (fun _ => rfl) (fun _ _ _ _ _ _ _ => pg_name (i := 9) scWithin.nd rfl (Or.inl rfl))
          (te := tCB (rIsi K) (tCons (tVar 9) (tCons (tC (.ty "tuple")) tNil)))
          (fun _ _ _ _ _ _ _ => pe_callB call_isi (by rfl) mi (by decide +kernel) (pa_cons (pv 9) (pa_cons (pe_bltn (v := .ty "tuple") (by rfl) mt (by decide +kernel) rfl) pa_nil)))))) (pss_one (ps_ret pe_non)) pss_nil)
      (pss_cons (ps_if (pt_cmpR op_gt (pe_op op_add (pe_callB call_len_seq (by rfl) ml PySem.boot_len (pa_cons (pv 6) pa_nil)) (pe_sumX (own := [("row", 9)]) (g := gName 9) hr rfl scWithin.nd (by rfl) ms (by decide +kernel) TB rfl rfl (by decide +kernel) rfl
          (blkOk_by (own := [("row", 9)]) (N := nmSm) (sc := defScope sWithin) (by decide +kernel)) (pi_list (pv 5)) (fun _ => rfl) (fun _ _ _ _ _ _ _ => pg_name (i := 9) scWithin.nd rfl (Or.inl rfl))
          (te := tCB (fun xs H Q => ∃ p ys, xs = [.ref p] ∧ (SqL K H p ys ∨ SqT K H p ys) ∧ Q (.int ys.length) H) (tCons (tVar 9) tNil))
          (fun _ _ _ _ _ _ _ => pe_callB call_len_seq (by rfl) ml PySem.boot_len (pa_cons (pv 9) pa_nil)))) (pv 1) (nomark _)) (pss_one (ps_ret pe_non)) pss_nil)
      (pss_cons (ps_setLc2 (i := 8) (own := [("row", 9), ("part", 10)]) (vs1 := [10]) (g := gName 9) (g1 := gName 10) (tt := tYes) (tt1 := tYes) (wi1 := iTup K (tVar 9)) (te := tVar 10) (by rfl) scWithin.nd rfl rfl (sw_true rfl rfl rfl (by decide +kernel)) (pi_list (pv 5))
          (blkOk_by (own := [("row", 9), ("part", 10)]) (N := nmSm) (sc := defScope sWithin) (by decide +kernel)) (by decide) (fun _ _ _ _ _ => pg_name (i := 9) scWithin.nd rfl (Or.inl rfl)) (fun _ _ _ _ _ => pts_nil)
          (fun _ _ _ _ _ => pi_tup (pv 9)) (fun _ _ _ _ _ => pg_name (i := 10) scWithin.nd rfl (Or.inl rfl)) (fun _ _ _ _ _ => pts_nil) (fun _ _ _ _ _ => pv 10))
      (pss_cons (ps_if (pt_not (pt_truth (pv 8) (by intro _; rfl))) (pss_one (ps_ret (pv 6))) pss_nil)
      (pss_cons (ps_if (pt_not (pt_val (pe_allX (own := [("part", 10)]) (g := gName 10) hr rfl scWithin.nd (by rfl) ma (by decide +kernel) TB rfl rfl (by decide +kernel) rfl
          (blkOk_by (own := [("part", 10)]) (N := nmSm) (sc := defScope sWithin) (by decide +kernel)) (pi_list (pv 8)) (fun _ => rfl) (fun _ _ _ _ _ _ _ => pg_name (i := 10) scWithin.nd rfl (Or.inl rfl))
          (te := tCallL 3 fN (spNPartG Ts) [] E0 (tCons (tVar 10) tNil))
          (fun _ _ _ _ _ _ _ => pe_callL GN (hr2 _) rfl (.inr (.inr rfl)) kN bN .nil pass0 (pa_cons (pv 10) pa_nil))))) (pss_one (ps_ret pe_non)) pss_nil)
      (pss_cons (ps_expr (pe_bm PySem.F.plainAttrs_list PySem.F.slot_list_extend PySem.F.type_list_extend mt_extend (pv 6) (pa_cons (pv 8) pa_nil)))
      (pss_one (ps_setLc (i := 5) (own := [("part", 10)]) (g := gName 10) (tt := tYes) (te := tCallL 4 fR spRestG [] E0 (tCons (tVar 10) tNil)) (by rfl) scWithin.nd rfl rfl (sw_true rfl rfl rfl (by decide +kernel)) (pi_list (pv 8))
          (blkOk_by (own := [("part", 10)]) (N := nmSm) (sc := defScope sWithin) (by decide +kernel)) (fun _ _ _ _ _ => pg_name (i := 10) scWithin.nd rfl (Or.inl rfl)) (fun _ _ _ _ _ => pts_nil)
          (fun _ _ _ _ _ => pe_callL GR r1 rfl (.inr (.inl rfl)) kR bR .nil pass0 (pa_cons (pv 10) pa_nil)))))))))))
    (pss_one (ps_ret pe_non)))), ?_⟩
  refine ⟨_, rfl, (show 1 ≤ sizeLine by decide), fun R0 nR0 => ?_⟩
  have st0 : SamTs Ts H (upd H R0 (.lst [v])) := (SamTs.refl tg).new nR0
  refine ⟨(show 0 ≤ sizeLine by decide), fun T0 nT0 => ?_⟩
  have st1 : SamTs Ts H (upd (upd H R0 (.lst [v])) T0 (.lst [])) := st0.new nT0
  refine ⟨_, rfl, 24, 1, rfl, rfl, 25, rfl, by decide, by decide, for_range (n := 25) (lo := 0) (fun i σ H' => SamTs Ts H H' ∧ ∃ (ts : List Th) (ws tv : List V) (R Tl : Addr) (m : Nat) (s3 s4 s5 s6 : Option V), H' R = some (.lst ws) ∧ OrsAt H H' ts ws ∧ (∀ q ∈ ts, okT q) ∧ ts.length ≤ 401 ∧ m ≤ 400 ∧ H Tl = none ∧ H' Tl = some (.lst tv) ∧ tv.length = m ∧ smallT (25 - i) m ts = smallT 25 0 [t] ∧
      σ = [some v, some (.int 400), some (.int 24), some (.ref fN), some (.ref fR), some (.ref R), some (.ref Tl), s3, s4, s5, s6])
    ⟨st1, [t], [v], [], R0, T0, 0, _, _, _, _, kn upd_same nT0, ⟨v, [], rfl, .inl ht, rfl⟩, (fun x hx => by rw [List.mem_singleton.mp hx]; exact ok), (by show 1 ≤ 401; decide), Nat.zero_le _, SamTs.none tg st0 nT0, upd_same, rfl, rfl, rfl⟩ (fun i σ H1 hi hP => ?_) (fun σ H' hP => ?_)⟩
  · obtain ⟨st, ts, ws, tv, R, Tl, m, s3, s4, s5, s6, hRl, hors, hol, hll, hm, nTl, hTl, ltv, hsm, rfl⟩ := hP
    have hlv := OrsAt.all (Kpt.of tg st) hors
    have lw := ThsAt.len hlv
    have tg1 := st.2
    obtain ⟨n, en⟩ : ∃ n, 25 - i = n + 1 := ⟨24 - i, by omega⟩
    have en2 : 25 - (i + 1) = n := by omega
    rw [en] at hsm
    unfold smallT at hsm
    have ans : ∀ (H' : Hp), SamTs Ts H1 H' → false = smallT 25 0 [t] → Q .non H' := fun H' s' e => qn e.symm H' (st.trans s')
    -- all rows are tuples
    refine ⟨_, rfl, R, rfl, ⟨ws, SqL.of hRl⟩, tg1 T mT, fun H2 hT => ⟨ts.length, fun j => (ts[j]?).elim false isTup, fun _ H' => SamTs Ts H1 H', SamTs.tab mT tg1 hT, fun j H' hj hW => ?_, fun H3 hall hW => ?_, fun j H3 hj hf hW => ?_⟩⟩
    · rcases Nat.lt_or_ge j ts.length with hlt | hge
      · have hlw : j < ws.length := by omega
        refine .inr ⟨hlt, ⟨ws, ws[j], SqL.of (hW.lst tg1 hRl), List.getElem?_eq_getElem hlw⟩, fun y H3 hy => ?_⟩
        obtain ⟨rfl, hy⟩ := hy
        obtain ⟨x, hx, hxa⟩ := ThsAt.get hlv (hy ws (SqL.of (hW.lst tg1 hRl)))
        obtain ⟨ty, h1, h2, h3⟩ := (ThAt.mono (Kpt.of tg1 hW) x y hxa).tyT (K := K)
        refine ⟨rfl, _, rfl, y, .ty "tuple", .type ty, .type "tuple", isTup x, rfl, .ty "tuple", h1, h2, ?_, hW⟩
        show V.bl (isTup x) = V.bl ((ts[j]?).elim false isTup)
        rw [hx]
        rfl
      · exact .inl ⟨by omega, ws, SqL.of (hW.lst tg1 hRl), by omega⟩
    rotate_left
    · -- one is none
      refine ⟨_, rfl, iteT (ans H3 hW ?_)⟩
      have c1 : ¬ ts.all isTup = true := fun c => by
        have hf' : (ts[j]?).elim false isTup = false := hf
        rw [List.getElem?_eq_getElem hj] at hf'
        have := List.all_eq_true.mp c ts[j] (List.getElem_mem hj)
        have hf' : isTup ts[j] = false := hf'
        rw [hf'] at this
        cases this
      rw [if_neg c1] at hsm
      exact hsm
    refine ⟨_, rfl, iteF ?_⟩
    have c1 : ts.all isTup = true := List.all_eq_true.mpr fun x hx => by
      obtain ⟨j, hj⟩ := List.getElem?_of_mem hx
      have hlt := (List.getElem?_eq_some_iff.mp hj).1
      have := hall j hlt
      have this : (ts[j]?).elim false isTup = true := this
      rw [hj] at this
      exact this
    rw [if_pos c1] at hsm
    have tupx : ∀ x ∈ ts, x = .tup (itemsT x) := fun x hx => by
      have := List.all_eq_true.mp c1 x hx
      cases x with
      | tup ys => rfl
      | _ => cases this
    have hRl3 := hW.lst tg1 hRl
    have hlv3 := ThsAt.mono (Kpt.of tg1 hW) _ _ hlv
    have tg3 := hW.2
    have ans3 : ∀ (H' : Hp), SamTs Ts H3 H' → false = smallT 25 0 [t] → Q .non H' := fun H' s' e => ans H' (hW.trans s') e
    have hTl3 := hW.lst tg1 hTl
    have hors3 := OrsAt.mono (hW.tup tg1) hors
    have st3 := st.trans hW
    clear hRl hlv hT ans hW hall tg1 st hTl hors
    -- how many they have
    refine ⟨_, rfl, Tl, tv, rfl, .inl (SqL.of hTl3), _, rfl, R, rfl, ⟨ws, SqL.of hRl3⟩, tg3 T mT, fun H4 hT4 => ⟨ts.length, fun j => (ts[j]?).elim (0 : Int) fun x => ((itemsT x).length : Nat), fun _ H' => SamTs Ts H3 H', SamTs.tab mT tg3 hT4, fun j H' hj hW => ?_, fun j hj => ?_, fun H5 hW => ?_⟩⟩
    · rcases Nat.lt_or_ge j ts.length with hlt | hge
      · have hlw : j < ws.length := by omega
        refine .inr ⟨hlt, ⟨ws, ws[j], SqL.of (hW.lst tg3 hRl3), List.getElem?_eq_getElem hlw⟩, fun y H6 hy => ?_⟩
        obtain ⟨rfl, hy⟩ := hy
        obtain ⟨x, hx, hxa⟩ := ThsAt.get hlv3 (hy ws (SqL.of (hW.lst tg3 hRl3)))
        have ex := tupx x (List.mem_of_getElem? hx)
        rw [ex] at hxa
        obtain ⟨a, xs, rfl, ha, hxs⟩ := hxa
        refine ⟨rfl, _, rfl, a, xs, rfl, .inr (SqT.of (hW.tup tg3 _ _ ha)), ?_, hW⟩
        rw [ThsAt.len hxs]
        show V.int ((itemsT x).length : Nat) = V.int ((ts[j]?).elim (0 : Int) fun x => ((itemsT x).length : Nat))
        rw [hx]
        rfl
      · exact .inl ⟨by omega, ws, SqL.of (hW.lst tg3 hRl3), by omega⟩
    · have e := lens_sum ts (j + 1) hj
      have le := flat_le hol (j + 1)
      have e0 := lens_sum ts j (Nat.le_of_lt hj)
      have b1 : preSum (fun j => ((ts[j]?).elim (0 : Int) fun x => ((itemsT x).length : Nat))) (j + 1) = preSum (fun j => ((ts[j]?).elim (0 : Int) fun x => ((itemsT x).length : Nat))) j + (ts[j]?).elim (0 : Int) (fun x => ((itemsT x).length : Nat)) := rfl
      unfold InLong
      rw [e]
      rw [e, e0] at b1
      dsimp only
      have b2 : (0 : Int) ≤ (ts[j]?).elim (0 : Int) (fun x => ((itemsT x).length : Nat)) := by
        rw [List.getElem?_eq_getElem hj]
        exact Int.natCast_nonneg _
      omega
    rw [lens_sum ts ts.length (Nat.le_refl _), List.take_length]
    refine ⟨_, _, rfl, rfl, _, rfl, _, _, rfl, rfl, _, rfl, ?_⟩
    rw [ltv]
    have ans5 : ∀ (H' : Hp), SamTs Ts H5 H' → false = smallT 25 0 [t] → Q .non H' := fun H' s' e => ans3 H' (hW.trans s') e
    have hTl5 := hW.lst tg3 hTl3
    have hors5 := OrsAt.mono (hW.tup tg3) hors3
    have kp5 : Kpt H H5 := Kpt.of tg (st3.trans hW)
    have st5 := st3.trans hW
    have hRl5 := hW.lst tg3 hRl3
    have hlv5 := ThsAt.mono (Kpt.of tg3 hW) _ _ hlv3
    have tg5 := hW.2
    clear hRl3 hlv3 st3 hW hT4 ans3 tg3 hTl3 hors3
    by_cases c2 : m + (ts.map itemsT).flatten.length ≤ 400
    rotate_left
    · rw [if_neg c2] at hsm
      exact iteU (decide_eq_true (by show (400 : Int) < (m : Int) + (((ts.map itemsT).flatten).length : Nat); omega)) (ans5 H5 (SamTs.refl tg5) hsm)
    rw [if_pos c2] at hsm
    refine iteD (decide_eq_false (by show ¬ ((400 : Int) < (m : Int) + (((ts.map itemsT).flatten).length : Nat)); omega)) ?_
    -- all parts
    refine ⟨_, rfl, R, rfl, ⟨ws, SqL.of hRl5⟩, fun D nD => ?_⟩
    refine ⟨fun i k H' => k = ts.length - i ∧ i ≤ ts.length ∧ Same H5 H' ∧ ∃ us, H' D = some (.lst us) ∧ ThsAt H ((ts.take i).map itemsT).flatten us, ⟨_, rfl, Nat.zero_le _, same_new nD, [], upd_same, rfl⟩, fun i1 k H' hW => ?_⟩
    obtain ⟨rfl, hi1, sm, us, hD, hus⟩ := hW
    have whole : ((ts.take i1).map itemsT).flatten.length ≤ (ts.map itemsT).flatten.length := by
      have e : (ts.map itemsT).flatten = ((ts.take i1).map itemsT).flatten ++ ((ts.drop i1).map itemsT).flatten := by
        rw [← List.flatten_append, ← List.map_append, List.take_append_drop]
      rw [e, List.length_append]
      omega
    rcases Nat.lt_or_ge i1 ts.length with hlt | hge
    · have hlw : i1 < ws.length := by omega
      refine .inr ⟨⟨ws, ws[i1], SqL.of (sm _ _ hRl5), List.getElem?_eq_getElem hlw⟩, fun H'' => Same H5 H'' ∧ ∃ us, H'' D = some (.lst us) ∧ ThsAt H ((ts.take (i1 + 1)).map itemsT).flatten us, fun H'' hN => ⟨ts.length - (i1 + 1), by omega, rfl, by omega, hN.1, hN.2⟩, fun y H7 hy => ?_⟩
      obtain ⟨rfl, hy⟩ := hy
      obtain ⟨x, hx, hxa⟩ := OrsAt.get hors5 (hy ws (SqL.of (sm _ _ hRl5)))
      have ex := tupx x (List.mem_of_getElem? hx)
      rw [ex] at hxa
      obtain ⟨a, xs, rfl, ha, hxs⟩ := ThOr.tup kp5 hxa
      have lx := ThsAt.len hxs
      have tk : ((ts.take (i1 + 1)).map itemsT).flatten = ((ts.take i1).map itemsT).flatten ++ itemsT x := by
        rw [List.take_add_one, hx, List.map_append, List.flatten_append]
        show _ ++ (itemsT x ++ []) = _
        rw [List.append_nil]
      have wh2 : ((ts.take i1).map itemsT).flatten.length + (itemsT x).length ≤ (ts.map itemsT).flatten.length := by
        have e : (ts.map itemsT).flatten = ((ts.take (i1 + 1)).map itemsT).flatten ++ ((ts.drop (i1 + 1)).map itemsT).flatten := by
          rw [← List.flatten_append, ← List.map_append, List.take_append_drop]
        rw [e, tk, List.length_append, List.length_append]
        omega
      refine ⟨rfl, yes (iteT ?_)⟩
      refine ⟨_, rfl, a, rfl, ⟨xs, SqT.of (sm _ _ ha)⟩, fun j k H'' => k = xs.length - j ∧ j ≤ xs.length ∧ Same H5 H'' ∧ ∃ us, H'' D = some (.lst us) ∧ ThsAt H (((ts.take i1).map itemsT).flatten ++ (itemsT x).take j) us, ⟨_, rfl, Nat.zero_le _, sm, us, hD, by simpa using hus⟩, fun j k H'' hW1 => ?_⟩
      obtain ⟨rfl, hj1, sm1, us1, hD1, hus1⟩ := hW1
      rcases Nat.lt_or_ge j xs.length with hl2 | hg2
      · refine .inr ⟨⟨xs, xs[j], SqT.of (sm1 _ _ ha), List.getElem?_eq_getElem hl2⟩, fun H9 => Same H5 H9 ∧ ∃ us, H9 D = some (.lst us) ∧ ThsAt H (((ts.take i1).map itemsT).flatten ++ (itemsT x).take (j + 1)) us, fun H9 hN => ⟨xs.length - (j + 1), by omega, rfl, by omega, hN.1, hN.2⟩, fun z H10 hz => ?_⟩
        obtain ⟨rfl, hz⟩ := hz
        obtain ⟨p, hp, hpa⟩ := ThsAt.get hxs (hz xs (SqT.of (sm1 _ _ ha)))
        have lu1 := ThsAt.len hus1
        rw [List.length_append, List.length_take] at lu1
        refine ⟨rfl, yes (iteT ⟨_, rfl, us1, hD1, small1000 (by omega), fun b o e => by rw [upd_ne (ne_of_none e nD)]; exact sm1 _ _ e, us1 ++ [z], upd_same, ?_⟩)⟩
        rw [List.take_add_one, hp, ← List.append_assoc]
        exact ThsAt.app (ThsAt.one hpa) hus1
      · refine .inl ⟨⟨xs, SqT.of (sm1 _ _ ha), hg2⟩, sm1, us1, hD1, ?_⟩
        rw [tk]
        have e2 : (itemsT x).take j = itemsT x := List.take_of_length_le (by omega)
        rw [e2] at hus1
        exact hus1
    refine .inl ⟨⟨ws, SqL.of (sm _ _ hRl5), by omega⟩, ?_⟩
    rw [List.take_of_length_le hge] at hus
    have hus7 := ThsAt.mono (kp5.trans (Kpt.same sm)) _ _ hus
    have lu := ThsAt.len hus
    have okp : ∀ x ∈ (ts.map itemsT).flatten, okT x := fun x hx => by
      obtain ⟨ys, hys, hx2⟩ := List.mem_flatten.mp hx
      obtain ⟨y, hy, rfl⟩ := List.mem_map.mp hys
      exact (hol y hy).items.2 x hx2
    have st7 := st5.sm sm
    have ans7 : ∀ (H'' : Hp), SamTs Ts H' H'' → false = smallT 25 0 [t] → Q .non H'' := fun H'' s' e => ans5 H'' (((SamTs.refl tg5).sm sm).trans s') e
    have nDT : D ≠ Tl := fun z => by
      rw [z] at nD
      rw [hTl5] at nD
      cases nD
    have hTl7 := sm _ _ hTl5
    have tg7 := st7.2
    clear st5 sm hRl5 hlv5 tg5 ans5 tupx c1 hTl5 hors5 kp5 nD
    generalize (ts.map itemsT).flatten = ps at *
    -- none, or some
    refine ⟨_, rfl, _, .inl ⟨us, SqL.of hD, rfl⟩, ?_⟩
    by_cases hem : ps = []
    · have e0 : us = [] := List.length_eq_zero_iff.mp (by rw [lu, hem]; rfl)
      rw [if_pos hem] at hsm
      rw [e0]
      exact iteT ⟨_, rfl, qy hsm.symm H' Tl st7⟩
    rw [if_neg hem] at hsm
    have hne : us.isEmpty = false := by
      cases us with
      | nil => exact absurd (List.length_eq_zero_iff.mp lu.symm) hem
      | cons x l => rfl
    refine iteD (by rw [hne]; rfl) ?_
    -- each is a part with a name
    refine ⟨_, rfl, D, rfl, ⟨us, SqL.of hD⟩, tg7 T mT, fun H12 hT => ⟨ps.length, fun j => (ps[j]?).elim false npB, fun _ H'' => SamTs Ts H' H'', SamTs.tab mT tg7 hT, fun j H'' hj hW => ?_, fun H13 hall hW => ?_, fun j H13 hj hf hW => ?_⟩⟩
    · rcases Nat.lt_or_ge j ps.length with hlt | hge
      · have hlu : j < us.length := by omega
        refine .inr ⟨hlt, ⟨us, us[j], SqL.of (hW.lst tg7 hD), List.getElem?_eq_getElem hlu⟩, fun y H3 hy => ?_⟩
        obtain ⟨rfl, hy⟩ := hy
        obtain ⟨x, hx, hxa⟩ := ThsAt.get hus7 (hy us (SqL.of (hW.lst tg7 hD)))
        refine ⟨rfl, rfl, _, rfl, y, x, rfl, ThAt.mono (Kpt.of tg7 hW) x y hxa, okp x (List.mem_of_getElem? hx), hW.2, fun H5' s5 => ⟨?_, hW.trans s5⟩⟩
        show V.bl (npB x) = V.bl ((ps[j]?).elim false npB)
        rw [hx]
        rfl
      · exact .inl ⟨by omega, us, SqL.of (hW.lst tg7 hD), by omega⟩
    rotate_left
    · refine ⟨_, rfl, iteT (ans7 H13 hW ?_)⟩
      have c4 : ¬ ps.all npB = true := fun c => by
        have hf' : (ps[j]?).elim false npB = false := hf
        rw [List.getElem?_eq_getElem hj] at hf'
        have := List.all_eq_true.mp c ps[j] (List.getElem_mem hj)
        have hf' : npB ps[j] = false := hf'
        rw [hf'] at this
        cases this
      rw [if_neg c4] at hsm
      exact hsm
    have c4 : ps.all npB = true := List.all_eq_true.mpr fun x hx => by
      obtain ⟨j, hj⟩ := List.getElem?_of_mem hx
      have hlt := (List.getElem?_eq_some_iff.mp hj).1
      have := hall j hlt
      have this : (ps[j]?).elim false npB = true := this
      rw [hj] at this
      exact this
    rw [if_pos c4] at hsm
    refine ⟨_, rfl, iteF ?_⟩
    have st13 := st7.trans hW
    have hD13 := hW.lst tg7 hD
    have hTl13 := hW.lst tg7 hTl7
    clear hD hus7 hT hW ans7 hall hTl7
    -- put to the others
    refine ⟨_, rfl, .inl ⟨rfl, _, SqL.of hTl13⟩, _, rfl, Tl, D, tv, us, rfl, rfl, hTl13, hD13, small (show tv.length + us.length ≤ 1000 by omega), ?_⟩
    have st14 : SamTs Ts H (upd H13 Tl (.lst (tv ++ us))) := SamTs.own tg st13 nTl
    have hD14 : upd H13 Tl (.lst (tv ++ us)) D = some (.lst us) := by
      rw [upd_ne nDT]
      exact hD13
    have hTl14 : upd H13 Tl (.lst (tv ++ us)) Tl = some (.lst (tv ++ us)) := upd_same
    clear hD13 hTl13 st13 st7
    generalize upd H13 Tl (.lst (tv ++ us)) = H13 at *
    have st13 := st14
    have hD13 := hD14
    -- their rests
    refine ⟨_, rfl, D, rfl, ⟨us, SqL.of hD13⟩, fun D2 nD2 => ?_⟩
    refine lc_it (walk_list (xs := us)) (fun j H'' => Same H13 H'' ∧ ∃ vs, H'' D2 = some (.lst vs) ∧ OrsAt H H'' ((ps.take j).map restT) vs) ⟨same_new nD2, [], upd_same, rfl⟩ (fun j H'' _ hP => SqL.of (hP.1 _ _ hD13)) (fun j y H14 H15 hj hP hY => ?_) (fun H14 hP => ?_)
    · obtain ⟨rfl, hy⟩ := hY
      obtain ⟨sm, vs, hD2, hvs⟩ := hP
      obtain ⟨x, hx, hxa⟩ := ThsAt.get hus hy
      have lv := OrsAt.len hvs
      rw [List.length_map, List.length_take] at lv
      refine ⟨rfl, yes (iteT ⟨rfl, _, rfl, y, x, H, rfl, hxa, Kpt.of tg (st13.sm sm), List.all_eq_true.mp c4 x (List.mem_of_getElem? hx), fun H16 u sm16 hu => ?_⟩)⟩
      have hD16 := sm16 _ _ hD2
      refine ⟨vs, hD16, small1000 (by omega), fun b o e => by rw [upd_ne (ne_of_none e nD2)]; exact sm16 _ _ (sm _ _ e), vs ++ [u], upd_same, ?_⟩
      rw [List.take_add_one, hx, List.map_append]
      refine OrsAt.snoc ?_ (OrsAt.mono ((STup.of sm16).trans (STup.lst hD16)) hvs)
      rcases hu with hu | ⟨e1, a, e2, h3⟩
      · exact .inl hu
      · exact .inr ⟨e1, a, e2, STup.lst hD16 _ _ h3⟩
    obtain ⟨sm, vs, hD2, hvs⟩ := hP
    rw [lu, List.take_length] at hvs
    have lnx : (ps.map restT).length ≤ 401 := by
      rw [List.length_map]
      omega
    refine ⟨st13.sm sm, ps.map restT, vs, tv ++ us, D2, Tl, m + ps.length, _, _, _, _, hD2, hvs, (fun x hx => by
      obtain ⟨p, hp, rfl⟩ := List.mem_map.mp hx
      exact (okp p hp).rest), lnx, by omega, nTl, sm _ _ hTl14, (by rw [List.length_append]; omega), (by rw [en2]; exact hsm), rfl⟩
  · obtain ⟨st, ts, ws, tv, R, Tl, m, s3, s4, s5, s6, hRl, hors, hol, hll, hm, nTl, hTl, ltv, hsm, rfl⟩ := hP
    exact qn hsm.symm H' st
theorem ok_binds {f : Addr} {fd : FuncData} {k : Nat} (F : Fun K "binds_well" "binds_well" sBinds f fd) (ml : mg "len" = none) (ms : mg "set" = none) :
    FnOk P w K mg base CX0 (k + 1) f fd ["free", "bound"] (spBinds Ts) := by
  refine F.ok scBinds (fun vs H Q E h => ?_) (fun cdv A outer s H vs Q E hr h => ?_)
  · obtain ⟨_, _, _, _, rfl, _⟩ := h
    rfl
  obtain ⟨Fl, Bl, fs, bs, rfl, hF, hB, lf, lb, tg, q⟩ := h
  refine ⟨_, pss_one (ps_ret (pe_and (pe_cmpR op_eq (pe_callB cr_lenTx (by rfl) ml PySem.boot_len (pa_cons (pe_callTy (cr_setTx rfl) (by rfl) ms (by decide +kernel) (pa_cons (pv 1) pa_nil)) pa_nil)) (pe_callB call_len_seq (by rfl) ml PySem.boot_len (pa_cons (pv 1) pa_nil)) (nomark _))
      (pe_one (pe_cmpR op_eq (pe_callB cr_lenTx (by rfl) ml PySem.boot_len (pa_cons (pe_op op_andTx (pe_callTy (cr_setTx rfl) (by rfl) ms (by decide +kernel) (pa_cons (pv 1) pa_nil)) (pe_callTy (cr_setTx rfl) (by rfl) ms (by decide +kernel) (pa_cons (pv 0) pa_nil))) pa_nil)) pe_int (nomark _))))), ?_⟩
  have eb : scanBound = 4096 := rfl
  have st2 := SamTs.refl tg
  refine ⟨_, rfl, Bl, bs, rfl, SqL.of hB, by omega, fun p L np nd hm hL => ?_⟩
  refine ⟨p, L, rfl, upd_same, ?_⟩
  refine ⟨_, rfl, Bl, _, rfl, .inl (SqL.of (kn hB np)), rfl, _, rfl, ?_⟩
  have st3 := st2.new (o := TxO P w p L) np
  have el : decide (V.int (L.length : Nat) = V.int ((bs.map V.str).length : Nat)) = decide (L.length = bs.length) := by
    rw [List.length_map]
    by_cases e : L.length = bs.length
    · rw [e, decide_eq_true rfl, decide_eq_true rfl]
    · rw [decide_eq_false e, decide_eq_false (by intro h; exact e (by have := V.int.inj h; omega))]
  rw [el]
  by_cases c2 : L.length = bs.length
  rotate_left
  · refine iteD (decide_eq_false c2) (q _ false st3 ⟨(fun e => by cases e), fun ⟨hn, _⟩ => absurd ?_ c2⟩)
    exact Nat.le_antisymm (sub_len L bs nd fun x hx => (hm x).mp hx) (sub_len bs L hn fun x hx => (hm x).mpr hx)
  refine iteU (decide_eq_true c2) ?_
  have bnd : bs.Nodup := nodup_of_len nd (fun x hx => (hm x).mpr hx) c2 (fun x hx => (hm x).mp hx)
  refine ⟨_, rfl, Bl, bs, rfl, SqL.of (kn hB np), by omega, fun p1 L1 np1 nd1 hm1 _ => ?_⟩
  have st4 := st3.new (o := TxO P w p1 L1) np1
  refine ⟨_, rfl, Fl, fs, rfl, SqL.of (kn (kn hF np) np1), by omega, fun p2 L2' np2 nd2 hm2 _ => ?_⟩
  have st5 := st4.new (o := TxO P w p2 L2') np2
  have n12 : p1 ≠ p2 := fun z => by
    rw [← z] at np2
    have u : upd (upd H p (TxO P w p L)) p1 (TxO P w p1 L1) p1 = some (TxO P w p1 L1) := upd_same
    rw [show upd (upd H p (TxO P w p L)) p1 (TxO P w p1 L1) p1 = none from np2] at u
    cases u
  have l1 := sub_len L1 bs nd1 fun x hx => (hm1 x).mp hx
  have l2 := sub_len L2' fs nd2 fun x hx => (hm2 x).mp hx
  refine ⟨p1, p2, L1, L2', rfl, rfl, n12, kn upd_same np2, upd_same, by omega, by omega, fun p3 L3 np3 nd3 hm3 => ?_⟩
  refine ⟨p3, L3, rfl, upd_same, rfl, ?_⟩
  refine q _ _ (st5.new np3) ⟨fun e => ⟨bnd, fun x hb hf => ?_⟩, fun ⟨_, ap⟩ => ?_⟩
  · have e0 : L3.length = 0 := by
      have := V.int.inj (of_decide_eq_true e)
      omega
    have e1 := List.length_eq_zero_iff.mp e0
    have hx := (hm3 x).mpr ⟨(hm1 x).mpr hb, (hm2 x).mpr hf⟩
    rw [e1] at hx
    cases hx
  · have e3 : L3 = [] := by
      cases L3 with
      | nil => rfl
      | cons x l =>
        obtain ⟨g1, g2⟩ := (hm3 x).mp List.mem_cons_self
        exact absurd ((hm2 x).mp g2) (ap x ((hm1 x).mp g1))
    rw [e3]
    exact decide_eq_true rfl
theorem ok_houseG {f fS fC fB fN fR : Addr} {fd fdS fdC fdB : FuncData} {t24 t400 : Tok} (F : Fun K "is_house" "is_house" sHouse f fd)
    (mD : mg "MOST_DEEP" = some (.int 24 t24)) (mP : mg "MOST_PARTS" = some (.int 400 t400)) (mN : mg "is_named_part" = some (.ref fN)) (mR : mg "rest_of" = some (.ref fR))
    (GS : FnOk P w K mg base CX0 5 fS fdS psW (spPartsG Ts fN fR)) (bS : Binds K fdS psW []) (kS : PySem.W.keepIn K (.ref fS) = true) (mS : mg "parts_within" = some (.ref fS))
    (GB : FnOk P w K mg base CX0 1 fB fdB ["free", "bound"] (spBinds Ts)) (bB : Binds K fdB ["free", "bound"] []) (kB : PySem.W.keepIn K (.ref fB) = true) (mB : mg "binds_well" = some (.ref fB))
    (GC : FnOk P w K mg base CX0 27 fC fdC ["row"] (spCallings 25)) (bC : Binds K fdC ["row"] []) (kC : PySem.W.keepIn K (.ref fC) = true) (mC : mg "callings_of" = some (.ref fC)) :
    FnOk P w K mg base CX0 28 f fd ["thing"] (spHouseG Ts) := by
  refine F.ok scHouse (fun vs H Q E h => ?_) (fun cdv A outer s H vs Q E hr h => ?_)
  · obtain ⟨_, _, rfl, _⟩ := h
    rfl
  obtain ⟨v, t, rfl, ht, ok, tg, q⟩ := h
  refine ⟨_, pss_cons (ps_if (pt_cmpR op_isN (pe_call GS (hr.mono (by decide)) (by rfl) mS kS bS .nil pass0 (pa_cons (pv 0) (pa_cons (pe_glob (v := .int 400) (by rfl) mP ⟨_, rfl⟩) (pa_cons (pe_glob (v := .int 24) (by rfl) mD ⟨_, rfl⟩) (pa_cons (pe_glob (v := .ref fN) (by rfl) mN rfl) (pa_cons (pe_glob (v := .ref fR) (by rfl) mR rfl) pa_nil)))))) pe_non (nomark _)) (pss_one (ps_ret pe_bl)) pss_nil)
    (pss_cons (ps_asg (pe_call GC hr (by rfl) mC kC bC .nil pass0 (pa_cons (pv 0) pa_nil)) (pg_tup rfl (pgs_cons (pg_name (i := 1) scHouse.nd rfl (.inl rfl)) (pgs_cons (pg_name (i := 2) scHouse.nd rfl (.inl rfl)) pgs_nil))))
    (pss_one (ps_ret (pe_call GB (hr.mono (by decide)) (by rfl) mB kB bB .nil pass0 (pa_cons (pv 1) (pa_cons (pv 2) pa_nil)))))), ?_⟩
  refine ⟨_, rfl, v, t, rfl, ht, ok, tg, fun c' H1 st1 => ?_, fun c H1 a1 st1 => ?_⟩
  · refine ⟨rfl, _, rfl, iteT (q H1 false st1 ⟨(fun e => by cases e), fun ⟨r, e, hh⟩ => ?_⟩)⟩
    have c := (small_iff ok).mpr ⟨r, e, hh.ok, hh.size, hh.deep⟩
    rw [c'] at c
    cases c
  refine ⟨rfl, _, rfl, iteF ?_⟩
  obtain ⟨r, rfl, hok, hsz, hdp⟩ := (small_iff ok).mp c
  have hR : RowAt H1 r v := (thRow_at ht).mono (st1.tup tg)
  refine ⟨_, rfl, v, r, rfl, hR, by omega, by omega, by omega, fun H2 t2 Fl Bl sm nF nB hne ht2 hF hB => ?_⟩
  refine ⟨t2, _, rfl, SqT.of ht2, rfl, _, _, rfl, _, _, rfl, rfl, ?_⟩
  have lf := frR_len r []
  have lb := bdR_len r
  have st2 := st1.sm sm
  have inj : ∀ r', thRow r = thRow r' → HouseR r' → HouseR r := fun r' e hh => by rw [thRow_inj e]; exact hh
  refine ⟨_, rfl, _, rfl, Fl, Bl, frR [] r, bdR r, rfl, hF, hB, by omega, by omega, st2.2, fun H3 b st3 e => q H3 b (st2.trans st3) ⟨fun hb => ?_, fun ⟨r', e', hh⟩ => ?_⟩⟩
  · obtain ⟨bnd, ap⟩ := e.mp hb
    exact ⟨r, rfl, hok, hsz, hdp, bnd, ap⟩
  · have hh' := inj r' e' hh
    exact e.mpr ⟨hh'.nd, hh'.apart⟩
end
end K10

set_option Elab.async false
set_option linter.all false
set_option maxRecDepth 100000
set_option maxHeartbeats 4000000
namespace K10
open PySem PySem.Spec PyProof.Rows L2 Wk GxR
abbrev sFreed : Stmt := topS 36
abbrev sPFreed : Stmt := topS 37
abbrev sSettled : Stmt := topS 38
abbrev nmFr : List Str := ["number", "row", "parts", "part", "told"]
theorem scFreed : FnScope nmFr ["number", "row"] (defScope sFreed) := ⟨rfl, rfl, rfl, by decide +kernel, rfl, by decide +kernel, by decide +kernel⟩
theorem scPFreed : FnScope ["number", "part", "rest"] ["number", "part"] (defScope sPFreed) := ⟨rfl, rfl, rfl, by decide +kernel, rfl, by decide +kernel, by decide +kernel⟩
theorem scSettled : FnScope ["house"] ["house"] (defScope sSettled) := ⟨rfl, rfl, rfl, by decide +kernel, rfl, by decide +kernel, by decide +kernel⟩
section
variable {P : Program} {w : World} {K : PySem.W.Frag} {mg : Str → Option Value} {base : Heap} {Ts : List Addr}
theorem ok_freed {f fP : Addr} {fd fdP : FuncData} {n k : Nat} (F : Fun K "freed" "freed" sFreed f fd) (mt : mg "tuple" = none)
    (GP : FnOk P w K mg base CX0 k fP fdP ["number", "part"] (spPFreed n)) (bP : Binds K fdP ["number", "part"] []) (kP : PySem.W.keepIn K (.ref fP) = true) (mP : mg "part_freed" = some (.ref fP)) :
    FnOk P w K mg base CX0 (k + 1) f fd ["number", "row"] (spFreed (n + 1)) := by
  refine F.ok scFreed (fun vs H Q E h => ?_) (fun cdv A outer s H vs Q E hr h => ?_)
  · obtain ⟨_, _, _, rfl, _⟩ := h
    rfl
  obtain ⟨k0, v, r, rfl, hR, hd, hs, g, hk, q⟩ := h
  refine ⟨_, pss_cons (ps_set (i := 2) scFreed.nd rfl (.inl rfl) (pe_lst pa_nil))
    (pss_cons (ps_for PassesOwn.never rfl (pi_tup (pv 1)) (pg_name (i := 3) scFreed.nd rfl (.inl rfl))
      (pss_cons (ps_asg (pe_call GP hr (by rfl) mP kP bP .nil pass0 (pa_cons (pv 0) (pa_cons (pv 3) pa_nil))) (pg_tup rfl (pgs_cons (pg_name (i := 0) scFreed.nd rfl (.inl rfl)) (pgs_cons (pg_name (i := 4) scFreed.nd rfl (.inl rfl)) pgs_nil))))
      (pss_one (ps_expr (pe_bm PySem.F.plainAttrs_list PySem.F.slot_list_extend PySem.F.type_list_extend mt_extT (pv 2) (pa_cons (pv 4) pa_nil))))))
    (pss_one (ps_ret (pe_tup (pa_cons (pv 0) (pa_cons (pe_callTy call_tuple_of (by rfl) mt (by decide +kernel) (pa_cons (pv 2) pa_nil)) pa_nil)))))), ?_⟩
  obtain ⟨a, xs, rfl, ha, hps⟩ := hR
  have lx := PartsAt.len hps
  refine ⟨(show 0 ≤ sizeLine by decide), fun D nD => ?_⟩
  refine ⟨_, rfl, a, rfl, ⟨_, SqT.of (kn ha nD)⟩, for_it (walk_tup (xs := xs)) (fun i σ H' => Same H H' ∧ (∃ us, H' D = some (.lst us) ∧ PartsAt H' (frdR (n + 1) k0 (r.take i)).2 us) ∧ ∃ s3 s4 : Option V, σ = [some (.int (frdR (n + 1) k0 (r.take i)).1), some (.ref a), some (.ref D), s3, s4])
    ⟨same_new nD, ⟨[], upd_same, rfl⟩, _, _, rfl⟩ (fun i σ H' _ hP => SqT.of (hP.1 _ _ ha)) (fun i y σ H1 H2 hi hP hY => ?_) (fun σ H' hP => ?_)⟩
  · obtain ⟨rfl, hy⟩ := hY
    obtain ⟨sm, ⟨us, hD, hus⟩, s3, s4, rfl⟩ := hP
    obtain ⟨p, hp, hpa⟩ := PartsAt.get hps hy
    have pm : p ∈ r := List.mem_of_getElem? hp
    have d1 := deepR.mem p pm
    have tk : r.take (i + 1) = r.take i ++ [p] := by rw [List.take_add_one, hp]; rfl
    have z1 := sizeR_take r (i + 1)
    rw [tk, sizeR_app, show sizeR [p] = sizeP p from Nat.add_zero _] at z1
    have dt := deepR_take r i
    have zt := sizeR_take r i
    have fo := frd_ok (n + 1) k0 (r.take i) (by omega) (g.take i) (by omega)
    have fhi := fo.hi
    have fsz := fo.size
    have fln := len_sizeR (frdR (n + 1) k0 (r.take i)).2
    have e1 : frdR (n + 1) k0 (r.take (i + 1)) = ((frdP (frdR n) (frdR (n + 1) k0 (r.take i)).1 p).1, (frdR (n + 1) k0 (r.take i)).2 ++ (frdP (frdR n) (frdR (n + 1) k0 (r.take i)).1 p).2) := by
      rw [tk]
      exact frdL_snoc (frdR n) (r.take i) k0 p
    have fo2 := frd_ok (n + 1) k0 (r.take (i + 1)) (by have := deepR_take r (i + 1); omega) (g.take (i + 1)) (by have := sizeR_take r (i + 1); omega)
    have fs2 := fo2.size
    have fl2 := len_sizeR (frdR (n + 1) k0 (r.take (i + 1))).2
    have z2 := sizeR_take r (i + 1)
    refine ⟨_, rfl, _, rfl, _, y, p, rfl, PartAt.mono (STup.of sm) p y hpa, by omega, by have := sizeR.mem p pm; omega, g.mem p pm, by omega, fun H3 u sm3 hT => ?_⟩
    obtain ⟨t, u2, rfl, ht, b, zs, rfl, hb, hzs⟩ := hT
    refine ⟨t, _, rfl, SqT.of ht, rfl, _, _, rfl, _, _, rfl, rfl, ?_⟩
    have hD3 := sm3 _ _ hD
    have lu := PartsAt.len hus
    have lz := PartsAt.len hzs
    rw [e1] at fl2 fs2
    have fl3 : ((frdR (n + 1) k0 (r.take i)).2 ++ (frdP (frdR n) (frdR (n + 1) k0 (r.take i)).1 p).2).length ≤ 1000 := by dsimp only at fl2 fs2; omega
    rw [List.length_append] at fl3
    refine ⟨_, rfl, .inl ⟨rfl, _, SqL.of hD3⟩, _, rfl, D, b, us, zs, rfl, rfl, hD3, SqT.of hb, small (by omega), fun b o e => by rw [upd_ne (ne_of_none e nD)]; exact sm3 _ _ (sm _ _ e), ⟨us ++ zs, upd_same, ?_⟩, ?_⟩
    · rw [e1]
      exact PartsAt.app (PartsAt.mono (STup.lst hD3) _ _ hzs) (PartsAt.mono ((STup.of sm3).trans (STup.lst hD3)) _ _ hus)
    · rw [e1]
      exact ⟨_, _, rfl⟩
  · obtain ⟨sm, ⟨us, hD, hus⟩, s3, s4, rfl⟩ := hP
    rw [lx, List.take_length] at hus ⊢
    refine ⟨_, rfl, _, rfl, D, us, rfl, .inl ⟨SqL.of hD, fun t nt => ?_⟩⟩
    refine ⟨(show 2 ≤ sizeLine by decide), fun t2 nt2 => ?_⟩
    exact q _ _ ((sm.trans (same_new nt)).trans (same_new nt2)) ⟨t2, .ref t, rfl, upd_same, t, us, rfl, kn upd_same nt2, PartsAt.mono ((STup.new nt).trans (STup.new nt2)) _ _ hus⟩
theorem ok_pfreed {f fF fC : Addr} {fd fdF fdC : FuncData} {n k : Nat} (F : Fun K "part_freed" "part_freed" sPFreed f fd) (hk13 : 13 ≤ k) (hn : n ≤ 6)
    (GF : FnOk P w K mg base CX0 k fF fdF ["number", "row"] (spFreed n)) (bF : Binds K fdF ["number", "row"] []) (kF : PySem.W.keepIn K (.ref fF) = true) (mF : mg "freed" = some (.ref fF))
    (GC : FnOk P w K mg base CX0 13 fC fdC ps3 (spCalled 6)) (bC : Binds K fdC ps3 []) (kC : PySem.W.keepIn K (.ref fC) = true) (mC : mg "called" = some (.ref fC)) :
    FnOk P w K mg base CX0 (k + 1) f fd ["number", "part"] (spPFreed n) := by
  refine F.ok scPFreed (fun vs H Q E h => ?_) (fun cdv A outer s H vs Q E hr h => ?_)
  · obtain ⟨_, _, _, rfl, _⟩ := h
    rfl
  obtain ⟨k0, v, p, rfl, hp, hd, hs, g, hk, q⟩ := h
  have r13 : Room 13 _ := hr.mono hk13
  refine ⟨_, pss_cons (ps_if (pt_cmpR op_eq (pe_ix ix_tup (pv 1) pe_int (fun _ _ => rfl)) pe_str (nomark _))
      (pss_cons (ps_asg (pe_call GF hr (by rfl) mF kF bF .nil pass0 (pa_cons (pv 0) (pa_cons (pe_ix ix_tup (pv 1) pe_int (fun _ _ => rfl)) pa_nil))) (pg_tup rfl (pgs_cons (pg_name (i := 0) scPFreed.nd rfl (.inl rfl)) (pgs_cons (pg_name (i := 2) scPFreed.nd rfl (.inl rfl)) pgs_nil))))
      (pss_one (ps_ret (pe_tup (pa_cons (pv 0) (pa_cons (pe_tup (pa_cons (pe_tup (pa_cons pe_str (pa_cons (pe_ix ix_tup (pv 1) pe_int (fun _ _ => rfl)) (pa_cons (pv 2) pa_nil)))) pa_nil)) pa_nil)))))) pss_nil)
    (pss_cons (ps_if (pt_cmpR op_eq (pe_ix ix_tup (pv 1) pe_int (fun _ _ => rfl)) pe_str (nomark _))
      (pss_one (ps_ret (pe_call GF hr (by rfl) mF kF bF .nil pass0 (pa_cons (pe_op op_add (pv 0) pe_int) (pa_cons (pe_call GC r13 (by rfl) mC kC bC .nil pass0 (pa_cons (pe_ix ix_tup (pv 1) pe_int (fun _ _ => rfl)) (pa_cons (pe_ix ix_tup (pv 1) pe_int (fun _ _ => rfl)) (pa_cons
        (pe_joined (.cons (pe_fmt (pe_ix ix_tup (pv 1) pe_int (fun _ _ => rfl))) (.cons pe_str (.cons (pe_fmt (pv 0)) .nil)))) pa_nil)))) pa_nil))))) pss_nil)
    (pss_one (ps_ret (pe_tup (pa_cons (pv 0) (pa_cons (pe_tup (pa_cons (pv 1) pa_nil)) pa_nil)))))), ?_⟩
  have stay : ∀ (a : Addr) (xs : List V) (wd : Str), v = .ref a → H a = some (.tup xs) → atI xs 0 = some (.str wd) → decide (V.str wd = V.str "room") = false → decide (V.str wd = V.str "new") = false → frdP (frdR n) k0 p = (k0, [p]) →
      ∀ t1, H t1 = none → ∀ t2, upd H t1 (.tup [v]) t2 = none → Q (.ref t2) (upd (upd H t1 (.tup [v])) t2 (.tup [.int k0, .ref t1])) := by
    intro a xs wd e ha h0 _ _ ef t1 n1 t2 n2
    refine q _ _ ((same_new n1).trans (same_new n2)) ?_
    rw [ef]
    exact ⟨t2, .ref t1, rfl, upd_same, t1, [v], rfl, kn upd_same n2, PartsAt.one (PartAt.mono ((STup.new n1).trans (STup.new n2)) p v hp)⟩
  cases p with
  | say m =>
    have hp2 := hp
    obtain ⟨a, rfl, ha⟩ := hp2
    refine ⟨_, rfl, a, _, 0, _, rfl, rfl, SqT.of ha, atI_nat (j := 0) rfl, rfl, _, rfl, iteD (by decide +kernel) ?_⟩
    refine ⟨_, rfl, a, _, 0, _, rfl, rfl, SqT.of ha, atI_nat (j := 0) rfl, rfl, _, rfl, iteD (by decide +kernel) ?_⟩
    exact ⟨_, rfl, _, rfl, (show 1 ≤ sizeLine by decide), fun t1 n1 => ⟨(show 2 ≤ sizeLine by decide), fun t2 n2 => stay a _ "say" rfl ha (atI_nat (j := 0) rfl) (by decide +kernel) (by decide +kernel) rfl t1 n1 t2 n2⟩⟩
  | again q' =>
    have hp2 := hp
    obtain ⟨a, b, xs, rfl, ha, _⟩ := hp2
    refine ⟨_, rfl, a, _, 0, _, rfl, rfl, SqT.of ha, atI_nat (j := 0) rfl, rfl, _, rfl, iteD (by decide +kernel) ?_⟩
    refine ⟨_, rfl, a, _, 0, _, rfl, rfl, SqT.of ha, atI_nat (j := 0) rfl, rfl, _, rfl, iteD (by decide +kernel) ?_⟩
    exact ⟨_, rfl, _, rfl, (show 1 ≤ sizeLine by decide), fun t1 n1 => ⟨(show 2 ≤ sizeLine by decide), fun t2 n2 => stay a _ "again" rfl ha (atI_nat (j := 0) rfl) (by decide +kernel) (by decide +kernel) rfl t1 n1 t2 n2⟩⟩
  | oth wd m q' =>
    have hp2 := hp
    obtain ⟨a, b, xs, rfl, ha, hb, hps⟩ := hp2
    have v1 : deepP (Part.oth wd m q') = deepR q' + 1 := rfl
    have v2 : sizeP (Part.oth wd m q') = sizeR q' + 1 := rfl
    have hrow : RowAt H q' (.ref b) := ⟨b, xs, rfl, hb, hps⟩
    by_cases c1 : wd = .room
    · subst c1
      refine ⟨_, rfl, a, _, 0, _, rfl, rfl, SqT.of ha, atI_nat (j := 0) rfl, rfl, _, rfl, iteU (by decide +kernel) ?_⟩
      refine ⟨_, rfl, _, rfl, a, _, 2, _, rfl, rfl, SqT.of ha, atI_nat (j := 2) rfl, k0, .ref b, q', rfl, hrow, by omega, by omega, g.rest, by omega, fun H3 u sm3 hT => ?_⟩
      obtain ⟨t, u2, rfl, ht, hrow2⟩ := hT
      refine ⟨t, _, rfl, SqT.of ht, rfl, _, _, rfl, _, _, rfl, rfl, ?_⟩
      obtain ⟨b2, zs, rfl, hb2, hzs⟩ := hrow2
      refine ⟨_, rfl, _, rfl, a, _, 1, _, rfl, rfl, SqT.of (sm3 _ _ ha), atI_nat (j := 1) rfl, _, rfl, (show 3 ≤ sizeLine by decide), fun t1 n1 => ⟨(show 1 ≤ sizeLine by decide), fun t2 n2 => ⟨(show 2 ≤ sizeLine by decide), fun t3 n3 => ?_⟩⟩⟩
      refine q _ _ (((sm3.trans (same_new n1)).trans (same_new n2)).trans (same_new n3)) ⟨t3, .ref t2, rfl, upd_same, t2, [.ref t1], rfl, kn upd_same n3, PartsAt.one ⟨t1, b2, zs, rfl, kn (kn upd_same n2) n3, kn (kn (kn hb2 n1) n2) n3, PartsAt.mono (((STup.new n1).trans (STup.new n2)).trans (STup.new n3)) _ _ hzs⟩⟩
    · have e1 : decide (V.str wd.str = V.str "room") = false := by
        cases wd with
        | room => exact absurd rfl c1
        | _ => decide +kernel
      refine ⟨_, rfl, a, _, 0, _, rfl, rfl, SqT.of ha, atI_nat (j := 0) rfl, rfl, _, rfl, iteD e1 ?_⟩
      by_cases c2 : wd = .new
      · subst c2
        obtain ⟨hx, hs6⟩ := g.out rfl
        refine ⟨_, rfl, a, _, 0, _, rfl, rfl, SqT.of ha, atI_nat (j := 0) rfl, rfl, _, rfl, iteU (by decide +kernel) ?_⟩
        have lm := hs6.len
        have shp := priv_sh (k := k0) hs6 (by omega)
        have lp := shp.len
        have e3 : Str.empty ++ m ++ "." ++ Str.ofString (toString (k0 : Int)) = priv m k0 := by
          rw [emp_app]
          rfl
        have la : (m ++ ".").length = m.length + 1 := by rw [app_len]; rfl
        refine ⟨_, rfl, k0, 1, rfl, rfl, ?_⟩
        refine ⟨_, rfl, a, _, 2, _, rfl, rfl, SqT.of ha, atI_nat (j := 2) rfl, _, rfl, a, _, 1, _, rfl, rfl, SqT.of ha, atI_nat (j := 1) rfl, _, rfl, a, _, 1, _, rfl, rfl, SqT.of ha, atI_nat (j := 1) rfl, ?_⟩
        refine .inl ⟨m, rfl, small (by omega), m, rfl, (by rw [emp_app]; exact small (by omega)), ".", rfl, (by rw [emp_app, la]; exact small (by omega)), _, rfl, .inr ⟨k0, rfl, num_log (by omega), _, rfl, ?_, ?_⟩⟩
        · rw [e3]; exact small (by omega)
        · rw [e3]
          refine ⟨.ref b, m, priv m k0, q', rfl, hrow, by omega, by have := len_sizeR q'; omega, by omega, fun H3 u sm3 hu => ?_⟩
          refine ⟨k0 + 1, u, _, rfl, hu, by rw [calledR_deep]; omega, by rw [calledR_size]; omega, g.rest.called hx shp, by rw [calledR_size]; omega, fun H4 u4 sm4 hT => q H4 u4 (sm3.trans sm4) hT⟩
      · have e2 : decide (V.str wd.str = V.str "new") = false := by
          cases wd with
          | new => exact absurd rfl c2
          | _ => decide +kernel
        have ef : frdP (frdR n) k0 (Part.oth wd m q') = (k0, [Part.oth wd m q']) := by
          cases wd with
          | room => exact absurd rfl c1
          | new => exact absurd rfl c2
          | _ => rfl
        refine ⟨_, rfl, a, _, 0, _, rfl, rfl, SqT.of ha, atI_nat (j := 0) rfl, rfl, _, rfl, iteD e2 ?_⟩
        exact ⟨_, rfl, _, rfl, (show 1 ≤ sizeLine by decide), fun t1 n1 => ⟨(show 2 ≤ sizeLine by decide), fun t2 n2 => stay a _ wd.str rfl ha (atI_nat (j := 0) rfl) e1 e2 ef t1 n1 t2 n2⟩⟩
theorem freed_none {f : Addr} {fd : FuncData} {k : Nat} : FnOk P w K mg base CX0 k f fd ["number", "row"] (spFreed 0) := by
  have no : ∀ vs H Q E, ¬ spFreed 0 vs H Q E := fun vs H Q E h => by
    obtain ⟨_, _, _, _, _, h1, _⟩ := h
    omega
  exact ⟨fun vs H Q E h => absurd h (no vs H Q E), fun A outer s H args us vs Q E _ _ _ _ h => absurd h (no vs H Q E)⟩
theorem freed_ok {fP fF fC : Addr} {fdP fdF fdC : FuncData} (FF : Fun K "freed" "freed" sFreed fF fdF) (FP : Fun K "part_freed" "part_freed" sPFreed fP fdP) (mt : mg "tuple" = none)
    (bF : Binds K fdF ["number", "row"] []) (mF : mg "freed" = some (.ref fF)) (bP : Binds K fdP ["number", "part"] []) (mP : mg "part_freed" = some (.ref fP))
    (GC : FnOk P w K mg base CX0 13 fC fdC ps3 (spCalled 6)) (bC : Binds K fdC ps3 []) (kC : PySem.W.keepIn K (.ref fC) = true) (mC : mg "called" = some (.ref fC)) :
    ∀ n : Nat, n ≤ 7 → FnOk P w K mg base CX0 (2 * n + 13) fF fdF ["number", "row"] (spFreed n)
  | 0, _ => freed_none
  | n + 1, h => ok_freed FF mt (ok_pfreed FP (by omega) (by omega) (freed_ok FF FP mt bF mF bP mP GC bC kC mC n (by omega)) bF FF.kp mF GC bC kC mC) bP FP.kp mP
theorem ok_settled {f fH fF : Addr} {fd fdH fdF : FuncData} {n k : Nat} (F : Fun K "settled" "settled" sSettled f fd)
    (GH : FnOk P w K mg base CX0 k fH fdH ["thing"] (spHouse Ts n)) (bH : Binds K fdH ["thing"] []) (kH : PySem.W.keepIn K (.ref fH) = true) (mH : mg "is_house" = some (.ref fH))
    (GF : FnOk P w K mg base CX0 k fF fdF ["number", "row"] (spFreed n)) (bF : Binds K fdF ["number", "row"] []) (kF : PySem.W.keepIn K (.ref fF) = true) (mF : mg "freed" = some (.ref fF)) :
    FnOk P w K mg base CX0 (k + 1) f fd ["house"] (spSettled Ts n) := by
  refine F.ok scSettled (fun vs H Q E h => ?_) (fun cdv A outer s H vs Q E hr h => ?_)
  · obtain ⟨_, _, rfl, _⟩ := h
    rfl
  obtain ⟨v, r, rfl, hR, hh, hd, g, tg, q⟩ := h
  refine ⟨_, pss_cons (ps_if (pt_not (pt_val (pe_call GH hr (by rfl) mH kH bH .nil pass0 (pa_cons (pv 0) pa_nil)))) (pss_one (⟨fun _ _ _ _ _ _ h => h.elim⟩ : PS _ _ (fun _ _ _ => False))) pss_nil)
    (pss_one (ps_ret (pe_call GF hr (by rfl) mF kF bF .nil pass0 (pa_cons pe_int (pa_cons (pv 0) pa_nil))))), ?_⟩
  have hz := hh.size
  refine ⟨_, rfl, v, r, rfl, hR, hh, hd, tg, fun H1 st1 => ⟨_, rfl, iteF ?_⟩⟩
  exact ⟨_, rfl, 1, v, r, rfl, hR.mono (st1.tup tg), hd, by omega, g, by omega, fun H2 u sm hT => q H2 u (st1.sm sm) hT⟩
end
end K10

set_option Elab.async false
set_option linter.all false
set_option maxRecDepth 100000
set_option maxHeartbeats 2000000
namespace K10
open PySem PySem.Spec PyProof.Rows L2 Wk
abbrev sLeft : Stmt := topS 40
abbrev sDigit : Stmt := topS 41
abbrev sNames : Stmt := topS 42
abbrev sPart : Stmt := topS 43
abbrev sRow : Stmt := topS 44
theorem scLeft : FnScope ["_law_cell", "_law_left_here", "_law_number", "_law_turn"] ["_law_cell"] (defScope sLeft) := ⟨rfl, rfl, rfl, by decide +kernel, rfl, by decide +kernel, by decide +kernel⟩
theorem scDigit : FnScope ["_law_left_here", "_law_many", "_law_found"] ["_law_left_here", "_law_many"] (defScope sDigit) := ⟨rfl, rfl, rfl, by decide +kernel, rfl, by decide +kernel, by decide +kernel⟩
theorem scNames : FnScope ["_law_left_here", "_law_many", "_law_letters", "_law_start", "_law_found", "_law_k", "_law_word", "_law_j"] ["_law_left_here", "_law_many"] (defScope sNames) := ⟨rfl, rfl, rfl, by decide +kernel, rfl, by decide +kernel, by decide +kernel⟩
theorem scPart : FnScope ["_law_left_here", "_law_room", "_law_scope", "_law_spare", "_law_way", "_law_name", "_law_own", "_law_word"] ["_law_left_here", "_law_room", "_law_scope", "_law_spare"] (defScope sPart) := ⟨rfl, rfl, rfl, by decide +kernel, rfl, by decide +kernel, by decide +kernel⟩
abbrev nmRow : List Str := ["_law_left_here", "_law_room", "_law_scope", "_law_spare", "_law_many", "_law_k"]
theorem scRow : FnScope nmRow ["_law_left_here", "_law_room", "_law_scope", "_law_spare"] (defScope sRow) := ⟨rfl, rfl, rfl, by decide +kernel, rfl, by decide +kernel, by decide +kernel⟩
section
variable {P : Program} {w : World} {K : PySem.W.Frag} {mg : Str → Option Value} {base : Heap}
/-! ### _law_left: a new list of one number -/
theorem ok_left {f : Addr} {fd : FuncData} {k : Nat} (F : Fun K "_law_left" "_law_left" sLeft f fd) (ma : mg "abs" = none) (mr : mg "range" = none) : FnOk P w K mg base CX0 (k + 1) f fd ["_law_cell"] spLeft := by
  refine F.ok scLeft (fun vs H Q E h => ?_) (fun cdv A outer s H vs Q E hr h => ?_)
  · obtain ⟨v, rfl, _⟩ := h
    rfl
  obtain ⟨c, rfl, q⟩ := h
  refine ⟨_, pss_cons (ps_set (i := 1) scLeft.nd rfl (.inl rfl) (pe_callB call_abs (by rfl) ma (by decide +kernel) (pa_cons (pv 0) pa_nil)))
    (pss_cons (ps_if (pt_cmpR op_lt (pv 1) (pe_op op_pow pe_int pe_int) (nomark _))
      (pss_cons (ps_set (i := 2) scLeft.nd rfl (.inl rfl) (pv 0))
      (pss_one (ps_for PassesOwn.never rfl (pi_range1 rfl mr (pa_cons pe_int pa_nil)) (pg_name (i := 3) scLeft.nd rfl (.inl rfl))
        (pss_cons (ps_set (i := 2) scLeft.nd rfl (.inl rfl) (pe_op op_mod (pe_op op_mul (pe_op op_add (pe_op op_mod (pv 2) pe_int) pe_int) pe_int) pe_int))
        (pss_cons (ps_set (i := 2) scLeft.nd rfl (.inl rfl) (pe_op op_add (pe_op op_mod (pe_op op_mul (pv 2) pe_int) pe_int) (pv 3)))
        (pss_one (ps_set (i := 1) scLeft.nd rfl (.inl rfl) (pe_op op_add (pe_op op_mul (pv 1) pe_int) (pv 2))))))))) pss_nil)
    (pss_one (ps_ret (pe_lst (pa_cons (pv 1) pa_nil))))), ?_⟩
  have one_le : (1 : Nat) ≤ sizeLine := by decide
  refine ⟨_, rfl, c, rfl, _, rfl, _, _, rfl, rfl, by unfold CPow; decide, _, _, rfl, rfl, _, rfl, ite2 (fun h => ?_) (fun h => ?_)⟩
  · refine ⟨_, rfl, 40, rfl, by decide, by decide, for_range (n := 40) (lo := 0) (fun _ σ H' => H' = H ∧ ∃ a d : Option V, ∃ i j : Int, σ = [a, some (.int i), some (.int j), d]) ⟨rfl, _, _, _, _, rfl⟩ (fun i σ H' hi hP => ?_) fun σ H' hP => ?_⟩
    · obtain ⟨rfl, a, d, x, y, rfl⟩ := hP
      refine ⟨_, rfl, _, _, rfl, rfl, pos1, _, _, rfl, rfl, _, _, rfl, rfl, .inr ⟨by decide, by decide⟩, _, _, rfl, rfl, pos1, ?_⟩
      refine ⟨_, rfl, _, _, rfl, rfl, .inr ⟨by decide, by decide⟩, _, _, rfl, rfl, pos2, _, rfl, _, _, rfl, rfl, ?_⟩
      refine ⟨_, rfl, _, _, rfl, rfl, .inr ⟨by decide, by decide⟩, _, rfl, _, _, rfl, rfl, ?_⟩
      exact ⟨rfl, _, _, _, _, rfl⟩
    · obtain ⟨rfl, a, d, x, y, rfl⟩ := hP
      exact ⟨_, rfl, one_le, fun p np => q p _ np⟩
  · exact ⟨_, rfl, one_le, fun p np => q p _ np⟩
/-! ### _law_digit -/
theorem ok_digit {f : Addr} {fd : FuncData} {k : Nat} (F : Fun K "_law_digit" "_law_digit" sDigit f fd) : FnOk P w K mg base CX0 (k + 1) f fd ["_law_left_here", "_law_many"] spDigit := by
  refine F.ok scDigit (fun vs H Q E h => ?_) (fun cdv A outer s H vs Q E hr h => ?_)
  · obtain ⟨L, n, m, rfl, _⟩ := h
    rfl
  obtain ⟨L, n, m, rfl, hL, h0, h1, q⟩ := h
  refine ⟨_, pss_cons (ps_set (i := 2) scDigit.nd rfl (.inl rfl) (pe_op op_mod (pe_ix ix_list (pv 0) pe_int (fun _ _ => rfl)) (pv 1)))
    (pss_cons (ps_asg (pe_op op_fdiv (pe_ix ix_list (pv 0) pe_int (fun _ _ => rfl)) (pv 1)) (pg_sub (pv 0) pe_int set_list))
    (pss_one (ps_ret (pv 2)))), ?_⟩
  refine ⟨_, rfl, L, _, 0, _, rfl, rfl, SqL.of hL, atI_nat (j := 0) rfl, _, rfl, _, _, rfl, rfl, h0, ?_⟩
  refine ⟨_, rfl, L, _, 0, _, rfl, rfl, SqL.of hL, atI_nat (j := 0) rfl, _, rfl, _, _, rfl, rfl, ⟨h0, h1⟩, ?_⟩
  refine ⟨_, rfl, L, _, 0, 0, rfl, rfl, hL, rfl, ?_⟩
  exact ⟨_, rfl, q _ _ (Int.emod_nonneg n (by omega)) (Int.emod_lt_of_pos n h0)⟩
/-! ### _law_names -/
theorem ok_names {f fD : Addr} {fd fdD : FuncData} (F : Fun K "_law_names" "_law_names" sNames f fd) (GD : FnOk P w K mg base CX0 1 fD fdD ["_law_left_here", "_law_many"] spDigit) (bD : Binds K fdD ["_law_left_here", "_law_many"] []) (kD : PySem.W.keepIn K (.ref fD) = true)
    (mD : mg "_law_digit" = some (.ref fD)) (mr : mg "range" = none) : FnOk P w K mg base CX0 2 f fd ["_law_left_here", "_law_many"] spNames := by
  refine F.ok scNames (fun vs H Q E h => ?_) (fun cdv A outer s H vs Q E hr h => ?_)
  · obtain ⟨L, n, m, rfl, _⟩ := h
    rfl
  obtain ⟨L, n, m, rfl, hL, hm, q⟩ := h
  refine ⟨_, pss_cons (ps_set (i := 2) scNames.nd rfl (.inl rfl) pe_str)
    (pss_cons (ps_set (i := 3) scNames.nd rfl (.inl rfl) (pe_call GD hr (by rfl) mD kD bD .nil pass0 (pa_cons (pv 0) (pa_cons pe_int pa_nil))))
    (pss_cons (ps_set (i := 4) scNames.nd rfl (.inl rfl) (pe_lst pa_nil))
    (pss_cons (ps_for PassesOwn.never rfl (pi_range1 rfl mr (pa_cons (pv 1) pa_nil)) (pg_name (i := 5) scNames.nd rfl (.inl rfl))
        (pss_cons (ps_set (i := 6) scNames.nd rfl (.inl rfl) (pe_ix ix_str (pv 2) (pe_op op_mod (pe_op op_add (pv 3) (pe_op op_mul pe_int (pv 5))) pe_int) (fun _ _ => rfl)))
        (pss_cons (ps_for PassesOwn.never rfl (pi_range1 rfl mr (pa_cons (pe_call GD hr (by rfl) mD kD bD .nil pass0 (pa_cons (pv 0) (pa_cons pe_int pa_nil))) pa_nil)) (pg_name (i := 7) scNames.nd rfl (.inl rfl))
          (pss_one (ps_set (i := 6) scNames.nd rfl (.inl rfl) (pe_op op_add_str (pv 6) (pe_ix ix_str pe_str (pe_call GD hr (by rfl) mD kD bD .nil pass0 (pa_cons (pv 0) (pa_cons pe_int pa_nil))) (fun _ _ => rfl))))))
        (pss_one (ps_expr (pe_bm PySem.F.plainAttrs_list PySem.F.slot_list_append PySem.F.type_list_append mt_append (pv 4) (pa_cons (pv 6) pa_nil)))))))
    (pss_one (ps_ret (pv 4)))))), ?_⟩
  refine ⟨_, rfl, L, n, 26, rfl, hL, by decide, by decide, fun st n1 st0 st1 => ?_⟩
  refine ⟨(show 0 ≤ sizeLine by decide), fun p np => ?_⟩
  have pL : p ≠ L := fun e => by
    rw [e, upd_same] at np
    cases np
  have nH : H p = none := by rw [upd_ne pL] at np; exact np
  have x1 : StL L H (upd (upd H L (.lst [.int n1])) p (.lst [])) := (StL.put n1).trans (StL.new upd_same np)
  refine ⟨_, rfl, (m : Int), rfl, by omega, by omega, for_range (n := m) (lo := 0) (fun i σ H' => StL L H H' ∧ ∃ zs : List Str, H' p = some (.lst (zs.map V.str)) ∧ zs.length = i ∧ (∀ j z, zs[j]? = some z → NameOf ((st.toNat + 5 * j) % 26) z) ∧
      ∃ s5 s6 s7 : Option V, σ = [some (.ref L), some (.int m), some (.str abc), some (.int st), some (.ref p), s5, s6, s7]) ⟨x1, [], upd_same, rfl, fun j z e => (by simp at e), _, _, _, rfl⟩ (fun i σ H' hi hP => ?_) fun σ H' hP => ?_⟩
  · obtain ⟨x2, zs, hp, hl, hn, s5, s6, s7, rfl⟩ := hP
    have ei : (st + 5 * (0 + (i : Int))) % 26 = (((st.toNat + 5 * i) % 26 : Nat) : Int) := by omega
    refine ⟨_, rfl, _, rfl, _, rfl, _, _, rfl, rfl, .inl ⟨by decide, by decide⟩, _, _, rfl, rfl, _, _, rfl, rfl, (show (0 : Int) < 26 by decide), ?_⟩
    refine ⟨abc, _, 97 + (st.toNat + 5 * i) % 26, rfl, rfl, by decide +kernel, by rw [ei]; exact atI_nat (abc_at _ (Nat.mod_lt _ (by decide))), ?_⟩
    obtain ⟨n2, hn2⟩ := x2.2
    refine ⟨_, rfl, L, n2, 6, rfl, hn2, by decide, by decide, fun d n3 d0 d1 => ?_⟩
    have x3 := x2.trans (StL.put (H := H') (L := L) n3)
    have hp3 : upd H' L (.lst [.int n3]) p = some (.lst (zs.map V.str)) := by rw [upd_ne pL]; exact hp
    refine ⟨d, rfl, Int.le_trans (by decide) d0, Int.lt_of_lt_of_le d1 (by decide), for_range (n := d.toNat) (lo := 0) (fun j σ H' => StL L H H' ∧ H' p = some (.lst (zs.map V.str)) ∧ ∃ (z : Str) (r : List Nat), z.cps.toList = (97 + (st.toNat + 5 * i) % 26) :: r ∧ r.length = j ∧ (∀ c ∈ r, c ∈ vow.cps.toList) ∧
      ∃ s5 s7 : Option V, σ = [some (.ref L), some (.int m), some (.str abc), some (.int st), some (.ref p), s5, some (.str z), s7]) ⟨x3, hp3, _, [], rfl, rfl, fun c hc => (nomatch hc), _, _, rfl⟩ (fun j σ H' hj hP => ?_) fun σ H' hP => ?_⟩
    · obtain ⟨x4, hp4, z, r, ez, hr1, hv, s5, s7, rfl⟩ := hP
      obtain ⟨n4, hn4⟩ := x4.2
      refine ⟨_, rfl, _, rfl, L, n4, 8, rfl, hn4, by decide, by decide, fun g n5 g0 g1 => ?_⟩
      obtain ⟨c, hc, hat, _⟩ := atX_lt (l := vow.cps.toList) g0 (by rw [vow_len]; exact g1)
      refine ⟨vow, g, c, rfl, rfl, by decide +kernel, hat, z, _, rfl, rfl, ?_, ?_⟩
      · have hz : z.length = r.length + 1 := by
          show z.cps.size = _
          rw [← Array.length_toList, ez, List.length_cons]
        exact small (by rw [hz]; show r.length + 1 + 1 ≤ 1000; omega)
      · refine ⟨x4.trans (StL.put n5), by rw [upd_ne pL]; exact hp4, _, r ++ [c], ?_, ?_, ?_, _, _, rfl⟩
        · rw [app_codes, ez, List.cons_append]
        · rw [List.length_append, hr1]
          rfl
        · intro e he
          rcases List.mem_append.mp he with u | u
          · exact hv e u
          · rw [List.mem_singleton.mp u]
            exact hc
    · obtain ⟨x4, hp4, z, r, ez, hr1, hv, s5, s7, rfl⟩ := hP
      refine ⟨_, rfl, .inl ⟨rfl, _, SqL.of hp4⟩, _, rfl, p, _, _, rfl, rfl, hp4, by rw [List.length_map]; exact small1000 (by omega), ?_⟩
      obtain ⟨n4, hn4⟩ := x4.2
      refine ⟨⟨fun b o nb e => ?_, n4, by rw [upd_ne (Ne.symm pL)]; exact hn4⟩, zs ++ [z], by rw [upd_same, List.map_append]; rfl, by rw [List.length_append, hl]; rfl, fun j y hy => ?_, _, _, _, rfl⟩
      · rw [upd_ne (ne_of_none e nH)]
        exact x4.1 b o nb e
      · by_cases hj : j < zs.length
        · rw [List.getElem?_append_left hj] at hy
          exact hn j y hy
        · have ej : j = i := by
            have := (List.getElem?_eq_some_iff.mp hy).1
            rw [List.length_append, List.length_singleton] at this
            omega
          rw [List.getElem?_append_right (by omega), show j - zs.length = 0 by omega] at hy
          rw [← Option.some.inj (show some z = some y from hy), ej]
          exact ⟨r, ez, by omega, hv⟩
  · obtain ⟨x2, zs, hp, hl, hn, s5, s6, s7, rfl⟩ := hP
    exact ⟨_, rfl, q H' p st.toNat zs x2 nH hp hl (by omega) hn⟩
/-! ### _law_part and _law_row, by the room that is left -/
abbrev ps4 : List Str := ["_law_left_here", "_law_room", "_law_scope", "_law_spare"]
theorem ok_part {f fD fR : Addr} {fd fdD fdR : FuncData} {n : Nat} (F : Fun K "_law_part" "_law_part" sPart f fd) (GD : FnOk P w K mg base CX0 1 fD fdD ["_law_left_here", "_law_many"] spDigit) (bD : Binds K fdD ["_law_left_here", "_law_many"] []) (kD : PySem.W.keepIn K (.ref fD) = true)
    (mD : mg "_law_digit" = some (.ref fD)) (ml : mg "len" = none) (Gr : FnOk P w K mg base CX0 (2 * n + 1) fR fdR ps4 (spRow n)) (bR : Binds K fdR ps4 []) (kR : PySem.W.keepIn K (.ref fR) = true) (mR : mg "_law_row" = some (.ref fR)) :
    FnOk P w K mg base CX0 (2 * n + 1 + 1) f fd ps4 (spPart n) := by
  refine F.ok scPart (fun vs H Q E h => ?_) (fun cdv A outer s H vs Q E hr h => ?_)
  · obtain ⟨_, _, _, _, _, _, _, ⟨rfl, _⟩, _⟩ := h
    rfl
  obtain ⟨L, S, A0, nL, m, ss, sp, ⟨rfl, hL, hS, hA, hAL, hAS, hne, hlen, hsh⟩, hmn, q⟩ := h
  have hr1 : Room 1 _ := hr.mono (by omega)
  refine ⟨_, pss_cons (ps_set (i := 4) scPart.nd rfl (.inl rfl) (pe_call GD hr1 (by rfl) mD kD bD .nil pass0 (pa_cons (pv 0) (pa_cons pe_int pa_nil))))
    (pss_cons (ps_set (i := 5) scPart.nd rfl (.inl rfl) (pe_ix ix_list (pv 2) (pe_call GD hr1 (by rfl) mD kD bD .nil pass0 (pa_cons (pv 0) (pa_cons (pe_callB call_len_seq (by rfl) ml PySem.boot_len (pa_cons (pv 2) pa_nil)) pa_nil))) (fun _ _ => rfl)))
    (pss_cons (ps_if (PW.pt (pw_or (pt_cmpR op_eq (pv 4) pe_int (nomark _)) (pw_or1 (pt_cmpR op_eq (pv 1) pe_int (nomark _))))) (pss_one (ps_ret (pe_tup (pa_cons pe_str (pa_cons (pv 5) pa_nil))))) pss_nil)
    (C8.pss_cut (ps_if (PW.pt (pw_and (pt_cmpR op_gt (pv 4) pe_int (nomark _)) (pw_and1 (pt_cmpR (op_neD hr.units) (pv 3) (pe_lst pa_nil) (nomark _)))))
      (pss_cons (ps_set (i := 6) scPart.nd rfl (.inl rfl) (pe_bm0 PySem.F.plainAttrs_list PySem.F.slot_list_pop PySem.F.type_list_pop mt_pop (pv 3)))
      (pss_one (ps_ret (pe_tup (pa_cons (pe_ix ix_list (pe_lst (pa_cons pe_str (pa_cons pe_str (pa_cons pe_str (pa_cons pe_str pa_nil))))) (pe_op op_sub (pv 4) pe_int) (fun _ _ => rfl)) (pa_cons (pv 6) (pa_cons
        (pe_call Gr hr (by rfl) mR kR bR .nil pass0 (pa_cons (pv 0) (pa_cons (pe_op op_sub (pv 1) pe_int) (pa_cons (pe_op op_cat (pv 2) (pe_lst (pa_cons (pv 6) (pa_cons (pv 6) pa_nil)))) (pa_cons (pv 3) pa_nil))))) pa_nil))))))) pss_nil)
    (pss_cons (ps_if (pt_cmpR op_eq (pv 4) pe_int (nomark _)) (pss_one (ps_ret (pe_tup (pa_cons pe_str (pa_cons
        (pe_call Gr hr (by rfl) mR kR bR .nil pass0 (pa_cons (pv 0) (pa_cons (pe_op op_sub (pv 1) pe_int) (pa_cons (pv 2) (pa_cons (pv 3) pa_nil))))) pa_nil))))) pss_nil)
    (pss_cons (ps_if (pt_cmpR op_eq (pv 4) pe_int (nomark _)) (pss_cons (ps_set (i := 7) scPart.nd rfl (.inl rfl) (pe_ix ix_list (pe_lst (pa_cons pe_str (pa_cons pe_str (pa_cons pe_str pa_nil)))) (pe_call GD hr1 (by rfl) mD kD bD .nil pass0 (pa_cons (pv 0) (pa_cons pe_int pa_nil))) (fun _ _ => rfl)))
      (pss_one (ps_ret (pe_tup (pa_cons (pv 7) (pa_cons (pv 5) (pa_cons
        (pe_call Gr hr (by rfl) mR kR bR .nil pass0 (pa_cons (pv 0) (pa_cons (pe_op op_sub (pv 1) pe_int) (pa_cons (pv 2) (pa_cons (pv 3) pa_nil))))) pa_nil))))))) pss_nil)
    (pss_one (ps_ret (pe_tup (pa_cons pe_str (pa_cons (pv 5) (pa_cons
        (pe_call Gr hr (by rfl) mR kR bR .nil pass0 (pa_cons (pv 0) (pa_cons (pe_op op_sub (pv 1) pe_int) (pa_cons (pv 2) (pa_cons (pv 3) pa_nil))))) pa_nil))))))))))), ?_⟩
  refine ⟨_, rfl, L, nL, 10, rfl, hL, by decide, by decide, fun way n1 w0 w1 => ?_⟩
  have x1 := (StG.refl hL hS).put n1
  have hA1 := x1.1 _ _ hAL hAS hA
  have hss : 0 < ss.length := List.length_pos_iff.mpr hne
  refine ⟨_, rfl, _, rfl, _, rfl, A0, _, rfl, .inl (SqL.of hA1), L, n1, _, rfl, upd_same, by rw [List.length_map]; omega, by rw [List.length_map]; omega, fun d n2 d0 d1 => ?_⟩
  have x2 := x1.put n2
  have hA2 := x2.1 _ _ hAL hAS hA
  obtain ⟨v, hv, hat, _⟩ := atX_lt (l := ss.map V.str) d0 d1
  obtain ⟨nm, hnm, rfl⟩ := List.mem_map.mp hv
  refine ⟨A0, _, d, _, rfl, rfl, SqL.of hA2, hat, ?_⟩
  have sayIt : ∀ (p : Addr), upd (upd H L (.lst [.int n1])) L (.lst [.int n2]) p = none → Q (.ref p) (upd (upd (upd H L (.lst [.int n1])) L (.lst [.int n2])) p (.tup [.str "say", .str nm])) :=
    fun p np => q _ _ sp (.say nm) (x2.new np) ⟨p, rfl, upd_same⟩ (GP.say hnm)
  refine ⟨_, rfl, rfl, _, rfl, ite2 (fun h9 => ?_) (fun h9 => ?_)⟩
  · exact iteT ⟨_, rfl, (show 2 ≤ sizeLine by decide), fun p np => sayIt p np⟩
  refine ⟨_, rfl, rfl, _, rfl, ite2 (fun h0 => ?_) (fun h0 => ?_)⟩
  · exact ⟨_, rfl, (show 2 ≤ sizeLine by decide), fun p np => sayIt p np⟩
  have w9 : way ≠ 9 := fun e => h9 (decide_eq_true (by rw [e]))
  obtain ⟨m', rfl⟩ : ∃ m', m = m' + 1 := by
    cases m with
    | zero => exact absurd (decide_eq_true rfl) h0
    | succ m' => exact ⟨m', rfl⟩
  have em : (((m' + 1 : Nat) : Int) - 1) = (m' : Int) := by omega
  -- names that are bound
  refine ⟨fun σ' H' => StG L S H H' sp ∧ ∃ s6 s7 : Option V, σ' = [some (.ref L), some (.int (m' + 1 : Nat)), some (.ref A0), some (.ref S), some (.int way), some (.str nm), s6, s7], ?_, fun σ' H5 hmid => ?_⟩
  · refine ⟨_, rfl, _, _, rfl, rfl, _, rfl, ite2 (fun h6 => ?_) (fun h6 => ?_)⟩
    · have h6' : 4 < way := of_decide_eq_true h6
      refine ⟨_, rfl, (show 0 ≤ sizeLine by decide), fun e ne => ?_⟩
      have x3 := x2.new (o := .lst []) ne
      refine ⟨.list (sp.map PyData.str), .list [], .lst (SqL.of x3.2.2) (strs_dp sp), .lst (SqL.of upd_same) .nil, strs_shaped (fun z hz => (hsh z hz).ok), nil_shaped, _, rfl, ?_⟩
      rw [eqv_nil]
      rcases List.eq_nil_or_concat sp with rfl | ⟨sp1, own, rfl⟩
      · exact iteF ⟨x3, _, _, rfl⟩
      · rw [List.concat_eq_append] at *
        have ee : (!(List.map PyData.str (sp1 ++ [own])).isEmpty) = true := by
          rw [List.map_append]
          cases sp1 <;> rfl
        rw [ee]
        refine iteT ?_
        have em1 : (sp1 ++ [own]).map V.str = sp1.map V.str ++ [.str own] := by rw [List.map_append]; rfl
        have hS3 := x3.2.2
        rw [em1] at hS3
        refine ⟨_, rfl, .inl ⟨rfl, _, SqL.of hS3⟩, S, _, .str own, rfl, rfl, hS3, ?_, ?_⟩
        · rw [List.length_append, List.length_singleton, Nat.add_sub_cancel, List.getElem?_append_right (Nat.le_refl _), Nat.sub_self]
          rfl
        rw [List.dropLast_concat]
        have x4 := x3.pop (sp1 := sp1)
        obtain ⟨w, hw, hat2⟩ : ∃ w : Wd, w.binds = true ∧ atI [V.str "new", V.str "new", V.str "new", V.str "hear"] (way - 5) = some (.str w.str) := by
          have h : way = 5 ∨ way = 6 ∨ way = 7 ∨ way = 8 := by omega
          rcases h with e | e | e | e
          · exact ⟨.new, rfl, by rw [e]; exact atI_nat (j := 0) rfl⟩
          · exact ⟨.new, rfl, by rw [e]; exact atI_nat (j := 1) rfl⟩
          · exact ⟨.new, rfl, by rw [e]; exact atI_nat (j := 2) rfl⟩
          · exact ⟨.hear, rfl, by rw [e]; exact atI_nat (j := 3) rfl⟩
        refine ⟨(show 4 ≤ sizeLine by decide), fun l1 nl1 => ?_⟩
        have x5 := x4.new (o := .lst [.str "new", .str "new", .str "new", .str "hear"]) nl1
        refine ⟨_, rfl, _, _, rfl, rfl, l1, _, way - 5, _, rfl, rfl, SqL.of upd_same, hat2, _, rfl, _, rfl, _, rfl, _, _, rfl, rfl, _, rfl, _, rfl, _, rfl, (show 2 ≤ sizeLine by decide), fun l2 nl2 => ?_⟩
        have x6 := x5.new (o := .lst [.str own, .str own]) nl2
        have hA6 := x6.1 _ _ hAL hAS hA
        refine ⟨A0, l2, _, _, rfl, rfl, hA6, upd_same, small (by rw [List.length_map]; show ss.length + 2 ≤ 1000; omega), fun A1 nA1 => ?_⟩
        have x7 := x6.new (o := .lst (ss.map V.str ++ [.str own, .str own])) nA1
        obtain ⟨n7, hn7⟩ := x7.2.1
        obtain ⟨n6, hn6⟩ := x6.2.1
        refine ⟨_, rfl, L, S, A1, n7, m', ss ++ [own, own], sp1, ⟨congrArg (fun t : Int => [V.ref L, V.int t, V.ref A1, V.ref S]) em, hn7, x7.2.2, by rw [upd_same, List.map_append]; rfl, Ne.symm (ne_of_none hn6 nA1), Ne.symm (ne_of_none x6.2.2 nA1),
          by simp, by rw [List.length_append]; show ss.length + 2 + 2 * m' ≤ 1000; omega, fun z hz => hsh z (List.mem_append_left _ hz)⟩, by omega, fun H8 v sp' r x8 hR hG => ?_⟩
        obtain ⟨rb, xs, rfl, hb, hps⟩ := hR
        refine ⟨(show 3 ≤ sizeLine by decide), fun t nt => ?_⟩
        exact q _ _ sp' (.oth w own r) ((x7.trans x8).new nt) ⟨t, rb, xs, rfl, upd_same, kn hb nt, PartsAt.mono (STup.new nt) r xs hps⟩ (GP.bound hw hG)
    · exact iteF ⟨x2, _, _, rfl⟩
  obtain ⟨x5, s6, s7, rfl⟩ := hmid
  have hA5 := x5.1 _ _ hAL hAS hA
  obtain ⟨n5, hn5⟩ := x5.2.1
  have arg5 : GArg [.ref L, .int (((m' + 1 : Nat) : Int) - 1), .ref A0, .ref S] H5 L S A0 n5 m' ss sp := ⟨by rw [em], hn5, x5.2.2, hA5, hAL, hAS, hne, by omega, hsh⟩
  -- rows done again
  refine ⟨_, rfl, rfl, _, rfl, ite2 (fun h6 => ?_) (fun h6 => ?_)⟩
  · refine ⟨_, rfl, _, rfl, _, _, rfl, rfl, _, rfl, _, rfl, L, S, A0, n5, m', ss, sp, arg5, by omega, fun H8 v sp' r x8 hR hG => ?_⟩
    obtain ⟨rb, xs, rfl, hb, hps⟩ := hR
    refine ⟨(show 2 ≤ sizeLine by decide), fun t nt => ?_⟩
    exact q _ _ sp' (.again r) ((x5.trans x8).new nt) ⟨t, rb, xs, rfl, upd_same, kn hb nt, PartsAt.mono (STup.new nt) r xs hps⟩ (GP.again hG)
  -- deeds
  have deeds : ∀ (w : Wd), w.binds = false → ∀ (H8 : Hp) (v : V) (sp' : List Str) (r : List Part), StG L S H H8 sp' → RowAt H8 r v → GR m' (most m') ss sp sp' r → ∀ t, H8 t = none → Q (.ref t) (upd H8 t (.tup [.str w.str, .str nm, v])) := by
    intro w hw H8 v sp' r x8 hR hG t nt
    obtain ⟨rb, xs, rfl, hb, hps⟩ := hR
    exact q _ _ sp' (.oth w nm r) (x8.new nt) ⟨t, rb, xs, rfl, upd_same, kn hb nt, PartsAt.mono (STup.new nt) r xs hps⟩ (GP.free hw hnm hG)
  refine ⟨_, rfl, rfl, _, rfl, ite2 (fun h3 => ?_) (fun h3 => ?_)⟩
  · refine ⟨(show 3 ≤ sizeLine by decide), fun l1 nl1 => ?_⟩
    have x6 := x5.new (o := .lst [.str "in", .str "out", .str "open"]) nl1
    obtain ⟨n6, hn6⟩ := x6.2.1
    refine ⟨_, rfl, L, n6, 3, rfl, hn6, by decide, by decide, fun d3 n7 e0 e1 => ?_⟩
    have x7 := x6.put n7
    have l1L : l1 ≠ L := Ne.symm (ne_of_none hn5 nl1)
    obtain ⟨w, hw, hat2⟩ : ∃ w : Wd, w.binds = false ∧ atI [V.str "in", V.str "out", V.str "open"] d3 = some (.str w.str) := by
      have h : d3 = 0 ∨ d3 = 1 ∨ d3 = 2 := by omega
      rcases h with e | e | e
      · exact ⟨.inn, rfl, by rw [e]; exact atI_nat (j := 0) rfl⟩
      · exact ⟨.out, rfl, by rw [e]; exact atI_nat (j := 1) rfl⟩
      · exact ⟨.opn, rfl, by rw [e]; exact atI_nat (j := 2) rfl⟩
    refine ⟨l1, _, d3, _, rfl, rfl, SqL.of (by rw [upd_ne l1L, upd_same]), hat2, ?_⟩
    refine ⟨_, rfl, _, rfl, _, rfl, _, rfl, _, _, rfl, rfl, _, rfl, _, rfl, L, S, A0, n7, m', ss, sp, ⟨congrArg (fun t : Int => [V.ref L, V.int t, V.ref A0, V.ref S]) em, upd_same, x7.2.2, x7.1 _ _ hAL hAS hA, hAL, hAS, hne, by omega, hsh⟩, by omega, fun H8 v sp' r x8 hR hG => ?_⟩
    exact ⟨(show 3 ≤ sizeLine by decide), fun t nt => deeds w hw H8 v sp' r (x7.trans x8) hR hG t nt⟩
  · refine ⟨_, rfl, _, rfl, _, rfl, _, _, rfl, rfl, _, rfl, _, rfl, L, S, A0, n5, m', ss, sp, arg5, by omega, fun H8 v sp' r x8 hR hG => ?_⟩
    exact ⟨(show 3 ≤ sizeLine by decide), fun t nt => deeds .room rfl H8 v sp' r (x5.trans x8) hR hG t nt⟩
theorem ok_row {f fD fP : Addr} {fd fdD fdP : FuncData} {n : Nat} (F : Fun K "_law_row" "_law_row" sRow f fd) (GD : FnOk P w K mg base CX0 1 fD fdD ["_law_left_here", "_law_many"] spDigit) (bD : Binds K fdD ["_law_left_here", "_law_many"] []) (kD : PySem.W.keepIn K (.ref fD) = true)
    (mD : mg "_law_digit" = some (.ref fD)) (mi : mg "int" = none) (mt : mg "tuple" = none) (mr : mg "range" = none) (Gp : FnOk P w K mg base CX0 (2 * n + 2) fP fdP ps4 (spPart n)) (bP : Binds K fdP ps4 []) (kP : PySem.W.keepIn K (.ref fP) = true) (mP : mg "_law_part" = some (.ref fP)) :
    FnOk P w K mg base CX0 (2 * n + 2 + 1) f fd ps4 (spRow (n + 1)) := by
  refine F.ok scRow (fun vs H Q E h => ?_) (fun cdv A outer s H vs Q E hr h => ?_)
  · obtain ⟨_, _, _, _, _, _, _, ⟨rfl, _⟩, _⟩ := h
    rfl
  obtain ⟨L, S, A0, nL, m, ss, sp, ⟨rfl, hL, hS, hA, hAL, hAS, hne, hlen, hsh⟩, hmn, q⟩ := h
  have hr1 : Room 1 _ := hr.mono (by omega)
  refine ⟨_, pss_cons (ps_set (i := 4) scRow.nd rfl (.inl rfl) (pe_call GD hr1 (by rfl) mD kD bD .nil pass0 (pa_cons (pv 0) (pa_cons (pe_ix ix_list (pe_lst (pa_cons pe_int (pa_cons pe_int pa_nil))) (pe_callTy call_int1 (by rfl) mi (by decide +kernel) (pa_cons (pe_cmpR op_gt (pv 1) pe_int (nomark _)) pa_nil)) (fun _ _ => rfl)) pa_nil))))
    (pss_one (ps_ret (pe_callTy call_tuple_of (by rfl) mt (by decide +kernel) (pa_cons (pe_lc (own := [("_law_k", 5)]) (g := gName 5) (tt := tYes) (by rfl) scRow.nd (pi_range1 rfl mr (pa_cons (pv 4) pa_nil))
        (blkOk_by (own := [("_law_k", 5)]) (N := nmRow) (sc := defScope sRow) (by decide +kernel)) (fun _ _ _ _ _ => pg_name (i := 5) scRow.nd rfl (Or.inl rfl)) (fun _ _ _ _ _ => pts_nil)
        (fun _ _ _ _ _ => pe_call Gp hr (by rfl) mP kP bP .nil pass0 (pa_cons (pv 0) (pa_cons (pv 1) (pa_cons (pv 2) (pa_cons (pv 3) pa_nil)))))) pa_nil)))), ?_⟩
  refine ⟨_, rfl, (show 2 ≤ sizeLine by decide), fun l1 nl1 => ?_⟩
  have x1 := (StG.refl hL hS).new (o := .lst [.int 3, .int 4]) nl1
  refine ⟨_, rfl, _, _, rfl, rfl, .inr ⟨_, rfl, ?_⟩⟩
  refine ⟨l1, _, _, _, rfl, rfl, SqL.of upd_same, most_at m, ?_⟩
  obtain ⟨n1, hn1⟩ := x1.2.1
  have h3 := most_le m
  refine ⟨L, n1, _, rfl, hn1, by omega, by omega, fun d n2 d0 d1 => ?_⟩
  have x2 := x1.put n2
  refine ⟨_, rfl, d, rfl, Int.le_trans (by decide) d0, Int.lt_trans d1 (by omega), fun D nD => ?_⟩
  have nH : H D = none := x2.none nD hL hS
  have DL : D ≠ L := Ne.symm (ne_of_none hL nH)
  have DS : D ≠ S := Ne.symm (ne_of_none hS nH)
  refine lc_range (lo := 0) (n := d.toNat) (fun i H' => ∃ (sp' : List Str) (r : List Part) (vs : List V), StG L S H H' sp' ∧ H' D = some (.lst vs) ∧ PartsAt H' r vs ∧ GR m i ss sp sp' r ∧ vs.length = i)
    ⟨sp, [], [], x2.new nD, upd_same, rfl, GR.nil, rfl⟩ (fun i H' hi hP => ?_) fun H' hP => ?_
  · obtain ⟨sp', r, vs, x3, hD, hps, hG, hl⟩ := hP
    obtain ⟨n3, hn3⟩ := x3.2.1
    refine ⟨rfl, yes (iteT ?_)⟩
    refine ⟨_, rfl, _, rfl, _, rfl, _, rfl, L, S, A0, n3, m, ss, sp', ⟨rfl, hn3, x3.2.2, x3.1 _ _ hAL hAS hA, hAL, hAS, hne, hlen, fun z hz => hsh z (by rw [hG.bd]; exact List.mem_append_left _ hz)⟩, by omega, fun H4 v sp2 p x4 hp hg => ?_⟩
    have hD4 := x4.1 _ _ DL DS hD
    have st4 : STup H' H4 := x4.tup hn3 x3.2.2
    have st5 : STup H4 (upd H4 D (.lst (vs ++ [v]))) := STup.lst hD4
    refine ⟨vs, hD4, by rw [hl]; exact small1000 (by omega), sp2, r ++ [p], vs ++ [v], ?_, upd_same, PartsAt.app (PartsAt.one (PartAt.mono st5 p v hp)) (PartsAt.mono (st4.trans st5) r vs hps), hG.snoc hg, by rw [List.length_append, hl]; rfl⟩
    have x5 := x3.trans x4
    obtain ⟨n5, hn5⟩ := x5.2.1
    refine ⟨fun b o nb nc e => ?_, ⟨n5, by rw [upd_ne (Ne.symm DL)]; exact hn5⟩, by rw [upd_ne (Ne.symm DS)]; exact x5.2.2⟩
    rw [upd_ne (ne_of_none e nH)]
    exact x5.1 b o nb nc e
  · obtain ⟨sp', r, vs, x3, hD, hps, hG, hl⟩ := hP
    refine ⟨D, vs, rfl, .inl ⟨SqL.of hD, fun t nt => ?_⟩⟩
    exact q _ _ sp' r (x3.new nt) ⟨t, vs, rfl, upd_same, PartsAt.mono (STup.new nt) r vs hps⟩ (hG.up (by omega))
theorem none_left {f : Addr} {fd : FuncData} {k : Nat} : FnOk P w K mg base CX0 k f fd ps4 (spRow 0) := by
  have no : ∀ vs H Q E, ¬ spRow 0 vs H Q E := fun vs H Q E h => by
    obtain ⟨_, _, _, _, _, _, _, _, h1, _⟩ := h
    omega
  exact ⟨fun vs H Q E h => absurd h (no vs H Q E), fun A outer s H args us vs Q E _ _ _ _ h => absurd h (no vs H Q E)⟩
/-- both, by the room -/
theorem rows_ok {fD fP fR : Addr} {fdD fdP fdR : FuncData} (FP : Fun K "_law_part" "_law_part" sPart fP fdP) (FR : Fun K "_law_row" "_law_row" sRow fR fdR) (GD : FnOk P w K mg base CX0 1 fD fdD ["_law_left_here", "_law_many"] spDigit) (bD : Binds K fdD ["_law_left_here", "_law_many"] []) (kD : PySem.W.keepIn K (.ref fD) = true)
    (mD : mg "_law_digit" = some (.ref fD)) (ml : mg "len" = none) (mi : mg "int" = none) (mt : mg "tuple" = none) (mr : mg "range" = none) (bR : Binds K fdR ps4 []) (mR : mg "_law_row" = some (.ref fR)) (bP : Binds K fdP ps4 []) (mP : mg "_law_part" = some (.ref fP)) :
    ∀ n : Nat, FnOk P w K mg base CX0 (2 * n + 1) fR fdR ps4 (spRow n)
  | 0 => none_left
  | n + 1 => ok_row FR GD bD kD mD mi mt mr (ok_part FP GD bD kD mD ml (rows_ok FP FR GD bD kD mD ml mi mt mr bR mR bP mP n) bR FR.kp mR) bP FP.kp mP
end
end K10

set_option Elab.async false
set_option linter.all false
set_option maxRecDepth 100000
set_option maxHeartbeats 4000000
namespace K10
open PySem PySem.Spec PyProof.Rows L2 Wk GxR
abbrev sLCalled : Stmt := topS 45
abbrev nmLC : List Str := ["_law_row_here", "_law_x", "_law_calling", "_law_found", "_law_part_here", "_law_some"]
theorem scLC : FnScope nmLC ["_law_row_here", "_law_x", "_law_calling"] (defScope sLCalled) := ⟨rfl, rfl, rfl, by decide +kernel, rfl, by decide +kernel, by decide +kernel⟩
theorem nsay : (!decide (V.str "say" = V.str "say")) = false := by decide +kernel
theorem nagain (w : Wd) : (!decide (V.str w.str = V.str "again")) = true := by rw [wd_again w]; rfl
theorem nwsay (w : Wd) : (!decide (V.str w.str = V.str "say")) = true := by rw [wd_say w]; rfl
theorem atI_last1 {α : Type} {xs : List α} {v : α} {k : Nat} (hk : xs.length = k + 1) (h : xs[k]? = some v) : atI xs (-1) = some v := by
  unfold atI ixN
  rw [if_neg (by omega), if_pos (by omega), show ((-1 : Int) + (xs.length : Int)).toNat = k by omega]
  exact h
section
variable {P : Program} {w : World} {K : PySem.W.Frag} {mg : Str → Option Value} {base : Heap}
theorem ok_lcalled {f : Addr} {fd : FuncData} {n : Nat} (F : Fun K "_law_called" "_law_called" sLCalled f fd) (ml : mg "list" = none) (mt : mg "tuple" = none) (bF : Binds K fd ["_law_row_here", "_law_x", "_law_calling"] []) (mF : mg "_law_called" = some (.ref f))
    (G : FnOk P w K mg base CX0 n f fd ["_law_row_here", "_law_x", "_law_calling"] (spLCalled n)) : FnOk P w K mg base CX0 (n + 1) f fd ["_law_row_here", "_law_x", "_law_calling"] (spLCalled (n + 1)) := by
  refine F.ok scLC (fun vs H Q E h => ?_) (fun cdv A outer s H vs Q E hr h => ?_)
  · obtain ⟨_, _, _, _, rfl, _⟩ := h
    rfl
  obtain ⟨v, x, c, r, rfl, hR, hd, hs, q⟩ := h
  refine ⟨_, pss_cons (ps_set (i := 3) scLC.nd rfl (.inl rfl) (pe_lst pa_nil))
    (pss_cons (ps_for PassesOwn.never rfl (pi_tup (pv 0)) (pg_name (i := 4) scLC.nd rfl (.inl rfl))
      (pss_cons (ps_set (i := 5) scLC.nd rfl (.inl rfl) (pe_callTy call_list_of (by rfl) ml (by decide +kernel) (pa_cons (pv 4) pa_nil)))
      (C8.pss_cut (ps_if (PW.pt (pw_and (pt_cmpR op_ne (pe_ix ix_tup (pv 4) pe_int (fun _ _ => rfl)) pe_str (nomark _)) (pw_and1 (pt_cmpR op_eq (pe_ix ix_list (pv 5) pe_int (fun _ _ => rfl)) (pv 1) (nomark _)))))
        (pss_one (ps_asg (pv 2) (pg_sub (pv 5) pe_int set_list))) pss_nil)
      (C8.pss_cut (ps_if (pt_cmpR op_ne (pe_ix ix_tup (pv 4) pe_int (fun _ _ => rfl)) pe_str (nomark _))
        (pss_one (ps_asg (pe_call G hr (by rfl) mF F.kp bF .nil pass0 (pa_cons (pe_ix ix_tup (pv 4) (pe_un un_neg pe_int) (fun _ _ => rfl)) (pa_cons (pv 1) (pa_cons (pv 2) pa_nil)))) (pg_sub (pv 5) (pe_un un_neg pe_int) set_list))) pss_nil)
      (pss_one (ps_expr (pe_bm PySem.F.plainAttrs_list PySem.F.slot_list_append PySem.F.type_list_append mt_append (pv 3) (pa_cons (pe_callTy call_tuple_of (by rfl) mt (by decide +kernel) (pa_cons (pv 5) pa_nil)) pa_nil))))))))
    (pss_one (ps_ret (pe_callTy call_tuple_of (by rfl) mt (by decide +kernel) (pa_cons (pv 3) pa_nil))))), ?_⟩
  obtain ⟨a, xs, rfl, ha, hps⟩ := hR
  have lx := PartsAt.len hps
  refine ⟨(show 0 ≤ sizeLine by decide), fun D nD => ?_⟩
  refine ⟨_, rfl, a, rfl, ⟨_, SqT.of (kn ha nD)⟩, for_it (walk_tup (xs := xs)) (fun i σ H' => Same H H' ∧ (∃ vs : List V, H' D = some (.lst vs) ∧ PartsAt H' (lcR x c (r.take i)) vs ∧ vs.length = i) ∧ ∃ s4 s5 : Option V, σ = [some (.ref a), some (.str x), some (.str c), some (.ref D), s4, s5])
    ⟨same_new nD, ⟨[], upd_same, rfl, rfl⟩, _, _, rfl⟩ (fun i σ H' _ hP => SqT.of (hP.1 _ _ ha)) (fun i y σ H1 H2 hi hP hY => ?_) (fun σ H' hP => ?_)⟩
  · obtain ⟨rfl, hy⟩ := hY
    obtain ⟨sm, ⟨vs, hD, hvs, hlv⟩, s4, s5, rfl⟩ := hP
    obtain ⟨p, hp, hpa⟩ := PartsAt.get hps hy
    have pm : p ∈ r := List.mem_of_getElem? hp
    have d1 := deepR.mem p pm
    have s1 := sizeR.mem p pm
    have hpa2 := PartAt.mono (STup.of sm) p y hpa
    have li := len_sizeR r
    -- what the turn leaves
    have fin : ∀ (H' : Hp) (S : Addr) (ys : List V), Same H H' → H' D = some (.lst vs) → STup H2 H' → H' S = some (.lst ys) → (∀ (H3 : Hp) (t : Addr), STup H' H3 → H3 t = some (.tup ys) → PartAt H3 (lcP x c p) (.ref t)) → ∀ t, H' t = none →
        ∃ l zs y, V.ref D = .ref l ∧ [V.ref t] = [y] ∧ upd H' t (.tup ys) l = some (.lst zs) ∧ zs.length < sizeLine ∧
          (Same H (upd (upd H' t (.tup ys)) l (.lst (zs ++ [y]))) ∧ ∃ vs : List V, upd (upd H' t (.tup ys)) l (.lst (zs ++ [y])) D = some (.lst vs) ∧ PartsAt (upd (upd H' t (.tup ys)) l (.lst (zs ++ [y]))) (lcR x c (r.take (i + 1))) vs ∧ vs.length = i + 1) := by
      intro H' S ys sm' hD' st hS hmk t nt
      refine ⟨D, vs, .ref t, rfl, rfl, kn hD' nt, by rw [hlv]; exact small1000 (by omega), ⟨fun b o e => ?_, vs ++ [.ref t], upd_same, ?_, by rw [List.length_append, hlv]; rfl⟩⟩
      · rw [upd_ne (ne_of_none e nD)]
        exact kn (sm' _ _ e) nt
      · have st1 : STup H' (upd (upd H' t (.tup ys)) D (.lst (vs ++ [.ref t]))) := (STup.new nt).trans (STup.lst (kn hD' nt))
        rw [lcR_map, List.take_add_one, hp, List.map_append, ← lcR_map]
        refine PartsAt.app (PartsAt.one (hmk _ t st1 ?_)) (PartsAt.mono (st.trans st1) _ _ hvs)
        rw [upd_ne (fun z => by rw [z, hD'] at nt; cases nt), upd_same]
    have last : ∀ (S : Addr) (E2 : List V) (H' : Hp), Same H2 H' → H' S = some (.lst E2) → (∀ (H3 : Hp) (t : Addr), STup H' H3 → H3 t = some (.tup E2) → PartAt H3 (lcP x c p) (.ref t)) → ∀ t, H' t = none → _ := fun S E2 H' s2 hS hmk t nt => fin H' S E2 (sm.trans s2) (s2 _ _ hD) (STup.of s2) hS hmk t nt
    cases p with
    | say m =>
      obtain ⟨ta, rfl, hta⟩ := hpa2
      refine ⟨_, rfl, ta, _, rfl, .inr (SqT.of hta), fun S nS => ?_⟩
      have put : Same H2 (upd (upd H2 S (.lst [.str "say", .str m])) S (.lst [.str "say", .str c])) := by
        rw [upd_upd]
        exact same_new nS
      refine ⟨fun σ' H' => σ' = [some (.ref a), some (.str x), some (.str c), some (.ref D), some (.ref ta), some (.ref S)] ∧ Same H2 H' ∧ H' S = some (.lst [.str "say", .str (sub x c m)]), ?_, fun σ' H3 hm => ?_⟩
      · refine ⟨_, rfl, ta, _, 0, _, rfl, rfl, SqT.of (kn hta nS), atI_nat (j := 0) rfl, rfl, _, rfl, iteU (by rw [say_again]; rfl) ?_⟩
        refine ⟨_, rfl, S, _, 1, _, rfl, rfl, SqL.of upd_same, atI_nat (j := 1) rfl, _, rfl, rfl, _, rfl, ite2 (fun e => ?_) (fun e => ?_)⟩
        · refine ⟨_, rfl, _, rfl, S, _, 1, 1, rfl, rfl, upd_same, rfl, rfl, put, ?_⟩
          rw [upd_same]
          unfold sub
          rw [if_pos (str_eq e)]
          rfl
        · refine ⟨rfl, same_new nS, ?_⟩
          rw [upd_same]
          unfold sub
          rw [if_neg (str_ne e)]
      obtain ⟨rfl, s3, hS3⟩ := hm
      refine ⟨fun σ' H' => σ' = [some (.ref a), some (.str x), some (.str c), some (.ref D), some (.ref ta), some (.ref S)] ∧ Same H2 H' ∧ H' S = some (.lst [.str "say", .str (sub x c m)]), ?_, fun σ' H4 hm => ?_⟩
      · exact ⟨_, rfl, ta, _, 0, _, rfl, rfl, SqT.of (s3 _ _ hta), atI_nat (j := 0) rfl, rfl, _, rfl, iteD nsay ⟨rfl, s3, hS3⟩⟩
      obtain ⟨rfl, s4, hS4⟩ := hm
      refine ⟨_, rfl, .inl ⟨rfl, _, SqL.of (s4 _ _ hD)⟩, _, rfl, S, _, rfl, .inl ⟨SqL.of hS4, fun t nt => ?_⟩⟩
      obtain ⟨l, zs, yy, e1, e2, e3, e4, e5, e6⟩ := last S _ H4 s4 hS4 (fun H3 t' st ht => ⟨t', rfl, ht⟩) t nt
      exact ⟨l, zs, yy, e1, e2, e3, e4, e5, e6, _, _, rfl⟩
    | again r2 =>
      obtain ⟨ta, tb, ys, rfl, hta, htb, hps2⟩ := hpa2
      have dd : deepR r2 + 1 ≤ deepR r := d1
      have ds : sizeR r2 + 1 ≤ sizeR r := s1
      refine ⟨_, rfl, ta, _, rfl, .inr (SqT.of hta), fun S nS => ?_⟩
      refine ⟨fun σ' H' => σ' = [some (.ref a), some (.str x), some (.str c), some (.ref D), some (.ref ta), some (.ref S)] ∧ Same H2 H' ∧ H' S = some (.lst [.str "again", .ref tb]), ?_, fun σ' H3 hm => ?_⟩
      · exact ⟨_, rfl, ta, _, 0, _, rfl, rfl, SqT.of (kn hta nS), atI_nat (j := 0) rfl, rfl, _, rfl, iteD (by decide +kernel) (iteF ⟨rfl, same_new nS, upd_same⟩)⟩
      obtain ⟨rfl, s3, hS3⟩ := hm
      refine ⟨fun σ' H' => σ' = [some (.ref a), some (.str x), some (.str c), some (.ref D), some (.ref ta), some (.ref S)] ∧ Same H2 H' ∧ ∃ u, H' S = some (.lst [.str "again", u]) ∧ RowAt H' (lcR x c r2) u, ?_, fun σ' H4 hm => ?_⟩
      · refine ⟨_, rfl, ta, _, 0, _, rfl, rfl, SqT.of (s3 _ _ hta), atI_nat (j := 0) rfl, rfl, _, rfl, iteU (by decide +kernel) ?_⟩
        refine ⟨_, rfl, _, rfl, ta, _, -1, .ref tb, rfl, rfl, SqT.of (s3 _ _ hta), atI_last1 (k := 1) rfl rfl, _, rfl, _, rfl, .ref tb, x, c, r2, rfl, ⟨tb, ys, rfl, s3 _ _ htb, PartsAt.mono (STup.of s3) _ _ hps2⟩, by omega, by omega, fun H4 u s4 hu => ?_⟩
        refine ⟨_, rfl, _, rfl, S, _, -1, 1, rfl, rfl, s4 _ _ hS3, rfl, rfl, fun b o e => ?_, u, by rw [upd_same]; rfl, RowAt.mono (STup.lst (s4 _ _ hS3)) hu⟩
        rw [upd_ne (ne_of_none e nS)]
        exact s4 _ _ (s3 _ _ e)
      obtain ⟨rfl, s4, u, hS4, hu⟩ := hm
      refine ⟨_, rfl, .inl ⟨rfl, _, SqL.of (s4 _ _ hD)⟩, _, rfl, S, _, rfl, .inl ⟨SqL.of hS4, fun t nt => ?_⟩⟩
      obtain ⟨l, zs, yy, e1, e2, e3, e4, e5, e6⟩ := last S _ H4 s4 hS4 (fun H3 t' st ht => by
        obtain ⟨ub, uy, rfl, hb1, hb2⟩ := hu
        exact ⟨t', ub, uy, rfl, ht, st _ _ hb1, PartsAt.mono st _ _ hb2⟩) t nt
      exact ⟨l, zs, yy, e1, e2, e3, e4, e5, e6, _, _, rfl⟩
    | oth w m r2 =>
      obtain ⟨ta, tb, ys, rfl, hta, htb, hps2⟩ := hpa2
      have dd : deepR r2 + 1 ≤ deepR r := d1
      have ds : sizeR r2 + 1 ≤ sizeR r := s1
      refine ⟨_, rfl, ta, _, rfl, .inr (SqT.of hta), fun S nS => ?_⟩
      have put : Same H2 (upd (upd H2 S (.lst [.str w.str, .str m, .ref tb])) S (.lst [.str w.str, .str c, .ref tb])) := by
        rw [upd_upd]
        exact same_new nS
      refine ⟨fun σ' H' => σ' = [some (.ref a), some (.str x), some (.str c), some (.ref D), some (.ref ta), some (.ref S)] ∧ Same H2 H' ∧ H' S = some (.lst [.str w.str, .str (sub x c m), .ref tb]), ?_, fun σ' H3 hm => ?_⟩
      · refine ⟨_, rfl, ta, _, 0, _, rfl, rfl, SqT.of (kn hta nS), atI_nat (j := 0) rfl, rfl, _, rfl, iteU (nagain w) ?_⟩
        refine ⟨_, rfl, S, _, 1, _, rfl, rfl, SqL.of upd_same, atI_nat (j := 1) rfl, _, rfl, rfl, _, rfl, ite2 (fun e => ?_) (fun e => ?_)⟩
        · refine ⟨_, rfl, _, rfl, S, _, 1, 1, rfl, rfl, upd_same, rfl, rfl, put, ?_⟩
          rw [upd_same]
          unfold sub
          rw [if_pos (str_eq e)]
          rfl
        · refine ⟨rfl, same_new nS, ?_⟩
          rw [upd_same]
          unfold sub
          rw [if_neg (str_ne e)]
      obtain ⟨rfl, s3, hS3⟩ := hm
      refine ⟨fun σ' H' => σ' = [some (.ref a), some (.str x), some (.str c), some (.ref D), some (.ref ta), some (.ref S)] ∧ Same H2 H' ∧ ∃ u, H' S = some (.lst [.str w.str, .str (sub x c m), u]) ∧ RowAt H' (lcR x c r2) u, ?_, fun σ' H4 hm => ?_⟩
      · refine ⟨_, rfl, ta, _, 0, _, rfl, rfl, SqT.of (s3 _ _ hta), atI_nat (j := 0) rfl, rfl, _, rfl, iteU (nwsay w) ?_⟩
        refine ⟨_, rfl, _, rfl, ta, _, -1, .ref tb, rfl, rfl, SqT.of (s3 _ _ hta), atI_last1 (k := 2) rfl rfl, _, rfl, _, rfl, .ref tb, x, c, r2, rfl, ⟨tb, ys, rfl, s3 _ _ htb, PartsAt.mono (STup.of s3) _ _ hps2⟩, by omega, by omega, fun H4 u s4 hu => ?_⟩
        refine ⟨_, rfl, _, rfl, S, _, -1, 2, rfl, rfl, s4 _ _ hS3, rfl, rfl, fun b o e => ?_, u, by rw [upd_same]; rfl, RowAt.mono (STup.lst (s4 _ _ hS3)) hu⟩
        rw [upd_ne (ne_of_none e nS)]
        exact s4 _ _ (s3 _ _ e)
      obtain ⟨rfl, s4, u, hS4, hu⟩ := hm
      refine ⟨_, rfl, .inl ⟨rfl, _, SqL.of (s4 _ _ hD)⟩, _, rfl, S, _, rfl, .inl ⟨SqL.of hS4, fun t nt => ?_⟩⟩
      obtain ⟨l, zs, yy, e1, e2, e3, e4, e5, e6⟩ := last S _ H4 s4 hS4 (fun H3 t' st ht => by
        obtain ⟨ub, uy, rfl, hb1, hb2⟩ := hu
        exact ⟨t', ub, uy, rfl, ht, st _ _ hb1, PartsAt.mono st _ _ hb2⟩) t nt
      exact ⟨l, zs, yy, e1, e2, e3, e4, e5, e6, _, _, rfl⟩
  · obtain ⟨sm, ⟨vs, hD, hvs, hlv⟩, s4, s5, rfl⟩ := hP
    rw [lx, List.take_length] at hvs
    exact ⟨_, rfl, D, vs, rfl, .inl ⟨SqL.of hD, fun t nt => q _ _ (sm.trans (same_new nt)) ⟨t, vs, rfl, upd_same, PartsAt.mono (STup.new nt) _ _ hvs⟩⟩⟩
theorem lcalled_none {f : Addr} {fd : FuncData} {k : Nat} : FnOk P w K mg base CX0 k f fd ["_law_row_here", "_law_x", "_law_calling"] (spLCalled 0) := by
  have no : ∀ vs H Q E, ¬ spLCalled 0 vs H Q E := fun vs H Q E h => by
    obtain ⟨_, _, _, _, _, _, h1, _⟩ := h
    omega
  exact ⟨fun vs H Q E h => absurd h (no vs H Q E), fun A outer s H args us vs Q E _ _ _ _ h => absurd h (no vs H Q E)⟩
theorem lcalled_ok {f : Addr} {fd : FuncData} (F : Fun K "_law_called" "_law_called" sLCalled f fd) (ml : mg "list" = none) (mt : mg "tuple" = none) (bF : Binds K fd ["_law_row_here", "_law_x", "_law_calling"] []) (mF : mg "_law_called" = some (.ref f)) :
    ∀ n : Nat, FnOk P w K mg base CX0 n f fd ["_law_row_here", "_law_x", "_law_calling"] (spLCalled n)
  | 0 => lcalled_none
  | n + 1 => ok_lcalled F ml mt bF mF (lcalled_ok F ml mt bF mF n)
end
end K10

set_option Elab.async false
set_option linter.all false
set_option maxRecDepth 100000
set_option maxHeartbeats 4000000
namespace K10
open PySem PySem.Spec PyProof.Rows L2 Wk GxR
abbrev sLFreed : Stmt := topS 46
abbrev nmLFr : List Str := ["_law_number", "_law_row_here", "_law_found", "_law_part_here", "_law_inner", "_law_rest"]
abbrev ps2f : List Str := ["_law_number", "_law_row_here"]
abbrev psLC : List Str := ["_law_row_here", "_law_x", "_law_calling"]
theorem scLFr : FnScope nmLFr ps2f (defScope sLFreed) := ⟨rfl, rfl, rfl, by decide +kernel, rfl, by decide +kernel, by decide +kernel⟩
section
variable {P : Program} {w : World} {K : PySem.W.Frag} {mg : Str → Option Value} {base : Heap} {Ts : List Addr}
theorem ok_lfreed {f fC : Addr} {fd fdC : FuncData} {n k : Nat} (F : Fun K "_law_freed" "_law_freed" sLFreed f fd) (mt : mg "tuple" = none) (ms : mg "str" = none) (hk6 : 6 ≤ k) (hn : n ≤ 6)
    (G : FnOk P w K mg base CX0 k f fd ps2f (spFreed n)) (bF : Binds K fd ps2f []) (mF : mg "_law_freed" = some (.ref f))
    (GC : FnOk P w K mg base CX0 6 fC fdC psLC (spLCalled 6)) (bC : Binds K fdC psLC []) (kC : PySem.W.keepIn K (.ref fC) = true) (mC : mg "_law_called" = some (.ref fC)) :
    FnOk P w K mg base CX0 (k + 1) f fd ps2f (spFreed (n + 1)) := by
  refine F.ok scLFr (fun vs H Q E h => ?_) (fun cdv A outer s H vs Q E hr h => ?_)
  · obtain ⟨_, _, _, rfl, _⟩ := h
    rfl
  obtain ⟨k0, v, r, rfl, hR, hd, hs, g, hk, q⟩ := h
  have r6 : Room 6 _ := hr.mono hk6
  refine ⟨_, pss_cons (ps_set (i := 2) scLFr.nd rfl (.inl rfl) (pe_lst pa_nil))
    (pss_cons (ps_for PassesOwn.never rfl (pi_tup (pv 1)) (pg_name (i := 3) scLFr.nd rfl (.inl rfl))
      (pss_one (ps_if (pt_cmpR op_eq (pe_ix ix_tup (pv 3) pe_int (fun _ _ => rfl)) pe_str (nomark _))
        (pss_cons (ps_set (i := 4) scLFr.nd rfl (.inl rfl) (pe_call GC r6 (by rfl) mC kC bC .nil pass0 (pa_cons (pe_ix ix_tup (pv 3) pe_int (fun _ _ => rfl)) (pa_cons (pe_ix ix_tup (pv 3) pe_int (fun _ _ => rfl)) (pa_cons
            (pe_op op_add_str (pe_op op_add_str (pe_ix ix_tup (pv 3) pe_int (fun _ _ => rfl)) pe_str) (pe_callTy call_str_int (by rfl) ms (by decide +kernel) (pa_cons (pv 0) pa_nil))) pa_nil)))))
        (pss_cons (ps_asg (pe_call G hr (by rfl) mF F.kp bF .nil pass0 (pa_cons (pe_op op_add (pv 0) pe_int) (pa_cons (pv 4) pa_nil))) (pg_tup rfl (pgs_cons (pg_name (i := 0) scLFr.nd rfl (.inl rfl)) (pgs_cons (pg_name (i := 5) scLFr.nd rfl (.inl rfl)) pgs_nil))))
        (pss_one (ps_expr (pe_bm PySem.F.plainAttrs_list PySem.F.slot_list_extend PySem.F.type_list_extend mt_extT (pv 2) (pa_cons (pv 5) pa_nil))))))
        (pss_one (ps_if (pt_cmpR op_eq (pe_ix ix_tup (pv 3) pe_int (fun _ _ => rfl)) pe_str (nomark _))
          (pss_cons (ps_asg (pe_call G hr (by rfl) mF F.kp bF .nil pass0 (pa_cons (pv 0) (pa_cons (pe_ix ix_tup (pv 3) pe_int (fun _ _ => rfl)) pa_nil))) (pg_tup rfl (pgs_cons (pg_name (i := 0) scLFr.nd rfl (.inl rfl)) (pgs_cons (pg_name (i := 5) scLFr.nd rfl (.inl rfl)) pgs_nil))))
          (pss_one (ps_expr (pe_bm PySem.F.plainAttrs_list PySem.F.slot_list_append PySem.F.type_list_append mt_append (pv 2) (pa_cons (pe_tup (pa_cons pe_str (pa_cons (pe_ix ix_tup (pv 3) pe_int (fun _ _ => rfl)) (pa_cons (pv 5) pa_nil)))) pa_nil)))))
          (pss_one (ps_expr (pe_bm PySem.F.plainAttrs_list PySem.F.slot_list_append PySem.F.type_list_append mt_append (pv 2) (pa_cons (pv 3) pa_nil)))))))))
    (pss_one (ps_ret (pe_tup (pa_cons (pv 0) (pa_cons (pe_callTy call_tuple_of (by rfl) mt (by decide +kernel) (pa_cons (pv 2) pa_nil)) pa_nil)))))), ?_⟩
  obtain ⟨a, xs, rfl, ha, hps⟩ := hR
  have lx := PartsAt.len hps
  refine ⟨(show 0 ≤ sizeLine by decide), fun D nD => ?_⟩
  refine ⟨_, rfl, a, rfl, ⟨_, SqT.of (kn ha nD)⟩, for_it (walk_tup (xs := xs)) (fun i σ H' => Same H H' ∧ (∃ us, H' D = some (.lst us) ∧ PartsAt H' (frdR (n + 1) k0 (r.take i)).2 us) ∧ ∃ s3 s4 s5 : Option V, σ = [some (.int (frdR (n + 1) k0 (r.take i)).1), some (.ref a), some (.ref D), s3, s4, s5])
    ⟨same_new nD, ⟨[], upd_same, rfl⟩, _, _, _, rfl⟩ (fun i σ H' _ hP => SqT.of (hP.1 _ _ ha)) (fun i y σ H1 H2 hi hP hY => ?_) (fun σ H' hP => ?_)⟩
  · obtain ⟨rfl, hy⟩ := hY
    obtain ⟨sm, ⟨us, hD, hus⟩, s3, s4, s5, rfl⟩ := hP
    obtain ⟨p, hp, hpa⟩ := PartsAt.get hps hy
    have pm : p ∈ r := List.mem_of_getElem? hp
    have d1 := deepR.mem p pm
    have tk : r.take (i + 1) = r.take i ++ [p] := by rw [List.take_add_one, hp]; rfl
    have z1 := sizeR_take r (i + 1)
    rw [tk, sizeR_app, show sizeR [p] = sizeP p from Nat.add_zero _] at z1
    have dt := deepR_take r i
    have zt := sizeR_take r i
    have fo := frd_ok (n + 1) k0 (r.take i) (by omega) (g.take i) (by omega)
    have fhi := fo.hi
    have fsz := fo.size
    have fln := len_sizeR (frdR (n + 1) k0 (r.take i)).2
    have e1 : frdR (n + 1) k0 (r.take (i + 1)) = ((frdP (frdR n) (frdR (n + 1) k0 (r.take i)).1 p).1, (frdR (n + 1) k0 (r.take i)).2 ++ (frdP (frdR n) (frdR (n + 1) k0 (r.take i)).1 p).2) := by
      rw [tk]
      exact frdL_snoc (frdR n) (r.take i) k0 p
    have fo2 := frd_ok (n + 1) k0 (r.take (i + 1)) (by have := deepR_take r (i + 1); omega) (g.take (i + 1)) (by have := sizeR_take r (i + 1); omega)
    have fs2 := fo2.size
    have fl2 := len_sizeR (frdR (n + 1) k0 (r.take (i + 1))).2
    have z2 := sizeR_take r (i + 1)
    rw [e1] at fl2 fs2
    have fl3 : ((frdR (n + 1) k0 (r.take i)).2 ++ (frdP (frdR n) (frdR (n + 1) k0 (r.take i)).1 p).2).length ≤ 1000 := by dsimp only at fl2 fs2; omega
    rw [List.length_append] at fl3
    have lu := PartsAt.len hus
    have hpa2 := PartAt.mono (STup.of sm) p y hpa
    have gp := g.mem p pm
    have szp := sizeR.mem p pm
    -- parts at the end
    have fin : ∀ (H3 : Hp) (zs : List V) (s4 s5 : Option V), Same H2 H3 → PartsAt H3 (frdP (frdR n) (frdR (n + 1) k0 (r.take i)).1 p).2 zs →
        Same H (upd H3 D (.lst (us ++ zs))) ∧ (∃ us, upd H3 D (.lst (us)) D = some (.lst us) ∧ True) ∧ PartsAt (upd H3 D (.lst (us ++ zs))) (frdR (n + 1) k0 (r.take (i + 1))).2 (us ++ zs) := by
      intro H3 zs _ _ sm3 hzs
      have hD3 := sm3 _ _ hD
      refine ⟨fun b o e => by rw [upd_ne (ne_of_none e nD)]; exact sm3 _ _ (sm _ _ e), ⟨[], upd_same, trivial⟩, ?_⟩
      rw [e1]
      exact PartsAt.app (PartsAt.mono (STup.lst hD3) _ _ hzs) (PartsAt.mono ((STup.of sm3).trans (STup.lst hD3)) _ _ hus)
    generalize hk1 : (frdR (n + 1) k0 (r.take i)).1 = k1 at *
    cases p with
    | say m =>
      have hp3 := hpa2
      obtain ⟨ta, rfl, hta⟩ := hp3
      refine ⟨_, rfl, ta, _, 0, _, rfl, rfl, SqT.of hta, atI_nat (j := 0) rfl, rfl, _, rfl, iteD (by decide +kernel) ?_⟩
      refine ⟨_, rfl, ta, _, 0, _, rfl, rfl, SqT.of hta, atI_nat (j := 0) rfl, rfl, _, rfl, iteD (by decide +kernel) ?_⟩
      obtain ⟨f1, _, f3⟩ := fin H2 [.ref ta] none none (fun _ _ e => e) (PartsAt.one hpa2)
      refine ⟨_, rfl, .inl ⟨rfl, _, SqL.of hD⟩, _, rfl, D, us, _, rfl, rfl, hD, small1000 (by omega), f1, ⟨_, upd_same, f3⟩, ?_⟩
      rw [e1]
      exact ⟨_, _, _, rfl⟩
    | again q' =>
      have hp3 := hpa2
      obtain ⟨ta, b, ws, rfl, hta, _⟩ := hp3
      refine ⟨_, rfl, ta, _, 0, _, rfl, rfl, SqT.of hta, atI_nat (j := 0) rfl, rfl, _, rfl, iteD (by decide +kernel) ?_⟩
      refine ⟨_, rfl, ta, _, 0, _, rfl, rfl, SqT.of hta, atI_nat (j := 0) rfl, rfl, _, rfl, iteD (by decide +kernel) ?_⟩
      obtain ⟨f1, _, f3⟩ := fin H2 [.ref ta] none none (fun _ _ e => e) (PartsAt.one hpa2)
      refine ⟨_, rfl, .inl ⟨rfl, _, SqL.of hD⟩, _, rfl, D, us, _, rfl, rfl, hD, small1000 (by omega), f1, ⟨_, upd_same, f3⟩, ?_⟩
      rw [e1]
      exact ⟨_, _, _, rfl⟩
    | oth wd m q' =>
      have hp3 := hpa2
      obtain ⟨ta, b, ws, rfl, hta, hb, hws⟩ := hp3
      have v1 : deepP (Part.oth wd m q') = deepR q' + 1 := rfl
      have v2 : sizeP (Part.oth wd m q') = sizeR q' + 1 := rfl
      have hrow : RowAt H2 q' (.ref b) := ⟨b, ws, rfl, hb, hws⟩
      by_cases c2 : wd = .new
      · subst c2
        obtain ⟨hx, hs6⟩ := gp.out rfl
        have lm := hs6.len
        have shp := priv_sh (k := k1) hs6 (by omega)
        have lp := shp.len
        have la : (m ++ ".").length = m.length + 1 := by rw [app_len]; rfl
        refine ⟨_, rfl, ta, _, 0, _, rfl, rfl, SqT.of hta, atI_nat (j := 0) rfl, rfl, _, rfl, iteU (by decide +kernel) ?_⟩
        refine ⟨_, rfl, ta, _, 2, _, rfl, rfl, SqT.of hta, atI_nat (j := 2) rfl, _, rfl, ta, _, 1, _, rfl, rfl, SqT.of hta, atI_nat (j := 1) rfl, _, rfl, ta, _, 1, _, rfl, rfl, SqT.of hta, atI_nat (j := 1) rfl, ?_⟩
        refine ⟨m, ".", rfl, rfl, (show m.length + 1 ≤ sizeLine from small (by omega)), ?_⟩
        refine ⟨_, rfl, k1, rfl, num_log (by omega), ?_⟩
        refine ⟨m ++ ".", _, rfl, rfl, ?_, ?_⟩
        · have ln : (Str.ofString (toString (k1 : Int))).length ≤ 10 := (num_sh (n := (k1 : Int)) (by omega) (by omega)).len
          show (m ++ ".").length + (Str.ofString (toString (k1 : Int))).length ≤ sizeLine
          exact small (by omega)
        refine ⟨.ref b, m, priv m k1, q', rfl, hrow, by omega, by omega, fun H3 u sm3 hu => ?_⟩
        rw [← called_lcR q' hx] at hu
        refine ⟨_, rfl, k1, 1, rfl, rfl, _, rfl, k1 + 1, u, _, rfl, hu, by rw [calledR_deep]; omega, by rw [calledR_size]; omega, gp.rest.called hx shp, by rw [calledR_size]; omega, fun H4 u4 sm4 hT => ?_⟩
        obtain ⟨t, u2, rfl, ht, b2, zs, rfl, hb2, hzs⟩ := hT
        refine ⟨t, _, rfl, SqT.of ht, rfl, _, _, rfl, _, _, rfl, rfl, ?_⟩
        have sm5 := sm3.trans sm4
        obtain ⟨f1, _, f3⟩ := fin H4 zs none none sm5 hzs
        have lz := PartsAt.len hzs
        have lz2 : zs.length = (frdP (frdR n) k1 (Part.oth .new m q')).2.length := lz
        refine ⟨_, rfl, .inl ⟨rfl, _, SqL.of (sm5 _ _ hD)⟩, _, rfl, D, b2, us, zs, rfl, rfl, sm5 _ _ hD, SqT.of hb2, small (by omega), f1, ⟨_, upd_same, f3⟩, ?_⟩
        rw [e1]
        exact ⟨_, _, _, rfl⟩
      · have e2 : decide (V.str wd.str = V.str "new") = false := by
          cases wd with
          | new => exact absurd rfl c2
          | _ => decide +kernel
        refine ⟨_, rfl, ta, _, 0, _, rfl, rfl, SqT.of hta, atI_nat (j := 0) rfl, rfl, _, rfl, iteD e2 ?_⟩
        by_cases c1 : wd = .room
        · subst c1
          refine ⟨_, rfl, ta, _, 0, _, rfl, rfl, SqT.of hta, atI_nat (j := 0) rfl, rfl, _, rfl, iteU (by decide +kernel) ?_⟩
          refine ⟨_, rfl, _, rfl, ta, _, 2, _, rfl, rfl, SqT.of hta, atI_nat (j := 2) rfl, k1, .ref b, q', rfl, hrow, by omega, by omega, gp.rest, by omega, fun H4 u4 sm4 hT => ?_⟩
          obtain ⟨t, u2, rfl, ht, b2, zs, rfl, hb2, hzs⟩ := hT
          refine ⟨t, _, rfl, SqT.of ht, rfl, _, _, rfl, _, _, rfl, rfl, ?_⟩
          refine ⟨_, rfl, .inl ⟨rfl, _, SqL.of (sm4 _ _ hD)⟩, _, rfl, ta, _, 1, _, rfl, rfl, SqT.of (sm4 _ _ hta), atI_nat (j := 1) rfl, _, rfl, (show 3 ≤ sizeLine by decide), fun t1 n1 => ?_⟩
          have sm5 := sm4.trans (same_new (o := .tup [.str "room", .str m, .ref b2]) n1)
          obtain ⟨f1, _, f3⟩ := fin _ [.ref t1] none none sm5 (PartsAt.one ⟨t1, b2, zs, rfl, upd_same, kn hb2 n1, PartsAt.mono (STup.new n1) _ _ hzs⟩)
          refine ⟨D, us, _, rfl, rfl, sm5 _ _ hD, small1000 (by omega), f1, ⟨_, upd_same, f3⟩, ?_⟩
          rw [e1]
          exact ⟨_, _, _, rfl⟩
        · have e3 : decide (V.str wd.str = V.str "room") = false := by
            cases wd with
            | room => exact absurd rfl c1
            | _ => decide +kernel
          have ef : frdP (frdR n) k1 (Part.oth wd m q') = (k1, [Part.oth wd m q']) := by
            cases wd with
            | room => exact absurd rfl c1
            | new => exact absurd rfl c2
            | _ => rfl
          refine ⟨_, rfl, ta, _, 0, _, rfl, rfl, SqT.of hta, atI_nat (j := 0) rfl, rfl, _, rfl, iteD e3 ?_⟩
          obtain ⟨f1, _, f3⟩ := fin H2 [.ref ta] none none (fun _ _ e => e) (by rw [ef]; exact PartsAt.one hpa2)
          refine ⟨_, rfl, .inl ⟨rfl, _, SqL.of hD⟩, _, rfl, D, us, _, rfl, rfl, hD, small1000 (by omega), f1, ⟨_, upd_same, f3⟩, ?_⟩
          rw [e1, ef]
          exact ⟨_, _, _, rfl⟩
  · obtain ⟨sm, ⟨us, hD, hus⟩, s3, s4, s5, rfl⟩ := hP
    rw [lx, List.take_length] at hus ⊢
    refine ⟨_, rfl, _, rfl, D, us, rfl, .inl ⟨SqL.of hD, fun t nt => ?_⟩⟩
    refine ⟨(show 2 ≤ sizeLine by decide), fun t2 nt2 => ?_⟩
    exact q _ _ ((sm.trans (same_new nt)).trans (same_new nt2)) ⟨t2, .ref t, rfl, upd_same, t, us, rfl, kn upd_same nt2, PartsAt.mono ((STup.new nt).trans (STup.new nt2)) _ _ hus⟩
theorem lfreed_none {f : Addr} {fd : FuncData} {k : Nat} : FnOk P w K mg base CX0 k f fd ps2f (spFreed 0) := by
  have no : ∀ vs H Q E, ¬ spFreed 0 vs H Q E := fun vs H Q E h => by
    obtain ⟨_, _, _, _, _, h1, _⟩ := h
    omega
  exact ⟨fun vs H Q E h => absurd h (no vs H Q E), fun A outer s H args us vs Q E _ _ _ _ h => absurd h (no vs H Q E)⟩
theorem lfreed_ok {f fC : Addr} {fd fdC : FuncData} (F : Fun K "_law_freed" "_law_freed" sLFreed f fd) (mt : mg "tuple" = none) (ms : mg "str" = none) (bF : Binds K fd ps2f []) (mF : mg "_law_freed" = some (.ref f))
    (GC : FnOk P w K mg base CX0 6 fC fdC psLC (spLCalled 6)) (bC : Binds K fdC psLC []) (kC : PySem.W.keepIn K (.ref fC) = true) (mC : mg "_law_called" = some (.ref fC)) :
    ∀ n : Nat, n ≤ 7 → FnOk P w K mg base CX0 (n + 6) f fd ps2f (spFreed n)
  | 0, _ => lfreed_none
  | n + 1, h => FnOk.mono (ok_lfreed F mt ms (by omega) (by omega) (lfreed_ok F mt ms bF mF GC bC kC mC n (by omega)) bF mF GC bC kC mC) (by omega)
end
end K10

set_option Elab.async false
set_option linter.all false
set_option maxRecDepth 100000
set_option maxHeartbeats 4000000
/-! try: .. except x as n: suite, where the caught error is known behind the suite, too. -/
namespace Wk
open PySem PySem.Spec PyProof.Rows L2
/-- an error of the class cls, its dict d -/
def ErO (a : Addr) (cls : Value) (d : Option Addr) : HO := .ext fun h => ∃ o vs, h.get? a = some o ∧ Zc cls d o ∧ o.data = .fields vs
theorem erO_ok {P : Program} {w : World} {H : Hp} {h : Heap} {a : Addr} {cls : Value} {d : Option Addr} {o : Obj} {vs : Array Value}
    (e : h.get? a = some o) (z : Zc cls d o) (f : o.data = .fields vs) : ObjOk P w H h a (ErO a cls d) := by
  refine ⟨⟨o, vs, e, z, f⟩, ⟨o, e⟩, ?_⟩
  intro h1 h2 p k
  obtain ⟨o1, v1, e1, z1, f1⟩ := p
  exact ⟨o1, v1, k _ e1, z1, f1⟩
section
variable {X : Cx} {pins : List (Addr × Obj)} {σ : L2.St} {H : Hp} {s : Shared}
/-- a pinned error is taken into the book -/
theorem Inv.book {a : Addr} {o : Obj} {vs : Array Value} {cls : Value} {d : Option Addr} (I : Inv X ((a, o) :: pins) σ H s) (z : Zc cls d o) (f : o.data = .fields vs) (new : X.s_0.heap.get? a = none) (nc : ∀ x c, X.env.cells.lookup x = some c → c ≠ a)
    (np : ∀ p ∈ X.pn ++ pins, p.1 ≠ a) : Inv X pins σ (upd H a (ErO a cls d)) s := by
  obtain ⟨e, n, nL, nF, _⟩ := I.pin (a, o) (List.mem_append_right _ List.mem_cons_self)
  have hold : ∀ b u, H b = some u → upd H a (ErO a cls d) b = some u := fun b u q => (upd_ne (fun q2 => by
    rw [q2] at q
    rw [show H a = none from n] at q
    cases q)).trans q
  refine ⟨I.ok, I.os, I.bare, ⟨I.base.keep, I.base.slot, ?_, I.base.there, fun b xs q => hold _ _ (I.base.tups b xs q), fun b u v q => hold _ _ (I.base.frzs b u v q), fun b ps q => ?_⟩, I.loc, I.cell, (upd_ne (Ne.symm nL)).trans I.free, fun x c q => (upd_ne (nc x c q)).trans (I.freeC x c q), fun p hp => ?_, ?_, I.len⟩
  · intro b ob q1 q2 q3
    refine (upd_ne ?_).trans (I.base.free b ob q1 q2 q3)
    intro q4
    rw [q4, new] at q1
    cases q1
  · obtain ⟨m, q2⟩ := I.base.tbls b ps q
    exact ⟨m, hold _ _ q2⟩
  · have old : p ∈ X.pn ++ (a, o) :: pins := by
      rcases List.mem_append.mp hp with g | g
      · exact List.mem_append_left _ g
      · exact List.mem_append_right _ (List.mem_cons_of_mem _ g)
    obtain ⟨p1, p2, p3⟩ := I.pin p old
    exact ⟨p1, (upd_ne (np p hp)).trans p2, p3⟩
  · intro b u q
    by_cases c : b = a
    · rw [c, upd_same] at q
      cases q
      rw [c]
      exact erO_ok e z f
    · rw [upd_ne c] at q
      exact (I.hok b u q).stay (fun _ _ _ r => r) (fun _ r => hold _ _ r) fun _ _ r => hold _ _ r
/-- behind the suite the error is pinned still -/
theorem Inv.held {a : Addr} {o : Obj} (I : Inv (X.suite a ((a, o) :: (X.pn ++ pins))) [] σ H s) (ok : X.Ok) : Inv X ((a, o) :: pins) σ H s := by
  refine ⟨ok, I.os, I.bare, I.base, I.loc, I.cell, I.free, I.freeC, ?_, I.hok, I.len⟩
  intro p hp
  refine I.pin p (List.mem_append_left _ ?_)
  rcases List.mem_append.mp hp with g | g
  · exact List.mem_cons_of_mem _ (List.mem_append_left _ g)
  · rcases List.mem_cons.mp g with g | g
    · exact g ▸ List.mem_cons_self
    · exact List.mem_cons_of_mem _ (List.mem_append_right _ g)
end
/-- what the clause wishes: behind its suite, which ends, the error stands in the book -/
def wKeep (K : PySem.W.Frag) (c : Value) (i : Nat) (ts : Addr → Value → Option Addr → TS) (D : Ends) : WX := fun cls d σ H =>
  PySem.W.exmOne K cls c = some true ∧ ∀ a, H a = none →
    ts a cls d ⟨fun τ G => D.nx (τ.set i none) (upd G a (ErO a cls d)), fun _ _ => False, fun _ _ => False, fun _ _ => False⟩ (σ.set i (some (.ref a))) H
section
variable {X : Cx} {x n : Str} {c : Value} {i : Nat} {body suite : List Stmt} {b0 : Stmt} {np p0 p1 : Pos} {tb : WX → TS} {ts : Addr → Value → Option Addr → TS}
theorem ps_try_keep (hs : X.stack = X.env :: X.outer) (hf : X.env.frame = some X.env.locals) (hN : X.N.Nodup) (hi : X.N[i]? = some n) (hln : X.env.kindOf n = some .local) (hc : Names X x c) (hex : X.ex = [])
    (hb : ∀ (W : WX) (pn : List (Addr × Obj)) (xe : Value → Shared → Prop), Takes (X.tr pn xe) W → PassesOwn (model X.prog X.w) X.A X.env xe → PSs (X.tr pn xe) body (tb W))
    (hsu : ∀ (a : Addr) (o : Obj) (cls : Value) (d : Option Addr) (pn : List (Addr × Obj)), Zc cls d o → (∃ vs, o.data = .fields vs) → PSs (X.suite a ((a, o) :: pn)) (b0 :: suite) (ts a cls d)) :
    PS X (.Try body [.ExceptHandler (some (.Name x np)) (some n) (b0 :: suite) p1] [] [] p0) (fun D σ H => tb (wKeep X.K c i ts D) D σ H) := by
  refine ⟨fun pins s σ H D I h => wpAny_Try_except ?_⟩
  have ok := I.ok
  have fr : X.A.frames = some (X.env :: X.outer) := ok.frames.trans (congrArg some hs)
  have caught : ∀ xe u s', XE (X.tr (X.pn ++ pins) xe) (wKeep X.K c i ts D) u s' →
      wpAny (model X.prog X.w) X.A (noteFrame u X.env) (fun _ s2 => wpAny (model X.prog X.w) X.A (setFlight u none) (fun _ s3 =>
        wpAny (model X.prog X.w) X.A (handleBy u X.env [.ExceptHandler (some (.Name x np)) (some n) (b0 :: suite) p1]) (SP X pins D) X.xe s3) X.xe s2) X.xe s' := by
    intro xe u s' xx
    obtain ⟨a, B, sI, pins', τ, G, cls, d, rfl, J', nb, up, sky, na, os, ag, hb1, hyes⟩ := xx
    have J : Inv X pins τ G sI := by
      exact ⟨ok, J'.os, J'.bare, J'.base, J'.loc, J'.cell, J'.free, J'.freeC, fun p hp => J'.pin p (List.mem_append_left _ hp), J'.hok, J'.len⟩
    have nb : ∀ b o, sI.heap.get? b = some o → b ∉ frs X.stack → B.get? b = some o := nb
    have sky2 : Sky B (X.env :: X.outer) a (Zc cls d) X.env.locals s'.heap := hs ▸ sky
    refine Sky.land Zc.steady fr hf sky2 fun h3 fl3 up3 => ?_
    have J3 : Inv X pins τ G { s' with heap := h3 } := J.landed nb fl3.1 (up.trans up3) os ag
    obtain ⟨o3, v3, e3, z3, f3⟩ := fl3.there
    have off : a ∉ frs (X.env :: X.outer) := fun hm => by
      obtain ⟨_, o', e', hnf⟩ := fl3.2.2.1.mem hm
      rw [e3] at e'
      cases e'
      exact hnf _ f3
    have nL : a ≠ X.env.locals := fun z => off (List.mem_filterMap.mpr ⟨X.env, List.mem_cons_self, by rw [hf, z]⟩)
    have nF : a ∉ X.fs := fun hm => by
      obtain ⟨e, he, q⟩ := List.mem_filterMap.mp hm
      exact off (List.mem_filterMap.mpr ⟨e, List.mem_cons_of_mem _ he, q⟩)
    -- it stood nowhere ahead
    have none0 : sI.heap.get? a = none := by
      cases q : sI.heap.get? a with
      | none => rfl
      | some o =>
        have := nb a o q (by rw [hs]; exact off)
        rw [fl3.2.1] at this
        cases this
    have none1 : X.s_0.heap.get? a = none := by
      cases q : X.s_0.heap.get? a with
      | none => rfl
      | some o =>
        obtain ⟨o', q'⟩ := J.base.there a o q (by rw [hex]; exact List.not_mem_nil)
        rw [none0] at q'
        cases q'
    have notC : ∀ y k, X.env.cells.lookup y = some k → k ≠ a := fun y k q z => by
      obtain ⟨w, o, m, _⟩ := J.cell y k q
      rw [z, none0] at m
      cases m
    have notP : ∀ p ∈ X.pn ++ pins, p.1 ≠ a := fun p hp z => by
      have := (J.pin p hp).1
      rw [z, none0] at this
      cases this
    have S3 := J3.suite e3 f3 na nL nF
    have ty : PySem.W.Looks (model X.prog X.w) h3 (typeOf (.ref a)) cls := fun _ _ _ _ k q => wpAny_typeOf_ref (k _ _ e3) (z3.1 ▸ q)
    have mt := PySem.W.exm_one (M := model X.prog X.w) J3.kIn ty hb1
    have name : ∀ {Q : Value → Shared → Prop} {E : Value → Shared → Prop}, Q c { s' with heap := h3 } → wpAny (model X.prog X.w) (X.A.mark (some (.ref a))) (eval (.Name x np) X.env) Q E { s' with heap := h3 } := by
      intro Q E q
      obtain ⟨g1, g2, g3 | ⟨g3, g4, g5⟩⟩ := hc
      · exact ld_glob (X := X.suite a ((a, o3) :: (X.pn ++ pins))) S3 g1 g3 q g2
      · exact ld_blt (X := X.suite a ((a, o3) :: (X.pn ++ pins))) S3 g1 g3 g4 q g5 g2
    refine wpAny_handleBy_cons (codeAny_handlers_test (name (mt.here ?_))) (by intro q; cases q)
    refine codeAny_handlers_suite_as (HandSPX.lands_againZ fl3 fun h4 fl4 up4 => ?_)
    have J4 : Inv X pins τ G { s' with heap := h4 } := J.landed nb fl4.1 ((up.trans up3).trans up4) os ag
    obtain ⟨o4, v4, e4, z4, f4⟩ := fl4.there
    refine store_ok (X := X.suite a ((a, o4) :: (X.pn ++ pins))) (v := .ref a) (J4.suite e4 f4 na nL nF) hN hi (.inl hln) rfl (fun s5 S5 => ?_) (.inr hln)
    refine wpAny_mono ((hsu a o4 cls d _ z4 ⟨_, f4⟩).run [] s5 _ G _ S5 (hyes a na)) (fun f s6 q => ?_) (fun _ _ z => z.elim)
    cases f with
    | next =>
      obtain ⟨τ6, G6, S6, q6⟩ := q
      exact gone_ok (Inv.held S6 ok) hN hi hln fun s7 J7 => ⟨_, _, Inv.book J7 z4 f4 none1 notC notP, q6⟩
    | brk =>
      obtain ⟨_, _, _, q6⟩ := q
      exact q6.elim
    | cont =>
      obtain ⟨_, _, _, q6⟩ := q
      exact q6.elim
    | ret u =>
      obtain ⟨_, _, _, _, _, q6⟩ := q
      exact q6.elim
  refine wpAny_mono ((hb _ (X.pn ++ pins) _ (fun u s' q => caught _ u s' q) PassesOwn.looking).run [] s σ H D (I.toTry _) h) (fun f s1 q => ?_) (fun e s1 he => he)
  cases f with
  | next =>
    obtain ⟨τ, G, J, q⟩ := q
    exact wpAny_execs_nil ⟨τ, G, J.ofTry ok, q⟩
  | brk =>
    obtain ⟨τ, G, J, q⟩ := q
    exact ⟨τ, G, J.ofTry ok, q⟩
  | cont =>
    obtain ⟨τ, G, J, q⟩ := q
    exact ⟨τ, G, J.ofTry ok, q⟩
  | ret u =>
    obtain ⟨v, τ, G, J, r, q⟩ := q
    exact ⟨v, τ, G, J.ofTry ok, r, q⟩
end
/-! ### isinstance of an error in the book -/
section
variable {X : Cx}
theorem er_kit {pins : List (Addr × Obj)} {σ : L2.St} {H : Hp} {s : Shared} {a D : Addr} (I : Inv X pins σ H s) (e : H a = some (ErO a (.ref D) none)) (C : ExcC X.K D) :
    ∃ P : Heap → Prop, PySem.W.KitX X.K (.ref a) (.ref D) P ∧ P s.heap := by
  obtain ⟨⟨o, vs, h1, h2, h3⟩, _⟩ := (show ObjOk X.prog X.w H s.heap a (ErO a (.ref D) none) from I.hok a _ e)
  refine ⟨fun h => PySem.W.InstAt h a o D none, PySem.W.handS_kitx_exc C.hg C.hk C.hs C.hd C.ha C.hn C.ht C.hm, ?_⟩
  obtain ⟨oc, od, dt, sl⟩ := o
  obtain ⟨z1, z2⟩ := h2
  dsimp only at z1 z2 h3
  subst z1 z2 h3
  exact ⟨h1, rfl, rfl, trivial⟩
def rIsX (K : PySem.W.Frag) : List V → Hp → VK → Prop := fun xs H Q => ∃ (a D : Addr) (c : V) (u : Value) (b : Bool), xs = [.ref a, c] ∧ H a = some (ErO a (.ref D) none) ∧ ExcC K D ∧ ClsV c u ∧ PySem.W.kitOne K (.ref D) u = some b ∧ Q (.bl b) H
theorem call_isX : CallR X (.builtin "isinstance") (rIsX X.K) := by
  intro pins s σ H xs us Q I r h
  obtain ⟨a, D, c, u, b, rfl, e, C, k, kb, q⟩ := h
  obtain ⟨u1, u2, rfl, r1, r2⟩ := vals2 r
  have e2 := k.eq r2
  subst e2
  cases (show u1 = Value.ref a from r1)
  obtain ⟨P, Z, p⟩ := er_kit I e C
  exact PySem.W.kia_one Z I.kIn p kb (fun z => nomatch z) fun t => ⟨.bl b, H, I.tok t, rfl, q⟩
def rIsXT (K : PySem.W.Frag) : List V → Hp → VK → Prop := fun xs H Q => ∃ (a D tp : Addr) (cs : List V) (us : List Value) (b : Bool), xs = [.ref a, .ref tp] ∧ H a = some (ErO a (.ref D) none) ∧ ExcC K D ∧ H tp = some (.tup cs) ∧ Paired ClsV cs us ∧ PySem.W.kitAny K (.ref D) us = some b ∧ Q (.bl b) H
theorem call_isXT : CallR X (.builtin "isinstance") (rIsXT X.K) := by
  intro pins s σ H xs us Q I r h
  obtain ⟨a, D, tp, cs, ws, b, rfl, e, C, hT, k, kb, q⟩ := h
  obtain ⟨u1, u2, rfl, r1, r2⟩ := vals2 r
  cases (show u1 = Value.ref a from r1)
  cases (show u2 = Value.ref tp from r2)
  obtain ⟨P, Z, p⟩ := er_kit I e C
  obtain ⟨_, its, rv, ⟨oc, od, dt, sl⟩, h1, h2, n, h3⟩ := (show ObjOk X.prog X.w H s.heap tp (.tup cs) from I.hok tp _ hT)
  have e3 := ClsV.all k rv
  subst e3
  simp only at h2 h3
  subst h2 h3
  exact PySem.W.kia_tup Z I.kIn p h1 kb (fun z => nomatch z) fun t => ⟨.bl b, H, I.tok t, rfl, q⟩
end
end Wk

set_option Elab.async false
set_option linter.all false
set_option maxRecDepth 100000
set_option maxHeartbeats 2000000
/-! Things of tuples alone; tuples joined; things that are no house. -/
namespace Wk
open PySem PySem.Spec PyProof.Rows L2 GxR
def rCatS : R2 := fun x y H Q => ∃ a b xs ys, x = .ref a ∧ y = .ref b ∧ H a = some (.tup xs) ∧ H b = some (.tup ys) ∧ xs.length + ys.length ≤ 1000 ∧ ∀ (H' : Hp) (c : Addr), Same H H' → H' c = some (.tup (xs ++ ys)) → Q (.ref c) H'
theorem op_catS {X : Cx} : OpR X (binaryOp .Add) rCatS := by
  intro pins s σ H x y v u Q I rx ry h
  obtain ⟨a, b, xs, ys, ex, ey, ha, hb, hz, q⟩ := h
  refine op_catA pins s σ H x y v u Q I rx ry ⟨a, b, xs, ys, ex, ey, SqT.of ha, SqT.of hb, small hz, fun e => ?_, fun _ e => ?_, fun _ _ p np => ?_⟩
  · exact q H b (fun _ _ e => e) (by rw [e]; exact hb)
  · exact q H a (fun _ _ e => e) (by rw [e, List.append_nil]; exact ha)
  · exact q _ p (same_new np) upd_same
mutual
def pureT : Th → Prop
  | .tup xs => pureTs xs
  | .lst _ => False
  | .dct => False
  | _ => True
def pureTs : List Th → Prop
  | [] => True
  | t :: ts => pureT t ∧ pureTs ts
end
mutual
theorem ThAt.monoT {H H' : Hp} (s : STup H H') : ∀ (t : Th) (v : V), pureT t → ThAt H t v → ThAt H' t v
  | .str z, v, _, h => h
  | .non, v, _, h => h
  | .int i, v, _, h => h
  | .bl b, v, _, h => h
  | .lst xs, v, p, _ => p.elim
  | .dct, v, p, _ => p.elim
  | .tup xs, v, p, h => by
    obtain ⟨a, vs, e, h1, h2⟩ := h
    exact ⟨a, vs, e, s _ _ h1, ThsAt.monoT s xs vs p h2⟩
theorem ThsAt.monoT {H H' : Hp} (s : STup H H') : ∀ (ts : List Th) (vs : List V), pureTs ts → ThsAt H ts vs → ThsAt H' ts vs
  | [], vs, _, h => h
  | t :: ts, vs, p, h => by
    obtain ⟨v, us, e, h1, h2⟩ := h
    exact ⟨v, us, e, ThAt.monoT s t v p.1 h1, ThsAt.monoT s ts us p.2 h2⟩
end
theorem pureTs_app : ∀ {l m : List Th}, pureTs l → pureTs m → pureTs (l ++ m)
  | [], _, _, g => g
  | _ :: _, _, h, g => ⟨h.1, pureTs_app h.2 g⟩
mutual
theorem pure_P : ∀ p : Part, pureT (thP p)
  | .say n => ⟨trivial, trivial, trivial⟩
  | .again r => ⟨trivial, pure_R r, trivial⟩
  | .oth w n r => ⟨trivial, trivial, pure_R r, trivial⟩
theorem pure_R : ∀ r : List Part, pureTs (thR r)
  | [] => trivial
  | p :: r => ⟨pure_P p, pure_R r⟩
end
theorem okTs_app {l m : List Th} (h : okTs l) (g : okTs m) : okTs (l ++ m) :=
  okTs.of fun t ht => (List.mem_append.mp ht).elim (okTs.mem h t) (okTs.mem g t)
/-! ### no house -/
def NoHs (t : Th) : Prop := ¬ ∃ r, t = thRow r ∧ HouseR r
theorem nh_kind {t : Th} (h : isTup t = false) : NoHs t := fun ⟨r, e, _⟩ => by
  rw [e] at h
  cases h
theorem nh_mem {ts : List Th} {x : Th} (hx : x ∈ ts) (h : ∀ p, okP NmOk p → thP p ≠ x) : NoHs (.tup ts) := fun ⟨r, e, hh⟩ => by
  have e' : ts = thR r := Th.tup.inj e
  rw [e', thR_map] at hx
  obtain ⟨p, hp, rfl⟩ := List.mem_map.mp hx
  exact h p (okR.mem hh.ok p hp) rfl
theorem nh_name {z : Str} (h : nameB z = false) : ∀ p, okP NmOk p → thP p ≠ .tup [.str "say", .str z] := fun p ok e => by
  have e2 := thP_inj p (.say z) e
  rw [e2] at ok
  have : nameB z = true := ok.1
  rw [h] at this
  cases this
theorem nh_list {xs : List Th} : ∀ p, okP NmOk p → thP p ≠ .lst xs := fun p _ e => by
  cases p <;> cases e
theorem nh_str {z : Str} : ∀ p, okP NmOk p → thP p ≠ .str z := fun p _ e => by
  cases p <;> cases e
theorem nh_nil : ∀ p, okP NmOk p → thP p ≠ .tup [] := fun p _ e => by
  cases p <;> cases e
theorem nh_room : ∀ p, okP NmOk p → thP p ≠ .tup [.str "room", .str "a", .tup [.str "say", .str "a"]] := fun p _ e => by
  cases p with
  | say n => cases e
  | again r => cases e
  | oth w n r =>
    have h := (List.cons.inj (List.cons.inj (List.cons.inj (Th.tup.inj e)).2).2).1
    have h2 : thR r = [.str "say", .str "a"] := Th.tup.inj h
    cases r with
    | nil => cases h2
    | cons p r =>
      have h3 := (List.cons.inj h2).1
      exact absurd h3 (by cases p <;> (intro z; cases z))
theorem thR_snoc (r : List Part) (p : Part) : thR (r ++ [p]) = thR r ++ [thP p] := by
  rw [thR_map, thR_map, List.map_append]
  rfl
theorem nh_twice {r : List Part} {n : Str} (h : n ∈ bdR r) : NoHs (.tup (thR r ++ [thP (.oth .hear n [])])) := fun ⟨r', e, hh⟩ => by
  have e1 : thR r ++ [thP (.oth .hear n [])] = thR r' := Th.tup.inj e
  rw [← thR_snoc] at e1
  have e2 := thR_inj _ _ e1
  have nd := hh.nd
  rw [← e2, bdR_app] at nd
  exact (List.nodup_append.mp nd).2.2 n h n (by show n ∈ [n]; exact List.mem_singleton.mpr rfl) rfl
theorem nh_out {r : List Part} {n : Str} (h : n ∈ bdR r) : NoHs (.tup (thR r ++ [thP (.say n)])) := fun ⟨r', e, hh⟩ => by
  have e1 : thR r ++ [thP (.say n)] = thR r' := Th.tup.inj e
  rw [← thR_snoc] at e1
  have e2 := thR_inj _ _ e1
  have ap := hh.apart
  rw [← e2] at ap
  refine ap n ?_ ?_
  · rw [bdR_app]; exact List.mem_append_left _ h
  · rw [frR_app]
    refine List.mem_append_right _ ?_
    show n ∈ frR [] [.say n]
    simp [frR, frP]
theorem rep_size : ∀ k : Nat, sizeR (List.replicate k (Part.say "a")) = k
  | 0 => rfl
  | k + 1 => by
    show sizeP (.say "a") + sizeR (List.replicate k (Part.say "a")) = k + 1
    rw [rep_size k]
    show 1 + k = k + 1
    omega
theorem nh_many : NoHs (thRow (List.replicate 401 (Part.say "a"))) := fun ⟨r, e, hh⟩ => by
  have e2 := thRow_inj e
  have := hh.size
  rw [← e2, rep_size] at this
  omega
def dpR : Nat → List Part
  | 0 => []
  | n + 1 => [.oth .inn "a" (dpR n)]
theorem dpR_deep : ∀ n, deepR (dpR n) = n
  | 0 => rfl
  | n + 1 => by
    show max (deepR (dpR n) + 1) 0 = n + 1
    rw [dpR_deep n]
    omega
theorem nh_deep : NoHs (thRow (dpR 25)) := fun ⟨r, e, hh⟩ => by
  have e2 := thRow_inj e
  have := hh.deep
  rw [← e2, dpR_deep] at this
  omega
def spDeepRow : Sp := fun vs H Q _ => ∃ m : Nat, vs = [.int m] ∧ m ≤ 30 ∧ ∀ (H' : Hp) (u : V), Same H H' → RowAt H' (dpR m) u → Q u H'
/-! ### things that are none, as values -/
def NhV (H : Hp) (v : V) : Prop := ∃ t, ThAt H t v ∧ okT t ∧ NoHs t
theorem NhV.up {H H' : Hp} {v : V} (s : Same H H') (h : NhV H v) : NhV H' v := h.imp fun t g => ⟨ThAt.mono (Kpt.same s) t v g.1, g.2⟩
def NhA (H : Hp) (xs : List V) : Prop := ∀ v ∈ xs, NhV H v
theorem NhA.up {H H' : Hp} {xs : List V} (s : Same H H') (h : NhA H xs) : NhA H' xs := fun v hv => (h v hv).up s
theorem NhA.app {H : Hp} {xs ys : List V} (a : NhA H xs) (b : NhA H ys) : NhA H (xs ++ ys) := fun v hv => (List.mem_append.mp hv).elim (a v) (b v)
theorem NhA.nil {H : Hp} : NhA H [] := fun _ h => nomatch h
theorem NhA.cons {H : Hp} {v : V} {xs : List V} (a : NhV H v) (b : NhA H xs) : NhA H (v :: xs) := fun y hy => by
  rcases List.mem_cons.mp hy with e | e
  · rw [e]; exact a
  · exact b y e
theorem RowAt.parts {H : Hp} {r : List Part} {v : V} (h : RowAt H r v) : ∃ a vs, v = .ref a ∧ H a = some (.tup vs) ∧ ThsAt H (thR r) vs := by
  obtain ⟨a, vs, e, h1, h2⟩ := at_thRow h
  exact ⟨a, vs, e, h1, h2⟩
end Wk

set_option Elab.async false
set_option linter.all false
set_option maxRecDepth 100000
set_option maxHeartbeats 4000000
namespace Wk
open PySem PySem.Spec PyProof.Rows L2 GxR

/-- settled of any thing: a stand, or an error of the class at C -/
def spSettledX (Ts : List Addr) (n : Nat) (C : Addr) : Sp := fun vs H Q E => ∃ (v : V) (t : Th), vs = [v] ∧ ThAt H t v ∧ okT t ∧ TabsG Ts H ∧
  ((∃ r, t = thRow r ∧ HouseR r ∧ deepR r < n ∧ Gd r ∧ ∀ (H' : Hp) (u : V), SamTs Ts H H' → ToldAt H' (frdR n 1 r) u → Q u H') ∨ (NoHs t ∧ ∀ H', SamTs Ts H H' → E (.ref C) none H'))
/-- facts of an error's class -/
structure ErC (K : PySem.W.Frag) (mg : Str → Option Value) (x : Str) (C : Addr) : Prop where
  g : mg x = some (.ref C)
  k : PySem.W.keepIn K (.ref C) = true
  b : PySem.W.subIn K (.ref C) (.type "BaseException") = some true
  t : PySem.W.typeIn K (.ref C) = some (.type "type")
end Wk
namespace K10
open PySem PySem.Spec PyProof.Rows L2 Wk GxR
section
variable {P : Program} {w : World} {K : PySem.W.Frag} {mg : Str → Option Value} {base : Heap} {Ts : List Addr}
theorem ok_settledX {f fH fF C : Addr} {fd fdH fdF : FuncData} {n k : Nat} (F : Fun K "settled" "settled" sSettled f fd) (T : ErC K mg "NoHouse" C) (xC : PySem.W.excIn K C [.type "ValueError", .type "Exception", .type "BaseException", .type "object"] "ValueError.__new__" = true)
    (GH : FnOk P w K mg base CX0 k fH fdH ["thing"] (spHouseG Ts)) (bH : Binds K fdH ["thing"] []) (kH : PySem.W.keepIn K (.ref fH) = true) (mH : mg "is_house" = some (.ref fH))
    (GF : FnOk P w K mg base CX0 k fF fdF ["number", "row"] (spFreed n)) (bF : Binds K fdF ["number", "row"] []) (kF : PySem.W.keepIn K (.ref fF) = true) (mF : mg "freed" = some (.ref fF)) :
    FnOk P w K mg base (L2.CX P w) (k + 1) f fd ["house"] (spSettledX Ts n C) := by
  refine F.okX scSettled (fun vs H Q E h => ?_) (fun cdv A outer s H vs Q E hr h => ?_)
  · obtain ⟨_, _, rfl, _⟩ := h
    rfl
  obtain ⟨v, t, rfl, ht, okt, tg, q⟩ := h
  refine ⟨_, pss_cons (ps_if (pt_not (pt_val (pe_call GH hr (by rfl) mH kH bH .nil pass0 (pa_cons (pv 0) pa_nil)))) (pss_one (ps_raise rfl (takes_of rfl rfl rfl rfl) (pmk_own PySem.F.excBase_ValueError xC T.g T.k (raises_own T.b T.t) (by exact rfl)))) pss_nil)
    (pss_one (ps_ret (pe_call GF hr (by rfl) mF kF bF .nil pass0 (pa_cons pe_int (pa_cons (pv 0) pa_nil))))), ?_⟩
  refine ⟨_, rfl, v, t, rfl, ht, okt, tg, fun H1 b st1 e => ⟨_, rfl, ?_⟩⟩
  rcases q with ⟨r, rfl, hh, hd, g, q⟩ | ⟨no, q⟩
  · have eb : b = true := e.mpr ⟨r, rfl, hh⟩
    rw [eb]
    refine iteF ?_
    have hz := hh.size
    exact ⟨_, rfl, 1, v, r, rfl, (thRow_at ht).mono (st1.tup tg), hd, by omega, g, by omega, fun H2 u sm hT => q H2 u (st1.sm sm) hT⟩
  · have eb : b = false := Bool.eq_false_iff.mpr fun z => no (e.mp z)
    rw [eb]
    exact iteT (q H1 st1)
end
end K10

set_option Elab.async false
set_option linter.all false
set_option maxRecDepth 100000
set_option maxHeartbeats 4000000
namespace Wk
open PySem PySem.Spec PyProof.Rows L2 GxR
def spRefused (Ts : List Addr) : Sp := fun vs H Q _ => ∃ (v : V) (t : Th), vs = [v] ∧ ThAt H t v ∧ okT t ∧ TabsG Ts H ∧ NoHs t ∧ ∀ H', SamTs Ts H H' → Q (.bl true) H'
end Wk
namespace K10
open PySem PySem.Spec PyProof.Rows L2 Wk GxR
abbrev sRefused : Stmt := topS 47
theorem scRefused : FnScope ["_law_thing", "_law_error", "e"] ["_law_thing"] (defScope sRefused) := ⟨rfl, rfl, rfl, by decide +kernel, rfl, by decide +kernel, by decide +kernel⟩
section
variable {P : Program} {w : World} {K : PySem.W.Frag} {mg : Str → Option Value} {base : Heap} {Ts : List Addr}
theorem ok_refused {f fS C CR c1 c2 c3 c4 c5 c6 c7 : Addr} {fd fdS : FuncData} {n k : Nat} (F : Fun K "_law_refused" "_law_refused" sRefused f fd) (mi : mg "isinstance" = none) (mv : mg "ValueError" = none)
    (GS : FnOk P w K mg base (L2.CX P w) k fS fdS ["house"] (spSettledX Ts n C)) (bS : Binds K fdS ["house"] []) (kS : PySem.W.keepIn K (.ref fS) = true) (mS : mg "settled" = some (.ref fS))
    (gC : mg "NoHouse" = some (.ref C)) (gR : mg "RoomError" = some (.ref CR)) (ex : PySem.W.exmOne K (.ref C) (.ref CR) = some true) (EC : ExcC K C)
    (g1 : mg "Again" = some (.ref c1)) (g2 : mg "NoName" = some (.ref c2)) (g3 : mg "NoRow" = some (.ref c3)) (g4 : mg "NoStep" = some (.ref c4)) (g5 : mg "NoText" = some (.ref c5)) (g6 : mg "Nothing" = some (.ref c6)) (g7 : mg "TooMany" = some (.ref c7))
    (k1 : PySem.W.kitOne K (.ref C) (.ref c1) = some false) (k2 : PySem.W.kitOne K (.ref C) (.ref c2) = some false) (k3 : PySem.W.kitOne K (.ref C) (.ref c3) = some false) (k4 : PySem.W.kitOne K (.ref C) (.ref c4) = some false)
    (k5 : PySem.W.kitOne K (.ref C) (.ref c5) = some false) (k6 : PySem.W.kitOne K (.ref C) (.ref c6) = some false) (k7 : PySem.W.kitOne K (.ref C) (.ref c7) = some false)
    (kC : PySem.W.kitOne K (.ref C) (.ref C) = some true) (kV : PySem.W.kitOne K (.ref C) (.type "ValueError") = some true) :
    FnOk P w K mg base CX0 (k + 1) f fd ["_law_thing"] (spRefused Ts) := by
  refine F.ok scRefused (fun vs H Q E h => ?_) (fun cdv A outer s H vs Q E hr h => ?_)
  · obtain ⟨_, _, rfl, _⟩ := h
    rfl
  obtain ⟨v, t, rfl, ht, okt, tg, no, q⟩ := h
  refine ⟨_, pss_cons (ps_set (i := 1) scRefused.nd rfl (.inl rfl) pe_non)
    (pss_cons (ps_try_keep (i := 2) (tb := fun W => tDrop (tCallS (spSettledX Ts n C) (WE W) (tCons (tVar 0) tNil))) (ts := fun _ _ _ => tAsg (tVar 2) (gName 1)) rfl rfl scRefused.nd rfl rfl ⟨rfl, by decide, .inl gR⟩ rfl
        (fun W pn xe tk _ => pss_one (ps_expr (pe_callS GS hr (by rfl) mS kS bS (fun σ => passAt tk σ) (pa_cons (pv 0) pa_nil))))
        (fun _ _ _ _ _ _ _ => pss_one (ps_set (i := 1) scRefused.nd rfl (.inl rfl) (pv 2))))
    (pss_cons (ps_if (pt_val (pe_callB call_isXT (by rfl) mi (by decide +kernel) (pa_cons (pv 1) (pa_cons (pe_tup (pa_cons (pe_glob (v := .ref c1) (by rfl) g1 rfl) (pa_cons (pe_glob (v := .ref c2) (by rfl) g2 rfl) (pa_cons (pe_glob (v := .ref c3) (by rfl) g3 rfl) (pa_cons (pe_glob (v := .ref c4) (by rfl) g4 rfl)
        (pa_cons (pe_glob (v := .ref c5) (by rfl) g5 rfl) (pa_cons (pe_glob (v := .ref c6) (by rfl) g6 rfl) (pa_cons (pe_glob (v := .ref c7) (by rfl) g7 rfl) pa_nil)))))))) pa_nil)))) (pss_one (ps_ret pe_bl)) pss_nil)
    (pss_one (ps_ret (pe_and (pe_callB call_isX (by rfl) mi (by decide +kernel) (pa_cons (pv 1) (pa_cons (pe_glob (v := .ref C) (by rfl) gC rfl) pa_nil)))
      (pe_one (pe_callB call_isX (by rfl) mi (by decide +kernel) (pa_cons (pv 1) (pa_cons (pe_bltn (v := .ty "ValueError") (by rfl) mv (by decide +kernel) rfl) pa_nil))))))))), ?_⟩
  refine ⟨_, rfl, v, t, rfl, ht, okt, tg, .inr ⟨no, fun H1 st1 => ⟨ex, fun a na => ?_⟩⟩⟩
  refine ⟨_, rfl, ?_⟩
  have st2 : SamTs Ts H (upd H1 a (ErO a (.ref C) none)) := st1.new na
  have ea : upd H1 a (ErO a (.ref C) none) a = some (ErO a (.ref C) none) := upd_same
  refine ⟨_, rfl, (show 7 ≤ sizeLine by decide), fun tp ntp => ?_⟩
  have st3 : SamTs Ts H (upd (upd H1 a (ErO a (.ref C) none)) tp (.tup [.ref c1, .ref c2, .ref c3, .ref c4, .ref c5, .ref c6, .ref c7])) := st2.new ntp
  have ea3 := kn (u := .tup [.ref c1, .ref c2, .ref c3, .ref c4, .ref c5, .ref c6, .ref c7]) ea ntp
  refine ⟨a, C, tp, _, [.ref c1, .ref c2, .ref c3, .ref c4, .ref c5, .ref c6, .ref c7], false, rfl, ea3, EC, upd_same, .cons (.own _) (.cons (.own _) (.cons (.own _) (.cons (.own _) (.cons (.own _) (.cons (.own _) (.cons (.own _) .nil)))))), ?_, _, rfl, iteF ?_⟩
  · exact kitAny_cons k1 (fun _ => kitAny_cons k2 (fun _ => kitAny_cons k3 (fun _ => kitAny_cons k4 (fun _ => kitAny_cons k5 (fun _ => kitAny_cons k6 (fun _ => kitAny_cons k7 (fun _ => kitAny_nil) (fun z => nomatch z)) (fun z => nomatch z)) (fun z => nomatch z)) (fun z => nomatch z)) (fun z => nomatch z)) (fun z => nomatch z)) (fun z => nomatch z)
  refine ⟨_, rfl, a, C, _, _, true, rfl, ea3, EC, .own C, kC, _, rfl, iteT ?_⟩
  exact ⟨_, rfl, a, C, _, _, true, rfl, ea3, EC, .ty _, kV, q _ st3⟩
end
end K10

set_option Elab.async false
set_option linter.all false
set_option maxRecDepth 100000
set_option maxHeartbeats 4000000
namespace K10
open PySem PySem.Spec PyProof.Rows L2 Wk GxR
abbrev sDeepRow : Stmt := topS 48
theorem scDeepRow : FnScope ["_law_many", "_law_row_here", "_law_k"] ["_law_many"] (defScope sDeepRow) := ⟨rfl, rfl, rfl, by decide +kernel, rfl, by decide +kernel, by decide +kernel⟩
section
variable {P : Program} {w : World} {K : PySem.W.Frag} {mg : Str → Option Value} {base : Heap}
theorem ok_deepRow {f : Addr} {fd : FuncData} {k : Nat} (F : Fun K "_law_deep_row" "_law_deep_row" sDeepRow f fd) (mr : mg "range" = none) : FnOk P w K mg base CX0 (k + 1) f fd ["_law_many"] spDeepRow := by
  refine F.ok scDeepRow (fun vs H Q E h => ?_) (fun cdv A outer s H vs Q E hr h => ?_)
  · obtain ⟨_, rfl, _⟩ := h
    rfl
  obtain ⟨m, rfl, hm, q⟩ := h
  refine ⟨_, pss_cons (ps_set (i := 1) scDeepRow.nd rfl (.inl rfl) (pe_tup pa_nil))
    (pss_cons (ps_for PassesOwn.never rfl (pi_range1 rfl mr (pa_cons (pv 0) pa_nil)) (pg_name (i := 2) scDeepRow.nd rfl (.inl rfl))
      (pss_one (ps_set (i := 1) scDeepRow.nd rfl (.inl rfl) (pe_tup (pa_cons (pe_tup (pa_cons pe_str (pa_cons pe_str (pa_cons (pv 1) pa_nil)))) pa_nil)))))
    (pss_one (ps_ret (pv 1)))), ?_⟩
  refine ⟨(show 0 ≤ sizeLine by decide), fun e0 ne0 => ?_⟩
  refine ⟨_, rfl, (m : Int), rfl, by omega, by omega, for_range (n := m) (lo := 0) (fun i σ H' => Same H H' ∧ ∃ (u : V) (s2 : Option V), RowAt H' (dpR i) u ∧ σ = [some (.int m), some u, s2])
    ⟨same_new ne0, .ref e0, _, ⟨e0, [], rfl, upd_same, rfl⟩, rfl⟩ (fun i σ H' hi hP => ?_) fun σ H' hP => ?_⟩
  · obtain ⟨s1, u, s2, hu, rfl⟩ := hP
    refine ⟨_, rfl, (show 3 ≤ sizeLine by decide), fun a na => ⟨(show 1 ≤ sizeLine by decide), fun b nb => ?_⟩⟩
    have st : Same H' (upd (upd H' a (.tup [.str "in", .str "a", u])) b (.tup [.ref a])) := fun z o e => kn (kn e na) nb
    obtain ⟨c, vs, rfl, hc, hps⟩ := hu
    refine ⟨s1.trans st, .ref b, _, ⟨b, [.ref a], rfl, upd_same, PartsAt.one ⟨a, c, vs, rfl, kn upd_same nb, st _ _ hc, PartsAt.mono (STup.of st) _ _ hps⟩⟩, rfl⟩
  · obtain ⟨s1, u, s2, hu, rfl⟩ := hP
    exact ⟨_, rfl, q H' u s1 hu⟩
end
end K10

set_option Elab.async false
set_option linter.all false
set_option maxRecDepth 100000
set_option maxHeartbeats 8000000
namespace Wk
open PySem PySem.Spec PyProof.Rows L2 GxR
structure MidC (Ts : List Addr) (p pn S1 ra : Addr) (items : List V) (zs sp : List Str) (r : List Part) (H : Hp) : Prop where
  hp : H p = some (.lst items)
  hn : H pn = some (.lst (zs.map V.str))
  hS : H S1 = some (.lst (sp.map V.str))
  tg : TabsG Ts H
  row : RowAt H r (.ref ra)
section
variable {Ts : List Addr} {p pn S1 ra : Addr} {items : List V} {zs sp : List Str} {r : List Part} {H H' : Hp}
theorem MidC.sam (x : MidC Ts p pn S1 ra items zs sp r H) (s : SamTs Ts H H') : MidC Ts p pn S1 ra items zs sp r H' :=
  ⟨s.lst x.tg x.hp, s.lst x.tg x.hn, s.lst x.tg x.hS, s.2, x.row.mono (s.tup x.tg)⟩
theorem MidC.same (x : MidC Ts p pn S1 ra items zs sp r H) (s : Same H H') : MidC Ts p pn S1 ra items zs sp r H' :=
  ⟨s _ _ x.hp, s _ _ x.hn, s _ _ x.hS, x.tg.same s, x.row.mono (STup.of s)⟩
end
theorem cut_mem {xs : List V} {lo hi : Option Int} {v : V} (h : v ∈ cutV xs lo hi) : v ∈ xs := by
  unfold cutV at h
  exact List.mem_of_mem_drop (List.mem_of_mem_take h)
theorem nh_tail {H : Hp} {r : List Part} {vs : List V} {c : Addr} {x : Th} {u : V} (h : H c = some (.tup (vs ++ [u]))) (hs : ThsAt H (thR r) vs) (hx : ThAt H x u) (okr : okTs (thR r)) (hl : r.length ≤ 900) (okx : okT x) (no : NoHs (.tup (thR r ++ [x]))) : NhV H (.ref c) := by
  refine ⟨.tup (thR r ++ [x]), ⟨c, _, rfl, h, ThsAt.app (ThsAt.one hx) hs⟩, ⟨?_, okTs_app okr ⟨okx, trivial⟩⟩, no⟩
  rw [List.length_append, thR_len]
  show r.length + 1 ≤ 1000
  omega
theorem nh_th {H : Hp} {t : Th} {v : V} (h : ThAt H t v) (ok : okT t) (no : NoHs t) : NhV H v := ⟨t, h, ok, no⟩
theorem thR_rep (k : Nat) : thR (List.replicate k (Part.say "a")) = List.replicate k (.tup [.str "say", .str "a"]) := by
  rw [thR_map, List.map_replicate]
  rfl
theorem reps_at {H : Hp} {t : Th} {v : V} (h : ThAt H t v) : ∀ k, ThsAt H (List.replicate k t) (List.replicate k [v]).flatten
  | 0 => rfl
  | k + 1 => ⟨v, (List.replicate k [v]).flatten, rfl, h, reps_at h k⟩
theorem ok_say : okT (.tup [.str "say", .str "a"]) := ⟨(show 2 ≤ 1000 by decide), (show ("say" : Str).length ≤ 1000 by decide +kernel), (show ("a" : Str).length ≤ 1000 by decide +kernel), trivial⟩
end Wk
namespace K10
open PySem PySem.Spec PyProof.Rows L2 Wk GxR
abbrev sLaw : Stmt := topS 49
abbrev nmLaw : List Str := ["_law_script", "_law_cell", "_law_left_here", "_law_names_here", "_law_spare", "_law_house", "_law_due", "_law_turn", "_law_found", "_law_bound", "_law_some", "_law_thing", "_law_name"]
theorem scLaw : FnScope nmLaw ["_law_script"] (defScope sLaw) := ⟨rfl, rfl, rfl, by decide +kernel, rfl, by decide +kernel, by decide +kernel⟩
def spLaw (K : PySem.W.Frag) (Ts : List Addr) : Sp := fun vs H Q _ => ∃ (a : Addr) (ns : List Int), vs = [.ref a] ∧ SqL K H a (ns.map V.int) ∧ ns.length ≤ 63 ∧ TabsG Ts H ∧ ∀ H', Q (.bl true) H'
abbrev psL : List Str := ["_law_left_here", "_law_many"]
section
variable {P : Program} {w : World} {K : PySem.W.Frag} {mg : Str → Option Value} {base : Heap} {Ts : List Addr}
theorem ok_law {f f1 f3 f4 fS fG fX fD C : Addr} {fd d1 d3 d4 dS dG dX dD : FuncData} (F : Fun K "law" "law" sLaw f fd)
    (G1 : FnOk P w K mg base CX0 1 f1 d1 ["_law_cell"] spLeft) (b1 : Binds K d1 ["_law_cell"] []) (k1 : PySem.W.keepIn K (.ref f1) = true) (m1 : mg "_law_left" = some (.ref f1))
    (G3 : FnOk P w K mg base CX0 2 f3 d3 psL spNames) (b3 : Binds K d3 psL []) (k3 : PySem.W.keepIn K (.ref f3) = true) (m3 : mg "_law_names" = some (.ref f3))
    (G4 : FnOk P w K mg base CX0 11 f4 d4 ps4 (spRow 5)) (b4 : Binds K d4 ps4 []) (k4 : PySem.W.keepIn K (.ref f4) = true) (m4 : mg "_law_row" = some (.ref f4))
    (GS : FnOk P w K mg base (L2.CX P w) 29 fS dS ["house"] (spSettledX Ts 6 C)) (bS : Binds K dS ["house"] []) (kS : PySem.W.keepIn K (.ref fS) = true) (mS : mg "settled" = some (.ref fS))
    (GG : FnOk P w K mg base CX0 12 fG dG ps2f (spFreed 6)) (bG : Binds K dG ps2f []) (kG : PySem.W.keepIn K (.ref fG) = true) (mG : mg "_law_freed" = some (.ref fG))
    (GX : FnOk P w K mg base CX0 30 fX dX ["_law_thing"] (spRefused Ts)) (bX : Binds K dX ["_law_thing"] []) (kX : PySem.W.keepIn K (.ref fX) = true) (mX : mg "_law_refused" = some (.ref fX))
    (GD : FnOk P w K mg base CX0 1 fD dD ["_law_many"] spDeepRow) (bD : Binds K dD ["_law_many"] []) (kD : PySem.W.keepIn K (.ref fD) = true) (mD : mg "_law_deep_row" = some (.ref fD))
    (mr : mg "range" = none) (mi : mg "isinstance" = none) (mt : mg "tuple" = none) (mb : mg "bool" = none) (mL : mg "list" = none) :
    FnOk P w K mg base CX0 31 f fd ["_law_script"] (spLaw K Ts) := by
  refine F.ok scLaw (fun vs H Q E h => ?_) (fun cdv A outer s H vs Q E hr h => ?_)
  · obtain ⟨a, ns, rfl, _⟩ := h
    rfl
  obtain ⟨a, ns, rfl, hS, hlen, tg, q⟩ := h
  have r1 : Room 1 _ := hr.mono (by decide)
  refine ⟨_, pss_cons (ps_for PassesOwn.never rfl (pi_list (pe_op op_cat (pe_slice sl_list (pv 0) po_none (po_some pe_int)) (pe_lst (pa_cons pe_int pa_nil)))) (pg_name (i := 1) scLaw.nd rfl (.inl rfl))
      (pss_cons (ps_set (i := 2) scLaw.nd rfl (.inl rfl) (pe_call G1 r1 (by rfl) m1 k1 b1 .nil pass0 (pa_cons (pv 1) pa_nil)))
      (pss_cons (ps_set (i := 3) scLaw.nd rfl (.inl rfl) (pe_call G3 (hr.mono (by decide)) (by rfl) m3 k3 b3 .nil pass0 (pa_cons (pv 2) (pa_cons pe_int pa_nil))))
      (pss_cons (ps_set (i := 4) scLaw.nd rfl (.inr rfl) (pe_slice sl_list (pv 3) (po_some pe_int) po_none))
      (pss_cons (ps_set (i := 5) scLaw.nd rfl (.inr rfl) (pe_call G4 (hr.mono (by decide)) (by rfl) m4 k4 b4 .nil pass0 (pa_cons (pv 2) (pa_cons pe_int (pa_cons (pe_slice sl_list (pv 3) po_none (po_some pe_int)) (pa_cons (pv 4) pa_nil))))))
      (pss_cons (ps_set (i := 6) scLaw.nd rfl (.inl rfl) (pe_call GG (hr.mono (by decide)) (by rfl) mG kG bG .nil pass0 (pa_cons pe_int (pa_cons (pv 5) pa_nil))))
      (pss_cons (ps_for PassesOwn.never rfl (pi_range1 rfl mr (pa_cons pe_int pa_nil)) (pg_name (i := 7) scLaw.nd rfl (.inl rfl))
        (pss_cons (ps_set (i := 8) scLaw.nd rfl (.inl rfl) (pe_call GS (hr.mono (by decide)) (by rfl) mS kS bS .nil passL (pa_cons (pv 5) pa_nil)))
        (pss_one (ps_if (PW.pt (pw_or (pt_not (pt_val (pe_callB call_isi (by rfl) mi (by decide +kernel) (pa_cons (pv 8) (pa_cons (pe_bltn (v := .ty "tuple") (by rfl) mt (by decide +kernel) rfl) pa_nil)))))
            (pw_or (pt_cmpR (op_neD hr.units) (pv 8) (pv 6) (nomark _))
            (pw_or1 (pt_val (pe_callB call_isi (by rfl) mi (by decide +kernel) (pa_cons (pe_ix ix_tup (pv 8) pe_int (fun _ _ => rfl)) (pa_cons (pe_bltn (v := .ty "bool") (by rfl) mb (by decide +kernel) rfl) pa_nil)))))))) (pss_one (ps_ret pe_bl)) pss_nil))))
      (pss_cons (ps_setLc (i := 9) (own := [("_law_name", 12)]) (g := gName 12) (tt := tTest (tOp (rIn K true) (tVar 12) (tVar 4))) (te := tVar 12) (by rfl) scLaw.nd rfl rfl (sw_true rfl rfl rfl (by decide +kernel)) (pi_list (pe_slice sl_list (pv 3) (po_some pe_int) po_none))
          (blkOk_by (own := [("_law_name", 12)]) (N := nmLaw) (sc := defScope sLaw) (by decide +kernel)) (fun _ _ _ _ _ => pg_name (i := 12) scLaw.nd rfl (Or.inl rfl)) (fun _ _ _ _ _ => pts_one (pt_cmpR op_notIn_seq (pv 12) (pv 4) rfl)) (fun _ _ _ _ _ => pv 12))
      (pss_cons (ps_set (i := 10) scLaw.nd rfl (.inl rfl) (pe_lst (pa_cons (pe_op op_catS (pv 5) (pe_tup (pa_cons (pe_tup (pa_cons pe_str (pa_cons pe_str pa_nil))) pa_nil))) (pa_cons (pe_callTy call_list_of (by rfl) mL (by decide +kernel) (pa_cons (pv 5) pa_nil)) (pa_cons (pe_op op_catS (pv 5) (pe_tup (pa_cons (pe_tup (pa_cons pe_str (pa_cons pe_str pa_nil))) pa_nil))) (pa_cons (pe_op op_catS (pv 5) (pe_tup (pa_cons (pe_lst (pa_cons pe_str (pa_cons pe_str pa_nil))) pa_nil))) pa_nil))))))
      (pss_cons (ps_set (i := 10) scLaw.nd rfl (.inl rfl) (pe_op op_cat (pv 10) (pe_lc (own := [("_law_name", 12)]) (g := gName 12) (tt := tYes) (te := tOp rCatS (tVar 5) (tTup (tCons (tTup (tCons (tC (.str "hear")) (tCons (tVar 12) (tCons (tTup tNil) tNil)))) tNil))) (by rfl) scLaw.nd (pi_list (pe_slice sl_list (pv 9) po_none (po_some pe_int)))
          (blkOk_by (own := [("_law_name", 12)]) (N := nmLaw) (sc := defScope sLaw) (by decide +kernel)) (fun _ _ _ _ _ => pg_name (i := 12) scLaw.nd rfl (Or.inl rfl)) (fun _ _ _ _ _ => pts_nil) (fun _ _ _ _ _ => (pe_op op_catS (pv 5) (pe_tup (pa_cons (pe_tup (pa_cons pe_str (pa_cons (pv 12) (pa_cons (pe_tup pa_nil) pa_nil)))) pa_nil)))))))
      (pss_cons (ps_set (i := 10) scLaw.nd rfl (.inl rfl) (pe_op op_cat (pv 10) (pe_lc (own := [("_law_name", 12)]) (g := gName 12) (tt := tYes) (te := tOp rCatS (tVar 5) (tTup (tCons (tTup (tCons (tC (.str "say")) (tCons (tVar 12) tNil))) tNil))) (by rfl) scLaw.nd (pi_list (pe_slice sl_list (pv 9) (po_some pe_int) (po_some pe_int)))
          (blkOk_by (own := [("_law_name", 12)]) (N := nmLaw) (sc := defScope sLaw) (by decide +kernel)) (fun _ _ _ _ _ => pg_name (i := 12) scLaw.nd rfl (Or.inl rfl)) (fun _ _ _ _ _ => pts_nil) (fun _ _ _ _ _ => (pe_op op_catS (pv 5) (pe_tup (pa_cons (pe_tup (pa_cons pe_str (pa_cons (pv 12) pa_nil))) pa_nil)))))))
      (pss_cons (ps_set (i := 10) scLaw.nd rfl (.inl rfl) (pe_op op_cat (pv 10) (pe_lst (pa_cons (pe_op op_repT (pe_tup (pa_cons (pe_tup (pa_cons pe_str (pa_cons pe_str pa_nil))) pa_nil)) pe_int) (pa_cons (pe_call GD r1 (by rfl) mD kD bD .nil pass0 (pa_cons pe_int pa_nil)) pa_nil)))))
      (pss_one (ps_for PassesOwn.never rfl (pi_list (pe_op op_cat (pv 10) (pe_lst (pa_cons pe_non (pa_cons pe_int (pa_cons pe_str (pa_cons (pe_tup (pa_cons pe_str (pa_cons pe_str pa_nil))) (pa_cons pe_dnewK (pa_cons pe_bl (pa_cons (pe_tup (pa_cons (pe_tup pa_nil) pa_nil)) (pa_cons (pe_tup (pa_cons (pe_tup (pa_cons pe_str (pa_cons pe_str (pa_cons (pe_tup (pa_cons pe_str (pa_cons pe_str pa_nil))) pa_nil)))) pa_nil)) pa_nil))))))))))) (pg_name (i := 11) scLaw.nd rfl (.inl rfl))
        (pss_one (ps_if (pt_not (pt_val (pe_call GX hr (by rfl) mX kX bX .nil pass0 (pa_cons (pv 11) pa_nil)))) (pss_one (ps_ret pe_bl)) pss_nil))))))))))))))))
    (pss_one (ps_ret pe_bl)), ?_⟩
  refine ⟨.ref a, rfl, 10, rfl, a, ns.map V.int, rfl, hS, fun c nc => ?_⟩
  refine ⟨(show 1 ≤ sizeLine by decide), fun c2 nc2 => ?_⟩
  have hc2 : upd (upd H c (.lst (cutV (ns.map V.int) none (some 10)))) c2 (.lst [.int 4]) c = some (.lst (cutV (ns.map V.int) none (some 10))) := kn upd_same nc2
  have hl := cut_len (ns := ns) (lo := none) (hi := some 10) hlen
  refine ⟨c, c2, _, _, rfl, rfl, hc2, upd_same, small (by rw [List.length_singleton]; omega), fun p np => ?_⟩
  have allI : ∀ v ∈ cutV (ns.map V.int) none (some 10) ++ [V.int 4], ∃ i : Int, v = .int i := fun v hv => by
    rcases List.mem_append.mp hv with g | g
    · exact cut_ints v g
    · exact ⟨4, List.mem_singleton.mp g⟩
  have tg4 := TabsG.new (o := .lst (cutV (ns.map V.int) none (some 10) ++ [V.int 4])) (TabsG.new (o := .lst [.int 4]) (TabsG.new (o := .lst (cutV (ns.map V.int) none (some 10))) tg nc) nc2) np
  generalize cutV (ns.map V.int) none (some 10) ++ [V.int 4] = items at *
  refine ⟨p, rfl, ⟨_, SqL.of upd_same⟩, for_it (walk_list (xs := items))
    (fun _ σ H' => H' p = some (.lst items) ∧ TabsG Ts H' ∧ ∃ s1 s2 s3 s4 s5 s6 s7 s8 s9 s10 s11 s12 : Option V, σ = [some (.ref a), s1, s2, s3, s4, s5, s6, s7, s8, s9, s10, s11, s12])
    ⟨upd_same, tg4, _, _, _, _, _, _, _, _, _, _, _, _, rfl⟩ (fun i σ H' _ hP => SqL.of hP.1) (fun i x σ H1 H2 hi hP hY => ?_) (fun σ H' hP => q _)⟩
  obtain ⟨hp, tg5, s1, s2, s3, s4, s5, s6, s7, s8, s9, s10, s11, s12, rfl⟩ := hP
  obtain ⟨rfl, hx⟩ := hY
  obtain ⟨j, rfl⟩ := allI x (List.mem_of_getElem? hx)
  -- the names
  refine ⟨_, rfl, j, rfl, fun L n nL => ?_⟩
  have pL : p ≠ L := ne_of_none hp nL
  have TL : L ∉ Ts := tg5.out nL
  refine ⟨_, rfl, L, n, 17, rfl, upd_same, by decide, fun H3 pn s zs xn npn hzs hlz hs26 hnm => ?_⟩
  have sit3 : Sit p pn L items zs H3 := ⟨xn.1 _ _ pL (kn hp nL), hzs, xn.2, pL, fun e => by
    obtain ⟨i, hi⟩ := xn.2
    rw [e, hi] at hzs
    have e2 := HO.lst.inj (Option.some.inj hzs)
    cases zs with
    | nil => cases e2
    | cons z r => cases e2⟩
  have tg6 : TabsG Ts H3 := fun T h => by
    obtain ⟨ps, h1, h2⟩ := tg5 T h
    have ne : T ≠ L := fun z => TL (z ▸ h)
    exact ⟨ps, xn.1 _ _ ne (kn h1 nL), h2⟩
  have shz := names_sh hnm
  have e5 : cutV (zs.map V.str) none (some 5) = (zs.take 5).map V.str := cut_to (k := 5) (by omega)
  have e13 : cutV (zs.map V.str) (some 5) none = (zs.drop 5).map V.str := cut_off (i := 5) (by omega)
  -- those to spare
  refine ⟨_, rfl, 5, rfl, pn, _, rfl, SqL.of sit3.hn, fun S1 nS1 => ?_⟩
  rw [e13]
  have sit4 := sit3.new (o := .lst ((zs.drop 5).map V.str)) nS1
  -- the house
  refine ⟨_, rfl, _, rfl, 5, rfl, pn, _, rfl, SqL.of sit4.hn, fun A1 nA1 => ?_⟩
  rw [e5]
  have sit5 := sit4.new (o := .lst ((zs.take 5).map V.str)) nA1
  have tg65 := TabsG.new (o := .lst ((zs.drop 5).map V.str)) tg6 nS1
  have tg7 := TabsG.new (o := .lst ((zs.take 5).map V.str)) tg65 nA1
  have TS : S1 ∉ Ts := tg6.out nS1
  obtain ⟨n5, hn5⟩ := sit5.hL
  obtain ⟨n4, hn4⟩ := sit4.hL
  have A1S : A1 ≠ S1 := Ne.symm (ne_of_none upd_same nA1)
  have l5 : (zs.take 5).length = 5 := by rw [List.length_take]; omega
  refine ⟨_, rfl, L, S1, A1, n5, 4, zs.take 5, zs.drop 5, ⟨rfl, hn5, kn upd_same nA1, upd_same, Ne.symm (ne_of_none hn4 nA1), A1S, (fun e => by
    rw [e] at l5
    cases l5), (by rw [l5]; decide), fun z hz => shz z (List.mem_of_mem_drop hz)⟩, by decide, fun H6 hv sp' r x6 hR hG => ?_⟩
  have sit6 := sit5.drawn x6 (ne_of_none sit3.hp nS1) (ne_of_none sit3.hn nS1)
  have tg8 : TabsG Ts H6 := fun T h => by
    obtain ⟨ps, h1, h2⟩ := tg7 T h
    have n1 : T ≠ L := fun z => TL (z ▸ h)
    have n2 : T ≠ S1 := fun z => TS (z ▸ h)
    exact ⟨ps, x6.1 _ _ n1 n2 h1, h2⟩
  have gsz : sizeR r ≤ 400 := Nat.le_trans (hG.weak (Nat.le_refl _)) (by decide)
  have gdp : deepR r ≤ 5 := hG.deep
  obtain ⟨hh, gd⟩ := drawn_house hnm (by omega) (Nat.le_refl 4) gsz hG
  have hbd := hG.bd
  have hsp : sp'.length ≤ 1000 := by
    have e2 := congrArg List.length hbd
    rw [List.length_append, List.length_drop] at e2
    omega
  have hR2 := hR
  obtain ⟨ra, rvs, rfl, _, _⟩ := hR2
  have mid : MidC Ts p pn S1 ra items zs sp' r H6 := ⟨sit6.hp, sit6.hn, x6.2.2, tg8, hR⟩
  clear x6 sit6 sit5 sit4 sit3 tg7 tg65 tg6 tg5 tg4 tg8 hG hn5 hn4 nS1 nA1 xn hR
  have lsz := len_sizeR r
  have okh := okT_row hh.ok (by omega)
  have okr : okTs (thR r) := okh.2
  -- what is due
  refine ⟨_, rfl, 1, .ref ra, r, rfl, mid.row, by omega, by omega, gd, by omega, fun H7 dv sm7 hT7 => ?_⟩
  have mid7 := mid.same sm7
  have fo := frd_ok 6 1 r (by omega) gd (by omega)
  have fdp := fo.deep
  have ok2 := fo.ok
  refine ⟨2, rfl, by decide, by decide, for_range (n := 2) (lo := 0) (fun _ σ H' => MidC Ts p pn S1 ra items zs sp' r H' ∧ ToldAt H' (frdR 6 1 r) dv ∧ ∃ s1 s7 s8 s9 s10 s11 s12 : Option V, σ = [some (.ref a), s1, some (.ref L), some (.ref pn), some (.ref S1), some (.ref ra), some dv, s7, s8, s9, s10, s11, s12])
    ⟨mid7, hT7, _, _, _, _, _, _, _, rfl⟩ (fun k σ H' hk hP => ?_) (fun σ H8 hP => ?_)⟩
  · obtain ⟨md, hT, s1, s7, s8, s9, s10, s11, s12, rfl⟩ := hP
    refine ⟨_, rfl, .ref ra, thRow r, rfl, at_thRow md.row, okh, md.tg, .inl ⟨r, rfl, hh, by omega, gd, fun H9 u9 st9 hT9 => ?_⟩⟩
    have md9 := md.sam st9
    have hT2 := hT.mono (st9.tup md.tg)
    have told9 := hT9
    obtain ⟨t9, v9, rfl, ht9, hr9⟩ := hT9
    refine ⟨_, rfl, .ref t9, .ty "tuple", .type "tuple", .type "tuple", true, rfl, .ty "tuple", .base (.tup ht9), kit_ty (by decide +kernel), _, rfl, iteF ?_⟩
    refine ⟨_, rfl, _, rfl, _, _, told9.dp, hT2.dp, told_shaped ok2 (by omega), told_shaped ok2 (by omega), _, rfl, ?_⟩
    rw [told_eqv ok2]
    refine iteF ?_
    refine ⟨_, rfl, t9, _, 0, _, rfl, rfl, SqT.of ht9, atI_nat (j := 0) rfl, .int _, .ty "bool", .type "int", .type "bool", false, rfl, .ty "bool", .base (.int _), rfl, _, rfl, iteF ?_⟩
    exact ⟨md9, hT2, _, _, _, _, _, _, _, rfl⟩
  obtain ⟨md8, _, s1, s7, s8, s9, s10, s11, s12, rfl⟩ := hP
  clear hT7 mid7 mid sm7
  -- what is bound
  refine ⟨_, rfl, 5, rfl, pn, _, rfl, SqL.of md8.hn, fun C' nC => ?_⟩
  rw [e13]
  have sC : Same H8 (upd H8 C' (.lst ((zs.drop 5).map V.str))) := same_new nC
  have hC : (upd H8 C' (.lst ((zs.drop 5).map V.str))) C' = some (.lst ((zs.drop 5).map V.str)) := upd_same
  have md9 := md8.same sC
  generalize upd H8 C' (.lst ((zs.drop 5).map V.str)) = H9 at *
  refine ⟨C', rfl, ⟨_, SqL.of hC⟩, fun Bd nB => ?_⟩
  refine lc_it (walk_list (xs := (zs.drop 5).map V.str)) (fun i H' => Same H9 H' ∧ ∃ bs : List Str, H' Bd = some (.lst (bs.map V.str)) ∧ bs.length ≤ i ∧ ∀ b ∈ bs, b ∈ zs ∧ b ∈ bdR r) ⟨same_new nB, [], upd_same, Nat.le_refl 0, fun _ h => nomatch h⟩ (fun i H' _ hP => SqL.of (hP.1 _ _ hC)) (fun i y H10 H11 hi hP hY => ?_) (fun H10 hP => ?_)
  · obtain ⟨rfl, hy⟩ := hY
    obtain ⟨sm, bs, hB, lbs, hbs⟩ := hP
    rw [List.getElem?_map] at hy
    obtain ⟨z, hz, rfl⟩ := Option.map_eq_some_iff.mp hy
    have hlt := (List.getElem?_eq_some_iff.mp hz).1
    rw [List.length_drop] at hlt
    refine ⟨rfl, _, rfl, _, rfl, S1, _, rfl, .inl (SqL.of (sm _ _ md9.hS)), rfl, Wk.flat_strs _, _, rfl, ?_⟩
    rw [inV_strs]
    refine ite2 (fun h3 => ?_) (fun h3 => ?_)
    · have ns : z ∉ sp' := fun g => by
        rw [decide_eq_true g] at h3
        cases h3
      refine ⟨_, rfl, _, hB, small1000 (by rw [List.length_map]; omega), fun b o e => ?_, bs ++ [z], ?_, ?_, fun b hb => ?_⟩
      · rw [upd_ne (ne_of_none e nB)]; exact sm _ _ e
      · rw [upd_same, List.map_append]; rfl
      · rw [List.length_append]; show bs.length + 1 ≤ i + 1; omega
      · rcases List.mem_append.mp hb with g | g
        · exact hbs b g
        · have hzm := List.mem_of_getElem? hz
          rw [List.mem_singleton.mp g]
          refine ⟨List.mem_of_mem_drop hzm, ?_⟩
          rw [hbd] at hzm
          rcases List.mem_append.mp hzm with g2 | g2
          · exact absurd g2 ns
          · exact List.mem_reverse.mp g2
    · exact ⟨sm, bs, hB, by omega, hbs⟩
  obtain ⟨sm10, bs, hB, lbs, hbs⟩ := hP
  rw [List.length_map, List.length_drop] at lbs
  have md := md9.same sm10
  have lb20 : bs.length ≤ 20 := by omega
  have ob : ∀ b ∈ bs, b.length ≤ 1000 := fun b hb => Nat.le_trans (shz b (hbs b hb).1).len (by decide)
  clear md9 md8 sm10 sC hC nB nC
  obtain ⟨ra', rvs, era, hra, hts⟩ := RowAt.parts md.row
  cases era
  have lrv : rvs.length = r.length := by rw [ThsAt.len hts, thR_len]
  refine ⟨_, rfl, ?_⟩
  refine ⟨(show 2 ≤ sizeLine by decide), fun x1 n_x1 => ?_⟩
  have S21 : Same H10 (upd H10 x1 (.tup [.str "say", .str "Key"])) := same_new n_x1
  have E_x1 : upd H10 x1 (.tup [.str "say", .str "Key"]) x1 = some (.tup [.str "say", .str "Key"]) := upd_same
  generalize upd H10 x1 (.tup [.str "say", .str "Key"]) = H21 at *
  have hra := S21 _ _ hra
  have hts := ThsAt.mono (Kpt.same S21) _ _ hts
  have hB := S21 _ _ hB
  refine ⟨(show 1 ≤ sizeLine by decide), fun y1 n_y1 => ?_⟩
  have S22 : Same H21 (upd H21 y1 (.tup [.ref x1])) := same_new n_y1
  have E_y1 : upd H21 y1 (.tup [.ref x1]) y1 = some (.tup [.ref x1]) := upd_same
  generalize upd H21 y1 (.tup [.ref x1]) = H22 at *
  have hra := S22 _ _ hra
  have hts := ThsAt.mono (Kpt.same S22) _ _ hts
  have hB := S22 _ _ hB
  have E_x1 := S22 _ _ E_x1
  refine ⟨ra, y1, rvs, [.ref x1], rfl, rfl, hra, E_y1, (by show rvs.length + 1 ≤ 1000; omega), fun Hc1 c1 sc1 ec1 => ?_⟩
  have S23 := sc1
  have hra := S23 _ _ hra
  have hts := ThsAt.mono (Kpt.same S23) _ _ hts
  have hB := S23 _ _ hB
  have E_x1 := S23 _ _ E_x1
  have v_1 : NhV Hc1 (.ref c1) := nh_tail ec1 hts (x := .tup [.str "say", .str "Key"]) ⟨x1, _, rfl, E_x1, ⟨_, _, rfl, rfl, ThsAt.one rfl⟩⟩ okr (by omega) ⟨(show 2 ≤ 1000 by decide), (show ("say" : Str).length ≤ 1000 by decide +kernel), (show ("Key" : Str).length ≤ 1000 by decide +kernel), trivial⟩ (nh_mem (List.mem_append_right _ List.mem_cons_self) (nh_name (by decide +kernel)))
  refine ⟨_, rfl, ra, rvs, rfl, .inr (SqT.of hra), ?_⟩
  refine fun l2 n_l2 => ?_
  have S24 : Same Hc1 (upd Hc1 l2 (.lst rvs)) := same_new n_l2
  have E_l2 : upd Hc1 l2 (.lst rvs) l2 = some (.lst rvs) := upd_same
  generalize upd Hc1 l2 (.lst rvs) = H24 at *
  have hra := S24 _ _ hra
  have hts := ThsAt.mono (Kpt.same S24) _ _ hts
  have hB := S24 _ _ hB
  have v_1 := NhV.up S24 v_1
  have v_2 : NhV H24 (.ref l2) := nh_th (t := .lst (thR r)) ⟨l2, _, rfl, E_l2, hts⟩ ⟨by rw [thR_len]; omega, okr⟩ (nh_kind rfl)
  refine ⟨_, rfl, ?_⟩
  refine ⟨(show 2 ≤ sizeLine by decide), fun x3 n_x3 => ?_⟩
  have S25 : Same H24 (upd H24 x3 (.tup [.str "say", .str "a.1"])) := same_new n_x3
  have E_x3 : upd H24 x3 (.tup [.str "say", .str "a.1"]) x3 = some (.tup [.str "say", .str "a.1"]) := upd_same
  generalize upd H24 x3 (.tup [.str "say", .str "a.1"]) = H25 at *
  have hra := S25 _ _ hra
  have hts := ThsAt.mono (Kpt.same S25) _ _ hts
  have hB := S25 _ _ hB
  have v_1 := NhV.up S25 v_1
  have v_2 := NhV.up S25 v_2
  refine ⟨(show 1 ≤ sizeLine by decide), fun y3 n_y3 => ?_⟩
  have S26 : Same H25 (upd H25 y3 (.tup [.ref x3])) := same_new n_y3
  have E_y3 : upd H25 y3 (.tup [.ref x3]) y3 = some (.tup [.ref x3]) := upd_same
  generalize upd H25 y3 (.tup [.ref x3]) = H26 at *
  have hra := S26 _ _ hra
  have hts := ThsAt.mono (Kpt.same S26) _ _ hts
  have hB := S26 _ _ hB
  have v_1 := NhV.up S26 v_1
  have v_2 := NhV.up S26 v_2
  have E_x3 := S26 _ _ E_x3
  refine ⟨ra, y3, rvs, [.ref x3], rfl, rfl, hra, E_y3, (by show rvs.length + 1 ≤ 1000; omega), fun Hc3 c3 sc3 ec3 => ?_⟩
  have S27 := sc3
  have hra := S27 _ _ hra
  have hts := ThsAt.mono (Kpt.same S27) _ _ hts
  have hB := S27 _ _ hB
  have v_1 := NhV.up S27 v_1
  have v_2 := NhV.up S27 v_2
  have E_x3 := S27 _ _ E_x3
  have v_3 : NhV Hc3 (.ref c3) := nh_tail ec3 hts (x := .tup [.str "say", .str "a.1"]) ⟨x3, _, rfl, E_x3, ⟨_, _, rfl, rfl, ThsAt.one rfl⟩⟩ okr (by omega) ⟨(show 2 ≤ 1000 by decide), (show ("say" : Str).length ≤ 1000 by decide +kernel), (show ("a.1" : Str).length ≤ 1000 by decide +kernel), trivial⟩ (nh_mem (List.mem_append_right _ List.mem_cons_self) (nh_name (by decide +kernel)))
  refine ⟨_, rfl, ?_⟩
  refine ⟨(show 2 ≤ sizeLine by decide), fun x4 n_x4 => ?_⟩
  have S28 : Same Hc3 (upd Hc3 x4 (.lst [.str "say", .str "a"])) := same_new n_x4
  have E_x4 : upd Hc3 x4 (.lst [.str "say", .str "a"]) x4 = some (.lst [.str "say", .str "a"]) := upd_same
  generalize upd Hc3 x4 (.lst [.str "say", .str "a"]) = H28 at *
  have hra := S28 _ _ hra
  have hts := ThsAt.mono (Kpt.same S28) _ _ hts
  have hB := S28 _ _ hB
  have v_1 := NhV.up S28 v_1
  have v_2 := NhV.up S28 v_2
  have v_3 := NhV.up S28 v_3
  refine ⟨(show 1 ≤ sizeLine by decide), fun y4 n_y4 => ?_⟩
  have S29 : Same H28 (upd H28 y4 (.tup [.ref x4])) := same_new n_y4
  have E_y4 : upd H28 y4 (.tup [.ref x4]) y4 = some (.tup [.ref x4]) := upd_same
  generalize upd H28 y4 (.tup [.ref x4]) = H29 at *
  have hra := S29 _ _ hra
  have hts := ThsAt.mono (Kpt.same S29) _ _ hts
  have hB := S29 _ _ hB
  have v_1 := NhV.up S29 v_1
  have v_2 := NhV.up S29 v_2
  have v_3 := NhV.up S29 v_3
  have E_x4 := S29 _ _ E_x4
  refine ⟨ra, y4, rvs, [.ref x4], rfl, rfl, hra, E_y4, (by show rvs.length + 1 ≤ 1000; omega), fun Hc4 c4 sc4 ec4 => ?_⟩
  have S30 := sc4
  have hra := S30 _ _ hra
  have hts := ThsAt.mono (Kpt.same S30) _ _ hts
  have hB := S30 _ _ hB
  have v_1 := NhV.up S30 v_1
  have v_2 := NhV.up S30 v_2
  have v_3 := NhV.up S30 v_3
  have E_x4 := S30 _ _ E_x4
  have v_4 : NhV Hc4 (.ref c4) := nh_tail ec4 hts (x := .lst [.str "say", .str "a"]) ⟨x4, _, rfl, E_x4, ⟨_, _, rfl, rfl, ThsAt.one rfl⟩⟩ okr (by omega) ⟨(show 2 ≤ 1000 by decide), (show ("say" : Str).length ≤ 1000 by decide +kernel), (show ("a" : Str).length ≤ 1000 by decide +kernel), trivial⟩ (nh_mem (List.mem_append_right _ List.mem_cons_self) nh_list)
  refine ⟨(show 4 ≤ sizeLine by decide), fun q0 n_q0 => ?_⟩
  have S31 : Same Hc4 (upd Hc4 q0 (.lst [.ref c1, .ref l2, .ref c3, .ref c4])) := same_new n_q0
  have E_q0 : upd Hc4 q0 (.lst [.ref c1, .ref l2, .ref c3, .ref c4]) q0 = some (.lst [.ref c1, .ref l2, .ref c3, .ref c4]) := upd_same
  generalize upd Hc4 q0 (.lst [.ref c1, .ref l2, .ref c3, .ref c4]) = H31 at *
  have hra := S31 _ _ hra
  have hts := ThsAt.mono (Kpt.same S31) _ _ hts
  have hB := S31 _ _ hB
  have v_1 := NhV.up S31 v_1
  have v_2 := NhV.up S31 v_2
  have v_3 := NhV.up S31 v_3
  have v_4 := NhV.up S31 v_4
  have a_q0 : NhA H31 [.ref c1, .ref l2, .ref c3, .ref c4] := NhA.cons v_1 (NhA.cons v_2 (NhA.cons v_3 (NhA.cons v_4 NhA.nil)))
  have l_q0 : [V.ref c1, V.ref l2, V.ref c3, V.ref c4].length = 4 := rfl
  generalize [V.ref c1, V.ref l2, V.ref c3, V.ref c4] = L_q0 at *
  refine ⟨_, rfl, ?_⟩
  refine ⟨_, rfl, 2, rfl, Bd, _, rfl, SqL.of hB, ?_⟩
  refine fun s2 n_s2 => ?_
  have S32 : Same H31 (upd H31 s2 (.lst (cutV (bs.map V.str) none (some 2)))) := same_new n_s2
  have E_s2 : upd H31 s2 (.lst (cutV (bs.map V.str) none (some 2))) s2 = some (.lst (cutV (bs.map V.str) none (some 2))) := upd_same
  generalize upd H31 s2 (.lst (cutV (bs.map V.str) none (some 2))) = H32 at *
  have hra := S32 _ _ hra
  have hts := ThsAt.mono (Kpt.same S32) _ _ hts
  have hB := S32 _ _ hB
  have E_q0 := S32 _ _ E_q0
  have a_q0 := NhA.up S32 a_q0
  have lcs2 : (cutV (bs.map V.str) none (some 2)).length ≤ 20 := by have := cutV_length (bs.map V.str) none (some 2); rw [List.length_map] at this; omega
  have mcs2 : ∀ v ∈ cutV (bs.map V.str) none (some 2), ∃ z, v = .str z ∧ z ∈ bs := fun v hv => by
    obtain ⟨z, hz, e⟩ := List.mem_map.mp (cut_mem hv)
    exact ⟨z, e.symm, hz⟩
  generalize cutV (bs.map V.str) none (some 2) = cs2 at *
  refine ⟨s2, rfl, ⟨_, SqL.of E_s2⟩, fun D2 nD2 => ?_⟩
  refine lc_it (walk_list (xs := cs2)) (fun i Hx => Same H32 Hx ∧ ∃ (vs : List V) (ts : List Th), Hx D2 = some (.lst vs) ∧ ThsAt Hx ts vs ∧ ts.length = i ∧ ∀ t ∈ ts, okT t ∧ NoHs t ∧ pureT t) ⟨same_new nD2, [], [], upd_same, rfl, rfl, fun _ h => nomatch h⟩ (fun i Hx _ hP => SqL.of (hP.1 _ _ E_s2)) (fun i y Hx Hx2 hi hP hY => ?_) (fun Hx2 hP => ?_)
  · obtain ⟨rfl, hy⟩ := hY
    obtain ⟨sx, vs, ts, hD, htt, lts, hall⟩ := hP
    have lv := ThsAt.len htt
    obtain ⟨z, rfl, hz⟩ := mcs2 y (List.mem_of_getElem? hy)
    refine ⟨rfl, yes (iteT ?_)⟩
    refine ⟨_, rfl, _, rfl, ?_⟩
    refine ⟨(show 0 ≤ sizeLine by decide), fun xe n_xe => ?_⟩
    have T_xe : Same Hx2 (upd Hx2 xe (.tup [])) := same_new n_xe
    have F_xe : upd Hx2 xe (.tup []) xe = some (.tup []) := upd_same
    generalize upd Hx2 xe (.tup []) = G_xe at *
    refine ⟨(show 3 ≤ sizeLine by decide), fun xa n_xa => ?_⟩
    have T_xa : Same G_xe (upd G_xe xa (.tup [.str "hear", .str z, .ref xe])) := same_new n_xa
    have F_xa : upd G_xe xa (.tup [.str "hear", .str z, .ref xe]) xa = some (.tup [.str "hear", .str z, .ref xe]) := upd_same
    generalize upd G_xe xa (.tup [.str "hear", .str z, .ref xe]) = G_xa at *
    refine ⟨(show 1 ≤ sizeLine by decide), fun xb n_xb => ?_⟩
    have T_xb : Same G_xa (upd G_xa xb (.tup [.ref xa])) := same_new n_xb
    have F_xb : upd G_xa xb (.tup [.ref xa]) xb = some (.tup [.ref xa]) := upd_same
    generalize upd G_xa xb (.tup [.ref xa]) = G_xb at *
    refine ⟨ra, xb, rvs, _, rfl, rfl, (Same.trans (Same.trans (Same.trans sx T_xe) T_xa) T_xb) _ _ hra, F_xb, (by show rvs.length + 1 ≤ 1000; omega), fun Hy c sy ec => ?_⟩
    have sxy : Same Hx2 Hy := Same.trans (Same.trans (Same.trans T_xe T_xa) T_xb) sy
    have hts2 := ThsAt.mono (Kpt.same (Same.trans sx sxy)) _ _ hts
    have hx2 : ThAt Hy (thP (.oth .hear z [])) (.ref xa) := ⟨xa, _, rfl, (sy _ _ (T_xb _ _ F_xa)), _, _, rfl, rfl, _, _, rfl, rfl, ThsAt.one ⟨xe, [], rfl, (sy _ _ (T_xb _ _ (T_xa _ _ F_xe))), rfl⟩⟩
    have hD2 := sxy _ _ hD
    have st : STup Hx2 (upd Hy D2 (.lst (vs ++ [.ref c]))) := (STup.of sxy).trans (STup.lst hD2)
    have pts : pureTs ts := by
      clear htt lts lv
      induction ts with
      | nil => exact trivial
      | cons x r ih => exact ⟨(hall x List.mem_cons_self).2.2, ih fun z hz => hall z (List.mem_cons_of_mem _ hz)⟩
    have pn2 : pureT (.tup (thR r ++ [thP (.oth .hear z [])])) := pureTs_app (pure_R r) ⟨pure_P _, trivial⟩
    refine ⟨vs, hD2, small1000 (by omega), fun z o g => ?_, vs ++ [.ref c], ts ++ [.tup (thR r ++ [thP (.oth .hear z [])])], upd_same, ThsAt.app (ThsAt.one (ThAt.monoT (STup.lst hD2) _ _ pn2 ⟨c, _, rfl, ec, ThsAt.app (ThsAt.one hx2) hts2⟩)) (ThsAt.monoT st ts vs pts htt), by rw [List.length_append, lts]; rfl, fun x hx => ?_⟩
    · rw [upd_ne (ne_of_none g nD2)]; exact sxy _ _ (sx _ _ g)
    · rcases List.mem_append.mp hx with g | g
      · exact hall x g
      · rw [List.mem_singleton.mp g]
        refine ⟨⟨by rw [List.length_append, thR_len]; show r.length + 1 ≤ 1000; omega, okTs_app okr ⟨⟨(show 3 ≤ 1000 by decide), (show ("hear" : Str).length ≤ 1000 by decide +kernel), ob z hz, ⟨Nat.zero_le _, trivial⟩, trivial⟩, trivial⟩⟩, nh_twice (hbs z hz).2, pn2⟩
  obtain ⟨sx2, cvs2, cts2, hD2, htt2, lts2, hall2⟩ := hP
  have lcv2 := ThsAt.len htt2
  have aC2 : NhA Hx2 cvs2 := fun v hv => by
    obtain ⟨i, hi⟩ := List.getElem?_of_mem hv
    obtain ⟨t, ht, hta⟩ := ThsAt.get htt2 hi
    obtain ⟨z1, z2, z3⟩ := hall2 t (List.mem_of_getElem? ht)
    exact ⟨t, hta, z1, z2⟩
  have S33 := sx2
  have hra := S33 _ _ hra
  have hts := ThsAt.mono (Kpt.same S33) _ _ hts
  have hB := S33 _ _ hB
  have E_q0 := S33 _ _ E_q0
  have a_q0 := NhA.up S33 a_q0
  clear htt2 hall2
  refine ⟨q0, D2, _, _, rfl, rfl, E_q0, hD2, small (by omega), fun q1 n_q1 => ?_⟩
  have S34 : Same Hx2 (upd Hx2 q1 (.lst (L_q0 ++ cvs2))) := same_new n_q1
  have E_q1 : upd Hx2 q1 (.lst (L_q0 ++ cvs2)) q1 = some (.lst (L_q0 ++ cvs2)) := upd_same
  generalize upd Hx2 q1 (.lst (L_q0 ++ cvs2)) = H34 at *
  have hra := S34 _ _ hra
  have hts := ThsAt.mono (Kpt.same S34) _ _ hts
  have hB := S34 _ _ hB
  have E_q0 := S34 _ _ E_q0
  have a_q0 := NhA.up S34 a_q0
  have a_q1 : NhA H34 (L_q0 ++ cvs2) := NhA.app a_q0 (aC2.up S34)
  have l_q1 : (L_q0 ++ cvs2).length ≤ 24 := by rw [List.length_append]; omega
  generalize L_q0 ++ cvs2 = L_q1 at *
  refine ⟨_, rfl, ?_⟩
  refine ⟨_, rfl, 2, rfl, 4, rfl, Bd, _, rfl, SqL.of hB, ?_⟩
  refine fun s3 n_s3 => ?_
  have S35 : Same H34 (upd H34 s3 (.lst (cutV (bs.map V.str) (some 2) (some 4)))) := same_new n_s3
  have E_s3 : upd H34 s3 (.lst (cutV (bs.map V.str) (some 2) (some 4))) s3 = some (.lst (cutV (bs.map V.str) (some 2) (some 4))) := upd_same
  generalize upd H34 s3 (.lst (cutV (bs.map V.str) (some 2) (some 4))) = H35 at *
  have hra := S35 _ _ hra
  have hts := ThsAt.mono (Kpt.same S35) _ _ hts
  have hB := S35 _ _ hB
  have E_q1 := S35 _ _ E_q1
  have a_q1 := NhA.up S35 a_q1
  have lcs3 : (cutV (bs.map V.str) (some 2) (some 4)).length ≤ 20 := by have := cutV_length (bs.map V.str) (some 2) (some 4); rw [List.length_map] at this; omega
  have mcs3 : ∀ v ∈ cutV (bs.map V.str) (some 2) (some 4), ∃ z, v = .str z ∧ z ∈ bs := fun v hv => by
    obtain ⟨z, hz, e⟩ := List.mem_map.mp (cut_mem hv)
    exact ⟨z, e.symm, hz⟩
  generalize cutV (bs.map V.str) (some 2) (some 4) = cs3 at *
  refine ⟨s3, rfl, ⟨_, SqL.of E_s3⟩, fun D3 nD3 => ?_⟩
  refine lc_it (walk_list (xs := cs3)) (fun i Hx => Same H35 Hx ∧ ∃ (vs : List V) (ts : List Th), Hx D3 = some (.lst vs) ∧ ThsAt Hx ts vs ∧ ts.length = i ∧ ∀ t ∈ ts, okT t ∧ NoHs t ∧ pureT t) ⟨same_new nD3, [], [], upd_same, rfl, rfl, fun _ h => nomatch h⟩ (fun i Hx _ hP => SqL.of (hP.1 _ _ E_s3)) (fun i y Hx Hx2 hi hP hY => ?_) (fun Hx3 hP => ?_)
  · obtain ⟨rfl, hy⟩ := hY
    obtain ⟨sx, vs, ts, hD, htt, lts, hall⟩ := hP
    have lv := ThsAt.len htt
    obtain ⟨z, rfl, hz⟩ := mcs3 y (List.mem_of_getElem? hy)
    refine ⟨rfl, yes (iteT ?_)⟩
    refine ⟨_, rfl, _, rfl, ?_⟩
    refine ⟨(show 2 ≤ sizeLine by decide), fun xa n_xa => ?_⟩
    have T_xa : Same Hx2 (upd Hx2 xa (.tup [.str "say", .str z])) := same_new n_xa
    have F_xa : upd Hx2 xa (.tup [.str "say", .str z]) xa = some (.tup [.str "say", .str z]) := upd_same
    generalize upd Hx2 xa (.tup [.str "say", .str z]) = G_xa at *
    refine ⟨(show 1 ≤ sizeLine by decide), fun xb n_xb => ?_⟩
    have T_xb : Same G_xa (upd G_xa xb (.tup [.ref xa])) := same_new n_xb
    have F_xb : upd G_xa xb (.tup [.ref xa]) xb = some (.tup [.ref xa]) := upd_same
    generalize upd G_xa xb (.tup [.ref xa]) = G_xb at *
    refine ⟨ra, xb, rvs, _, rfl, rfl, (Same.trans (Same.trans sx T_xa) T_xb) _ _ hra, F_xb, (by show rvs.length + 1 ≤ 1000; omega), fun Hy c sy ec => ?_⟩
    have sxy : Same Hx2 Hy := Same.trans (Same.trans T_xa T_xb) sy
    have hts2 := ThsAt.mono (Kpt.same (Same.trans sx sxy)) _ _ hts
    have hx2 : ThAt Hy (thP (.say z)) (.ref xa) := ⟨xa, _, rfl, (sy _ _ (T_xb _ _ F_xa)), _, _, rfl, rfl, ThsAt.one rfl⟩
    have hD2 := sxy _ _ hD
    have st : STup Hx2 (upd Hy D3 (.lst (vs ++ [.ref c]))) := (STup.of sxy).trans (STup.lst hD2)
    have pts : pureTs ts := by
      clear htt lts lv
      induction ts with
      | nil => exact trivial
      | cons x r ih => exact ⟨(hall x List.mem_cons_self).2.2, ih fun z hz => hall z (List.mem_cons_of_mem _ hz)⟩
    have pn2 : pureT (.tup (thR r ++ [thP (.say z)])) := pureTs_app (pure_R r) ⟨pure_P _, trivial⟩
    refine ⟨vs, hD2, small1000 (by omega), fun z o g => ?_, vs ++ [.ref c], ts ++ [.tup (thR r ++ [thP (.say z)])], upd_same, ThsAt.app (ThsAt.one (ThAt.monoT (STup.lst hD2) _ _ pn2 ⟨c, _, rfl, ec, ThsAt.app (ThsAt.one hx2) hts2⟩)) (ThsAt.monoT st ts vs pts htt), by rw [List.length_append, lts]; rfl, fun x hx => ?_⟩
    · rw [upd_ne (ne_of_none g nD3)]; exact sxy _ _ (sx _ _ g)
    · rcases List.mem_append.mp hx with g | g
      · exact hall x g
      · rw [List.mem_singleton.mp g]
        refine ⟨⟨by rw [List.length_append, thR_len]; show r.length + 1 ≤ 1000; omega, okTs_app okr ⟨⟨(show 2 ≤ 1000 by decide), (show ("say" : Str).length ≤ 1000 by decide +kernel), ob z hz, trivial⟩, trivial⟩⟩, nh_out (hbs z hz).2, pn2⟩
  obtain ⟨sx3, cvs3, cts3, hD3, htt3, lts3, hall3⟩ := hP
  have lcv3 := ThsAt.len htt3
  have aC3 : NhA Hx3 cvs3 := fun v hv => by
    obtain ⟨i, hi⟩ := List.getElem?_of_mem hv
    obtain ⟨t, ht, hta⟩ := ThsAt.get htt3 hi
    obtain ⟨z1, z2, z3⟩ := hall3 t (List.mem_of_getElem? ht)
    exact ⟨t, hta, z1, z2⟩
  have S36 := sx3
  have hra := S36 _ _ hra
  have hts := ThsAt.mono (Kpt.same S36) _ _ hts
  have hB := S36 _ _ hB
  have E_q1 := S36 _ _ E_q1
  have a_q1 := NhA.up S36 a_q1
  clear htt3 hall3
  refine ⟨q1, D3, _, _, rfl, rfl, E_q1, hD3, small (by omega), fun q2 n_q2 => ?_⟩
  have S37 : Same Hx3 (upd Hx3 q2 (.lst (L_q1 ++ cvs3))) := same_new n_q2
  have E_q2 : upd Hx3 q2 (.lst (L_q1 ++ cvs3)) q2 = some (.lst (L_q1 ++ cvs3)) := upd_same
  generalize upd Hx3 q2 (.lst (L_q1 ++ cvs3)) = H37 at *
  have hra := S37 _ _ hra
  have hts := ThsAt.mono (Kpt.same S37) _ _ hts
  have hB := S37 _ _ hB
  have E_q1 := S37 _ _ E_q1
  have a_q1 := NhA.up S37 a_q1
  have a_q2 : NhA H37 (L_q1 ++ cvs3) := NhA.app a_q1 (aC3.up S37)
  have l_q2 : (L_q1 ++ cvs3).length ≤ 44 := by rw [List.length_append]; omega
  generalize L_q1 ++ cvs3 = L_q2 at *
  refine ⟨_, rfl, ?_⟩
  refine ⟨(show 2 ≤ sizeLine by decide), fun u1 n_u1 => ?_⟩
  have S38 : Same H37 (upd H37 u1 (.tup [.str "say", .str "a"])) := same_new n_u1
  have E_u1 : upd H37 u1 (.tup [.str "say", .str "a"]) u1 = some (.tup [.str "say", .str "a"]) := upd_same
  generalize upd H37 u1 (.tup [.str "say", .str "a"]) = H38 at *
  have hra := S38 _ _ hra
  have hts := ThsAt.mono (Kpt.same S38) _ _ hts
  have hB := S38 _ _ hB
  have E_q2 := S38 _ _ E_q2
  have a_q2 := NhA.up S38 a_q2
  refine ⟨(show 1 ≤ sizeLine by decide), fun u2 n_u2 => ?_⟩
  have S39 : Same H38 (upd H38 u2 (.tup [.ref u1])) := same_new n_u2
  have E_u2 : upd H38 u2 (.tup [.ref u1]) u2 = some (.tup [.ref u1]) := upd_same
  generalize upd H38 u2 (.tup [.ref u1]) = H39 at *
  have hra := S39 _ _ hra
  have hts := ThsAt.mono (Kpt.same S39) _ _ hts
  have hB := S39 _ _ hB
  have E_q2 := S39 _ _ E_q2
  have a_q2 := NhA.up S39 a_q2
  have E_u1 := S39 _ _ E_u1
  refine ⟨u2, 401, [.ref u1], rfl, rfl, SqT.of E_u2, (fun z => by cases z), by decide, by decide, (show 1 ≤ 1000 by decide), ?_⟩
  refine fun u3 n_u3 => ?_
  have S40 : Same H39 (upd H39 u3 (.tup (List.replicate (401 : Int).toNat [.ref u1]).flatten)) := same_new n_u3
  have E_u3 : upd H39 u3 (.tup (List.replicate (401 : Int).toNat [.ref u1]).flatten) u3 = some (.tup (List.replicate (401 : Int).toNat [.ref u1]).flatten) := upd_same
  generalize upd H39 u3 (.tup (List.replicate (401 : Int).toNat [.ref u1]).flatten) = H40 at *
  have hra := S40 _ _ hra
  have hts := ThsAt.mono (Kpt.same S40) _ _ hts
  have hB := S40 _ _ hB
  have E_q2 := S40 _ _ E_q2
  have a_q2 := NhA.up S40 a_q2
  have E_u1 := S40 _ _ E_u1
  have v_u3 : NhV H40 (.ref u3) := by
    refine nh_th (t := thRow (List.replicate 401 (Part.say "a"))) ⟨u3, _, rfl, E_u3, ?_⟩ ⟨?_, ?_⟩ nh_many
    · rw [thR_rep]; exact reps_at (t := .tup [.str "say", .str "a"]) ⟨u1, _, rfl, E_u1, ⟨_, _, rfl, rfl, ThsAt.one rfl⟩⟩ 401
    · rw [thR_len, List.length_replicate]; decide
    · rw [thR_rep]; exact okTs.of fun t ht => by rw [(List.mem_replicate.mp ht).2]; exact ok_say
  refine ⟨25, rfl, by decide, fun Hd dv2 sd hrd => ?_⟩
  have S41 := sd
  have hra := S41 _ _ hra
  have hts := ThsAt.mono (Kpt.same S41) _ _ hts
  have hB := S41 _ _ hB
  have E_q2 := S41 _ _ E_q2
  have a_q2 := NhA.up S41 a_q2
  have v_u3 := NhV.up S41 v_u3
  have v_d : NhV Hd dv2 := nh_th (at_thRow hrd) (okT_row (r := dpR 25) (by
    have : ∀ k, okR NmOk (dpR k) := fun k => by
      induction k with
      | zero => exact trivial
      | succ k ih => exact ⟨⟨⟨by decide +kernel, by decide +kernel⟩, ih⟩, trivial⟩
    exact this 25) (by decide +kernel)) nh_deep
  refine ⟨(show 2 ≤ sizeLine by decide), fun l5 n_l5 => ?_⟩
  have S42 : Same Hd (upd Hd l5 (.lst [.ref u3, dv2])) := same_new n_l5
  have E_l5 : upd Hd l5 (.lst [.ref u3, dv2]) l5 = some (.lst [.ref u3, dv2]) := upd_same
  generalize upd Hd l5 (.lst [.ref u3, dv2]) = H42 at *
  have hra := S42 _ _ hra
  have hts := ThsAt.mono (Kpt.same S42) _ _ hts
  have hB := S42 _ _ hB
  have E_q2 := S42 _ _ E_q2
  have a_q2 := NhA.up S42 a_q2
  have v_u3 := NhV.up S42 v_u3
  have v_d := NhV.up S42 v_d
  have a_l5 : NhA H42 [.ref u3, dv2] := NhA.cons v_u3 (NhA.cons v_d NhA.nil)
  have l_l5 : [V.ref u3, dv2].length = 2 := rfl
  generalize [V.ref u3, dv2] = L5 at *
  refine ⟨q2, l5, _, _, rfl, rfl, E_q2, E_l5, small (by omega), fun q3 n_q3 => ?_⟩
  have S43 : Same H42 (upd H42 q3 (.lst (L_q2 ++ L5))) := same_new n_q3
  have E_q3 : upd H42 q3 (.lst (L_q2 ++ L5)) q3 = some (.lst (L_q2 ++ L5)) := upd_same
  generalize upd H42 q3 (.lst (L_q2 ++ L5)) = H43 at *
  have hra := S43 _ _ hra
  have hts := ThsAt.mono (Kpt.same S43) _ _ hts
  have hB := S43 _ _ hB
  have E_q2 := S43 _ _ E_q2
  have a_q2 := NhA.up S43 a_q2
  have a_l5 := NhA.up S43 a_l5
  have a_q3 : NhA H43 (L_q2 ++ L5) := NhA.app a_q2 a_l5
  have l_q3 : (L_q2 ++ L5).length ≤ 46 := by rw [List.length_append]; omega
  generalize L_q2 ++ L5 = L_q3 at *
  refine ⟨_, rfl, ?_⟩
  refine ⟨(show 2 ≤ sizeLine by decide), fun g1 n_g1 => ?_⟩
  have S44 : Same H43 (upd H43 g1 (.tup [.str "say", .str "a"])) := same_new n_g1
  have E_g1 : upd H43 g1 (.tup [.str "say", .str "a"]) g1 = some (.tup [.str "say", .str "a"]) := upd_same
  generalize upd H43 g1 (.tup [.str "say", .str "a"]) = H44 at *
  have hra := S44 _ _ hra
  have hts := ThsAt.mono (Kpt.same S44) _ _ hts
  have hB := S44 _ _ hB
  have E_q3 := S44 _ _ E_q3
  have a_q3 := NhA.up S44 a_q3
  intro g2 n_g2
  have S45 : Same H44 (upd H44 g2 (.dK [])) := same_new n_g2
  have E_g2 : upd H44 g2 (.dK []) g2 = some (.dK []) := upd_same
  generalize upd H44 g2 (.dK []) = H45 at *
  have hra := S45 _ _ hra
  have hts := ThsAt.mono (Kpt.same S45) _ _ hts
  have hB := S45 _ _ hB
  have E_q3 := S45 _ _ E_q3
  have a_q3 := NhA.up S45 a_q3
  have E_g1 := S45 _ _ E_g1
  refine ⟨(show 0 ≤ sizeLine by decide), fun g3 n_g3 => ?_⟩
  have S46 : Same H45 (upd H45 g3 (.tup [])) := same_new n_g3
  have E_g3 : upd H45 g3 (.tup []) g3 = some (.tup []) := upd_same
  generalize upd H45 g3 (.tup []) = H46 at *
  have hra := S46 _ _ hra
  have hts := ThsAt.mono (Kpt.same S46) _ _ hts
  have hB := S46 _ _ hB
  have E_q3 := S46 _ _ E_q3
  have a_q3 := NhA.up S46 a_q3
  have E_g1 := S46 _ _ E_g1
  have E_g2 := S46 _ _ E_g2
  refine ⟨(show 1 ≤ sizeLine by decide), fun g4 n_g4 => ?_⟩
  have S47 : Same H46 (upd H46 g4 (.tup [.ref g3])) := same_new n_g4
  have E_g4 : upd H46 g4 (.tup [.ref g3]) g4 = some (.tup [.ref g3]) := upd_same
  generalize upd H46 g4 (.tup [.ref g3]) = H47 at *
  have hra := S47 _ _ hra
  have hts := ThsAt.mono (Kpt.same S47) _ _ hts
  have hB := S47 _ _ hB
  have E_q3 := S47 _ _ E_q3
  have a_q3 := NhA.up S47 a_q3
  have E_g1 := S47 _ _ E_g1
  have E_g2 := S47 _ _ E_g2
  have E_g3 := S47 _ _ E_g3
  refine ⟨(show 2 ≤ sizeLine by decide), fun g5 n_g5 => ?_⟩
  have S48 : Same H47 (upd H47 g5 (.tup [.str "say", .str "a"])) := same_new n_g5
  have E_g5 : upd H47 g5 (.tup [.str "say", .str "a"]) g5 = some (.tup [.str "say", .str "a"]) := upd_same
  generalize upd H47 g5 (.tup [.str "say", .str "a"]) = H48 at *
  have hra := S48 _ _ hra
  have hts := ThsAt.mono (Kpt.same S48) _ _ hts
  have hB := S48 _ _ hB
  have E_q3 := S48 _ _ E_q3
  have a_q3 := NhA.up S48 a_q3
  have E_g1 := S48 _ _ E_g1
  have E_g2 := S48 _ _ E_g2
  have E_g3 := S48 _ _ E_g3
  have E_g4 := S48 _ _ E_g4
  refine ⟨(show 3 ≤ sizeLine by decide), fun g6 n_g6 => ?_⟩
  have S49 : Same H48 (upd H48 g6 (.tup [.str "room", .str "a", .ref g5])) := same_new n_g6
  have E_g6 : upd H48 g6 (.tup [.str "room", .str "a", .ref g5]) g6 = some (.tup [.str "room", .str "a", .ref g5]) := upd_same
  generalize upd H48 g6 (.tup [.str "room", .str "a", .ref g5]) = H49 at *
  have hra := S49 _ _ hra
  have hts := ThsAt.mono (Kpt.same S49) _ _ hts
  have hB := S49 _ _ hB
  have E_q3 := S49 _ _ E_q3
  have a_q3 := NhA.up S49 a_q3
  have E_g1 := S49 _ _ E_g1
  have E_g2 := S49 _ _ E_g2
  have E_g3 := S49 _ _ E_g3
  have E_g4 := S49 _ _ E_g4
  have E_g5 := S49 _ _ E_g5
  refine ⟨(show 1 ≤ sizeLine by decide), fun g7 n_g7 => ?_⟩
  have S50 : Same H49 (upd H49 g7 (.tup [.ref g6])) := same_new n_g7
  have E_g7 : upd H49 g7 (.tup [.ref g6]) g7 = some (.tup [.ref g6]) := upd_same
  generalize upd H49 g7 (.tup [.ref g6]) = H50 at *
  have hra := S50 _ _ hra
  have hts := ThsAt.mono (Kpt.same S50) _ _ hts
  have hB := S50 _ _ hB
  have E_q3 := S50 _ _ E_q3
  have a_q3 := NhA.up S50 a_q3
  have E_g1 := S50 _ _ E_g1
  have E_g2 := S50 _ _ E_g2
  have E_g3 := S50 _ _ E_g3
  have E_g4 := S50 _ _ E_g4
  have E_g5 := S50 _ _ E_g5
  have E_g6 := S50 _ _ E_g6
  refine ⟨(show 8 ≤ sizeLine by decide), fun l6 n_l6 => ?_⟩
  have S51 : Same H50 (upd H50 l6 (.lst [.non, .int 5, .str "0", .ref g1, .ref g2, .bl true, .ref g4, .ref g7])) := same_new n_l6
  have E_l6 : upd H50 l6 (.lst [.non, .int 5, .str "0", .ref g1, .ref g2, .bl true, .ref g4, .ref g7]) l6 = some (.lst [.non, .int 5, .str "0", .ref g1, .ref g2, .bl true, .ref g4, .ref g7]) := upd_same
  generalize upd H50 l6 (.lst [.non, .int 5, .str "0", .ref g1, .ref g2, .bl true, .ref g4, .ref g7]) = H51 at *
  have hra := S51 _ _ hra
  have hts := ThsAt.mono (Kpt.same S51) _ _ hts
  have hB := S51 _ _ hB
  have E_q3 := S51 _ _ E_q3
  have a_q3 := NhA.up S51 a_q3
  have E_g1 := S51 _ _ E_g1
  have E_g2 := S51 _ _ E_g2
  have E_g3 := S51 _ _ E_g3
  have E_g4 := S51 _ _ E_g4
  have E_g5 := S51 _ _ E_g5
  have E_g6 := S51 _ _ E_g6
  have E_g7 := S51 _ _ E_g7
  have a_l6 : NhA H51 [.non, .int 5, .str "0", .ref g1, .ref g2, .bl true, .ref g4, .ref g7] := by
    refine NhA.cons (nh_th (t := .non) rfl trivial (nh_kind rfl)) (NhA.cons (nh_th (t := .int 5) rfl trivial (nh_kind rfl)) (NhA.cons (nh_th (t := .str "0") rfl (show ("0" : Str).length ≤ 1000 by decide +kernel) (nh_kind rfl)) (NhA.cons ?_ (NhA.cons (nh_th (t := .dct) ⟨g2, rfl, E_g2⟩ trivial (nh_kind rfl)) (NhA.cons (nh_th (t := .bl true) rfl trivial (nh_kind rfl)) (NhA.cons ?_ (NhA.cons ?_ NhA.nil)))))))
    · exact nh_th (t := .tup [.str "say", .str "a"]) ⟨g1, _, rfl, E_g1, ⟨_, _, rfl, rfl, ThsAt.one rfl⟩⟩ ok_say (nh_mem (x := .str "say") List.mem_cons_self nh_str)
    · exact nh_th (t := .tup [.tup []]) ⟨g4, _, rfl, E_g4, ThsAt.one ⟨g3, [], rfl, E_g3, rfl⟩⟩ ⟨(show 1 ≤ 1000 by decide), ⟨Nat.zero_le _, trivial⟩, trivial⟩ (nh_mem List.mem_cons_self nh_nil)
    · exact nh_th (t := .tup [.tup [.str "room", .str "a", .tup [.str "say", .str "a"]]]) ⟨g7, _, rfl, E_g7, ThsAt.one ⟨g6, _, rfl, E_g6, _, _, rfl, rfl, _, _, rfl, rfl, ThsAt.one ⟨g5, _, rfl, E_g5, ⟨_, _, rfl, rfl, ThsAt.one rfl⟩⟩⟩⟩ ⟨(show 1 ≤ 1000 by decide), ⟨(show 3 ≤ 1000 by decide), (show ("room" : Str).length ≤ 1000 by decide +kernel), (show ("a" : Str).length ≤ 1000 by decide +kernel), ok_say, trivial⟩, trivial⟩ (nh_mem List.mem_cons_self nh_room)
  have l_l6 : [V.non, V.int 5, V.str "0", V.ref g1, V.ref g2, V.bl true, V.ref g4, V.ref g7].length = 8 := rfl
  generalize [V.non, V.int 5, V.str "0", V.ref g1, V.ref g2, V.bl true, V.ref g4, V.ref g7] = L6 at *
  refine ⟨q3, l6, _, _, rfl, rfl, E_q3, E_l6, small (by omega), fun q4 n_q4 => ?_⟩
  have S52 : Same H51 (upd H51 q4 (.lst (L_q3 ++ L6))) := same_new n_q4
  have E_q4 : upd H51 q4 (.lst (L_q3 ++ L6)) q4 = some (.lst (L_q3 ++ L6)) := upd_same
  generalize upd H51 q4 (.lst (L_q3 ++ L6)) = H52 at *
  have hra := S52 _ _ hra
  have hts := ThsAt.mono (Kpt.same S52) _ _ hts
  have hB := S52 _ _ hB
  have E_q3 := S52 _ _ E_q3
  have a_q3 := NhA.up S52 a_q3
  have E_g1 := S52 _ _ E_g1
  have E_g2 := S52 _ _ E_g2
  have E_g3 := S52 _ _ E_g3
  have E_g4 := S52 _ _ E_g4
  have E_g5 := S52 _ _ E_g5
  have E_g6 := S52 _ _ E_g6
  have E_g7 := S52 _ _ E_g7
  have a_l6 := NhA.up S52 a_l6
  have a_q4 : NhA H52 (L_q3 ++ L6) := NhA.app a_q3 a_l6
  have l_q4 : (L_q3 ++ L6).length ≤ 54 := by rw [List.length_append]; omega
  generalize L_q3 ++ L6 = L_q4 at *
  have sAll : Same H10 H52 := (Same.trans (Same.trans (Same.trans (Same.trans (Same.trans (Same.trans (Same.trans (Same.trans (Same.trans (Same.trans (Same.trans (Same.trans (Same.trans (Same.trans (Same.trans (Same.trans (Same.trans (Same.trans (Same.trans (Same.trans (Same.trans (Same.trans (Same.trans (Same.trans (Same.trans (Same.trans (Same.trans (Same.trans (Same.trans (Same.trans (Same.trans S21 S22) S23) S24) S25) S26) S27) S28) S29) S30) S31) S32) S33) S34) S35) S36) S37) S38) S39) S40) S41) S42) S43) S44) S45) S46) S47) S48) S49) S50) S51) S52)
  have mdE := md.same sAll
  refine ⟨q4, rfl, ⟨_, SqL.of E_q4⟩, for_it (walk_list (xs := L_q4))
    (fun _ σ Hz => SamTs Ts H52 Hz ∧ ∃ s1 s2 s3 s4 s5 s6 s7 s8 s9 s10 s11 s12 : Option V, σ = [some (.ref a), s1, s2, s3, s4, s5, s6, s7, s8, s9, s10, s11, s12])
    ⟨SamTs.refl mdE.tg, _, _, _, _, _, _, _, _, _, _, _, _, rfl⟩ (fun i σ Hz _ hP => SqL.of (hP.1.lst mdE.tg E_q4)) (fun i x σ Hz Hy hi hP hY => ?_) (fun σ Hz hP => ?_)⟩
  · obtain ⟨sz, s1, s2, s3, s4, s5, s6, s7, s8, s9, s10, s11, s12, rfl⟩ := hP
    obtain ⟨rfl, hx⟩ := hY
    obtain ⟨t, ht, okt, nt⟩ := a_q4 x (List.mem_of_getElem? hx)
    refine ⟨_, rfl, x, t, rfl, ThAt.mono (Kpt.of mdE.tg sz) t x ht, okt, sz.2, nt, fun Hw st => ⟨_, rfl, iteF ?_⟩⟩
    exact ⟨sz.trans st, _, _, _, _, _, _, _, _, _, _, _, _, rfl⟩
  · obtain ⟨sz, s1, s2, s3, s4, s5, s6, s7, s8, s9, s10, s11, s12, rfl⟩ := hP
    have mz := mdE.sam sz
    exact ⟨mz.hp, mz.tg, _, _, _, _, _, _, _, _, _, _, _, _, rfl⟩
end
end K10

set_option Elab.async false
set_option linter.all false
set_option maxRecDepth 100000
set_option maxHeartbeats 2000000
/-! The end of a law with the code tables of defs told. -/
namespace Wk
open PySem PySem.Spec PyProof.Rows L2 GxR
theorem walk_tab {l : PySem.W.OpenLaw} {n k : Nat} {q : Program} {loose : List Str} {XP : (Str → Option Value) → Heap → Prop}
    {YP : World → Heap → Prop} {d : DefRec} {K : Params → PySem.W.Frag} {x : Str}
    (hn : l.most = some n) (hn2 : n ≤ sizeLine) (hdf : d.params.defaults = []) (hr : Room k callerA) (hY : ∀ (w : World) (h : Heap), YP w h → (K w.params).In h)
    (F : ∀ (w : World) (mg : Str → Option Value) (fa : Addr) (h : Heap), (K w.params).In h → h.Ns mainGlobals mg → mg d.name = some (.ref fa) →
      (∀ (y : Str) (e : DefRec) (c P : Addr), (recsOf q).find? (fun e => e.name == y) = some e → PySem.W.tabIn (K w.params) y = some (c, P) → PySem.W.CodeHd h c P ∧ h.get? P = some { cls := .none, data := .fields #[] }) →
      LamX.LawAtS l w (K w.params) CX0 k n x mg fa h) :
    PySem.W.WalkO q loose XP YP l.row.toRowW d [] (fun f vs => PySem.call f vs) := by
  refine Att.attach_callB hn hdf fun w s₀ s₁ mg mb fa o pm cd doc a vs ns G Y ho hd hcd hmg hobj hints hlen hbits hg => ?_
  have KX := hY w _ Y
  obtain ⟨fd, cs, sp, hT, nT, C, hb, hsp, hF⟩ := F w mg fa _ KX G.T.g hmg fun y e c P h1 h2 => PySem.W.tab_of G.T KX h1 h2
  refine LamX.law_callTs KX G.T.g G.T.b G.T.builtins G.T.nolimit hg hT nT C G.T.bmain hobj hints (Nat.le_trans hlen hn2) hr hF hb ?_ fun H e s' z => z
  exact fun H hH hS => hsp H a ns hlen hbits hH hS
theorem tab_in {K : PySem.W.Frag} {y : Str} {f c T : Addr} {oc : Value} {od : Option Addr} {fd : FuncData} {sl : Array (Option Value)} {occ : Value} {odc : Option Addr} {vs : Array Value} {slc : Array (Option Value)}
    (a : PySem.W.nsIn K mainGlobals y = some (some (.ref f))) (l : K.lookup f = some ⟨oc, od, .func fd, sl⟩) (e : fd.code = .ref c) (lc : K.lookup c = some ⟨occ, odc, .fields vs, slc⟩) (hv : vs[11]? = some (.ref T)) : PySem.W.tabIn K y = some (c, T) := by
  unfold PySem.W.tabIn
  rw [a]
  dsimp only
  rw [l]
  dsimp only
  rw [e]
  dsimp only
  rw [lc]
  dsimp only
  rw [hv]
theorem funC_mk {K : PySem.W.Frag} {x qual : Str} {st : Stmt} {f c : Addr} {oc : Value} {od : Option Addr} {kV doc pm : Value} {an : Option Addr} {ct : Value} {osl : Array (Option Value)}
    (l : K.lookup f = some ⟨oc, od, .func (PySem.W.fnOf x qual (defArgs st) (defBody st) (defScope st) .none kV doc pm an (.ref c) ct), osl⟩) (h : PySem.W.codeIn K (.ref c) qual = true) (k : PySem.W.keepIn K (.ref f) = true) :
    FunC K x qual st f c (PySem.W.fnOf x qual (defArgs st) (defBody st) (defScope st) .none kV doc pm an (.ref c) ct) := ⟨⟨oc, od, kV, doc, pm, an, ct, osl, rfl, l, h⟩, k⟩
end Wk

set_option Elab.async false
set_option linter.all false
set_option maxRecDepth 100000
set_option maxHeartbeats 2000000
/-! SIZES, asked for any text. -/
namespace Wk
open PySem PySem.Spec PyProof.Rows L2 GxR
theorem find_no {z a : Str} {h : Int} {u : Tok} {v : Value} {r : List DictEntry} (c : ¬ z = a) : List.find? (fun e : DictEntry => e.key.isStr z) (⟨h, .str a u, v⟩ :: r) = List.find? (fun e : DictEntry => e.key.isStr z) r := by
  rw [List.find?_cons]
  have e : Value.isStr (.str a u) z = false := beq_eq_false_iff_ne.mpr fun h => c h.symm
  show (match Value.isStr (.str a u) z with | true => _ | false => _) = _
  rw [e]
theorem find_yes {a : Str} {h : Int} {u : Tok} {v : Value} {r : List DictEntry} : List.find? (fun e : DictEntry => e.key.isStr a) (⟨h, .str a u, v⟩ :: r) = some ⟨h, .str a u, v⟩ := by
  rw [List.find?_cons]
  have e : Value.isStr (.str a u) a = true := beq_self_eq_true a
  show (match Value.isStr (.str a u) a with | true => _ | false => _) = _
  rw [e]
theorem sizesG_of {K : PySem.W.Frag} {w : World} {d : Addr} {es : Array DictEntry} {n : Nat} {h0 h1 h2 h3 h4 h5 h6 h7 : Int} {u0 u1 u2 u3 u4 u5 u6 u7 q0 q1 q2 q3 q4 q5 q6 q7 : Tok}
    (l : K.lookup d = some ⟨.type "dict", none, .dict es n, #[]⟩) (k : PySem.W.KeysLit w.params es.toList) (low : (d == sysModules) = false)
    (e : es.toList = [⟨h0, .str "room" u0, .int 3 q0⟩, ⟨h1, .str "in" u1, .int 3 q1⟩, ⟨h2, .str "out" u2, .int 3 q2⟩, ⟨h3, .str "open" u3, .int 3 q3⟩, ⟨h4, .str "say" u4, .int 2 q4⟩, ⟨h5, .str "hear" u5, .int 3 q5⟩, ⟨h6, .str "new" u6, .int 3 q6⟩, ⟨h7, .str "again" u7, .int 2 q7⟩]) :
    SizesG K w d := by
  refine ⟨⟨es, n, l, k, low⟩, fun z => ?_⟩
  unfold PySem.W.nsIn
  rw [l]
  dsimp only
  rw [e]
  unfold szV szOf
  by_cases c0 : z = "room"
  · subst c0; rw [find_yes]; exact ⟨_, rfl, ⟨_, rfl⟩⟩
  rw [find_no c0, if_neg c0]
  by_cases c1 : z = "in"
  · subst c1; rw [find_yes]; exact ⟨_, rfl, ⟨_, rfl⟩⟩
  rw [find_no c1, if_neg c1]
  by_cases c2 : z = "out"
  · subst c2; rw [find_yes]; exact ⟨_, rfl, ⟨_, rfl⟩⟩
  rw [find_no c2, if_neg c2]
  by_cases c3 : z = "open"
  · subst c3; rw [find_yes]; exact ⟨_, rfl, ⟨_, rfl⟩⟩
  rw [find_no c3, if_neg c3]
  by_cases c4 : z = "say"
  · subst c4; rw [find_yes]; exact ⟨_, rfl, ⟨_, rfl⟩⟩
  rw [find_no c4, if_neg c4]
  by_cases c5 : z = "hear"
  · subst c5; rw [find_yes]; exact ⟨_, rfl, ⟨_, rfl⟩⟩
  rw [find_no c5, if_neg c5]
  by_cases c6 : z = "new"
  · subst c6; rw [find_yes]; exact ⟨_, rfl, ⟨_, rfl⟩⟩
  rw [find_no c6, if_neg c6]
  by_cases c7 : z = "again"
  · subst c7; rw [find_yes]; exact ⟨_, rfl, ⟨_, rfl⟩⟩
  rw [find_no c7, if_neg c7]
  exact ⟨none, rfl, rfl⟩
end Wk

set_option Elab.async false
set_option linter.all false
set_option maxRecDepth 100000
set_option maxHeartbeats 2000000
namespace K10
open PySem PySem.Spec PyProof.Rows L2 Wk GxR
theorem all_mk {l : PySem.W.OpenLaw} {w : World} {K : PySem.W.Frag} {h : Heap} {mg : Str → Option Value} {fa f1 f2 f3 f4 f5 f6 f7 f8 f9 f10 f11 f12 f13 f14 f15 f16 f17 f18 f19 f20 f21 f22 f23 f24 f25 f26 f27 f28 t1 t2 cc2 T2 cc8 T8 : Addr} (X : K.In h) (G : h.Ns mainGlobals mg) (hfa : mg "law" = some (.ref fa))
    {od1 an1 od2 an2 od3 an3 od4 an4 od5 an5 od6 an6 od7 an7 od8 an8 od9 an9 od10 an10 od11 an11 od12 an12 od13 an13 od14 an14 od15 an15 od16 an16 od17 an17 od18 an18 od19 an19 od20 an20 od21 an21 od22 an22 od23 an23 od24 an24 od25 an25 od26 an26 od27 an27 od28 an28 : Option Addr} {sl1 sl2 sl3 sl4 sl5 sl6 sl7 sl8 sl9 sl10 sl11 sl12 sl13 sl14 sl15 sl16 sl17 sl18 sl19 sl20 sl21 sl22 sl23 sl24 sl25 sl26 sl27 sl28 : Array (Option Value)} {oc1 kV1 dc1 pm1 cd1 ct1 oc2 kV2 dc2 pm2 ct2 oc3 kV3 dc3 pm3 cd3 ct3 oc4 kV4 dc4 pm4 cd4 ct4 oc5 kV5 dc5 pm5 cd5 ct5 oc6 kV6 dc6 pm6 cd6 ct6 oc7 kV7 dc7 pm7 cd7 ct7 oc8 kV8 dc8 pm8 ct8 oc9 kV9 dc9 pm9 cd9 ct9 oc10 kV10 dc10 pm10 cd10 ct10 oc11 kV11 dc11 pm11 cd11 ct11 oc12 kV12 dc12 pm12 cd12 ct12 oc13 kV13 dc13 pm13 cd13 ct13 oc14 kV14 dc14 pm14 cd14 ct14 oc15 kV15 dc15 pm15 cd15 ct15 oc16 kV16 dc16 pm16 cd16 ct16 oc17 kV17 dc17 pm17 cd17 ct17 oc18 kV18 dc18 pm18 cd18 ct18 oc19 kV19 dc19 pm19 cd19 ct19 oc20 kV20 dc20 pm20 cd20 ct20 oc21 kV21 dc21 pm21 cd21 ct21 oc22 kV22 dc22 pm22 cd22 ct22 oc23 kV23 dc23 pm23 cd23 ct23 oc24 kV24 dc24 pm24 cd24 ct24 oc25 kV25 dc25 pm25 cd25 ct25 oc26 kV26 dc26 pm26 cd26 ct26 oc27 kV27 dc27 pm27 cd27 ct27 oc28 kV28 dc28 pm28 cd28 ct28 : Value}
    (a1 : PySem.W.nsIn K mainGlobals "is_name" = some (some (.ref f1)))
    (l1 : K.lookup f1 = some ⟨oc1, od1, .func (PySem.W.fnOf "is_name" "is_name" (defArgs sIsName) (defBody sIsName) (defScope sIsName) .none kV1 dc1 pm1 an1 cd1 ct1), sl1⟩)
    (c1 : PySem.W.codeIn K cd1 "is_name" = true) (k1 : PySem.W.keepIn K (.ref f1) = true)
    (a2 : PySem.W.nsIn K mainGlobals "consists_of" = some (some (.ref f2)))
    (l2 : K.lookup f2 = some ⟨oc2, od2, .func (PySem.W.fnOf "consists_of" "consists_of" (defArgs sCons) (defBody sCons) (defScope sCons) .none kV2 dc2 pm2 an2 (.ref cc2) ct2), sl2⟩)
    (c2 : PySem.W.codeIn K (.ref cc2) "consists_of" = true) (k2 : PySem.W.keepIn K (.ref f2) = true)
    (a3 : PySem.W.nsIn K mainGlobals "has_form" = some (some (.ref f3)))
    (l3 : K.lookup f3 = some ⟨oc3, od3, .func (PySem.W.fnOf "has_form" "has_form" (defArgs sForm) (defBody sForm) (defScope sForm) .none kV3 dc3 pm3 an3 cd3 ct3), sl3⟩)
    (c3 : PySem.W.codeIn K cd3 "has_form" = true) (k3 : PySem.W.keepIn K (.ref f3) = true)
    (a4 : PySem.W.nsIn K mainGlobals "calling_of" = some (some (.ref f4)))
    (l4 : K.lookup f4 = some ⟨oc4, od4, .func (PySem.W.fnOf "calling_of" "calling_of" (defArgs sCalling) (defBody sCalling) (defScope sCalling) .none kV4 dc4 pm4 an4 cd4 ct4), sl4⟩)
    (c4 : PySem.W.codeIn K cd4 "calling_of" = true) (k4 : PySem.W.keepIn K (.ref f4) = true)
    (a5 : PySem.W.nsIn K mainGlobals "rest_of" = some (some (.ref f5)))
    (l5 : K.lookup f5 = some ⟨oc5, od5, .func (PySem.W.fnOf "rest_of" "rest_of" (defArgs sRest) (defBody sRest) (defScope sRest) .none kV5 dc5 pm5 an5 cd5 ct5), sl5⟩)
    (c5 : PySem.W.codeIn K cd5 "rest_of" = true) (k5 : PySem.W.keepIn K (.ref f5) = true)
    (a6 : PySem.W.nsIn K mainGlobals "is_binder" = some (some (.ref f6)))
    (l6 : K.lookup f6 = some ⟨oc6, od6, .func (PySem.W.fnOf "is_binder" "is_binder" (defArgs sBinder) (defBody sBinder) (defScope sBinder) .none kV6 dc6 pm6 an6 cd6 ct6), sl6⟩)
    (c6 : PySem.W.codeIn K cd6 "is_binder" = true) (k6 : PySem.W.keepIn K (.ref f6) = true)
    (a7 : PySem.W.nsIn K mainGlobals "is_house" = some (some (.ref f7)))
    (l7 : K.lookup f7 = some ⟨oc7, od7, .func (PySem.W.fnOf "is_house" "is_house" (defArgs sHouse) (defBody sHouse) (defScope sHouse) .none kV7 dc7 pm7 an7 cd7 ct7), sl7⟩)
    (c7 : PySem.W.codeIn K cd7 "is_house" = true) (k7 : PySem.W.keepIn K (.ref f7) = true)
    (a8 : PySem.W.nsIn K mainGlobals "parts_within" = some (some (.ref f8)))
    (l8 : K.lookup f8 = some ⟨oc8, od8, .func (PySem.W.fnOf "parts_within" "parts_within" (defArgs sWithin) (defBody sWithin) (defScope sWithin) .none kV8 dc8 pm8 an8 (.ref cc8) ct8), sl8⟩)
    (c8 : PySem.W.codeIn K (.ref cc8) "parts_within" = true) (k8 : PySem.W.keepIn K (.ref f8) = true)
    (a9 : PySem.W.nsIn K mainGlobals "is_named_part" = some (some (.ref f9)))
    (l9 : K.lookup f9 = some ⟨oc9, od9, .func (PySem.W.fnOf "is_named_part" "is_named_part" (defArgs sNPart) (defBody sNPart) (defScope sNPart) .none kV9 dc9 pm9 an9 cd9 ct9), sl9⟩)
    (c9 : PySem.W.codeIn K cd9 "is_named_part" = true) (k9 : PySem.W.keepIn K (.ref f9) = true)
    (a10 : PySem.W.nsIn K mainGlobals "callings_of" = some (some (.ref f10)))
    (l10 : K.lookup f10 = some ⟨oc10, od10, .func (PySem.W.fnOf "callings_of" "callings_of" (defArgs sCallings) (defBody sCallings) (defScope sCallings) .none kV10 dc10 pm10 an10 cd10 ct10), sl10⟩)
    (c10 : PySem.W.codeIn K cd10 "callings_of" = true) (k10 : PySem.W.keepIn K (.ref f10) = true)
    (a11 : PySem.W.nsIn K mainGlobals "gather_callings" = some (some (.ref f11)))
    (l11 : K.lookup f11 = some ⟨oc11, od11, .func (PySem.W.fnOf "gather_callings" "gather_callings" (defArgs sGather) (defBody sGather) (defScope sGather) .none kV11 dc11 pm11 an11 cd11 ct11), sl11⟩)
    (c11 : PySem.W.codeIn K cd11 "gather_callings" = true) (k11 : PySem.W.keepIn K (.ref f11) = true)
    (a12 : PySem.W.nsIn K mainGlobals "called" = some (some (.ref f12)))
    (l12 : K.lookup f12 = some ⟨oc12, od12, .func (PySem.W.fnOf "called" "called" (defArgs sCalled) (defBody sCalled) (defScope sCalled) .none kV12 dc12 pm12 an12 cd12 ct12), sl12⟩)
    (c12 : PySem.W.codeIn K cd12 "called" = true) (k12 : PySem.W.keepIn K (.ref f12) = true)
    (a13 : PySem.W.nsIn K mainGlobals "part_called" = some (some (.ref f13)))
    (l13 : K.lookup f13 = some ⟨oc13, od13, .func (PySem.W.fnOf "part_called" "part_called" (defArgs sPCalled) (defBody sPCalled) (defScope sPCalled) .none kV13 dc13 pm13 an13 cd13 ct13), sl13⟩)
    (c13 : PySem.W.codeIn K cd13 "part_called" = true) (k13 : PySem.W.keepIn K (.ref f13) = true)
    (a14 : PySem.W.nsIn K mainGlobals "freed" = some (some (.ref f14)))
    (l14 : K.lookup f14 = some ⟨oc14, od14, .func (PySem.W.fnOf "freed" "freed" (defArgs sFreed) (defBody sFreed) (defScope sFreed) .none kV14 dc14 pm14 an14 cd14 ct14), sl14⟩)
    (c14 : PySem.W.codeIn K cd14 "freed" = true) (k14 : PySem.W.keepIn K (.ref f14) = true)
    (a15 : PySem.W.nsIn K mainGlobals "part_freed" = some (some (.ref f15)))
    (l15 : K.lookup f15 = some ⟨oc15, od15, .func (PySem.W.fnOf "part_freed" "part_freed" (defArgs sPFreed) (defBody sPFreed) (defScope sPFreed) .none kV15 dc15 pm15 an15 cd15 ct15), sl15⟩)
    (c15 : PySem.W.codeIn K cd15 "part_freed" = true) (k15 : PySem.W.keepIn K (.ref f15) = true)
    (a16 : PySem.W.nsIn K mainGlobals "settled" = some (some (.ref f16)))
    (l16 : K.lookup f16 = some ⟨oc16, od16, .func (PySem.W.fnOf "settled" "settled" (defArgs sSettled) (defBody sSettled) (defScope sSettled) .none kV16 dc16 pm16 an16 cd16 ct16), sl16⟩)
    (c16 : PySem.W.codeIn K cd16 "settled" = true) (k16 : PySem.W.keepIn K (.ref f16) = true)
    (a17 : PySem.W.nsIn K mainGlobals "_law_left" = some (some (.ref f17)))
    (l17 : K.lookup f17 = some ⟨oc17, od17, .func (PySem.W.fnOf "_law_left" "_law_left" (defArgs sLeft) (defBody sLeft) (defScope sLeft) .none kV17 dc17 pm17 an17 cd17 ct17), sl17⟩)
    (c17 : PySem.W.codeIn K cd17 "_law_left" = true) (k17 : PySem.W.keepIn K (.ref f17) = true)
    (a18 : PySem.W.nsIn K mainGlobals "_law_digit" = some (some (.ref f18)))
    (l18 : K.lookup f18 = some ⟨oc18, od18, .func (PySem.W.fnOf "_law_digit" "_law_digit" (defArgs sDigit) (defBody sDigit) (defScope sDigit) .none kV18 dc18 pm18 an18 cd18 ct18), sl18⟩)
    (c18 : PySem.W.codeIn K cd18 "_law_digit" = true) (k18 : PySem.W.keepIn K (.ref f18) = true)
    (a19 : PySem.W.nsIn K mainGlobals "_law_names" = some (some (.ref f19)))
    (l19 : K.lookup f19 = some ⟨oc19, od19, .func (PySem.W.fnOf "_law_names" "_law_names" (defArgs sNames) (defBody sNames) (defScope sNames) .none kV19 dc19 pm19 an19 cd19 ct19), sl19⟩)
    (c19 : PySem.W.codeIn K cd19 "_law_names" = true) (k19 : PySem.W.keepIn K (.ref f19) = true)
    (a20 : PySem.W.nsIn K mainGlobals "_law_part" = some (some (.ref f20)))
    (l20 : K.lookup f20 = some ⟨oc20, od20, .func (PySem.W.fnOf "_law_part" "_law_part" (defArgs sPart) (defBody sPart) (defScope sPart) .none kV20 dc20 pm20 an20 cd20 ct20), sl20⟩)
    (c20 : PySem.W.codeIn K cd20 "_law_part" = true) (k20 : PySem.W.keepIn K (.ref f20) = true)
    (a21 : PySem.W.nsIn K mainGlobals "_law_row" = some (some (.ref f21)))
    (l21 : K.lookup f21 = some ⟨oc21, od21, .func (PySem.W.fnOf "_law_row" "_law_row" (defArgs sRow) (defBody sRow) (defScope sRow) .none kV21 dc21 pm21 an21 cd21 ct21), sl21⟩)
    (c21 : PySem.W.codeIn K cd21 "_law_row" = true) (k21 : PySem.W.keepIn K (.ref f21) = true)
    (a22 : PySem.W.nsIn K mainGlobals "_law_called" = some (some (.ref f22)))
    (l22 : K.lookup f22 = some ⟨oc22, od22, .func (PySem.W.fnOf "_law_called" "_law_called" (defArgs sLCalled) (defBody sLCalled) (defScope sLCalled) .none kV22 dc22 pm22 an22 cd22 ct22), sl22⟩)
    (c22 : PySem.W.codeIn K cd22 "_law_called" = true) (k22 : PySem.W.keepIn K (.ref f22) = true)
    (a23 : PySem.W.nsIn K mainGlobals "_law_freed" = some (some (.ref f23)))
    (l23 : K.lookup f23 = some ⟨oc23, od23, .func (PySem.W.fnOf "_law_freed" "_law_freed" (defArgs sLFreed) (defBody sLFreed) (defScope sLFreed) .none kV23 dc23 pm23 an23 cd23 ct23), sl23⟩)
    (c23 : PySem.W.codeIn K cd23 "_law_freed" = true) (k23 : PySem.W.keepIn K (.ref f23) = true)
    (a24 : PySem.W.nsIn K mainGlobals "_law_refused" = some (some (.ref f24)))
    (l24 : K.lookup f24 = some ⟨oc24, od24, .func (PySem.W.fnOf "_law_refused" "_law_refused" (defArgs sRefused) (defBody sRefused) (defScope sRefused) .none kV24 dc24 pm24 an24 cd24 ct24), sl24⟩)
    (c24 : PySem.W.codeIn K cd24 "_law_refused" = true) (k24 : PySem.W.keepIn K (.ref f24) = true)
    (a25 : PySem.W.nsIn K mainGlobals "_law_deep_row" = some (some (.ref f25)))
    (l25 : K.lookup f25 = some ⟨oc25, od25, .func (PySem.W.fnOf "_law_deep_row" "_law_deep_row" (defArgs sDeepRow) (defBody sDeepRow) (defScope sDeepRow) .none kV25 dc25 pm25 an25 cd25 ct25), sl25⟩)
    (c25 : PySem.W.codeIn K cd25 "_law_deep_row" = true) (k25 : PySem.W.keepIn K (.ref f25) = true)
    (a26 : PySem.W.nsIn K mainGlobals "begins_with_word" = some (some (.ref f26)))
    (l26 : K.lookup f26 = some ⟨oc26, od26, .func (PySem.W.fnOf "begins_with_word" "begins_with_word" (defArgs sBegins) (defBody sBegins) (defScope sBegins) .none kV26 dc26 pm26 an26 cd26 ct26), sl26⟩)
    (c26 : PySem.W.codeIn K cd26 "begins_with_word" = true) (k26 : PySem.W.keepIn K (.ref f26) = true)
    (a27 : PySem.W.nsIn K mainGlobals "binds_well" = some (some (.ref f27)))
    (l27 : K.lookup f27 = some ⟨oc27, od27, .func (PySem.W.fnOf "binds_well" "binds_well" (defArgs sBinds) (defBody sBinds) (defScope sBinds) .none kV27 dc27 pm27 an27 cd27 ct27), sl27⟩)
    (c27 : PySem.W.codeIn K cd27 "binds_well" = true) (k27 : PySem.W.keepIn K (.ref f27) = true)
    (a28 : PySem.W.nsIn K mainGlobals "law" = some (some (.ref f28)))
    (l28 : K.lookup f28 = some ⟨oc28, od28, .func (PySem.W.fnOf "law" "law" (defArgs sLaw) (defBody sLaw) (defScope sLaw) .none kV28 dc28 pm28 an28 cd28 ct28), sl28⟩)
    (c28 : PySem.W.codeIn K cd28 "law" = true) (k28 : PySem.W.keepIn K (.ref f28) = true)
    (z1 : PySem.W.nsIn K mainGlobals "abs" = some none)
    (z2 : PySem.W.nsIn K mainGlobals "range" = some none)
    (z3 : PySem.W.nsIn K mainGlobals "len" = some none)
    (z4 : PySem.W.nsIn K mainGlobals "int" = some none)
    (z5 : PySem.W.nsIn K mainGlobals "tuple" = some none)
    (z6 : PySem.W.nsIn K mainGlobals "list" = some none)
    (z7 : PySem.W.nsIn K mainGlobals "isinstance" = some none)
    (z8 : PySem.W.nsIn K mainGlobals "bool" = some none)
    (z9 : PySem.W.nsIn K mainGlobals "sum" = some none)
    (z10 : PySem.W.nsIn K mainGlobals "all" = some none)
    (z11 : PySem.W.nsIn K mainGlobals "set" = some none)
    (z12 : PySem.W.nsIn K mainGlobals "str" = some none)
    (z13 : PySem.W.nsIn K mainGlobals "ValueError" = some none)
    {u1_0 u1_1 : Tok} {dd1 : Option Addr} {nn1 : Nat} {sl_1 : Array (Option Value)} (y1 : PySem.W.nsIn K mainGlobals "BINDING_WORDS" = some (some (.ref t1)))
    (x1 : K.lookup t1 = some ⟨.type "tuple", dd1, .seq #[.str "hear" u1_0, .str "new" u1_1] nn1, sl_1⟩)
    {u2_0 u2_1 u2_2 u2_3 : Tok} {dd2 : Option Addr} {nn2 : Nat} {sl_2 : Array (Option Value)} (y2 : PySem.W.nsIn K mainGlobals "TAKEN_WORDS" = some (some (.ref t2)))
    (x2 : K.lookup t2 = some ⟨.type "tuple", dd2, .seq #[.str "in" u2_0, .str "out" u2_1, .str "open" u2_2, .str "new" u2_3] nn2, sl_2⟩)
    {tk1 : Tok} (r1 : PySem.W.nsIn K mainGlobals "LETTERS" = some (some (.str abc tk1)))
    {tk2 : Tok} (r2 : PySem.W.nsIn K mainGlobals "MOST_SIGNS" = some (some (.int 6 tk2)))
    {tk3 : Tok} (r3 : PySem.W.nsIn K mainGlobals "MOST_PARTS" = some (some (.int 400 tk3)))
    {tk4 : Tok} (r4 : PySem.W.nsIn K mainGlobals "MOST_DEEP" = some (some (.int 24 tk4)))
    {dS : Addr} {esS : Array DictEntry} {nS : Nat} {hh0 hh1 hh2 hh3 hh4 hh5 hh6 hh7 : Int} {uu0 qq0 uu1 qq1 uu2 qq2 uu3 qq3 uu4 qq4 uu5 qq5 uu6 qq6 uu7 qq7 : Tok}
    (sz0 : PySem.W.nsIn K mainGlobals "SIZES" = some (some (.ref dS))) (sz1 : K.lookup dS = some ⟨.type "dict", none, .dict esS nS, #[]⟩)
    (sz2 : PySem.W.KeysLit w.params esS.toList) (sz3 : (dS == sysModules) = false)
    (sz4 : esS.toList = [⟨hh0, .str "room" uu0, .int 3 qq0⟩, ⟨hh1, .str "in" uu1, .int 3 qq1⟩, ⟨hh2, .str "out" uu2, .int 3 qq2⟩, ⟨hh3, .str "open" uu3, .int 3 qq3⟩, ⟨hh4, .str "say" uu4, .int 2 qq4⟩, ⟨hh5, .str "hear" uu5, .int 3 qq5⟩, ⟨hh6, .str "new" uu6, .int 3 qq6⟩, ⟨hh7, .str "again" uu7, .int 2 qq7⟩])
    {CN CR cc_0 cc_1 cc_2 cc_3 cc_4 cc_5 cc_6 : Addr}
    (en0 : PySem.W.nsIn K mainGlobals "NoHouse" = some (some (.ref CN))) (en1 : PySem.W.keepIn K (.ref CN) = true) (en2 : PySem.W.subIn K (.ref CN) (.type "BaseException") = some true) (en3 : PySem.W.typeIn K (.ref CN) = some (.type "type"))
    (en4 : PySem.W.excIn K CN [.type "ValueError", .type "Exception", .type "BaseException", .type "object"] "ValueError.__new__" = true)
    (er0 : PySem.W.nsIn K mainGlobals "RoomError" = some (some (.ref CR))) (er1 : PySem.W.exmOne K (.ref CN) (.ref CR) = some true)
    (ec1 : PySem.W.findIn K (.ref CN) "__getattribute__" = some (some (.builtin "BaseException.__getattribute__"))) (ec2 : PySem.W.findIn K (.ref CN) "__getattr__" = some none) (ec3 : PySem.W.hasDictIn K CN = true)
    (ec4 : PySem.W.findIn K (.ref CN) "__class__" = some (some (.builtin "object.__class__"))) (ec5 : PySem.W.specialIn K (.builtin "object.__class__") "__get__" = some (some (.builtin "getset_descriptor.__get__")))
    (ec6 : PySem.W.takesIn K (.builtin "object.__class__") = some true) (ec7 : PySem.W.mroIn K CN (.type "object") = some true)
    (eo0 : PySem.W.nsIn K mainGlobals "Again" = some (some (.ref cc_0))) (ek0 : PySem.W.kitOne K (.ref CN) (.ref cc_0) = some false)
    (eo1 : PySem.W.nsIn K mainGlobals "NoName" = some (some (.ref cc_1))) (ek1 : PySem.W.kitOne K (.ref CN) (.ref cc_1) = some false)
    (eo2 : PySem.W.nsIn K mainGlobals "NoRow" = some (some (.ref cc_2))) (ek2 : PySem.W.kitOne K (.ref CN) (.ref cc_2) = some false)
    (eo3 : PySem.W.nsIn K mainGlobals "NoStep" = some (some (.ref cc_3))) (ek3 : PySem.W.kitOne K (.ref CN) (.ref cc_3) = some false)
    (eo4 : PySem.W.nsIn K mainGlobals "NoText" = some (some (.ref cc_4))) (ek4 : PySem.W.kitOne K (.ref CN) (.ref cc_4) = some false)
    (eo5 : PySem.W.nsIn K mainGlobals "Nothing" = some (some (.ref cc_5))) (ek5 : PySem.W.kitOne K (.ref CN) (.ref cc_5) = some false)
    (eo6 : PySem.W.nsIn K mainGlobals "TooMany" = some (some (.ref cc_6))) (ek6 : PySem.W.kitOne K (.ref CN) (.ref cc_6) = some false)
    (ekN : PySem.W.kitOne K (.ref CN) (.ref CN) = some true) (ekV : PySem.W.kitOne K (.ref CN) (.type "ValueError") = some true)
    {occ2 : Value} {odc2 : Option Addr} {vs2 : Array Value} {slc2 : Array (Option Value)} (lc2 : K.lookup cc2 = some ⟨occ2, odc2, .fields vs2, slc2⟩) (hv2 : vs2[11]? = some (.ref T2)) (tN2 : K.lookup T2 = none)
    (tb2 : PySem.W.tabIn K "consists_of" = some (cc2, T2) → PySem.W.CodeHd h cc2 T2 ∧ h.get? T2 = some { cls := .none, data := .fields #[] })
    {occ8 : Value} {odc8 : Option Addr} {vs8 : Array Value} {slc8 : Array (Option Value)} (lc8 : K.lookup cc8 = some ⟨occ8, odc8, .fields vs8, slc8⟩) (hv8 : vs8[11]? = some (.ref T8)) (tN8 : K.lookup T8 = none)
    (tb8 : PySem.W.tabIn K "parts_within" = some (cc8, T8) → PySem.W.CodeHd h cc8 T8 ∧ h.get? T8 = some { cls := .none, data := .fields #[] })
    : LamX.LawAtS l w K CX0 31 63 "_law_script" mg fa h := by
  have e := hfa.symm.trans (PySem.W.mg_of X G a28)
  cases e
  have F1 := fun_mk (st := sIsName) l1 c1 k1
  have g1 := PySem.W.mg_of X G a1
  have b1 := F1.binds (ps := ["thing"]) fun _ _ _ _ _ _ us hl => match us, hl with | [_], _ => rfl
  have E2 := funC_mk (st := sCons) l2 c2 k2
  have F2 := E2.fn
  have g2 := PySem.W.mg_of X G a2
  have b2 := F2.binds (ps := ["text", "signs"]) fun _ _ _ _ _ _ us hl => match us, hl with | [_, _], _ => rfl
  have F3 := fun_mk (st := sForm) l3 c3 k3
  have g3 := PySem.W.mg_of X G a3
  have b3 := F3.binds (ps := ["thing"]) fun _ _ _ _ _ _ us hl => match us, hl with | [_], _ => rfl
  have F4 := fun_mk (st := sCalling) l4 c4 k4
  have g4 := PySem.W.mg_of X G a4
  have b4 := F4.binds (ps := ["part"]) fun _ _ _ _ _ _ us hl => match us, hl with | [_], _ => rfl
  have F5 := fun_mk (st := sRest) l5 c5 k5
  have g5 := PySem.W.mg_of X G a5
  have b5 := F5.binds (ps := ["part"]) fun _ _ _ _ _ _ us hl => match us, hl with | [_], _ => rfl
  have F6 := fun_mk (st := sBinder) l6 c6 k6
  have g6 := PySem.W.mg_of X G a6
  have b6 := F6.binds (ps := ["part"]) fun _ _ _ _ _ _ us hl => match us, hl with | [_], _ => rfl
  have F7 := fun_mk (st := sHouse) l7 c7 k7
  have g7 := PySem.W.mg_of X G a7
  have b7 := F7.binds (ps := ["thing"]) fun _ _ _ _ _ _ us hl => match us, hl with | [_], _ => rfl
  have E8 := funC_mk (st := sWithin) l8 c8 k8
  have F8 := E8.fn
  have g8 := PySem.W.mg_of X G a8
  have b8 := F8.binds (ps := ["thing", "most_parts", "most_deep", "is_part", "rest"]) fun _ _ _ _ _ _ us hl => match us, hl with | [_, _, _, _, _], _ => rfl
  have F9 := fun_mk (st := sNPart) l9 c9 k9
  have g9 := PySem.W.mg_of X G a9
  have b9 := F9.binds (ps := ["thing"]) fun _ _ _ _ _ _ us hl => match us, hl with | [_], _ => rfl
  have F10 := fun_mk (st := sCallings) l10 c10 k10
  have g10 := PySem.W.mg_of X G a10
  have b10 := F10.binds (ps := ["row"]) fun _ _ _ _ _ _ us hl => match us, hl with | [_], _ => rfl
  have F11 := fun_mk (st := sGather) l11 c11 k11
  have g11 := PySem.W.mg_of X G a11
  have b11 := F11.binds (ps := ["row", "around", "free", "bound"]) fun _ _ _ _ _ _ us hl => match us, hl with | [_, _, _, _], _ => rfl
  have F12 := fun_mk (st := sCalled) l12 c12 k12
  have g12 := PySem.W.mg_of X G a12
  have b12 := F12.binds (ps := ["row", "x", "calling"]) fun _ _ _ _ _ _ us hl => match us, hl with | [_, _, _], _ => rfl
  have F13 := fun_mk (st := sPCalled) l13 c13 k13
  have g13 := PySem.W.mg_of X G a13
  have b13 := F13.binds (ps := ["part", "x", "calling"]) fun _ _ _ _ _ _ us hl => match us, hl with | [_, _, _], _ => rfl
  have F14 := fun_mk (st := sFreed) l14 c14 k14
  have g14 := PySem.W.mg_of X G a14
  have b14 := F14.binds (ps := ["number", "row"]) fun _ _ _ _ _ _ us hl => match us, hl with | [_, _], _ => rfl
  have F15 := fun_mk (st := sPFreed) l15 c15 k15
  have g15 := PySem.W.mg_of X G a15
  have b15 := F15.binds (ps := ["number", "part"]) fun _ _ _ _ _ _ us hl => match us, hl with | [_, _], _ => rfl
  have F16 := fun_mk (st := sSettled) l16 c16 k16
  have g16 := PySem.W.mg_of X G a16
  have b16 := F16.binds (ps := ["house"]) fun _ _ _ _ _ _ us hl => match us, hl with | [_], _ => rfl
  have F17 := fun_mk (st := sLeft) l17 c17 k17
  have g17 := PySem.W.mg_of X G a17
  have b17 := F17.binds (ps := ["_law_cell"]) fun _ _ _ _ _ _ us hl => match us, hl with | [_], _ => rfl
  have F18 := fun_mk (st := sDigit) l18 c18 k18
  have g18 := PySem.W.mg_of X G a18
  have b18 := F18.binds (ps := ["_law_left_here", "_law_many"]) fun _ _ _ _ _ _ us hl => match us, hl with | [_, _], _ => rfl
  have F19 := fun_mk (st := sNames) l19 c19 k19
  have g19 := PySem.W.mg_of X G a19
  have b19 := F19.binds (ps := ["_law_left_here", "_law_many"]) fun _ _ _ _ _ _ us hl => match us, hl with | [_, _], _ => rfl
  have F20 := fun_mk (st := sPart) l20 c20 k20
  have g20 := PySem.W.mg_of X G a20
  have b20 := F20.binds (ps := ["_law_left_here", "_law_room", "_law_scope", "_law_spare"]) fun _ _ _ _ _ _ us hl => match us, hl with | [_, _, _, _], _ => rfl
  have F21 := fun_mk (st := sRow) l21 c21 k21
  have g21 := PySem.W.mg_of X G a21
  have b21 := F21.binds (ps := ["_law_left_here", "_law_room", "_law_scope", "_law_spare"]) fun _ _ _ _ _ _ us hl => match us, hl with | [_, _, _, _], _ => rfl
  have F22 := fun_mk (st := sLCalled) l22 c22 k22
  have g22 := PySem.W.mg_of X G a22
  have b22 := F22.binds (ps := ["_law_row_here", "_law_x", "_law_calling"]) fun _ _ _ _ _ _ us hl => match us, hl with | [_, _, _], _ => rfl
  have F23 := fun_mk (st := sLFreed) l23 c23 k23
  have g23 := PySem.W.mg_of X G a23
  have b23 := F23.binds (ps := ["_law_number", "_law_row_here"]) fun _ _ _ _ _ _ us hl => match us, hl with | [_, _], _ => rfl
  have F24 := fun_mk (st := sRefused) l24 c24 k24
  have g24 := PySem.W.mg_of X G a24
  have b24 := F24.binds (ps := ["_law_thing"]) fun _ _ _ _ _ _ us hl => match us, hl with | [_], _ => rfl
  have F25 := fun_mk (st := sDeepRow) l25 c25 k25
  have g25 := PySem.W.mg_of X G a25
  have b25 := F25.binds (ps := ["_law_many"]) fun _ _ _ _ _ _ us hl => match us, hl with | [_], _ => rfl
  have F26 := fun_mk (st := sBegins) l26 c26 k26
  have g26 := PySem.W.mg_of X G a26
  have b26 := F26.binds (ps := ["thing"]) fun _ _ _ _ _ _ us hl => match us, hl with | [_], _ => rfl
  have F27 := fun_mk (st := sBinds) l27 c27 k27
  have g27 := PySem.W.mg_of X G a27
  have b27 := F27.binds (ps := ["free", "bound"]) fun _ _ _ _ _ _ us hl => match us, hl with | [_, _], _ => rfl
  have F28 := fun_mk (st := sLaw) l28 c28 k28
  have g28 := PySem.W.mg_of X G a28
  have n1 := PySem.W.mg_none_of X G z1
  have n2 := PySem.W.mg_none_of X G z2
  have n3 := PySem.W.mg_none_of X G z3
  have n4 := PySem.W.mg_none_of X G z4
  have n5 := PySem.W.mg_none_of X G z5
  have n6 := PySem.W.mg_none_of X G z6
  have n7 := PySem.W.mg_none_of X G z7
  have n8 := PySem.W.mg_none_of X G z8
  have n9 := PySem.W.mg_none_of X G z9
  have n10 := PySem.W.mg_none_of X G z10
  have n11 := PySem.W.mg_none_of X G z11
  have n12 := PySem.W.mg_none_of X G z12
  have n13 := PySem.W.mg_none_of X G z13
  have v1 := PySem.W.mg_of X G y1
  have U1 : ∀ H, SqT K H t1 [.str "hear", .str "new"] := fun H => .inr ⟨_, _, _, x1, rfl, rfl, (show 2 ≤ sizeLine by decide), (.cons ⟨_, rfl⟩ (.cons ⟨_, rfl⟩ .nil))⟩
  have v2 := PySem.W.mg_of X G y2
  have U2 : ∀ H, SqT K H t2 [.str "in", .str "out", .str "open", .str "new"] := fun H => .inr ⟨_, _, _, x2, rfl, rfl, (show 4 ≤ sizeLine by decide), (.cons ⟨_, rfl⟩ (.cons ⟨_, rfl⟩ (.cons ⟨_, rfl⟩ (.cons ⟨_, rfl⟩ .nil))))⟩
  have o1 := PySem.W.mg_of X G r1
  have o2 := PySem.W.mg_of X G r2
  have o3 := PySem.W.mg_of X G r3
  have o4 := PySem.W.mg_of X G r4
  obtain ⟨tC2, tT2⟩ := tb2 (tab_in a2 l2 rfl lc2 hv2)
  obtain ⟨tC8, tT8⟩ := tb8 (tab_in a8 l8 rfl lc8 hv8)
  refine ⟨PySem.W.fnOf "law" "law" (defArgs sLaw) (defBody sLaw) (defScope sLaw) .none kV28 dc28 pm28 an28 cd28 ct28, [(cc2, T2), (cc8, T8)], spLaw K [T2, T8], fun p hp => ?_, fun p hp => ?_, fun p hp => ?_, fun s u => .of_eq rfl, fun H a ns hl hb hH hS => ?_, fun base KB NB TB => ?_⟩
  · simp only [List.mem_cons, List.not_mem_nil, or_false] at hp
    rcases hp with hp | hp
    · rw [hp]; exact tT2
    · rw [hp]; exact tT8
  · simp only [List.mem_cons, List.not_mem_nil, or_false] at hp
    rcases hp with hp | hp
    · rw [hp]; exact tN2
    · rw [hp]; exact tN8
  · simp only [List.mem_cons, List.not_mem_nil, or_false] at hp
    rcases hp with hp | hp
    · rw [hp]; exact tC2
    · rw [hp]; exact tC8
  · refine ⟨a, ns, rfl, hS, hl, fun T h => ?_, fun _ => rfl⟩
    simp only [List.mem_cons, List.not_mem_nil, or_false] at h
    rcases h with h | h
    · rw [h]; exact ⟨#[], hH (cc2, T2) (by simp), True.intro⟩
    · rw [h]; exact ⟨#[], hH (cc8, T8) (by simp), True.intro⟩
  · have tb_2 := TB (cc2, T2) (by simp)
    have B2 : GxR.TabB base mg cc2 T2 := ⟨tb_2.code, tb_2.bm, tb_2.gP⟩
    have tb_8 := TB (cc8, T8) (by simp)
    have B8 : GxR.TabB base mg cc8 T8 := ⟨tb_8.code, tb_8.bm, tb_8.gP⟩
    have mSz := PySem.W.mg_of X G sz0
    have hSz : SizesG K w dS := sizesG_of sz1 sz2 sz3 sz4
    have m2 : T2 ∈ [T2, T8] := by simp
    have m8 : T8 ∈ [T2, T8] := by simp
    have G2 := ok_cons (P := l.prog) (w := w) (k := 0) l2 c2 B2 m2 n3 n10 o2
    have G1 := ok_name (P := l.prog) (w := w) F1 G2 b2 k2 g2 n7 n12 v2 U2 o1
    have G4 := ok_calling (P := l.prog) (w := w) (mg := mg) (base := base) (k := 0) F4
    have G5 := ok_rest (P := l.prog) (w := w) (mg := mg) (base := base) (k := 0) F5
    have G6 := ok_binder (P := l.prog) (w := w) (base := base) (k := 0) F6 v1 U1
    have G26 := ok_begins (P := l.prog) (w := w) (base := base) (k := 0) F26 n7 n5 n12 n3
    have G3 := ok_formG (P := l.prog) (w := w) (base := base) (k := 1) F3 n3 mSz hSz G26 b26 k26 g26
    have G4g := ok_callingG (P := l.prog) (w := w) (mg := mg) (base := base) (k := 0) F4
    have G5g := ok_restG (P := l.prog) (w := w) (mg := mg) (base := base) (k := 0) F5
    have G9 := ok_npartG (P := l.prog) (w := w) F9 G3 b3 k3 g3 G4g b4 k4 g4 G1 b1 k1 g1
    have G8 := ok_within (P := l.prog) (w := w) E8 B8 m8 G9 b9 k9 G5g b5 k5 n7 n5 n3 n10 n9 n2
    have G27 := ok_binds (P := l.prog) (w := w) (base := base) (Ts := [T2, T8]) (k := 0) F27 n3 n11
    have G11b := gather_ok (P := l.prog) (w := w) F11 G4 b4 k4 g4 G6 b6 k6 g6 G5 b5 k5 g5 b11 g11 25
    have G10b := ok_callings (P := l.prog) (w := w) F10 G11b b11 k11 g11
    have G7g := ok_houseG (P := l.prog) (w := w) F7 o4 o3 g9 g5 G8 b8 k8 g8 G27 b27 k27 g27 G10b b10 k10 g10
  
    have G12 := called_ok (P := l.prog) (w := w) F13 F12 G6 b6 k6 g6 n5 b12 g12 b13 g13 6
    have G14 := freed_ok (P := l.prog) (w := w) F14 F15 n5 b14 g14 b15 g15 G12 b12 k12 g12 6 (by decide)
    have gN := PySem.W.mg_of X G en0
    have gR := PySem.W.mg_of X G er0
    have EC : ExcC K CN := ⟨ec1, ec2, en2, ec3, ec4, ec5, ec6, ec7⟩
    have G16 := ok_settledX (P := l.prog) (w := w) F16 ⟨gN, en1, en2, en3⟩ en4 G7g b7 k7 g7 (FnOk.mono G14 (by decide)) b14 k14 g14
    have G17 := ok_left (P := l.prog) (w := w) (base := base) (k := 0) F17 n1 n2
    have G18 := ok_digit (P := l.prog) (w := w) (mg := mg) (base := base) (k := 0) F18
    have G19 := ok_names (P := l.prog) (w := w) F19 G18 b18 k18 g18 n2
    have G21 := rows_ok (P := l.prog) (w := w) F20 F21 G18 b18 k18 g18 n3 n4 n5 n2 b21 g21 b20 g20 5
    have G22 := lcalled_ok (P := l.prog) (w := w) (base := base) F22 n6 n5 b22 g22 6
    have G23 := lfreed_ok (P := l.prog) (w := w) F23 n5 n12 b23 g23 G22 b22 k22 g22 6 (by decide)
    have G24 := ok_refused (P := l.prog) (w := w) F24 n7 n13 G16 b16 k16 g16 gN gR er1 EC (PySem.W.mg_of X G eo0) (PySem.W.mg_of X G eo1) (PySem.W.mg_of X G eo2) (PySem.W.mg_of X G eo3) (PySem.W.mg_of X G eo4) (PySem.W.mg_of X G eo5) (PySem.W.mg_of X G eo6) ek0 ek1 ek2 ek3 ek4 ek5 ek6 ekN ekV
    have G25 := ok_deepRow (P := l.prog) (w := w) (base := base) (k := 0) F25 n2
    exact ok_law (P := l.prog) (w := w) F28 G17 b17 k17 g17 G19 b19 k19 g19 G21 b21 k21 g21 G16 b16 k16 g16 G23 b23 k23 g23 G24 b24 k24 g24 G25 b25 k25 g25 n2 n7 n5 n8 n6
end K10
open PySem PySem.W PyProof.Rows
set_option maxRecDepth 100000 in
set_option maxHeartbeats 0 in
theorem PySem.Challenge.cw_walkrooms_k10_houses_settled_holds : PySem.Challenge.rw_walkrooms_k10_houses_settled.Holds := by
  w_on; o_law; k_head; (case hw => w_witness2)
  k_fill
  refine Wk.walk_tab (l := PySem.Challenge.rw_walkrooms_k10_houses_settled) (n := 63) (k := 31) (x := "_law_script") rfl (by decide) rfl ⟨rfl, by decide, by decide⟩ (fun w h Y => PySem.W.kIn_of Y) ?F
  case F =>
    intro w mg fa h KX G hmg tabs
    refine' K10.all_mk KX G hmg ?a1 ?l1 ?c1 ?k1 ?a2 ?l2 ?c2 ?k2 ?a3 ?l3 ?c3 ?k3 ?a4 ?l4 ?c4 ?k4 ?a5 ?l5 ?c5 ?k5 ?a6 ?l6 ?c6 ?k6 ?a7 ?l7 ?c7 ?k7 ?a8 ?l8 ?c8 ?k8 ?a9 ?l9 ?c9 ?k9 ?a10 ?l10 ?c10 ?k10 ?a11 ?l11 ?c11 ?k11 ?a12 ?l12 ?c12 ?k12 ?a13 ?l13 ?c13 ?k13 ?a14 ?l14 ?c14 ?k14 ?a15 ?l15 ?c15 ?k15 ?a16 ?l16 ?c16 ?k16 ?a17 ?l17 ?c17 ?k17 ?a18 ?l18 ?c18 ?k18 ?a19 ?l19 ?c19 ?k19 ?a20 ?l20 ?c20 ?k20 ?a21 ?l21 ?c21 ?k21 ?a22 ?l22 ?c22 ?k22 ?a23 ?l23 ?c23 ?k23 ?a24 ?l24 ?c24 ?k24 ?a25 ?l25 ?c25 ?k25 ?a26 ?l26 ?c26 ?k26 ?a27 ?l27 ?c27 ?k27 ?a28 ?l28 ?c28 ?k28 ?z1 ?z2 ?z3 ?z4 ?z5 ?z6 ?z7 ?z8 ?z9 ?z10 ?z11 ?z12 ?z13 ?y1 ?x1 ?y2 ?x2 ?r1 ?r2 ?r3 ?r4 ?sz0 ?sz1 ?sz2 ?sz3 ?sz4 ?en0 ?en1 ?en2 ?en3 ?en4 ?er0 ?er1 ?ec1 ?ec2 ?ec3 ?ec4 ?ec5 ?ec6 ?ec7 ?eo0 ?ek0 ?eo1 ?ek1 ?eo2 ?ek2 ?eo3 ?ek3 ?eo4 ?ek4 ?eo5 ?ek5 ?eo6 ?ek6 ?ekN ?ekV ?lc2 ?hv2 ?tN2 (fun ht => tabs "consists_of" _ _ _ rfl ht) ?lc8 ?hv8 ?tN8 (fun ht => tabs "parts_within" _ _ _ rfl ht)
    (case a1 => k_is)
    (case l1 => k_is)
    (case c1 => k_is)
    (case k1 => k_is)
    (case a2 => k_is)
    (case l2 => k_is)
    (case c2 => k_is)
    (case k2 => k_is)
    (case a3 => k_is)
    (case l3 => k_is)
    (case c3 => k_is)
    (case k3 => k_is)
    (case a4 => k_is)
    (case l4 => k_is)
    (case c4 => k_is)
    (case k4 => k_is)
    (case a5 => k_is)
    (case l5 => k_is)
    (case c5 => k_is)
    (case k5 => k_is)
    (case a6 => k_is)
    (case l6 => k_is)
    (case c6 => k_is)
    (case k6 => k_is)
    (case a7 => k_is)
    (case l7 => k_is)
    (case c7 => k_is)
    (case k7 => k_is)
    (case a8 => k_is)
    (case l8 => k_is)
    (case c8 => k_is)
    (case k8 => k_is)
    (case a9 => k_is)
    (case l9 => k_is)
    (case c9 => k_is)
    (case k9 => k_is)
    (case a10 => k_is)
    (case l10 => k_is)
    (case c10 => k_is)
    (case k10 => k_is)
    (case a11 => k_is)
    (case l11 => k_is)
    (case c11 => k_is)
    (case k11 => k_is)
    (case a12 => k_is)
    (case l12 => k_is)
    (case c12 => k_is)
    (case k12 => k_is)
    (case a13 => k_is)
    (case l13 => k_is)
    (case c13 => k_is)
    (case k13 => k_is)
    (case a14 => k_is)
    (case l14 => k_is)
    (case c14 => k_is)
    (case k14 => k_is)
    (case a15 => k_is)
    (case l15 => k_is)
    (case c15 => k_is)
    (case k15 => k_is)
    (case a16 => k_is)
    (case l16 => k_is)
    (case c16 => k_is)
    (case k16 => k_is)
    (case a17 => k_is)
    (case l17 => k_is)
    (case c17 => k_is)
    (case k17 => k_is)
    (case a18 => k_is)
    (case l18 => k_is)
    (case c18 => k_is)
    (case k18 => k_is)
    (case a19 => k_is)
    (case l19 => k_is)
    (case c19 => k_is)
    (case k19 => k_is)
    (case a20 => k_is)
    (case l20 => k_is)
    (case c20 => k_is)
    (case k20 => k_is)
    (case a21 => k_is)
    (case l21 => k_is)
    (case c21 => k_is)
    (case k21 => k_is)
    (case a22 => k_is)
    (case l22 => k_is)
    (case c22 => k_is)
    (case k22 => k_is)
    (case a23 => k_is)
    (case l23 => k_is)
    (case c23 => k_is)
    (case k23 => k_is)
    (case a24 => k_is)
    (case l24 => k_is)
    (case c24 => k_is)
    (case k24 => k_is)
    (case a25 => k_is)
    (case l25 => k_is)
    (case c25 => k_is)
    (case k25 => k_is)
    (case a26 => k_is)
    (case l26 => k_is)
    (case c26 => k_is)
    (case k26 => k_is)
    (case a27 => k_is)
    (case l27 => k_is)
    (case c27 => k_is)
    (case k27 => k_is)
    (case a28 => k_is)
    (case l28 => k_is)
    (case c28 => k_is)
    (case k28 => k_is)
    (case z1 => k_is)
    (case z2 => k_is)
    (case z3 => k_is)
    (case z4 => k_is)
    (case z5 => k_is)
    (case z6 => k_is)
    (case z7 => k_is)
    (case z8 => k_is)
    (case z9 => k_is)
    (case z10 => k_is)
    (case z11 => k_is)
    (case z12 => k_is)
    (case z13 => k_is)
    (case y1 => k_is)
    (case x1 => k_is)
    (case y2 => k_is)
    (case x2 => k_is)
    (case r1 => k_is)
    (case r2 => k_is)
    (case r3 => k_is)
    (case r4 => k_is)
    (case sz0 => k_is)
    (case sz1 => k_is)
    (case sz2 => exact ⟨⟨_, _, rfl, rfl⟩, ⟨_, _, rfl, rfl⟩, ⟨_, _, rfl, rfl⟩, ⟨_, _, rfl, rfl⟩, ⟨_, _, rfl, rfl⟩, ⟨_, _, rfl, rfl⟩, ⟨_, _, rfl, rfl⟩, ⟨_, _, rfl, rfl⟩, trivial⟩)
    (case sz3 => rfl)
    (case sz4 => rfl)
    (case en0 => k_is)
    (case en1 => k_is)
    (case en2 => k_is)
    (case en3 => k_is)
    (case en4 => k_exc)
    (case er0 => k_is)
    (case er1 => first | rfl | k_is)
    (case ec1 => k_is)
    (case ec2 => k_is)
    (case ec3 => k_is)
    (case ec4 => k_is)
    (case ec5 => first | rfl | k_is)
    (case ec6 => first | rfl | k_is)
    (case ec7 => k_is)
    (case eo0 => k_is)
    (case ek0 => first | rfl | k_is)
    (case eo1 => k_is)
    (case ek1 => first | rfl | k_is)
    (case eo2 => k_is)
    (case ek2 => first | rfl | k_is)
    (case eo3 => k_is)
    (case ek3 => first | rfl | k_is)
    (case eo4 => k_is)
    (case ek4 => first | rfl | k_is)
    (case eo5 => k_is)
    (case ek5 => first | rfl | k_is)
    (case eo6 => k_is)
    (case ek6 => first | rfl | k_is)
    (case ekN => first | rfl | k_is)
    (case ekV => first | rfl | k_is)
    (case lc2 => k_is)
    (case hv2 => rfl)
    (case tN2 => rfl)
    (case lc8 => k_is)
    (case hv8 => rfl)
    (case tN8 => rfl)
