import PyProof.Rows.All
import Wide.All
import OpenK.AllK
import Wide.FinOn
import HandS.ForMost
import HandS.IsInst
import HandS.Walk
import HandS.Codes
import HandS.EndTab
import KE.KxText
import HandS.AnyAll
import HandS.GenBody
import HandS.SetTxt0
import HandS.SetFor
import HandS.Strs
import HandS.More
import PyProof.AutoSeq1
import HandS.FStr
import HandS.SortOrd
import HandS.SortRule
import HandS.NamedTupSort
import HandS.CallLocal
import HandS.Star
import KE.KSortTup
import PyProof.Rows.SortKeyStr
import PyProof.Rows.InDataRows
import HandS.Zip0
import HandS.Iter
import PyProof.Draws
import PyProof.EnumMake
import HandS.TupAny
import HandS.TupMul
import HandS.SortKw
import PyProof.Examples.SiftDownOps
import HandS.StrMore
import KE.KIntText
import PySem.Challenge.RW_walkrooms_k19_steps_told
set_option Elab.async false
set_option linter.all false
set_option maxRecDepth 100000
set_option maxHeartbeats 2000000
/-! What all laws of this program share: drawn texts, rows of parts as data, how they stand in memory. -/
namespace Wk
open PySem PySem.Spec PyProof.Rows L2
theorem small {n : Nat} (h : n ≤ 1000) : n ≤ sizeLine := Nat.le_of_lt (small1000 h)
theorem big {n : Nat} (h : n ≤ 1000000) : n ≤ sizeLine := Nat.le_trans h (by decide)
theorem yes {σ : L2.St} {H : Hp} {Q : Bool → Hp → Prop} (h : Q true H) : tYes σ H Q := h
theorem kn {H : Hp} {a p : Addr} {o u : HO} (h : H a = some o) (n : H p = none) : upd H p u a = some o := by
  rw [upd_ne (ne_of_none h n)]
  exact h
theorem atX_lt {α : Type} {l : List α} {d : Int} (h0 : 0 ≤ d) (h1 : d < l.length) : ∃ c ∈ l, atI l d = some c ∧ l[d.toNat]? = some c := by
  have hd : d.toNat < l.length := by omega
  refine ⟨l[d.toNat], List.getElem_mem hd, ?_, List.getElem?_eq_getElem hd⟩
  have e : atI l ((d.toNat : Nat) : Int) = some l[d.toNat] := atI_nat (List.getElem?_eq_getElem hd)
  rw [show ((d.toNat : Nat) : Int) = d by omega] at e
  exact e
/-! ### texts -/
/-- at most k signs, plain ones -/
def Sh (k : Nat) (z : Str) : Prop := z.cps.toList.length ≤ k ∧ ∀ c ∈ z.cps.toList, c < 128
theorem Sh.len {k : Nat} {z : Str} (h : Sh k z) : z.length ≤ k := by
  have := h.1
  rw [Array.length_toList] at this
  exact this
theorem Sh.mono {k j : Nat} {z : Str} (h : Sh k z) (hk : k ≤ j) : Sh j z := ⟨Nat.le_trans h.1 hk, h.2⟩
theorem app_codes (y z : Str) : (y ++ z).cps.toList = y.cps.toList ++ z.cps.toList := by
  show (y.cps ++ z.cps).toList = _
  rw [Array.toList_append]
theorem app_len (y z : Str) : (y ++ z).length = y.length + z.length := by
  show (y.cps ++ z.cps).size = _
  rw [Array.size_append]
  rfl
theorem Sh.app {k j : Nat} {y z : Str} (h : Sh k y) (g : Sh j z) : Sh (k + j) (y ++ z) := by
  refine ⟨?_, fun c hc => ?_⟩
  · rw [app_codes, List.length_append]
    exact Nat.add_le_add h.1 g.1
  · rw [app_codes] at hc
    rcases List.mem_append.mp hc with q | q
    · exact h.2 c q
    · exact g.2 c q
theorem Sh.sign {c : Nat} (h : c < 128) : Sh 1 ⟨#[c]⟩ := ⟨Nat.le_refl 1, fun d hd => by
  have : d = c := by simpa using hd
  rw [this]
  exact h⟩
theorem Sh.ok {k : Nat} {z : Str} (h : Sh k z) : PyData.strOk z = true := by
  unfold PyData.strOk
  rw [Array.all_eq_true']
  intro c hc
  have := h.2 c (Array.mem_def.mp hc)
  simp
  omega
/-! ### one number in a list -/
/-- but for L, which holds a list of one number, what stood stands -/
def StL (L : Addr) (H H' : Hp) : Prop := (∀ b o, b ≠ L → H b = some o → H' b = some o) ∧ ∃ n : Int, H' L = some (.lst [.int n])
theorem StL.refl {L : Addr} {H : Hp} {n : Int} (h : H L = some (.lst [.int n])) : StL L H H := ⟨fun _ _ _ e => e, n, h⟩
theorem StL.trans {L : Addr} {H H1 H2 : Hp} (a : StL L H H1) (b : StL L H1 H2) : StL L H H2 := ⟨fun c o n e => b.1 c o n (a.1 c o n e), b.2⟩
theorem StL.put {L : Addr} {H : Hp} (n : Int) : StL L H (upd H L (.lst [.int n])) := ⟨fun b o nb e => by rw [upd_ne nb]; exact e, n, upd_same⟩
theorem StL.new {L p : Addr} {H : Hp} {n : Int} {o : HO} (h : H L = some (.lst [.int n])) (np : H p = none) : StL L H (upd H p o) :=
  ⟨fun b u _ e => by rw [upd_ne (ne_of_none e np)]; exact e, n, by rw [upd_ne (ne_of_none h np)]; exact h⟩
theorem StL.none {L p : Addr} {H H' : Hp} (x : StL L H H') (h : H' p = Option.none) : H p = Option.none := by
  cases q : H p with
  | none => rfl
  | some o =>
    by_cases e : p = L
    · obtain ⟨n, hn⟩ := x.2
      rw [e, hn] at h
      cases h
    · rw [x.1 p o e q] at h
      cases h
def spLeft : Sp := fun vs H Q _ => ∃ c : Int, vs = [.int c] ∧ ∀ (p : Addr) (n : Int), H p = none → Q (.ref p) (upd H p (.lst [.int n]))
def spDigit : Sp := fun vs H Q _ => ∃ (L : Addr) (n m : Int), vs = [.ref L, .int m] ∧ H L = some (.lst [.int n]) ∧ 0 < m ∧ m < 1073741824 ∧ ∀ d n' : Int, 0 ≤ d → d < m → Q (.int d) (upd H L (.lst [.int n']))
theorem pos1 : (0 : Int) < 2147483629 := by decide
theorem pos2 : (0 : Int) < 2147483647 := by decide
/-! ### rows of parts -/
inductive Wd where
  | room | inn | out | opn | hear | new
deriving DecidableEq
def Wd.str : Wd → Str
  | .room => "room"
  | .inn => "in"
  | .out => "out"
  | .opn => "open"
  | .hear => "hear"
  | .new => "new"
def Wd.binds : Wd → Bool
  | .hear => true
  | .new => true
  | _ => false
inductive Part where
  | say (n : Str)
  | again (r : List Part)
  | oth (w : Wd) (n : Str) (r : List Part)
mutual
def PartAt (H : Hp) : Part → V → Prop
  | .say n, v => ∃ a, v = .ref a ∧ H a = some (.tup [.str "say", .str n])
  | .again r, v => ∃ a b xs, v = .ref a ∧ H a = some (.tup [.str "again", .ref b]) ∧ H b = some (.tup xs) ∧ PartsAt H r xs
  | .oth w n r, v => ∃ a b xs, v = .ref a ∧ H a = some (.tup [.str w.str, .str n, .ref b]) ∧ H b = some (.tup xs) ∧ PartsAt H r xs
def PartsAt (H : Hp) : List Part → List V → Prop
  | [], vs => vs = []
  | p :: r, vs => ∃ v us, vs = v :: us ∧ PartAt H p v ∧ PartsAt H r us
end
def RowAt (H : Hp) (r : List Part) (v : V) : Prop := ∃ a xs, v = .ref a ∧ H a = some (.tup xs) ∧ PartsAt H r xs
/-- all tuples stay -/
def STup (H H' : Hp) : Prop := ∀ a xs, H a = some (.tup xs) → H' a = some (.tup xs)
theorem STup.refl (H : Hp) : STup H H := fun _ _ h => h
theorem STup.trans {H H1 H2 : Hp} (a : STup H H1) (b : STup H1 H2) : STup H H2 := fun c o h => b c o (a c o h)
theorem STup.of {H H' : Hp} (h : Same H H') : STup H H' := fun a xs e => h _ _ e
theorem STup.new {H : Hp} {p : Addr} {o : HO} (n : H p = none) : STup H (upd H p o) := fun a xs e => kn e n
theorem STup.lst {H : Hp} {p : Addr} {o : HO} {ys : List V} (h : H p = some (.lst ys)) : STup H (upd H p o) := fun a xs e => by
  rw [upd_ne (fun z => by rw [z, h] at e; cases e)]
  exact e
mutual
theorem PartAt.mono {H H' : Hp} (s : STup H H') : ∀ (p : Part) (v : V), PartAt H p v → PartAt H' p v
  | .say n, v, h => by
    obtain ⟨a, e, h1⟩ := h
    exact ⟨a, e, s _ _ h1⟩
  | .again r, v, h => by
    obtain ⟨a, b, xs, e, h1, h2, h3⟩ := h
    exact ⟨a, b, xs, e, s _ _ h1, s _ _ h2, PartsAt.mono s r xs h3⟩
  | .oth w n r, v, h => by
    obtain ⟨a, b, xs, e, h1, h2, h3⟩ := h
    exact ⟨a, b, xs, e, s _ _ h1, s _ _ h2, PartsAt.mono s r xs h3⟩
theorem PartsAt.mono {H H' : Hp} (s : STup H H') : ∀ (r : List Part) (vs : List V), PartsAt H r vs → PartsAt H' r vs
  | [], vs, h => h
  | p :: r, vs, h => by
    obtain ⟨v, us, e, h1, h2⟩ := h
    exact ⟨v, us, e, PartAt.mono s p v h1, PartsAt.mono s r us h2⟩
end
theorem RowAt.mono {H H' : Hp} {r : List Part} {v : V} (s : STup H H') (h : RowAt H r v) : RowAt H' r v := by
  obtain ⟨a, xs, e, h1, h2⟩ := h
  exact ⟨a, xs, e, s _ _ h1, PartsAt.mono s r xs h2⟩
theorem PartsAt.len {H : Hp} : ∀ {r : List Part} {vs : List V}, PartsAt H r vs → vs.length = r.length
  | [], vs, h => by rw [show vs = [] from h]; rfl
  | p :: r, vs, h => by
    obtain ⟨v, us, e, _, h2⟩ := h
    rw [e, List.length_cons, List.length_cons, PartsAt.len h2]
theorem PartsAt.get {H : Hp} : ∀ {r : List Part} {vs : List V}, PartsAt H r vs → ∀ {i : Nat} {v : V}, vs[i]? = some v → ∃ p, r[i]? = some p ∧ PartAt H p v
  | [], vs, h, i, v, e => by rw [show vs = [] from h] at e; simp at e
  | p :: r, vs, h, 0, v, e => by
    obtain ⟨u, us, rfl, h1, _⟩ := h
    exact ⟨p, rfl, by rw [← Option.some.inj (show some u = some v from e)]; exact h1⟩
  | p :: r, vs, h, i + 1, v, e => by
    obtain ⟨u, us, rfl, _, h2⟩ := h
    exact PartsAt.get h2 (i := i) (v := v) e
theorem PartsAt.app {H : Hp} {q : List Part} {us : List V} (g : PartsAt H q us) : ∀ {r : List Part} {vs : List V}, PartsAt H r vs → PartsAt H (r ++ q) (vs ++ us)
  | [], vs, h => by rw [show vs = [] from h]; exact g
  | p :: r, vs, h => by
    obtain ⟨v, ws, rfl, h1, h2⟩ := h
    exact ⟨v, ws ++ us, rfl, h1, PartsAt.app g h2⟩
theorem PartsAt.one {H : Hp} {p : Part} {v : V} (h : PartAt H p v) : PartsAt H [p] [v] := ⟨v, [], rfl, h, rfl⟩
/-! ### their data -/
mutual
def dP : Part → PyData
  | .say n => .tuple [.str "say", .str n]
  | .again r => .tuple [.str "again", .tuple (dR r)]
  | .oth w n r => .tuple [.str w.str, .str n, .tuple (dR r)]
def dR : List Part → List PyData
  | [] => []
  | p :: r => dP p :: dR r
end
mutual
theorem PartAt.dp {K : PySem.W.Frag} {H : Hp} : ∀ (p : Part) (v : V), PartAt H p v → Dp K H v (dP p)
  | .say n, v, h => by
    obtain ⟨a, rfl, h1⟩ := h
    exact .tup (SqT.of h1) (.cons (.str _) (.cons (.str _) .nil))
  | .again r, v, h => by
    obtain ⟨a, b, xs, rfl, h1, h2, h3⟩ := h
    exact .tup (SqT.of h1) (.cons (.str _) (.cons (.tup (SqT.of h2) (PartsAt.dp r xs h3)) .nil))
  | .oth w n r, v, h => by
    obtain ⟨a, b, xs, rfl, h1, h2, h3⟩ := h
    exact .tup (SqT.of h1) (.cons (.str _) (.cons (.str _) (.cons (.tup (SqT.of h2) (PartsAt.dp r xs h3)) .nil)))
theorem PartsAt.dp {K : PySem.W.Frag} {H : Hp} : ∀ (r : List Part) (vs : List V), PartsAt H r vs → DpAll K H vs (dR r)
  | [], vs, h => by
    rw [show vs = [] from h]
    exact .nil
  | p :: r, vs, h => by
    obtain ⟨v, us, rfl, h1, h2⟩ := h
    exact .cons (PartAt.dp p v h1) (PartsAt.dp r us h2)
end
theorem RowAt.dp {K : PySem.W.Frag} {H : Hp} {r : List Part} {v : V} (h : RowAt H r v) : Dp K H v (.tuple (dR r)) := by
  obtain ⟨a, xs, rfl, h1, h2⟩ := h
  exact .tup (SqT.of h1) (PartsAt.dp r xs h2)
/-! ### measures and looks -/
mutual
def okP (f : Str → Prop) : Part → Prop
  | .say n => f n
  | .again r => okR f r
  | .oth _ n r => f n ∧ okR f r
def okR (f : Str → Prop) : List Part → Prop
  | [] => True
  | p :: r => okP f p ∧ okR f r
end
mutual
def deepP : Part → Nat
  | .say _ => 1
  | .again r => deepR r + 1
  | .oth _ _ r => deepR r + 1
def deepR : List Part → Nat
  | [] => 0
  | p :: r => max (deepP p) (deepR r)
end
mutual
def sizeP : Part → Nat
  | .say _ => 1
  | .again r => sizeR r + 1
  | .oth _ _ r => sizeR r + 1
def sizeR : List Part → Nat
  | [] => 0
  | p :: r => sizeP p + sizeR r
end
/-! what is bound, in the order in which it is met -/
mutual
def bdP : Part → List Str
  | .say _ => []
  | .again r => bdR r
  | .oth w n r => (if w.binds then [n] else []) ++ bdR r
def bdR : List Part → List Str
  | [] => []
  | p :: r => bdP p ++ bdR r
end
/-! each calling that is not bound there stands in S -/
mutual
def scP : List Str → Part → Prop
  | S, .say n => n ∈ S
  | S, .again r => scR S r
  | S, .oth w n r => if w.binds = true then scR (n :: S) r else n ∈ S ∧ scR S r
def scR : List Str → List Part → Prop
  | _, [] => True
  | S, p :: r => scP S p ∧ scR S r
end
mutual
theorem scP.mono : ∀ (p : Part) {S S' : List Str}, (∀ n ∈ S, n ∈ S') → scP S p → scP S' p
  | .say n, S, S', h, g => h n g
  | .again r, S, S', h, g => scR.mono r h g
  | .oth w n r, S, S', h, g => by
    unfold scP at g ⊢
    by_cases e : w.binds = true
    · rw [if_pos e] at g ⊢
      exact scR.mono r (fun m hm => by
        rcases List.mem_cons.mp hm with q | q
        · rw [q]; exact List.mem_cons_self
        · exact List.mem_cons_of_mem _ (h m q)) g
    · rw [if_neg e] at g ⊢
      exact ⟨h n g.1, scR.mono r h g.2⟩
theorem scR.mono : ∀ (r : List Part) {S S' : List Str}, (∀ n ∈ S, n ∈ S') → scR S r → scR S' r
  | [], S, S', h, g => trivial
  | p :: r, S, S', h, g => ⟨scP.mono p h g.1, scR.mono r h g.2⟩
end
theorem okR_app {f : Str → Prop} : ∀ {r q : List Part}, okR f r → okR f q → okR f (r ++ q)
  | [], q, _, g => g
  | p :: r, q, h, g => ⟨h.1, okR_app h.2 g⟩
theorem deepR_app : ∀ (r q : List Part), deepR (r ++ q) = max (deepR r) (deepR q)
  | [], q => by show deepR q = max 0 (deepR q); omega
  | p :: r, q => by
    show max (deepP p) (deepR (r ++ q)) = max (max (deepP p) (deepR r)) (deepR q)
    rw [deepR_app r q]
    omega
theorem sizeR_app : ∀ (r q : List Part), sizeR (r ++ q) = sizeR r + sizeR q
  | [], q => by show sizeR q = 0 + sizeR q; omega
  | p :: r, q => by
    show sizeP p + sizeR (r ++ q) = sizeP p + sizeR r + sizeR q
    rw [sizeR_app r q]
    omega
theorem bdR_app : ∀ (r q : List Part), bdR (r ++ q) = bdR r ++ bdR q
  | [], q => rfl
  | p :: r, q => by
    show bdP p ++ bdR (r ++ q) = (bdP p ++ bdR r) ++ bdR q
    rw [bdR_app r q, List.append_assoc]
theorem scR_app {S : List Str} : ∀ {r q : List Part}, scR S r → scR S q → scR S (r ++ q)
  | [], q, _, g => g
  | p :: r, q, h, g => ⟨h.1, scR_app h.2 g⟩
mutual
theorem okP.imp {f g : Str → Prop} (i : ∀ n, f n → g n) : ∀ p : Part, okP f p → okP g p
  | .say n, h => i n h
  | .again r, h => okR.imp i r h
  | .oth _ n r, h => ⟨i n h.1, okR.imp i r h.2⟩
theorem okR.imp {f g : Str → Prop} (i : ∀ n, f n → g n) : ∀ r : List Part, okR f r → okR g r
  | [], _ => trivial
  | p :: r, h => ⟨okP.imp i p h.1, okR.imp i r h.2⟩
end
theorem okR.mem {f : Str → Prop} : ∀ {r : List Part}, okR f r → ∀ p ∈ r, okP f p
  | [], _, p, hp => nomatch hp
  | q :: r, h, p, hp => by
    rcases List.mem_cons.mp hp with e | e
    · rw [e]; exact h.1
    · exact okR.mem h.2 p e
theorem deepR.mem : ∀ {r : List Part}, ∀ p ∈ r, deepP p ≤ deepR r
  | [], p, hp => nomatch hp
  | q :: r, p, hp => by
    show deepP p ≤ max (deepP q) (deepR r)
    rcases List.mem_cons.mp hp with e | e
    · rw [e]; omega
    · have := deepR.mem (r := r) p e; omega
theorem sizeR.mem : ∀ {r : List Part}, ∀ p ∈ r, sizeP p ≤ sizeR r
  | [], p, hp => nomatch hp
  | q :: r, p, hp => by
    show sizeP p ≤ sizeP q + sizeR r
    rcases List.mem_cons.mp hp with e | e
    · rw [e]; omega
    · have := sizeR.mem (r := r) p e; omega
mutual
theorem size_posP : ∀ p : Part, 1 ≤ sizeP p
  | .say _ => Nat.le_refl 1
  | .again r => by show 1 ≤ sizeR r + 1; omega
  | .oth _ _ r => by show 1 ≤ sizeR r + 1; omega
end
theorem len_sizeR : ∀ r : List Part, r.length ≤ sizeR r
  | [] => Nat.le_refl 0
  | p :: r => by
    have h1 := size_posP p
    have h2 := len_sizeR r
    show r.length + 1 ≤ sizeP p + sizeR r
    omega
/-! ### data that may be compared -/
theorem wd_ok (w : Wd) : PyData.strOk w.str = true := by cases w <;> decide +kernel
mutual
theorem layP {f : Str → Prop} (hf : ∀ n, f n → PyData.strOk n = true) : ∀ p : Part, okP f p → PyData.canLay0 (dP p) = true
  | .say n, h => by
    have h1 : PyData.strOk "say" = true := by decide +kernel
    simp only [dP, PyData.canLay0, PyData.canLayAll0, h1, hf n h, Bool.and_self]
  | .again r, h => by
    have h1 : PyData.strOk "again" = true := by decide +kernel
    simp only [dP, PyData.canLay0, PyData.canLayAll0, h1, layR hf r h, Bool.and_self]
  | .oth w n r, h => by
    simp only [dP, PyData.canLay0, PyData.canLayAll0, wd_ok w, hf n h.1, layR hf r h.2, Bool.and_self]
theorem layR {f : Str → Prop} (hf : ∀ n, f n → PyData.strOk n = true) : ∀ r : List Part, okR f r → PyData.canLayAll0 (dR r) = true
  | [], _ => by simp only [dR, PyData.canLayAll0]
  | p :: r, h => by simp only [dR, PyData.canLayAll0, layP hf p h.1, layR hf r h.2, Bool.and_self]
end
mutual
theorem depP : ∀ p : Part, PyData.depth (dP p) ≤ 2 * deepP p
  | .say n => by
    simp only [dP, PyData.depth, PyData.depthAll, deepP]
    omega
  | .again r => by
    have := depR r
    simp only [dP, PyData.depth, PyData.depthAll, deepP]
    omega
  | .oth w n r => by
    have := depR r
    simp only [dP, PyData.depth, PyData.depthAll, deepP]
    omega
theorem depR : ∀ r : List Part, PyData.depthAll (dR r) ≤ 2 * deepR r
  | [] => by simp only [dR, PyData.depthAll, deepR]; omega
  | p :: r => by
    have h1 := depP p
    have h2 := depR r
    simp only [dR, PyData.depthAll, deepR]
    omega
end
theorem shapedR {f : Str → Prop} (hf : ∀ n, f n → PyData.strOk n = true) {r : List Part} (h : okR f r) (hd : deepR r ≤ 30) : SeqAt.shaped (.tuple (dR r)) = true := by
  unfold SeqAt.shaped
  have := depR r
  simp only [PyData.canLay0, layR hf r h, PyData.depth, Bool.true_and]
  exact decide_eq_true (by omega)
/-! ### called otherwise -/
mutual
def calledP (x c : Str) : Part → Part
  | .say n => .say (if n = x then c else n)
  | .again r => .again (calledR x c r)
  | .oth w n r => if w.binds = true ∧ n = x then .oth w n r else .oth w (if n = x then c else n) (calledR x c r)
def calledR (x c : Str) : List Part → List Part
  | [] => []
  | p :: r => calledP x c p :: calledR x c r
end
theorem calledR_map (x c : Str) : ∀ r : List Part, calledR x c r = r.map (calledP x c)
  | [] => rfl
  | p :: r => by
    show calledP x c p :: calledR x c r = calledP x c p :: r.map (calledP x c)
    rw [calledR_map x c r]
mutual
theorem calledP_deep (x c : Str) : ∀ p : Part, deepP (calledP x c p) = deepP p
  | .say n => rfl
  | .again r => by
    show deepR (calledR x c r) + 1 = deepR r + 1
    rw [calledR_deep x c r]
  | .oth w n r => by
    unfold calledP
    by_cases e : w.binds = true ∧ n = x
    · rw [if_pos e]
    · rw [if_neg e]
      show deepR (calledR x c r) + 1 = deepR r + 1
      rw [calledR_deep x c r]
theorem calledR_deep (x c : Str) : ∀ r : List Part, deepR (calledR x c r) = deepR r
  | [] => rfl
  | p :: r => by
    show max (deepP (calledP x c p)) (deepR (calledR x c r)) = max (deepP p) (deepR r)
    rw [calledP_deep x c p, calledR_deep x c r]
end
mutual
theorem calledP_size (x c : Str) : ∀ p : Part, sizeP (calledP x c p) = sizeP p
  | .say n => rfl
  | .again r => by
    show sizeR (calledR x c r) + 1 = sizeR r + 1
    rw [calledR_size x c r]
  | .oth w n r => by
    unfold calledP
    by_cases e : w.binds = true ∧ n = x
    · rw [if_pos e]
    · rw [if_neg e]
      show sizeR (calledR x c r) + 1 = sizeR r + 1
      rw [calledR_size x c r]
theorem calledR_size (x c : Str) : ∀ r : List Part, sizeR (calledR x c r) = sizeR r
  | [] => rfl
  | p :: r => by
    show sizeP (calledP x c p) + sizeR (calledR x c r) = sizeP p + sizeR r
    rw [calledP_size x c p, calledR_size x c r]
end
theorem pick {f : Str → Prop} {x c n : Str} (hc : f c) (hn : f n) : f (if n = x then c else n) := by
  by_cases e : n = x
  · rw [if_pos e]; exact hc
  · rw [if_neg e]; exact hn
mutual
theorem calledP_ok {f : Str → Prop} (x c : Str) (hc : f c) : ∀ p : Part, okP f p → okP f (calledP x c p)
  | .say n, h => pick (x := x) hc h
  | .again r, h => calledR_ok x c hc r h
  | .oth w n r, h => by
    unfold calledP
    by_cases e : w.binds = true ∧ n = x
    · rw [if_pos e]
      exact h
    · rw [if_neg e]
      exact ⟨pick hc h.1, calledR_ok x c hc r h.2⟩
theorem calledR_ok {f : Str → Prop} (x c : Str) (hc : f c) : ∀ r : List Part, okR f r → okR f (calledR x c r)
  | [], _ => trivial
  | p :: r, h => ⟨calledP_ok x c hc p h.1, calledR_ok x c hc r h.2⟩
end
end Wk

set_option Elab.async false
set_option linter.all false
set_option maxRecDepth 100000
set_option maxHeartbeats 2000000
/-! What the laws draw: names, and houses of them. -/
namespace Wk
open PySem PySem.Spec PyProof.Rows L2
abbrev abc : Str := "abcdefghijklmnopqrstuvwxyz"
abbrev vow : Str := "aeiouxyz"
theorem abc_at : ∀ j : Nat, j < 26 → abc.cps.toList[j]? = some (97 + j) := by decide +kernel
theorem abc_len : abc.cps.toList.length = 26 := by decide +kernel
theorem vow_len : vow.cps.toList.length = 8 := by decide +kernel
theorem vow_lt : ∀ c ∈ vow.cps.toList, 97 ≤ c ∧ c < 123 := by decide +kernel
/-- a letter by its number, and up to five of eight more -/
def NameOf (j : Nat) (z : Str) : Prop := ∃ r, z.cps.toList = (97 + j) :: r ∧ r.length ≤ 5 ∧ ∀ c ∈ r, c ∈ vow.cps.toList
theorem NameOf.sh {j : Nat} {z : Str} (h : NameOf j z) (hj : j < 26) : Sh 6 z := by
  obtain ⟨r, e, h1, h2⟩ := h
  refine ⟨by rw [e, List.length_cons]; omega, fun c hc => ?_⟩
  rw [e] at hc
  rcases List.mem_cons.mp hc with q | q
  · omega
  · have := vow_lt c (h2 c q)
    omega
theorem NameOf.inj {i j : Nat} {z : Str} (h : NameOf i z) (g : NameOf j z) : i = j := by
  obtain ⟨r, e, _⟩ := h
  obtain ⟨q, e2, _⟩ := g
  rw [e] at e2
  have := (List.cons.inj e2).1
  omega
def spNames : Sp := fun vs H Q _ => ∃ (L : Addr) (n : Int) (m : Nat), vs = [.ref L, .int m] ∧ H L = some (.lst [.int n]) ∧ m ≤ 100 ∧
  ∀ (H' : Hp) (p : Addr) (s : Nat) (zs : List Str), StL L H H' → H p = none → H' p = some (.lst (zs.map V.str)) → zs.length = m → s < 26 → (∀ i z, zs[i]? = some z → NameOf ((s + 5 * i) % 26) z) → Q (.ref p) H'
/-! ### houses -/
/-- but for L and S what stood stands; L holds one number, S the names that are left -/
def StG (L S : Addr) (H H' : Hp) (sp : List Str) : Prop := (∀ b o, b ≠ L → b ≠ S → H b = some o → H' b = some o) ∧ (∃ n : Int, H' L = some (.lst [.int n])) ∧ H' S = some (.lst (sp.map V.str))
section
variable {L S p : Addr} {H H1 H2 : Hp} {sp sp1 sp2 : List Str} {o : HO}
theorem LS_ne {n : Int} (h1 : H L = some (.lst [.int n])) (h2 : H S = some (.lst (sp.map V.str))) : L ≠ S := fun e => by
  rw [e, h2] at h1
  have q := HO.lst.inj (Option.some.inj h1)
  cases sp with
  | nil => cases q
  | cons a r => cases q
theorem StG.ne (x : StG L S H H1 sp) : L ≠ S := by
  obtain ⟨n, hn⟩ := x.2.1
  exact LS_ne hn x.2.2
theorem StG.refl {n : Int} (h1 : H L = some (.lst [.int n])) (h2 : H S = some (.lst (sp.map V.str))) : StG L S H H sp := ⟨fun _ _ _ _ e => e, ⟨n, h1⟩, h2⟩
theorem StG.trans (a : StG L S H H1 sp1) (b : StG L S H1 H2 sp2) : StG L S H H2 sp2 := ⟨fun c u n1 n2 e => b.1 c u n1 n2 (a.1 c u n1 n2 e), b.2⟩
theorem StG.put (x : StG L S H H1 sp) (n : Int) : StG L S H (upd H1 L (.lst [.int n])) sp :=
  ⟨fun b u nb nc e => by rw [upd_ne nb]; exact x.1 b u nb nc e, ⟨n, upd_same⟩, by rw [upd_ne (Ne.symm x.ne)]; exact x.2.2⟩
theorem StG.new (x : StG L S H H1 sp) (n : H1 p = none) : StG L S H (upd H1 p o) sp := by
  obtain ⟨i, hi⟩ := x.2.1
  exact ⟨fun b u nb nc e => kn (x.1 b u nb nc e) n, ⟨i, kn hi n⟩, kn x.2.2 n⟩
theorem StG.pop (x : StG L S H H1 sp) : StG L S H (upd H1 S (.lst (sp1.map V.str))) sp1 := by
  obtain ⟨i, hi⟩ := x.2.1
  exact ⟨fun b u nb nc e => by rw [upd_ne nc]; exact x.1 b u nb nc e, ⟨i, by rw [upd_ne x.ne]; exact hi⟩, upd_same⟩
theorem StG.tup {n : Int} (x : StG L S H H1 sp1) (h1 : H L = some (.lst [.int n])) (h2 : H S = some (.lst (sp.map V.str))) : STup H H1 := fun a xs e =>
  x.1 a _ (fun z => by rw [z, h1] at e; cases e) (fun z => by rw [z, h2] at e; cases e) e
theorem StG.none {n : Int} (x : StG L S H H1 sp1) (h : H1 p = Option.none) (h1 : H L = some (.lst [.int n])) (h2 : H S = some (.lst (sp.map V.str))) : H p = Option.none := by
  obtain ⟨i, hi⟩ := x.2.1
  cases q : H p with
  | none => rfl
  | some u =>
    by_cases e1 : p = L
    · rw [e1, hi] at h
      cases h
    · by_cases e2 : p = S
      · rw [e2, x.2.2] at h
        cases h
      · rw [x.1 p u e1 e2 q] at h
        cases h
end
/-- how many parts a row has at most -/
def cntR : Nat → Nat
  | 0 => 2
  | 1 => 6
  | m + 2 => 3 * (1 + cntR (m + 1))
def cntP : Nat → Nat
  | 0 => 1
  | m + 1 => 1 + cntR m
def most : Nat → Nat
  | 0 => 2
  | 1 => 2
  | _ + 2 => 3
theorem cnt_eq : ∀ m : Nat, most m * cntP m = cntR m
  | 0 => rfl
  | 1 => rfl
  | m + 2 => rfl
structure GP (m : Nat) (ss sp sp' : List Str) (p : Part) : Prop where
  deep : deepP p ≤ m + 1
  size : sizeP p ≤ cntP m
  sc : scP ss p
  bd : sp = sp' ++ (bdP p).reverse
  ok : okP (fun n => n ∈ ss ∨ n ∈ sp) p
structure GR (m k : Nat) (ss sp sp' : List Str) (r : List Part) : Prop where
  deep : deepR r ≤ m + 1
  size : sizeR r ≤ k * cntP m
  sc : scR ss r
  bd : sp = sp' ++ (bdR r).reverse
  ok : okR (fun n => n ∈ ss ∨ n ∈ sp) r
theorem GR.nil {m : Nat} {ss sp : List Str} : GR m 0 ss sp sp [] := ⟨Nat.zero_le _, Nat.zero_le _, trivial, by simp [bdR], trivial⟩
theorem GR.snoc {m k : Nat} {ss sp sp1 sp2 : List Str} {r : List Part} {p : Part} (h : GR m k ss sp sp1 r) (g : GP m ss sp1 sp2 p) : GR m (k + 1) ss sp sp2 (r ++ [p]) := by
  have mem1 : ∀ n ∈ sp1, n ∈ sp := fun n hn => by rw [h.bd]; exact List.mem_append_left _ hn
  refine ⟨?_, ?_, scR_app h.sc ⟨g.sc, trivial⟩, ?_, okR_app h.ok ⟨okP.imp (fun n q => ?_) p g.ok, trivial⟩⟩
  · rw [deepR_app]
    have h1 := h.deep
    have h2 := g.deep
    show max (deepR r) (max (deepP p) 0) ≤ m + 1
    omega
  · rw [sizeR_app, Nat.succ_mul]
    have h1 := h.size
    have h2 := g.size
    show sizeR r + (sizeP p + 0) ≤ _
    omega
  · rw [bdR_app, List.reverse_append, show bdR [p] = bdP p from List.append_nil _, ← List.append_assoc, ← g.bd]
    exact h.bd
  · rcases q with q | q
    · exact .inl q
    · exact .inr (mem1 n q)
theorem GR.up {m k j : Nat} {ss sp sp' : List Str} {r : List Part} (h : GR m k ss sp sp' r) (hk : k ≤ j) : GR m j ss sp sp' r :=
  ⟨h.deep, Nat.le_trans h.size (Nat.mul_le_mul_right _ hk), h.sc, h.bd, h.ok⟩
theorem most_at (m : Nat) : atI [V.int 3, V.int 4] (if decide ((m : Int) > 1) = true then 1 else 0) = some (.int ((most m + 1 : Nat) : Int)) := by
  match m with
  | 0 => exact atI_nat (j := 0) rfl
  | 1 => exact atI_nat (j := 0) rfl
  | m + 2 =>
    rw [decide_eq_true (show (((m + 2 : Nat) : Int) > 1) by omega)]
    exact atI_nat (j := 1) rfl
theorem most_le (m : Nat) : most m ≤ 3 := by
  match m with
  | 0 => exact (by decide : 2 ≤ 3)
  | 1 => exact (by decide : 2 ≤ 3)
  | m + 2 => exact Nat.le_refl 3
/-- what a whole row of room m keeps -/
theorem GR.weak {m k : Nat} {ss sp sp' : List Str} {r : List Part} (h : GR m k ss sp sp' r) (hk : k ≤ most m) : sizeR r ≤ cntR m := by
  rw [← cnt_eq]
  exact Nat.le_trans h.size (Nat.mul_le_mul_right _ hk)
/-- the arguments of _law_part and _law_row -/
def GArg (vs : List V) (H : Hp) (L S A : Addr) (nL : Int) (m : Nat) (ss sp : List Str) : Prop :=
  vs = [.ref L, .int m, .ref A, .ref S] ∧ H L = some (.lst [.int nL]) ∧ H S = some (.lst (sp.map V.str)) ∧ H A = some (.lst (ss.map V.str)) ∧ A ≠ L ∧ A ≠ S ∧ ss ≠ [] ∧ ss.length + 2 * m ≤ 1000 ∧ (∀ z ∈ sp, Sh 6 z)
def spPart (n : Nat) : Sp := fun vs H Q _ => ∃ (L S A : Addr) (nL : Int) (m : Nat) (ss sp : List Str), GArg vs H L S A nL m ss sp ∧ m ≤ n ∧
  ∀ (H' : Hp) (v : V) (sp' : List Str) (p : Part), StG L S H H' sp' → PartAt H' p v → GP m ss sp sp' p → Q v H'
def spRow (n : Nat) : Sp := fun vs H Q _ => ∃ (L S A : Addr) (nL : Int) (m : Nat) (ss sp : List Str), GArg vs H L S A nL m ss sp ∧ m < n ∧
  ∀ (H' : Hp) (v : V) (sp' : List Str) (r : List Part), StG L S H H' sp' → RowAt H' r v → GR m (most m) ss sp sp' r → Q v H'
theorem GP.say {m : Nat} {ss sp : List Str} {n : Str} (h : n ∈ ss) : GP m ss sp sp (.say n) := by
  refine ⟨?_, ?_, h, by simp [bdP], .inl h⟩
  · show 1 ≤ m + 1
    omega
  · show 1 ≤ cntP m
    cases m with
    | zero => exact Nat.le_refl 1
    | succ m => show 1 ≤ 1 + cntR m; omega
theorem GP.again {m : Nat} {ss sp sp' : List Str} {r : List Part} (h : GR m (most m) ss sp sp' r) : GP (m + 1) ss sp sp' (.again r) := by
  have h1 := h.deep
  have h2 := h.weak (Nat.le_refl _)
  refine ⟨?_, ?_, h.sc, h.bd, h.ok⟩
  · show deepR r + 1 ≤ m + 1 + 1
    omega
  · show sizeR r + 1 ≤ 1 + cntR m
    omega
theorem GP.free {m : Nat} {ss sp sp' : List Str} {r : List Part} {w : Wd} {n : Str} (hw : w.binds = false) (hn : n ∈ ss) (h : GR m (most m) ss sp sp' r) : GP (m + 1) ss sp sp' (.oth w n r) := by
  have h1 := h.deep
  have h2 := h.weak (Nat.le_refl _)
  have hw2 : ¬ w.binds = true := by rw [hw]; decide
  refine ⟨?_, ?_, ?_, ?_, .inl hn, h.ok⟩
  · show deepR r + 1 ≤ m + 1 + 1
    omega
  · show sizeR r + 1 ≤ 1 + cntR m
    omega
  · unfold scP
    rw [if_neg hw2]
    exact ⟨hn, h.sc⟩
  · unfold bdP
    rw [if_neg hw2, List.nil_append]
    exact h.bd
theorem GP.bound {m : Nat} {ss sp1 sp' : List Str} {r : List Part} {w : Wd} {n : Str} (hw : w.binds = true) (h : GR m (most m) (ss ++ [n, n]) sp1 sp' r) : GP (m + 1) ss (sp1 ++ [n]) sp' (.oth w n r) := by
  have h1 := h.deep
  have h2 := h.weak (Nat.le_refl _)
  refine ⟨?_, ?_, ?_, ?_, .inr (List.mem_append_right _ List.mem_cons_self), okR.imp (fun k q => ?_) r h.ok⟩
  · show deepR r + 1 ≤ m + 1 + 1
    omega
  · show sizeR r + 1 ≤ 1 + cntR m
    omega
  · unfold scP
    rw [if_pos hw]
    refine scR.mono r (fun k hk => ?_) h.sc
    rcases List.mem_append.mp hk with q | q
    · exact List.mem_cons_of_mem _ q
    · have : k = n := by simpa using q
      rw [this]
      exact List.mem_cons_self
  · unfold bdP
    rw [if_pos hw, List.reverse_append, List.reverse_singleton, ← List.append_assoc, ← h.bd]
  · rcases q with q | q
    · rcases List.mem_append.mp q with u | u
      · exact .inl u
      · have : k = n := by simpa using u
        rw [this]
        exact .inr (List.mem_append_right _ List.mem_cons_self)
    · exact .inr (List.mem_append_left _ q)
theorem strs_dp {K : PySem.W.Frag} {H : Hp} : ∀ zs : List Str, DpAll K H (zs.map V.str) (zs.map PyData.str)
  | [] => .nil
  | z :: r => .cons (.str _) (strs_dp r)
theorem strs_lay : ∀ zs : List Str, (∀ z ∈ zs, PyData.strOk z = true) → PyData.canLayAll0 (zs.map PyData.str) = true
  | [], _ => by simp only [List.map_nil, PyData.canLayAll0]
  | z :: r, h => by simp only [List.map_cons, PyData.canLayAll0, PyData.canLay0, h z List.mem_cons_self, strs_lay r (fun y hy => h y (List.mem_cons_of_mem _ hy)), Bool.and_self]
theorem strs_dep : ∀ zs : List Str, PyData.depthAll (zs.map PyData.str) = 0
  | [] => by simp only [List.map_nil, PyData.depthAll]
  | z :: r => by simp only [List.map_cons, PyData.depthAll, PyData.depth, strs_dep r, Nat.max_self]
theorem strs_shaped {zs : List Str} (h : ∀ z ∈ zs, PyData.strOk z = true) : SeqAt.shaped (.list (zs.map PyData.str)) = true := by
  unfold SeqAt.shaped
  simp only [PyData.canLay0, strs_lay zs h, PyData.depth, strs_dep zs, Bool.true_and]
  decide
theorem nil_shaped : SeqAt.shaped (.list []) = true := strs_shaped (zs := []) fun _ h => nomatch h
theorem eqv_nil : ∀ l : List PyData, PyData.eqv (.list l) (.list []) = l.isEmpty
  | [] => by simp only [PyData.eqv, PyData.eqvAll, List.isEmpty]
  | _ :: _ => by simp only [PyData.eqv, PyData.eqvAll, List.isEmpty]
end Wk

set_option Elab.async false
set_option linter.all false
set_option maxRecDepth 100000
set_option maxHeartbeats 2000000
/-! What the program's own called promises. -/
namespace Wk
open PySem PySem.Spec PyProof.Rows L2
def bindV : List V := [.str "hear", .str "new"]
def wordP : Part → Str
  | .say _ => "say"
  | .again _ => "again"
  | .oth w _ _ => w.str
def bindsP : Part → Bool
  | .oth w _ _ => w.binds
  | _ => false
theorem inV_binds : ∀ p : Part, inV (.str (wordP p)) bindV = bindsP p
  | .say _ => (by decide +kernel : inV (.str "say") bindV = false)
  | .again _ => (by decide +kernel : inV (.str "again") bindV = false)
  | .oth w _ _ => (by cases w <;> decide +kernel : inV (.str w.str) bindV = w.binds)
theorem wd_again (w : Wd) : decide (V.str w.str = V.str "again") = false := by cases w <;> decide +kernel
theorem wd_say (w : Wd) : decide (V.str w.str = V.str "say") = false := by cases w <;> decide +kernel
theorem say_again : decide (V.str "say" = V.str "again") = false := by decide +kernel
theorem iteD {b : Bool} {A B : Prop} (e : b = false) (h : B) : if b = true then A else B := by
  rw [e]
  exact iteF h
theorem iteU {b : Bool} {A B : Prop} (e : b = true) (h : A) : if b = true then A else B := by
  rw [e]
  exact iteT h
theorem str_eq {x y : Str} (h : decide (V.str x = V.str y) = true) : x = y := V.str.inj (of_decide_eq_true h)
theorem str_ne {x y : Str} (h : ¬ decide (V.str x = V.str y) = true) : x ≠ y := fun e => h (decide_eq_true (by rw [e]))
theorem PartAt.word {H : Hp} : ∀ {p : Part} {v : V}, PartAt H p v → ∃ a xs, v = .ref a ∧ H a = some (.tup xs) ∧ xs[0]? = some (.str (wordP p))
  | .say n, v, h => by
    obtain ⟨a, rfl, h1⟩ := h
    exact ⟨a, _, rfl, h1, rfl⟩
  | .again r, v, h => by
    obtain ⟨a, b, xs, rfl, h1, _⟩ := h
    exact ⟨a, _, rfl, h1, rfl⟩
  | .oth w n r, v, h => by
    obtain ⟨a, b, xs, rfl, h1, _⟩ := h
    exact ⟨a, _, rfl, h1, rfl⟩
def spBinder : Sp := fun vs H Q _ => ∃ (v : V) (p : Part), vs = [v] ∧ PartAt H p v ∧ Q (.bl (bindsP p)) H
def spCalled (n : Nat) : Sp := fun vs H Q _ => ∃ (v : V) (x c : Str) (r : List Part), vs = [v, .str x, .str c] ∧ RowAt H r v ∧ deepR r < n ∧ r.length ≤ 1000 ∧ sizeR r ≤ 1000 ∧
  ∀ (H' : Hp) (u : V), Same H H' → RowAt H' (calledR x c r) u → Q u H'
def spPCalled (n : Nat) : Sp := fun vs H Q _ => ∃ (v : V) (x c : Str) (p : Part), vs = [v, .str x, .str c] ∧ PartAt H p v ∧ (deepP p ≤ n ∧ sizeP p ≤ 1000) ∧
  ∀ (H' : Hp) (u : V), Same H H' → PartAt H' (calledP x c p) u → Q u H'
theorem same_new {H : Hp} {p : Addr} {o : HO} (n : H p = none) : Same H (upd H p o) := fun b u e => kn e n
end Wk

set_option Elab.async false
set_option linter.all false
set_option maxRecDepth 100000
set_option maxHeartbeats 2000000
/-! Free callings, and callings put back. -/
namespace Wk
open PySem PySem.Spec PyProof.Rows L2
/-- each x called otherwise, also where it is bound -/
def sub (x c n : Str) : Str := if n = x then c else n
mutual
def lcP (x c : Str) : Part → Part
  | .say n => .say (sub x c n)
  | .again r => .again (lcR x c r)
  | .oth w n r => .oth w (sub x c n) (lcR x c r)
def lcR (x c : Str) : List Part → List Part
  | [] => []
  | p :: r => lcP x c p :: lcR x c r
end
theorem lcR_map (x c : Str) : ∀ r : List Part, lcR x c r = r.map (lcP x c)
  | [] => rfl
  | p :: r => by
    show lcP x c p :: lcR x c r = lcP x c p :: r.map (lcP x c)
    rw [lcR_map x c r]
mutual
theorem called_lcP {x c : Str} : ∀ p : Part, x ∉ bdP p → calledP x c p = lcP x c p
  | .say n, _ => rfl
  | .again r, h => by
    show Part.again (calledR x c r) = Part.again (lcR x c r)
    rw [called_lcR r h]
  | .oth w n r, h => by
    unfold bdP at h
    have h1 : x ∉ bdR r := fun z => h (List.mem_append_right _ z)
    have h2 : ¬ (w.binds = true ∧ n = x) := fun z => h (by rw [if_pos z.1, z.2]; exact List.mem_append_left _ List.mem_cons_self)
    unfold calledP
    rw [if_neg h2, called_lcR r h1]
    rfl
theorem called_lcR {x c : Str} : ∀ r : List Part, x ∉ bdR r → calledR x c r = lcR x c r
  | [], _ => rfl
  | p :: r, h => by
    unfold bdR at h
    show calledP x c p :: calledR x c r = lcP x c p :: lcR x c r
    rw [called_lcP p (fun z => h (List.mem_append_left _ z)), called_lcR r (fun z => h (List.mem_append_right _ z))]
end
def lone (ar : List Str) (n : Str) : List Str := if n ∈ ar then [] else [n]
mutual
def freeP : List Str → Part → List Str
  | ar, .say n => lone ar n
  | ar, .again r => freeR ar r
  | ar, .oth w n r => if w.binds = true then freeR (ar ++ [n]) r else lone ar n ++ freeR ar r
def freeR : List Str → List Part → List Str
  | _, [] => []
  | ar, p :: r => freeP ar p ++ freeR ar r
end
theorem freeR_map (ar : List Str) : ∀ r : List Part, freeR ar r = (r.map (freeP ar)).flatten
  | [] => rfl
  | p :: r => by
    show freeP ar p ++ freeR ar r = _
    rw [freeR_map ar r]
    rfl
theorem lone_le (ar : List Str) (n : Str) : (lone ar n).length ≤ 1 := by
  unfold lone
  by_cases h : n ∈ ar
  · rw [if_pos h]; exact Nat.zero_le _
  · rw [if_neg h]; exact Nat.le_refl 1
mutual
theorem freeP_le : ∀ (p : Part) (ar : List Str), (freeP ar p).length ≤ sizeP p
  | .say n, ar => lone_le ar n
  | .again r, ar => by
    have := freeR_le r ar
    show (freeR ar r).length ≤ sizeR r + 1
    omega
  | .oth w n r, ar => by
    unfold freeP
    show _ ≤ sizeR r + 1
    by_cases h : w.binds = true
    · rw [if_pos h]
      have := freeR_le r (ar ++ [n])
      omega
    · rw [if_neg h, List.length_append]
      have := freeR_le r ar
      have := lone_le ar n
      omega
theorem freeR_le : ∀ (r : List Part) (ar : List Str), (freeR ar r).length ≤ sizeR r
  | [], ar => Nat.le_refl 0
  | p :: r, ar => by
    show (freeP ar p ++ freeR ar r).length ≤ sizeP p + sizeR r
    rw [List.length_append]
    have := freeP_le p ar
    have := freeR_le r ar
    omega
end
/-- c stands nowhere but where it is bound -/
abbrev noc (c : Str) : Str → Prop := fun n => n ≠ c
theorem lone_none {ar : List Str} {n c : Str} (h : c ∉ lone ar n) (ha : c ∉ ar) : n ≠ c := fun e => by
  unfold lone at h
  rw [e, if_neg ha] at h
  exact h List.mem_cons_self
mutual
theorem free_nocP {c : Str} : ∀ (p : Part) (ar : List Str), c ∉ freeP ar p → c ∉ ar → c ∉ bdP p → okP (noc c) p
  | .say n, ar, h, ha, hb => lone_none h ha
  | .again r, ar, h, ha, hb => free_nocR r ar h ha hb
  | .oth w n r, ar, h, ha, hb => by
    unfold freeP at h
    unfold bdP at hb
    have hb1 : c ∉ bdR r := fun z => hb (List.mem_append_right _ z)
    by_cases hw : w.binds = true
    · rw [if_pos hw] at h hb
      have hn : n ≠ c := fun e => hb (by rw [e]; exact List.mem_append_left _ List.mem_cons_self)
      refine ⟨hn, free_nocR r (ar ++ [n]) h (fun z => ?_) hb1⟩
      rcases List.mem_append.mp z with q | q
      · exact ha q
      · exact hn (List.mem_singleton.mp q).symm
    · rw [if_neg hw] at h
      exact ⟨lone_none (fun z => h (List.mem_append_left _ z)) ha, free_nocR r ar (fun z => h (List.mem_append_right _ z)) ha hb1⟩
theorem free_nocR {c : Str} : ∀ (r : List Part) (ar : List Str), c ∉ freeR ar r → c ∉ ar → c ∉ bdR r → okR (noc c) r
  | [], _, _, _, _ => trivial
  | p :: r, ar, h, ha, hb => ⟨free_nocP p ar (fun z => h (List.mem_append_left _ z)) ha (fun z => hb (List.mem_append_left _ z)), free_nocR r ar (fun z => h (List.mem_append_right _ z)) ha (fun z => hb (List.mem_append_right _ z))⟩
end
theorem sub_back {x c n : Str} (h : n ≠ c) : sub c x (sub x c n) = n := by
  unfold sub
  by_cases e : n = x
  · rw [if_pos e, if_pos rfl, e]
  · rw [if_neg e, if_neg h]
mutual
theorem backP {x c : Str} : ∀ p : Part, okP (noc c) p → lcP c x (lcP x c p) = p
  | .say n, h => by
    show Part.say (sub c x (sub x c n)) = _
    rw [sub_back h]
  | .again r, h => by
    show Part.again (lcR c x (lcR x c r)) = _
    rw [backR r h]
  | .oth w n r, h => by
    show Part.oth w (sub c x (sub x c n)) (lcR c x (lcR x c r)) = _
    rw [sub_back h.1, backR r h.2]
theorem backR {x c : Str} : ∀ r : List Part, okR (noc c) r → lcR c x (lcR x c r) = r
  | [], _ => rfl
  | p :: r, h => by
    show lcP c x (lcP x c p) :: lcR c x (lcR x c r) = _
    rw [backP p h.1, backR r h.2]
end
mutual
theorem lc_bdP {x c : Str} : ∀ p : Part, x ∉ bdP p → bdP (lcP x c p) = bdP p
  | .say n, _ => rfl
  | .again r, h => lc_bdR r h
  | .oth w n r, h => by
    unfold bdP at h
    have h1 : x ∉ bdR r := fun z => h (List.mem_append_right _ z)
    show (if w.binds then [sub x c n] else []) ++ bdR (lcR x c r) = (if w.binds then [n] else []) ++ bdR r
    rw [lc_bdR r h1]
    by_cases hw : w.binds = true
    · rw [if_pos hw] at h
      have hn : n ≠ x := fun e => h (by rw [e]; exact List.mem_append_left _ List.mem_cons_self)
      unfold sub
      rw [if_pos hw, if_pos hw, if_neg hn]
    · rw [if_neg hw, if_neg hw]
theorem lc_bdR {x c : Str} : ∀ r : List Part, x ∉ bdR r → bdR (lcR x c r) = bdR r
  | [], _ => rfl
  | p :: r, h => by
    unfold bdR at h
    show bdP (lcP x c p) ++ bdR (lcR x c r) = bdP p ++ bdR r
    rw [lc_bdP p (fun z => h (List.mem_append_left _ z)), lc_bdR r (fun z => h (List.mem_append_right _ z))]
end
/-- called, and called back -/
theorem called_back {x c : Str} {r : List Part} (hx : x ∉ bdR r) (hc : c ∉ bdR r) (hf : c ∉ freeR [] r) : calledR c x (calledR x c r) = r := by
  rw [called_lcR r hx, called_lcR _ (by rw [lc_bdR r hx]; exact hc)]
  exact backR r (free_nocR r [] hf (fun z => nomatch z) hc)
/-- the rest of a part -/
def restP : Part → List Part
  | .say _ => []
  | .again r => r
  | .oth _ _ r => r
theorem rest_bd {p : Part} {n : Str} (h : n ∈ bdR (restP p)) : n ∈ bdP p := by
  cases p with
  | say _ => cases h
  | again r => exact h
  | oth w m r => exact List.mem_append_right _ h
theorem bd_mem {n : Str} : ∀ {r : List Part}, ∀ p ∈ r, n ∈ bdP p → n ∈ bdR r
  | [], p, hp, _ => nomatch hp
  | q :: r, p, hp, h => by
    rcases List.mem_cons.mp hp with e | e
    · rw [← e]; exact List.mem_append_left _ h
    · exact List.mem_append_right _ (bd_mem p e h)
theorem rest_deep (p : Part) : deepR (restP p) ≤ deepP p := by
  cases p with
  | say _ => exact Nat.zero_le _
  | again r => exact Nat.le_succ _
  | oth w m r => exact Nat.le_succ _
theorem rest_size (p : Part) : sizeR (restP p) ≤ sizeP p := by
  cases p with
  | say _ => exact Nat.zero_le _
  | again r => exact Nat.le_succ _
  | oth w m r => exact Nat.le_succ _
theorem rest_ok {f : Str → Prop} {p : Part} (h : okP f p) : okR f (restP p) := by
  cases p with
  | say _ => trivial
  | again r => exact h
  | oth w m r => exact h.2
theorem num_sh {n : Int} (h0 : 0 ≤ n) (h1 : n < 10 ^ 10) : Sh 10 (Str.ofString (toString n)) := by
  refine ⟨?_, fun c hc => ?_⟩
  · rw [Array.length_toList]
    exact PySem.W.KT.len_num h0 h1
  · by_cases g : c < 128
    · exact g
    · exact absurd hc (int_text_free' c ⟨by omega, by omega⟩ n)
def spLCalled (n : Nat) : Sp := fun vs H Q _ => ∃ (v : V) (x c : Str) (r : List Part), vs = [v, .str x, .str c] ∧ RowAt H r v ∧ deepR r < n ∧ sizeR r ≤ 1000 ∧
  ∀ (H' : Hp) (u : V), Same H H' → RowAt H' (lcR x c r) u → Q u H'
def spFree (n : Nat) : Sp := fun vs H Q _ => ∃ (v : V) (a : Addr) (ar : List Str) (r : List Part), vs = [v, .ref a] ∧ RowAt H r v ∧ H a = some (.lst (ar.map V.str)) ∧ deepR r < n ∧ sizeR r ≤ 1000 ∧ ar.length + deepR r ≤ 1000 ∧
  ∀ (H' : Hp) (p : Addr), Same H H' → H p = none → H' p = some (.lst ((freeR ar r).map V.str)) → Q (.ref p) H'
theorem inV_strs (n : Str) : ∀ l : List Str, inV (.str n) (l.map V.str) = decide (n ∈ l)
  | [] => rfl
  | m :: l => by
    show (eqV (.str m) (.str n) || inV (.str n) (l.map V.str)) = _
    rw [inV_strs n l]
    show ((m == n) || decide (n ∈ l)) = _
    by_cases e : m = n
    · rw [e]; simp
    · have e2 : ¬ n = m := fun z => e z.symm
      simp [e, e2]
theorem flat_strs : ∀ l : List Str, (l.map V.str).all flatV = true
  | [] => rfl
  | m :: l => by
    show (true && (l.map V.str).all flatV) = true
    rw [flat_strs l]
    rfl
end Wk

set_option Elab.async false
set_option linter.all false
set_option maxRecDepth 100000
set_option maxHeartbeats 2000000
/-! A turn of a law that draws a house: what stands while it is drawn. -/
namespace Wk
open PySem PySem.Spec PyProof.Rows L2
theorem cut_ints {ns : List Int} {lo hi : Option Int} : ∀ v ∈ cutV (ns.map V.int) lo hi, ∃ i : Int, v = .int i := by
  intro v hv
  unfold cutV at hv
  obtain ⟨i, _, e⟩ := List.mem_map.mp (List.mem_of_mem_drop (List.mem_of_mem_take hv))
  exact ⟨i, e.symm⟩
theorem cut_len {ns : List Int} {lo hi : Option Int} (h : ns.length ≤ 63) : (cutV (ns.map V.int) lo hi).length ≤ 63 := by
  unfold cutV
  rw [List.length_take, List.length_drop, List.length_map]
  omega
theorem cut_to {zs : List Str} {k : Nat} (h : k ≤ zs.length) : cutV (zs.map V.str) none (some (k : Int)) = (zs.take k).map V.str := by
  unfold cutV
  rw [HT.sIx_none, HT.sIx_nat, List.length_map, Nat.min_eq_left h, List.drop_zero, Nat.sub_zero, List.map_take]
theorem cut_mid {zs : List Str} {i k : Nat} (h : k ≤ zs.length) (hi : i ≤ k) : cutV (zs.map V.str) (some (i : Int)) (some (k : Int)) = ((zs.drop i).take (k - i)).map V.str := by
  unfold cutV
  rw [HT.sIx_nat, HT.sIx_nat, List.length_map, Nat.min_eq_left h, Nat.min_eq_left (Nat.le_trans hi h), List.map_take, List.map_drop]
theorem cut_off {zs : List Str} {i : Nat} (hi : i ≤ zs.length) : cutV (zs.map V.str) (some (i : Int)) none = (zs.drop i).map V.str := by
  unfold cutV
  rw [HT.sIx_none, HT.sIx_nat, List.length_map, Nat.min_eq_left hi, List.map_drop]
  rw [List.take_of_length_le]
  rw [List.length_drop, List.length_map]
  exact Nat.le_refl _
/-- p holds the items, pn the names, L one number -/
structure Sit (p pn L : Addr) (items : List V) (zs : List Str) (H : Hp) : Prop where
  hp : H p = some (.lst items)
  hn : H pn = some (.lst (zs.map V.str))
  hL : ∃ n : Int, H L = some (.lst [.int n])
  pL : p ≠ L
  nL : pn ≠ L
section
variable {p pn L q : Addr} {items : List V} {zs : List Str} {H H' : Hp} {o : HO}
theorem Sit.new (x : Sit p pn L items zs H) (n : H q = none) : Sit p pn L items zs (upd H q o) := by
  obtain ⟨i, hi⟩ := x.hL
  exact ⟨kn x.hp n, kn x.hn n, ⟨i, kn hi n⟩, x.pL, x.nL⟩
theorem Sit.put (x : Sit p pn L items zs H) (n : Int) : Sit p pn L items zs (upd H L (.lst [.int n])) :=
  ⟨by rw [upd_ne x.pL]; exact x.hp, by rw [upd_ne x.nL]; exact x.hn, ⟨n, upd_same⟩, x.pL, x.nL⟩
theorem Sit.same (x : Sit p pn L items zs H) (s : Same H H') : Sit p pn L items zs H' := by
  obtain ⟨i, hi⟩ := x.hL
  exact ⟨s _ _ x.hp, s _ _ x.hn, ⟨i, s _ _ hi⟩, x.pL, x.nL⟩
theorem Sit.drawn {S : Addr} {sp : List Str} (x : Sit p pn L items zs H) (g : StG L S H H' sp) (h1 : p ≠ S) (h2 : pn ≠ S) : Sit p pn L items zs H' :=
  ⟨g.1 _ _ x.pL h1 x.hp, g.1 _ _ x.nL h2 x.hn, g.2.1, x.pL, x.nL⟩
end
theorem apart {zs : List Str} {s i j : Nat} {x : Str} (hn : ∀ i z, zs[i]? = some z → NameOf ((s + 5 * i) % 26) z) (hi : zs[i]? = some x) (hj : zs[j]? = some x) (li : i < 26) (lj : j < 26) : i = j := by
  have := (hn i x hi).inj (hn j x hj)
  omega
theorem names_sh {zs : List Str} {s : Nat} (hn : ∀ i z, zs[i]? = some z → NameOf ((s + 5 * i) % 26) z) : ∀ z ∈ zs, Sh 6 z := by
  intro z hz
  obtain ⟨i, hi⟩ := List.getElem?_of_mem hz
  exact (hn i z hi).sh (Nat.mod_lt _ (by decide))
theorem mid_mem {zs : List Str} {i k : Nat} {x : Str} (h : x ∈ (zs.drop i).take k) : ∃ j, i ≤ j ∧ j < i + k ∧ zs[j]? = some x := by
  obtain ⟨j, hj⟩ := List.getElem?_of_mem h
  have hl : j < k := by
    have := (List.getElem?_eq_some_iff.mp hj).1
    rw [List.length_take] at this
    omega
  rw [List.getElem?_take_of_lt hl, List.getElem?_drop] at hj
  exact ⟨i + j, by omega, by omega, hj⟩
theorem off_mem {zs : List Str} {i : Nat} {x : Str} (h : x ∈ zs.drop i) : ∃ j, i ≤ j ∧ j < zs.length ∧ zs[j]? = some x := by
  obtain ⟨j, hj⟩ := List.getElem?_of_mem h
  rw [List.getElem?_drop] at hj
  exact ⟨i + j, by omega, (List.getElem?_eq_some_iff.mp hj).1, hj⟩
theorem head_mem {zs : List Str} {k : Nat} {x : Str} (h : x ∈ zs.take k) : ∃ j, j < k ∧ zs[j]? = some x := by
  obtain ⟨j, hj⟩ := List.getElem?_of_mem h
  have hl : j < k := by
    have := (List.getElem?_eq_some_iff.mp hj).1
    rw [List.length_take] at this
    omega
  rw [List.getElem?_take_of_lt hl] at hj
  exact ⟨j, hl, hj⟩
theorem at_names {zs : List Str} {d : Int} (h0 : 0 ≤ d) (h1 : d < zs.length) : ∃ z, zs[d.toNat]? = some z ∧ atI (zs.map V.str) d = some (.str z) := by
  have hd : d.toNat < zs.length := by omega
  refine ⟨zs[d.toNat], List.getElem?_eq_getElem hd, ?_⟩
  have e : atI (zs.map V.str) ((d.toNat : Nat) : Int) = some (.str zs[d.toNat]) := atI_nat (by rw [List.getElem?_map, List.getElem?_eq_getElem hd]; rfl)
  rw [show ((d.toNat : Nat) : Int) = d by omega] at e
  exact e
/-- a row that is drawn, or the rest of one of its parts -/
structure ROk (bd : List Str) (f : Str → Prop) (d sz : Nat) (r : List Part) : Prop where
  bd : ∀ n ∈ bdR r, n ∈ bd
  deep : deepR r ≤ d
  size : sizeR r ≤ sz
  ok : okR f r
theorem ROk.rest {bd : List Str} {f : Str → Prop} {d sz : Nat} {r : List Part} (h : ROk bd f d sz r) {p : Part} (hp : p ∈ r) : ROk bd f d sz (restP p) :=
  ⟨fun n hn => h.bd n (bd_mem p hp (rest_bd hn)), Nat.le_trans (rest_deep p) (Nat.le_trans (deepR.mem p hp) h.deep), Nat.le_trans (rest_size p) (Nat.le_trans (sizeR.mem p hp) h.size), rest_ok (h.ok.mem p hp)⟩
theorem eqv_rows {f : Str → Prop} (hf : ∀ n, f n → PyData.strOk n = true) {r : List Part} (h : okR f r) : PyData.eqv (.tuple (dR r)) (.tuple (dR r)) = true :=
  SeqAt.eqv_refl _ (by simp only [PyData.canLay0]; exact layR hf r h)
end Wk

set_option Elab.async false
set_option linter.all false
set_option maxRecDepth 100000
set_option maxHeartbeats 2000000
/-! A generator expression whose element may call own defs: the generator's frame as a context of its own, each draw keeps it. -/
namespace Wk
open PySem PySem.Spec PyProof.Rows L2 GxR GenW
/-- the context of the generator's frame -/
abbrev gfx (X : Cx) (A' : Around) (s : Shared) (H : Hp) (cenv : Env) (fp : List Addr) (pn : List (Addr × Obj)) : Cx :=
  { X with A := A'.deeper cenv, s_0 := s, H_0 := H, env := cenv, outer := X.stack, stack := cenv :: X.stack, ex := fp, fn := fun _ => false, pn := pn, xe := fun _ _ => False }
theorem over_gen {A : Around} {elt : Expr} {cs : List Comprehension} {scope : Scope} {pos : Pos} {it : Value} {env : Env} :
    A.over (.compLoop (.GeneratorExp elt cs scope pos) 0 it .none env) [] = A.deeper env := by
  first
    | rfl
    | (obtain ⟨hd, d, fr, gs, u⟩ := A; simp [Around.over, Around.deeper, marksOver, frameCount, unitsOf, envsOf, guardsOf, pushEnvs, pushGuards, Code.envs, Code.env?, Code.isFrame, Code.guards, Code.isGuard, Code.weight, Code.frames, Code.isCreation, Code.isCaller, Code.cUnits])
theorem gen_start {X : Cx} {pins pins' : List (Addr × Obj)} {σ : L2.St} {H : Hp} {s s' : Shared} {scope : Scope} {own : List (Str × Nat)} {fp : List Addr} {pn : List (Addr × Obj)} {A' : Around} {code : Value} {cenv : Env} {m : Str → Option Value}
    (I : Inv X pins σ H s) (ok : BlkOk X.N X.env.scope scope own) (hN : X.N.Nodup) (hcell : ∀ y ∈ scope.names, y.2 ≠ .cell)
    (hfp : ∀ b ∈ fp, FpOk X pins H b ∧ b < s.heap.objs.size) (hA : A'.handled = none) (hA2 : A'.frames = some X.stack)
    (hce : cenv = genEnv scope (cloFrom X.env.cells scope.names []) s.heap.objs.size code builtinsNs X.env)
    (os : s'.os = s.os) (hb : AllBare s'.gens) (kp : ∀ b o, s.heap.get? b = some o → s'.heap.get? b = some o) (hn : s'.heap.Ns s.heap.objs.size m)
    (hpn : ∀ p ∈ pn ++ pins', s'.heap.get? p.1 = some p.2 ∧ H p.1 = none ∧ p.1 ≠ s.heap.objs.size ∧ p.1 ∉ frs X.stack ∧ ∀ v, p.2.data ≠ .cell v) :
    Inv (gfx X A' s H cenv fp pn) pins' (wipe σ (own.map (·.2))) H s' := by
  have hfree : ∀ y ∈ scope.names, y.2 = .free → ∃ c, X.env.cells.lookup y.1 = some c := fun y hy e => by
    rcases ok.free y hy e with k | k
    · exact I.ok.has _ (.inl k)
    · exact I.ok.has _ (.inr k)
  have hL : cenv.locals = s.heap.objs.size := by rw [hce]; rfl
  have hcl : cenv.cells = cloFrom X.env.cells scope.names [] := by rw [hce]; rfl
  have hsc : cenv.scope = scope := by rw [hce]; rfl
  have cm : ∀ {y c}, (y, c) ∈ cloFrom X.env.cells scope.names [] → X.env.cells.lookup y = some c ∧ c < s.heap.objs.size := fun {y c} hm => by
    rcases cloFrom_mem hm with hm | ⟨h1, rfl⟩
    · cases hm
    · obtain ⟨c, hc⟩ := hfree _ h1 rfl
      rw [hc]
      obtain ⟨w, z⟩ := I.cell _ _ hc
      exact ⟨rfl, z.lt⟩
  have mem : ∀ {y c}, cenv.cells.lookup y = some c → X.env.cells.lookup y = some c ∧ c < s.heap.objs.size := fun {y c} e => by
    rw [hcl] at e
    exact cm (PySem.mem_of_lookup e)
  have look : ∀ {y}, scope.names.lookup y = some .free → ∃ c, cenv.cells.lookup y = some c ∧ X.env.cells.lookup y = some c := fun {y} hl => by
    have hy : (y, NameKind.free) ∈ scope.names := PySem.mem_of_lookup hl
    obtain ⟨c', e'⟩ := mem_lookup (cloFrom_has (cells := X.env.cells) (acc := []) hy)
    rw [← hcl] at e'
    exact ⟨c', e', (mem e').1⟩
  have okB : (gfx X A' s H cenv fp pn).Ok := by
    refine ⟨I.ok.mod, by show cenv.scope.kind = _; rw [hsc]; exact ok.kind, by show cenv.globals = _; rw [hce]; exact I.ok.glob, by show cenv.builtins = _; rw [hce]; rfl, by show s.heap.objs.size ≤ cenv.locals; rw [hL]; exact Nat.le_refl _,
      fun y z c e1 e2 => I.ok.inj y z c (mem e1).1 (mem e2).1, fun y hy => ?_, fun y c z e => ?_, fun _ => hA, ?_, .inr ⟨rfl, by show cenv.frame = some cenv.locals; rw [hce]; rfl⟩, fun b hb => ⟨?_, fun y c e z => ?_⟩, I.bs, Nat.le_trans I.ok.bsz I.sz, fun b o e hb => ?_, fun b hb z => ?_, I.stack, I.stkFree⟩
    · have hy : scope.names.lookup y = some .cell ∨ scope.names.lookup y = some .free := by rw [← hsc]; exact hy
      rcases hy with hy | hy
      · exact absurd rfl (hcell _ (PySem.mem_of_lookup hy))
      · obtain ⟨c, e1, _⟩ := look hy
        exact ⟨c, e1⟩
    · have z : false = true := z
      cases z
    · show (A'.frames.map (cenv :: ·)) = some (cenv :: X.stack)
      rw [hA2]; rfl
    · show b ≠ cenv.locals
      rw [hL]; exact Nat.ne_of_lt (hfp b hb).2
    · exact (hfp b hb).1.2.2.2.2.1 y c (mem e).1 z
    · rcases (hfp b hb).1.2.2.2.1 with z | z
      · exact I.ok.noex b o e z
      · exact absurd (Nat.lt_of_lt_of_le (Heap.lt_size e) (Nat.le_trans I.ok.bsz z)) (Nat.lt_irrefl _)
    · rcases List.mem_cons.mp (I.stkSub b z) with z | z
      · exact (hfp b hb).1.2.1 z
      · exact (hfp b hb).1.2.2.1 z
  refine ⟨okB, os, hb, Un.kept kp, ⟨m, by show Heap.Ns _ cenv.locals _; rw [hL]; exact hn, fun i y av e1 e2 e3 => ?_⟩, fun y c e => ?_, ?_, fun y c e => I.freeC y c (mem e).1, fun p hp => ?_, I.hok.kept kp, by rw [wipe_length]; exact I.len⟩
  · obtain ⟨e2, hne⟩ := wipe_some e2
    have e3 : Vis scope y := by rw [← hsc]; exact e3
    have no : ∀ k', (k' = NameKind.local ∨ k' = .cell) → scope.names.lookup y ≠ some k' := fun k' hh e => by
      rcases ok.own _ (PySem.mem_of_lookup e) hh with e' | e'
      · obtain ⟨p, hp, hpy⟩ := List.mem_map.mp e'
        have e3 := ok.ix p hp
        have : p.1 = y := hpy
        rw [this] at e3
        exact hne (List.mem_map.mpr ⟨p, hp, nodup_ix hN e3 e1⟩)
      · exact e' (List.mem_of_getElem? e1)
    have hfr : scope.names.lookup y = some .free := by
      rcases e3 with e3 | e3 | e3
      · exact absurd e3 (no _ (.inl rfl))
      · exact absurd e3 (no _ (.inr rfl))
      · exact e3
    obtain ⟨m, hn, hl⟩ := I.loc
    have hvis : Vis X.env.scope y := (ok.free _ (PySem.mem_of_lookup hfr) rfl).elim (fun k => .inr (.inl k)) (fun k => .inr (.inr k))
    obtain ⟨w, r, q⟩ := hl i y av e1 e2 hvis
    refine ⟨w, r, .inr ⟨.inr (by show cenv.scope.names.lookup y = _; rw [hsc]; exact hfr), ?_⟩⟩
    obtain ⟨c, h1, h2⟩ := look hfr
    rcases q with ⟨k, _⟩ | ⟨_, c', e', z⟩
    · have k : X.env.scope.names.lookup y = some .local := k
      rcases ok.free _ (PySem.mem_of_lookup hfr) rfl with k' | k' <;> rw [show X.env.scope.names.lookup y = _ from k'] at k <;> cases k
    · rw [h2] at e'; cases e'
      exact ⟨c, h1, z.keeps kp⟩
  · obtain ⟨w, z⟩ := I.cell y c (mem e).1
    exact ⟨w, z.keeps kp⟩
  · show H cenv.locals = none
    rw [hL]; exact I.hok.fresh (Nat.le_refl _)
  · obtain ⟨p1, p2, p3, p4, p5⟩ := hpn p hp
    exact ⟨p1, p2, by show p.1 ≠ cenv.locals; rw [hL]; exact p3, p4, p5⟩

/-! ### while the generator sleeps -/
/-- the consumer's own objects at Ps may change, all else is kept -/
structure Slp (Ps : List Addr) (s s' : Shared) : Prop where
  os : s'.os = s.os
  bare : AllBare s'.gens
  keep : ∀ b o, b ∉ Ps → s.heap.get? b = some o → s'.heap.get? b = some o
  own : ∀ b ∈ Ps, ∃ o, s'.heap.get? b = some o ∧ ∀ v, o.data ≠ .cell v
def KeptP (Ps : List Addr) (s₀ s : Shared) : Prop := ∀ b ∈ Ps, ∀ o, s₀.heap.get? b = some o → s.heap.get? b = some o
theorem KeptP.refl (Ps : List Addr) (s : Shared) : KeptP Ps s s := fun _ _ _ e => e
theorem KeptP.trans {Ps : List Addr} {a b c : Shared} (x : KeptP Ps a b) (y : KeptP Ps b c) : KeptP Ps a c := fun d hd o e => y d hd o (x d hd o e)
/-- the consumer's objects are none of the generator's -/
structure Far (X : Cx) (fp Ps : List Addr) : Prop where
  old : ∀ b ∈ Ps, X.s_0.heap.objs.size ≤ b
  loc : ∀ b ∈ Ps, b ≠ X.env.locals
  cel : ∀ b ∈ Ps, ∀ x c, X.env.cells.lookup x = some c → c ≠ b
  apn : ∀ b ∈ Ps, ∀ p ∈ X.pn, p.1 ≠ b
  afs : ∀ b ∈ Ps, b ∉ X.fs
  afp : ∀ b ∈ fp, b ∉ Ps
  aex : ∀ b ∈ fp, b ∈ X.ex
  exp : ∀ b ∈ fp, ∀ p ∈ X.pn, p.1 ≠ b
/-- at turn i -/
structure GAt (X : Cx) (fp Ps : List Addr) (tn : Nat → Heap → Prop) (τ : L2.St) (W : Nat → Hp → Prop) (i : Nat) (H : Hp) (s : Shared) : Prop where
  inv : Inv X [] τ H s
  tn : tn i s.heap
  nfp : ∀ b ∈ fp, H b = none
  nps : ∀ b ∈ Ps, H b = none
  obj : ∀ b ∈ Ps, ∃ o, s.heap.get? b = some o ∧ ∀ v, o.data ≠ .cell v
  w : W i H
theorem GAt.slept {X : Cx} {fp Ps : List Addr} {tn : Nat → Heap → Prop} {τ : L2.St} {W : Nat → Hp → Prop} {i : Nat} {H : Hp} {s s' : Shared} (F : Far X fp Ps)
    (hk : ∀ i h h', tn i h → (∀ b ∈ fp, ∀ o, h.get? b = some o → h'.get? b = some o) → tn i h') (G : GAt X fp Ps tn τ W i H s) (z : Slp Ps s s') : GAt X fp Ps tn τ W i H s' := by
  obtain ⟨I, t, nf, np, ob, w⟩ := G
  obtain ⟨z1, z2, z3, z4⟩ := z
  have nt : ∀ b u, H b = some u → b ∉ Ps := fun b u q hb => by rw [np b hb] at q; cases q
  obtain ⟨hh, g, d, tk, o⟩ := s'
  have ho : o = s.os := z1
  subst ho
  refine ⟨?_, hk _ _ _ t fun b hb o e => z3 b o (F.afp b hb) e, nf, np, z4, w⟩
  refine I.step (g' := g) (t' := tk) (d' := d) (ch := Ps) (fun b hb => ⟨.inr (F.old b hb), F.loc b hb, F.cel b hb, fun p hp => F.apn b hb p (by simpa using hp)⟩)
    (fun b ob _ _ hc q _ => z3 b ob hc q) (fun b ob _ _ hc q _ => ⟨ob.slots, z3 b ob hc q⟩) (fun _ _ _ _ n => n) (fun b ob hc q => ⟨ob, z3 b ob hc q⟩)
    (fun _ _ q => q) (fun _ _ _ q => q) (fun b ps q => ⟨#[], by rw [q]; simp⟩) (fun m hm => ?_) (fun b u q => ?_) z2
  · obtain ⟨ob, es, ep, ho, r⟩ := hm
    exact ⟨ob, es, ep, z3 _ ob (fun z => F.loc _ z rfl) ho, r⟩
  · refine (I.hok b u q).stay (fun c v hc y => z3 c v ?_ y) (fun _ y => y) fun _ _ y => y
    rcases hc with y | y
    · rw [y]; exact nt b u q
    · exact nt c _ y
theorem Slp.refl_of {X : Cx} {fp Ps : List Addr} {tn : Nat → Heap → Prop} {τ : L2.St} {W : Nat → Hp → Prop} {i : Nat} {H : Hp} {s : Shared} (G : GAt X fp Ps tn τ W i H s) : Slp Ps s s :=
  ⟨rfl, G.inv.bare, fun _ _ _ e => e, G.obj⟩

/-! ### the generator's own run -/
section
variable {X : Cx} {A' : Around} {elt tg iter : Expr} {scope : Scope} {pos : Pos} {it : Addr} {fp Ps : List Addr} {tn : Nat → Heap → Prop} {J : It} {τ : L2.St} {vs : List Nat} {W : Nat → Hp → Prop} {n₀ : Nat} {val : Nat → V} {g : TG} {te : TE}
def gEnd (X : Cx) (fp Ps : List Addr) (τ : L2.St) (W : Nat → Hp → Prop) (n₀ : Nat) : Nat → Shared → Shared → Prop := fun n s₀ s₁ => n = 0 ∧ (∃ H, GAt X fp Ps (fun _ _ => True) τ W n₀ H s₁) ∧ KeptP Ps s₀ s₁
def gPro (X : Cx) (fp Ps : List Addr) (tn : Nat → Heap → Prop) (τ : L2.St) (W : Nat → Hp → Prop) (n₀ : Nat) (val : Nat → V) : Protocol := fun n s₀ v s₁ kap =>
  RelV (val (n₀ - 1 - n)) v ∧ (∃ H, GAt X fp Ps tn τ W (n₀ - n) H s₁) ∧ KeptP Ps s₀ s₁ ∧ ∀ s₂, Slp Ps s₁ s₂ → kap (.send .none) s₂
/-- what each turn does -/
def Turns (J : It) (W : Nat → Hp → Prop) (n₀ : Nat) (g : TG) (te : TE) (τ : L2.St) (vs : List Nat) (val : Nat → V) : Prop :=
  ∀ i H, i ≤ n₀ → W i H → (i = n₀ ∧ J.stop i H) ∨ (i < n₀ ∧ J.go i H ∧ ∀ x H', J.yld i H x H' → g x τ H' fun σ2 H2 => wipe σ2 vs = τ ∧ te σ2 H2 fun y H3 => y = val i ∧ W (i + 1) H3)
theorem seg_gx (hA : X.A = A'.over (.compLoop (.GeneratorExp elt [⟨tg, iter, [], 0⟩] scope pos) 0 (.ref it) .none X.env) []) (hc : X.calm = true) (hxe : X.xe = fun _ _ => False) (hco : X.env.scope.isCoroutine = false)
    (T : Turn X.prog X.w X.K tg J fp it tn) (pg : PG X tg g) (pe : PE X elt te) (F : Far X fp Ps) (hτ : ∀ σ : L2.St, wipe σ vs = τ → τ.length = σ.length ∧ ∀ (j : Nat) v, τ[j]? = some (some v) → σ[j]? = some (some v)) (turn : Turns J W n₀ g te τ vs val) :
    ∀ (k i : Nat) (s₀ s : Shared) (H : Hp), n₀ - i = k → i ≤ n₀ → GAt X fp Ps tn τ W i H s → KeptP Ps s₀ s →
      Seg (model X.prog X.w) A' (fun n s₀ r s₁ => r = .ok .next ∧ gEnd X fp Ps τ W n₀ n s₀ s₁) (gPro X fp Ps tn τ W n₀ val) (n₀ - i) s₀
        (.compLoop (.GeneratorExp elt [⟨tg, iter, [], 0⟩] scope pos) 0 (.ref it) .none X.env)
        ((model X.prog X.w).den (.compLoop (.GeneratorExp elt [⟨tg, iter, [], 0⟩] scope pos) 0 (.ref it) .none X.env)) [] s := by
  have stat : ∀ {pins : List (Addr × Obj)} {H' : Hp} {s' : Shared}, Inv X pins τ H' s' → (∀ b ∈ fp, H' b = none) → (∀ p ∈ pins, p.1 ∈ Ps) → ∀ b ∈ fp, FpOk X pins H' b := fun {pins H' s'} I' hn hp b hb =>
    ⟨hn b hb, (I'.ok.exf b (F.aex b hb)).1, I'.ok.exfs b (F.aex b hb), .inl (F.aex b hb), fun x c e => (I'.ok.exf b (F.aex b hb)).2 x c e, fun p hp' => by
      rcases List.mem_append.mp hp' with z | z
      · exact F.exp b hb p z
      · exact fun e => F.afp b hb (e ▸ hp p z)⟩
  have pin0 : ∀ {i : Nat} {H : Hp} {s : Shared}, GAt X fp Ps tn τ W i H s → Inv X (pinsAt Ps s.heap) τ H s := fun {i H s} G => G.inv.pins_of fun p hp => by
    obtain ⟨hb, e⟩ := of_pinsAt hp
    obtain ⟨o, e', d⟩ := G.obj p.1 hb
    rw [e] at e'; cases e'
    exact ⟨e, G.nps _ hb, F.loc _ hb, F.afs _ hb, d⟩
  have npsOf : ∀ {i : Nat} {H H' : Hp} {s s' : Shared} {pins : List (Addr × Obj)} {σ' : L2.St}, GAt X fp Ps tn τ W i H s → Inv X (pinsAt Ps s.heap ++ pins) σ' H' s' →
      KeptP Ps s s' ∧ (∀ b ∈ Ps, H' b = none) ∧ ∀ b ∈ Ps, ∃ o, s'.heap.get? b = some o ∧ ∀ v, o.data ≠ .cell v := fun {i H H' s s' pins σ'} G I' => by
    have q : ∀ b ∈ Ps, ∀ o, s.heap.get? b = some o → s'.heap.get? b = some o ∧ H' b = none ∧ ∀ v, o.data ≠ .cell v := fun b hb o e =>
      let z := I'.pin (b, o) (List.mem_append_right _ (List.mem_append_left _ (mem_pinsAt hb e)))
      ⟨z.1, z.2.1, z.2.2.2.2⟩
    refine ⟨fun b hb o e => (q b hb o e).1, fun b hb => ?_, fun b hb => ?_⟩
    · obtain ⟨o, e, _⟩ := G.obj b hb
      exact (q b hb o e).2.1
    · obtain ⟨o, e, _⟩ := G.obj b hb
      exact ⟨o, (q b hb o e).1, (q b hb o e).2.2⟩
  intro k
  induction k with
  | zero =>
    intro i s₀ s H hk hi G kp
    have hin : i = n₀ := by omega
    subst hin
    have stop : J.stop i H := by
      rcases turn i H hi G.w with ⟨_, stop⟩ | ⟨z, _⟩
      · exact stop
      · omega
    show Seg _ A' _ _ _ s₀ _ ((compTurn (.GeneratorExp elt [⟨tg, iter, [], 0⟩] scope pos) 0 (.ref it) .none X.env).onRaise (leaving X.env)) [] s
    rw [compTurn_gen, Sem.onRaise_eq_wrap]
    refine seg_bind_wrap (wpAny_standAt ?_)
    refine seg_bind_wrap ?_
    rw [← hA]
    have I0 := pin0 G
    refine thnF (T.done X rfl rfl rfl hc i (pinsAt Ps s.heap) s τ H (fun _ _ => False) I0 (stat I0 G.nfp fun p hp => (of_pinsAt hp).1) G.tn stop) fun r s6 ⟨hr, I6⟩ => ?_
    subst hr
    have I6' : Inv X (pinsAt Ps s.heap ++ []) τ H s6 := by rw [List.append_nil]; exact I6
    obtain ⟨q1, q2, q3⟩ := npsOf G I6'
    exact seg_end (.ok .next) ⟨rfl, by omega, ⟨H, I6.pins_of (fun p hp => by cases hp), True.intro, G.nfp, q2, q3, G.w⟩, kp.trans q1⟩
  | succ k ih =>
    intro i s₀ s H hk hi G kp
    have hlt : i < n₀ := by omega
    obtain ⟨go, step⟩ : J.go i H ∧ ∀ x H', J.yld i H x H' → g x τ H' fun σ2 H2 => wipe σ2 vs = τ ∧ te σ2 H2 fun y H3 => y = val i ∧ W (i + 1) H3 := by
      rcases turn i H hi G.w with ⟨z, _⟩ | ⟨_, z⟩
      · omega
      · exact z
    obtain ⟨m, hm⟩ : ∃ m, n₀ - i = m + 1 := ⟨n₀ - i - 1, by omega⟩
    rw [hm]
    show Seg _ A' _ _ _ s₀ _ ((compTurn (.GeneratorExp elt [⟨tg, iter, [], 0⟩] scope pos) 0 (.ref it) .none X.env).onRaise (leaving X.env)) [] s
    rw [compTurn_gen, Sem.onRaise_eq_wrap]
    refine seg_bind_wrap (wpAny_standAt ?_)
    refine seg_bind_wrap ?_
    rw [← hA]
    have I0 := pin0 G
    refine thnF (T.item X rfl rfl rfl hc i (pinsAt Ps s.heap) s τ H (fun _ _ => False) I0 (stat I0 G.nfp fun p hp => (of_pinsAt hp).1) G.tn go) fun r s6 ⟨u, hr, h6⟩ => ?_
    subst hr
    refine seg_bind_wrap ?_
    rw [← hA]
    refine thnF h6 fun _ s7 ⟨x, H7, I7, r7, y7, st7, n7⟩ => ?_
    have I7' := I7.pinned (stat I7 n7 fun p hp => (of_pinsAt hp).1) (T.obj _ _ st7)
    refine seg_bind_wrap ?_
    rw [← hA]
    have w8 := pg.run _ s7 _ H7 x u _ I7' r7 (step x H7 y7)
    rw [hxe] at w8
    refine thnF w8 fun _ s8 ⟨σ8, H8, I8, hw8, q8⟩ => ?_
    simp only [List.forIn_nil]
    refine seg_bind_wrap (wpAny_pure ?_)
    simp only [if_true]
    have hy : ∀ v, yieldOut X.env v = yieldValue v := fun v => by simp only [yieldOut, hco, Bool.false_eq_true, if_false]
    simp only [hy]
    rw [Sem.bind_eq_wrap', Sem.bind_eq_wrap', Sem.wrap_wrap, Sem.wrap_wrap]
    refine seg_wrap ?_
    rw [← hA]
    have w9 := pe.run _ s8 σ8 H8 _ I8 q8
    rw [hxe] at w9
    refine thnF w9 fun z s10 ⟨yv, H10, I10, r10, hv, nx⟩ => ?_
    subst hv
    obtain ⟨q1, q2, q3⟩ := npsOf G I10
    obtain ⟨hl, hw⟩ := hτ σ8 hw8
    have pinF : ∀ b ∈ fp, ∀ o, s7.heap.get? b = some o → s10.heap.get? b = some o ∧ H10 b = none := fun b hb o e =>
      let z := I10.pin (b, o) (List.mem_append_right _ (List.mem_append_right _ (mem_pinsAt hb e)))
      ⟨z.1, z.2.1⟩
    have G10 : GAt X fp Ps tn τ W (i + 1) H10 s10 := by
      refine ⟨(I10.pins_of (fun p hp => by cases hp)).weak hl hw, T.keep _ _ _ st7 fun b hb o e => (pinF b hb o e).1, fun b hb => ?_, q2, q3, nx⟩
      obtain ⟨o, e, _⟩ := T.obj _ _ st7 b hb
      exact (pinF b hb o e).2
    have e1 : n₀ - 1 - m = i := by omega
    have e2 : n₀ - m = i + 1 := by omega
    refine seg_at (seg_yield rfl rfl rfl ⟨?_, ?_, kp.trans q1, fun s'' hal => ?_⟩)
    · rw [e1]; exact r10
    · rw [e2]; exact ⟨H10, G10⟩
    · have r := ih (i + 1) s'' s'' H10 (by omega) hlt (G10.slept F T.keep hal) (KeptP.refl _ _)
      rw [show n₀ - (i + 1) = m from by omega] at r
      exact seg_again rfl r
end
end Wk

set_option Elab.async false
set_option linter.all false
set_option maxRecDepth 100000
set_option maxHeartbeats 2000000
namespace Wk
open PySem PySem.Spec PyProof.Rows L2 GxR GenW
section
variable {X : Cx} {A' A : Around} {elt tg iter : Expr} {scope : Scope} {pos : Pos} {it a : Addr} {gn : Nat} {go : Obj} {fp Ps : List Addr} {tn : Nat → Heap → Prop} {J : It} {τ : L2.St} {vs : List Nat} {W : Nat → Hp → Prop} {n₀ : Nat} {val : Nat → V} {g : TG} {te : TE}
theorem seg_gs (hA : X.A = A'.over (.compLoop (.GeneratorExp elt [⟨tg, iter, [], 0⟩] scope pos) 0 (.ref it) .none X.env) []) (hc : X.calm = true) (hxe : X.xe = fun _ _ => False) (hco : X.env.scope.isCoroutine = false)
    (T : Turn X.prog X.w X.K tg J fp it tn) (pg : PG X tg g) (pe : PE X elt te) (F : Far X fp Ps) (hτ : ∀ σ : L2.St, wipe σ vs = τ → τ.length = σ.length ∧ ∀ (j : Nat) v, τ[j]? = some (some v) → σ[j]? = some (some v)) (turn : Turns J W n₀ g te τ vs val)
    {s₀ s : Shared} {H : Hp} (G : GAt X fp Ps tn τ W 0 H s) (kp : KeptP Ps s₀ s) :
    Seg (model X.prog X.w) A' (fun n s₀ r s₁ => r = .ok .next ∧ gEnd X fp Ps τ W n₀ n s₀ s₁) (gPro X fp Ps tn τ W n₀ val) n₀ s₀
      (.compStart (.GeneratorExp elt [⟨tg, iter, [], 0⟩] scope pos) 0 (.ref it) .none X.env)
      ((model X.prog X.w).den (.compStart (.GeneratorExp elt [⟨tg, iter, [], 0⟩] scope pos) 0 (.ref it) .none X.env)) [] s := by
  have loop := seg_gx (iter := iter) (scope := scope) (pos := pos) hA hc hxe hco T pg pe F hτ turn n₀ 0 s₀ s H (Nat.sub_zero _) (Nat.zero_le _) G kp
  rw [Nat.sub_zero] at loop
  show Seg _ A' _ _ _ s₀ _ ((compStart (.GeneratorExp elt [⟨tg, iter, [], 0⟩] scope pos) 0 (.ref it) .none X.env).onRaise (leaving X.env)) [] s
  unfold compStart
  rw [Sem.onRaise_eq_wrap]
  show Seg _ A' _ _ _ s₀ _ ((ask >>= _).wrap _ _ _ _) [] s
  refine seg_bind_wrap (wpAny_askSetting ?_)
  split
  · exact seg_again rfl loop
  · first
      | exact seg_bind_wrap (wpAny_rule (seg_bind_wrap (wpAny_standAt (seg_bind_wrap (T.self _ 0 s _ _ G.tn (seg_again rfl loop))))))
      | (refine seg_bind_wrap (wpAny_rule ?_); show Seg _ A' _ _ _ s₀ _ ((standAt iter.pos >>= _).wrap _ _ _ _) [] s; exact seg_bind_wrap (wpAny_standAt (seg_bind_wrap (T.self _ 0 s _ _ G.tn (seg_again rfl loop)))))
/-- asleep at turn i, ready to be woken -/
structure Awk (X : Cx) (A' : Around) (fp Ps : List Addr) (tn : Nat → Heap → Prop) (τ : L2.St) (W : Nat → Hp → Prop) (n₀ : Nat) (val : Nat → V) (gn : Nat) (i : Nat) (s : Shared) : Prop where
  ate : ∃ H, GAt X fp Ps tn τ W i H s
  rdy : ∃ gs, s.gens[gn]? = some gs ∧ ∀ s', Slp Ps s s' → gs.Goes (model X.prog X.w) A' (fun n s₀ r s₁ => r = .ok .next ∧ gEnd X fp Ps τ W n₀ n s₀ s₁) (gPro X fp Ps tn τ W n₀ val) (n₀ - i) (.send .none) s'
theorem Slp.trans {Ps : List Addr} {s s' s'' : Shared} (x : Slp Ps s s') (y : Slp Ps s' s'') : Slp Ps s s'' := ⟨y.os.trans x.os, y.bare, fun b o hb e => y.keep b o hb (x.keep b o hb e), y.own⟩
/-- the consumer's own doings -/
theorem Awk.slept {i : Nat} {s s' : Shared} (F : Far X fp Ps) (hk : ∀ i h h', tn i h → (∀ b ∈ fp, ∀ o, h.get? b = some o → h'.get? b = some o) → tn i h') (w : Awk X A' fp Ps tn τ W n₀ val gn i s) (z : Slp Ps s s') (hg : s'.gens = s.gens) : Awk X A' fp Ps tn τ W n₀ val gn i s' := by
  obtain ⟨⟨H, G⟩, gs, e, r⟩ := w
  exact ⟨⟨H, G.slept F hk z⟩, gs, by rw [hg]; exact e, fun s'' z' => r s'' (z.trans z')⟩
theorem GAt.top {i : Nat} {H : Hp} {s : Shared} (G : GAt X fp Ps tn τ W i H s) : GAt X fp Ps (fun _ _ => True) τ W i H s := ⟨G.inv, True.intro, G.nfp, G.nps, G.obj, G.w⟩
theorem Awk.item (hA1 : A' = A.in1) (hh : A.handled = none) (hroom : A.depth < recursionLimit) (F : Far X fp Ps) (hk : ∀ i h h', tn i h → (∀ b ∈ fp, ∀ o, h.get? b = some o → h'.get? b = some o) → tn i h') (hpn : (a, go) ∈ X.pn) (hG : ∀ h : Heap, h.get? a = some go → h.IsGen a gn)
    {i : Nat} {s : Shared} {Q : Option Value → Shared → Prop} {E : Value → Shared → Prop} (hi : i < n₀) (w : Awk X A' fp Ps tn τ W n₀ val gn i s)
    (hQ : ∀ v s', RelV (val i) v → Awk X A' fp Ps tn τ W n₀ val gn (i + 1) s' → KeptP Ps s s' → Q (some v) s') : wpAny (model X.prog X.w) A (pyNext (.ref a)) Q E s := by
  subst hA1
  obtain ⟨⟨H, G⟩, gs, hgs, hgo⟩ := w
  obtain ⟨m, hm⟩ : ∃ m, n₀ - i = m + 1 := ⟨n₀ - i - 1, by omega⟩
  rw [hm] at hgo
  have hg := hG _ (G.inv.pin (a, go) (List.mem_append_left _ hpn)).1
  have z0 : Slp Ps s (s.setGen gn .running) := ⟨rfl, G.inv.bare.moved (GenOnlyQ.of (GenOnly.setGen s gn .running) (setGen_self hgs) rfl), fun _ _ _ e => e, G.obj⟩
  have hlt : gn < s.gens.size := by
    rcases Nat.lt_or_ge gn s.gens.size with z | z
    · exact z
    · rw [Array.getElem?_eq_none z] at hgs; cases hgs
  refine wpAny_gsz (Nat.le_refl s.gens.size) ?_
  refine wpAny_pyNext_genexpQ (P := gEnd X fp Ps τ W n₀) hh G.inv.nolimit hroom hg hgs (hgo _ z0) (fun v s₁ gs' hb hv => ?_) (fun s₁ hp h' hk => ?_)
  · obtain ⟨rv, ⟨H1, G1⟩, kp, hkap⟩ := hv
    have e1 : n₀ - 1 - (m + 1 - 1) = i := by omega
    have e2 : n₀ - (m + 1 - 1) = i + 1 := by omega
    rw [e1] at rv
    rw [e2] at G1
    intro hsz
    have hsz1 : s.gens.size ≤ s₁.gens.size := by rw [setGen_size] at hsz; exact hsz
    have hlt1 : gn < s₁.gens.size := Nat.lt_of_lt_of_le hlt hsz1
    have hs1 : (s₁.setGen gn gs').gens[gn]? = some gs' := setGen_self (Array.getElem?_eq_getElem hlt1)
    have z1 : Slp Ps s₁ (s₁.setGen gn gs') := ⟨rfl, G1.inv.bare.moved (GenOnlyQ.of (GenOnly.setGen s₁ gn gs') hs1 hb), fun _ _ _ e => e, G1.obj⟩
    refine hQ v _ rv ⟨⟨H1, G1.slept F hk z1⟩, gs', hs1, fun s'' hal => ?_⟩ kp
    have e : n₀ - (i + 1) = m := by omega
    rw [e]
    exact hkap s'' (z1.trans hal)
  · exact absurd hp.1 (Nat.succ_ne_zero m)
theorem Awk.done (hA1 : A' = A.in1) (hh : A.handled = none) (hroom : A.depth < recursionLimit) (F : Far X fp Ps) (hpn : (a, go) ∈ X.pn) (hG : ∀ h : Heap, h.get? a = some go → h.IsGen a gn)
    {s : Shared} {Q : Option Value → Shared → Prop} {E : Value → Shared → Prop} (w : Awk X A' fp Ps tn τ W n₀ val gn n₀ s)
    (hQ : ∀ s' H, GAt X fp Ps (fun _ _ => True) τ W n₀ H s' → KeptP Ps s s' → Q none s') : wpAny (model X.prog X.w) A (pyNext (.ref a)) Q E s := by
  subst hA1
  obtain ⟨⟨H, G⟩, gs, hgs, hgo⟩ := w
  rw [Nat.sub_self] at hgo
  have hg := hG _ (G.inv.pin (a, go) (List.mem_append_left _ hpn)).1
  have z0 : Slp Ps s (s.setGen gn .running) := ⟨rfl, G.inv.bare.moved (GenOnlyQ.of (GenOnly.setGen s gn .running) (setGen_self hgs) rfl), fun _ _ _ e => e, G.obj⟩
  have hlt : gn < s.gens.size := by
    rcases Nat.lt_or_ge gn s.gens.size with z | z
    · exact z
    · rw [Array.getElem?_eq_none z] at hgs; cases hgs
  refine wpAny_gsz (Nat.le_refl s.gens.size) ?_
  refine wpAny_pyNext_genexpQ (P := gEnd X fp Ps τ W n₀) hh G.inv.nolimit hroom hg hgs (hgo _ z0) (fun v s₁ gs' hb hv => ?_) (fun s₁ hp h' hk => ?_)
  · obtain ⟨_, ⟨H1, G1⟩, _, hkap⟩ := hv
    exact False.elim (hkap s₁ (Slp.refl_of G1))
  · obtain ⟨_, ⟨H1, G1⟩, kp⟩ := hp
    intro hsz
    have hsz1 : s.gens.size ≤ s₁.gens.size := by
      have z : s.gens.size ≤ (s₁.setGen gn .finished).gens.size := hsz
      rw [setGen_size] at z; exact z
    have hs1 : (s₁.setGen gn .finished).gens[gn]? = some .finished := setGen_self (Array.getElem?_eq_getElem (Nat.lt_of_lt_of_le hlt hsz1))
    have b1 : AllBare (s₁.setGen gn .finished).gens := G1.inv.bare.moved (GenOnlyQ.of (GenOnly.setGen s₁ gn .finished) hs1 rfl)
    have z1 : Slp Ps s₁ { s₁.setGen gn .finished with heap := h' } := ⟨rfl, b1, fun b o _ e => hk b o e, fun b hb => by
      obtain ⟨o, e, d⟩ := G1.obj b hb
      exact ⟨o, hk b o e, d⟩⟩
    exact hQ _ H1 (G1.slept F (fun _ _ _ _ _ => True.intro) z1) fun b hb o e => hk b o (kp b hb o e)

/-! ### all, any, sum of it -/
theorem all_gx (hA1 : A' = A.in1.in1) (hh : A.handled = none) (hroom : A.depth < recursionLimit) (F : Far X fp Ps) (hk : ∀ i h h', tn i h → (∀ b ∈ fp, ∀ o, h.get? b = some o → h'.get? b = some o) → tn i h') (hpn : (a, go) ∈ X.pn) (hG : ∀ h : Heap, h.get? a = some go → h.IsGen a gn)
    {tr : Nat → Bool} (hv : ∀ j, val j = .bl (tr j)) {R : Result → Shared → Prop} (h1 : ∀ s' H, (∀ j, j < n₀ → tr j = true) → GAt X fp Ps (fun _ _ => True) τ W n₀ H s' → R (.ok (.ret (.bool true))) s')
    (h2 : ∀ s' H j, j < n₀ → tr j = false → GAt X fp Ps (fun _ _ => True) τ W (j + 1) H s' → R (.ok (.ret (.bool false))) s') :
    ∀ (k i : Nat) (s : Shared), n₀ - i = k → i ≤ n₀ → (∀ j, j < i → tr j = true) → Awk X A' fp Ps tn τ W n₀ val gn i s → codeAny (model X.prog X.w) A (.builtin "all.loop" ⟨[.ref a], []⟩) R s := by
  intro k
  induction k with
  | zero =>
    intro i s hk' hi ha w
    have hin : i = n₀ := by omega
    subst hin
    refine codeAny_builtin PySem.F.entry_all_loop ?_
    rw [Around.under_plainId PySem.F.plain_all_loop _]
    show wpAny _ A.in1 (pyNext (.ref a) >>= _) _ _ s
    refine wpAny_bind (Awk.done (A := A.in1) hA1 hh hroom F hpn hG w fun s' H G _ => ?_)
    exact wpAny_bind (wpAny_rule (wpAny_pure (h1 s' H ha G)))
  | succ k ih =>
    intro i s hk' hi ha w
    have hlt : i < n₀ := by omega
    refine codeAny_builtin PySem.F.entry_all_loop ?_
    rw [Around.under_plainId PySem.F.plain_all_loop _]
    show wpAny _ A.in1 (pyNext (.ref a) >>= _) _ _ s
    refine wpAny_bind (Awk.item (A := A.in1) hA1 hh hroom F hk hpn hG hlt w fun v s' rv w' _ => ?_)
    rw [hv i] at rv
    have e : v = .bool (tr i) := rv
    subst e
    refine wpAny_bind (wpAny_holding (wpAny_truthy_bool ?_))
    refine wpAny_bind (wpAny_letGo ?_)
    cases hb : tr i with
    | true =>
      simp only [if_true]
      refine wpAny_pure ⟨plainId_quiet PySem.F.plain_all_loop _, ih (i + 1) _ (by omega) hlt (fun j hj => ?_) w'⟩
      rcases Nat.lt_or_ge j i with z | z
      · exact ha j z
      · rw [show j = i from by omega]; exact hb
    | false =>
      simp only [Bool.false_eq_true, if_false]
      obtain ⟨⟨H, G⟩, _⟩ := w'
      exact wpAny_bind (wpAny_rule (wpAny_pure (h2 s' H i hlt hb G.top)))
end
end Wk

set_option Elab.async false
set_option linter.all false
set_option maxRecDepth 100000
set_option maxHeartbeats 2000000
namespace Wk
open PySem PySem.Spec PyProof.Rows L2 GxR GenW
section
variable {X : Cx} {A' A : Around} {elt tg iter : Expr} {scope : Scope} {pos : Pos} {it a S : Addr} {gn : Nat} {go : Obj} {fp Ps : List Addr} {tn : Nat → Heap → Prop} {J : It} {τ : L2.St} {vs : List Nat} {W : Nat → Hp → Prop} {n₀ : Nat} {val : Nat → V} {g : TG} {te : TE}
theorem sum_gx (hA1 : A' = A.in1.in1) (hh : A.handled = none) (hroom : A.depth < recursionLimit) (F : Far X fp [S]) (hk : ∀ i h h', tn i h → (∀ b ∈ fp, ∀ o, h.get? b = some o → h'.get? b = some o) → tn i h') (hpn : (a, go) ∈ X.pn) (hG : ∀ h : Heap, h.get? a = some go → h.IsGen a gn)
    {vi : Nat → Int} (hv : ∀ j, val j = .int (vi j)) (hfit : ∀ j, j < n₀ → InLong (vi j) ∧ InLong (preSum vi (j + 1))) {R : Result → Shared → Prop} (h1 : ∀ s' t' H, GAt X fp [S] (fun _ _ => True) τ W n₀ H s' → R (.ok (.ret (.int (preSum vi n₀) t'))) s') :
    ∀ (k i : Nat) (s : Shared) (tA : Tok) (c : Nat), n₀ - i = k → i ≤ n₀ → Awk X A' fp [S] tn τ W n₀ val gn i s → s.heap.get? S = some { cls := .type "list", dict := none, data := .seq #[.int (preSum vi i) tA] c, slots := #[] } →
      codeAny (model X.prog X.w) A (.builtin "sum.loop" ⟨[.ref a, .ref S, rawInt 0, rawInt 0], []⟩) R s := by
  intro k
  induction k with
  | zero =>
    intro i s tA c hk' hi w hS
    have hin : i = n₀ := by omega
    subst hin
    refine codeAny_builtin PySem.F.entry_sum_loop ?_
    rw [Around.under_plainId PySem.F.plain_sum_loop _]
    show wpAny _ A.in1 (seqItems? (.ref S) >>= _) _ _ s
    refine wpAny_bind (wpAny_seqItems hS rfl ?_)
    show wpAny _ A.in1 (tryCatch (pyNext (.ref a)) _ >>= _) _ _ s
    refine wpAny_bind (wpAny_tryCatch (Awk.done (A := A.in1) hA1 hh hroom F hpn hG w fun s' H G _ => ?_))
    exact wpAny_pure (h1 s' tA H G)
  | succ k ih =>
    intro i s tA c hk' hi w hS
    have hlt : i < n₀ := by omega
    refine codeAny_builtin PySem.F.entry_sum_loop ?_
    rw [Around.under_plainId PySem.F.plain_sum_loop _]
    show wpAny _ A.in1 (seqItems? (.ref S) >>= _) _ _ s
    refine wpAny_bind (wpAny_seqItems hS rfl ?_)
    show wpAny _ A.in1 (tryCatch (pyNext (.ref a)) _ >>= _) _ _ s
    refine wpAny_bind (wpAny_tryCatch (Awk.item (A := A.in1) hA1 hh hroom F hk hpn hG hlt w fun v s' rv w' kp => ?_))
    rw [hv i] at rv
    obtain ⟨t, rfl⟩ := _root_.id rv
    have hS' := kp S (List.mem_singleton.mpr rfl) _ hS
    obtain ⟨⟨f1, f2⟩, f3, f4⟩ := hfit i hlt
    have hc : ((decide (-(2 ^ 63) ≤ vi i) && decide (vi i < 2 ^ 63)) && (decide (-(2 ^ 63) ≤ preSum vi i + vi i) && decide (preSum vi i + vi i < 2 ^ 63))) = true := by
      simp only [preSum] at f3 f4
      simp only [Bool.and_eq_true, decide_eq_true_eq]
      exact ⟨⟨f1, f2⟩, f3, f4⟩
    show wpAny _ A.in1 (if (_ : Bool) = true then (mkInt (preSum vi i + vi i) >>= _) else _) _ _ _
    split
    · refine wpAny_bind (wpAny_mkInt ?_)
      show wpAny _ A.in1 (updateSeq S (fun _ => #[.int (preSum vi i + vi i) s'.toks]) >>= _) _ _ _
      refine wpAny_bind ?_
      obtain ⟨⟨H, G⟩, _⟩ := id w'
      refine wpAny_updateSeq hS' rfl (wpAny_pure ⟨plainId_quiet PySem.F.plain_sum_loop _, ih (i + 1) _ s'.toks _ (by omega) hlt (w'.slept F hk ⟨rfl, G.inv.bare, fun b o hb e => ?_, fun b hb => ?_⟩ rfl) (Heap.get?_update_self _ hS' rfl)⟩)
      · exact (Heap.get?_update_other _ _ (fun h : S = b => hb (List.mem_singleton.mpr h.symm))).trans e
      · rw [List.mem_singleton.mp hb]
        exact ⟨_, Heap.get?_update_self _ hS' rfl, fun v q => by cases q⟩
    · rename_i hneg
      exact absurd hc hneg
end
/-- a generator, just made in the state s5; s3: ahead of its frame -/
structure Made (X : Cx) (pins : List (Addr × Obj)) (σ : L2.St) (elt tg iter : Expr) (scope : Scope) (gpos : Pos) (J : It) (H2 : Hp) (s3 : Shared) (fp : List Addr) (it : Addr) (tn : Nat → Heap → Prop) (cenv : Env) (a : Addr) (go : Obj) (gn : Nat) (s5 : Shared) : Prop where
  inv : Inv X pins σ H2 s3
  turn : Turn X.prog X.w X.K tg J fp it tn
  fpo : ∀ b ∈ fp, FpOk X pins H2 b ∧ b < s3.heap.objs.size
  env : ∃ code, cenv = genEnv scope (cloFrom X.env.cells scope.names []) s3.heap.objs.size code builtinsNs X.env
  tn0 : tn 0 s5.heap
  os : s5.os = s3.os
  bare : AllBare s5.gens
  keep : ∀ b o, s3.heap.get? b = some o → s5.heap.get? b = some o
  ns : ∃ m, s5.heap.Ns s3.heap.objs.size m
  gen : s5.gens[gn]? = some (.fresh (.compStart (.GeneratorExp elt [⟨tg, iter, [], 0⟩] scope gpos) 0 (.ref it) .none cenv))
  obj : s5.heap.get? a = some go
  isg : ∀ h : Heap, h.get? a = some go → h.IsGen a gn
  lta : s3.heap.objs.size < a
  noc : ∀ v, go.data ≠ .cell v
section
variable {X : Cx} {pins : List (Addr × Obj)} {σ : L2.St} {H : Hp} {s : Shared} {elt tg iter : Expr} {scope : Scope} {gpos : Pos} {own : List (Str × Nat)} {wi : TI}
theorem gen_mk {c P : Addr} {k : Nat} {Q' : Value → Shared → Prop} {R : It → Hp → Prop} (hr : Room k X.A) (TB : GxR.TabB X.base X.mg c P) (hcode : X.env.code = .ref c) (hco : scope.isCoroutine = false) (hcell : ∀ y ∈ scope.names, y.2 ≠ .cell)
    (hdot : scope.names.lookup (".0" : Str) = some NameKind.local) (ok : BlkOk X.N X.env.scope scope own) (hi : PI X tg iter wi) (hs : ∀ v, genFold iter X.env v = pure v) (I : Inv X pins σ H s)
    (h : wi σ H fun J H1 => TabG H1 P ∧ ∀ H2, Tabbed P H1 H2 → R J H2)
    (hQ : ∀ J H2 s3 fp it tn cenv a go gn s5, R J H2 → Made X pins σ elt tg iter scope gpos J H2 s3 fp it tn cenv a go gn s5 → Q' (.ref a) s5) :
    wpAny (model X.prog X.w) X.A (eval (.GeneratorExp elt [⟨tg, iter, [], 0⟩] scope gpos) X.env) Q' X.xe s := by
  have hfree : ∀ y ∈ scope.names, y.2 = .free → ∃ c, X.env.cells.lookup y.1 = some c := fun y hy e => by
    rcases ok.free y hy e with k | k
    · exact I.ok.has _ (.inl k)
    · exact I.ok.has _ (.inr k)
  refine wpAny_GeneratorExp_make hco (closure_ok hfree) hcell hdot ok.kind (by have := hr.dp; omega) ?_ hs
  refine thn (hi.run pins s σ H _ I h) fun xv s1 hx => thn hx fun itv s2 h2 => ?_
  obtain ⟨it, fp, tn, J, H1, e, I1, T, st1, f1, ⟨ps, hP, ht⟩, q⟩ := h2
  subst e
  have hPs : s2.heap.get? P = some { cls := .none, data := .fields ps } := I1.hok P _ hP
  have cd : PySem.W.CodeHd s2.heap c P := TB.code.keeps fun b u e => I1.bk b u e
  have hcP : cStatics ≠ P := fun e => by
    obtain ⟨_, hns, _⟩ := I1.nolimit
    obtain ⟨o', es, ep, ho, hd, _⟩ := hns
    rw [e, hPs] at ho
    cases ho
    cases hd
  have nfP : ∀ b ∈ fp, b ≠ P := fun b hb z => by
    have q := (f1 b hb).1
    rw [z, hP] at q; cases q
  have sz : ∀ b ∈ fp, b < s2.heap.objs.size := fun b hb => by
    obtain ⟨o, e, _⟩ := T.obj _ _ st1 b hb
    exact Heap.lt_size e
  have cont : ∀ (code : Value) (h3 : Heap) (tk : Nat) (more : Array Value), Heap.ExtBut P s2.heap h3 → s2.heap.objs.size ≤ h3.objs.size → h3.get? P = some { cls := .none, data := .fields (ps ++ more) } → TriplesOk (ps ++ more).toList →
      wpAny (model X.prog X.w) X.A (builtinsFor X.env.globals X.env.builtins) (fun bi s₄ =>
        ∀ h', h'.Ns s₄.heap.objs.size (fun y => if y = ".0" then some (.ref it) else none) → Heap.SameBut s₄.heap.objs.size (s₄.heap.push { cls := .type "frame", data := .dict #[] }) h' →
          Q' (.ref h'.objs.size) { s₄ with
            gens := s₄.gens.push (.fresh (.compStart (.GeneratorExp elt [⟨tg, iter, [], 0⟩] scope gpos) 0 (.ref it) .none (genEnv scope (cloFrom X.env.cells scope.names []) s₄.heap.objs.size code bi X.env))),
            toks := s₄.toks + 1 + 1 + 1,
            heap := h'.push { cls := .type "generator", data := .fields #[.int s₄.gens.size 0, .str "<genexpr>" (s₄.toks + 1), .str (X.env.qual ++ "<genexpr>") (s₄.toks + 1 + 1)] } }) X.xe { s2 with heap := h3, toks := tk } := by
    intro code h3 tk more hx hsz hP3 ht3
    obtain ⟨bm, ob, e1, e2, e3, e4, e5, e6, e7, e8⟩ := TB.bm
    refine wpAny_builtinsFor (m := X.mg) (by rw [I1.ok.glob]; exact (I1.mod.glob.keeps I1.bk).extBut hx TB.gP) e1 e2 (hx _ _ e4 (I1.bk _ _ e5)) e6 e7 e8 ?_
    intro h' hn' hs'
    have I3 : Inv X pins σ (upd H1 P (.tbl (ps ++ more))) ({ s2 with heap := h3, toks := tk } : Shared) :=
      inv_tab (g' := s2.gens) (d' := s2.drawn) (t' := tk) I1 hP (fun b o hb e => hx b o hb e) hP3 I1.bare
    have hsz' : h'.objs.size = h3.objs.size + 1 := by rw [hs'.1, Heap.size_push]
    have keep' : ∀ b o, h3.get? b = some o → h'.get? b = some o := fun b o e => hs'.extBut b o (Nat.ne_of_lt (Heap.lt_size e)) (Heap.get?_push_of_some _ e)
    refine hQ J (upd H1 P (.tbl (ps ++ more))) ({ s2 with heap := h3, toks := tk } : Shared) fp it tn _ _ _ s2.gens.size _ (q _ ⟨⟨ps ++ more, upd_same, ht3⟩, fun b hb => upd_ne hb⟩) ⟨I3, T, fun b hb => ⟨⟨?_, (f1 b hb).2⟩, ?_⟩, ⟨code, rfl⟩, ?_, rfl, ?_, fun b o e => ?_, ⟨_, hn'.push _⟩, Array.getElem?_push_size .., Heap.get?_push_size _ rfl, fun h e => ⟨_, _, _, e, rfl, rfl, rfl⟩, ?_, fun v q => by cases q⟩
    · rw [upd_ne (nfP b hb)]; exact (f1 b hb).1
    · exact Nat.lt_of_lt_of_le (sz b hb) hsz
    · exact T.keep _ _ _ st1 fun b hb o e => Heap.get?_push_of_some _ (keep' b o (hx b o (nfP b hb) e))
    · exact I1.bare.push rfl
    · exact Heap.get?_push_of_some _ (keep' b o e)
    · show h3.objs.size < h'.objs.size
      omega
  refine ⟨I1.nolimit, ?_⟩
  cases hf : codeAmong gpos ps.toList with
  | none =>
    refine wpAny_genexprCodeX hcode (cd.code hPs ht) (cd.tab hPs) hf fun c' h' tk hx hge hlt hco' _ htab' _ => ?_
    obtain ⟨o1, vs, f1, tf, fl, tg, inF, tx, tt, op, _, _, _, _, _, _, _, _, _, htr, _⟩ := hco'
    exact cont _ h' tk _ hx (Nat.le_trans hge (Nat.le_of_lt hlt)) htab'.2 htr
  | some cv =>
    refine wpAny_genexprCode_hit hcode (cd.code hPs ht) hf ?_
    have z := cont cv s2.heap s2.toks #[] (Heap.ExtBut.refl _ _) (Nat.le_refl _) (by rw [Array.append_empty]; exact hPs) (by rw [Array.append_empty]; exact ht)
    exact z
end
end Wk

set_option Elab.async false
set_option linter.all false
set_option maxRecDepth 100000
set_option maxHeartbeats 2000000
namespace Wk
open PySem PySem.Spec PyProof.Rows L2 GxR GenW
section
variable {X : Cx} {pins : List (Addr × Obj)} {σ : L2.St} {H H2 : Hp} {s s3 s5 s6 : Shared} {elt tg iter : Expr} {scope : Scope} {gpos : Pos} {own : List (Str × Nat)} {wi : TI} {A' : Around} {it a : Addr} {gn n₀ : Nat} {go : Obj} {fp Ps : List Addr} {tn : Nat → Heap → Prop}
  {J : It} {W : Nat → Hp → Prop} {val : Nat → V} {g : TG} {te : TE} {cenv : Env}
theorem Made.awk (M : Made X pins σ elt tg iter scope gpos J H2 s3 fp it tn cenv a go gn s5) (hc : X.calm = true) (hN : X.N.Nodup) (ok : BlkOk X.N X.env.scope scope own) (hcell : ∀ y ∈ scope.names, y.2 ≠ .cell) (hco : scope.isCoroutine = false)
    (hA : A'.handled = none) (hA2 : A'.frames = some X.stack) (hpg : PG (gfx X A' s3 H2 cenv fp [(a, go)]) tg g) (hpe : PE (gfx X A' s3 H2 cenv fp [(a, go)]) elt te)
    (turn : Turns J W n₀ g te (wipe σ (own.map (·.2))) (own.map (·.2)) val) (w0 : W 0 H2) (os6 : s6.os = s5.os) (g6 : s6.gens = s5.gens) (k6 : ∀ b o, s5.heap.get? b = some o → s6.heap.get? b = some o)
    (hPs : ∀ b ∈ Ps, s5.heap.objs.size ≤ b ∧ ∃ o, s6.heap.get? b = some o ∧ ∀ v, o.data ≠ .cell v) :
    Far (gfx X A' s3 H2 cenv fp [(a, go)]) fp Ps ∧ Awk (gfx X A' s3 H2 cenv fp [(a, go)]) A' fp Ps tn (wipe σ (own.map (·.2))) W n₀ val gn 0 s6 := by
  obtain ⟨code, hce⟩ := M.env
  obtain ⟨m, hn⟩ := M.ns
  have lt5 : s3.heap.objs.size < s5.heap.objs.size := Nat.lt_trans M.lta (Heap.lt_size M.obj)
  have hL : cenv.locals = s3.heap.objs.size := by rw [hce]; rfl
  have nostk : ∀ b, s3.heap.objs.size ≤ b → b ∉ frs X.stack := fun b hb z => by
    have f := M.inv.fpOk (H' := H2) hb (M.inv.hok.fresh hb)
    rcases List.mem_cons.mp (M.inv.stkSub b z) with y | y
    · exact f.2.1 y
    · exact f.2.2.1 y
  have I6 : Inv (gfx X A' s3 H2 cenv fp [(a, go)]) [] (wipe σ (own.map (·.2))) H2 s6 := by
    refine gen_start M.inv ok hN hcell M.fpo hA hA2 hce (os6.trans M.os) (by rw [g6]; exact M.bare) (fun b o e => k6 b o (M.keep b o e)) (hn.at' fun o e => k6 _ o e) fun p hp => ?_
    have e : p = (a, go) := by simpa using hp
    subst e
    exact ⟨k6 _ _ M.obj, M.inv.hok.fresh (Nat.le_of_lt M.lta), Nat.ne_of_gt M.lta, nostk _ (Nat.le_of_lt M.lta), M.noc⟩
  have I5 : Inv (gfx X A' s3 H2 cenv fp [(a, go)]) [] (wipe σ (own.map (·.2))) H2 s5 := by
    refine gen_start M.inv ok hN hcell M.fpo hA hA2 hce M.os M.bare M.keep hn fun p hp => ?_
    have e : p = (a, go) := by simpa using hp
    subst e
    exact ⟨M.obj, M.inv.hok.fresh (Nat.le_of_lt M.lta), Nat.ne_of_gt M.lta, nostk _ (Nat.le_of_lt M.lta), M.noc⟩
  have ge3 : ∀ b ∈ Ps, s3.heap.objs.size ≤ b := fun b hb => Nat.le_trans (Nat.le_of_lt lt5) (hPs b hb).1
  have F : Far (gfx X A' s3 H2 cenv fp [(a, go)]) fp Ps := by
    refine ⟨ge3, fun b hb => ?_, fun b hb x c e z => ?_, fun b hb p hp => ?_, fun b hb => nostk b (ge3 b hb), fun b hb z => ?_, fun b hb => hb, fun b hb p hp => ?_⟩
    · show b ≠ cenv.locals
      rw [hL]; exact Nat.ne_of_gt (Nat.lt_of_lt_of_le lt5 (hPs b hb).1)
    · obtain ⟨v, q⟩ := I5.cell x c e
      exact absurd (Nat.lt_of_lt_of_le q.lt (by rw [z]; exact (hPs b hb).1)) (Nat.lt_irrefl _)
    · have e : p = (a, go) := by simpa using hp
      subst e
      exact Nat.ne_of_lt (Nat.lt_of_lt_of_le (Heap.lt_size M.obj) (hPs b hb).1)
    · exact absurd (Nat.lt_of_lt_of_le (M.fpo b hb).2 (ge3 b z)) (Nat.lt_irrefl _)
    · have e : p = (a, go) := by simpa using hp
      subst e
      exact Nat.ne_of_gt (Nat.lt_trans (M.fpo b hb).2 M.lta)
  refine ⟨F, ?_⟩
  have G6 : GAt (gfx X A' s3 H2 cenv fp [(a, go)]) fp Ps tn (wipe σ (own.map (·.2))) W 0 H2 s6 :=
    ⟨I6, M.turn.keep _ _ _ M.tn0 fun b _ o e => k6 b o e, fun b hb => (M.fpo b hb).1.1, fun b hb => M.inv.hok.fresh (ge3 b hb), fun b hb => (hPs b hb).2, w0⟩
  refine ⟨⟨H2, G6⟩, .fresh (.compStart (.GeneratorExp elt [⟨tg, iter, [], 0⟩] scope gpos) 0 (.ref it) .none cenv), by rw [g6]; exact M.gen, fun s' z => ⟨rfl, ?_⟩⟩
  have hτ : ∀ σ' : L2.St, wipe σ' (own.map (·.2)) = wipe σ (own.map (·.2)) → (wipe σ (own.map (·.2))).length = σ'.length ∧ ∀ (j : Nat) v, (wipe σ (own.map (·.2)))[j]? = some (some v) → σ'[j]? = some (some v) := fun σ' e => by
    refine ⟨by rw [← e, wipe_length], fun j v h => ?_⟩
    rw [← e] at h
    exact (wipe_some h).1
  rw [Nat.sub_zero]
  exact seg_gs (X := gfx X A' s3 H2 cenv fp [(a, go)]) over_gen.symm hc rfl (by show cenv.scope.isCoroutine = false; rw [hce]; exact hco) M.turn hpg hpe F hτ turn (G6.slept F M.turn.keep z) (KeptP.refl _ _)
/-- back in the def's own context -/
theorem Made.back {tn' : Nat → Heap → Prop} {τ : L2.St} {i : Nat} {s' : Shared} {H' : Hp} (M : Made X pins σ elt tg iter scope gpos J H2 s3 fp it tn cenv a go gn s5) (G : GAt (gfx X A' s3 H2 cenv fp [(a, go)]) fp Ps tn' τ W i H' s') : Inv X pins σ H' s' :=
  M.inv.call' (ch := fp) G.inv.os G.inv.base G.inv.hok G.inv.bare fun b hb => ⟨(M.fpo b hb).1.2.2.2.1, (M.fpo b hb).1.2.1, (M.fpo b hb).1.2.2.2.2.1, (M.fpo b hb).1.2.2.2.2.2⟩
/-- all(elt for tg in iter) -/
def tAllX (P : Addr) (wi : TI) (g : TG) (te : TE) (vs : List Nat) : TE := fun σ H Q => wi σ H fun J H1 => TabG H1 P ∧ ∀ H2, Tabbed P H1 H2 → ∃ (n₀ : Nat) (tr : Nat → Bool) (W : Nat → Hp → Prop), W 0 H2 ∧ Turns J W n₀ g te (wipe σ vs) vs (fun i => .bl (tr i)) ∧
  (∀ H, (∀ j, j < n₀ → tr j = true) → W n₀ H → Q (.bl true) H) ∧ ∀ j H, j < n₀ → tr j = false → W (j + 1) H → Q (.bl false) H
/-- sum(elt for tg in iter) -/
def tSumX (P : Addr) (wi : TI) (g : TG) (te : TE) (vs : List Nat) : TE := fun σ H Q => wi σ H fun J H1 => TabG H1 P ∧ ∀ H2, Tabbed P H1 H2 → ∃ (n₀ : Nat) (vi : Nat → Int) (W : Nat → Hp → Prop), W 0 H2 ∧ Turns J W n₀ g te (wipe σ vs) vs (fun i => .int (vi i)) ∧
  (∀ j, j < n₀ → InLong (vi j) ∧ InLong (preSum vi (j + 1))) ∧ ∀ H, W n₀ H → Q (.int (preSum vi n₀)) H
theorem Room.gen {k : Nat} {A : Around} (r : Room (k + 1) A) (env : Env) : Room k (A.in1.in1.deeper env) :=
  ⟨r.hd, by have := r.dp; show A.depth + 1 + 3 * k + 5 < _; omega, by have := r.un; show A.units + 1 + 1 + 3 + 16 * k + 200 < _; omega⟩
theorem pe_allX {c P : Addr} {p pos : Pos} {k : Nat} (hr : Room k X.A) (hc : X.calm = true) (hN : X.N.Nodup) (hg : Gl X "all") (hm : X.mg "all" = none) (hb : bootBuiltins "all" = some (.builtin "all")) (TB : GxR.TabB X.base X.mg c P) (hcode : X.env.code = .ref c)
    (hco : scope.isCoroutine = false) (hcell : ∀ y ∈ scope.names, y.2 ≠ .cell) (hdot : scope.names.lookup (".0" : Str) = some NameKind.local) (ok : BlkOk X.N X.env.scope scope own) (hi : PI X tg iter wi) (hs : ∀ v, genFold iter X.env v = pure v)
    (hpg : ∀ (s : Shared) (H : Hp) (C : Addr) (code : Value) (cl : List (Str × Addr)) (fp : List Addr) (pn : List (Addr × Obj)), PG (gfx X X.A.in1.in1 s H (genEnv scope cl C code builtinsNs X.env) fp pn) tg g)
    (hpe : ∀ (s : Shared) (H : Hp) (C : Addr) (code : Value) (cl : List (Str × Addr)) (fp : List Addr) (pn : List (Addr × Obj)), PE (gfx X X.A.in1.in1 s H (genEnv scope cl C code builtinsNs X.env) fp pn) elt te)
    (he : starEach [.GeneratorExp elt [⟨tg, iter, [], 0⟩] scope gpos] X.env = (false, eval (.GeneratorExp elt [⟨tg, iter, [], 0⟩] scope gpos) X.env) :: starEach [] X.env := by rfl) :
    PE X (.Call (.Name "all" p) [.GeneratorExp elt [⟨tg, iter, [], 0⟩] scope gpos] [] pos) (tAllX P wi g te (own.map (·.2))) := by
  refine ⟨fun pins s σ H Q I h => ?_⟩
  refine wpAny_Call_Name_kw (ld_blt I hg hm hb (PyProof.Rows.callWith_builtin1 ?_ he (by rfl)))
  rw [he]
  show wpAny _ _ (spliced ((false, eval (.GeneratorExp elt [⟨tg, iter, [], 0⟩] scope gpos) X.env) :: backTo pos (starEach [] X.env))) _ _ s
  refine Calls.spliced_cons (gen_mk hr TB hcode hco hcell hdot ok hi hs I h fun J H2 s3 fp it tn cenv a go gn s5 hR M => ?_)
  obtain ⟨n₀, tr, W, w0, turn, q1, q2⟩ := hR
  obtain ⟨code, hce⟩ := M.env
  have fr : X.A.in1.in1.frames = some X.stack := I.ok.frames
  obtain ⟨F, aw⟩ := M.awk (A' := X.A.in1.in1) (Ps := []) (val := fun i => .bl (tr i)) hc hN ok hcell hco hr.hd fr (by rw [hce]; exact hpg _ _ _ _ _ _ _) (by rw [hce]; exact hpe _ _ _ _ _ _ _) turn w0 rfl rfl (fun _ _ e => e) (fun b hb => by cases hb)
  refine Calls.spliced_nil ?_
  refine call_function_tree PySem.F.kind_all PySem.F.plain_all PySem.F.entry_all (PySem.F.args_all1 _) ?_
  unfold Builtin.«all»
  refine wpAny_bind (m := oneArg "all" _) (wpAny_pure ?_)
  refine wpAny_bind (wpAny_pyIter_gen (M.isg _ M.obj) ?_)
  refine wpAny_pure ⟨plainId_quiet PySem.F.plain_all_loop _, ?_⟩
  refine all_gx (A := X.A) (go := go) rfl hr.hd (by have := hr.dp; omega) F M.turn.keep (List.mem_singleton.mpr rfl) M.isg (fun _ => rfl) (fun s' H' ht G => ?_) (fun s' H' j hj hf G => ?_) n₀ 0 s5 (Nat.sub_zero _) (Nat.zero_le _) (fun j hj => by omega) aw
  · exact ⟨.bl true, H', M.back G, rfl, q1 H' ht G.w⟩
  · exact ⟨.bl false, H', M.back G, rfl, q2 j H' hj hf G.w⟩
theorem pe_sumX {c P : Addr} {p pos : Pos} {k : Nat} (hr : Room k X.A) (hc : X.calm = true) (hN : X.N.Nodup) (hg : Gl X "sum") (hm : X.mg "sum" = none) (hb : bootBuiltins "sum" = some (.builtin "sum")) (TB : GxR.TabB X.base X.mg c P) (hcode : X.env.code = .ref c)
    (hco : scope.isCoroutine = false) (hcell : ∀ y ∈ scope.names, y.2 ≠ .cell) (hdot : scope.names.lookup (".0" : Str) = some NameKind.local) (ok : BlkOk X.N X.env.scope scope own) (hi : PI X tg iter wi) (hs : ∀ v, genFold iter X.env v = pure v)
    (hpg : ∀ (s : Shared) (H : Hp) (C : Addr) (code : Value) (cl : List (Str × Addr)) (fp : List Addr) (pn : List (Addr × Obj)), PG (gfx X X.A.in1.in1 s H (genEnv scope cl C code builtinsNs X.env) fp pn) tg g)
    (hpe : ∀ (s : Shared) (H : Hp) (C : Addr) (code : Value) (cl : List (Str × Addr)) (fp : List Addr) (pn : List (Addr × Obj)), PE (gfx X X.A.in1.in1 s H (genEnv scope cl C code builtinsNs X.env) fp pn) elt te)
    (he : starEach [.GeneratorExp elt [⟨tg, iter, [], 0⟩] scope gpos] X.env = (false, eval (.GeneratorExp elt [⟨tg, iter, [], 0⟩] scope gpos) X.env) :: starEach [] X.env := by rfl) :
    PE X (.Call (.Name "sum" p) [.GeneratorExp elt [⟨tg, iter, [], 0⟩] scope gpos] [] pos) (tSumX P wi g te (own.map (·.2))) := by
  refine ⟨fun pins s σ H Q I h => ?_⟩
  refine wpAny_Call_Name_kw (ld_blt I hg hm hb (PyProof.Rows.callWith_builtin1 ?_ he (by rfl)))
  rw [he]
  show wpAny _ _ (spliced ((false, eval (.GeneratorExp elt [⟨tg, iter, [], 0⟩] scope gpos) X.env) :: backTo pos (starEach [] X.env))) _ _ s
  refine Calls.spliced_cons (gen_mk hr TB hcode hco hcell hdot ok hi hs I h fun J H2 s3 fp it tn cenv a go gn s5 hR M => ?_)
  obtain ⟨n₀, vi, W, w0, turn, hfit, q1⟩ := hR
  obtain ⟨code, hce⟩ := M.env
  have fr : X.A.in1.in1.frames = some X.stack := I.ok.frames
  refine Calls.spliced_nil ?_
  refine call_function_tree PySem.F.kind_sum PySem.F.plain_sum PySem.F.entry_sum (PySem.F.args_sum1 _) ?_
  unfold Builtin.«sum»
  simp only [List.length_cons, List.length_nil]
  rw [if_neg (by decide)]
  refine wpAny_bind (wpAny_of_eq (show Builtin.Builtins.bindParams "sum" ["start"] 0 { } = pure [none] from rfl) ?_)
  refine wpAny_bind (wpAny_pyIter_gen (M.isg _ M.obj) ?_)
  refine wpAny_bind (wpAny_mkInt ?_)
  refine wpAny_bind (wpAny_pure ?_)
  simp only [List.forIn_cons, List.forIn_nil]
  refine wpAny_bind (wpAny_bind (wpAny_bind (wpAny_isInstance (T := "int") (b := false) (typeIs_int _ _ _) PySem.sub_int_str ?_)))
  simp only [Bool.false_eq_true, if_false]
  refine wpAny_pure (wpAny_bind (wpAny_bind (wpAny_isInstance (T := "int") (b := false) (typeIs_int _ _ _) PySem.sub_int_bytes ?_)))
  simp only [Bool.false_eq_true, if_false]
  refine wpAny_pure (wpAny_bind (wpAny_bind (wpAny_isInstance (T := "int") (b := false) (typeIs_int _ _ _) PySem.sub_int_bytearray ?_)))
  simp only [Bool.false_eq_true, if_false]
  refine wpAny_pure (wpAny_pure ?_)
  refine wpAny_bind (wpAny_newObj_type ?_)
  refine wpAny_pure ⟨plainId_quiet PySem.F.plain_sum_loop _, ?_⟩
  obtain ⟨F, aw⟩ := M.awk (A' := X.A.in1.in1) (Ps := [s5.heap.objs.size]) (val := fun i => .int (vi i)) (s6 := { s5 with toks := s5.toks + 1, heap := s5.heap.push { cls := .type "list", dict := none, data := .seq #[.int 0 s5.toks] 0, slots := #[] } }) hc hN ok hcell hco hr.hd fr (by rw [hce]; exact hpg _ _ _ _ _ _ _) (by rw [hce]; exact hpe _ _ _ _ _ _ _) turn w0 rfl rfl
    (fun _ _ e => Heap.get?_push_of_some _ e) (fun b hb => by
      rw [List.mem_singleton.mp hb]
      exact ⟨Nat.le_refl _, _, Heap.get?_push_size _ rfl, fun v q => by cases q⟩)
  exact sum_gx (A := X.A) (go := go) rfl hr.hd (by have := hr.dp; omega) F M.turn.keep (List.mem_singleton.mpr rfl) M.isg (fun _ => rfl) hfit (fun s' t' H' G => ⟨.int _, H', M.back G, ⟨_, rfl⟩, q1 H' G.w⟩) n₀ 0 _ s5.toks 0 (Nat.sub_zero _) (Nat.zero_le _) aw (Heap.get?_push_size _ rfl)
end
end Wk

set_option Elab.async false
set_option linter.all false
set_option maxRecDepth 100000
set_option maxHeartbeats 3200000
/-! Sets of texts: set(list of texts), len, sorted. -/
namespace Wk
open PySem PySem.Spec PyProof.Rows L2
def strOf : Value → Str
  | .str k _ => k
  | _ => ⟨#[]⟩
theorem tail_perm (ep : Nat) (es : Array (Int × Value)) (t : SetTable) (b : Bool) : (Froz.tailTx ep es t b).1.toList.Perm es.toList := by
  unfold Froz.tailTx
  by_cases c : (!b && t.tooFull) = true
  · rw [if_pos c]; exact relayAll_perm _ _ _
  · rw [if_neg c]
theorem tail_ris (ep : Nat) (es : Array (Int × Value)) (t : SetTable) (b : Bool) (r : Ris t.place.toList) : Ris (Froz.tailTx ep es t b).2.2.place.toList := by
  unfold Froz.tailTx
  by_cases c : (!b && t.tooFull) = true
  · rw [if_pos c]; exact relayAll_ris _ _ _
  · rw [if_neg c]; exact r
theorem tail_led (ep : Nat) (es : Array (Int × Value)) (t : SetTable) (b : Bool) : (Froz.tailTx ep es t b).2.2.led = t.led := by
  unfold Froz.tailTx
  by_cases c : (!b && t.tooFull) = true
  · rw [if_pos c]; exact relayAll_led _ _ _
  · rw [if_neg c]
theorem addTx_perm (h : Int) (v : Value) (D : Froz.SD) : (Froz.addTx h v D).1.toList.Perm ((h, v) :: D.1.toList) := by
  have p := layNew_perm D.2.2 D.1 h v
  rw [Array.toList_push] at p
  exact (tail_perm _ _ _ _).trans (p.trans (List.perm_append_singleton (h, v) D.1.toList))
theorem off_ris {t : SetTable} (q : Ris t.place.toList) : Ris (if t.plain = true then { t with plain := false } else t).place.toList := by
  by_cases c : t.plain = true
  · rw [if_pos c]; exact q
  · rw [if_neg c]; exact q
theorem off_led (t : SetTable) : (if t.plain = true then { t with plain := false } else t).led = t.led := by
  by_cases c : t.plain = true
  · rw [if_pos c]
  · rw [if_neg c]
theorem addTx_ris (h : Int) (v : Value) (D : Froz.SD) (r : Ris D.2.2.place.toList) : Ris (Froz.addTx h v D).2.2.place.toList :=
  tail_ris _ _ _ _ (off_ris (layNew_ris D.2.2 D.1 h v r))
theorem addTx_led (h : Int) (v : Value) (D : Froz.SD) : (Froz.addTx h v D).2.2.led = D.2.2.led :=
  (tail_led _ _ _ _).trans ((off_led _).trans (layNew_led D.2.2 D.1 h v))
/-- the set of the texts l at a -/
structure TxR (P : Program) (w : World) (h : Heap) (a : Addr) (l : List Str) : Prop where
  ex : ∃ D : Froz.SD, h.get? a = some (Froz.sObj "set" D) ∧ Froz.TxOk P w D l ∧ Ris D.2.2.place.toList ∧ (w.params.followText "set-order" = true ∨ D.2.2.led = true) ∧ (D.1.toList.map fun e => strOf e.2).Perm l
  nd : l.Nodup
  sz : l.length < scanBound
section
variable {P : Program} {w : World} {A : Around} {E : Value → Shared → Prop} {s : Shared} {a : Addr} {l : List Str}
theorem TxR.at {h h' : Heap} (R : TxR P w h a l) (k : ∀ o, h.get? a = some o → h'.get? a = some o) : TxR P w h' a l := by
  obtain ⟨⟨D, e, r⟩, nd, sz⟩ := R
  exact ⟨⟨D, k _ e, r⟩, nd, sz⟩
theorem tx_fresh {h : Heap} (e : h.get? a = some { cls := .type "set", dict := none, data := .set #[] 0 (.fresh 0 0 (!w.params.followText "set-order")) }) : TxR P w h a [] := by
  refine ⟨⟨(#[], 0, .fresh 0 0 (!w.params.followText "set-order")), e, .nil rfl, List.Pairwise.nil, ?_, .nil⟩, .nil, by decide⟩
  show _ ∨ (!w.params.followText "set-order") = true
  cases w.params.followText "set-order"
  · exact .inr rfl
  · exact .inl rfl
/-- a text laid into it -/
theorem tx_add {k : Str} {u : Tok} {Q : Bool → Shared → Prop} (R : TxR P w s.heap a l) (hb : l.length + 1 < scanBound)
    (hQ : ∀ b h', Heap.SameBut a s.heap h' → TxR P w h' a (if k ∈ l then l else k :: l) → Q b { s with heap := h' }) : wpAny (model P w) A (setAddHashed a (.str k u) (hashStr w k)) Q E s := by
  obtain ⟨⟨D, ho, ok, ri, le, pm⟩, nd, sz⟩ := id R
  by_cases hk : k ∈ l
  · have q := hQ false s.heap (Heap.SameBut.refl a s.heap) (by rw [if_pos hk]; exact R)
    have hkey : (strKind P w).is k (.str k u) = true := Froz.is_str k u
    have hfound : ∃ j, List.findIdx? (fun e => (strKind P w).is k e.2) D.1.toList = some j := by
      cases hr : List.findIdx? (fun e => (strKind P w).is k e.2) D.1.toList with
      | some j => exact ⟨j, rfl⟩
      | none =>
        obtain ⟨e, he, z⟩ := (ok.mem k).mp hk
        have c := List.findIdx?_eq_none_iff.mp hr e he
        rw [z] at c; cases c
    obtain ⟨j, hj⟩ := hfound
    have hbs : D.1.size < scanBound := by rw [ok.sz]; exact sz
    unfold setAddHashed setAddHashedIn
    refine wpAny_holding (wpAny_bind (wpAny_setState_of ho rfl ok.fit ?_))
    dsimp only
    rw [byScan_of rfl hbs ok.el]
    simp only [↓reduceIte]
    unfold setAddByScan
    refine wpAny_bind ?_
    refine wpAny_bind (wpAny_rule ?_)
    refine wpAny_bind (wpAny_setScan_of (knd := strKind P w) (k := k) hkey ho rfl ok.fit ok.el ?_)
    rw [hj]
    dsimp only
    exact wpAny_pure (wpAny_pure q)
  · refine Froz.add_x ho ok hk hb (hQ true _ (Heap.SameBut.update ..) ?_)
    rw [if_neg hk]
    refine ⟨⟨_, Froz.get_upd _ ho rfl, Froz.add_ok u ok, addTx_ris _ _ _ ri, le.imp id fun z => by rw [addTx_led]; exact z, ?_⟩, List.nodup_cons.mpr ⟨hk, nd⟩, hb⟩
    exact ((addTx_perm (hashStr w k) (.str k u) D).map _).trans (List.Perm.cons _ pm)
theorem tx_loop {I : Addr} {fp wr : List Addr} {G : Array GenState → Array GenState → Prop} {n : Nat} {Pv : Nat → Value → Prop} {St : Nat → Shared → Prop} {R : Result → Shared → Prop}
    (W : WalksS P w A.in1 I fp wr G n Pv St) (S : Addr) (hSf : S ∉ fp) (xs : List Str) (hn : n = xs.length) (hval : ∀ i v, Pv i v → ∃ x t, xs[i]? = some x ∧ v = .str x t) (hb : xs.length + 1 < scanBound) :
    ∀ (k i : Nat) (s : Shared) (l : List Str), n - i = k → i ≤ n → St i s → TxR P w s.heap S l → l.length ≤ i → (∀ x, x ∈ l ↔ x ∈ xs.take i) →
      (∀ s' l', Moved (S :: wr) G s s' → TxR P w s'.heap S l' → l'.length ≤ n → (∀ x, x ∈ l' ↔ x ∈ xs) → R (.ok (.ret .none)) s') →
      codeAny (model P w) A (.builtin "set.update.loop" ⟨[.ref S, .ref I], []⟩) R s := by
  have hSw : S ∉ wr := fun h => hSf (W.sub _ h)
  have hsub : ∀ b ∈ wr, b ∈ S :: wr := fun b hb => List.mem_cons_of_mem _ hb
  intro k
  induction k with
  | zero =>
    intro i s l hk hi hst hT hl hm hR
    have hin : i = n := by omega
    subst hin
    refine codeAny_builtin PyProof.Rows.F.entry_set_update_loop ?_
    rw [Around.under_plainId PyProof.Rows.F.plain_set_update_loop _]
    show wpAny _ A.in1 (pyNext (.ref I) >>= _) _ _ s
    refine wpAny_bind (W.done s _ _ hst fun s' mv => ?_)
    show wpAny _ A.in1 (ret Value.none) _ _ s'
    refine wpAny_pure (hR s' l (mv.mono hsub) (hT.at fun o e => mv.heap S o hSw e) hl fun x => ?_)
    rw [hm x, hn, List.take_length]
  | succ k ih =>
    intro i s l hk hi hst hT hl hm hR
    have hlt : i < n := by omega
    refine codeAny_builtin PyProof.Rows.F.entry_set_update_loop ?_
    rw [Around.under_plainId PyProof.Rows.F.plain_set_update_loop _]
    show wpAny _ A.in1 (pyNext (.ref I) >>= _) _ _ s
    refine wpAny_bind (W.item i s _ _ hlt hst fun v s' hP hst' mv => ?_)
    obtain ⟨x, t, hx, rfl⟩ := hval i v hP
    have hT' : TxR P w s'.heap S l := hT.at fun o e => mv.heap S o hSw e
    show wpAny _ A.in1 (holding [Value.str x t] (setAdd S (.str x t)) >>= _) _ _ s'
    refine wpAny_bind (wpAny_holding ?_)
    unfold setAdd
    refine wpAny_holding ?_
    refine wpAny_bind ((strKind P w).pyHash (Froz.is_str x t) ?_)
    refine tx_add (s := { s' with toks := s'.toks + 1 }) hT' (by omega) fun b h' hsb hT2 => ?_
    refine wpAny_pure ⟨plainId_quiet PyProof.Rows.F.plain_set_update_loop _, ih (i + 1) _ _ (by omega) hlt (W.frame _ s' _ _ hst' (Nat.le_add_right _ _) fun b hb o e => ?_) hT2 ?_ (fun y => ?_) fun s'' l' mv' hT'' hl' hm' => ?_⟩
    · rw [hsb.2 b (fun h : b = S => hSf (by rw [← h]; exact hb))]; exact e
    · split
      · omega
      · rw [List.length_cons]; omega
    · have e : xs.take (i + 1) = xs.take i ++ [x] := by
        rw [List.take_succ, hx]; rfl
      rw [e, List.mem_append, List.mem_singleton, ← hm y]
      split
      · rename_i c
        exact ⟨.inl, fun z => z.elim id fun z => z ▸ c⟩
      · rw [List.mem_cons]; exact Or.comm
    · refine hR s'' l' (Moved.trans W.gtrans ((mv.mono hsub).then_heap (Nat.le_add_right _ _) fun b o hb e => ?_) mv') hT'' hl' hm'
      rw [hsb.2 b (fun h : b = S => hb (by rw [h]; exact List.mem_cons_self))]; exact e
end
end Wk

set_option Elab.async false
set_option linter.all false
set_option maxRecDepth 100000
set_option maxHeartbeats 3200000
namespace Wk
open PySem PySem.Spec PyProof.Rows L2
abbrev set0 (w : World) : Obj := { cls := .type "set", dict := none, data := .set #[] 0 (.fresh 0 0 (!w.params.followText "set-order")) }
theorem strs_get : ∀ {vs : List Value} {xs : List Str}, StrsAre vs xs → ∀ (i : Nat) (v : Value), vs[i]? = some v → ∃ x t, xs[i]? = some x ∧ v = .str x t
  | _, _, .nil, i, v, h => by simp at h
  | _, _, .cons x t r, 0, v, h => by
    simp at h
    exact ⟨x, t, rfl, h.symm⟩
  | _, _, .cons x t r, i + 1, v, h => by
    simp at h
    obtain ⟨y, u, h1, h2⟩ := strs_get r i v h
    exact ⟨y, u, by simpa using h1, h2⟩
theorem strs_len : ∀ {vs : List Value} {xs : List Str}, StrsAre vs xs → vs.length = xs.length
  | _, _, .nil => rfl
  | _, _, .cons x t r => by simp [strs_len r]
section
variable {P : Program} {w : World} {A : Around} {E : Value → Shared → Prop} {s : Shared}
/-- set(a list of texts) -/
theorem call_setTx {l : Addr} {items : Array Value} (xs : List Str) {Q : Value → Shared → Prop} (hh : A.handled = none) (hl : s.heap.IsList l items) (hit : StrsAre items.toList xs) (hb : xs.length + 1 < scanBound)
    (h : ∀ h' tk L, TxR P w h' s.heap.objs.size L → (∀ x, x ∈ L ↔ x ∈ xs) → L.length ≤ xs.length → (∀ b o, s.heap.get? b = some o → h'.get? b = some o) → Q (.ref s.heap.objs.size) { s with heap := h', toks := tk }) :
    wpAny (model P w) A (call (.type "set") [.ref l]) Q E s := by
  have hisz : items.size = xs.length := by rw [← strs_len hit, Array.length_toList]
  obtain ⟨c, tl, hmro⟩ := PySem.F.called_set.mro
  have hmade := PySem.F.called_set.made
  have hsub := PySem.F.called_set.sub
  refine wpAny_call (codeAny_of_tree ?_)
  show wpAny _ _ (callAny (.type "set") _) _ _ _
  refine wpAny_pure ⟨Code.quiet_builtin _ (by decide +kernel), codeAny_builtin PySem.F.entry_type_call ?_⟩
  rw [Around.under_plain (weight_type_call_type "set" [.ref l] []) rfl]
  have h1 := PySem.F.called_set.notType
  have h2 := PySem.F.called_set.canCreate
  have hct := PySem.F.typeCall_set_1 (.ref l)
  have hS : (s.heap.push (set0 w)).get? s.heap.objs.size = some (set0 w) := Heap.get?_push_size _ rfl
  repeat (any_goals (first | assumption | wp_step))
  refine codeAny_mono (code_set_led1 (.ref l) (E := E) (Q₁ := fun obj s₁ => obj = .ref s.heap.objs.size ∧ s₁ = { s with heap := s.heap.push (set0 w) }) ⟨rfl, rfl⟩) fun r s₁ hr => ?_
  cases r with
  | error e => exact hr
  | ok fl =>
    cases fl with
    | ret obj =>
      obtain ⟨rfl, rfl⟩ := hr
      have hT : Shared.TypeIs { s with heap := s.heap.push (set0 w) } (.ref s.heap.objs.size) "set" := ⟨_, hS, rfl⟩
      have hli := PySem.F.called_set.init.lookup
      have hbi := PySem.F.called_set.init.bind (.ref s.heap.objs.size)
      repeat (any_goals (first | assumption | wp_step))
      refine codeAny_mono (codeAny_call_builtin (R := wants (fun r s₂ => r = .none ∧ ∃ h' tk L, s₂ = { s with heap := h', toks := tk } ∧ TxR P w h' s.heap.objs.size L ∧ (∀ x, x ∈ L ↔ x ∈ xs) ∧ L.length ≤ xs.length ∧
          (∀ b o, s.heap.get? b = some o → h'.get? b = some o)) E) PySem.F.called_set.init.plain PySem.F.entry_set_init (check_set_init_1 hT ?_)) fun r₂ s₂ hr₂ => ?_
      · obtain ⟨ol, hol, hcl, nl, hdl⟩ := hl
        obtain ⟨ocls, odict, odata, oslots⟩ := ol
        simp only at hcl hdl
        subst hcl; subst hdl
        have hol' : (s.heap.push (set0 w)).get? l = some { cls := .type "list", dict := odict, data := .seq items nl, slots := oslots } := Heap.get?_push_of_some _ hol
        have hsls := PySem.F.sub_list_set
        have hslf := PySem.F.sub_list_frozenset
        have hne : (Value.type "list" == Value.type "dict") = false := by decide
        have hl1 : (s.heap.push (set0 w)).IsList l items := ⟨_, hol', rfl, nl, rfl⟩
        unfold Builtin.«set.__init__» noKeywords Builtin.Frozenset.updateFrom
        generalize hPI : pyIter = PI
        wp_walk
        subst hPI
        refine wpAny_pyIter_list hl1 (wpAny_bind (wpAny_runValue ?_))
        have hlS : l < s.heap.objs.size := Heap.lt_size hol
        have hh3 : A.in1.in1.in1.handled = none := hh
        have hz : (s.heap.push (set0 w)).objs.size = s.heap.objs.size + 1 := Heap.size_push ..
        have hneI : l ≠ (s.heap.push (set0 w)).objs.size := by rw [hz]; exact Nat.ne_of_lt (Nat.lt_succ_of_lt hlS)
        have hSf : s.heap.objs.size ∉ [(s.heap.push (set0 w)).objs.size, l] := fun z => by
          rw [hz] at z
          rcases List.mem_cons.mp z with z | z
          · exact absurd z (Nat.ne_of_lt (Nat.lt_succ_self _))
          · exact absurd (List.mem_singleton.mp z) (Nat.ne_of_gt hlS)
        refine tx_loop ((Walks.list hh3 _ l hneI items).toS) s.heap.objs.size hSf xs hisz (fun i v hv => strs_get hit i v (by rw [Array.getElem?_toList]; exact hv)) hb (items.size - 0) 0 _ [] (by omega) (Nat.zero_le _)
          ⟨⟨_, Heap.get?_push_size _ rfl, rfl, rfl⟩, hl1.push _⟩ (tx_fresh (Heap.get?_push_of_some _ hS)) (Nat.le_refl _) (fun x => by simp) fun s' L hm hT' hL hmem => ?_
        obtain ⟨h', g2, d', tk', os'⟩ := s'
        have eg : g2 = s.gens := hm.gens
        have ed : d' = s.drawn := hm.drawn
        have eo : os' = s.os := hm.os
        subst eg; subst ed; subst eo
        refine wpAny_pure ?_
        show wpAny _ _ (ret Value.none) _ _ _
        refine wpAny_pure ⟨rfl, h', tk', L, rfl, hT', hmem, by rw [← hisz]; exact hL, fun b o e => ?_⟩
        have hbl : b < s.heap.objs.size := Heap.lt_size e
        refine hm.heap b o (fun z => ?_) (Heap.get?_push_of_some _ (Heap.get?_push_of_some _ e))
        rcases List.mem_cons.mp z with z | z
        · exact absurd hbl (by rw [z]; exact Nat.lt_irrefl _)
        · have z := List.mem_singleton.mp z
          exact absurd hbl (by rw [z]; exact Nat.not_lt_of_le (by rw [hz]; exact Nat.le_succ _))
      · cases r₂ with
        | error e => exact hr₂
        | ok fl₂ =>
          cases fl₂ with
          | ret r =>
            obtain ⟨rfl, h', tk, L, rfl, hT', hmem, hL, hk'⟩ := hr₂
            repeat (any_goals (first | assumption | wp_step))
            exact h _ _ _ hT' hmem hL hk'
          | _ => exact hr₂.elim
    | _ => exact hr.elim
/-- sorted of it -/
theorem sorted_tx {a : Addr} {l : List Str} {Q : Value → Shared → Prop} (R : TxR P w s.heap a l) (hh : A.handled = none) (h64 : l.length < 64)
    (hQ : ∀ s' p (out : Array Value) (c : Nat) (ys : List Str), (∀ b o, s.heap.get? b = some o → s'.heap.get? b = some o) → s'.gens = s.gens → s'.os = s.os → s.heap.objs.size ≤ p →
      s'.heap.get? p = some (seqObj "list" out c) → StrsAre out.toList ys → ys.Perm l → sortedS ys = true → Q (.ref p) s') :
    wpAny (model P w) A (call (.builtin "sorted") [.ref a]) Q E s := by
  obtain ⟨⟨D, ho, ok, ri, le, pm⟩, nd, sz⟩ := R
  have str : ∀ e ∈ D.1.toList, ∃ t, e.2 = Value.str (strOf e.2) t := fun e he => by
    obtain ⟨⟨k, h1, _⟩, _⟩ := ok.el e he
    obtain ⟨t, q⟩ := Value.isStrOf_shape (x := k) (v := e.2) h1
    rw [q]
    exact ⟨t, rfl⟩
  refine Calls.call_function_entry PyProof.Rows.kind_sorted PyProof.Rows.plain_sorted PyProof.Rows.entry_sorted (PyProof.Rows.args_sorted1 _) ?_
  unfold Builtin.«sorted»
  refine wpAny_bind (m := checkCount "sorted" 1 1 _) (wpAny_pure ?_)
  refine wpAny_bind (collect_set (A := A.in1) hh ⟨_, ho, rfl, rfl⟩ ok.fit (by rw [ok.sz]; exact sz) ri le fun s1 vs k1 hz g1 o1 pv => ?_)
  have all : ∀ (us : List Value), (∀ v ∈ us, ∃ t, v = Value.str (strOf v) t) → StrsAre us (us.map strOf) := by
    intro us
    induction us with
    | nil => intro _; exact .nil
    | cons v us ih =>
      intro hu
      obtain ⟨t, e⟩ := hu v List.mem_cons_self
      have r := ih fun u hu' => hu u (List.mem_cons_of_mem _ hu')
      rw [e]
      exact .cons _ t r
  have hS : StrsAre vs (vs.map strOf) := all vs fun v hv => by
    obtain ⟨e, he, q⟩ := List.mem_map.mp (pv.mem_iff.mp hv)
    rw [← q]
    exact str e he
  have pl : (vs.map strOf).Perm l := by
    have q := pv.map strOf
    rw [List.map_map] at q
    exact q.trans pm
  have hal : vs.length = l.length := by rw [← pl.length_eq, List.length_map]
  refine wpAny_bind (wpAny_newList ?_ (by rw [hal, sizeLine_eq]; omega))
  have hoL : (s1.heap.push (seqObj "list" vs.toArray 0)).get? s1.heap.objs.size = some (seqObj "list" vs.toArray 0) := Heap.get?_push_size _ rfl
  refine wpAny_bind (wpAny_holding (wpAny_call_entry PyProof.Rows.slot_list_sort ⟨_, hoL, rfl⟩ PyProof.Rows.entry_list_sort
    (list_sort_treeK strKind_oneLt hoL hS.keysOf (fun v₁ v₂ rest e => keyKind_strs (by rw [← e]; exact hS)) (by rw [hal]; exact h64) fun st' hp hs => ⟨_, rfl, ?_⟩)
    (PyProof.Rows.args_list_sort _)))
  obtain ⟨ys, y1, y2, y3⟩ := sorted_out_str hS hp hs
  obtain ⟨e', he'⟩ := PyProof.Rows.sortedHeap_at (vs := vs) (out := (arrOf st').map (·.2)) hoL
  refine wpAny_pure ⟨_, rfl, hQ _ s1.heap.objs.size _ e' ys (fun b u e => ?_) g1 o1 hz he' y1 (y2.trans pl) y3⟩
  have q := k1 b u e
  have hlt := Heap.lt_size q
  show (sortedHeap (s1.heap.push (seqObj "list" vs.toArray 0)) s1.heap.objs.size vs ((arrOf st').map (·.2))).get? b = some u
  rw [sortedHeap_old (Nat.ne_of_lt hlt) (by rw [size_push']; exact Nat.lt_succ_of_lt hlt)]
  exact Heap.get?_push_of_some _ q
end
end Wk

set_option Elab.async false
set_option linter.all false
set_option maxRecDepth 100000
set_option maxHeartbeats 3200000
namespace Wk
open PySem PySem.Spec PyProof.Rows L2
/-- the set of the texts l at a, tracked -/
def TxO (P : Program) (w : World) (a : Addr) (l : List Str) : HO := .ext fun h => TxR P w h a l
section
variable {X : Cx}
theorem txO_new {P : Program} {w : World} {H : Hp} {h : Heap} {a : Addr} {l : List Str} (R : TxR P w h a l) : ObjOk P w H h a (TxO P w a l) := by
  have ⟨⟨D, ho, _⟩, _, _⟩ := R
  exact ⟨R, ⟨_, ho⟩, fun h1 h2 p k => TxR.at p k⟩
theorem txO_get {pins : List (Addr × Obj)} {σ : L2.St} {H : Hp} {s : Shared} {a : Addr} {l : List Str} (I : Inv X pins σ H s) (ha : H a = some (TxO X.prog X.w a l)) : TxR X.prog X.w s.heap a l := (I.hok a _ ha).1
/-- set(a list of texts) -/
def rSetTx (K : PySem.W.Frag) (P : Program) (w : World) : List V → Hp → VK → Prop := fun xs H Q => ∃ (l : Addr) (ts : List Str), xs = [V.ref l] ∧ SqL K H l (ts.map V.str) ∧ ts.length + 1 < scanBound ∧
  ∀ (p : Addr) (L : List Str), H p = none → L.Nodup → (∀ x, x ∈ L ↔ x ∈ ts) → L.length ≤ ts.length → Q (.ref p) (upd H p (TxO P w p L))
theorem cr_setTx (hc : X.calm = true) : CallR X (.type "set") (rSetTx X.K X.prog X.w) := by
  intro pins s σ H xs us Q I r h
  obtain ⟨l, ts, rfl, hl, hb, q⟩ := h
  rw [Vals.ref1 r]
  obtain ⟨its, ri, pl, hz⟩ := I.list hl
  refine call_setTx ts (I.ok.hd hc) pl.isList (by simpa using strsAre_of ri) hb fun h' tk L hT hm hL hk => ?_
  have hn : H s.heap.objs.size = none := I.hok.fresh (Nat.le_refl _)
  exact ⟨.ref _, upd H s.heap.objs.size (TxO X.prog X.w s.heap.objs.size L), I.laid (t' := tk) hk (Nat.le_refl _) (txO_new hT), rfl, q _ L hn hT.nd hm hL⟩
/-- len of it -/
def rLenTx (P : Program) (w : World) : List V → Hp → VK → Prop := fun xs H Q => ∃ (a : Addr) (l : List Str), xs = [V.ref a] ∧ H a = some (TxO P w a l) ∧ Q (.int (l.length : Nat)) H
theorem cr_lenTx : CallR X (.builtin "len") (rLenTx X.prog X.w) := by
  intro pins s σ H xs us Q I r h
  obtain ⟨a, l, rfl, ha, q⟩ := h
  rw [Vals.ref1 r]
  obtain ⟨⟨D, ho, ok, ri, le, pm⟩, nd, sz⟩ := txO_get I ha
  refine call_len_set ho ⟨rfl, rfl, rfl⟩ rfl ok.fit (by
    have hb : scanBound ≤ 2 ^ 62 := by decide
    rw [ok.sz]
    omega) ⟨.int (l.length : Nat), H, I.tok _, ⟨_, by rw [ok.sz]⟩, q⟩
/-- sorted of it -/
def rSortedTx (P : Program) (w : World) : List V → Hp → VK → Prop := fun vs H Q => ∃ (a : Addr) (l : List Str), vs = [V.ref a] ∧ H a = some (TxO P w a l) ∧ l.length < 64 ∧
  ∀ (ys : List Str) (p : Addr), ys.Perm l → sortedS ys = true → H p = none → Q (.ref p) (upd H p (.lst (ys.map V.str)))
theorem vals_of_strs : ∀ {us : List Value} {ys : List Str}, StrsAre us ys → Vals (ys.map V.str) us
  | _, _, .nil => .nil
  | _, _, .cons y t r => .cons ⟨t, rfl⟩ (vals_of_strs r)
theorem cr_sortedTx (hc : X.calm = true) : CallR X (.builtin "sorted") (rSortedTx X.prog X.w) := by
  intro pins s σ H vs us Q I r h
  obtain ⟨a, l, rfl, ha, h64, q⟩ := h
  rw [Vals.ref1 r]
  refine sorted_tx (txO_get I ha) (I.ok.hd hc) h64 fun s' p out c ys k g o hp hg hi hs hm => ?_
  have hlen : (ys.map V.str).length ≤ sizeLine := by rw [List.length_map, hs.length_eq, sizeLine_eq]; omega
  have hn : H p = none := I.hok.fresh hp
  have J : Inv X pins σ (upd H p (.lst (ys.map V.str))) s' := I.call' (s' := s') (ch := []) o (Un.laid k hp hn) (I.hok.laid k hp ⟨hlen, out.toList, c, vals_of_strs hi, hg⟩) (by rw [g]; exact I.bare) (fun _ z => nomatch z)
  exact ⟨.ref p, _, J, rfl, q ys p hs hm hn⟩
end
end Wk

set_option Elab.async false
set_option linter.all false
set_option maxRecDepth 100000
set_option maxHeartbeats 3200000
namespace Wk
open PySem PySem.Spec PyProof.Rows L2
theorem forIn_same {α β : Type} {M : Model} {A : Around} {E : Value → Shared → Prop} {f : α → β → Sem (ForInStep β)} {b : β} {Q : β → Shared → Prop} {s : Shared} :
    ∀ (l : List α), (∀ x ∈ l, ∀ (R : ForInStep β → Shared → Prop), R (.yield b) s → wpAny M A (f x b) R E s) → Q b s → wpAny M A (forIn l b f) Q E s
  | [], _, hQ => by
    rw [List.forIn_nil]
    exact wpAny_pure hQ
  | x :: l, hf, hQ => by
    rw [List.forIn_cons]
    refine wpAny_bind (hf x List.mem_cons_self _ ?_)
    exact forIn_same l (fun y hy => hf y (List.mem_cons_of_mem _ hy)) hQ
section
variable {P : Program} {w : World} {A : Around} {E : Value → Shared → Prop} {s : Shared}
theorem quiet_at {sets : List Addr} {Q : Bool → Shared → Prop} (h : ∀ a ∈ sets, ∃ o es ep t, s.heap.get? a = some o ∧ o.data = .set es ep t ∧ t.fits es.size = true ∧ ∀ e ∈ es.toList, ∃ k u, e.2 = Value.str k u) (hQ : Q true s) :
    wpAny (model P w) A (setsQuiet sets) Q E s := by
  unfold setsQuiet
  refine wpAny_bind (forIn_same sets (fun a ha R hR => ?_) ?_)
  · obtain ⟨o, es, ep, t, ho, hd, hf, hs⟩ := h a ha
    refine wpAny_bind (wpAny_setEntries_of ho hd hf ?_)
    rw [← Array.forIn_toList]
    refine wpAny_bind (forIn_same es.toList (fun e he R' hR' => ?_) ?_)
    · obtain ⟨k, u, e2⟩ := hs e he
      obtain ⟨e1, v⟩ := e
      have e2 : v = Value.str k u := e2
      subst e2
      exact wpAny_pure hR'
    · exact wpAny_pure hR
  · exact wpAny_pure hQ
variable {a : Addr} {l : List Str}
theorem TxR.strs {h : Heap} (R : TxR P w h a l) : ∃ o es ep t, h.get? a = some o ∧ o.data = .set es ep t ∧ t.fits es.size = true ∧ ∀ e ∈ es.toList, ∃ k u, e.2 = Value.str k u := by
  obtain ⟨⟨D, ho, ok, _⟩, _, _⟩ := R
  refine ⟨_, _, _, _, ho, rfl, ok.fit, fun e he => ?_⟩
  obtain ⟨⟨k, h1, _⟩, _⟩ := ok.el e he
  obtain ⟨t, q⟩ := Value.isStrOf_shape (x := k) (v := e.2) h1
  exact ⟨k, t, q⟩
/-- its entries: the texts l in some order, with their hashes -/
def Ents (w : World) (l : List Str) (es : List (Int × Value)) : Prop := (es.map fun e => strOf e.2).Perm l ∧ ∀ e ∈ es, ∃ k u, e.2 = Value.str k u ∧ e.1 = hashStr w k
theorem TxR.ents {h : Heap} (R : TxR P w h a l) : ∃ D : Froz.SD, h.get? a = some (Froz.sObj "set" D) ∧ Froz.TxOk P w D l ∧ Ris D.2.2.place.toList ∧ (w.params.followText "set-order" = true ∨ D.2.2.led = true) ∧ (D.1.toList.map fun e => strOf e.2).Perm l ∧ Ents w l D.1.toList := by
  obtain ⟨⟨D, ho, ok, ri, le, pm⟩, _, _⟩ := R
  refine ⟨D, ho, ok, ri, le, pm, pm, fun e he => ?_⟩
  obtain ⟨⟨k, h1, h2⟩, _⟩ := ok.el e he
  obtain ⟨t, q⟩ := Value.isStrOf_shape (x := k) (v := e.2) h1
  exact ⟨k, t, q, h2⟩
theorem Ents.perm {es es' : List (Int × Value)} (x : Ents w l es) (p : es'.Perm es) : Ents w l es' := ⟨(p.map _).trans x.1, fun e he => x.2 e (p.mem_iff.mp he)⟩
theorem walk_tx {Q : Array (Int × Value) → Shared → Prop} (R : TxR P w s.heap a l) (hQ : ∀ (out : Array (Int × Value)) d, Ents w l out.toList → Q out { s with drawn := d }) : wpAny (model P w) A (setWalk a) Q E s := by
  obtain ⟨D, ho, ok, ri, le, pm, en⟩ := R.ents
  obtain ⟨es, ep, t⟩ := D
  unfold setWalk
  refine wpAny_bind (wpAny_setState_of ho rfl ok.fit ?_)
  dsimp only
  refine wpAny_bind (wpAny_byText ?_)
  by_cases bt : w.params.followText "set-order" = true
  · refine wp_if_pos bt ?_
    exact wpAny_bind (wpAny_askSetting (wpAny_pure (hQ _ s.drawn (en.perm (pick_perm _ _)))))
  · refine wp_if_neg bt ?_
    have hl : t.led = true := le.resolve_left bt
    by_cases dr : (!t.plain && decide (es.size > 1)) = true
    · refine wp_if_pos dr ?_
      refine wpAny_bind (drawOrder_at _ _ _ _ (by rw [Array.length_toList]; exact Nat.le_refl _) fun ys d p => wpAny_pure (hQ _ d (en.perm (by simpa using p))))
    · refine wp_if_neg dr ?_
      refine wpAny_bind (wpAny_of_eq (a := ()) ?_ ?_)
      · show (if (!t.led && decide (es.size > 1)) = true then unsupported "set:maker-not-led" else pure ()) = pure ()
        rw [hl] <;> rfl
      · exact wpAny_pure (hQ es s.drawn en)
end
end Wk

set_option Elab.async false
set_option linter.all false
set_option maxRecDepth 100000
set_option maxHeartbeats 3200000
namespace Wk
open PySem PySem.Spec PyProof.Rows L2
theorem forIn_acc {α β : Type} {M : Model} {A : Around} {E : Value → Shared → Prop} {f : α → β → Sem (ForInStep β)} {b : β} {Q : β → Shared → Prop} (J : List α → Shared → Prop) :
    ∀ (l done : List α) (s : Shared), J done s → (∀ x ∈ l, ∀ done s, J done s → wpAny M A (f x b) (fun st s' => st = .yield b ∧ J (done ++ [x]) s') E s) → (∀ s', J (done ++ l) s' → Q b s') → wpAny M A (forIn l b f) Q E s
  | [], done, s, hJ, _, hQ => by
    rw [List.forIn_nil]
    exact wpAny_pure (hQ s (by rw [List.append_nil]; exact hJ))
  | x :: l, done, s, hJ, hf, hQ => by
    rw [List.forIn_cons]
    refine wpAny_bind (wpAny_mono (hf x List.mem_cons_self done s hJ) (fun st s' ⟨e, hJ'⟩ => ?_) fun _ _ z => z)
    subst e
    exact forIn_acc J l (done ++ [x]) s' hJ' (fun y hy => hf y (List.mem_cons_of_mem _ hy)) fun s'' z => hQ s'' (by rw [List.append_assoc] at z; exact z)
theorem sub_len : ∀ (l D : List Str), l.Nodup → (∀ x ∈ l, x ∈ D) → l.length ≤ D.length
  | [], D, _, _ => Nat.zero_le _
  | x :: l, D, nd, hs => by
    obtain ⟨h1, h2⟩ := List.nodup_cons.mp nd
    have hx : x ∈ D := hs x List.mem_cons_self
    have q := sub_len l (D.erase x) h2 fun y hy => (List.mem_erase_of_ne (show y ≠ x from fun e => h1 (e ▸ hy))).mpr (hs y (List.mem_cons_of_mem _ hy))
    have e := List.length_erase_of_mem hx
    have p := List.length_pos_of_mem hx
    rw [List.length_cons]
    omega
section
variable {P : Program} {w : World} {A : Around} {E : Value → Shared → Prop} {s : Shared} {a b r : Addr} {la lb lr : List Str}
theorem unseen_tx {Q : Array (Int × Value) → Shared → Prop} (Ra : TxR P w s.heap a la) (Rb : TxR P w s.heap b lb) (Rr : TxR P w s.heap r lr)
    (hQ : ∀ (out : Array (Int × Value)) h' d, Heap.SameBut r s.heap h' → TxR P w h' r lr → Ents w la out.toList → Q out { s with heap := h', drawn := d }) : wpAny (model P w) A (setWalkUnseen a [b, r] (some r)) Q E s := by
  obtain ⟨D, ho, ok, ri, le, pm, en⟩ := Ra.ents
  obtain ⟨es, ep, t⟩ := D
  obtain ⟨D2, ho2, ok2, ri2, le2, pm2, en2⟩ := Rr.ents
  obtain ⟨ef, ep2, tf⟩ := D2
  unfold setWalkUnseen
  refine wpAny_bind (wpAny_setState_of ho rfl ok.fit ?_)
  dsimp only
  refine wpAny_bind (wpAny_byText ?_)
  by_cases c1 : (w.params.followText "set-order" || t.led && t.plain || decide (es.size ≤ 1)) = true
  · refine wp_if_pos c1 ?_
    exact walk_tx Ra fun out d e => hQ out s.heap d (Heap.SameBut.refl r s.heap) Rr e
  · refine wp_if_neg c1 ?_
    have bt : ¬ w.params.followText "set-order" = true := fun z => c1 (by rw [z]; rfl)
    have hl : t.led = true := le.resolve_left bt
    have hl2 : tf.led = true := le2.resolve_left bt
    refine wpAny_bind (quiet_at (fun c hc => ?_) ?_)
    · rcases List.mem_cons.mp hc with z | z
      · rw [z]; exact Ra.strs
      · rcases List.mem_cons.mp z with z | z
        · rw [z]; exact Rb.strs
        · rw [List.mem_singleton.mp z]; exact Rr.strs
    · refine wp_if_neg (by simp) ?_
      refine wpAny_bind (wpAny_rule ?_)
      refine wpAny_bind (wpAny_setState_of ho2 rfl ok2.fit ?_)
      dsimp only
      by_cases c2 : (tf.led && !t.led || tf.plain && !t.plain) = true
      · refine wp_if_pos c2 ?_
        refine wpAny_bind (wpAny_storeSet_of ho2 rfl ?_ (fits_of_scanBound (by
          have z : ef.size = lr.length := ok2.sz
          rw [z]; exact Rr.sz)))
        have q := store_at (es' := ef) (t' := { tf with led := tf.led && t.led, plain := tf.plain && t.plain }) ho2 rfl
        refine wpAny_pure (hQ es _ s.drawn (Heap.SameBut.update ..) ⟨⟨(ef, ep2 + 1, { tf with led := tf.led && t.led, plain := tf.plain && t.plain }), q, ⟨ok2.el, ok2.mem, ok2.sz, ok2.fit⟩, ri2, .inr ?_, pm2⟩, Rr.nd, Rr.sz⟩ en)
        show (tf.led && t.led) = true
        rw [hl, hl2]; rfl
      · refine wp_if_neg c2 ?_
        exact wpAny_pure (hQ es s.heap s.drawn (Heap.SameBut.refl r s.heap) Rr en)
/-- the entries of the one that stand in the other, laid into r -/
theorem inter_loop {f : Int × Value → PUnit → Sem (ForInStep PUnit)} {es : List (Int × Value)} {Q : PUnit → Shared → Prop} (en : Ents w la es) (sz : la.length + 1 < scanBound) (Rr : TxR P w s.heap r [])
    (hf : ∀ (e1 : Int) (k : Str) (u : Tok) (s' : Shared) (L : List Str) (R : ForInStep PUnit → Shared → Prop), e1 = hashStr w k → (∃ h', s' = { s with heap := h' } ∧ Heap.SameBut r s.heap h') → TxR P w s'.heap r L → L.length + 1 < scanBound →
      (∀ h', Heap.SameBut r s'.heap h' → TxR P w h' r (if k ∈ lb then (if k ∈ L then L else k :: L) else L) → R (.yield ⟨⟩) { s' with heap := h' }) → wpAny (model P w) A (f (e1, .str k u) ⟨⟩) R E s')
    (hQ : ∀ h' L, Heap.SameBut r s.heap h' → TxR P w h' r L → (∀ x, x ∈ L ↔ x ∈ la ∧ x ∈ lb) → Q ⟨⟩ { s with heap := h' }) : wpAny (model P w) A (forIn es ⟨⟩ f) Q E s := by
  have hlen : es.length = la.length := by rw [← en.1.length_eq, List.length_map]
  refine forIn_acc (fun done s' => ∃ h' L, s' = { s with heap := h' } ∧ Heap.SameBut r s.heap h' ∧ TxR P w h' r L ∧ (∀ x, x ∈ L ↔ x ∈ done.map (fun e => strOf e.2) ∧ x ∈ lb) ∧ ∀ x ∈ L, x ∈ la) es [] s ⟨s.heap, [], rfl, Heap.SameBut.refl r s.heap, Rr, fun x => by simp, fun x hx => by cases hx⟩ ?_ ?_
  · rintro ⟨e1, v⟩ he done s' ⟨h', L, rfl, sb, RL, hm, hs⟩
    obtain ⟨k, u, h1, h2⟩ := en.2 _ he
    have h1 : v = .str k u := h1
    have h2 : e1 = hashStr w k := h2
    subst h1
    have kla : k ∈ la := en.1.mem_iff.mp (List.mem_map.mpr ⟨_, he, rfl⟩)
    have hL : L.length ≤ la.length := sub_len L la RL.nd hs
    by_cases hfull : L.length + 1 < scanBound
    · refine hf e1 k u _ L _ h2 ⟨h', rfl, sb⟩ RL hfull fun h'' sb' RL' => ⟨rfl, h'', _, rfl, sb.trans sb', RL', fun x => ?_, fun x hx => ?_⟩
      · rw [List.map_append, List.mem_append]
        show _ ↔ (x ∈ done.map _ ∨ x ∈ [k]) ∧ x ∈ lb
        rw [List.mem_singleton]
        by_cases c1 : k ∈ lb
        · rw [if_pos c1]
          by_cases c2 : k ∈ L
          · rw [if_pos c2, hm x]
            refine ⟨fun z => ⟨.inl z.1, z.2⟩, fun z => ⟨z.1.elim id fun e => ?_, z.2⟩⟩
            rw [e]; exact ((hm k).mp c2).1
          · rw [if_neg c2, List.mem_cons, hm x]
            refine ⟨fun z => z.elim (fun e => ⟨.inr e, by rw [e]; exact c1⟩) fun z => ⟨.inl z.1, z.2⟩, fun z => z.1.elim (fun y => .inr ⟨y, z.2⟩) .inl⟩
        · rw [if_neg c1, hm x]
          refine ⟨fun z => ⟨.inl z.1, z.2⟩, fun z => ⟨z.1.elim id fun e => absurd (by rw [← e]; exact z.2) c1, z.2⟩⟩
      · have key : x ∈ L ∨ x = k := by
          by_cases c1 : k ∈ lb
          · rw [if_pos c1] at hx
            by_cases c2 : k ∈ L
            · rw [if_pos c2] at hx; exact .inl hx
            · rw [if_neg c2] at hx
              exact (List.mem_cons.mp hx).elim .inr .inl
          · rw [if_neg c1] at hx; exact .inl hx
        rcases key with z | z
        · exact hs x z
        · rw [z]; exact kla
    · exact absurd hL (by omega)
  · rintro s' ⟨h', L, rfl, sb, RL, hm, _⟩
    refine hQ h' L sb RL fun x => ?_
    rw [hm x, List.nil_append, en.1.mem_iff]
end
end Wk

set_option Elab.async false
set_option linter.all false
set_option maxRecDepth 100000
set_option maxHeartbeats 3200000
namespace Wk
open PySem PySem.Spec PyProof.Rows L2
theorem entry_set_and : entryFor table "set.__and__" = some Builtin.«frozenset.__and__» :=
  entryFor_alias (id' := "frozenset.__and__") (by kernel_rfl) rfl (by decide +kernel) (by kernel_rfl)
section
variable {P : Program} {w : World} {A : Around} {E : Value → Shared → Prop} {s : Shared} {a b r : Addr} {la lb lr : List Str}
theorem TxR.typeIs (R : TxR P w s.heap a la) : s.TypeIs (.ref a) "set" := by
  obtain ⟨⟨D, ho, _⟩, _, _⟩ := R
  exact ⟨_, ho, rfl⟩
/-- the one is walked, the other asked -/
theorem inter_core {id : String} {ax wk : Addr} {lx ly : List Str} {Q : Unit → Shared → Prop} (Rx : TxR P w s.heap ax lx) (Ry : TxR P w s.heap wk ly) (Rr : TxR P w s.heap r []) (nx : ax ≠ r) (ny : wk ≠ r) (sy : ly.length + 1 < scanBound)
    (hQ : ∀ h' d L, Heap.SameBut r s.heap h' → TxR P w h' r L → (∀ x, x ∈ L ↔ x ∈ ly ∧ x ∈ lx) → Q () { s with heap := h', drawn := d }) :
    wpAny (model P w) A (do
      let was ← setEpoch wk
      let out ← setWalkUnseen wk [ax, r] (some r)
      forIn out PUnit.unit fun x __s => do
        holding [x.snd] do
          let f ← setFind ax x.snd x.fst
          if f.isSome = true then do
            let _ ← setAddHashed r x.snd x.fst
            pure ()
          else pure ()
        Builtin.Frozenset.unchanged id wk was
        pure (ForInStep.yield PUnit.unit)
      pure ()) Q E s := by
  obtain ⟨Dy, hoy, oky, _⟩ := Ry.ents
  refine wpAny_bind (wpAny_setEpoch_of hoy rfl oky.fit ?_)
  refine wpAny_bind (unseen_tx Ry Rx Rr fun out h2 d sb2 Rr2 en => ?_)
  refine wpAny_bind ?_
  rw [← Array.forIn_toList]
  refine inter_loop (s := { s with heap := h2, drawn := d }) (lb := lx) en sy Rr2 (fun e1 k u s' L R e ⟨h', es', sb'⟩ RL hL hR => ?_) fun h' L sb' RL hm => wpAny_pure (hQ h' d L (sb2.trans sb') RL hm)
  subst e
  have kx : TxR P w s'.heap ax lx := Rx.at fun o e => by
    rw [es']
    exact (sb'.2 ax nx).trans ((sb2.2 ax nx).trans e)
  obtain ⟨⟨Dx, hox, okx, _⟩, _, sx⟩ := _root_.id kx
  have hkey : (strKind P w).is k (.str k u) = true := Froz.is_str k u
  have epo : ∀ (h3 : Heap), Heap.SameBut r s'.heap h3 → ∀ (R' : Unit → Shared → Prop), R' () { s' with heap := h3 } → wpAny (model P w) A (Builtin.Frozenset.unchanged id wk Dy.2.1) R' E { s' with heap := h3 } := fun h3 sb3 R' hR' => by
    unfold Builtin.Frozenset.unchanged
    have q : h3.get? wk = some (Froz.sObj "set" Dy) := by
      rw [sb3.2 wk ny, es']
      exact (sb'.2 wk ny).trans ((sb2.2 wk ny).trans hoy)
    refine wpAny_bind (wpAny_setEpoch_of (s := { s' with heap := h3 }) q rfl oky.fit ?_)
    exact wp_if_neg (by simp) (wpAny_pure hR')
  refine wpAny_bind (wpAny_holding ?_)
  refine wpAny_bind (PySem.W.setFind_any (knd := strKind P w) (S := fun k => decide (k ∈ lx)) hkey rfl hox rfl okx.el (fun k => by rw [decide_eq_true_eq]; exact okx.mem k) (by rw [okx.sz]; exact sx) okx.fit fun res hres => ?_)
  by_cases c : k ∈ lx
  · rw [if_pos c] at hR
    refine wp_if_pos (by rw [hres]; exact decide_eq_true c) ?_
    refine wpAny_bind (tx_add RL hL fun bb h3 sb3 R3 => ?_)
    refine wpAny_pure (wpAny_bind (epo h3 sb3 _ (wpAny_pure (hR h3 sb3 R3))))
  · rw [if_neg c] at hR
    refine wp_if_neg (by rw [hres]; simpa using c) ?_
    exact wpAny_pure (wpAny_bind (epo s'.heap (Heap.SameBut.refl r s'.heap) _ (wpAny_pure (hR s'.heap (Heap.SameBut.refl r s'.heap) RL))))
theorem inter_at {id : String} {Q : Value → Shared → Prop} (hne : a ≠ b) (Ra : TxR P w s.heap a la) (Rb : TxR P w s.heap b lb) (sa : la.length + 1 < scanBound) (sb : lb.length + 1 < scanBound)
    (hQ : ∀ h' d L, (∀ c o, s.heap.get? c = some o → h'.get? c = some o) → TxR P w h' s.heap.objs.size L → (∀ x, x ∈ L ↔ x ∈ la ∧ x ∈ lb) → Q (.ref s.heap.objs.size) { s with heap := h', drawn := d }) :
    wpAny (model P w) A (Builtin.Frozenset.intersection id a (.ref b)) Q E s := by
  have hba : (Value.ref b == Value.ref a) = false := by
    first
      | exact beq_eq_false_iff_ne.mpr (fun e => hne (by cases e; rfl))
      | simp [Ne.symm hne]
      | (cases hq : (Value.ref b == Value.ref a) with
         | false => rfl
         | true => exact absurd (by simpa using hq) hne)
  unfold Builtin.Frozenset.intersection
  refine wp_if_neg (by rw [hba]; exact Bool.false_ne_true) ?_
  unfold Builtin.Frozenset.baseOf
  refine wpAny_bind (wpAny_bind (wpAny_isInstance (T := "set") (b := true) Ra.typeIs sub_set_self (wpAny_pure ?_)))
  simp only [if_true]
  unfold newSet
  refine wpAny_bind (wpAny_bind (wpAny_byText ?_))
  simp only [newObj]
  refine wpAny_bind (wpAny_alloc (wpAny_pure ?_))
  have hn : (s.heap.push (set0 w)).get? s.heap.objs.size = some (set0 w) := Heap.get?_push_size _ rfl
  have kp : ∀ c o, s.heap.get? c = some o → (s.heap.push (set0 w)).get? c = some o := fun c o e => Heap.get?_push_of_some _ e
  have Rr : TxR P w (s.heap.push (set0 w)) s.heap.objs.size [] := tx_fresh hn
  have Ra1 : TxR P w (s.heap.push (set0 w)) a la := Ra.at fun o e => kp _ _ e
  have Rb1 : TxR P w (s.heap.push (set0 w)) b lb := Rb.at fun o e => kp _ _ e
  have lta : a < s.heap.objs.size := by obtain ⟨⟨D, ho, _⟩, _, _⟩ := Ra; exact Heap.lt_size ho
  have ltb : b < s.heap.objs.size := by obtain ⟨⟨D, ho, _⟩, _, _⟩ := Rb; exact Heap.lt_size ho
  generalize hh1 : s.heap.push (set0 w) = h1 at hn kp Rr Ra1 Rb1
  generalize hr : s.heap.objs.size = r at hn kp Rr Ra1 Rb1 lta ltb hQ
  unfold Builtin.Frozenset.addrOf
  refine wpAny_bind (wpAny_pure ?_)
  refine wpAny_bind (wpAny_holding ?_)
  unfold Builtin.Frozenset.isAnySet
  refine wpAny_bind (wpAny_bind (wpAny_isInstance (T := "set") (b := true) (TxR.typeIs (s := { s with heap := h1 }) Rb1) sub_set_self ?_))
  refine wpAny_pure ?_
  simp only [if_true]
  refine wpAny_bind (wpAny_pure ?_)
  obtain ⟨Da, hoa, oka, _⟩ := Ra1.ents
  obtain ⟨Db, hob, okb, _⟩ := Rb1.ents
  unfold Builtin.Frozenset.sizeOf
  refine wpAny_bind (wpAny_bind (wpAny_setEntries_of (s := { s with heap := h1 }) hob rfl okb.fit (wpAny_pure ?_)))
  refine wpAny_bind (wpAny_bind (wpAny_setEntries_of (s := { s with heap := h1 }) hoa rfl oka.fit (wpAny_pure ?_)))
  have fin : ∀ h' d L, Heap.SameBut r h1 h' → TxR P w h' r L → (∀ x, x ∈ L ↔ x ∈ la ∧ x ∈ lb) → wpAny (model P w) A (pure (Value.ref r)) Q E { s with heap := h', drawn := d } := fun h' d L sb' RL hm =>
    wpAny_pure (hQ h' d L (fun c o e => (sb'.2 c (fun z => by
      have := Heap.lt_size e
      rw [z, hr] at this
      exact Nat.lt_irrefl _ this)).trans (kp c o e)) RL hm)
  by_cases c : Db.1.size > Da.1.size
  · simp only [if_pos c]
    exact inter_core (s := { s with heap := h1 }) Rb1 Ra1 Rr (Nat.ne_of_lt ltb) (Nat.ne_of_lt lta) sa fun h' d L sb' RL hm => fin h' d L sb' RL hm
  · simp only [if_neg c]
    exact inter_core (s := { s with heap := h1 }) Ra1 Rb1 Rr (Nat.ne_of_lt lta) (Nat.ne_of_lt ltb) sb fun h' d L sb' RL hm => fin h' d L sb' RL fun x => (hm x).trans And.comm
theorem and_tx {Q : Value → Shared → Prop} (hne : a ≠ b) (Ra : TxR P w s.heap a la) (Rb : TxR P w s.heap b lb) (sa : la.length + 1 < scanBound) (sb : lb.length + 1 < scanBound)
    (hQ : ∀ h' d L, (∀ c o, s.heap.get? c = some o → h'.get? c = some o) → TxR P w h' s.heap.objs.size L → (∀ x, x ∈ L ↔ x ∈ la ∧ x ∈ lb) → Q (.ref s.heap.objs.size) { s with heap := h', drawn := d }) :
    wpAny (model P w) A (binaryOp .BitAnd (.ref a) (.ref b)) Q E s := by
  refine wpAny_binaryOp_same Ra.typeIs Rb.typeIs PySem.F.fills_set_and PySem.F.slot_set_and ?_
  refine wpAny_call_entry PySem.F.slot_set_and Ra.typeIs entry_set_and ?_ (PySem.F.args_set_and_2 _ _)
  unfold Builtin.«frozenset.__and__»
  wp_delta
  refine wpAny_bind (wpAny_of_eq (show Builtin.Frozenset.slot1 "__and__" ⟨[.ref a, .ref b], []⟩ = pure (Value.ref a, Value.ref b) from rfl) ?_)
  dsimp only
  rw [if_neg Bool.false_ne_true]
  dsimp only
  have any : ∀ {c : Addr} {lc : List Str} {Q' : Bool → Shared → Prop}, TxR P w s.heap c lc → Q' true s → wpAny (model P w) A.in1 (Builtin.Frozenset.isAnySet (.ref c)) Q' E s := fun {c lc Q'} R q => by
    unfold Builtin.Frozenset.isAnySet
    exact wpAny_bind (wpAny_isInstance (T := "set") (b := true) R.typeIs sub_set_self (wpAny_pure q))
  refine wpAny_bind (wpAny_bind (any Ra (any Rb ?_)))
  refine wp_if_neg (by simp) ?_
  refine wpAny_bind (wpAny_pure ?_)
  refine wpAny_bind (inter_at hne Ra Rb sa sb fun h' d L hk R hm => ?_)
  exact wpAny_pure ⟨_, rfl, (fun z => by cases z), hQ h' d L hk R hm⟩
end
/-- the intersection of two sets of texts -/
def rAndTx (P : Program) (w : World) : V → V → Hp → VK → Prop := fun x y H Q => ∃ (a b : Addr) (la lb : List Str), x = .ref a ∧ y = .ref b ∧ a ≠ b ∧ H a = some (TxO P w a la) ∧ H b = some (TxO P w b lb) ∧ la.length + 1 < scanBound ∧ lb.length + 1 < scanBound ∧
  ∀ (p : Addr) (L : List Str), H p = none → L.Nodup → (∀ x, x ∈ L ↔ x ∈ la ∧ x ∈ lb) → Q (.ref p) (upd H p (TxO P w p L))
theorem op_andTx {X : Cx} : OpR X (binaryOp .BitAnd) (rAndTx X.prog X.w) := by
  intro pins s σ H x y v u Q I rx ry h
  obtain ⟨a, b, la, lb, rfl, rfl, hne, ha, hb, sa, sb, q⟩ := h
  cases rx
  cases ry
  refine and_tx hne (txO_get I ha) (txO_get I hb) sa sb fun h' d L hk R hm => ?_
  have hn : H s.heap.objs.size = none := I.hok.fresh (Nat.le_refl _)
  have J : Inv X pins σ (upd H s.heap.objs.size (TxO X.prog X.w s.heap.objs.size L)) { s with heap := h', drawn := d } :=
    I.call' (ch := []) rfl (Un.laid hk (Nat.le_refl _) hn) (I.hok.laid hk (Nat.le_refl _) (txO_new R)) I.bare (fun _ z => nomatch z)
  exact ⟨.ref _, _, J, rfl, q _ L hn R.nd hm⟩
end Wk

set_option Elab.async false
set_option linter.all false
set_option maxRecDepth 100000
set_option maxHeartbeats 2000000
/-! How large and how deep rows are, rests and callings: promises. -/
namespace Wk
open PySem PySem.Spec PyProof.Rows L2 GxR
theorem size_rest : ∀ p : Part, sizeP p = 1 + sizeR (restP p)
  | .say _ => rfl
  | .again r => by show sizeR r + 1 = 1 + sizeR r; omega
  | .oth _ _ r => by show sizeR r + 1 = 1 + sizeR r; omega
theorem deep_rest : ∀ p : Part, deepP p = 1 + deepR (restP p)
  | .say _ => rfl
  | .again r => by show deepR r + 1 = 1 + deepR r; omega
  | .oth _ _ r => by show deepR r + 1 = 1 + deepR r; omega
/-- but for the table at T, which may have grown, what stood stands -/
def SameT (T : Addr) (H H' : Hp) : Prop := (∀ b o, b ≠ T → H b = some o → H' b = some o) ∧ TabG H' T
theorem SameT.refl {T : Addr} {H : Hp} (t : TabG H T) : SameT T H H := ⟨fun _ _ _ e => e, t⟩
theorem SameT.trans {T : Addr} {H H1 H2 : Hp} (a : SameT T H H1) (b : SameT T H1 H2) : SameT T H H2 := ⟨fun c o n e => b.1 c o n (a.1 c o n e), b.2⟩
theorem SameT.tab {T : Addr} {H H' : Hp} (h : Tabbed T H H') : SameT T H H' := ⟨fun b o n e => by rw [h.2 b n]; exact e, h.1⟩
theorem SameT.of {T : Addr} {H H' : Hp} (t : TabG H T) (s : Same H H') : SameT T H H' := ⟨fun b o _ e => s b o e, by
  obtain ⟨ps, e, h⟩ := t
  exact ⟨ps, s _ _ e, h⟩⟩
theorem SameT.tup {T : Addr} {H H' : Hp} (t : TabG H T) (s : SameT T H H') : STup H H' := fun a xs e => s.1 a _ (fun z => by
  obtain ⟨ps, q, _⟩ := t
  rw [z, q] at e
  cases e) e
def spRest : Sp := fun vs H Q _ => ∃ (v : V) (p : Part), vs = [v] ∧ PartAt H p v ∧ ∀ (H' : Hp) (u : V), Same H H' → RowAt H' (restP p) u → Q u H'
def spParts (T : Addr) (n : Nat) : Sp := fun vs H Q _ => ∃ (v : V) (r : List Part), vs = [v] ∧ RowAt H r v ∧ deepR r < n ∧ sizeR r ≤ 1000 ∧ TabG H T ∧ ∀ (H' : Hp), SameT T H H' → Q (.int (sizeR r : Nat)) H'
def spDeep (n : Nat) : Sp := fun vs H Q _ => ∃ (v : V) (r : List Part), vs = [v] ∧ RowAt H r v ∧ deepR r < n ∧ sizeR r ≤ 1000 ∧ ∀ (H' : Hp), Same H H' → Q (.int (deepR r : Nat)) H'
/-- a def whose code object is at c -/
structure FunC (K : PySem.W.Frag) (x qual : Str) (st : Stmt) (f c : Addr) (fd : FuncData) : Prop where
  ex : ∃ (oc : Value) (od : Option Addr) (kV doc pm : Value) (an : Option Addr) (ct : Value) (osl : Array (Option Value)),
    fd = PySem.W.fnOf x qual (defArgs st) (defBody st) (defScope st) .none kV doc pm an (.ref c) ct ∧ K.lookup f = some ⟨oc, od, .func fd, osl⟩ ∧ PySem.W.codeIn K (.ref c) qual = true
  kp : PySem.W.keepIn K (.ref f) = true
theorem FunC.fn {K : PySem.W.Frag} {x qual : Str} {st : Stmt} {f c : Addr} {fd : FuncData} (F : FunC K x qual st f c fd) : Fun K x qual st f fd := by
  obtain ⟨⟨oc, od, kV, doc, pm, an, ct, osl, rfl, lk, hcd⟩, kp⟩ := F
  exact ⟨⟨oc, od, kV, doc, pm, an, _, ct, osl, rfl, lk, hcd⟩, kp⟩
theorem FunC.ok {P : Program} {w : World} {K : PySem.W.Frag} {mg : Str → Option Value} {base : Heap} {x qual : Str} {st : Stmt} {f c : Addr} {fd : FuncData} {N ps : List Str} {k : Nat} {sp : Sp} (F : FunC K x qual st f c fd) (S : FnScope N ps (defScope st))
    (len : ∀ vs H Q E, sp vs H Q E → vs.length = ps.length)
    (hb : ∀ (A : Around) (outer : List Env) (s : Shared) (H : Hp) (vs : List V) (Q : VK) (E : XK), Room k (A.deeper (envOfC qual (defScope st) s.heap.objs.size f (.ref c))) → sp vs H Q E →
      ∃ t, PSs (cxOf CX0 P w K mg base N qual (defScope st) f (.ref c) A outer s H E) (defBody st) t ∧ t { nx := fun _ H' => Q .non H', rt := Q } (start N vs) H) : FnOk P w K mg base CX0 (k + 1) f fd ps sp := by
  obtain ⟨⟨oc, od, kV, doc, pm, an, ct, osl, rfl, lk, hcd⟩, _⟩ := F
  exact fn_of lk hcd S len hb
theorem preSum_sizes (r : List Part) : ∀ i, i ≤ r.length → preSum (fun j => ((r[j]?).elim (0 : Int) fun p => (sizeP p : Nat))) i = (sizeR (r.take i) : Nat)
  | 0, _ => by simp [preSum, sizeR]
  | i + 1, h => by
    have hi : i < r.length := h
    rw [preSum, preSum_sizes r i (Nat.le_of_lt hi), List.take_add_one, List.getElem?_eq_getElem hi, sizeR_app]
    show _ = (((sizeR (r.take i) + (sizeP r[i] + 0)) : Nat) : Int)
    simp
theorem sizeR_take (r : List Part) (i : Nat) : sizeR (r.take i) ≤ sizeR r := by
  have e := sizeR_app (r.take i) (r.drop i)
  rw [List.take_append_drop] at e
  omega
/-! ### callings -/
/-- the calling of a part -/
def callP : Part → V
  | .say n => .str n
  | .again _ => .non
  | .oth _ n _ => .str n
mutual
/-- the free callings, as often as they stand there; S: what is bound around -/
def frP : List Str → Part → List Str
  | S, .say n => if n ∈ S then [] else [n]
  | S, .again r => frR S r
  | S, .oth w n r => if w.binds = true then frR (S ++ [n]) r else (if n ∈ S then [] else [n]) ++ frR S r
def frR : List Str → List Part → List Str
  | _, [] => []
  | S, p :: r => frP S p ++ frR S r
end
theorem frR_app (S : List Str) : ∀ r q : List Part, frR S (r ++ q) = frR S r ++ frR S q
  | [], q => rfl
  | p :: r, q => by
    show frP S p ++ frR S (r ++ q) = (frP S p ++ frR S r) ++ frR S q
    rw [frR_app S r q, List.append_assoc]
mutual
theorem frP_len : ∀ (p : Part) (S : List Str), (frP S p).length ≤ sizeP p
  | .say n, S => by
    unfold frP sizeP
    split <;> simp
  | .again r, S => by
    have := frR_len r S
    show (frR S r).length ≤ sizeR r + 1
    omega
  | .oth w n r, S => by
    unfold frP
    show _ ≤ sizeR r + 1
    split
    · have := frR_len r (S ++ [n])
      omega
    · have := frR_len r S
      rw [List.length_append]
      split <;> simp <;> omega
theorem frR_len : ∀ (r : List Part) (S : List Str), (frR S r).length ≤ sizeR r
  | [], S => Nat.le_refl _
  | p :: r, S => by
    have h1 := frP_len p S
    have h2 := frR_len r S
    show (frP S p ++ frR S r).length ≤ sizeP p + sizeR r
    rw [List.length_append]
    omega
end
mutual
theorem bdP_len : ∀ (p : Part), (bdP p).length ≤ sizeP p
  | .say n => Nat.zero_le _
  | .again r => by
    have := bdR_len r
    show (bdR r).length ≤ sizeR r + 1
    omega
  | .oth w n r => by
    have := bdR_len r
    show ((if w.binds then [n] else []) ++ bdR r).length ≤ sizeR r + 1
    rw [List.length_append]
    split <;> simp <;> omega
theorem bdR_len : ∀ (r : List Part), (bdR r).length ≤ sizeR r
  | [] => Nat.le_refl _
  | p :: r => by
    have h1 := bdP_len p
    have h2 := bdR_len r
    show (bdP p ++ bdR r).length ≤ sizeP p + sizeR r
    rw [List.length_append]
    omega
end
/-- what a part itself adds, what is bound within it -/
def fhP : List Str → Part → List Str
  | S, .say n => if n ∈ S then [] else [n]
  | _, .again _ => []
  | S, .oth w n _ => if w.binds = true then [] else if n ∈ S then [] else [n]
def bhP : Part → List Str
  | .oth w n _ => if w.binds = true then [n] else []
  | _ => []
def inP : List Str → Part → List Str
  | S, .oth w n _ => if w.binds = true then S ++ [n] else S
  | S, _ => S
theorem frP_eq (S : List Str) : ∀ p : Part, frP S p = fhP S p ++ frR (inP S p) (restP p)
  | .say n => by
    show (if n ∈ S then [] else [n]) = (if n ∈ S then [] else [n]) ++ []
    rw [List.append_nil]
  | .again r => rfl
  | .oth w n r => by
    show (if w.binds = true then frR (S ++ [n]) r else (if n ∈ S then [] else [n]) ++ frR S r) = (if w.binds = true then [] else if n ∈ S then [] else [n]) ++ frR (if w.binds = true then S ++ [n] else S) r
    by_cases c : w.binds = true
    · rw [if_pos c, if_pos c, if_pos c, List.nil_append]
    · rw [if_neg c, if_neg c, if_neg c]
theorem bdP_eq : ∀ p : Part, bdP p = bhP p ++ bdR (restP p)
  | .say n => rfl
  | .again r => rfl
  | .oth w n r => rfl
theorem inP_len (S : List Str) : ∀ p : Part, (inP S p).length ≤ S.length + 1
  | .say n => Nat.le_succ _
  | .again r => Nat.le_succ _
  | .oth w n r => by
    show (if w.binds = true then S ++ [n] else S).length ≤ S.length + 1
    by_cases c : w.binds = true
    · rw [if_pos c, List.length_append]; exact Nat.le_refl _
    · rw [if_neg c]; exact Nat.le_succ _
theorem fhP_len (S : List Str) : ∀ p : Part, (fhP S p).length ≤ 1
  | .say n => by
    show (if n ∈ S then [] else [n] : List Str).length ≤ 1
    by_cases c : n ∈ S
    · rw [if_pos c]; exact Nat.zero_le _
    · rw [if_neg c]; exact Nat.le_refl _
  | .again r => Nat.zero_le _
  | .oth w n r => by
    show (if w.binds = true then [] else if n ∈ S then [] else [n] : List Str).length ≤ 1
    by_cases b : w.binds = true
    · rw [if_pos b]; exact Nat.zero_le _
    · rw [if_neg b]
      by_cases c : n ∈ S
      · rw [if_pos c]; exact Nat.zero_le _
      · rw [if_neg c]; exact Nat.le_refl _
theorem bhP_len : ∀ p : Part, (bhP p).length ≤ 1
  | .say n => Nat.zero_le _
  | .again r => Nat.zero_le _
  | .oth w n r => by
    show (if w.binds = true then [n] else [] : List Str).length ≤ 1
    by_cases b : w.binds = true
    · rw [if_pos b]; exact Nat.le_refl _
    · rw [if_neg b]; exact Nat.zero_le _
/-- but for the two lists, what stood stands -/
def Sam2 (F B : Addr) (H H' : Hp) : Prop := ∀ b o, b ≠ F → b ≠ B → H b = some o → H' b = some o
theorem Sam2.trans {F B : Addr} {H H1 H2 : Hp} (a : Sam2 F B H H1) (b : Sam2 F B H1 H2) : Sam2 F B H H2 := fun c o n m e => b c o n m (a c o n m e)
theorem Sam2.of {F B : Addr} {H H' : Hp} (s : Same H H') : Sam2 F B H H' := fun c o _ _ e => s c o e
theorem Sam2.tup {F B : Addr} {H H' : Hp} {xs ys : List V} (hF : H F = some (.lst xs)) (hB : H B = some (.lst ys)) (s : Sam2 F B H H') : STup H H' := fun a zs e => s a _ (fun z => by rw [z, hF] at e; cases e) (fun z => by rw [z, hB] at e; cases e) e
def spCalling : Sp := fun vs H Q _ => ∃ (v : V) (p : Part), vs = [v] ∧ PartAt H p v ∧ Q (callP p) H
def spGather (n : Nat) : Sp := fun vs H Q _ => ∃ (v : V) (r : List Part) (aS F B : Addr) (S fs bs : List Str), vs = [v, .ref aS, .ref F, .ref B] ∧ RowAt H r v ∧ H aS = some (.tup (S.map V.str)) ∧ H F = some (.lst (fs.map V.str)) ∧ H B = some (.lst (bs.map V.str)) ∧ F ≠ B ∧
  deepR r < n ∧ sizeR r + fs.length ≤ 1000 ∧ sizeR r + bs.length ≤ 1000 ∧ S.length + deepR r ≤ 1000 ∧
  ∀ H', Sam2 F B H H' → H' F = some (.lst ((fs ++ frR S r).map V.str)) → H' B = some (.lst ((bs ++ bdR r).map V.str)) → Q .non H'
def spCallings (n : Nat) : Sp := fun vs H Q _ => ∃ (v : V) (r : List Part), vs = [v] ∧ RowAt H r v ∧ deepR r < n ∧ sizeR r ≤ 1000 ∧ deepR r ≤ 1000 ∧
  ∀ (H' : Hp) (t F B : Addr), Same H H' → H F = none → H B = none → F ≠ B → H' t = some (.tup [.ref F, .ref B]) → H' F = some (.lst ((frR [] r).map V.str)) → H' B = some (.lst ((bdR r).map V.str)) → Q (.ref t) H'
/-- each of g's texts once, sorted, in a new list -/
def spSorted (g : List Part → List Str) (n : Nat) : Sp := fun vs H Q _ => ∃ (v : V) (r : List Part), vs = [v] ∧ RowAt H r v ∧ deepR r < n ∧ sizeR r ≤ 1000 ∧ deepR r ≤ 1000 ∧ (∀ L : List Str, L.Nodup → (∀ x, x ∈ L ↔ x ∈ g r) → L.length < 64) ∧
  ∀ (H' : Hp) (p : Addr) (ys : List Str), Same H H' → H p = none → ys.Nodup → (∀ x, x ∈ ys ↔ x ∈ g r) → sortedS ys = true → H' p = some (.lst (ys.map V.str)) → Q (.ref p) H'
end Wk

set_option Elab.async false
set_option linter.all false
set_option maxRecDepth 100000
set_option maxHeartbeats 2000000
/-! Rows level by level. -/
namespace Wk
open PySem PySem.Spec PyProof.Rows L2 GxR
def isSay : Part → Bool
  | .say _ => true
  | _ => false
def nextR (r : List Part) : List (List Part) := (r.filter fun p => !isSay p).map restP
def nextL : List (List Part) → List (List Part)
  | [] => []
  | r :: ls => nextR r ++ nextL ls
def deepL : List (List Part) → Nat
  | [] => 0
  | r :: ls => max (deepR r) (deepL ls)
def sizeL : List (List Part) → Nat
  | [] => 0
  | r :: ls => sizeR r + sizeL ls
theorem deepL_app : ∀ a b, deepL (a ++ b) = max (deepL a) (deepL b)
  | [], b => by show deepL b = max 0 (deepL b); omega
  | r :: a, b => by
    show max (deepR r) (deepL (a ++ b)) = max (max (deepR r) (deepL a)) (deepL b)
    rw [deepL_app a b]; omega
theorem sizeL_app : ∀ a b, sizeL (a ++ b) = sizeL a + sizeL b
  | [], b => by show sizeL b = 0 + sizeL b; omega
  | r :: a, b => by
    show sizeR r + sizeL (a ++ b) = sizeR r + sizeL a + sizeL b
    rw [sizeL_app a b]; omega
theorem nextL_app : ∀ a b, nextL (a ++ b) = nextL a ++ nextL b
  | [], b => rfl
  | r :: a, b => by
    show nextR r ++ nextL (a ++ b) = (nextR r ++ nextL a) ++ nextL b
    rw [nextL_app a b, List.append_assoc]
theorem nextR_cons (p : Part) (r : List Part) : nextR (p :: r) = (if isSay p = true then [] else [restP p]) ++ nextR r := by
  unfold nextR
  cases p <;> simp [List.filter_cons, isSay]
theorem nextR_deep : ∀ r : List Part, deepL (nextR r) = deepR r - 1
  | [] => rfl
  | p :: r => by
    rw [nextR_cons, deepL_app, nextR_deep r]
    have d := deep_rest p
    show max (deepL (if isSay p = true then [] else [restP p])) (deepR r - 1) = max (deepP p) (deepR r) - 1
    cases p with
    | say n =>
      have e : deepR (restP (.say n)) = 0 := rfl
      show max 0 (deepR r - 1) = _
      omega
    | again q =>
      show max (max (deepR (restP (.again q))) 0) (deepR r - 1) = _
      omega
    | oth w n q =>
      show max (max (deepR (restP (.oth w n q))) 0) (deepR r - 1) = _
      omega
theorem nextL_deep : ∀ ls, deepL (nextL ls) = deepL ls - 1
  | [] => rfl
  | r :: ls => by
    show deepL (nextR r ++ nextL ls) = max (deepR r) (deepL ls) - 1
    rw [deepL_app, nextR_deep, nextL_deep ls]; omega
theorem nextR_size : ∀ r : List Part, sizeL (nextR r) + (nextR r).length ≤ sizeR r
  | [] => Nat.le_refl _
  | p :: r => by
    rw [nextR_cons, sizeL_app, List.length_append]
    have h := nextR_size r
    have s := size_rest p
    show sizeL (if isSay p = true then [] else [restP p]) + sizeL (nextR r) + ((if isSay p = true then [] else [restP p]).length + (nextR r).length) ≤ sizeP p + sizeR r
    cases p with
    | say n =>
      show 0 + sizeL (nextR r) + (0 + (nextR r).length) ≤ _
      omega
    | again q =>
      show (sizeR (restP (.again q)) + 0) + sizeL (nextR r) + (1 + (nextR r).length) ≤ _
      omega
    | oth w n q =>
      show (sizeR (restP (.oth w n q)) + 0) + sizeL (nextR r) + (1 + (nextR r).length) ≤ _
      omega
theorem nextL_size : ∀ ls, sizeL (nextL ls) + (nextL ls).length ≤ sizeL ls
  | [] => Nat.le_refl _
  | r :: ls => by
    show sizeL (nextR r ++ nextL ls) + (nextR r ++ nextL ls).length ≤ sizeR r + sizeL ls
    rw [sizeL_app, List.length_append]
    have h1 := nextR_size r
    have h2 := nextL_size ls
    omega
abbrev okS (r : List Part) : Prop := okR (fun n => PyData.strOk n = true) r
def okL (ls : List (List Part)) : Prop := ∀ r ∈ ls, okS r
theorem okR_mem {f : Str → Prop} : ∀ {r : List Part}, okR f r → ∀ p ∈ r, okP f p
  | p :: r, h, q, hq => by
    rcases List.mem_cons.mp hq with e | e
    · rw [e]; exact h.1
    · exact okR_mem h.2 q e
theorem nextR_ok {r : List Part} (h : okS r) : okL (nextR r) := fun q hq => by
  obtain ⟨p, hp, rfl⟩ := List.mem_map.mp hq
  exact rest_ok (okR_mem h p (List.mem_filter.mp hp).1)
theorem nextL_ok : ∀ {ls : List (List Part)}, okL ls → okL (nextL ls)
  | [], h => fun q hq => by cases hq
  | r :: ls, h => fun q hq => by
    rcases List.mem_append.mp hq with z | z
    · exact nextR_ok (h r List.mem_cons_self) q z
    · exact nextL_ok (fun x hx => h x (List.mem_cons_of_mem _ hx)) q z
/-! ### in memory -/
def LvAt (H : Hp) : List (List Part) → List V → Prop
  | [], vs => vs = []
  | r :: ls, vs => ∃ v ws, vs = v :: ws ∧ RowAt H r v ∧ LvAt H ls ws
theorem LvAt.mono {H H' : Hp} (s : STup H H') : ∀ {ls : List (List Part)} {vs : List V}, LvAt H ls vs → LvAt H' ls vs
  | [], _, h => h
  | r :: ls, _, h => by
    obtain ⟨v, ws, rfl, h1, h2⟩ := h
    exact ⟨v, ws, rfl, h1.mono s, LvAt.mono s h2⟩
theorem LvAt.len {H : Hp} : ∀ {ls : List (List Part)} {vs : List V}, LvAt H ls vs → vs.length = ls.length
  | [], _, h => by rw [h]; rfl
  | r :: ls, _, h => by
    obtain ⟨v, ws, rfl, _, h2⟩ := h
    rw [List.length_cons, List.length_cons, LvAt.len h2]
theorem LvAt.get {H : Hp} : ∀ {ls : List (List Part)} {vs : List V}, LvAt H ls vs → ∀ {i : Nat} {v : V}, vs[i]? = some v → ∃ r, ls[i]? = some r ∧ RowAt H r v
  | [], _, h, i, v, hv => by rw [show _ = [] from h] at hv; simp at hv
  | r :: ls, _, h, 0, v, hv => by
    obtain ⟨u, ws, rfl, h1, _⟩ := h
    have z : u = v := by simpa using hv
    exact ⟨r, rfl, z ▸ h1⟩
  | r :: ls, _, h, i + 1, v, hv => by
    obtain ⟨u, ws, rfl, _, h2⟩ := h
    obtain ⟨q, h3, h4⟩ := LvAt.get h2 (i := i) (v := v) (by simpa using hv)
    exact ⟨q, by simpa using h3, h4⟩
theorem LvAt.app {H : Hp} {ls2 : List (List Part)} {vs2 : List V} (g : LvAt H ls2 vs2) : ∀ {ls : List (List Part)} {vs : List V}, LvAt H ls vs → LvAt H (ls ++ ls2) (vs ++ vs2)
  | [], _, h => by rw [show _ = [] from h]; exact g
  | r :: ls, _, h => by
    obtain ⟨v, ws, rfl, h1, h2⟩ := h
    exact ⟨v, ws ++ vs2, rfl, h1, LvAt.app g h2⟩
theorem LvAt.one {H : Hp} {r : List Part} {v : V} (h : RowAt H r v) : LvAt H [r] [v] := ⟨v, [], rfl, h, rfl⟩
theorem LvAt.dp {K : PySem.W.Frag} {H : Hp} : ∀ {ls : List (List Part)} {vs : List V}, LvAt H ls vs → DpAll K H vs (ls.map fun r => PyData.tuple (dR r))
  | [], _, h => by rw [show _ = [] from h]; exact .nil
  | r :: ls, _, h => by
    obtain ⟨v, ws, rfl, h1, h2⟩ := h
    exact .cons h1.dp (LvAt.dp h2)
theorem lvl_lay : ∀ {ls : List (List Part)}, okL ls → PyData.canLayAll0 (ls.map fun r => PyData.tuple (dR r)) = true
  | [], _ => by simp only [List.map_nil, PyData.canLayAll0]
  | r :: ls, h => by
    simp only [List.map_cons, PyData.canLayAll0, PyData.canLay0, layR (fun n h => h) r (h r List.mem_cons_self), lvl_lay fun x hx => h x (List.mem_cons_of_mem _ hx), Bool.and_self]
theorem lvl_dep : ∀ ls : List (List Part), PyData.depthAll (ls.map fun r => PyData.tuple (dR r)) ≤ 2 * deepL ls + 1
  | [] => by simp only [List.map_nil, PyData.depthAll]; omega
  | r :: ls => by
    have h1 := depR r
    have h2 := lvl_dep ls
    simp only [List.map_cons, PyData.depthAll, PyData.depth, deepL]
    omega
theorem lvl_shaped {ls : List (List Part)} (h : okL ls) (hd : deepL ls ≤ 25) : SeqAt.shaped (.list (ls.map fun r => PyData.tuple (dR r))) = true := by
  unfold SeqAt.shaped
  have := lvl_dep ls
  simp only [PyData.canLay0, lvl_lay h, PyData.depth, Bool.true_and]
  exact decide_eq_true (by omega)
theorem row_empty (r : List Part) : PyData.eqv (.tuple (dR r)) (.tuple []) = r.isEmpty := by
  cases r with
  | nil => simp only [dR, PyData.eqv, PyData.eqvAll, List.isEmpty]
  | cons p r => simp only [dR, PyData.eqv, PyData.eqvAll, List.isEmpty]
theorem deep_pos {r : List Part} (h : r ≠ []) : 1 ≤ deepR r := by
  cases r with
  | nil => exact absurd rfl h
  | cons p r =>
    have d := deep_rest p
    show 1 ≤ max (deepP p) (deepR r)
    omega
theorem full_iff : ∀ ls : List (List Part), (ls.filter fun r => !r.isEmpty).isEmpty = decide (deepL ls = 0)
  | [] => rfl
  | r :: ls => by
    have ih := full_iff ls
    cases r with
    | nil =>
      show (ls.filter fun r => !r.isEmpty).isEmpty = decide (max 0 (deepL ls) = 0)
      rw [ih, Nat.zero_max]
    | cons p r =>
      have := deep_pos (r := p :: r) (by simp)
      have e : ¬ (deepL ((p :: r) :: ls) = 0) := by
        show ¬ (max (deepR (p :: r)) (deepL ls) = 0)
        omega
      rw [decide_eq_false e]
      rfl
def spLDeep : Sp := fun vs H Q _ => ∃ (v : V) (r : List Part), vs = [v] ∧ RowAt H r v ∧ okS r ∧ deepR r ≤ 25 ∧ sizeR r ≤ 900 ∧ ∀ (H' : Hp), Same H H' → Q (.int (deepR r : Nat)) H'
end Wk

set_option Elab.async false
set_option linter.all false
set_option maxRecDepth 100000
set_option maxHeartbeats 2000000
/-! What the law's own walk writes down of each part. -/
namespace Wk
open PySem PySem.Spec PyProof.Rows L2 GxR
/-- kind, calling, how many are bound around -/
abbrev Ent : Type := Str × Str × Nat
def entP : List Str → Part → Ent
  | S, .say n => (if n ∈ S then "held" else "free", n, S.length)
  | _, .again _ => ("again", "", 0)
  | S, .oth w n _ => if w.binds = true then ("bound", n, S.length) else (if n ∈ S then "held" else "free", n, S.length)
mutual
def alP : List Str → Part → List Ent
  | S, .say n => [entP S (.say n)]
  | S, .again r => entP S (.again r) :: alR S r
  | S, .oth w n r => entP S (.oth w n r) :: alR (inP S (.oth w n r)) r
def alR : List Str → List Part → List Ent
  | _, [] => []
  | S, p :: r => alP S p ++ alR S r
end
theorem alP_eq (S : List Str) : ∀ p : Part, alP S p = entP S p :: alR (inP S p) (restP p)
  | .say n => rfl
  | .again r => rfl
  | .oth w n r => rfl
theorem alR_app (S : List Str) : ∀ r q : List Part, alR S (r ++ q) = alR S r ++ alR S q
  | [], q => rfl
  | p :: r, q => by
    show alP S p ++ alR S (r ++ q) = (alP S p ++ alR S r) ++ alR S q
    rw [alR_app S r q, List.append_assoc]
mutual
theorem alP_len : ∀ (p : Part) (S : List Str), (alP S p).length = sizeP p
  | .say n, S => rfl
  | .again r, S => by
    have := alR_len r S
    show (alR S r).length + 1 = sizeR r + 1
    omega
  | .oth w n r, S => by
    have := alR_len r (inP S (.oth w n r))
    show (alR (inP S (.oth w n r)) r).length + 1 = sizeR r + 1
    omega
theorem alR_len : ∀ (r : List Part) (S : List Str), (alR S r).length = sizeR r
  | [], S => rfl
  | p :: r, S => by
    have h1 := alP_len p S
    have h2 := alR_len r S
    show (alP S p ++ alR S r).length = sizeP p + sizeR r
    rw [List.length_append]
    omega
end
/-- the callings of one kind, as they stand there -/
def ofKind (k : Str) (es : List Ent) : List Str := (es.filter fun e => e.1 == k).map (·.2.1)
theorem ofKind_app (k : Str) (a b : List Ent) : ofKind k (a ++ b) = ofKind k a ++ ofKind k b := by
  unfold ofKind
  rw [List.filter_append, List.map_append]
theorem ent_free (S : List Str) : ∀ p : Part, ofKind "free" [entP S p] = fhP S p
  | .say n => by
    show ofKind "free" [(if n ∈ S then "held" else "free", n, S.length)] = if n ∈ S then [] else [n]
    by_cases c : n ∈ S
    · rw [if_pos c, if_pos c]; rfl
    · rw [if_neg c, if_neg c]; rfl
  | .again r => rfl
  | .oth w n r => by
    show ofKind "free" [if w.binds = true then ("bound", n, S.length) else (if n ∈ S then "held" else "free", n, S.length)] = if w.binds = true then [] else if n ∈ S then [] else [n]
    by_cases b : w.binds = true
    · rw [if_pos b, if_pos b]; rfl
    · rw [if_neg b, if_neg b]
      by_cases c : n ∈ S
      · rw [if_pos c, if_pos c]; rfl
      · rw [if_neg c, if_neg c]; rfl
theorem ent_bound (S : List Str) : ∀ p : Part, ofKind "bound" [entP S p] = bhP p
  | .say n => by
    show ofKind "bound" [(if n ∈ S then "held" else "free", n, S.length)] = []
    by_cases c : n ∈ S
    · rw [if_pos c]; rfl
    · rw [if_neg c]; rfl
  | .again r => rfl
  | .oth w n r => by
    show ofKind "bound" [if w.binds = true then ("bound", n, S.length) else (if n ∈ S then "held" else "free", n, S.length)] = if w.binds = true then [n] else []
    by_cases b : w.binds = true
    · rw [if_pos b, if_pos b]; rfl
    · rw [if_neg b, if_neg b]
      by_cases c : n ∈ S
      · rw [if_pos c]; rfl
      · rw [if_neg c]; rfl
theorem ofKind_cons (k : Str) (e : Ent) (es : List Ent) : ofKind k (e :: es) = ofKind k [e] ++ ofKind k es := ofKind_app k [e] es
mutual
theorem al_freeP : ∀ (p : Part) (S : List Str), ofKind "free" (alP S p) = frP S p
  | .say n, S => by
    rw [alP_eq, ofKind_cons, ent_free, frP_eq]
    rfl
  | .again r, S => by
    rw [alP_eq, ofKind_cons, ent_free, frP_eq]
    show _ ++ ofKind "free" (alR S r) = _
    rw [al_freeR r S]
    rfl
  | .oth w n r, S => by
    rw [alP_eq, ofKind_cons, ent_free, frP_eq]
    show _ ++ ofKind "free" (alR (inP S (.oth w n r)) r) = _
    rw [al_freeR r (inP S (.oth w n r))]
    rfl
theorem al_freeR : ∀ (r : List Part) (S : List Str), ofKind "free" (alR S r) = frR S r
  | [], S => rfl
  | p :: r, S => by
    show ofKind "free" (alP S p ++ alR S r) = frP S p ++ frR S r
    rw [ofKind_app, al_freeP p S, al_freeR r S]
end
mutual
theorem al_boundP : ∀ (p : Part) (S : List Str), ofKind "bound" (alP S p) = bdP p
  | .say n, S => by
    rw [alP_eq, ofKind_cons, ent_bound, bdP_eq]
    rfl
  | .again r, S => by
    rw [alP_eq, ofKind_cons, ent_bound, bdP_eq]
    show _ ++ ofKind "bound" (alR S r) = _
    rw [al_boundR r S]
    rfl
  | .oth w n r, S => by
    rw [alP_eq, ofKind_cons, ent_bound, bdP_eq]
    show _ ++ ofKind "bound" (alR (inP S (.oth w n r)) r) = _
    rw [al_boundR r (inP S (.oth w n r))]
    rfl
theorem al_boundR : ∀ (r : List Part) (S : List Str), ofKind "bound" (alR S r) = bdR r
  | [], S => rfl
  | p :: r, S => by
    show ofKind "bound" (alP S p ++ alR S r) = bdP p ++ bdR r
    rw [ofKind_app, al_boundP p S, al_boundR r S]
end
/-! ### in memory -/
def EntAt (H : Hp) (e : Ent) (v : V) : Prop := ∃ t, v = .ref t ∧ H t = some (.tup [.str e.1, .str e.2.1, .int (e.2.2 : Nat)])
def EntsAt (H : Hp) : List Ent → List V → Prop
  | [], vs => vs = []
  | e :: es, vs => ∃ v ws, vs = v :: ws ∧ EntAt H e v ∧ EntsAt H es ws
theorem EntAt.mono {H H' : Hp} (s : STup H H') {e : Ent} {v : V} (h : EntAt H e v) : EntAt H' e v := by
  obtain ⟨t, rfl, q⟩ := h
  exact ⟨t, rfl, s _ _ q⟩
theorem EntsAt.mono {H H' : Hp} (s : STup H H') : ∀ {es : List Ent} {vs : List V}, EntsAt H es vs → EntsAt H' es vs
  | [], _, h => h
  | e :: es, _, h => by
    obtain ⟨v, ws, rfl, h1, h2⟩ := h
    exact ⟨v, ws, rfl, h1.mono s, EntsAt.mono s h2⟩
theorem EntsAt.len {H : Hp} : ∀ {es : List Ent} {vs : List V}, EntsAt H es vs → vs.length = es.length
  | [], _, h => by rw [h]; rfl
  | e :: es, _, h => by
    obtain ⟨v, ws, rfl, _, h2⟩ := h
    rw [List.length_cons, List.length_cons, EntsAt.len h2]
theorem EntsAt.get {H : Hp} : ∀ {es : List Ent} {vs : List V}, EntsAt H es vs → ∀ {i : Nat} {v : V}, vs[i]? = some v → ∃ e, es[i]? = some e ∧ EntAt H e v
  | [], _, h, i, v, hv => by rw [show _ = [] from h] at hv; simp at hv
  | e :: es, _, h, 0, v, hv => by
    obtain ⟨u, ws, rfl, h1, _⟩ := h
    have z : u = v := by simpa using hv
    exact ⟨e, rfl, z ▸ h1⟩
  | e :: es, _, h, i + 1, v, hv => by
    obtain ⟨u, ws, rfl, _, h2⟩ := h
    obtain ⟨e', h3, h4⟩ := EntsAt.get h2 (i := i) (v := v) (by simpa using hv)
    exact ⟨e', by simpa using h3, h4⟩
theorem EntsAt.snoc {H : Hp} {e : Ent} {v : V} (h : EntAt H e v) : ∀ {es : List Ent} {vs : List V}, EntsAt H es vs → EntsAt H (es ++ [e]) (vs ++ [v])
  | [], _, g => by
    rw [show _ = [] from g]
    exact ⟨v, [], rfl, h, rfl⟩
  | f :: es, _, g => by
    obtain ⟨u, ws, rfl, h1, h2⟩ := g
    exact ⟨u, ws ++ [v], rfl, h1, EntsAt.snoc h h2⟩
def Sam1 (F : Addr) (H H' : Hp) : Prop := ∀ b o, b ≠ F → H b = some o → H' b = some o
theorem Sam1.trans {F : Addr} {H H1 H2 : Hp} (a : Sam1 F H H1) (b : Sam1 F H1 H2) : Sam1 F H H2 := fun c o n e => b c o n (a c o n e)
theorem Sam1.of {F : Addr} {H H' : Hp} (s : Same H H') : Sam1 F H H' := fun c o _ e => s c o e
theorem Sam1.tup {F : Addr} {H H' : Hp} {xs : List V} (hF : H F = some (.lst xs)) (s : Sam1 F H H') : STup H H' := fun a zs e => s a _ (fun z => by rw [z, hF] at e; cases e) e
def spAll (n : Nat) : Sp := fun vs H Q _ => ∃ (v : V) (r : List Part) (aS Fd : Addr) (S : List Str) (us : List V) (es : List Ent), vs = [v, .ref aS, .ref Fd] ∧ RowAt H r v ∧ H aS = some (.lst (S.map V.str)) ∧ H Fd = some (.lst us) ∧ aS ≠ Fd ∧ EntsAt H es us ∧
  deepR r < n ∧ sizeR r + us.length ≤ 1000 ∧ S.length + deepR r ≤ 1000 ∧
  ∀ H' us', Sam1 Fd H H' → H' Fd = some (.lst us') → EntsAt H' (es ++ alR S r) us' → Q (.ref Fd) H'
end Wk

set_option Elab.async false
set_option linter.all false
set_option maxRecDepth 100000
set_option maxHeartbeats 2000000
/-! Sorted lists of the same texts are alike; callings of drawn rows; what stays but for a table. -/
namespace Wk
open PySem PySem.Spec PyProof.Rows L2 GxR
def leS (a b : Str) : Prop := ¬ b.cps.toList < a.cps.toList
theorem leS.trans {a b c : Str} (h : leS a b) (g : leS b c) : leS a c := by
  have h1 : a.cps.toList ≤ b.cps.toList := h
  have h2 : b.cps.toList ≤ c.cps.toList := g
  have h3 : a.cps.toList ≤ c.cps.toList := List.le_trans h1 h2
  exact h3
theorem leS.anti {a b : Str} (h : leS a b) (g : leS b a) : a = b := by
  have h1 : a.cps.toList ≤ b.cps.toList := h
  have h2 : b.cps.toList ≤ a.cps.toList := g
  have e : a.cps.toList = b.cps.toList := List.le_antisymm h1 h2
  exact Str.ext' (Array.toList_inj.mp e)
theorem rising_pw : ∀ (l : List Str) (p : Str), risingS p l = true → (p :: l).Pairwise leS
  | [], p, _ => List.pairwise_singleton _ _
  | x :: r, p, h => by
    have h' : (!ltCps x.cps.toList p.cps.toList && risingS x r) = true := h
    obtain ⟨h1, h2⟩ := Bool.and_eq_true_iff.mp h'
    have ih := rising_pw r x h2
    have hx : leS p x := by
      rw [ltCps_eq] at h1
      intro z
      rw [decide_eq_true z] at h1
      cases h1
    refine List.pairwise_cons.mpr ⟨fun y hy => ?_, ih⟩
    rcases List.mem_cons.mp hy with e | e
    · rw [e]; exact hx
    · exact hx.trans ((List.pairwise_cons.mp ih).1 y e)
theorem sorted_pw : ∀ l : List Str, sortedS l = true → l.Pairwise leS
  | [], _ => List.Pairwise.nil
  | x :: r, h => rising_pw r x h
theorem pw_uniq : ∀ (ys zs : List Str), ys.Pairwise leS → zs.Pairwise leS → ys.Nodup → zs.Nodup → (∀ x, x ∈ ys ↔ x ∈ zs) → ys = zs
  | [], [], _, _, _, _, _ => rfl
  | [], z :: zs, _, _, _, _, h => absurd ((h z).mpr List.mem_cons_self) (fun q => nomatch q)
  | y :: ys, [], _, _, _, _, h => absurd ((h y).mp List.mem_cons_self) (fun q => nomatch q)
  | y :: ys, z :: zs, p, q, n, m, h => by
    obtain ⟨p1, p2⟩ := List.pairwise_cons.mp p
    obtain ⟨q1, q2⟩ := List.pairwise_cons.mp q
    obtain ⟨n1, n2⟩ := List.nodup_cons.mp n
    obtain ⟨m1, m2⟩ := List.nodup_cons.mp m
    have e : y = z := by
      by_cases e : y = z
      · exact e
      · have hy : y ∈ zs := by
          rcases List.mem_cons.mp ((h y).mp List.mem_cons_self) with g | g
          · exact absurd g e
          · exact g
        have hz : z ∈ ys := by
          rcases List.mem_cons.mp ((h z).mpr List.mem_cons_self) with g | g
          · exact absurd g.symm e
          · exact g
        exact (p1 z hz).anti (q1 y hy)
    subst e
    have ih := pw_uniq ys zs p2 q2 n2 m2 (fun x => by
      constructor
      · intro g
        rcases List.mem_cons.mp ((h x).mp (List.mem_cons_of_mem _ g)) with e | e
        · exact absurd (e ▸ g) n1
        · exact e
      · intro g
        rcases List.mem_cons.mp ((h x).mpr (List.mem_cons_of_mem _ g)) with e | e
        · exact absurd (e ▸ g) m1
        · exact e)
    rw [ih]
theorem sorted_uniq {ys zs : List Str} (p : sortedS ys = true) (q : sortedS zs = true) (n : ys.Nodup) (m : zs.Nodup) (h : ∀ x, x ∈ ys ↔ x ∈ zs) : ys = zs :=
  pw_uniq ys zs (sorted_pw ys p) (sorted_pw zs q) n m h
/-! ### callings of rows whose names are ok -/
mutual
theorem fr_okP {f : Str → Prop} : ∀ (p : Part) (S : List Str), okP f p → ∀ x ∈ frP S p, f x
  | .say n, S, h, x, hx => by
    unfold frP at hx
    by_cases c : n ∈ S
    · rw [if_pos c] at hx; cases hx
    · rw [if_neg c] at hx
      rw [List.mem_singleton.mp hx]
      exact h
  | .again r, S, h, x, hx => fr_okR r S h x hx
  | .oth w n r, S, h, x, hx => by
    unfold frP at hx
    by_cases b : w.binds = true
    · rw [if_pos b] at hx
      exact fr_okR r _ h.2 x hx
    · rw [if_neg b] at hx
      rcases List.mem_append.mp hx with g | g
      · by_cases c : n ∈ S
        · rw [if_pos c] at g; cases g
        · rw [if_neg c] at g
          rw [List.mem_singleton.mp g]
          exact h.1
      · exact fr_okR r S h.2 x g
theorem fr_okR {f : Str → Prop} : ∀ (r : List Part) (S : List Str), okR f r → ∀ x ∈ frR S r, f x
  | [], S, _, x, hx => nomatch hx
  | p :: r, S, h, x, hx => by
    rcases List.mem_append.mp (show x ∈ frP S p ++ frR S r from hx) with g | g
    · exact fr_okP p S h.1 x g
    · exact fr_okR r S h.2 x g
end
mutual
theorem bd_okP {f : Str → Prop} : ∀ (p : Part), okP f p → ∀ x ∈ bdP p, f x
  | .say n, h, x, hx => nomatch hx
  | .again r, h, x, hx => bd_okR r h x hx
  | .oth w n r, h, x, hx => by
    unfold bdP at hx
    rcases List.mem_append.mp hx with g | g
    · by_cases b : w.binds = true
      · rw [if_pos b] at g
        rw [List.mem_singleton.mp g]
        exact h.1
      · rw [if_neg b] at g; cases g
    · exact bd_okR r h.2 x g
theorem bd_okR {f : Str → Prop} : ∀ (r : List Part), okR f r → ∀ x ∈ bdR r, f x
  | [], _, x, hx => nomatch hx
  | p :: r, h, x, hx => by
    rcases List.mem_append.mp (show x ∈ bdP p ++ bdR r from hx) with g | g
    · exact bd_okP p h.1 x g
    · exact bd_okR r h.2 x g
end
/-! ### but for a table -/
section
variable {T p : Addr} {H0 H H' : Hp} {o : HO}
theorem TabG.ne (t : TabG H T) (n : H p = none) : T ≠ p := fun e => by
  obtain ⟨ps, h, _⟩ := t
  rw [e, n] at h
  cases h
theorem TabG.new (t : TabG H T) (n : H p = none) : TabG (upd H p o) T := by
  obtain ⟨ps, h, g⟩ := t
  exact ⟨ps, kn h n, g⟩
theorem TabG.same (t : TabG H T) (s : Same H H') : TabG H' T := by
  obtain ⟨ps, h, g⟩ := t
  exact ⟨ps, s _ _ h, g⟩
theorem SameT.new (s : SameT T H0 H) (n : H p = none) : SameT T H0 (upd H p o) := ⟨fun b u nb e => kn (s.1 b u nb e) n, TabG.new s.2 n⟩
theorem SameT.own (t : TabG H0 T) (s : SameT T H0 H) (n : H0 p = none) : SameT T H0 (upd H p o) := by
  have ne : T ≠ p := TabG.ne t n
  refine ⟨fun b u nb e => ?_, ?_⟩
  · rw [upd_ne (ne_of_none e n)]
    exact s.1 b u nb e
  · obtain ⟨ps, h, g⟩ := s.2
    exact ⟨ps, by rw [upd_ne ne]; exact h, g⟩
theorem SameT.sm (s : SameT T H0 H) (h : Same H H') : SameT T H0 H' := s.trans (SameT.of s.2 h)
theorem SameT.none (t : TabG H0 T) (s : SameT T H0 H) (n : H p = none) : H0 p = none := by
  cases e : H0 p with
  | none => rfl
  | some u =>
    have ne : p ≠ T := fun z => TabG.ne s.2 n z.symm
    rw [s.1 p u ne e] at n
    cases n
end
theorem ints_shaped (a b : Int) : SeqAt.shaped (.list [.int a, .int b]) = true := by
  unfold SeqAt.shaped
  simp only [PyData.canLay0, PyData.canLayAll0, PyData.depth, PyData.depthAll, Bool.and_self, Bool.true_and]
  rfl
theorem ints_eqv (a b : Int) : PyData.eqv (.list [.int a, .int b]) (.list [.int a, .int b]) = true := SeqAt.eqv_refl _ (by simp only [PyData.canLay0, PyData.canLayAll0, Bool.and_self])
theorem strs_eqv {ys : List Str} (hk : ∀ z ∈ ys, PyData.strOk z = true) : PyData.eqv (.list (ys.map PyData.str)) (.list (ys.map PyData.str)) = true := SeqAt.eqv_refl _ (by simp only [PyData.canLay0]; exact strs_lay ys hk)
end Wk
namespace Wk
open PySem PySem.Spec PyProof.Rows L2 GxR
theorem SameT.sam1 {T F : Addr} {H0 H H' : Hp} (t : TabG H0 T) (s : SameT T H0 H) (n : H0 F = Option.none) (m : Sam1 F H H') : SameT T H0 H' :=
  ⟨fun b o nb e => m b o (ne_of_none e n) (s.1 b o nb e), by
    obtain ⟨ps, h, g⟩ := s.2
    exact ⟨ps, m _ _ (TabG.ne t n) h, g⟩⟩
theorem TabG.neL {T p : Addr} {H : Hp} {xs : List V} (t : TabG H T) (h : H p = some (.lst xs)) : p ≠ T := fun e => by
  obtain ⟨ps, q, _⟩ := t
  rw [e, q] at h
  cases h
theorem lt64 {g : List Str} {D : List Str} (h : ∀ x ∈ g, x ∈ D) (l : D.length < 64) : ∀ L : List Str, L.Nodup → (∀ x, x ∈ L ↔ x ∈ g) → L.length < 64 := fun L nd hm =>
  Nat.lt_of_le_of_lt (sub_len L D nd fun x hx => h x ((hm x).mp hx)) l
end Wk

set_option Elab.async false
set_option linter.all false
set_option maxRecDepth 100000
set_option maxHeartbeats 2000000
/-! What stays but for some code tables. -/
namespace Wk
open PySem PySem.Spec PyProof.Rows L2 GxR
def TabsG (Ts : List Addr) (H : Hp) : Prop := ∀ T ∈ Ts, TabG H T
def SamTs (Ts : List Addr) (H H' : Hp) : Prop := (∀ b o, b ∉ Ts → H b = some o → H' b = some o) ∧ TabsG Ts H'
section
variable {Ts : List Addr} {T p F : Addr} {H H0 H' H1 H2 : Hp} {o : HO} {xs : List V}
theorem TabsG.out (t : TabsG Ts H) (n : H p = none) : p ∉ Ts := fun h => by
  obtain ⟨ps, q, _⟩ := t p h
  rw [q] at n
  cases n
theorem TabsG.outL (t : TabsG Ts H) (h : H p = some (.lst xs)) : p ∉ Ts := fun z => by
  obtain ⟨ps, q, _⟩ := t p z
  rw [q] at h
  cases h
theorem TabsG.outT (t : TabsG Ts H) (h : H p = some (.tup xs)) : p ∉ Ts := fun z => by
  obtain ⟨ps, q, _⟩ := t p z
  rw [q] at h
  cases h
theorem TabsG.same (t : TabsG Ts H) (s : Same H H') : TabsG Ts H' := fun T h => TabG.same (t T h) s
theorem TabsG.new (t : TabsG Ts H) (n : H p = none) : TabsG Ts (upd H p o) := fun T h => TabG.new (t T h) n
theorem SamTs.refl (t : TabsG Ts H) : SamTs Ts H H := ⟨fun _ _ _ e => e, t⟩
theorem SamTs.trans (a : SamTs Ts H H1) (b : SamTs Ts H1 H2) : SamTs Ts H H2 := ⟨fun c o n e => b.1 c o n (a.1 c o n e), b.2⟩
theorem SamTs.of (t : TabsG Ts H) (s : Same H H') : SamTs Ts H H' := ⟨fun b o _ e => s b o e, t.same s⟩
theorem SamTs.tab (m : T ∈ Ts) (t : TabsG Ts H) (h : Tabbed T H H') : SamTs Ts H H' := ⟨fun b o n e => by
    rw [h.2 b (fun z => n (z ▸ m))]; exact e, fun T' h' => by
    by_cases e : T' = T
    · rw [e]; exact h.1
    · obtain ⟨ps, q, g⟩ := t T' h'
      exact ⟨ps, by rw [h.2 T' e]; exact q, g⟩⟩
theorem SamTs.tup (t : TabsG Ts H) (s : SamTs Ts H H') : STup H H' := fun a xs e => s.1 a _ (t.outT e) e
theorem SamTs.new (s : SamTs Ts H0 H) (n : H p = none) : SamTs Ts H0 (upd H p o) := ⟨fun b u nb e => kn (s.1 b u nb e) n, s.2.new n⟩
theorem SamTs.own (t : TabsG Ts H0) (s : SamTs Ts H0 H) (n : H0 p = none) : SamTs Ts H0 (upd H p o) := by
  refine ⟨fun b u nb e => ?_, fun T h => ?_⟩
  · rw [upd_ne (ne_of_none e n)]
    exact s.1 b u nb e
  · obtain ⟨ps, q, g⟩ := s.2 T h
    have ne : T ≠ p := fun z => t.out n (z ▸ h)
    exact ⟨ps, by rw [upd_ne ne]; exact q, g⟩
theorem SamTs.sm (s : SamTs Ts H0 H) (h : Same H H') : SamTs Ts H0 H' := s.trans (SamTs.of s.2 h)
theorem SamTs.none (t : TabsG Ts H0) (s : SamTs Ts H0 H) (n : H p = Option.none) : H0 p = Option.none := by
  cases e : H0 p with
  | none => rfl
  | some u =>
    rw [s.1 p u (s.2.out n) e] at n
    cases n
theorem SamTs.lst (t : TabsG Ts H) (s : SamTs Ts H H') (h : H p = some (.lst xs)) : H' p = some (.lst xs) := s.1 _ _ (t.outL h) h
end
end Wk

set_option Elab.async false
set_option linter.all false
set_option maxRecDepth 100000
set_option maxHeartbeats 2000000
/-! all(test for x in text) where the test reads a captured text of the def. -/
namespace Wk
open PySem PySem.Spec PyProof.Rows L2 GxR
section
variable {X : Cx} {pins : List (Addr × Obj)} {σ : L2.St} {H : Hp} {s : Shared}
/-- the test of one sign c, in a frame whose cell for y holds the text z -/
def EltC (X : Cx) (scope : Scope) (x y : Str) (elt : Expr) (pb : Str → Nat → Bool) : Prop :=
  ∀ (z : Str) (ce : Env) (B : Around) (F : Value → Shared → Prop) (c : Nat) (t ty : Tok) (cy : Addr) (r : Shared) (m : Str → Option Value),
    ce.scope = scope → ce.cells.lookup y = some cy → r.heap.IsCell cy (some (.str z ty)) → r.heap.Ns ce.locals m → m x = some (.str ⟨#[c]⟩ t) →
    wpAny (model X.prog X.w) B (eval elt ce) (fun b r' => b = .bool (pb z c) ∧ Keeps r r') F r
/-- x in y, y captured -/
theorem elt_in {scope : Scope} {x y : Str} {p1 p2 p3 : Pos} (hk : scope.kind = .function) (hl : scope.names.lookup x = some .local) (hf : scope.names.lookup y = some .free)
    (hd : (x == ("__debug__" : Str)) = false := by decide) (hd2 : (y == ("__debug__" : Str)) = false := by decide) (hd3 : (y == ("__classdict__" : Str)) = false := by decide) :
    EltC X scope x y (.Compare (.Name x p1) [.In] [.Name y p2] p3) (fun z c => decide (c ∈ z.cps.toList)) := by
  intro z ce B F c t ty cy r m hs hc hcell hn hm
  have k1 : ce.scope.kind = .function := by rw [hs]; exact hk
  have k2 : ce.kindOf x = some .local := by show ce.scope.names.lookup x = _; rw [hs]; exact hl
  have k3 : ce.kindOf y = some .free := by show ce.scope.names.lookup y = _; rw [hs]; exact hf
  refine wpAny_Compare1 (wpAny_Name (wpAny_loadName_local k1 k2 hn hm ?_) hd)
  refine wpAny_Name (wpAny_loadName_free k1 k3 hc hcell ?_ hd3) hd2
  exact PyProof.Rows.in_str ⟨congrArg Value.bool (PySem.StrLaws.found_one z c), keeps_refl _⟩
/-- the reading: slot i holds the captured text -/
def tAllC (P : Addr) (i : Nat) (pb : Str → Nat → Bool) (te : TE) : TE := fun σ H Q => te σ H fun v H1 => ∃ a z : Str, v = .str a ∧ σ[i]? = some (some (.str z)) ∧ TabG H1 P ∧
  ∀ H2, Tabbed P H1 H2 → Q (.bl (a.cps.toList.all (pb z))) H2
theorem gen_cap {c P : Addr} {elt iter : Expr} {x y : Str} {px gpos : Pos} {scope : Scope} {pb : Str → Nat → Bool} {te : TE} {k i : Nat} {Q' : Value → Shared → Prop} {R : Str → Str → Hp → Prop}
    (hr : Room k X.A) (TB : GxR.TabB X.base X.mg c P) (hcode : X.env.code = .ref c) (S : GenS X.env scope x) (hN : X.N[i]? = some y) (hy : X.env.scope.names.lookup y = some .cell)
    (hcl : ∀ cells : List (Str × Addr), (cloFrom cells scope.names []).lookup y = some ((cells.lookup y).getD 0)) (hi : PE X iter te) (hel : EltC X scope x y elt pb)
    (hs : ∀ v, genFold iter X.env v = pure v) (I : Inv X pins σ H s) (h : te σ H fun v H1 => ∃ a z : Str, v = .str a ∧ σ[i]? = some (some (.str z)) ∧ TabG H1 P ∧ R a z H1)
    (hQ : ∀ a z H1 g s5, R a z H1 → Ready X pins σ H1 P a (pb z) g s5 → Q' (.ref g) s5) :
    wpAny (model X.prog X.w) X.A (eval (.GeneratorExp elt [⟨.Name x px, iter, [], 0⟩] scope gpos) X.env) Q' X.xe s := by
  refine wpAny_GeneratorExp_walksQ hr.hd S.co (closure_ok S.free) S.cell S.dot S.loc S.kind (by have := hr.dp; omega) ?_ hs
  refine thn (hi.run pins s σ H _ I h) fun xv s1 ⟨v, H1, I1, r1, q1⟩ => ?_
  obtain ⟨a, z, rfl, hz, ⟨ps, hP, ht⟩, q1⟩ := q1
  obtain ⟨t, rfl⟩ := _root_.id r1
  -- the captured cell
  obtain ⟨cy, ty, hcy, hcell⟩ : ∃ cy ty, X.env.cells.lookup y = some cy ∧ s1.heap.IsCell cy (some (.str z ty)) := by
    obtain ⟨m, hn, hl⟩ := I1.loc
    obtain ⟨u, ru, lk⟩ := hl i y (.str z) hN hz (.inr (.inl hy))
    obtain ⟨ty, rfl⟩ := _root_.id ru
    rcases lk with ⟨hk, _⟩ | ⟨_, cy, hcy, hcell⟩
    · have hk2 : X.env.scope.names.lookup y = some .local := hk
      rw [hy] at hk2
      cases hk2
    · exact ⟨cy, ty, hcy, hcell⟩
  refine wpAny_pyIter_str fun o St W hst => ?_
  have hPs : s1.heap.get? P = some { cls := .none, data := .fields ps } := I1.hok P _ hP
  have hPlt : P < s1.heap.objs.size := Heap.lt_size hPs
  have hP2 : (s1.heap.push o).get? P = some { cls := .none, data := .fields ps } := Heap.get?_push_of_some _ hPs
  have cd : PySem.W.CodeHd (s1.heap.push o) c P :=
    TB.code.keeps fun b u e => Heap.get?_push_of_some _ (I1.bk b u e)
  have lim2 : (s1.heap.push o).NoLimit := I1.nolimit.push o
  have cyP : cy ≠ P := fun e => by
    obtain ⟨oc, e1, e2⟩ := hcell
    rw [e, hPs] at e1
    cases e1
    cases e2
  -- what follows once the code object is there
  have go : ∀ (code : Value) (h3 : Heap) (tk : Nat) (ps' : Array Value), Heap.ExtBut P (s1.heap.push o) h3 →
      (s1.heap.push o).objs.size ≤ h3.objs.size → h3.get? P = some { cls := .none, data := .fields ps' } →
      (∃ more, ps' = ps ++ more) → TriplesOk ps'.toList →
      wpAny (model X.prog X.w) X.A (builtinsFor X.env.globals X.env.builtins) (fun bi s₄ =>
        ∃ Ia fp wr n₀ Pf St₀ pz F, Value.ref s1.heap.objs.size = .ref Ia ∧
          (∀ A' : Around, A'.handled = none → Walks X.prog X.w A' Ia fp wr n₀ Pf St₀) ∧ St₀ 0 s₄.heap ∧
          (∀ b ∈ fp, b < s₄.heap.objs.size) ∧ s₄.heap.NoLimit ∧ cStatics ∉ wr ∧
          (∀ href : Heap, (∀ b o, s₄.heap.get? b = some o → href.get? b = some o) →
            QuietGen X.prog X.w (genEnv scope (cloFrom X.env.cells scope.names []) s₄.heap.objs.size code bi X.env) x [] elt
              (List.range s₄.heap.objs.size) wr Pf pz F href) ∧
          (∀ a h₅ tk gs, gs.bare = true → s₄.heap.objs.size < a → h₅.objs.size = a + 1 →
            (∀ b o, s₄.heap.get? b = some o → h₅.get? b = some o) →
            WalksS X.prog X.w X.A.in4 a (a :: s₄.heap.objs.size :: List.range s₄.heap.objs.size) (s₄.heap.objs.size :: wr)
              (GenOnlyQ s₄.gens.size) (passing pz n₀ 0).length (fun j y => ∃ i, (passing pz n₀ 0)[j]? = some i ∧ F i y)
              (GenAt X.prog X.w X.A.in4 a s₄.gens.size s₄.heap.objs.size (List.range s₄.heap.objs.size) wr pz n₀ F) →
            GenAt X.prog X.w X.A.in4 a s₄.gens.size s₄.heap.objs.size (List.range s₄.heap.objs.size) wr pz n₀ F 0
              { s₄ with gens := s₄.gens.push gs, toks := tk, heap := h₅ } →
            Q' (.ref a) { s₄ with gens := s₄.gens.push gs, toks := tk, heap := h₅ })) X.xe { s1 with heap := h3, toks := tk } := by
    intro code h3 tk ps' hx hsz hP3 hmore ht3
    obtain ⟨bm, ob, e1, e2, e3, e4, e5, e6, e7, e8⟩ := TB.bm
    have hcP : cStatics ≠ P := fun e => by
      obtain ⟨_, hns, _⟩ := I1.nolimit
      obtain ⟨o', es, ep, ho, hd, _⟩ := hns
      rw [e, hPs] at ho
      cases ho
      cases hd
    have hcl2 : cStatics < s1.heap.objs.size := let ⟨_, hns, _⟩ := I1.nolimit; hns.lt
    have sz2 : (s1.heap.push o).objs.size = s1.heap.objs.size + 1 := Heap.size_push ..
    have keep3 : ∀ b u, b ≠ P → s1.heap.get? b = some u → h3.get? b = some u :=
      fun b u hb e => hx b u hb (Heap.get?_push_of_some _ e)
    refine wpAny_builtinsFor (m := X.mg) (by
      rw [I1.ok.glob]
      exact ((I1.mod.glob.keeps I1.bk).push o).extBut hx TB.gP) e1 e2 (keep3 _ _ e4 (I1.bk _ _ e5)) e6 e7 e8 ?_
    refine ⟨s1.heap.objs.size, [s1.heap.objs.size], [s1.heap.objs.size], a.cps.size, SignAt a, St, (fun _ => true),
      (fun i y => ∃ cc, a.cps[i]? = some cc ∧ y = .bool (pb z cc)), rfl, W, ?_, ?_, lim2.extBut hx hcP, ?_, ?_, ?_⟩
    · refine (W X.A hr.hd).frame _ _ _ hst fun b hb u e => hx b u (fun q => ?_) e
      rcases List.mem_cons.mp hb with q2 | q2
      · exact Nat.ne_of_lt hPlt (q.symm.trans q2)
      · cases q2
    · intro b hb
      rcases List.mem_cons.mp hb with q | q
      · rw [q]
        show s1.heap.objs.size < h3.objs.size
        omega
      · cases q
    · intro q
      rcases List.mem_cons.mp q with q | q
      · exact Nat.ne_of_lt hcl2 q
      · cases q
    · intro href hhref
      refine ⟨fun A' E' i v s₂ m₂ hA hPv hn hm hk => ?_, fun A' E' i v s₂ m₂ hA hPv hp hn hm hk => ?_⟩
      · simp only [List.forIn_nil]
        exact wpAny_pure ⟨rfl, keeps_refl _⟩
      · obtain ⟨cc, u, hcc, rfl⟩ := hPv
        obtain ⟨oc, c1, c2⟩ := hcell
        have sz3 : s1.heap.objs.size ≤ h3.objs.size := by omega
        have c3 := hk cy (List.mem_range.mpr (Nat.lt_of_lt_of_le (Heap.lt_size c1) sz3)) (fun q => by
            rcases List.mem_cons.mp q with q | q
            · exact absurd (Heap.lt_size c1) (by rw [q]; exact Nat.lt_irrefl _)
            · cases q) oc (hhref _ _ (keep3 _ _ cyP c1))
        have lk : (genEnv scope (cloFrom X.env.cells scope.names []) h3.objs.size code builtinsNs X.env).cells.lookup y = some cy := by
          show (cloFrom X.env.cells scope.names []).lookup y = some cy
          rw [hcl, hcy]
          rfl
        exact wpAny_mono (hel z _ A' E' cc u ty cy s₂ m₂ rfl lk ⟨oc, c3, c2⟩ hn hm) (fun y s3 r => ⟨⟨cc, hcc, r.1⟩, r.2⟩) fun _ _ e => e
    · intro g h5 tk5 gs hgb hag hsz5 hk5 W5 hat
      simp only [GxR.passing_true, List.length_range] at W5
      refine hQ a z H1 g _ q1 ⟨_, _, _, _, _, W5.in4_1, hat, ?_, fun s' hm => ?_⟩
      · intro j y sj Qj Ej hy2 hQj
        obtain ⟨i2, hij, cc, hcc, rfl⟩ := hy2
        obtain ⟨hj, ej⟩ := List.getElem?_eq_some_iff.mp hij
        rw [List.getElem_range] at ej
        subst ej
        have e9 : a.cps.toList[j]? = some cc := by
          rw [Array.getElem?_toList]
          exact hcc
        have hQ2 : Qj (trF (pb z) a.cps.toList j) sj := hQj
        rw [trF_some e9] at hQ2
        exact wpAny_truthy_bool hQ2
      · obtain ⟨more, em⟩ := hmore
        have nwr : ∀ b u, s1.heap.get? b = some u → b ∉ h3.objs.size :: [s1.heap.objs.size] := fun b u e hb => by
          have hl := Heap.lt_size e
          rcases List.mem_cons.mp hb with q | q
          · rw [q] at hl
            have h9 : (h3.objs.size : Nat) < s1.heap.objs.size := hl
            omega
          · rcases List.mem_cons.mp q with q | q
            · rw [q] at hl
              exact Nat.lt_irrefl _ hl
            · cases q
        have J := inv_tab (more := more) (h' := s'.heap) (g' := s'.gens) (d' := s'.drawn) (t' := s'.toks) I1 hP
          (fun b u hb e => hm.heap b u (nwr b u e) (hk5 b u (keep3 b u hb e)))
          (by rw [← em]; exact hm.heap P _ (nwr P _ hPs) (hk5 P _ hP3)) (AllBare.movedS (I1.bare.push hgb) hm)
        rw [sh_eta s1 s' hm.os] at J
        exact ⟨upd H1 P (.tbl (ps ++ more)), ⟨⟨ps ++ more, upd_same, by rw [← em]; exact ht3⟩, fun b hb => upd_ne hb⟩, J⟩
  refine ⟨lim2, ?_⟩
  cases hf : codeAmong gpos ps.toList with
  | none =>
    refine wpAny_genexprCodeX hcode (cd.code hP2 ht) (cd.tab hP2) hf fun c' h' tk hx hge hlt hco' _ htab' _ => ?_
    obtain ⟨o1, vs, f1, tf, fl, tg, inF, tx, tt, op, _, _, _, _, _, _, _, _, _, htr, _⟩ := hco'
    exact go _ h' tk _ hx (Nat.le_trans hge (Nat.le_of_lt hlt)) htab'.2 ⟨_, rfl⟩ htr
  | some cv =>
    refine wpAny_genexprCode_hit hcode (cd.code hP2 ht) hf ?_
    exact go cv (s1.heap.push o) s1.toks ps (Heap.ExtBut.refl _ _) (Nat.le_refl _) hP2 ⟨#[], by simp⟩ ht
theorem pe_allC {c P : Addr} {elt iter : Expr} {x y : Str} {px p pos gpos : Pos} {scope : Scope} {pb : Str → Nat → Bool} {te : TE} {k i : Nat}
    (hr : Room k X.A) (hg : Gl X "all") (hm : X.mg "all" = none) (hb : bootBuiltins "all" = some (.builtin "all")) (TB : GxR.TabB X.base X.mg c P) (hcode : X.env.code = .ref c) (S : GenS X.env scope x)
    (hN : X.N[i]? = some y) (hy : X.env.scope.names.lookup y = some .cell) (hcl : ∀ cells : List (Str × Addr), (cloFrom cells scope.names []).lookup y = some ((cells.lookup y).getD 0))
    (hi : PE X iter te) (hel : EltC X scope x y elt pb) (hs : ∀ v, genFold iter X.env v = pure v)
    (he : starEach [.GeneratorExp elt [⟨.Name x px, iter, [], 0⟩] scope gpos] X.env = (false, eval (.GeneratorExp elt [⟨.Name x px, iter, [], 0⟩] scope gpos) X.env) :: starEach [] X.env := by rfl) :
    PE X (.Call (.Name "all" p) [.GeneratorExp elt [⟨.Name x px, iter, [], 0⟩] scope gpos] [] pos) (tAllC P i pb te) := by
  refine ⟨fun pins s σ H Q I h => ?_⟩
  refine wpAny_Call_Name_kw (ld_blt I hg hm hb (PyProof.Rows.callWith_builtin1 ?_ he (by rfl)))
  rw [he]
  show wpAny _ _ (spliced ((false, eval (.GeneratorExp elt [⟨.Name x px, iter, [], 0⟩] scope gpos) X.env) :: backTo pos (starEach [] X.env))) _ _ s
  refine Calls.spliced_cons (gen_cap (i := i) (y := y) (R := fun a z H1 => ∀ H2, Tabbed P H1 H2 → Q (.bl (a.cps.toList.all (pb z))) H2)
    hr TB hcode S hN hy hcl hi hel hs I h fun a z H1 g s5 hR hG => ?_)
  obtain ⟨fp, wr, G, F, St, W, hst, htr, hI⟩ := hG
  refine Calls.spliced_nil (call_all_walkS (W.self 0 _ _ _ hst ⟨g, fp, wr, G, _, F, St, _, rfl, W, hst, htr, fun s' hmv => ?_⟩))
  obtain ⟨H2, hT, J⟩ := hI s' hmv
  refine ⟨.bl _, H2, J, rfl, ?_⟩
  rw [all_signs a (pb z)]
  exact hR H2 hT
end
end Wk

set_option Elab.async false
set_option linter.all false
set_option maxRecDepth 100000
set_option maxHeartbeats 2000000
/-! Names: what is computed, and promises. -/
namespace Wk
open PySem PySem.Spec PyProof.Rows L2 GxR
abbrev fg : Str := "0123456789"
def wordB (z s : Str) : Bool := decide (1 ≤ z.length) && (decide (z.length ≤ 6) && z.cps.toList.all fun c => decide (c ∈ s.cps.toList))
def takenV : List V := [.str "in", .str "out", .str "open", .str "new"]
def nameB (z : Str) : Bool := !inV (.str z) takenV && wordB z abc
def nmV : V → Bool
  | .str z => nameB z
  | _ => false
inductive Thing (H : Hp) : V → Prop where
  | str (z : Str) (h : z.length ≤ 1000) : Thing H (.str z)
  | non : Thing H .non
  | int (i : Int) : Thing H (.int i)
  | bl (b : Bool) : Thing H (.bl b)
  | lst {a : Addr} {xs : List V} (e : H a = some (.lst xs)) : Thing H (.ref a)
  | tup {a : Addr} {xs : List V} (e : H a = some (.tup xs)) : Thing H (.ref a)
  | dct {a : Addr} {xs : List (Key × V)} (e : H a = some (.dK xs)) : Thing H (.ref a)
def strish : V → Bool
  | .str _ => true
  | _ => false
theorem Thing.ty {K : PySem.W.Frag} {H : Hp} {v : V} (h : Thing H v) : ∃ t : String, TyX K H v (.type t) ∧ PySem.W.kitOne K (.type t) (.type "str") = some (strish v) := by
  cases h with
  | str z h => exact ⟨_, .base (.str z), kit_ty (show kitB "str" "str" = some true by decide +kernel)⟩
  | non => exact ⟨_, .base .non, kit_ty (show kitB "NoneType" "str" = some false by decide +kernel)⟩
  | int i => exact ⟨_, .base (.int i), kit_ty (show kitB "int" "str" = some false by decide +kernel)⟩
  | bl b => exact ⟨_, .base (.bl b), kit_ty (show kitB "bool" "str" = some false by decide +kernel)⟩
  | lst e => exact ⟨_, .base (.lst e), kit_ty (show kitB "list" "str" = some false by decide +kernel)⟩
  | tup e => exact ⟨_, .base (.tup e), kit_ty (show kitB "tuple" "str" = some false by decide +kernel)⟩
  | dct e => exact ⟨_, .base (.dK e), kit_ty (show kitB "dict" "str" = some false by decide +kernel)⟩
theorem Thing.cases {H : Hp} {v : V} (h : Thing H v) : (∃ z : Str, v = .str z ∧ z.length ≤ 1000) ∨ (strish v = false ∧ nmV v = false) := by
  cases h with
  | str z h => exact .inl ⟨z, rfl, h⟩
  | _ => exact .inr ⟨rfl, rfl⟩
def spWord (Ts : List Addr) : Sp := fun vs H Q _ => ∃ z s : Str, vs = [.str z, .str s] ∧ z.length ≤ 1000 ∧ TabsG Ts H ∧ ∀ H', SamTs Ts H H' → Q (.bl (wordB z s)) H'
def spName (Ts : List Addr) (g : V → Bool) : Sp := fun vs H Q _ => ∃ v : V, vs = [v] ∧ Thing H v ∧ TabsG Ts H ∧ ∀ H', SamTs Ts H H' → Q (.bl (g v)) H'
/-! drawn names are names -/
theorem name_len {j : Nat} {z : Str} (h : NameOf j z) : z.length ≤ 6 ∧ 1 ≤ z.length := by
  obtain ⟨r, e, h1, _⟩ := h
  have : z.length = z.cps.toList.length := (Array.length_toList).symm
  rw [this, e, List.length_cons]
  omega
theorem name_word {j : Nat} {z : Str} (h : NameOf j z) (hj : j < 26) : wordB z abc = true := by
  obtain ⟨l1, l2⟩ := name_len h
  obtain ⟨r, e, h1, h2⟩ := h
  have va : ∀ c ∈ vow.cps.toList, c ∈ abc.cps.toList := by decide +kernel
  have ja : 97 + j ∈ abc.cps.toList := List.mem_of_getElem? (abc_at j hj)
  unfold wordB
  rw [decide_eq_true l2, decide_eq_true l1, Bool.true_and, Bool.true_and, List.all_eq_true]
  intro c hc
  rw [e] at hc
  rcases List.mem_cons.mp hc with q | q
  · rw [q]; exact decide_eq_true ja
  · exact decide_eq_true (va c (h2 c q))
/-! the second sign of a drawn name is a vowel, x, y or z: it is none of the four words -/
theorem name_free {j : Nat} {z : Str} (h : NameOf j z) : inV (.str z) takenV = false := by
  obtain ⟨r, e, h1, h2⟩ := h
  have no : ∀ (t : Str) (c : Nat), c ∈ t.cps.toList.drop 1 → c ∉ vow.cps.toList → z ≠ t := by
    intro t c hc hv ez
    rw [← ez, e] at hc
    exact hv (h2 c hc)
  have n1 : z ≠ "in" := no "in" 110 (by decide +kernel) (by decide +kernel)
  have n2 : z ≠ "out" := no "out" 116 (by decide +kernel) (by decide +kernel)
  have n3 : z ≠ "open" := no "open" 112 (by decide +kernel) (by decide +kernel)
  have n4 : z ≠ "new" := no "new" 119 (by decide +kernel) (by decide +kernel)
  have e5 : takenV = (["in", "out", "open", "new"] : List Str).map V.str := rfl
  rw [e5, inV_strs]
  exact decide_eq_false (by simp [n1, n2, n3, n4])
theorem name_ok {j : Nat} {z : Str} (h : NameOf j z) (hj : j < 26) : nameB z = true := by
  unfold nameB
  rw [name_free h, name_word h hj]
  rfl
end Wk

set_option Elab.async false
set_option linter.all false
set_option maxRecDepth 100000
set_option maxHeartbeats 2000000
/-! d.get(x) of a dict that the module wrote, its keys texts. -/
namespace Wk
open PySem PySem.Spec PyProof.Rows L2 GxR
/-- at a: a written dict in which x has r -/
def KGot (K : PySem.W.Frag) (w : World) (a : Addr) : Prop := ∃ es n, K.lookup a = some ⟨.type "dict", none, .dict es n, #[]⟩ ∧ PySem.W.KeysLit w.params es.toList ∧ (a == sysModules) = false
def tKGet (K : PySem.W.Frag) (w : World) (td ty : TE) : TE := fun σ H Q => td σ H fun x H1 => ∃ a, x = .ref a ∧ KGot K w a ∧ ty σ H1 fun y H2 => ∃ (z : Str) (r : Option Value) (v0 : V), y = .str z ∧ PySem.W.nsIn K a z = some r ∧ RelV v0 (r.getD .none) ∧ Q v0 H2
section
variable {X : Cx} {o e : Expr} {apos cpos : Pos} {td ty : TE}
theorem pe_kget (ho : PE X o td) (he : PE X e ty) (m : M1 X o "get" apos e cpos) : PE X (.Call (.Attribute o "get" apos) [e] [] cpos) (tKGet X.K X.w td ty) := by
  refine ⟨fun pins s σ H Q I h => ?_⟩
  refine wpAny_Call_method m.base m.few m.line PySem.F.plainAttrs_dict PySem.F.slot_dict_get PySem.F.type_dict_get (thn (ho.run pins s σ H _ I h) fun u s1 ⟨x, H1, I1, rx, a, ex, d, q1⟩ => ?_)
  subst ex
  obtain rfl : u = Value.ref a := rx
  obtain ⟨es, n, hl, hk, low⟩ := d
  have mp := fun (s : Shared) (k : X.K.In s.heap) => PySem.W.mapOf_K (prog := X.prog) (w := X.w) k hl hk
  refine ⟨(mp s1 I1.kIn).typeIs, fun b eb => ?_, ?_⟩
  · cases eb
    exact ⟨_, I1.kIn _ _ hl, rfl⟩
  rw [m.trees]
  refine Calls.callWith_builtin rfl (Calls.evalArgs_plain (Calls.spliced_cons (thn (he.run pins s1 σ H1 _ I1 q1) fun iv s2 ⟨y, H2, I2, ry, z, r, v0, ey, g, rv, q2⟩ => Calls.spliced_nil ?_)))
  subst ey
  obtain ⟨t, rfl⟩ := (show ∃ t, iv = Value.str z t from ry)
  refine call_meetsIn PySem.F.slot_dict_get (mp s2 I2.kIn).typeIs PySem.F.entry_dict_get (PySem.F.args_dict_get_2 _ _) (meets_dict_get (strKind X.prog X.w) a (strKind_is X.prog X.w z t) low) ⟨_, mp s2 I2.kIn, ?_⟩
  rw [PySem.W.find_K hl g]
  exact ⟨v0, H2, I2.tok _, rv, q2⟩
end
end Wk

set_option Elab.async false
set_option linter.all false
set_option maxRecDepth 100000
set_option maxHeartbeats 2000000
/-! What is a house: levels of rows, promises. -/
namespace Wk
open PySem PySem.Spec PyProof.Rows L2 GxR
/-- how many things a part has -/
def szP : Part → Nat
  | .say _ => 2
  | .again _ => 2
  | .oth _ _ _ => 3
def NmOk (n : Str) : Prop := nameB n = true ∧ n.length ≤ 1000
/-- parts and their rests, level by level -/
def flL (ls : List (List Part)) : List Part := ls.flatten
def nxL (ls : List (List Part)) : List (List Part) := (flL ls).map restP
theorem flL_cons (r : List Part) (ls : List (List Part)) : flL (r :: ls) = r ++ flL ls := rfl
theorem sizeR_rests : ∀ r : List Part, sizeR r = r.length + sizeL (r.map restP)
  | [] => rfl
  | p :: r => by
    have h := sizeR_rests r
    have s := size_rest p
    show sizeP p + sizeR r = r.length + 1 + (sizeR (restP p) + sizeL (r.map restP))
    omega
theorem sizeL_rests : ∀ ls : List (List Part), sizeL ls = (flL ls).length + sizeL (nxL ls)
  | [] => rfl
  | r :: ls => by
    have h := sizeL_rests ls
    have h2 := sizeR_rests r
    show sizeR r + sizeL ls = (r ++ flL ls).length + sizeL ((r ++ flL ls).map restP)
    rw [List.length_append, List.map_append, sizeL_app]
    have e : sizeL (nxL ls) = sizeL ((flL ls).map restP) := rfl
    omega
theorem deepR_rests : ∀ r : List Part, deepL (r.map restP) ≤ deepR r - 1
  | [] => Nat.le_refl _
  | p :: r => by
    have h := deepR_rests r
    have d := deep_rest p
    show max (deepR (restP p)) (deepL (r.map restP)) ≤ max (deepP p) (deepR r) - 1
    omega
theorem deepL_rests : ∀ ls : List (List Part), deepL (nxL ls) ≤ deepL ls - 1
  | [] => Nat.le_refl _
  | r :: ls => by
    have h := deepL_rests ls
    have h2 := deepR_rests r
    show deepL ((r ++ flL ls).map restP) ≤ max (deepR r) (deepL ls) - 1
    rw [List.map_append, deepL_app]
    have e : deepL (nxL ls) = deepL ((flL ls).map restP) := rfl
    omega
theorem deep_posP : ∀ p : Part, 1 ≤ deepP p := fun p => by
  have := deep_rest p
  omega
theorem deepL_pos : ∀ ls : List (List Part), flL ls ≠ [] → 1 ≤ deepL ls
  | [], h => absurd rfl h
  | [] :: ls, h => by
    have := deepL_pos ls h
    show 1 ≤ max (deepR []) (deepL ls)
    omega
  | (p :: r) :: ls, h => by
    have := deep_posP p
    show 1 ≤ max (max (deepP p) (deepR r)) (deepL ls)
    omega
def okLs (f : Str → Prop) (ls : List (List Part)) : Prop := ∀ r ∈ ls, okR f r
theorem okLs.parts {f : Str → Prop} {ls : List (List Part)} (h : okLs f ls) : ∀ p ∈ flL ls, okP f p := fun p hp => by
  obtain ⟨r, hr, hp⟩ := List.mem_flatten.mp hp
  exact (h r hr).mem p hp
theorem okLs.next {f : Str → Prop} {ls : List (List Part)} (h : okLs f ls) : okLs f (nxL ls) := fun r hr => by
  obtain ⟨p, hp, rfl⟩ := List.mem_map.mp hr
  exact rest_ok (h.parts p hp)
theorem len_sum : ∀ (ls : List (List Part)) (i : Nat), i ≤ ls.length → preSum (fun j => ((ls[j]?).elim (0 : Int) fun r => (r.length : Nat))) i = ((flL (ls.take i)).length : Nat)
  | ls, 0, _ => by simp [preSum, flL]
  | ls, i + 1, h => by
    have hi : i < ls.length := h
    rw [preSum, len_sum ls i (Nat.le_of_lt hi), List.take_add_one, List.getElem?_eq_getElem hi]
    unfold flL
    rw [List.flatten_append, List.length_append]
    simp
theorem flL_take (ls : List (List Part)) (i : Nat) : (flL (ls.take i)).length ≤ (flL ls).length := by
  have e : flL ls = flL (ls.take i) ++ flL (ls.drop i) := by
    unfold flL
    rw [← List.flatten_append, List.take_append_drop]
  rw [e, List.length_append]
  omega
def spForm : Sp := fun vs H Q _ => ∃ (v : V) (p : Part), vs = [v] ∧ PartAt H p v ∧ Q (.bl true) H
def spNPart (Ts : List Addr) : Sp := fun vs H Q _ => ∃ (v : V) (p : Part), vs = [v] ∧ PartAt H p v ∧ okP NmOk p ∧ TabsG Ts H ∧ ∀ H', SamTs Ts H H' → Q (.bl true) H'
def spSmall (Ts : List Addr) : Sp := fun vs H Q _ => ∃ (v : V) (r : List Part), vs = [v] ∧ RowAt H r v ∧ okR NmOk r ∧ sizeR r ≤ 400 ∧ deepR r ≤ 24 ∧ TabsG Ts H ∧ ∀ H', SamTs Ts H H' → Q (.bl true) H'
/-- a row that is a house -/
structure HouseR (r : List Part) : Prop where
  ok : okR NmOk r
  size : sizeR r ≤ 400
  deep : deepR r ≤ 24
  nd : (bdR r).Nodup
  apart : ∀ x ∈ bdR r, x ∉ frR [] r
def spHouse (Ts : List Addr) (n : Nat) : Sp := fun vs H Q _ => ∃ (v : V) (r : List Part), vs = [v] ∧ RowAt H r v ∧ HouseR r ∧ deepR r < n ∧ TabsG Ts H ∧ ∀ H', SamTs Ts H H' → Q (.bl true) H'
end Wk
namespace Wk
open PySem PySem.Spec PyProof.Rows L2 GxR
theorem FunC.okN {P : Program} {w : World} {K : PySem.W.Frag} {mg : Str → Option Value} {base : Heap} {x qual : Str} {st : Stmt} {f c : Addr} {fd : FuncData} {N ps : List Str} {k : Nat} {sp : Sp} (F : FunC K x qual st f c fd) (S : FnScope N ps (defScope st))
    (len : ∀ vs H Q E, sp vs H Q E → vs.length = ps.length)
    (hb : ∀ (A : Around) (outer : List Env) (s : Shared) (H : Hp) (vs : List V) (Q : VK) (E : XK), Room k (A.deeper (envOfC qual (defScope st) s.heap.objs.size f (.ref c))) → sp vs H Q E →
      ∃ t, PSs (cxOf CX0 P w K mg base N qual (defScope st) f (.ref c) A outer s H E).nox (defBody st) t ∧ t { nx := fun _ H' => Q .non H', rt := Q } (start N vs) H) : FnOk P w K mg base CX0 (k + 1) f fd ps sp :=
  F.ok S len fun A outer s H vs Q E hr h => by
    obtain ⟨t, g, q⟩ := hb A outer s H vs Q E hr h
    exact ⟨t, g.nox, q⟩
end Wk

set_option Elab.async false
set_option linter.all false
set_option maxRecDepth 100000
set_option maxHeartbeats 2000000
/-! Rows freed: what is computed, and what stays true. -/
namespace Wk
open PySem PySem.Spec PyProof.Rows L2 GxR
theorem emp_app (x : Str) : Str.empty ++ x = x := by
  refine Str.ext' (Array.toList_inj.mp ?_)
  rw [app_codes]
  rfl
/-- the private name with base x and number k -/
def priv (x : Str) (k : Nat) : Str := x ++ "." ++ Str.ofString (toString (k : Int))
/-- one part freed, where f frees rows -/
def frdP (f : Nat → List Part → Nat × List Part) (k : Nat) : Part → Nat × List Part
  | .say n => (k, [.say n])
  | .again r => (k, [.again r])
  | .oth w n r => match w with
    | .room => ((f k r).1, [.oth .room n (f k r).2])
    | .new => f (k + 1) (calledR n (priv n k) r)
    | w => (k, [.oth w n r])
def frdL (f : Nat → List Part → Nat × List Part) : Nat → List Part → Nat × List Part
  | k, [] => (k, [])
  | k, p :: r => ((frdL f (frdP f k p).1 r).1, (frdP f k p).2 ++ (frdL f (frdP f k p).1 r).2)
def frdR : Nat → Nat → List Part → Nat × List Part
  | 0, k, r => (k, r)
  | n + 1, k, r => frdL (frdR n) k r
theorem frdL_snoc (f : Nat → List Part → Nat × List Part) : ∀ (r : List Part) (k : Nat) (p : Part), frdL f k (r ++ [p]) = ((frdP f (frdL f k r).1 p).1, (frdL f k r).2 ++ (frdP f (frdL f k r).1 p).2)
  | [], k, p => by
    show ((frdP f k p).1, (frdP f k p).2 ++ []) = ((frdP f k p).1, [] ++ (frdP f k p).2)
    rw [List.append_nil, List.nil_append]
  | q :: r, k, p => by
    show ((frdL f (frdP f k q).1 (r ++ [p])).1, (frdP f k q).2 ++ (frdL f (frdP f k q).1 (r ++ [p])).2) = _
    rw [frdL_snoc f r (frdP f k q).1 p]
    show (_, (frdP f k q).2 ++ (_ ++ _)) = (_, ((frdP f k q).2 ++ _) ++ _)
    rw [List.append_assoc]
    rfl
mutual
/-- no part that is open is a new -/
def nnP : Part → Prop
  | .say _ => True
  | .again _ => True
  | .oth w _ r => w ≠ .new ∧ (w = .room → nnR r)
def nnR : List Part → Prop
  | [] => True
  | p :: r => nnP p ∧ nnR r
end
theorem nnR_app : ∀ {r q : List Part}, nnR r → nnR q → nnR (r ++ q)
  | [], q, _, g => g
  | p :: r, q, h, g => ⟨h.1, nnR_app h.2 g⟩
theorem nnR.mem : ∀ {r : List Part}, nnR r → ∀ p ∈ r, nnP p
  | [], _, p, hp => nomatch hp
  | q :: r, h, p, hp => by
    rcases List.mem_cons.mp hp with e | e
    · rw [e]; exact h.1
    · exact nnR.mem h.2 p e
/-- what is freed is freed -/
theorem frdR_id : ∀ (n k : Nat) (r : List Part), nnR r → frdR n k r = (k, r)
  | 0, k, r, _ => rfl
  | n + 1, k, r, h => by
    show frdL (frdR n) k r = (k, r)
    induction r with
    | nil => rfl
    | cons p r ih =>
      have e : frdP (frdR n) k p = (k, [p]) := by
        cases p with
        | say m => rfl
        | again q => rfl
        | oth w m q =>
          obtain ⟨h1, h2⟩ := h.1
          cases w with
          | room =>
            show ((frdR n k q).1, [Part.oth .room m (frdR n k q).2]) = _
            rw [frdR_id n k q (h2 rfl)]
          | new => exact absurd rfl h1
          | _ => rfl
      show ((frdL (frdR n) (frdP (frdR n) k p).1 r).1, (frdP (frdR n) k p).2 ++ (frdL (frdR n) (frdP (frdR n) k p).1 r).2) = _
      rw [e]
      dsimp only
      rw [ih h.2]
      rfl
/-! ### what stays -/
/-- names short, bound ones shorter and each bound once -/
structure Gd (r : List Part) : Prop where
  ok : okR (Sh 30) r
  sh : ∀ x ∈ bdR r, Sh 6 x
  nd : (bdR r).Nodup
structure FrOk (k : Nat) (r : List Part) (o : Nat × List Part) : Prop where
  lo : k ≤ o.1
  hi : o.1 ≤ k + sizeR r
  deep : deepR o.2 ≤ deepR r
  size : sizeR o.2 ≤ sizeR r
  bd : (bdR o.2).Sublist (bdR r)
  ok : okR (Sh 30) o.2
  nn : nnR o.2
theorem FrOk.gd {k : Nat} {r : List Part} {o : Nat × List Part} (h : FrOk k r o) (g : Gd r) : Gd o.2 := ⟨h.ok, fun x hx => g.sh x (h.bd.subset hx), h.bd.nodup g.nd⟩
theorem priv_sh {x : Str} {k : Nat} (h : Sh 6 x) (hk : k < 10 ^ 10) : Sh 30 (priv x k) := by
  have shd : Sh 1 "." := by unfold Sh; decide +kernel
  have shn : Sh 10 (Str.ofString (toString (k : Int))) := num_sh (by omega) (by omega)
  exact ((h.app shd).app shn).mono (by decide)
theorem Gd.tail {p : Part} {r : List Part} (g : Gd (p :: r)) : Gd r := ⟨g.ok.2, fun x hx => g.sh x (List.mem_append_right _ hx), (List.nodup_append.mp (show (bdP p ++ bdR r).Nodup from g.nd)).2.1⟩
theorem Gd.head {p : Part} {r : List Part} (g : Gd (p :: r)) : Gd [p] := ⟨⟨g.ok.1, trivial⟩, fun x hx => g.sh x (by
    have : bdR [p] = bdP p := List.append_nil _
    rw [this] at hx
    exact List.mem_append_left _ hx), by
    have : bdR [p] = bdP p := List.append_nil _
    rw [this]
    exact (List.nodup_append.mp (show (bdP p ++ bdR r).Nodup from g.nd)).1⟩
theorem Gd.mem : ∀ {r : List Part}, Gd r → ∀ p ∈ r, Gd [p]
  | q :: r, g, p, hp => by
    rcases List.mem_cons.mp hp with e | e
    · rw [e]; exact g.head
    · exact Gd.mem g.tail p e
theorem Gd.rest {p : Part} (g : Gd [p]) : Gd (restP p) := by
  have e : bdR [p] = bdP p := List.append_nil _
  refine ⟨rest_ok g.ok.1, fun x hx => g.sh x (by rw [e]; exact rest_bd hx), ?_⟩
  have h := g.nd
  rw [e, bdP_eq] at h
  exact (List.nodup_append.mp h).2.1
theorem Gd.out {w : Wd} {x : Str} {r : List Part} (g : Gd [.oth w x r]) (hw : w.binds = true) : x ∉ bdR r ∧ Sh 6 x := by
  have e : bdR [.oth w x r] = x :: bdR r := by
    show ((if w.binds then [x] else []) ++ bdR r) ++ [] = _
    rw [if_pos hw, List.append_nil]
    rfl
  have h := g.nd
  have s := g.sh
  rw [e] at h s
  exact ⟨(List.nodup_cons.mp h).1, s x List.mem_cons_self⟩
theorem Gd.called {x c : Str} {r : List Part} (g : Gd r) (hx : x ∉ bdR r) (hc : Sh 30 c) : Gd (calledR x c r) := by
  have e : bdR (calledR x c r) = bdR r := by rw [called_lcR r hx]; exact lc_bdR r hx
  refine ⟨calledR_ok x c hc r g.ok, ?_, ?_⟩
  · rw [e]; exact g.sh
  · rw [e]; exact g.nd
theorem frd_ok : ∀ (n k : Nat) (r : List Part), deepR r ≤ n → Gd r → k + sizeR r < 10 ^ 10 → FrOk k r (frdR n k r)
  | 0, k, r, hd, g, hk => by
    have e : r = [] := by
      cases r with
      | nil => rfl
      | cons p r =>
        have := deep_rest p
        have h2 : max (deepP p) (deepR r) ≤ 0 := hd
        omega
    subst e
    exact ⟨Nat.le_refl _, Nat.le_refl _, Nat.le_refl _, Nat.le_refl _, List.Sublist.refl _, trivial, trivial⟩
  | n + 1, k, r, hd, g, hk => by
    show FrOk k r (frdL (frdR n) k r)
    induction r generalizing k with
    | nil => exact ⟨Nat.le_refl _, Nat.le_refl _, Nat.le_refl _, Nat.le_refl _, List.Sublist.refl _, trivial, trivial⟩
    | cons p r ih =>
      have hd' : max (deepP p) (deepR r) ≤ n + 1 := hd
      have hk' : k + (sizeP p + sizeR r) < 10 ^ 10 := hk
      have g1 := g.head
      have d2 := deep_rest p
      have s2 := size_rest p
      have one : FrOk k [p] (frdP (frdR n) k p) := by
        cases p with
        | say m => exact ⟨Nat.le_refl _, Nat.le_add_right _ _, Nat.le_refl _, Nat.le_refl _, List.Sublist.refl _, g1.ok, trivial, trivial⟩
        | again q => exact ⟨Nat.le_refl _, Nat.le_add_right _ _, Nat.le_refl _, Nat.le_refl _, List.Sublist.refl _, g1.ok, trivial, trivial⟩
        | oth w m q =>
          have v1 : deepR (restP (Part.oth w m q)) = deepR q := rfl
          have v2 : sizeR (restP (Part.oth w m q)) = sizeR q := rfl
          have z1 : sizeR [Part.oth w m q] = sizeR q + 1 := rfl
          have z2 : deepR [Part.oth w m q] = deepR q + 1 := by show max (deepR q + 1) 0 = _; omega
          cases w with
          | room =>
            have f := frd_ok n k q (by omega) g1.rest (by omega)
            refine ⟨f.lo, by have := f.hi; show (frdR n k q).1 ≤ _; omega, ?_, ?_, ?_, ⟨⟨g1.ok.1.1, f.ok⟩, trivial⟩, ⟨⟨(fun e => by cases e), fun _ => f.nn⟩, trivial⟩⟩
            · have := f.deep
              show max (deepR (frdR n k q).2 + 1) 0 ≤ _
              omega
            · have := f.size
              show sizeR (frdR n k q).2 + 1 ≤ _
              omega
            · show (bdR [Part.oth .room m (frdR n k q).2]).Sublist (bdR [Part.oth .room m q])
              have e1 : ∀ t, bdR [Part.oth .room m t] = bdR t := fun t => by
                show ([] ++ bdR t) ++ [] = _
                rw [List.append_nil]; rfl
              rw [e1, e1]
              exact f.bd
          | new =>
            obtain ⟨hx, hs⟩ := g1.out rfl
            have eb : bdR (calledR m (priv m k) q) = bdR q := by rw [called_lcR q hx]; exact lc_bdR q hx
            have f := frd_ok n (k + 1) (calledR m (priv m k) q) (by rw [calledR_deep]; omega) (g1.rest.called hx (priv_sh hs (by omega))) (by rw [calledR_size]; omega)
            have fl := f.lo
            have fh := f.hi
            have fd := f.deep
            have fs := f.size
            rw [calledR_size] at fh fs
            rw [calledR_deep] at fd
            refine ⟨?_, ?_, ?_, ?_, ?_, f.ok, f.nn⟩
            · show k ≤ (frdR n (k + 1) (calledR m (priv m k) q)).1; omega
            · show (frdR n (k + 1) (calledR m (priv m k) q)).1 ≤ _; omega
            · show deepR (frdR n (k + 1) (calledR m (priv m k) q)).2 ≤ _; omega
            · show sizeR (frdR n (k + 1) (calledR m (priv m k) q)).2 ≤ _; omega
            · have b := f.bd
              rw [eb] at b
              show (bdR (frdR n (k + 1) (calledR m (priv m k) q)).2).Sublist ((m :: bdR q) ++ [])
              rw [List.append_nil]
              exact b.cons m
          | inn => exact ⟨Nat.le_refl _, Nat.le_add_right _ _, Nat.le_refl _, Nat.le_refl _, List.Sublist.refl _, g1.ok, ⟨(fun e => by cases e), (fun e => by cases e)⟩, trivial⟩
          | out => exact ⟨Nat.le_refl _, Nat.le_add_right _ _, Nat.le_refl _, Nat.le_refl _, List.Sublist.refl _, g1.ok, ⟨(fun e => by cases e), (fun e => by cases e)⟩, trivial⟩
          | opn => exact ⟨Nat.le_refl _, Nat.le_add_right _ _, Nat.le_refl _, Nat.le_refl _, List.Sublist.refl _, g1.ok, ⟨(fun e => by cases e), (fun e => by cases e)⟩, trivial⟩
          | hear => exact ⟨Nat.le_refl _, Nat.le_add_right _ _, Nat.le_refl _, Nat.le_refl _, List.Sublist.refl _, g1.ok, ⟨(fun e => by cases e), (fun e => by cases e)⟩, trivial⟩
      have o1 := one.lo
      have o2 := one.hi
      have o3 := one.deep
      have o4 := one.size
      have z1 : sizeR [p] = sizeP p := by show sizeP p + 0 = _; omega
      have z2 : deepR [p] = deepP p := by show max (deepP p) 0 = _; omega
      rw [z1] at o2 o4
      rw [z2] at o3
      have tl := ih (frdP (frdR n) k p).1 (by omega) g.tail (by omega)
      have t1 := tl.lo
      have t2 := tl.hi
      have t3 := tl.deep
      have t4 := tl.size
      refine ⟨?_, ?_, ?_, ?_, ?_, okR_app one.ok tl.ok, nnR_app one.nn tl.nn⟩
      · show k ≤ (frdL (frdR n) (frdP (frdR n) k p).1 r).1; omega
      · show (frdL (frdR n) (frdP (frdR n) k p).1 r).1 ≤ k + (sizeP p + sizeR r); omega
      · show deepR ((frdP (frdR n) k p).2 ++ (frdL (frdR n) (frdP (frdR n) k p).1 r).2) ≤ max (deepP p) (deepR r)
        rw [deepR_app]; omega
      · show sizeR ((frdP (frdR n) k p).2 ++ (frdL (frdR n) (frdP (frdR n) k p).1 r).2) ≤ sizeP p + sizeR r
        rw [sizeR_app]; omega
      · show (bdR ((frdP (frdR n) k p).2 ++ (frdL (frdR n) (frdP (frdR n) k p).1 r).2)).Sublist (bdP p ++ bdR r)
        rw [bdR_app]
        have b1 := one.bd
        rw [show bdR [p] = bdP p from List.append_nil _] at b1
        exact b1.append tl.bd
end Wk

set_option Elab.async false
set_option linter.all false
set_option maxRecDepth 100000
set_option maxHeartbeats 2000000
/-! xs.extend(a tuple). -/
namespace Wk
open PySem PySem.Spec PyProof.Rows L2 GxR
theorem ext_tup (l : Addr) (us : Array Value) (n : Nat) (b : Addr) (vs : Array Value) (m : Nat) (dd : Option Addr) (sl : Array (Option Value)) (h0 : ¬(!us.isEmpty && Builtin.List.listTooLong (us.size + vs.size)) = true) (h1 : us.size ≤ sizeLine) (h2 : us.size + vs.size ≤ sizeLine + 1) :
    Meets (Builtin.«list.extend» ⟨[.ref l, .ref b], []⟩) (fun _ R s => s.heap.get? l = some ⟨.type "list", none, .seq us n, #[]⟩ ∧ s.heap.get? b = some ⟨.type "tuple", dd, .seq vs m, sl⟩ ∧ R (.ok (.ret Value.none)) { s with heap := s.heap.update l (Obj.mapSeq fun x => x ++ vs), toks := s.toks }) := by
  refine .of_wp fun prog w A R s h => ?_
  obtain ⟨hp, g, d, tk, os⟩ := s
  obtain ⟨hl, hb, h⟩ := h
  have hz' : (us ++ vs).size ≤ sizeLine + 1 := by rw [Array.size_append]; exact h2
  wp_walk using (wpAny_updateSeq hl rfl (hz := h1) (_hz' := hz')), AutoSeq1.wpAny_loadPart' hl, AutoSeq1.wpAny_loadPart' hb
  exact ⟨_, rfl, h⟩
def rExtT (K : PySem.W.Frag) : V → List V → Hp → VK → Prop := fun x vs H Q => ∃ l b xs zs, x = .ref l ∧ vs = [.ref b] ∧ H l = some (.lst xs) ∧ SqT K H b zs ∧ xs.length + zs.length ≤ sizeLine ∧ Q .non (upd H l (.lst (xs ++ zs)))
theorem mt_extT {X : Cx} : MtM X "list.extend" (rExtT X.K) := by
  intro pins s σ H x vs v us Q I rx rv h
  obtain ⟨l, b, xs, zs, rfl, rfl, hH, hB, hz, q⟩ := h
  cases rx
  obtain ⟨u, rfl, ru⟩ := rv.one
  cases ru
  obtain ⟨z, its, n, r, hl, e⟩ := I.lstM hH
  obtain ⟨its2, r2, ⟨⟨cls, dd, data, sl⟩, e2, hc, m, hd⟩, z2⟩ := I.tuple hB
  simp only at hc hd
  subst hc hd
  have hl2 := r2.length
  have hsz : its.toArray.size + its2.toArray.size ≤ sizeLine := by rw [List.size_toArray, List.size_toArray]; omega
  have hlong : ¬ (!its.toArray.isEmpty && Builtin.List.listTooLong (its.toArray.size + its2.toArray.size)) = true := by
    rw [notLongL hsz]
    simp
  refine call_meets F.slot_list_extend ⟨_, e, rfl⟩ F.entry_list_extend (F.args_list_extend_2 _ _) (ext_tup l its.toArray n b its2.toArray m dd sl hlong (by rw [List.size_toArray]; omega) (by omega)) ⟨e, e2, ?_⟩
  refine ⟨.non, _, I.lset (its' := its ++ its2) hH e (by simp) (r.append r2) (by rw [List.length_append]; omega), rfl, q⟩
end Wk
namespace Wk
open PySem PySem.Spec PyProof.Rows L2 GxR
/-- the told tuple: next, and the row -/
def ToldAt (H : Hp) (o : Nat × List Part) (v : V) : Prop := ∃ (t : Addr) (u : V), v = .ref t ∧ H t = some (.tup [.int o.1, u]) ∧ RowAt H o.2 u
theorem ToldAt.mono {H H' : Hp} {o : Nat × List Part} {v : V} (s : STup H H') (h : ToldAt H o v) : ToldAt H' o v := by
  obtain ⟨t, u, rfl, h1, h2⟩ := h
  exact ⟨t, u, rfl, s _ _ h1, h2.mono s⟩
def spFreed (n : Nat) : Sp := fun vs H Q _ => ∃ (k : Nat) (v : V) (r : List Part), vs = [.int k, v] ∧ RowAt H r v ∧ deepR r < n ∧ sizeR r ≤ 1000 ∧ Gd r ∧ k + sizeR r < 10 ^ 9 ∧
  ∀ (H' : Hp) (u : V), Same H H' → ToldAt H' (frdR n k r) u → Q u H'
def spPFreed (n : Nat) : Sp := fun vs H Q _ => ∃ (k : Nat) (v : V) (p : Part), vs = [.int k, v] ∧ PartAt H p v ∧ deepP p ≤ n ∧ sizeP p ≤ 1000 ∧ Gd [p] ∧ k + sizeP p < 10 ^ 9 ∧
  ∀ (H' : Hp) (u : V), Same H H' → ToldAt H' (frdP (frdR n) k p) u → Q u H'
def spSettled (Ts : List Addr) (n : Nat) : Sp := fun vs H Q _ => ∃ (v : V) (r : List Part), vs = [v] ∧ RowAt H r v ∧ HouseR r ∧ deepR r < n ∧ Gd r ∧ TabsG Ts H ∧
  ∀ (H' : Hp) (u : V), SamTs Ts H H' → ToldAt H' (frdR n 1 r) u → Q u H'
theorem num_log {k : Nat} (h : k < 10 ^ 9) : (k : Int).natAbs.log2 < 1920 := by
  refine Nat.lt_of_lt_of_le (PySem.Flt.log2_lt_of (k := 30) (by decide) ?_) (by decide)
  show (k : Int).natAbs < 1073741824
  omega
theorem frd_lens {n k : Nat} {r : List Part} (hd : deepR r ≤ n) (g : Gd r) (hk : k + sizeR r < 10 ^ 9) (hs : sizeR r ≤ 1000) : (frdR n k r).2.length ≤ 1000 := by
  have := (frd_ok n k r hd g (by omega)).size
  have := len_sizeR (frdR n k r).2
  omega
theorem Gd.take : ∀ {r : List Part} (i : Nat), Gd r → Gd (r.take i)
  | r, i, g => by
    have e : r = r.take i ++ r.drop i := (List.take_append_drop i r).symm
    have eb : bdR r = bdR (r.take i) ++ bdR (r.drop i) := by rw [← bdR_app, ← e]
    have nd := g.nd
    rw [eb] at nd
    refine ⟨?_, fun x hx => g.sh x (by rw [eb]; exact List.mem_append_left _ hx), (List.nodup_append.mp nd).1⟩
    have ok := g.ok
    have un : ∀ {a b : List Part}, okR (Sh 30) (a ++ b) → okR (Sh 30) a := by
      intro a
      induction a with
      | nil => intro b _; exact trivial
      | cons p a ih => intro b h; exact ⟨h.1, ih h.2⟩
    rw [e] at ok
    exact un ok
theorem deepR_take (r : List Part) (i : Nat) : deepR (r.take i) ≤ deepR r := by
  have e := deepR_app (r.take i) (r.drop i)
  rw [List.take_append_drop] at e
  omega
end Wk

set_option Elab.async false
set_option linter.all false
set_option maxRecDepth 100000
set_option maxHeartbeats 2000000
/-! Drawn rows are houses; rests that are open. -/
namespace Wk
open PySem PySem.Spec PyProof.Rows L2 GxR
mutual
theorem fr_scP {ss : List Str} : ∀ (p : Part) (S S' : List Str), scP S' p → (∀ x ∈ S', x ∈ S ∨ x ∈ ss) → ∀ x ∈ frP S p, x ∈ ss
  | .say n, S, S', h, i, x, hx => by
    unfold frP at hx
    by_cases c : n ∈ S
    · rw [if_pos c] at hx; cases hx
    · rw [if_neg c] at hx
      rw [List.mem_singleton.mp hx]
      rcases i n h with g | g
      · exact absurd g c
      · exact g
  | .again r, S, S', h, i, x, hx => fr_scR r S S' h i x hx
  | .oth w n r, S, S', h, i, x, hx => by
    unfold frP at hx
    unfold scP at h
    by_cases b : w.binds = true
    · rw [if_pos b] at hx h
      refine fr_scR r (S ++ [n]) (n :: S') h (fun y hy => ?_) x hx
      rcases List.mem_cons.mp hy with e | e
      · exact .inl (List.mem_append_right _ (by rw [e]; exact List.mem_singleton.mpr rfl))
      · rcases i y e with g | g
        · exact .inl (List.mem_append_left _ g)
        · exact .inr g
    · rw [if_neg b] at hx h
      rcases List.mem_append.mp hx with g | g
      · by_cases c : n ∈ S
        · rw [if_pos c] at g; cases g
        · rw [if_neg c] at g
          rw [List.mem_singleton.mp g]
          rcases i n h.1 with k | k
          · exact absurd k c
          · exact k
      · exact fr_scR r S S' h.2 i x g
theorem fr_scR {ss : List Str} : ∀ (r : List Part) (S S' : List Str), scR S' r → (∀ x ∈ S', x ∈ S ∨ x ∈ ss) → ∀ x ∈ frR S r, x ∈ ss
  | [], S, S', _, _, x, hx => nomatch hx
  | p :: r, S, S', h, i, x, hx => by
    rcases List.mem_append.mp (show x ∈ frP S p ++ frR S r from hx) with g | g
    · exact fr_scP p S S' h.1 i x g
    · exact fr_scR r S S' h.2 i x g
end
theorem names_nd {zs : List Str} {s : Nat} (hn : ∀ i z, zs[i]? = some z → NameOf ((s + 5 * i) % 26) z) (hl : zs.length ≤ 26) : zs.Nodup := by
  rw [List.nodup_iff_pairwise_ne, List.pairwise_iff_getElem]
  intro i j hi hj hij e
  have h1 : zs[i]? = some zs[i] := List.getElem?_eq_getElem hi
  have h2 : zs[j]? = some zs[i] := by rw [List.getElem?_eq_getElem hj, e]
  have := apart hn h1 h2 (by omega) (by omega)
  omega
theorem drawn_house {zs sp' : List Str} {s m : Nat} {r : List Part} (hn : ∀ i z, zs[i]? = some z → NameOf ((s + 5 * i) % 26) z) (hl : zs.length ≤ 26) (hm : m ≤ 4) (hsz : sizeR r ≤ 400)
    (hG : GR m (most m) (zs.take 5) (zs.drop 5) sp' r) : HouseR r ∧ Gd r := by
  have nd := names_nd hn hl
  have e5 : zs = zs.take 5 ++ zs.drop 5 := (List.take_append_drop 5 zs).symm
  have nd2 := nd
  rw [e5] at nd2
  obtain ⟨na, nb, nc⟩ := List.nodup_append.mp nd2
  have hin : okR (fun n => n ∈ zs) r := okR.imp (fun n h => by
    rcases h with g | g
    · exact List.mem_of_mem_take g
    · exact List.mem_of_mem_drop g) r hG.ok
  have nm : ∀ n ∈ zs, ∃ j, j < 26 ∧ NameOf j n := fun n h => by
    obtain ⟨i, hi⟩ := List.getElem?_of_mem h
    exact ⟨_, Nat.mod_lt _ (by decide), hn i n hi⟩
  have bdin : ∀ x ∈ bdR r, x ∈ zs.drop 5 := fun x hx => by
    rw [hG.bd]
    exact List.mem_append_right _ (List.mem_reverse.mpr hx)
  have bnd : (bdR r).Nodup := by
    have h := nb
    rw [hG.bd] at h
    exact (List.reverse_perm (bdR r)).nodup_iff.mp (List.nodup_append.mp h).2.1
  have dp := hG.deep
  refine ⟨⟨okR.imp (fun n h => ?_) r hin, hsz, by omega, bnd, fun x hx hf => ?_⟩, ⟨okR.imp (fun n h => ?_) r hin, fun x hx => ?_, bnd⟩⟩
  · obtain ⟨j, hj, h⟩ := nm n h
    exact ⟨name_ok h hj, by have := (name_len h).1; omega⟩
  · have h1 := fr_scR r [] (zs.take 5) hG.sc (fun y hy => .inr hy) x hf
    exact nc x h1 x (bdin x hx) rfl
  · obtain ⟨j, hj, h⟩ := nm n h
    exact (h.sh hj).mono (by decide)
  · obtain ⟨j, hj, h⟩ := nm x (List.mem_of_mem_drop (bdin x hx))
    exact h.sh hj
/-! ### rests of what is open -/
mutual
def rsP (c : Str) : Part → List (List Part)
  | .say _ => []
  | .again r => [r]
  | .oth w x r => match w with
    | .room => rsR c r
    | .hear => [lcR x c r]
    | _ => [r]
def rsR (c : Str) : List Part → List (List Part)
  | [] => []
  | p :: r => rsP c p ++ rsR c r
end
theorem rsR_app (c : Str) : ∀ r q : List Part, rsR c (r ++ q) = rsR c r ++ rsR c q
  | [], q => rfl
  | p :: r, q => by
    show rsP c p ++ rsR c (r ++ q) = (rsP c p ++ rsR c r) ++ rsR c q
    rw [rsR_app c r q, List.append_assoc]
mutual
theorem rsP_len (c : Str) : ∀ p : Part, (rsP c p).length ≤ sizeP p
  | .say _ => Nat.zero_le _
  | .again r => by show 1 ≤ sizeR r + 1; omega
  | .oth w x r => by
    have h := rsR_len c r
    cases w with
    | room => show (rsR c r).length ≤ sizeR r + 1; omega
    | _ => show 1 ≤ sizeR r + 1; omega
theorem rsR_len (c : Str) : ∀ r : List Part, (rsR c r).length ≤ sizeR r
  | [] => Nat.le_refl _
  | p :: r => by
    have h1 := rsP_len c p
    have h2 := rsR_len c r
    show (rsP c p ++ rsR c r).length ≤ sizeP p + sizeR r
    rw [List.length_append]
    omega
end
structure RsOk (d s : Nat) (q : List Part) : Prop where
  gd : Gd q
  deep : deepR q ≤ d
  size : sizeR q ≤ s
theorem lcR_deepsize {x c : Str} {r : List Part} (h : x ∉ bdR r) : deepR (lcR x c r) = deepR r ∧ sizeR (lcR x c r) = sizeR r := by
  rw [← called_lcR r h]
  exact ⟨calledR_deep x c r, calledR_size x c r⟩
mutual
theorem rsP_ok {c : Str} (hc : Sh 30 c) : ∀ p : Part, Gd [p] → ∀ q ∈ rsP c p, RsOk (deepP p) (sizeP p) q
  | .say _, g, q, hq => nomatch hq
  | .again r, g, q, hq => by
    rw [List.mem_singleton.mp hq]
    exact ⟨g.rest, Nat.le_succ _, Nat.le_succ _⟩
  | .oth w x r, g, q, hq => by
    cases w with
    | room =>
      have h := rsR_ok hc r g.rest q hq
      exact ⟨h.gd, Nat.le_trans h.deep (Nat.le_succ _), Nat.le_trans h.size (Nat.le_succ _)⟩
    | hear =>
      rw [List.mem_singleton.mp (show q ∈ [lcR x c r] from hq)]
      obtain ⟨hx, _⟩ := g.out rfl
      obtain ⟨e1, e2⟩ := lcR_deepsize (c := c) hx
      refine ⟨?_, by rw [e1]; exact Nat.le_succ _, by rw [e2]; exact Nat.le_succ _⟩
      rw [← called_lcR r hx]
      exact g.rest.called hx hc
    | inn =>
      rw [List.mem_singleton.mp (show q ∈ [r] from hq)]
      exact ⟨g.rest, Nat.le_succ _, Nat.le_succ _⟩
    | out =>
      rw [List.mem_singleton.mp (show q ∈ [r] from hq)]
      exact ⟨g.rest, Nat.le_succ _, Nat.le_succ _⟩
    | opn =>
      rw [List.mem_singleton.mp (show q ∈ [r] from hq)]
      exact ⟨g.rest, Nat.le_succ _, Nat.le_succ _⟩
    | new =>
      rw [List.mem_singleton.mp (show q ∈ [r] from hq)]
      exact ⟨g.rest, Nat.le_succ _, Nat.le_succ _⟩
theorem rsR_ok {c : Str} (hc : Sh 30 c) : ∀ r : List Part, Gd r → ∀ q ∈ rsR c r, RsOk (deepR r) (sizeR r) q
  | [], g, q, hq => nomatch hq
  | p :: r, g, q, hq => by
    rcases List.mem_append.mp (show q ∈ rsP c p ++ rsR c r from hq) with h | h
    · have k := rsP_ok hc p g.head q h
      have k1 := k.deep
      have k2 := k.size
      exact ⟨k.gd, (by show deepR q ≤ max (deepP p) (deepR r); omega), (by show sizeR q ≤ sizeP p + sizeR r; omega)⟩
    · have k := rsR_ok hc r g.tail q h
      have k1 := k.deep
      have k2 := k.size
      exact ⟨k.gd, (by show deepR q ≤ max (deepP p) (deepR r); omega), (by show sizeR q ≤ sizeP p + sizeR r; omega)⟩
end
def spRests (n : Nat) : Sp := fun vs H Q _ => ∃ (v : V) (c : Str) (r : List Part), vs = [v, .str c] ∧ RowAt H r v ∧ deepR r < n ∧ sizeR r ≤ 1000 ∧
  ∀ (H' : Hp) (p : Addr) (us : List V), Same H H' → H p = none → H' p = some (.lst us) → LvAt H' (rsR c r) us → Q (.ref p) H'
/-! ### told tuples compared -/
theorem told_shaped {k : Int} {r : List Part} (h : okR (Sh 30) r) (hd : deepR r ≤ 30) : SeqAt.shaped (.tuple [.int k, .tuple (dR r)]) = true := by
  unfold SeqAt.shaped
  have h1 := depR r
  have h2 := layR (f := Sh 30) (fun n h => h.ok) r h
  simp only [PyData.canLay0, PyData.canLayAll0, h2, PyData.depth, PyData.depthAll, Bool.true_and, Bool.and_self]
  exact decide_eq_true (by omega)
theorem told_eqv {k : Int} {r : List Part} (h : okR (Sh 30) r) : PyData.eqv (.tuple [.int k, .tuple (dR r)]) (.tuple [.int k, .tuple (dR r)]) = true :=
  SeqAt.eqv_refl _ (by
    have h2 := layR (f := Sh 30) (fun n h => h.ok) r h
    simp only [PyData.canLay0, PyData.canLayAll0, h2, Bool.and_self])
theorem ToldAt.dp {K : PySem.W.Frag} {H : Hp} {o : Nat × List Part} {v : V} (h : ToldAt H o v) : Dp K H v (.tuple [.int o.1, .tuple (dR o.2)]) := by
  obtain ⟨t, u, rfl, h1, h2⟩ := h
  exact .tup (SqT.of h1) (.cons (.int _) (.cons h2.dp .nil))
end Wk

set_option Elab.async false
set_option linter.all false
set_option maxRecDepth 100000
set_option maxHeartbeats 4000000
/-! Things of any kind, and which of them are small rows. -/
namespace Wk
open PySem PySem.Spec PyProof.Rows L2 GxR
inductive Th where
  | str (z : Str)
  | non
  | int (i : Int)
  | bl (b : Bool)
  | lst (xs : List Th)
  | tup (xs : List Th)
  | dct
mutual
def ThAt (H : Hp) : Th → V → Prop
  | .str z, v => v = .str z
  | .non, v => v = .non
  | .int i, v => v = .int i
  | .bl b, v => v = .bl b
  | .lst xs, v => ∃ a vs, v = .ref a ∧ H a = some (.lst vs) ∧ ThsAt H xs vs
  | .tup xs, v => ∃ a vs, v = .ref a ∧ H a = some (.tup vs) ∧ ThsAt H xs vs
  | .dct, v => ∃ a, v = .ref a ∧ H a = some (.dK [])
def ThsAt (H : Hp) : List Th → List V → Prop
  | [], vs => vs = []
  | t :: ts, vs => ∃ v us, vs = v :: us ∧ ThAt H t v ∧ ThsAt H ts us
end
/-- all but tables stays -/
def Kpt (H H' : Hp) : Prop := ∀ a o, (∀ ps, o ≠ HO.tbl ps) → H a = some o → H' a = some o
theorem Kpt.refl (H : Hp) : Kpt H H := fun _ _ _ e => e
theorem Kpt.trans {H H1 H2 : Hp} (a : Kpt H H1) (b : Kpt H1 H2) : Kpt H H2 := fun c o n e => b c o n (a c o n e)
theorem Kpt.of {Ts : List Addr} {H H' : Hp} (t : TabsG Ts H) (s : SamTs Ts H H') : Kpt H H' := fun a o n e => s.1 a o (fun m => by
  obtain ⟨ps, q, _⟩ := t a m
  rw [q] at e
  exact n ps (Option.some.inj e).symm) e
theorem Kpt.same {H H' : Hp} (s : Same H H') : Kpt H H' := fun a o _ e => s a o e
mutual
theorem ThAt.mono {H H' : Hp} (s : Kpt H H') : ∀ (t : Th) (v : V), ThAt H t v → ThAt H' t v
  | .str z, v, h => h
  | .non, v, h => h
  | .int i, v, h => h
  | .bl b, v, h => h
  | .lst xs, v, h => by
    obtain ⟨a, vs, e, h1, h2⟩ := h
    exact ⟨a, vs, e, s _ _ (fun _ z => by cases z) h1, ThsAt.mono s xs vs h2⟩
  | .tup xs, v, h => by
    obtain ⟨a, vs, e, h1, h2⟩ := h
    exact ⟨a, vs, e, s _ _ (fun _ z => by cases z) h1, ThsAt.mono s xs vs h2⟩
  | .dct, v, h => by
    obtain ⟨a, e, h1⟩ := h
    exact ⟨a, e, s _ _ (fun _ z => by cases z) h1⟩
theorem ThsAt.mono {H H' : Hp} (s : Kpt H H') : ∀ (ts : List Th) (vs : List V), ThsAt H ts vs → ThsAt H' ts vs
  | [], vs, h => h
  | t :: ts, vs, h => by
    obtain ⟨v, us, e, h1, h2⟩ := h
    exact ⟨v, us, e, ThAt.mono s t v h1, ThsAt.mono s ts us h2⟩
end
theorem ThsAt.len {H : Hp} : ∀ {ts : List Th} {vs : List V}, ThsAt H ts vs → vs.length = ts.length
  | [], vs, h => by rw [show vs = [] from h]; rfl
  | t :: ts, vs, h => by
    obtain ⟨v, us, e, _, h2⟩ := h
    rw [e, List.length_cons, List.length_cons, ThsAt.len h2]
theorem ThsAt.get {H : Hp} : ∀ {ts : List Th} {vs : List V}, ThsAt H ts vs → ∀ {i : Nat} {v : V}, vs[i]? = some v → ∃ t, ts[i]? = some t ∧ ThAt H t v
  | [], vs, h, i, v, e => by rw [show vs = [] from h] at e; simp at e
  | t :: ts, vs, h, 0, v, e => by
    obtain ⟨u, us, rfl, h1, _⟩ := h
    exact ⟨t, rfl, by rw [← Option.some.inj (show some u = some v from e)]; exact h1⟩
  | t :: ts, vs, h, i + 1, v, e => by
    obtain ⟨u, us, rfl, _, h2⟩ := h
    exact ThsAt.get h2 (i := i) (v := v) e
theorem ThsAt.app {H : Hp} {qs : List Th} {us : List V} (g : ThsAt H qs us) : ∀ {ts : List Th} {vs : List V}, ThsAt H ts vs → ThsAt H (ts ++ qs) (vs ++ us)
  | [], vs, h => by rw [show vs = [] from h]; exact g
  | t :: ts, vs, h => by
    obtain ⟨v, ws, rfl, h1, h2⟩ := h
    exact ⟨v, ws ++ us, rfl, h1, ThsAt.app g h2⟩
theorem ThsAt.one {H : Hp} {t : Th} {v : V} (h : ThAt H t v) : ThsAt H [t] [v] := ⟨v, [], rfl, h, rfl⟩
/-! ### rows as things -/
mutual
def thP : Part → Th
  | .say n => .tup [.str "say", .str n]
  | .again r => .tup [.str "again", .tup (thR r)]
  | .oth w n r => .tup [.str w.str, .str n, .tup (thR r)]
def thR : List Part → List Th
  | [] => []
  | p :: r => thP p :: thR r
end
def thRow (r : List Part) : Th := .tup (thR r)
theorem thR_map : ∀ r : List Part, thR r = r.map thP
  | [] => rfl
  | p :: r => by
    show thP p :: thR r = thP p :: r.map thP
    rw [thR_map r]
mutual
theorem thP_at {H : Hp} : ∀ (p : Part) (v : V), ThAt H (thP p) v → PartAt H p v
  | .say n, v, h => by
    obtain ⟨a, vs, e, h1, u1, w1, e1, h2, u2, w2, e2, h3, h4⟩ := h
    have z1 : u1 = .str "say" := h2
    have z2 : u2 = .str n := h3
    have z3 : w2 = [] := h4
    subst z1 z2 z3 e2 e1
    exact ⟨a, e, h1⟩
  | .again r, v, h => by
    obtain ⟨a, vs, e, h1, u1, w1, e1, h2, u2, w2, e2, ⟨b, xs, eb, hb, hx⟩, h4⟩ := h
    have z1 : u1 = .str "again" := h2
    have z3 : w2 = [] := h4
    subst z1 z3 eb e2 e1
    exact ⟨a, b, xs, e, h1, hb, thR_at r xs hx⟩
  | .oth w n r, v, h => by
    obtain ⟨a, vs, e, h1, u1, w1, e1, h2, u2, w2, e2, h3, u3, w3, e3, ⟨b, xs, eb, hb, hx⟩, h4⟩ := h
    have z1 : u1 = .str w.str := h2
    have z2 : u2 = .str n := h3
    have z3 : w3 = [] := h4
    subst z1 z2 z3 eb e3 e2 e1
    exact ⟨a, b, xs, e, h1, hb, thR_at r xs hx⟩
theorem thR_at {H : Hp} : ∀ (r : List Part) (vs : List V), ThsAt H (thR r) vs → PartsAt H r vs
  | [], vs, h => h
  | p :: r, vs, h => by
    obtain ⟨v, us, e, h1, h2⟩ := h
    exact ⟨v, us, e, thP_at p v h1, thR_at r us h2⟩
end
theorem thRow_at {H : Hp} {r : List Part} {v : V} (h : ThAt H (thRow r) v) : RowAt H r v := by
  obtain ⟨a, vs, e, h1, h2⟩ := h
  exact ⟨a, vs, e, h1, thR_at r vs h2⟩
mutual
theorem at_thP {H : Hp} : ∀ (p : Part) (v : V), PartAt H p v → ThAt H (thP p) v
  | .say n, v, h => by
    obtain ⟨a, e, h1⟩ := h
    exact ⟨a, _, e, h1, _, _, rfl, rfl, _, _, rfl, rfl, rfl⟩
  | .again r, v, h => by
    obtain ⟨a, b, xs, e, h1, h2, h3⟩ := h
    exact ⟨a, _, e, h1, _, _, rfl, rfl, _, _, rfl, ⟨b, xs, rfl, h2, at_thR r xs h3⟩, rfl⟩
  | .oth w n r, v, h => by
    obtain ⟨a, b, xs, e, h1, h2, h3⟩ := h
    exact ⟨a, _, e, h1, _, _, rfl, rfl, _, _, rfl, rfl, _, _, rfl, ⟨b, xs, rfl, h2, at_thR r xs h3⟩, rfl⟩
theorem at_thR {H : Hp} : ∀ (r : List Part) (vs : List V), PartsAt H r vs → ThsAt H (thR r) vs
  | [], vs, h => h
  | p :: r, vs, h => by
    obtain ⟨v, us, e, h1, h2⟩ := h
    exact ⟨v, us, e, at_thP p v h1, at_thR r us h2⟩
end
theorem at_thRow {H : Hp} {r : List Part} {v : V} (h : RowAt H r v) : ThAt H (thRow r) v := by
  obtain ⟨a, vs, e, h1, h2⟩ := h
  exact ⟨a, vs, e, h1, at_thR r vs h2⟩
/-! ### forms -/
def szOf (z : Str) : Option Nat :=
  if z = "room" then some 3 else if z = "in" then some 3 else if z = "out" then some 3 else if z = "open" then some 3 else if z = "say" then some 2 else if z = "hear" then some 3 else if z = "new" then some 3 else if z = "again" then some 2 else none
def isTup : Th → Bool
  | .tup _ => true
  | _ => false
def itemsT : Th → List Th
  | .tup xs => xs
  | _ => []
def formB : Th → Bool
  | .tup (.str z :: r) => decide (szOf z = some (r.length + 1))
  | _ => false
def nmT : Th → Bool
  | .str z => nameB z
  | _ => false
def npB : Th → Bool
  | .tup (.str z :: x :: r) => decide (szOf z = some (r.length + 2)) && (decide (z = "again") || nmT x)
  | _ => false
def restT : Th → Th
  | .tup (.str z :: r) => if z = "say" then .tup [] else (r.getLast?).getD .non
  | _ => .non
theorem sz_cases {z : Str} {n : Nat} (h : szOf z = some n) : (z = "say" ∧ n = 2) ∨ (z = "again" ∧ n = 2) ∨ ∃ w : Wd, z = w.str ∧ n = 3 := by
  unfold szOf at h
  by_cases c1 : z = "room"
  · rw [if_pos c1] at h; exact .inr (.inr ⟨.room, c1, (Option.some.inj h).symm⟩)
  rw [if_neg c1] at h
  by_cases c2 : z = "in"
  · rw [if_pos c2] at h; exact .inr (.inr ⟨.inn, c2, (Option.some.inj h).symm⟩)
  rw [if_neg c2] at h
  by_cases c3 : z = "out"
  · rw [if_pos c3] at h; exact .inr (.inr ⟨.out, c3, (Option.some.inj h).symm⟩)
  rw [if_neg c3] at h
  by_cases c4 : z = "open"
  · rw [if_pos c4] at h; exact .inr (.inr ⟨.opn, c4, (Option.some.inj h).symm⟩)
  rw [if_neg c4] at h
  by_cases c5 : z = "say"
  · rw [if_pos c5] at h; exact .inl ⟨c5, (Option.some.inj h).symm⟩
  rw [if_neg c5] at h
  by_cases c6 : z = "hear"
  · rw [if_pos c6] at h; exact .inr (.inr ⟨.hear, c6, (Option.some.inj h).symm⟩)
  rw [if_neg c6] at h
  by_cases c7 : z = "new"
  · rw [if_pos c7] at h; exact .inr (.inr ⟨.new, c7, (Option.some.inj h).symm⟩)
  rw [if_neg c7] at h
  by_cases c8 : z = "again"
  · rw [if_pos c8] at h; exact .inr (.inl ⟨c8, (Option.some.inj h).symm⟩)
  rw [if_neg c8] at h
  cases h
theorem wd_ne_again (w : Wd) : w.str ≠ "again" := by cases w <;> decide +kernel
theorem wd_ne_say (w : Wd) : w.str ≠ "say" := by cases w <;> decide +kernel
/-- a thing that is a part but for its rest -/
theorem np_cases {t : Th} (h : npB t = true) : (∃ n, t = .tup [.str "say", .str n] ∧ nameB n = true) ∨ (∃ x, t = .tup [.str "again", x]) ∨ ∃ (w : Wd) (n : Str) (x : Th), t = .tup [.str w.str, .str n, x] ∧ nameB n = true := by
  match t, h with
  | .tup (.str z :: x :: r), h =>
    obtain ⟨h1, h2⟩ := Bool.and_eq_true_iff.mp (show (decide (szOf z = some (r.length + 2)) && (decide (z = "again") || nmT x)) = true from h)
    have h1 := of_decide_eq_true h1
    have nm : z ≠ "again" → ∃ n, x = .str n ∧ nameB n = true := fun ne => by
      rw [decide_eq_false ne, Bool.false_or] at h2
      cases x with
      | str n => exact ⟨n, rfl, h2⟩
      | _ => cases h2
    rcases sz_cases h1 with ⟨e, l⟩ | ⟨e, l⟩ | ⟨w, e, l⟩
    · have lr : r = [] := List.length_eq_zero_iff.mp (by omega)
      obtain ⟨n, e2, hn⟩ := nm (by rw [e]; decide +kernel)
      subst e lr e2
      exact .inl ⟨n, rfl, hn⟩
    · have lr : r = [] := List.length_eq_zero_iff.mp (by omega)
      subst e lr
      exact .inr (.inl ⟨x, rfl⟩)
    · obtain ⟨y, rfl⟩ := List.length_eq_one_iff.mp (show r.length = 1 by omega)
      obtain ⟨n, e2, hn⟩ := nm (by rw [e]; exact wd_ne_again w)
      subst e e2
      exact .inr (.inr ⟨w, n, y, rfl, hn⟩)
theorem np_part {p : Part} (h : okP NmOk p) : npB (thP p) = true := by
  cases p with
  | say n =>
    have h1 : nameB n = true := h.1
    show (decide (szOf "say" = some 2) && (decide (("say" : Str) = "again") || nameB n)) = true
    rw [h1]
    decide +kernel
  | again r =>
    show (decide (szOf "again" = some 2) && (decide (("again" : Str) = "again") || nmT (Th.tup (thR r)))) = true
    rw [decide_eq_true (rfl : ("again" : Str) = "again"), Bool.true_or]
    decide +kernel
  | oth w n r =>
    have h1 : nameB n = true := h.1.1
    show (decide (szOf w.str = some 3) && (decide (w.str = "again") || nameB n)) = true
    rw [h1, Bool.or_true, Bool.and_true]
    cases w <;> decide +kernel
theorem rest_part (p : Part) : restT (thP p) = thRow (restP p) := by
  cases p with
  | say n => rfl
  | again r =>
    show (if ("again" : Str) = "say" then Th.tup [] else _) = _
    rw [if_neg (by decide +kernel)]
    rfl
  | oth w n r =>
    show (if w.str = "say" then Th.tup [] else _) = _
    rw [if_neg (wd_ne_say w)]
    rfl
/-! ### small rows -/
def smallT : Nat → Nat → List Th → Bool
  | 0, _, _ => false
  | n + 1, m, ts => if ts.all isTup = true then (if m + (ts.map itemsT).flatten.length ≤ 400 then (if (ts.map itemsT).flatten = [] then true else if (ts.map itemsT).flatten.all npB = true then smallT n (m + (ts.map itemsT).flatten.length) ((ts.map itemsT).flatten.map restT) else false) else false) else false
theorem flat_rows (ls : List (List Part)) : ((ls.map thRow).map itemsT).flatten = (flL ls).map thP := by
  induction ls with
  | nil => rfl
  | cons r ls ih =>
    show itemsT (thRow r) ++ ((ls.map thRow).map itemsT).flatten = (r ++ flL ls).map thP
    rw [ih, List.map_append]
    show thR r ++ _ = _
    rw [thR_map]
theorem all_tup (ls : List (List Part)) : (ls.map thRow).all isTup = true := by
  rw [List.all_map]
  exact List.all_eq_true.mpr fun _ _ => rfl
theorem rests_rows (ls : List (List Part)) : ((flL ls).map thP).map restT = (nxL ls).map thRow := by
  unfold nxL
  rw [List.map_map, List.map_map]
  exact List.map_congr_left fun p _ => rest_part p
/-- rows of parts are small where they are not too large -/
theorem small_of : ∀ (n m : Nat) (ls : List (List Part)), okLs NmOk ls → m + sizeL ls ≤ 400 → deepL ls < n → smallT n m (ls.map thRow) = true
  | 0, m, ls, _, _, h => absurd h (Nat.not_lt_zero _)
  | n + 1, m, ls, hok, hs, hd => by
    have sz := sizeL_rests ls
    have dl := deepL_rests ls
    unfold smallT
    rw [if_pos (all_tup ls), flat_rows, List.length_map, if_pos (by omega)]
    by_cases e : (flL ls).map thP = []
    · rw [if_pos e]
    · rw [if_neg e]
      have e2 : flL ls ≠ [] := fun z => e (by rw [z]; rfl)
      have dp := deepL_pos ls e2
      rw [if_pos (by
        rw [List.all_map]
        exact List.all_eq_true.mpr fun p hp => np_part (hok.parts p hp)), rests_rows]
      exact small_of n _ (nxL ls) hok.next (by omega) (by omega)
theorem tups_of : ∀ ts : List Th, ts.all isTup = true → ∃ xs : List (List Th), ts = xs.map Th.tup
  | [], _ => ⟨[], rfl⟩
  | t :: ts, h => by
    obtain ⟨h1, h2⟩ := Bool.and_eq_true_iff.mp (show (isTup t && ts.all isTup) = true from h)
    obtain ⟨xs, e⟩ := tups_of ts h2
    cases t with
    | tup ys => exact ⟨ys :: xs, by rw [e]; rfl⟩
    | _ => cases h1
/-- parts whose rests are rows -/
theorem parts_of : ∀ (ts : List Th) (ls : List (List Part)), ts.all npB = true → (∀ t ∈ ts, ∀ (z : Str) (r : List Th), t = Th.tup r → Th.str z ∈ r → z.length ≤ 1000) → ts.map restT = ls.map thRow → (∀ r ∈ ls, okR NmOk r) → ∃ ps : List Part, ts = ps.map thP ∧ ps.map restP = ls ∧ ∀ p ∈ ps, okP NmOk p
  | [], ls, _, _, e, _ => ⟨[], rfl, (by
      cases ls with
      | nil => rfl
      | cons a l => cases e), fun _ h => nomatch h⟩
  | t :: ts, [], _, _, e, _ => by cases e
  | t :: ts, l :: ls, h, hz, e, hok => by
    obtain ⟨h1, h2⟩ := Bool.and_eq_true_iff.mp (show (npB t && ts.all npB) = true from h)
    have e' : restT t :: ts.map restT = thRow l :: ls.map thRow := e
    obtain ⟨e1, e2⟩ := List.cons.inj e'
    obtain ⟨ps, p1, p2, p3⟩ := parts_of ts ls h2 (fun t ht => hz t (List.mem_cons_of_mem _ ht)) e2 (fun r hr => hok r (List.mem_cons_of_mem _ hr))
    have okl := hok l List.mem_cons_self
    obtain ⟨p, q1, q2, q3⟩ : ∃ p : Part, t = thP p ∧ restP p = l ∧ okP NmOk p := by
      rcases np_cases h1 with ⟨n, rfl, hn⟩ | ⟨y, rfl⟩ | ⟨w, n, y, rfl, hn⟩
      · have el : l = [] := by
          have q : Th.tup [] = thRow l := e1
          cases l with
          | nil => rfl
          | cons a b => cases (Th.tup.inj q)
        exact ⟨.say n, rfl, el.symm, hn, hz _ List.mem_cons_self n _ rfl (List.mem_cons_of_mem _ List.mem_cons_self)⟩
      · have q : restT (Th.tup [.str "again", y]) = y := by
          show (if ("again" : Str) = "say" then Th.tup [] else _) = _
          rw [if_neg (by decide +kernel)]
          rfl
        rw [q] at e1
        exact ⟨.again l, by rw [e1]; rfl, rfl, okl⟩
      · have q : restT (Th.tup [.str w.str, .str n, y]) = y := by
          show (if w.str = "say" then Th.tup [] else _) = _
          rw [if_neg (wd_ne_say w)]
          rfl
        rw [q] at e1
        exact ⟨.oth w n l, by rw [e1]; rfl, rfl, ⟨hn, hz _ List.mem_cons_self n _ rfl (List.mem_cons_of_mem _ List.mem_cons_self)⟩, okl⟩
    exact ⟨p :: ps, by rw [q1, p1]; rfl, by rw [List.map_cons, q2, p2], fun r hr => by
      rcases List.mem_cons.mp hr with z | z
      · rw [z]; exact q3
      · exact p3 r z⟩
/-! texts and rows within are not too long -/
mutual
def okT : Th → Prop
  | .str z => z.length ≤ 1000
  | .lst xs => xs.length ≤ 1000 ∧ okTs xs
  | .tup xs => xs.length ≤ 1000 ∧ okTs xs
  | _ => True
def okTs : List Th → Prop
  | [] => True
  | t :: ts => okT t ∧ okTs ts
end
theorem okTs.mem : ∀ {ts : List Th}, okTs ts → ∀ t ∈ ts, okT t
  | [], _, t, h => nomatch h
  | q :: ts, g, t, h => by
    rcases List.mem_cons.mp h with e | e
    · rw [e]; exact g.1
    · exact okTs.mem g.2 t e
theorem okTs.of : ∀ {ts : List Th}, (∀ t ∈ ts, okT t) → okTs ts
  | [], _ => trivial
  | q :: ts, h => ⟨h q List.mem_cons_self, okTs.of fun t ht => h t (List.mem_cons_of_mem _ ht)⟩
theorem okT.items {t : Th} (h : okT t) : (itemsT t).length ≤ 1000 ∧ ∀ q ∈ itemsT t, okT q := by
  cases t with
  | tup xs => exact ⟨h.1, h.2.mem⟩
  | _ => exact ⟨Nat.zero_le _, fun q hq => nomatch hq⟩
theorem okT.rest {t : Th} (h : okT t) : okT (restT t) := by
  match t, h with
  | .tup (.str z :: r), h =>
    show okT (if z = "say" then Th.tup [] else (r.getLast?).getD .non)
    by_cases c : z = "say"
    · rw [if_pos c]; exact ⟨Nat.zero_le _, trivial⟩
    · rw [if_neg c]
      cases e : r.getLast? with
      | none => trivial
      | some x => exact h.2.2.mem x (List.mem_of_getLast? e)
  | .tup [], h => trivial
  | .tup (.non :: r), h => trivial
  | .tup (.int _ :: r), h => trivial
  | .tup (.bl _ :: r), h => trivial
  | .tup (.lst _ :: r), h => trivial
  | .tup (.tup _ :: r), h => trivial
  | .tup (.dct :: r), h => trivial
  | .str _, h => trivial
  | .non, h => trivial
  | .int _, h => trivial
  | .bl _, h => trivial
  | .lst _, h => trivial
  | .dct, h => trivial
theorem split_flat : ∀ (xs : List (List Th)) (ps : List Part), xs.flatten = ps.map thP → ∃ ls : List (List Part), xs = ls.map (List.map thP) ∧ flL ls = ps
  | [], ps, e => ⟨[], rfl, by
      cases ps with
      | nil => rfl
      | cons a b => cases e⟩
  | x :: xs, ps, e => by
    have e' : ps.map thP = x ++ xs.flatten := e.symm
    obtain ⟨a, b, e1, e2, e3⟩ := List.map_eq_append_iff.mp e'
    obtain ⟨ls, l1, l2⟩ := split_flat xs b e3.symm
    exact ⟨a :: ls, by rw [List.map_cons, e2, l1], by rw [flL_cons, l2, e1]⟩
theorem deepR_up : ∀ r : List Part, deepR r ≤ deepL (r.map restP) + 1
  | [] => Nat.zero_le _
  | p :: r => by
    have h := deepR_up r
    have d := deep_rest p
    show max (deepP p) (deepR r) ≤ max (deepR (restP p)) (deepL (r.map restP)) + 1
    omega
theorem deepL_up : ∀ ls : List (List Part), deepL ls ≤ deepL (nxL ls) + 1
  | [] => Nat.zero_le _
  | r :: ls => by
    have h := deepL_up ls
    have h2 := deepR_up r
    show max (deepR r) (deepL ls) ≤ deepL ((r ++ flL ls).map restP) + 1
    rw [List.map_append, deepL_app]
    have e : deepL (nxL ls) = deepL ((flL ls).map restP) := rfl
    omega
/-- what is small is rows of parts -/
theorem rows_of : ∀ (n m : Nat) (ts : List Th), (∀ t ∈ ts, okT t) → smallT n m ts = true → ∃ ls : List (List Part), ts = ls.map thRow ∧ okLs NmOk ls ∧ m + sizeL ls ≤ 400 ∧ deepL ls < n
  | 0, m, ts, _, h => by cases h
  | n + 1, m, ts, ok, h => by
    unfold smallT at h
    by_cases c1 : ts.all isTup = true
    · rw [if_pos c1] at h
      obtain ⟨xs, rfl⟩ := tups_of ts c1
      have ei : ((xs.map Th.tup).map itemsT).flatten = xs.flatten := by
        rw [List.map_map, show itemsT ∘ Th.tup = id from rfl, List.map_id]
      rw [ei] at h
      by_cases c2 : m + xs.flatten.length ≤ 400
      · rw [if_pos c2] at h
        by_cases c3 : xs.flatten = []
        · have all0 : ∀ x ∈ xs, x = [] := List.flatten_eq_nil_iff.mp c3
          refine ⟨xs.map fun _ => [], ?_, fun r hr => ?_, ?_, ?_⟩
          · rw [List.map_map]
            exact List.map_congr_left fun x hx => by rw [all0 x hx]; rfl
          · obtain ⟨_, _, rfl⟩ := List.mem_map.mp hr
            trivial
          · have z : ∀ ys : List (List Th), sizeL (ys.map fun _ => ([] : List Part)) = 0 := by
              intro ys
              induction ys with
              | nil => rfl
              | cons y ys ih => show 0 + sizeL (ys.map fun _ => ([] : List Part)) = 0; omega
            rw [z]; omega
          · have z : ∀ ys : List (List Th), deepL (ys.map fun _ => ([] : List Part)) = 0 := by
              intro ys
              induction ys with
              | nil => rfl
              | cons y ys ih => show max 0 (deepL (ys.map fun _ => ([] : List Part))) = 0; omega
            rw [z]; omega
        · rw [if_neg c3] at h
          by_cases c4 : xs.flatten.all npB = true
          · rw [if_pos c4] at h
            have okp : ∀ t ∈ xs.flatten, okT t := fun t ht => by
              obtain ⟨x, hx, hx2⟩ := List.mem_flatten.mp ht
              exact (ok (.tup x) (List.mem_map.mpr ⟨x, hx, rfl⟩)).2.mem t hx2
            obtain ⟨ls', e', hok', hs', hd'⟩ := rows_of n _ _ (fun t ht => by
              obtain ⟨q, hq, rfl⟩ := List.mem_map.mp ht
              exact (okp q hq).rest) h
            obtain ⟨ps, p1, p2, p3⟩ := parts_of xs.flatten ls' c4 (fun t ht z r er hz => by
              have o := okp t ht
              rw [er] at o
              exact o.2.mem _ hz) e' hok'
            obtain ⟨ls, l1, l2⟩ := split_flat xs ps p1
            have enx : nxL ls = ls' := by unfold nxL; rw [l2, p2]
            have sz := sizeL_rests ls
            have du := deepL_up ls
            rw [enx] at sz du
            have el : (flL ls).length = xs.flatten.length := by rw [l2, p1, List.length_map]
            refine ⟨ls, ?_, fun r hr => ?_, by omega, by omega⟩
            · rw [l1, List.map_map]
              exact List.map_congr_left fun r _ => by
                show Th.tup (r.map thP) = Th.tup (thR r)
                rw [thR_map]
            · have sub : ∀ p ∈ r, p ∈ ps := fun p hp => by
                rw [← l2]
                exact List.mem_flatten.mpr ⟨r, hr, hp⟩
              have mk : ∀ q : List Part, (∀ p ∈ q, okP NmOk p) → okR NmOk q := by
                intro q
                induction q with
                | nil => intro _; trivial
                | cons p q ih => intro hh; exact ⟨hh p List.mem_cons_self, ih fun y hy => hh y (List.mem_cons_of_mem _ hy)⟩
              exact mk r fun p hp => p3 p (sub p hp)
          · rw [if_neg c4] at h; cases h
      · rw [if_neg c2] at h; cases h
    · rw [if_neg c1] at h; cases h
/-- a thing is a small row -/
theorem small_iff {t : Th} (ok : okT t) : smallT 25 0 [t] = true ↔ ∃ r : List Part, t = thRow r ∧ okR NmOk r ∧ sizeR r ≤ 400 ∧ deepR r ≤ 24 := by
  constructor
  · intro h
    obtain ⟨ls, e, hok, hs, hd⟩ := rows_of 25 0 [t] (fun q hq => by rw [List.mem_singleton.mp hq]; exact ok) h
    match ls, e, hok, hs, hd with
    | [r], e, hok, hs, hd =>
      have hs' : 0 + (sizeR r + 0) ≤ 400 := hs
      have hd' : max (deepR r) 0 < 25 := hd
      exact ⟨r, (List.cons.inj e).1, hok r List.mem_cons_self, by omega, by omega⟩
    | [], e, _, _, _ => cases e
    | _ :: _ :: _, e, _, _, _ => cases (List.cons.inj e).2
  · rintro ⟨r, rfl, hok, hs, hd⟩
    exact small_of 25 0 [r] (fun q hq => by rw [List.mem_singleton.mp hq]; exact hok) (by show 0 + (sizeR r + 0) ≤ 400; omega) (by show max (deepR r) 0 < 25; omega)
end Wk

set_option Elab.async false
set_option linter.all false
set_option maxRecDepth 100000
set_option maxHeartbeats 4000000
/-! Things of any kind: their types, promises. -/
namespace Wk
open PySem PySem.Spec PyProof.Rows L2 GxR
def isStrT : Th → Bool
  | .str _ => true
  | _ => false
theorem ThAt.tyT {K : PySem.W.Frag} {H : Hp} {t : Th} {v : V} (h : ThAt H t v) : ∃ ty : String, TyX K H v (.type ty) ∧ PySem.W.kitOne K (.type ty) (.type "tuple") = some (isTup t) ∧ PySem.W.kitOne K (.type ty) (.type "str") = some (isStrT t) := by
  cases t with
  | str z => cases h; exact ⟨_, .base (.str z), kit_ty (show kitB "str" "tuple" = some false by decide +kernel), kit_ty (show kitB "str" "str" = some true by decide +kernel)⟩
  | non => cases h; exact ⟨_, .base .non, kit_ty (show kitB "NoneType" "tuple" = some false by decide +kernel), kit_ty (show kitB "NoneType" "str" = some false by decide +kernel)⟩
  | int i => cases h; exact ⟨_, .base (.int i), kit_ty (show kitB "int" "tuple" = some false by decide +kernel), kit_ty (show kitB "int" "str" = some false by decide +kernel)⟩
  | bl b => cases h; exact ⟨_, .base (.bl b), kit_ty (show kitB "bool" "tuple" = some false by decide +kernel), kit_ty (show kitB "bool" "str" = some false by decide +kernel)⟩
  | lst xs =>
    obtain ⟨a, vs, rfl, e, _⟩ := h
    exact ⟨_, .base (.lst e), kit_ty (show kitB "list" "tuple" = some false by decide +kernel), kit_ty (show kitB "list" "str" = some false by decide +kernel)⟩
  | tup xs =>
    obtain ⟨a, vs, rfl, e, _⟩ := h
    exact ⟨_, .base (.tup e), kit_ty (show kitB "tuple" "tuple" = some true by decide +kernel), kit_ty (show kitB "tuple" "str" = some false by decide +kernel)⟩
  | dct =>
    obtain ⟨a, rfl, e⟩ := h
    exact ⟨_, .base (.dK e), kit_ty (show kitB "dict" "tuple" = some false by decide +kernel), kit_ty (show kitB "dict" "str" = some false by decide +kernel)⟩
theorem ThAt.thing {H : Hp} {t : Th} {v : V} (h : ThAt H t v) (ok : okT t) : Thing H v ∧ nmV v = nmT t := by
  cases t with
  | str z => cases h; exact ⟨.str z ok, rfl⟩
  | non => cases h; exact ⟨.non, rfl⟩
  | int i => cases h; exact ⟨.int i, rfl⟩
  | bl b => cases h; exact ⟨.bl b, rfl⟩
  | lst xs =>
    obtain ⟨a, vs, rfl, e, _⟩ := h
    exact ⟨.lst e, rfl⟩
  | tup xs =>
    obtain ⟨a, vs, rfl, e, _⟩ := h
    exact ⟨.tup e, rfl⟩
  | dct =>
    obtain ⟨a, rfl, e⟩ := h
    exact ⟨.dct e, rfl⟩
def szV (z : Str) : V := match szOf z with
  | some n => .int (n : Nat)
  | none => .non
def SizesG (K : PySem.W.Frag) (w : World) (d : Addr) : Prop := KGot K w d ∧ ∀ z : Str, ∃ (r : Option Value), PySem.W.nsIn K d z = some r ∧ RelV (szV z) (r.getD .none)
theorem szV_eq (z : Str) (n : Nat) : decide (szV z = V.int (n : Nat)) = decide (szOf z = some n) := by
  unfold szV
  cases e : szOf z with
  | none =>
    rw [decide_eq_false (by intro h; cases h), decide_eq_false (by intro h; cases h)]
  | some k =>
    by_cases c : k = n
    · rw [c, decide_eq_true rfl, decide_eq_true rfl]
    · rw [decide_eq_false (by intro h; exact c (by have := V.int.inj h; omega)), decide_eq_false (by intro h; exact c (Option.some.inj h))]
theorem szV_scal (z : Str) (n : Int) : scal (szV z) (.int n) = true := by
  unfold szV
  cases szOf z <;> rfl
theorem np_form {t : Th} (h : npB t = true) : formB t = true := by
  match t, h with
  | .tup (.str z :: x :: r), h => exact (Bool.and_eq_true_iff.mp h).1
theorem form_cases {t : Th} (h : formB t = true) : ∃ z x r, t = .tup (.str z :: x :: r) ∧ szOf z = some (r.length + 2) := by
  match t, h with
  | .tup (.str z :: []), h =>
    have h1 : szOf z = some 1 := of_decide_eq_true h
    rcases sz_cases h1 with ⟨_, l⟩ | ⟨_, l⟩ | ⟨_, _, l⟩ <;> omega
  | .tup (.str z :: x :: r), h => exact ⟨z, x, r, rfl, of_decide_eq_true h⟩
def spFormG : Sp := fun vs H Q _ => ∃ (v : V) (t : Th), vs = [v] ∧ ThAt H t v ∧ Q (.bl (formB t)) H
def spCallingG : Sp := fun vs H Q _ => ∃ (v : V) (z : Str) (x : Th) (r : List Th), vs = [v] ∧ ThAt H (.tup (.str z :: x :: r)) v ∧ ((z = "again" → Q .non H) ∧ (z ≠ "again" → ∀ u, ThAt H x u → Q u H))
/-- a thing of G, or a row without parts -/
def ThOr (G H : Hp) (t : Th) (v : V) : Prop := ThAt G t v ∨ (t = .tup [] ∧ ∃ a, v = .ref a ∧ H a = some (.tup []))
def OrsAt (G H : Hp) : List Th → List V → Prop
  | [], vs => vs = []
  | t :: ts, vs => ∃ v us, vs = v :: us ∧ ThOr G H t v ∧ OrsAt G H ts us
theorem OrsAt.mono {G H H' : Hp} (s : STup H H') : ∀ {ts : List Th} {vs : List V}, OrsAt G H ts vs → OrsAt G H' ts vs
  | [], _, h => h
  | t :: ts, _, h => by
    obtain ⟨v, us, e, h1, h2⟩ := h
    refine ⟨v, us, e, ?_, OrsAt.mono s h2⟩
    rcases h1 with h1 | ⟨e1, a, e2, h3⟩
    · exact .inl h1
    · exact .inr ⟨e1, a, e2, s _ _ h3⟩
theorem OrsAt.len {G H : Hp} : ∀ {ts : List Th} {vs : List V}, OrsAt G H ts vs → vs.length = ts.length
  | [], vs, h => by rw [show vs = [] from h]; rfl
  | t :: ts, vs, h => by
    obtain ⟨v, us, e, _, h2⟩ := h
    rw [e, List.length_cons, List.length_cons, OrsAt.len h2]
theorem OrsAt.snoc {G H : Hp} {q : Th} {u : V} (g : ThOr G H q u) : ∀ {ts : List Th} {vs : List V}, OrsAt G H ts vs → OrsAt G H (ts ++ [q]) (vs ++ [u])
  | [], vs, h => by rw [show vs = [] from h]; exact ⟨u, [], rfl, g, rfl⟩
  | t :: ts, vs, h => by
    obtain ⟨v, ws, rfl, h1, h2⟩ := h
    exact ⟨v, ws ++ [u], rfl, h1, OrsAt.snoc g h2⟩
theorem OrsAt.all {G H : Hp} (s : Kpt G H) : ∀ {ts : List Th} {vs : List V}, OrsAt G H ts vs → ThsAt H ts vs
  | [], _, h => h
  | t :: ts, _, h => by
    obtain ⟨v, us, e, h1, h2⟩ := h
    refine ⟨v, us, e, ?_, OrsAt.all s h2⟩
    rcases h1 with h1 | ⟨rfl, a, e2, h3⟩
    · exact ThAt.mono s t v h1
    · exact ⟨a, [], e2, h3, rfl⟩
def spRestG : Sp := fun vs H Q _ => ∃ (v : V) (t : Th) (G : Hp), vs = [v] ∧ ThAt G t v ∧ Kpt G H ∧ npB t = true ∧ ∀ (H' : Hp) (u : V), Same H H' → ThOr G H' (restT t) u → Q u H'
def spNPartG (Ts : List Addr) : Sp := fun vs H Q _ => ∃ (v : V) (t : Th), vs = [v] ∧ ThAt H t v ∧ okT t ∧ TabsG Ts H ∧ ∀ H', SamTs Ts H H' → Q (.bl (npB t)) H'
def spSmallG (Ts : List Addr) : Sp := fun vs H Q _ => ∃ (v : V) (t : Th), vs = [v] ∧ ThAt H t v ∧ okT t ∧ TabsG Ts H ∧ ∀ H', SamTs Ts H H' → Q (.bl (smallT 25 0 [t])) H'
def spHouseG (Ts : List Addr) : Sp := fun vs H Q _ => ∃ (v : V) (t : Th), vs = [v] ∧ ThAt H t v ∧ okT t ∧ TabsG Ts H ∧ ∀ (H' : Hp) (b : Bool), SamTs Ts H H' → (b = true ↔ ∃ r, t = thRow r ∧ HouseR r) → Q (.bl b) H'
theorem lens_sum : ∀ (ts : List Th) (i : Nat), i ≤ ts.length → preSum (fun j => ((ts[j]?).elim (0 : Int) fun t => ((itemsT t).length : Nat))) i = ((((ts.take i).map itemsT).flatten).length : Nat)
  | ts, 0, _ => by simp [preSum]
  | ts, i + 1, h => by
    have hi : i < ts.length := h
    rw [preSum, lens_sum ts i (Nat.le_of_lt hi), List.take_add_one, List.getElem?_eq_getElem hi, List.map_append, List.flatten_append, List.length_append]
    simp
theorem flat_le {ts : List Th} (ok : ∀ t ∈ ts, okT t) : ∀ i, (((ts.take i).map itemsT).flatten).length ≤ 1000 * i
  | 0 => by simp
  | i + 1 => by
    have h := flat_le ok i
    rw [List.take_add_one, List.map_append, List.flatten_append, List.length_append]
    cases e : ts[i]? with
    | none =>
      show (((ts.take i).map itemsT).flatten).length + 0 ≤ 1000 * (i + 1)
      omega
    | some t =>
      have o := (ok t (List.mem_of_getElem? e)).items.1
      show (((ts.take i).map itemsT).flatten).length + (itemsT t ++ []).length ≤ 1000 * (i + 1)
      rw [List.append_nil]
      omega
end Wk
namespace Wk
open PySem PySem.Spec PyProof.Rows L2 GxR
theorem wd_inj {w w' : Wd} (h : w.str = w'.str) : w = w' := by
  cases w <;> cases w' <;> first | rfl | exact absurd h (by decide +kernel)
mutual
theorem thP_inj : ∀ (p q : Part), thP p = thP q → p = q
  | .say n, .say m, h => by
    have := Th.tup.inj h
    have h1 := (List.cons.inj (List.cons.inj this).2).1
    rw [Th.str.inj h1]
  | .again r, .again t, h => by
    have := Th.tup.inj h
    have h1 := (List.cons.inj (List.cons.inj this).2).1
    rw [thR_inj r t (Th.tup.inj h1)]
  | .oth w n r, .oth w' m t, h => by
    have := Th.tup.inj h
    have h0 := (List.cons.inj this).1
    have h1 := (List.cons.inj (List.cons.inj this).2).1
    have h2 := (List.cons.inj (List.cons.inj (List.cons.inj this).2).2).1
    rw [wd_inj (Th.str.inj h0), Th.str.inj h1, thR_inj r t (Th.tup.inj h2)]
  | .say n, .again t, h => by
    have h0 := Th.str.inj (List.cons.inj (Th.tup.inj h)).1
    exact absurd h0 (by decide +kernel)
  | .again r, .say m, h => by
    have h0 := Th.str.inj (List.cons.inj (Th.tup.inj h)).1
    exact absurd h0 (by decide +kernel)
  | .say n, .oth w m t, h => by
    have h0 := Th.str.inj (List.cons.inj (Th.tup.inj h)).1
    exact absurd h0.symm (wd_ne_say w)
  | .oth w n r, .say m, h => by
    have h0 := Th.str.inj (List.cons.inj (Th.tup.inj h)).1
    exact absurd h0 (wd_ne_say w)
  | .again r, .oth w m t, h => by
    have h0 := Th.str.inj (List.cons.inj (Th.tup.inj h)).1
    exact absurd h0.symm (wd_ne_again w)
  | .oth w n r, .again t, h => by
    have h0 := Th.str.inj (List.cons.inj (Th.tup.inj h)).1
    exact absurd h0 (wd_ne_again w)
theorem thR_inj : ∀ (r q : List Part), thR r = thR q → r = q
  | [], [], _ => rfl
  | p :: r, q :: t, h => by
    have h' : thP p :: thR r = thP q :: thR t := h
    rw [thP_inj p q (List.cons.inj h').1, thR_inj r t (List.cons.inj h').2]
  | [], q :: t, h => by cases h
  | p :: r, [], h => by cases h
end
theorem thRow_inj {r q : List Part} (h : thRow r = thRow q) : r = q := thR_inj r q (Th.tup.inj h)
/-- as many as the unlike ones: each once -/
theorem nodup_of_len : ∀ {l D : List Str}, D.Nodup → (∀ x ∈ l, x ∈ D) → D.length = l.length → (∀ x ∈ D, x ∈ l) → l.Nodup
  | l, D, nd, sub, len, sup => by
    by_cases h : l.Nodup
    · exact h
    · exfalso
      -- some text stands twice
      have key : ∀ m : List Str, ¬ m.Nodup → ∃ a x b, m = a ++ x :: b ∧ x ∈ a ++ b := by
        intro m
        induction m with
        | nil => intro h; exact absurd List.nodup_nil h
        | cons y m ih =>
          intro h
          by_cases c : y ∈ m
          · exact ⟨[], y, m, rfl, c⟩
          · have h2 : ¬ m.Nodup := fun z => h (List.nodup_cons.mpr ⟨c, z⟩)
            obtain ⟨a, x, b, e, hx⟩ := ih h2
            exact ⟨y :: a, x, b, by rw [e]; rfl, List.mem_cons_of_mem _ hx⟩
      obtain ⟨a, x, b, e, hx⟩ := key l h
      have hsub : ∀ z ∈ D, z ∈ a ++ b := fun z hz => by
        have := sup z hz
        rw [e] at this
        rcases List.mem_append.mp this with g | g
        · exact List.mem_append_left _ g
        · rcases List.mem_cons.mp g with g | g
          · rw [g]; exact hx
          · exact List.mem_append_right _ g
      have := sub_len D (a ++ b) nd hsub
      rw [e, List.length_append, List.length_cons] at len
      rw [List.length_append] at this
      omega
end Wk

set_option Elab.async false
set_option linter.all false
set_option maxRecDepth 100000
set_option maxHeartbeats 4000000
/-! All parts of a row within bounds; what binds well: promises. -/
namespace Wk
open PySem PySem.Spec PyProof.Rows L2 GxR
def wordT : Th → Bool
  | .tup (.str _ :: _) => true
  | _ => false
def spBegins : Sp := fun vs H Q _ => ∃ (v : V) (t : Th), vs = [v] ∧ ThAt H t v ∧ Q (.bl (wordT t)) H
theorem form_word {t : Th} (h : wordT t = false) : formB t = false := by
  cases t with
  | tup xs =>
    cases xs with
    | nil => rfl
    | cons x r => cases x <;> first | rfl | cases h
  | _ => rfl
theorem word_cases {t : Th} (h : wordT t = true) : ∃ z r, t = .tup (.str z :: r) := by
  match t, h with
  | .tup (.str z :: r), _ => exact ⟨z, r, rfl⟩
theorem OrsAt.get {G H : Hp} : ∀ {ts : List Th} {vs : List V}, OrsAt G H ts vs → ∀ {i : Nat} {v : V}, vs[i]? = some v → ∃ t, ts[i]? = some t ∧ ThOr G H t v
  | [], vs, h, i, v, e => by
    rw [show vs = [] from h] at e
    cases e
  | t :: ts, vs, h, i, v, e => by
    obtain ⟨u, us, rfl, h1, h2⟩ := h
    cases i with
    | zero =>
      cases e
      exact ⟨t, rfl, h1⟩
    | succ i => exact OrsAt.get h2 e
theorem ThOr.tup {G H : Hp} {ys : List Th} {v : V} (s : Kpt G H) (h : ThOr G H (.tup ys) v) : ∃ a xs, v = .ref a ∧ H a = some (.tup xs) ∧ ThsAt G ys xs := by
  rcases h with h | ⟨e, a, rfl, h⟩
  · obtain ⟨a, xs, rfl, ha, hx⟩ := h
    exact ⟨a, xs, rfl, s _ _ (fun _ z => by cases z) ha, hx⟩
  · cases e
    exact ⟨a, [], rfl, h, rfl⟩
/-- the parts within the bounds of a house, or none -/
def spPartsG (Ts : List Addr) (fN fR : Addr) : Sp := fun vs H Q _ => ∃ (v : V) (t : Th), vs = [v, .int 400, .int 24, .ref fN, .ref fR] ∧ ThAt H t v ∧ okT t ∧ TabsG Ts H ∧
  (smallT 25 0 [t] = false → ∀ H', SamTs Ts H H' → Q .non H') ∧ (smallT 25 0 [t] = true → ∀ (H' : Hp) (a : Addr), SamTs Ts H H' → Q (.ref a) H')
/-- what is bound, and what is free -/
def spBinds (Ts : List Addr) : Sp := fun vs H Q _ => ∃ (Fl Bl : Addr) (fs bs : List Str), vs = [.ref Fl, .ref Bl] ∧ H Fl = some (.lst (fs.map V.str)) ∧ H Bl = some (.lst (bs.map V.str)) ∧ fs.length ≤ 1000 ∧ bs.length ≤ 1000 ∧ TabsG Ts H ∧
  ∀ (H' : Hp) (b : Bool), SamTs Ts H H' → (b = true ↔ bs.Nodup ∧ ∀ x ∈ bs, x ∉ fs) → Q (.bl b) H'
theorem thR_len (r : List Part) : (thR r).length = r.length := by rw [thR_map, List.length_map]
theorem wd_len (w : Wd) : w.str.length ≤ 1000 := by cases w <;> decide +kernel
theorem sizeP_pos (p : Part) : 1 ≤ sizeP p := by
  cases p <;> (show 1 ≤ _; unfold sizeP; omega)
mutual
theorem okT_P : ∀ p : Part, okP NmOk p → sizeP p ≤ 1000 → okT (thP p)
  | .say n, h, hs => by
    have h : NmOk n := h
    exact ⟨(show 2 ≤ 1000 by decide), (show ("say" : Str).length ≤ 1000 by decide +kernel), h.2, trivial⟩
  | .again r, h, hs => by
    have h : okR NmOk r := h
    have hs : sizeP (.again r) ≤ 1000 := hs
    unfold sizeP at hs
    have l := len_sizeR r
    exact ⟨(show 2 ≤ 1000 by decide), (show ("again" : Str).length ≤ 1000 by decide +kernel), ⟨by rw [thR_len]; omega, okT_R r h (by omega)⟩, trivial⟩
  | .oth w n r, h, hs => by
    have h : NmOk n ∧ okR NmOk r := h
    unfold sizeP at hs
    have l := len_sizeR r
    exact ⟨(show 3 ≤ 1000 by decide), wd_len w, h.1.2, ⟨by rw [thR_len]; omega, okT_R r h.2 (by omega)⟩, trivial⟩
theorem okT_R : ∀ r : List Part, okR NmOk r → sizeR r ≤ 1000 → okTs (thR r)
  | [], _, _ => trivial
  | p :: r, h, hs => by
    have h : okP NmOk p ∧ okR NmOk r := h
    unfold sizeR at hs
    exact ⟨okT_P p h.1 (by omega), okT_R r h.2 (by omega)⟩
end
theorem okT_row {r : List Part} (h : okR NmOk r) (hs : sizeR r ≤ 1000) : okT (thRow r) := by
  have l := len_sizeR r
  exact ⟨by rw [thR_len]; omega, okT_R r h hs⟩
/-- of a row that is a house -/
theorem house_of_G {P : Program} {w : World} {K : PySem.W.Frag} {mg : Str → Option Value} {base : Heap} {Ts : List Addr} {f : Addr} {fd : FuncData} {k n : Nat}
    (G : FnOk P w K mg base CX0 k f fd ["thing"] (spHouseG Ts)) : FnOk P w K mg base CX0 k f fd ["thing"] (spHouse Ts n) := by
  refine G.imp fun vs H Q E h => ?_
  obtain ⟨v, r, rfl, hR, hh, hd, tg, q⟩ := h
  have hz := hh.size
  refine ⟨v, thRow r, rfl, at_thRow hR, okT_row hh.ok (by omega), tg, fun H' b st e => ?_⟩
  have : b = true := e.mpr ⟨r, rfl, hh⟩
  rw [this]
  exact q H' st
end Wk

set_option Elab.async false
set_option linter.all false
set_option maxRecDepth 100000
set_option maxHeartbeats 1000000
/-! Steps of a stand: told as tuples, sorted. -/
namespace Wk
open PySem PySem.Spec PyProof.Rows L2 GxR
structure Stp where
  w : Str
  p : List Nat
  r : List Nat
deriving DecidableEq
def iN (l : List Nat) : List Int := l.map fun n : Nat => (n : Int)
def vN (l : List Nat) : List V := (iN l).map V.int
def keyS (s : Stp) : List Int := (s.w.cps.toList.map fun c : Nat => (c : Int) + 1) ++ 0 :: ((s.p.map fun n : Nat => (n : Int) + 1) ++ 0 :: iN s.r)
def ltSt (a b : Stp) : Bool := HT.lexLt (keyS a) (keyS b)
theorem lex_irr : ∀ l : List Int, HT.lexLt l l = false
  | [] => rfl
  | x :: l => by
    rw [HT.lexLt_cons, if_pos rfl]
    exact lex_irr l
theorem lex_term : ∀ (X Y : List Nat) (A B : List Int), HT.lexLt ((X.map fun n : Nat => (n : Int) + 1) ++ 0 :: A) ((Y.map fun n : Nat => (n : Int) + 1) ++ 0 :: B) = if X = Y then HT.lexLt A B else HT.lexLt (iN X) (iN Y)
  | [], [], A, B => by
    rw [if_pos rfl]
    show HT.lexLt (0 :: A) (0 :: B) = _
    rw [HT.lexLt_cons, if_pos rfl]
  | [], y :: Y, A, B => by
    rw [if_neg (fun z => by cases z)]
    show HT.lexLt (0 :: A) (((y : Int) + 1) :: _) = true
    rw [HT.lexLt_cons, if_neg (by omega)]
    exact decide_eq_true (by omega)
  | x :: X, [], A, B => by
    rw [if_neg (fun z => by cases z)]
    show HT.lexLt (((x : Int) + 1) :: _) (0 :: B) = false
    rw [HT.lexLt_cons, if_neg (by omega)]
    exact decide_eq_false (by omega)
  | x :: X, y :: Y, A, B => by
    show HT.lexLt (((x : Int) + 1) :: ((X.map fun n : Nat => (n : Int) + 1) ++ 0 :: A)) (((y : Int) + 1) :: ((Y.map fun n : Nat => (n : Int) + 1) ++ 0 :: B)) = if x :: X = y :: Y then HT.lexLt A B else HT.lexLt ((x : Int) :: iN X) ((y : Int) :: iN Y)
    rw [HT.lexLt_cons, HT.lexLt_cons, lex_term X Y A B]
    by_cases c : x = y
    · subst c
      rw [if_pos rfl, if_pos rfl]
      by_cases d : X = Y
      · rw [if_pos d, if_pos (by rw [d])]
      · rw [if_neg d, if_neg (fun z => d (List.cons.inj z).2)]
    · rw [if_neg (by omega), if_neg (fun z => c (List.cons.inj z).1), if_neg (by omega)]
      exact decide_eq_decide.mpr (by omega)
theorem nat_lex : ∀ X Y : List Nat, decide (X < Y) = HT.lexLt (iN X) (iN Y)
  | [], [] => rfl
  | [], y :: Y => decide_eq_true (List.nil_lt_cons _ _)
  | x :: X, [] => decide_eq_false (List.not_lt_nil _)
  | x :: X, y :: Y => by
    show _ = HT.lexLt ((x : Int) :: iN X) ((y : Int) :: iN Y)
    rw [HT.lexLt_cons, ← nat_lex X Y]
    by_cases c : x = y
    · subst c
      rw [if_pos rfl, decide_eq_decide, List.cons_lt_cons_iff]
      exact ⟨fun h => h.elim (fun z => absurd z (Nat.lt_irrefl _)) And.right, fun h => .inr ⟨rfl, h⟩⟩
    · rw [if_neg (by omega), decide_eq_decide, List.cons_lt_cons_iff]
      exact ⟨fun h => h.elim (fun z => by omega) (fun z => absurd z.1 c), fun h => .inl (by omega)⟩
theorem ltSt_eq (a b : Stp) : ltSt a b = if a.w = b.w then (if a.p = b.p then HT.lexLt (iN a.r) (iN b.r) else HT.lexLt (iN a.p) (iN b.p)) else decide (a.w.cps.toList < b.w.cps.toList) := by
  unfold ltSt keyS
  rw [lex_term, nat_lex, lex_term]
  by_cases c : a.w = b.w
  · rw [if_pos c, if_pos (by rw [c])]
  · rw [if_neg c, if_neg (fun z => c (Str.ext' (Array.toList_inj.mp z)))]
theorem ltSt_swo {α : Type} (k : α → Stp) : SrtO.Swo (fun v u : α => ltSt (k v) (k u)) := NtL.swo_lexL (fun v => keyS (k v))
/-! ### in the model's heap -/
structure IsStp (h : Heap) (v : Value) (s : Stp) : Prop where
  ex : ∃ (a pa : Addr) (o : Obj) (tk : Tok) (us qs : List Value) (n : Nat), v = .ref a ∧ h.get? a = some o ∧ o.cls = .type "tuple" ∧ o.data = .seq (.str s.w tk :: .ref pa :: us).toArray n ∧ Vals (vN s.r) us ∧ IsTup h pa qs.toArray ∧ Vals (vN s.p) qs
section
variable {prog : Program} {w : World} {A : Around} {E : Value → Shared → Prop} {s : Shared}
theorem kat_ints {fin : Bool} {Q : Bool → Shared → Prop} : ∀ (ns ms : List Int) (us us' : List Value) (i : Nat), Vals (ns.map V.int) us → Vals (ms.map V.int) us' → fin = decide (ns.length < ms.length) → Q (HT.lexLt ns ms) s → PySem.W.KatLex prog w A true fin Q (us.zip us') (i + 1) s
  | [], ms, us, us', i, r1, r2, hf, h => by
    cases r1
    refine PySem.W.kat_nil ?_
    rw [hf]
    cases ms with
    | nil => exact h
    | cons m ms => exact h
  | n :: ns, [], us, us', i, r1, r2, hf, h => by
    cases r2
    rw [List.zip_nil_right]
    refine PySem.W.kat_nil ?_
    rw [hf]
    exact h
  | n :: ns, m :: ms, us, us', i, r1, r2, hf, h => by
    cases r1 with
    | cons a1 t1 =>
      cases r2 with
      | cons a2 t2 =>
        obtain ⟨k1, rfl⟩ := a1
        obtain ⟨k2, rfl⟩ := a2
        rw [HT.lexLt_cons] at h
        refine PySem.W.kat_cons (SeqAt.EqAt.int_int n k1 m k2 prog w _ _ ?_)
        refine PySem.W.kat_go (fun e => ?_) (fun e => ?_)
        · have ex : n = m := by simpa using e
          rw [if_pos ex] at h
          exact PySem.W.kat_yes (kat_ints ns ms _ _ (i + 1) t1 t2 (by rw [hf, decide_eq_decide, List.length_cons, List.length_cons]; omega) h)
        · have ex : ¬ n = m := by simpa using e
          rw [if_neg ex] at h
          exact PySem.W.kat_no (PySem.W.kat_one _ _ (PyProof.Rows.lt_int h))
/-- tuples of whole numbers, alike or not -/
theorem eq_tups {pa pb : Addr} {qs qs' : List Value} {ns ms : List Int} (ha : IsTup s.heap pa qs.toArray) (hb : IsTup s.heap pb qs'.toArray) (r1 : Vals (ns.map V.int) qs) (r2 : Vals (ms.map V.int) qs') (hu : A.units < cLine) :
    SeqAt.EqAt A s (.ref pa) (.ref pb) (decide (ns = ms)) := by
  by_cases ne : pa = pb
  · subst ne
    obtain ⟨o, h1, h2, n, h3⟩ := id ha
    obtain ⟨o', k1, k2, m, k3⟩ := id hb
    rw [h1] at k1
    cases k1
    rw [h3] at k3
    have e : qs = qs' := by
      have z := (Data.seq.inj k3).1
      have z2 := congrArg Array.toList z
      simpa using z2
    subst e
    have e2 : ns = ms := by
      clear ha hb h1 h2 h3 k2 k3
      induction qs generalizing ns ms with
      | nil =>
        cases ns with
        | nil =>
          cases ms with
          | nil => rfl
          | cons _ _ => cases r2
        | cons _ _ => cases r1
      | cons q qs ih =>
        cases ns with
        | nil => cases r1
        | cons n ns =>
          cases ms with
          | nil => cases r2
          | cons m ms =>
            cases r1 with
            | cons a1 t1 =>
              cases r2 with
              | cons a2 t2 =>
                obtain ⟨k1, e1⟩ := a1
                obtain ⟨k2, e2⟩ := a2
                rw [e1] at e2
                have e3 := (Value.int.inj e2).1
                rw [e3, ih t1 t2]
    rw [decide_eq_true e2]
    exact SeqAt.EqAt.same _
  · refine SeqAt.EqAt.of_refs ne ?_
    have l1 := r1.length
    have l2 := r2.length
    rw [List.length_map] at l1 l2
    have t := SeqAt.RcAt.tuples (A := A) (s := s) (e := fun j => decide (ns[j]? = ms[j]?)) (items := qs.toArray) (items2 := qs'.toArray) ha hb hu (fun j j1 j2 => by
      have j1' : j < qs.length := by simpa using j1
      have j2' : j < qs'.length := by simpa using j2
      have n1 : j < ns.length := by omega
      have n2 : j < ms.length := by omega
      obtain ⟨u, hu', ru⟩ := r1.get (i := j) (x := .int ns[j]) (by rw [List.getElem?_map, List.getElem?_eq_getElem n1]; rfl)
      obtain ⟨u2, hu2, ru2⟩ := r2.get (i := j) (x := .int ms[j]) (by rw [List.getElem?_map, List.getElem?_eq_getElem n2]; rfl)
      obtain ⟨t1, rfl⟩ := ru
      obtain ⟨t2, rfl⟩ := ru2
      have e1 : qs.toArray[j] = Value.int ns[j] t1 := by
        have z := List.getElem?_eq_getElem j1'
        rw [hu'] at z
        simpa using (Option.some.inj z).symm
      have e2 : qs'.toArray[j] = Value.int ms[j] t2 := by
        have z := List.getElem?_eq_getElem j2'
        rw [hu2] at z
        simpa using (Option.some.inj z).symm
      rw [e1, e2]
      have e3 : decide (ns[j]? = ms[j]?) = (ns[j] == ms[j]) := by
        rw [List.getElem?_eq_getElem n1, List.getElem?_eq_getElem n2, Bool.eq_iff_iff, decide_eq_true_iff, beq_iff_eq]
        exact ⟨fun z => Option.some.inj z, fun z => by rw [z]⟩
      rw [e3]
      exact SeqAt.EqAt.int_int _ _ _ _)
    have e : (((List.range (min qs.toArray.size qs'.toArray.size)).all fun j => decide (ns[j]? = ms[j]?)) && qs.toArray.size == qs'.toArray.size) = decide (ns = ms) := by
      rw [Bool.eq_iff_iff, Bool.and_eq_true_iff, List.all_eq_true, decide_eq_true_iff, beq_iff_eq, List.size_toArray, List.size_toArray, ← l1, ← l2]
      constructor
      · rintro ⟨h1, h2⟩
        refine List.ext_getElem? fun j => ?_
        by_cases c : j < ns.length
        · exact of_decide_eq_true (h1 j (List.mem_range.mpr (by omega)))
        · rw [List.getElem?_eq_none (by omega), List.getElem?_eq_none (by omega)]
      · rintro rfl
        exact ⟨fun j _ => decide_eq_true rfl, rfl⟩
    rw [← e]
    exact t
theorem stp_cmp {vs : List Value} {k : Value → Stp} (hu : A.units + 1 < cLine) (hp : ∀ v ∈ vs, IsStp s.heap v (k v)) : SrtO.Cmp prog w A s (tuples' true) (fun p => p.1 ∈ vs) (SrtO.lt2 fun v u => ltSt (k v) (k u)) := by
  intro p q hm hm'
  obtain ⟨a, pa, o, tk, us, qs, n, e, ho, hc, hd, r1, hp1, r2⟩ := (hp _ hm).ex
  obtain ⟨a', pa', o', tk', us', qs', n', e', ho', hc', hd', r1', hp1', r2'⟩ := (hp _ hm').ex
  show wpAny (model prog w) A (keyLt' (tuples' true) p.1 q.1) (fun r s' => s' = s ∧ r = ltSt (k p.1) (k q.1)) (fun _ _ => False) s
  rw [ltSt_eq]
  generalize k p.1 = x at *
  generalize k q.1 = y at *
  rw [e, e']
  refine PySem.W.kat_lt ho hd ho' hd' ?_
  show PySem.W.KatLex prog w A true _ _ ((Value.str x.w tk, Value.str y.w tk') :: (Value.ref pa, Value.ref pa') :: us.zip us') 0 s
  have l1 := r1.length
  have l2 := r1'.length
  refine PySem.W.kat_cons (SeqAt.EqAt.str_str x.w tk y.w tk' prog w _ _ ?_)
  refine PySem.W.kat_go (fun e1 => ?_) (fun e1 => ?_)
  · have ex : x.w = y.w := by simpa using e1
    rw [if_pos ex]
    refine PySem.W.kat_yes (PySem.W.kat_cons (eq_tups hp1 hp1' r2 r2' (by omega) prog w _ _ ?_))
    have ip : (iN x.p = iN y.p) ↔ x.p = y.p := by
      constructor
      · intro z
        exact (List.map_inj_right (fun a b h => Int.ofNat.inj h)).mp z
      · intro z; rw [z]
    refine PySem.W.kat_go (fun e2 => ?_) (fun e2 => ?_)
    · have ey := ip.mp (of_decide_eq_true e2)
      rw [if_pos ey]
      refine PySem.W.kat_yes (kat_ints (iN x.r) (iN y.r) us us' 1 r1 r1' ?_ ⟨rfl, rfl⟩)
      rw [decide_eq_decide]
      unfold vN at l1 l2
      rw [List.length_map] at l1 l2
      simp only [List.size_toArray, List.length_cons]
      omega
    · have ey : ¬ x.p = y.p := fun z => of_decide_eq_false e2 (ip.mpr z)
      rw [if_neg ey]
      refine PySem.W.kat_no (PySem.W.kat_one _ _ (HT.lt_tupInts hp1 hp1' (L2.intsAre_of (by rw [List.toList_toArray]; exact r2)) (L2.intsAre_of (by rw [List.toList_toArray]; exact r2')) (by omega) ?_))
      exact (show s = s ∧ HT.lexLt (iN x.p) (iN y.p) = HT.lexLt (iN x.p) (iN y.p) from ⟨rfl, rfl⟩)
  · have ex : ¬ x.w = y.w := by simpa using e1
    rw [if_neg ex]
    exact PySem.W.kat_no (oneLt_str ⟨rfl, rfl⟩)
end
end Wk

set_option Elab.async false
set_option linter.all false
set_option maxRecDepth 100000
set_option maxHeartbeats 1000000
/-! Steps: sorted lists of them, one among them. -/
namespace Wk
open PySem PySem.Spec PyProof.Rows L2 GxR
section
variable {prog : Program} {w : World} {A : Around} {E : Value → Shared → Prop} {s : Shared}
theorem IsStp.keeps {h h' : Heap} {v : Value} {x : Stp} (p : IsStp h v x) (k : ∀ b o, h.get? b = some o → o.cls = .type "tuple" → h'.get? b = some o) : IsStp h' v x := by
  obtain ⟨a, pa, o, tk, us, qs, n, e, ho, hc, hd, r1, ⟨oq, q1, q2, m, q3⟩, r2⟩ := p.ex
  exact ⟨a, pa, o, tk, us, qs, n, e, k _ _ ho hc, hc, hd, r1, ⟨oq, k _ _ q1 q2, q2, m, q3⟩, r2⟩
theorem stp_firsts {h : Heap} : ∀ {vs : List Value}, (∀ v ∈ vs, ∃ x, IsStp h v x) → ∃ fs : List Value, PySem.W.KatTups h vs fs ∧ fs.length = vs.length ∧ ∀ f ∈ fs, ∃ z t, f = Value.str z t
  | [], _ => ⟨[], PySem.W.KatTups.nil, rfl, fun f hf => nomatch hf⟩
  | v :: vs, hp => by
    obtain ⟨fs, k1, k2, k3⟩ := stp_firsts (vs := vs) fun u hu => hp u (List.mem_cons_of_mem _ hu)
    obtain ⟨x, hx⟩ := hp v List.mem_cons_self
    obtain ⟨a, pa, o, tk, us, qs, n, rfl, ho, hc, hd, _⟩ := hx.ex
    refine ⟨.str x.w tk :: fs, PySem.W.KatTups.cons ho hc hd rfl k1, by rw [List.length_cons, List.length_cons, k2], fun f hf => ?_⟩
    rcases List.mem_cons.mp hf with e | e
    · exact ⟨_, _, e⟩
    · exact k3 f e
theorem stp_sortable {a : Addr} {vs : List Value} {k : Value → Stp} (h0 : 0 < vs.length) (hu : A.units + 1 < cLine) (hp : ∀ v ∈ vs, IsStp s.heap v (k v)) (ha : ∀ o, s.heap.get? a = some o → o.cls ≠ .type "tuple") : SrtO.SortableO prog w A s a vs fun v u => ltSt (k v) (k u) := by
  intro h' keep
  have hp' : ∀ v ∈ vs, IsStp h' v (k v) := fun v hm => (hp v hm).keeps fun b o e c => keep b o (fun z => by rw [z] at e; exact ha o e c) e
  obtain ⟨fs, f1, f2, f3⟩ := stp_firsts fun v hm => ⟨_, hp' v hm⟩
  refine ⟨tuples' true, fun Q E hq => ?_, stp_cmp (s := { s with heap := h' }) hu hp'⟩
  refine PySem.W.kat_kind (T := .type "str") f1 (by omega) (fun f hm => ?_) (by rfl) ?_
  · obtain ⟨z, t, rfl⟩ := f3 f hm
    exact PySem.W.Looks.now
  · have e : (Value.type "str" != Value.type "tuple") = true := by first | decide +kernel | rfl | decide
    rw [e]
    exact hq
theorem sorted_stps {l : Addr} {vs : List Value} {k : Value → Stp} {Q : Value → Shared → Prop} (hu : A.units + 8 < cLine) (hl : s.heap.IsList l vs.toArray) (hz : vs.length ≤ sizeLine) (hp : ∀ v ∈ vs, IsStp s.heap v (k v))
    (h : ∀ (h' : Heap) (d : Addr) (out : List Value), SrtO.Srtd (fun v u => ltSt (k v) (k u)) out → SrtO.Stb (fun v u => ltSt (k v) (k u)) out vs → (∀ b o, s.heap.get? b = some o → h'.get? b = some o) → s.heap.objs.size ≤ d → (∃ n, h'.get? d = some (seqObj "list" out.toArray n)) → Q (.ref d) { s with heap := h' }) :
    wpAny (model prog w) A (call (.builtin "sorted") [.ref l]) Q E s := by
  refine SrtO.sorted_ord (ltSt_swo k) hl hz (fun h2 h₁ a ha kk => ?_) fun out hs hb => ?_
  · refine stp_sortable (s := { s with heap := h₁ }) (by omega) (by show A.units + 1 + 1 + 1 < cLine; omega) (fun v hm => (hp v hm).keeps fun b o e _ => (kk b o e).2) fun o e => ?_
    rw [ha] at e
    cases e
    intro c
    exact absurd (Value.type.inj c) (by decide)
  · exact h _ _ out hs hb (fun b o e => sortedAll_old e) (Nat.le_succ _) (sortedAll_at s.heap vs out.toArray)
end
/-! ### in the heap of rules -/
def StpAt (H : Hp) (x : Stp) (v : V) : Prop := ∃ t pa, v = .ref t ∧ H t = some (.tup (.str x.w :: .ref pa :: vN x.r)) ∧ H pa = some (.tup (vN x.p))
def StpsAt (H : Hp) : List Stp → List V → Prop
  | [], vs => vs = []
  | x :: xs, vs => ∃ v us, vs = v :: us ∧ StpAt H x v ∧ StpsAt H xs us
theorem vN_inj {a b : List Nat} (h : vN a = vN b) : a = b := by
  unfold vN iN at h
  rw [List.map_map, List.map_map] at h
  exact (List.map_inj_right (fun x y z => Int.ofNat.inj (V.int.inj z))).mp h
theorem StpAt.uniq {H : Hp} {x y : Stp} {v : V} (a : StpAt H x v) (b : StpAt H y v) : x = y := by
  obtain ⟨t, pa, e, h1, h2⟩ := a
  obtain ⟨t', pa', e', h1', h2'⟩ := b
  rw [e] at e'
  cases e'
  rw [h1] at h1'
  obtain ⟨z1, z2⟩ := List.cons.inj (HO.tup.inj (Option.some.inj h1'))
  obtain ⟨z3, z4⟩ := List.cons.inj z2
  cases z3
  rw [h2] at h2'
  have z5 := vN_inj (HO.tup.inj (Option.some.inj h2'))
  obtain ⟨w1, p1, r1⟩ := x
  obtain ⟨w2, p2, r2⟩ := y
  have e1 : w1 = w2 := V.str.inj z1
  have e2 : r1 = r2 := vN_inj z4
  have e3 : p1 = p2 := z5
  rw [e1, e2, e3]
theorem StpAt.tup {H H' : Hp} (s : STup H H') {x : Stp} {v : V} (h : StpAt H x v) : StpAt H' x v := by
  obtain ⟨t, pa, e, h1, h2⟩ := h
  exact ⟨t, pa, e, s _ _ h1, s _ _ h2⟩
theorem StpsAt.tup {H H' : Hp} (s : STup H H') : ∀ {xs : List Stp} {vs : List V}, StpsAt H xs vs → StpsAt H' xs vs
  | [], _, h => h
  | x :: xs, _, h => by
    obtain ⟨v, us, e, h1, h2⟩ := h
    exact ⟨v, us, e, h1.tup s, h2.tup s⟩
theorem StpsAt.len {H : Hp} : ∀ {xs : List Stp} {vs : List V}, StpsAt H xs vs → vs.length = xs.length
  | [], _, h => by rw [show _ = [] from h]; rfl
  | x :: xs, _, h => by
    obtain ⟨v, us, rfl, h1, h2⟩ := h
    rw [List.length_cons, List.length_cons, h2.len]
theorem StpsAt.app {H : Hp} : ∀ {xs ys : List Stp} {vs us : List V}, StpsAt H xs vs → StpsAt H ys us → StpsAt H (xs ++ ys) (vs ++ us)
  | [], ys, vs, us, h, g => by rw [show vs = [] from h]; exact g
  | x :: xs, ys, vs, us, h, g => by
    obtain ⟨v, ws, rfl, h1, h2⟩ := h
    exact ⟨v, ws ++ us, rfl, h1, h2.app g⟩
theorem StpsAt.mem {H : Hp} : ∀ {xs : List Stp} {vs : List V} {v : V}, StpsAt H xs vs → v ∈ vs → ∃ x ∈ xs, StpAt H x v
  | [], vs, v, h, m => by
    rw [show vs = [] from h] at m
    cases m
  | x :: xs, vs, v, h, m => by
    obtain ⟨v0, us, rfl, h1, h2⟩ := h
    rcases List.mem_cons.mp m with e | e
    · rw [e]; exact ⟨x, List.mem_cons_self, h1⟩
    · obtain ⟨y, hy, h3⟩ := h2.mem e
      exact ⟨y, List.mem_cons_of_mem _ hy, h3⟩
/-- what a value tells -/
noncomputable def stpOf (H : Hp) (v : V) : Stp := open Classical in if h : ∃ x, StpAt H x v then h.choose else ⟨"", [], []⟩
theorem stpOf_eq {H : Hp} {x : Stp} {v : V} (h : StpAt H x v) : stpOf H v = x := by
  unfold stpOf
  rw [dif_pos ⟨x, h⟩]
  exact (Exists.choose_spec (⟨x, h⟩ : ∃ x, StpAt H x v)).uniq h
theorem StpsAt.map {H : Hp} : ∀ {xs : List Stp} {vs : List V}, StpsAt H xs vs → vs.map (stpOf H) = xs
  | [], vs, h => by rw [show vs = [] from h]; rfl
  | x :: xs, vs, h => by
    obtain ⟨v, us, rfl, h1, h2⟩ := h
    rw [List.map_cons, stpOf_eq h1, h2.map]
theorem StpsAt.of {H : Hp} : ∀ {vs : List V}, (∀ v ∈ vs, ∃ x, StpAt H x v) → StpsAt H (vs.map (stpOf H)) vs
  | [], _ => rfl
  | v :: vs, h => by
    obtain ⟨x, hx⟩ := h v List.mem_cons_self
    refine ⟨v, vs, rfl, ?_, StpsAt.of fun u hu => h u (List.mem_cons_of_mem _ hu)⟩
    rw [stpOf_eq hx]
    exact hx
section
variable {X : Cx} {pins : List (Addr × Obj)} {σ : L2.St} {H : Hp} {s : Shared}
theorem stp_is (I : Inv X pins σ H s) {x : Stp} {t : Addr} (h : StpAt H x (.ref t)) : IsStp s.heap (.ref t) x := by
  obtain ⟨t', pa, e, h1, h2⟩ := h
  cases e
  obtain ⟨_, its, r1, o, o1, o2, n, o3⟩ := (show ObjOk X.prog X.w H s.heap t (.tup (.str x.w :: .ref pa :: vN x.r)) from I.hok t _ h1)
  obtain ⟨_, qs, r2, hq⟩ := (show ObjOk X.prog X.w H s.heap pa (.tup (vN x.p)) from I.hok pa _ h2)
  cases r1 with
  | cons a1 t1 =>
    cases t1 with
    | cons a2 t2 =>
      obtain ⟨tk, rfl⟩ := a1
      cases a2
      exact ⟨_, _, o, tk, _, qs, n, rfl, o1, o2, o3, t2, hq, r2⟩
end
/-- sorted(steps) -/
def rSortedSt (K : PySem.W.Frag) : List V → Hp → VK → Prop := fun vs H Q => ∃ (a : Addr) (xs : List V) (ss : List Stp), vs = [.ref a] ∧ SqL K H a xs ∧ StpsAt H ss xs ∧
  ∀ (ts : List Stp) (ys : List V) (p : Addr), ts.Perm ss → SrtO.Srtd ltSt ts → StpsAt H ts ys → H p = none → Q (.ref p) (upd H p (.lst ys))
theorem cr_sortedSt {X : Cx} (hu : X.A.units + 64 < cLine) : CallR X (.builtin "sorted") (rSortedSt X.K) := by
  intro pins s σ H vs us Q I r h
  obtain ⟨a, xs, ss, rfl, hs, hx, q⟩ := h
  obtain ⟨its, rv, hl, hz⟩ := I.list hs
  obtain ⟨u, rfl, ru⟩ := vals1 r
  obtain rfl : u = Value.ref a := ru
  have hx1 : ∀ v ∈ xs, ∃ x, StpAt H x v := fun v hv => (hx.mem hv).imp fun x y => y.2
  obtain ⟨e1, e2⟩ := refs_back rv fun x m => by
    obtain ⟨_, t, _, e, _⟩ := hx1 x m
    exact ⟨t, e⟩
  refine sorted_stps (k := fun u => stpOf H (backV u)) (by omega) hl.isList (by rw [← rv.length]; exact hz) (fun v hv => ?_) fun h' d out o1 o2 kp hd hn => ?_
  · obtain ⟨t, rfl⟩ := e2 v hv
    have hm : V.ref t ∈ xs := by rw [e1]; exact List.mem_map.mpr ⟨_, hv, rfl⟩
    obtain ⟨x, hxt⟩ := hx1 _ hm
    show IsStp s.heap (.ref t) (stpOf H (.ref t))
    rw [stpOf_eq hxt]
    exact stp_is I hxt
  · have h3 : ∀ u ∈ out, ∃ a, u = Value.ref a := fun u hu => e2 u (o2.perm.mem_iff.mp hu)
    obtain ⟨n, hn⟩ := hn
    have pm : (out.map backV).Perm xs := by rw [e1]; exact o2.perm.map backV
    have hy : ∀ v ∈ out.map backV, ∃ x, StpAt H x v := fun v hv => hx1 v (pm.mem_iff.mp hv)
    have lo : (out.map backV).length ≤ sizeLine := by rw [pm.length_eq]; exact hz
    refine ⟨.ref d, upd H d (.lst (out.map backV)), I.laid (t' := s.toks) kp hd ⟨lo, out, n, vals_back h3, hn⟩, rfl, q ((out.map backV).map (stpOf H)) _ d ?_ ?_ (StpsAt.of hy) (I.hok.fresh hd)⟩
    · have z := pm.map (stpOf H)
      rw [hx.map] at z
      exact z
    · rw [List.map_map]
      exact SrtO.srtd_map (f := stpOf H ∘ backV) o1
end Wk

set_option Elab.async false
set_option linter.all false
set_option maxRecDepth 100000
set_option maxHeartbeats 1000000
/-! One thing among others, of any shape. -/
namespace Wk
open PySem PySem.Spec PyProof.Rows L2 GxR
def rInD (K : PySem.W.Frag) (neg : Bool) : R2 := fun x y H Q => ∃ (d : PyData) (xs : List PyData), Dp K H x d ∧ Dp K H y (.list xs) ∧ SeqAt.shaped (.list xs) = true ∧ SeqAt.shaped d = true ∧ Q (.bl (if neg then !(xs.any fun e => PyData.eqv e d) else xs.any fun e => PyData.eqv e d)) H
theorem op_notInD {X : Cx} (hu : X.A.units + 65 < cLine) : OpR X (compareOp .NotIn) (rInD X.K true) := by
  intro pins s σ H x y v u Q I rx ry h
  obtain ⟨d, xs, hd, hx, s1, s2, q⟩ := h
  obtain ⟨as, r1⟩ := Dp.reads I d x v hd rx
  obtain ⟨bs, r2⟩ := Dp.reads I _ y u hx ry
  exact SeqAt.notIn_list_reads r2 r1 (SeqAt.canLay_of_shaped s1) (SeqAt.canLay_of_shaped s2) (room_in_shaped s2 hu) ⟨.bl _, H, I, rfl, q⟩
/-! ### steps as data -/
def dataN (l : List Nat) : List PyData := l.map fun n : Nat => PyData.int (n : Int)
def dataS (x : Stp) : PyData := .tuple (.str x.w :: .tuple (dataN x.p) :: dataN x.r)
theorem dpN {K : PySem.W.Frag} {H : Hp} : ∀ l : List Nat, DpAll K H (vN l) (dataN l)
  | [] => .nil
  | n :: l => .cons (.int n) (dpN l)
theorem StpAt.dp {K : PySem.W.Frag} {H : Hp} {x : Stp} {v : V} (h : StpAt H x v) : Dp K H v (dataS x) := by
  obtain ⟨t, pa, rfl, h1, h2⟩ := h
  exact .tup (SqT.of h1) (.cons (.str x.w) (.cons (.tup (SqT.of h2) (dpN x.p)) (dpN x.r)))
theorem StpsAt.dp {K : PySem.W.Frag} {H : Hp} : ∀ {xs : List Stp} {vs : List V}, StpsAt H xs vs → DpAll K H vs (xs.map dataS)
  | [], vs, h => by rw [show vs = [] from h]; exact .nil
  | x :: xs, vs, h => by
    obtain ⟨v, us, rfl, h1, h2⟩ := h
    exact .cons h1.dp h2.dp
theorem layN : ∀ l : List Nat, PyData.canLayAll0 (dataN l) = true
  | [] => rfl
  | n :: l => by
    show (true && PyData.canLayAll0 (dataN l)) = true
    rw [layN l]; rfl
theorem depN : ∀ l : List Nat, PyData.depthAll (dataN l) = 0
  | [] => rfl
  | n :: l => by
    show max 0 (PyData.depthAll (dataN l)) = 0
    rw [depN l]; rfl
theorem layS {x : Stp} (h : PyData.strOk x.w = true) : PyData.canLay0 (dataS x) = true := by
  show (PyData.strOk x.w && (PyData.canLayAll0 (dataN x.p) && PyData.canLayAll0 (dataN x.r))) = true
  rw [h, layN, layN]; rfl
theorem depS (x : Stp) : PyData.depth (dataS x) ≤ 2 := by
  show max 0 (max (PyData.depthAll (dataN x.p) + 1) (PyData.depthAll (dataN x.r))) + 1 ≤ 2
  rw [depN, depN]
  decide
theorem shapedS {x : Stp} (h : PyData.strOk x.w = true) : SeqAt.shaped (dataS x) = true := by
  unfold SeqAt.shaped
  rw [layS h, decide_eq_true (Nat.le_trans (depS x) (by decide))]; rfl
theorem layAll : ∀ {xs : List Stp}, (∀ x ∈ xs, PyData.strOk x.w = true) → PyData.canLayAll0 (xs.map dataS) = true
  | [], _ => rfl
  | x :: xs, h => by
    show (PyData.canLay0 (dataS x) && PyData.canLayAll0 (xs.map dataS)) = true
    rw [layS (h x List.mem_cons_self), layAll fun y hy => h y (List.mem_cons_of_mem _ hy)]; rfl
theorem depAll : ∀ xs : List Stp, PyData.depthAll (xs.map dataS) ≤ 2
  | [] => Nat.zero_le _
  | x :: xs => by
    show max (PyData.depth (dataS x)) (PyData.depthAll (xs.map dataS)) ≤ 2
    exact Nat.max_le.mpr ⟨depS x, depAll xs⟩
theorem shapedL {xs : List Stp} (h : ∀ x ∈ xs, PyData.strOk x.w = true) : SeqAt.shaped (.list (xs.map dataS)) = true := by
  have e1 : PyData.canLay0 (.list (xs.map dataS)) = true := layAll h
  have e2 : PyData.depth (.list (xs.map dataS)) ≤ 64 := by
    have := depAll xs
    show PyData.depthAll (xs.map dataS) + 1 ≤ 64
    omega
  unfold SeqAt.shaped
  rw [e1, decide_eq_true e2]; rfl
theorem eqvN : ∀ l m : List Nat, PyData.eqvAll (dataN l) (dataN m) = decide (l = m)
  | [], [] => rfl
  | [], m :: ms => rfl
  | n :: l, [] => rfl
  | n :: l, m :: ms => by
    show (((n : Int) == (m : Int)) && PyData.eqvAll (dataN l) (dataN ms)) = _
    rw [eqvN l ms, Bool.eq_iff_iff, Bool.and_eq_true_iff, beq_iff_eq, decide_eq_true_iff, decide_eq_true_iff, List.cons.injEq]
    exact ⟨fun ⟨a, b⟩ => ⟨by omega, b⟩, fun ⟨a, b⟩ => ⟨by omega, b⟩⟩
theorem eqvS (x y : Stp) : PyData.eqv (dataS x) (dataS y) = decide (x = y) := by
  show ((x.w == y.w) && (PyData.eqvAll (dataN x.p) (dataN y.p) && PyData.eqvAll (dataN x.r) (dataN y.r))) = _
  rw [eqvN, eqvN, Bool.eq_iff_iff, Bool.and_eq_true_iff, Bool.and_eq_true_iff, beq_iff_eq, decide_eq_true_iff, decide_eq_true_iff, decide_eq_true_iff]
  obtain ⟨w, p, r⟩ := x
  obtain ⟨w', p', r'⟩ := y
  exact ⟨fun ⟨a, b, c⟩ => by rw [show w = w' from a, show p = p' from b, show r = r' from c], fun e => by cases e; exact ⟨rfl, rfl, rfl⟩⟩
theorem anyS (x : Stp) (xs : List Stp) : ((xs.map dataS).any fun e => PyData.eqv e (dataS x)) = decide (x ∈ xs) := by
  rw [Bool.eq_iff_iff, List.any_eq_true, decide_eq_true_iff]
  constructor
  · rintro ⟨e, he, h⟩
    obtain ⟨y, hy, rfl⟩ := List.mem_map.mp he
    rw [eqvS] at h
    rw [← of_decide_eq_true h]
    exact hy
  · intro h
    exact ⟨_, List.mem_map.mpr ⟨x, h, rfl⟩, by rw [eqvS]; exact decide_eq_true rfl⟩
/-! ### a local name called, with a tuple's items behind -/
section
variable {X : Cx} {CX : CXT} {k i : Nat} {f : Addr} {fd : FuncData} {ps : List Str} {sp : Sp} {dvs : List V} {ds : List Value} {E : XK} {x : Str} {p pos : Pos} {e : Expr} {es : List Expr} {t : TA}
theorem pe_callLS (F : FnOk X.prog X.w X.K X.mg X.base CX k f fd ps sp) (hr : Room k X.A) (hN : X.N[i]? = some x) (hv : Vis X.env.scope x) (hk : PySem.W.keepIn X.K (.ref f) = true) (hb : Binds X.K fd ps ds) (hd : Vals dvs ds) (hx : Passes CX X E) (ha : PA X (e :: es) t)
    (hdb : (x == ("__debug__" : Str)) = false := by decide) (hcd : (x == ("__classdict__" : Str)) = false := by decide)
    (he : starEach (e :: es) X.env = (false, eval e X.env) :: starEach es X.env := by rfl) (hst : (backTo pos (starEach es X.env)).any (·.1) = true := by rfl) : PE X (.Call (.Name x p) (e :: es) [] pos) (tCallL i f sp dvs E t) := by
  constructor
  intro pins s σ H Q I hq
  obtain ⟨hs, ht⟩ := hq
  apply wpAny_Call_Name_kw
  refine thn ((pe_var (pos := p) hN hv hdb hcd).run pins s σ H (fun v Hv => v = .ref f ∧ Hv = H) I ⟨.ref f, hs, rfl, rfl⟩) ?_
  rintro u s1 ⟨v, Hv, Iv, rv, ev, eH⟩
  subst ev eH
  cases rv
  refine PySem.W.callWith_S2 (h₀ := X.base) I.ok.mod.kin hk (thn (ha.run pos pins s1 σ _ _ Iv ht) ?_) he hst
  rintro us s2 ⟨vs, H2, I2, r, q⟩
  exact ⟨I2.kIn, run_fn F hr hb hd hx I2 r q⟩
end
end Wk

set_option Elab.async false
set_option linter.all false
set_option maxRecDepth 100000
set_option maxHeartbeats 2000000
/-! enumerate of a tuple. -/
namespace Wk
open PySem PySem.Spec PyProof.Rows L2 GxR
open AutoSeq1 (wpAny_loadPart')
theorem enum_newT (t : Addr) (its : Array Value) (k : Nat) (od : Option Addr) (os : Array (Option Value)) :
    Meets (Builtin.«enumerate.__new__» ⟨[.type "enumerate", .ref t], []⟩) (fun _ R s => s.heap.get? t = some { cls := .type "tuple", dict := od, data := .seq its k, slots := os } ∧
      R (.ok (.ret (.ref (s.heap.push { cls := .type "tuple_iterator", data := .fields #[.ref t, .int 0 0] }).objs.size)))
        { s with heap := (s.heap.push { cls := .type "tuple_iterator", data := .fields #[.ref t, .int 0 0] }).push { cls := .type "enumerate", data := .fields #[.none, .bool false, .ref s.heap.objs.size, rawInt 0, .none, .none] } }) :=
  .of_wp fun prog w A R s hR => by
    obtain ⟨hp, gs, dr, tk, o⟩ := s
    obtain ⟨ht, hR⟩ := hR
    have hs := sub_enumerate
    have hT : Heap.IsTuple (Shared.heap ⟨hp, gs, dr, tk, o⟩) t its := ⟨_, ht, rfl, k, rfl⟩
    wp_walk using wpAny_loadPart' ht
    refine wpAny_stack_any fun st => wpAny_pure ?_
    split
    · rename_i c _ _ _ _ _
      cases (c == Value.type "enumerate")
      · wp_walk using wpAny_loadPart' ht, wpAny_pyIter_tuple hT
        exact ⟨_, rfl, hR⟩
      · wp_walk using wpAny_loadPart' ht, wpAny_pyIter_tuple hT
        exact ⟨_, rfl, hR⟩
    · wp_walk using wpAny_loadPart' ht, wpAny_pyIter_tuple hT
      exact ⟨_, rfl, hR⟩
section
variable {prog : Program} {w : World} {A : Around} {E : Value → Shared → Prop} {s : Shared}
theorem call_enumT {t : Addr} {its : Array Value} {Q : Value → Shared → Prop} (hT : s.heap.IsTuple t its)
    (hQ : ∀ h', IsEnum h' (s.heap.objs.size + 1) s.heap.objs.size 0 .none → h'.IsTupleIter s.heap.objs.size t 0 → (∀ b o, s.heap.get? b = some o → h'.get? b = some o) → Q (.ref (s.heap.objs.size + 1)) { s with heap := h' }) :
    wpAny (model prog w) A (call (.type "enumerate") [.ref t]) Q E s := by
  obtain ⟨⟨c, od, dt, os⟩, ht, hc, k, hd⟩ := hT
  simp only at hc hd
  subst hc hd
  refine callType_new F.called_enumerate (by decide) (F.typeCall_enumerate_1 _) (F.newCall_enumerate_1 _) (fun obj => F.args_object_init_2 obj _) F.entry_enumerate_new (enum_newT t its k od os) ⟨ht, ?_⟩
  generalize e1 : s.heap.push { cls := .type "tuple_iterator", data := .fields #[.ref t, .int 0 0] } = h1
  have z1 : h1.objs.size = s.heap.objs.size + 1 := by rw [← e1]; exact Heap.size_push ..
  have g1 : h1.get? s.heap.objs.size = some { cls := .type "tuple_iterator", data := .fields #[.ref t, .int 0 0] } := by rw [← e1]; exact Heap.get?_push_size _ rfl
  have k1 : ∀ b o, s.heap.get? b = some o → h1.get? b = some o := fun b o e => by rw [← e1]; exact Heap.get?_push_of_some _ e
  have he : IsEnum (h1.push { cls := .type "enumerate", data := .fields #[.none, .bool false, .ref s.heap.objs.size, rawInt 0, .none, .none] }) (s.heap.objs.size + 1) s.heap.objs.size 0 .none := by
    rw [← z1]
    exact Heap.get?_push_size h1 rfl
  show _ ∧ _
  rw [z1]
  exact ⟨⟨_, he, rfl⟩, hQ _ he ⟨_, Heap.get?_push_of_some _ g1, rfl, rfl⟩ fun b o e => Heap.get?_push_of_some _ (k1 b o e)⟩
theorem draws_tup (hh : A.handled = none) (it t : Addr) (ne : t ≠ it) (its : Array Value) :
    Draws prog w A it [it, t] its.size (fun i v => its[i]? = some v) (fun i h => h.IsTupleIter it t i ∧ h.IsTuple t its) where
  live := fun _ _ st => let ⟨o, ho, _⟩ := st.1; ⟨o, ho⟩
  frame := fun _ _ _ st k => by
    obtain ⟨i1, o, h1, h2, m, h3⟩ := st
    exact ⟨i1.at fun o e => k it (by simp) o e, o, k t (by simp) o h1, h2, m, h3⟩
  item := fun i s Q E hi st hQ => by
    refine RZ.nextOf_tuple_item st.1 st.2 (x := its[i]) (by simp [hi]) fun h' i' sb => ?_
    obtain ⟨_, o, h1, h2, m, h3⟩ := st
    exact hQ _ h' s.toks (by simp [hi]) ⟨i', o, (sb.2 t ne).trans h1, h2, m, h3⟩ sb
  done := fun s Q E st hE => RZ.nextOf_tuple_end hh st.1 st.2 (by simp) hE
end
/-- the tuple at a, each item in a new pair -/
def IteT (K : PySem.W.Frag) (a : Addr) : It :=
  ⟨fun i H => ∃ (xs : List V) (x : V), SqT K H a xs ∧ xs[i]? = some x, fun i H v H' => ∃ T x, v = .ref T ∧ H T = none ∧ H' = upd H T (.tup [.int (i : Nat), x]) ∧ ∀ xs, SqT K H a xs → xs[i]? = some x, fun i H => ∃ xs : List V, SqT K H a xs ∧ xs.length ≤ i⟩
theorem turn_enumT {P : Program} {w : World} {K : PySem.W.Frag} {elts : List Expr} {kk : Nat} {tpos : Pos} (a e it : Addr) :
    Turn P w K (.Tuple elts kk tpos) (IteT K a) [e, it] e (fun i h => (∃ old, IsEnum h e it ((i : Nat) : Int) old) ∧ h.IsTupleIter it a i ∧ e ≠ it) where
  mem := by simp
  obj := fun i h st b hb => by
    obtain ⟨⟨old, he⟩, ⟨o, ho, hc, hd⟩, _⟩ := st
    rcases (show b = e ∨ b = it by simpa using hb) with z | z
    · subst z; exact ⟨_, he, fun v q => nomatch q⟩
    · subst z; exact ⟨o, ho, fun v q => by rw [hd] at q; cases q⟩
  keep := fun i h h' st k => by
    obtain ⟨⟨old, he⟩, hi, ne⟩ := st
    exact ⟨⟨old, k e (by simp) _ he⟩, hi.at fun o q => k it (by simp) o q, ne⟩
  item := by
    intro X hP hw hK hc i pins s σ H E I hf st hg
    subst hP hw hK
    obtain ⟨⟨old, he⟩, hit, ne⟩ := st
    obtain ⟨xs, x, hq, hx⟩ := hg
    obtain ⟨its, rv, p, hz⟩ := I.tuple hq
    obtain ⟨u, hu, ru⟩ := rv.get hx
    have le : e < s.heap.objs.size := Heap.lt_size he
    have li : it < s.heap.objs.size := by
      obtain ⟨_, q, _⟩ := hit
      exact Heap.lt_size q
    have ai : a ≠ it := fun z => by
      obtain ⟨o1, q1, q2, _⟩ := hit
      obtain ⟨o2, q3, q4, _⟩ := (show s.heap.IsTuple a its.toArray from p)
      rw [z, q1] at q3
      cases q3
      rw [q2] at q4
      exact absurd (Value.type.inj q4) (by decide)
    have ae : e ≠ a := fun z => by
      obtain ⟨o2, q3, q4, _⟩ := (show s.heap.IsTuple a its.toArray from p)
      have he' := he
      rw [z] at he'
      have q5 : s.heap.get? a = some _ := he'
      rw [q3] at q5
      cases q5
      exact absurd (Value.type.inj q4) (by decide)
    have hlt : i < its.toArray.size := by
      have := (List.getElem?_eq_some_iff.mp hu).1
      simpa using this
    refine wpAny_pyNext_enum_itemD (draws_tup (A := X.A.in1) (I.ok.hd hc) it a ai its.toArray) he ⟨hit, p⟩ hlt ne (by simp [ne, ae]) ?_
    intro x' h' tk hP ho hst' hT hsz hk
    have ex : x' = u := by
      have z : its.toArray[i]? = some u := by simpa using hu
      exact Option.some.inj (hP.symm.trans z)
    subst ex
    refine ⟨_, rfl, wpAny_letOwnedTupleGo_enum (s := { s with heap := h', toks := tk + 1 }) ho fun h'' he' sb => ?_⟩
    have hT2 : h''.get? s.heap.objs.size = some { cls := .type "tuple", data := .seq #[.int i tk, x'] } := (sb.2 _ (Nat.ne_of_gt le)).trans hT
    have pairOk : ∀ Hn : Hp, ObjOk X.prog X.w Hn h'' s.heap.objs.size (.tup [.int (i : Nat), x]) := fun Hn => ⟨(show 2 ≤ sizeLine by decide), [.int i tk, x'], .cons ⟨_, rfl⟩ (.cons ru .nil), ⟨_, hT2, rfl, _, rfl⟩⟩
    have stay : ∀ c oc, c ∉ [e, it] → s.heap.get? c = some oc → h''.get? c = some oc := fun c oc nc q => by
      have n1 : c ≠ e := fun z => nc (by simp [z])
      have n2 : c ≠ it := fun z => nc (by simp [z])
      exact (sb.2 c n1).trans (hk c oc n1 n2 q)
    have In := I.turnedNew (ch := [e, it]) (t' := tk + 1) stay hf (Nat.le_refl _) (pairOk _)
    refine ⟨.ref s.heap.objs.size, _, In, rfl, ⟨_, x, rfl, I.hok.fresh (Nat.le_refl _), rfl, fun ys hy => by rw [I.tuple_inj hy hq]; exact hx⟩, ⟨⟨x', ?_⟩, hst'.1.at fun o q => (sb.2 it (Ne.symm ne)).trans q, ne⟩, fun b hb => ?_⟩
    · rw [show ((i + 1 : Nat) : Int) = (i : Int) + 1 by omega]
      exact he'
    · have lb : b < s.heap.objs.size := by
        rcases (show b = e ∨ b = it by simpa using hb) with z | z
        · rw [z]; exact le
        · rw [z]; exact li
      rw [upd_ne (Nat.ne_of_lt lb)]
      exact (hf b hb).1
  done := by
    intro X hP hw hK hc i pins s σ H E I hf st hg
    subst hP hw hK
    obtain ⟨⟨old, he⟩, hit, ne⟩ := st
    obtain ⟨xs, hq, hx⟩ := hg
    obtain ⟨its, rv, p, hz⟩ := I.tuple hq
    obtain ⟨fA, fB, _, fC, fD, fE⟩ := hf it (by simp)
    have hl := rv.length
    have T : s.heap.IsTuple a its.toArray := p
    have TyE : s.TypeIs (.ref e) "enumerate" := ⟨_, he, rfl⟩
    unfold pyNext
    refine wpAny_bind (wpAny_attempt (wpAny_callSpecial?_slot (name := Str.ofString "__next__") TyE F.slot_enumerate_next (wpAny_call_entry F.slot_enumerate_next TyE F.entry_enumerate_next ?_ (F.args_enumerate_next_1 _))))
    show wpAny _ _ (field (.ref e) 2 >>= _) _ _ _
    refine wpAny_bind (wpAny_field he rfl (x := .ref it) rfl ?_)
    refine wpAny_bind (RZ.nextOf_tuple_end (I.ok.hd hc) hit T (by simp; omega) fun h' y eb hy => ?_)
    obtain ⟨o, ho, hcl⟩ := hy
    refine wpAny_bind (wpAny_isInstance (T := "StopIteration") (b := true) ⟨o, ho, hcl⟩ isSubtype_stop ?_)
    exact wpAny_pure ⟨rfl, I.turned (t' := s.toks) (fun b o hb q => eb b o hb q) fA fB fC fD fE⟩
  self := fun A i s Q E st h => by
    obtain ⟨⟨_, he⟩, _⟩ := st
    exact wpAny_pyIter_enum he h
def iEnumT (K : PySem.W.Frag) (ta : TA) : TI := fun σ H R => ta σ H fun vs H1 => ∃ a xs, vs = [.ref a] ∧ SqT K H1 a xs ∧ R (IteT K a) H1
theorem pi_enumT {X : Cx} {e : Expr} {ta : TA} {p pos tpos : Pos} {elts : List Expr} {kk : Nat} (hg : Gl X "enumerate") (hm : X.mg "enumerate" = none) (ha : PA X [e] ta) (hs : starEach [e] X.env = [(false, eval e X.env)] := by rfl) :
    PI X (.Tuple elts kk tpos) (.Call (.Name "enumerate" p) [e] [] pos) (iEnumT X.K ta) := by
  constructor
  intro pins s σ H R I hq
  refine Call_ (ld_blt I hg hm boot_enumerate (PyProof.Rows.callWith_type1 (thn (ha.run pos pins s σ H _ I hq) ?_) hs rfl))
  rintro us s1 ⟨vs, H1, I1, r1, a, xs, ex, hT, q⟩
  subst ex
  cases r1 with
  | cons r rr =>
    cases rr
    cases r
    obtain ⟨its, rv, T, hz⟩ := I1.tuple hT
    refine call_enumT (show s1.heap.IsTuple a its.toArray from T) fun h' he hit hk => wpAny_pyIter_enum he ?_
    have Ik := I1.kept (t' := s1.toks) hk
    refine ⟨s1.heap.objs.size + 1, [s1.heap.objs.size + 1, s1.heap.objs.size], _, _, H1, rfl, Ik, turn_enumT a (s1.heap.objs.size + 1) s1.heap.objs.size, ⟨⟨.none, he⟩, hit, Nat.succ_ne_self _⟩, fun b hb => ?_, q⟩
    have lb : s1.heap.objs.size ≤ b := by
      rcases (show b = s1.heap.objs.size + 1 ∨ b = s1.heap.objs.size by simpa using hb) with z | z
      · rw [z]; exact Nat.le_succ _
      · rw [z]; exact Nat.le_refl _
    exact I1.fpOk lb (I1.hok.fresh lb)
theorem walk_enumT {K : PySem.W.Frag} {a : Addr} {xs : List V} : Walk (IteT K a) xs.length (fun H => SqT K H a xs) (fun i H v H' => ∃ T x, v = .ref T ∧ H T = none ∧ H' = upd H T (.tup [.int (i : Nat), x]) ∧ xs[i]? = some x) := by
  refine ⟨fun i H hi q => ⟨xs, xs[i], q, by simp [hi]⟩, fun H q => ⟨xs, q, Nat.le_refl _⟩, fun i H v H' hi q y => ?_⟩
  obtain ⟨T, x, h1, h2, h3, h4⟩ := y
  exact ⟨T, x, h1, h2, h3, h4 xs q⟩
end Wk

set_option Elab.async false
set_option linter.all false
set_option maxRecDepth 100000
set_option maxHeartbeats 4000000
/-! All parts of a row within bounds, whatever a part is: promises. -/
namespace Wk
open PySem PySem.Spec PyProof.Rows L2 GxR
def flT (ts : List Th) : List Th := (ts.map itemsT).flatten
/-- the rows ts, and so on: at most mp parts with the m ahead, less than n deep -/
def smQ (np : Th → Bool) (rst : Th → Th) (mp : Nat) : Nat → Nat → List Th → Bool
  | 0, _, _ => false
  | n + 1, m, ts => if ts.all isTup = true then (if m + (ts.map itemsT).flatten.length ≤ mp then (if (ts.map itemsT).flatten = [] then true else if (ts.map itemsT).flatten.all np = true then smQ np rst mp n (m + (ts.map itemsT).flatten.length) ((ts.map itemsT).flatten.map rst) else false) else false) else false
/-- their parts, level by level -/
def allQ (rst : Th → Th) : Nat → List Th → List Th
  | 0, _ => []
  | n + 1, ts => if (ts.map itemsT).flatten = [] then [] else (ts.map itemsT).flatten ++ allQ rst n ((ts.map itemsT).flatten.map rst)
def spNPQ (Ts : List Addr) (np : Th → Bool) : Sp := fun vs H Q _ => ∃ (v : V) (t : Th), vs = [v] ∧ ThAt H t v ∧ okT t ∧ TabsG Ts H ∧ ∀ H', SamTs Ts H H' → Q (.bl (np t)) H'
def spRestQ (np : Th → Bool) (rst : Th → Th) : Sp := fun vs H Q _ => ∃ (v : V) (t : Th) (G : Hp), vs = [v] ∧ ThAt G t v ∧ Kpt G H ∧ np t = true ∧ ∀ (H' : Hp) (u : V), Same H H' → ThOr G H' (rst t) u → Q u H'
def spWithinQ (Ts : List Addr) (np : Th → Bool) (rst : Th → Th) (mp md : Nat) (fN fR : Addr) : Sp := fun vs H Q _ => ∃ (v : V) (t : Th), vs = [v, .int (mp : Nat), .int (md : Nat), .ref fN, .ref fR] ∧ ThAt H t v ∧ okT t ∧ TabsG Ts H ∧
  (smQ np rst mp (md + 1) 0 [t] = false → ∀ H', SamTs Ts H H' → Q .non H') ∧
  (smQ np rst mp (md + 1) 0 [t] = true → ∀ (H' : Hp) (a : Addr) (tv : List V), SamTs Ts H H' → H a = none → H' a = some (.lst tv) → ThsAt H (allQ rst (md + 1) [t]) tv → Q (.ref a) H')
end Wk

set_option Elab.async false
set_option linter.all false
set_option maxRecDepth 100000
set_option maxHeartbeats 4000000
/-! Mail: parts that send and get, rows of them, which things are such rows. -/
namespace Wk
open PySem PySem.Spec PyProof.Rows L2 GxR
inductive MP where
  | send (n m : Str)
  | get (n x : Str) (r : List MP)
def mnB (z : Str) : Bool := nameB z && (decide (z.length ≤ 4) && !decide (z.cps.toList.head? = some 122))
def mnT : Th → Bool
  | .str z => mnB z
  | _ => false
mutual
def thM : MP → Th
  | .send n m => .tup [.str "send", .str n, .str m]
  | .get n x r => .tup [.str "get", .str n, .str x, .tup (thMs r)]
def thMs : List MP → List Th
  | [] => []
  | p :: r => thM p :: thMs r
end
def thMR (r : List MP) : Th := .tup (thMs r)
theorem thMs_map : ∀ r : List MP, thMs r = r.map thM
  | [] => rfl
  | p :: r => by
    show thM p :: thMs r = thM p :: r.map thM
    rw [thMs_map r]
def restM : MP → List MP
  | .send _ _ => []
  | .get _ _ r => r
mutual
def okM : MP → Prop
  | .send n m => mnB n = true ∧ mnB m = true
  | .get n x r => mnB n = true ∧ mnB x = true ∧ okMs r
def okMs : List MP → Prop
  | [] => True
  | p :: r => okM p ∧ okMs r
end
mutual
def deepM : MP → Nat
  | .send _ _ => 1
  | .get _ _ r => deepMs r + 1
def deepMs : List MP → Nat
  | [] => 0
  | p :: r => max (deepM p) (deepMs r)
end
mutual
def sizeM : MP → Nat
  | .send _ _ => 1
  | .get _ _ r => sizeMs r + 1
def sizeMs : List MP → Nat
  | [] => 0
  | p :: r => sizeM p + sizeMs r
end
mutual
def bdM : MP → List Str
  | .send _ _ => []
  | .get _ x r => x :: bdMs r
def bdMs : List MP → List Str
  | [] => []
  | p :: r => bdM p ++ bdMs r
end
def fltM (S l : List Str) : List Str := l.filter fun n => decide (n ∉ S)
mutual
def frM (S : List Str) : MP → List Str
  | .send n m => fltM S [n, m]
  | .get n x r => fltM S [n] ++ frMs (S ++ [x]) r
def frMs (S : List Str) : List MP → List Str
  | [] => []
  | p :: r => frM S p ++ frMs S r
end
theorem size_restM (p : MP) : sizeM p = sizeMs (restM p) + 1 := by cases p <;> rfl
theorem deep_restM (p : MP) : deepM p = deepMs (restM p) + 1 := by cases p <;> rfl
theorem rest_okM {p : MP} (h : okM p) : okMs (restM p) := by
  cases p with
  | send _ _ => exact trivial
  | get _ _ _ => exact h.2.2
theorem okMs.mem : ∀ {r : List MP}, okMs r → ∀ p ∈ r, okM p
  | [], _, p, h => nomatch h
  | q :: r, h, p, hp => by
    rcases List.mem_cons.mp hp with e | e
    · rw [e]; exact h.1
    · exact okMs.mem h.2 p e
theorem okMs.of : ∀ {r : List MP}, (∀ p ∈ r, okM p) → okMs r
  | [], _ => trivial
  | q :: r, h => ⟨h q List.mem_cons_self, okMs.of fun p hp => h p (List.mem_cons_of_mem _ hp)⟩
theorem len_sizeMs : ∀ r : List MP, r.length ≤ sizeMs r
  | [] => Nat.le_refl _
  | p :: r => by
    have h := len_sizeMs r
    have s := size_restM p
    show r.length + 1 ≤ sizeM p + sizeMs r
    omega
mutual
theorem bd_sizeM : ∀ p : MP, (bdM p).length ≤ sizeM p
  | .send _ _ => Nat.zero_le _
  | .get _ x r => by
    have h := bd_sizeMs r
    show (bdMs r).length + 1 ≤ sizeMs r + 1
    omega
theorem bd_sizeMs : ∀ r : List MP, (bdMs r).length ≤ sizeMs r
  | [] => Nat.le_refl _
  | p :: r => by
    have h := bd_sizeM p
    have h2 := bd_sizeMs r
    show (bdM p ++ bdMs r).length ≤ sizeM p + sizeMs r
    rw [List.length_append]
    omega
end
theorem flt_len (S l : List Str) : (fltM S l).length ≤ l.length := List.length_filter_le _ _
mutual
theorem fr_sizeM : ∀ (p : MP) (S : List Str), (frM S p).length ≤ 2 * sizeM p
  | .send n m, S => by
    have := flt_len S [n, m]
    show (fltM S [n, m]).length ≤ 2 * 1
    exact this
  | .get n x r, S => by
    have h := fr_sizeMs r (S ++ [x])
    have := flt_len S [n]
    show (fltM S [n] ++ frMs (S ++ [x]) r).length ≤ 2 * (sizeMs r + 1)
    rw [List.length_append]
    have e : [n].length = 1 := rfl
    omega
theorem fr_sizeMs : ∀ (r : List MP) (S : List Str), (frMs S r).length ≤ 2 * sizeMs r
  | [], S => Nat.le_refl _
  | p :: r, S => by
    have h := fr_sizeM p S
    have h2 := fr_sizeMs r S
    show (frM S p ++ frMs S r).length ≤ 2 * (sizeM p + sizeMs r)
    rw [List.length_append]
    omega
end
theorem mn_len {z : Str} (h : mnB z = true) : z.length ≤ 4 := of_decide_eq_true (Bool.and_eq_true_iff.mp (Bool.and_eq_true_iff.mp h).2).1
/-! ### levels -/
def flM (ls : List (List MP)) : List MP := ls.flatten
def nxM (ls : List (List MP)) : List (List MP) := (flM ls).map restM
def deepMl : List (List MP) → Nat
  | [] => 0
  | r :: ls => max (deepMs r) (deepMl ls)
def sizeMl : List (List MP) → Nat
  | [] => 0
  | r :: ls => sizeMs r + sizeMl ls
def bdMl : List (List MP) → Nat
  | [] => 0
  | r :: ls => (bdMs r).length + bdMl ls
theorem deepMl_app : ∀ a b, deepMl (a ++ b) = max (deepMl a) (deepMl b)
  | [], b => by show deepMl b = max 0 (deepMl b); omega
  | r :: a, b => by
    show max (deepMs r) (deepMl (a ++ b)) = max (max (deepMs r) (deepMl a)) (deepMl b)
    rw [deepMl_app a b]; omega
theorem sizeMl_app : ∀ a b, sizeMl (a ++ b) = sizeMl a + sizeMl b
  | [], b => by show sizeMl b = 0 + sizeMl b; omega
  | r :: a, b => by
    show sizeMs r + sizeMl (a ++ b) = sizeMs r + sizeMl a + sizeMl b
    rw [sizeMl_app a b]; omega
theorem bdMl_app : ∀ a b, bdMl (a ++ b) = bdMl a + bdMl b
  | [], b => by show bdMl b = 0 + bdMl b; omega
  | r :: a, b => by
    show (bdMs r).length + bdMl (a ++ b) = (bdMs r).length + bdMl a + bdMl b
    rw [bdMl_app a b]; omega
theorem sizeMs_rests : ∀ r : List MP, sizeMs r = r.length + sizeMl (r.map restM)
  | [] => rfl
  | p :: r => by
    have h := sizeMs_rests r
    have s := size_restM p
    show sizeM p + sizeMs r = r.length + 1 + (sizeMs (restM p) + sizeMl (r.map restM))
    omega
theorem sizeMl_rests : ∀ ls : List (List MP), sizeMl ls = (flM ls).length + sizeMl (nxM ls)
  | [] => rfl
  | r :: ls => by
    have h := sizeMl_rests ls
    have h2 := sizeMs_rests r
    show sizeMs r + sizeMl ls = (r ++ flM ls).length + sizeMl ((r ++ flM ls).map restM)
    rw [List.length_append, List.map_append, sizeMl_app]
    have e : sizeMl (nxM ls) = sizeMl ((flM ls).map restM) := rfl
    omega
theorem deepMs_rests : ∀ r : List MP, deepMl (r.map restM) ≤ deepMs r - 1
  | [] => Nat.le_refl _
  | p :: r => by
    have h := deepMs_rests r
    have d := deep_restM p
    show max (deepMs (restM p)) (deepMl (r.map restM)) ≤ max (deepM p) (deepMs r) - 1
    omega
theorem deepMl_rests : ∀ ls : List (List MP), deepMl (nxM ls) ≤ deepMl ls - 1
  | [] => Nat.le_refl _
  | r :: ls => by
    have h := deepMl_rests ls
    have h2 := deepMs_rests r
    show deepMl ((r ++ flM ls).map restM) ≤ max (deepMs r) (deepMl ls) - 1
    rw [List.map_append, deepMl_app]
    have e : deepMl (nxM ls) = deepMl ((flM ls).map restM) := rfl
    omega
theorem deepMs_up : ∀ r : List MP, deepMs r ≤ deepMl (r.map restM) + 1
  | [] => Nat.zero_le _
  | p :: r => by
    have h := deepMs_up r
    have d := deep_restM p
    show max (deepM p) (deepMs r) ≤ max (deepMs (restM p)) (deepMl (r.map restM)) + 1
    omega
theorem deepMl_up : ∀ ls : List (List MP), deepMl ls ≤ deepMl (nxM ls) + 1
  | [] => Nat.zero_le _
  | r :: ls => by
    have h := deepMl_up ls
    have h2 := deepMs_up r
    show max (deepMs r) (deepMl ls) ≤ deepMl ((r ++ flM ls).map restM) + 1
    rw [List.map_append, deepMl_app]
    have e : deepMl (nxM ls) = deepMl ((flM ls).map restM) := rfl
    omega
theorem deepMl_pos : ∀ ls : List (List MP), flM ls ≠ [] → 1 ≤ deepMl ls
  | [], h => absurd rfl h
  | [] :: ls, h => by
    have := deepMl_pos ls h
    show 1 ≤ max (deepMs []) (deepMl ls)
    omega
  | (p :: r) :: ls, h => by
    have := deep_restM p
    show 1 ≤ max (max (deepM p) (deepMs r)) (deepMl ls)
    omega
def isGetM : MP → Bool
  | .send _ _ => false
  | .get _ _ _ => true
def getsM (r : List MP) : Nat := (r.filter isGetM).length
theorem getsM_app (a b : List MP) : getsM (a ++ b) = getsM a + getsM b := by
  unfold getsM
  rw [List.filter_append, List.length_append]
theorem bdMs_rests : ∀ r : List MP, (bdMs r).length = getsM r + bdMl (r.map restM)
  | [] => rfl
  | p :: r => by
    have h := bdMs_rests r
    have e : getsM (p :: r) = getsM [p] + getsM r := getsM_app [p] r
    have e2 : (bdM p).length = getsM [p] + (bdMs (restM p)).length := by
      cases p with
      | send _ _ => rfl
      | get n x q => show (bdMs q).length + 1 = 1 + (bdMs q).length; omega
    show (bdM p ++ bdMs r).length = getsM (p :: r) + ((bdMs (restM p)).length + bdMl (r.map restM))
    rw [List.length_append]
    omega
theorem bdMl_rests : ∀ ls : List (List MP), bdMl ls = getsM (flM ls) + bdMl (nxM ls)
  | [] => rfl
  | r :: ls => by
    have h := bdMl_rests ls
    have h2 := bdMs_rests r
    show (bdMs r).length + bdMl ls = getsM (r ++ flM ls) + bdMl ((r ++ flM ls).map restM)
    rw [getsM_app, List.map_append, bdMl_app]
    have e : bdMl (nxM ls) = bdMl ((flM ls).map restM) := rfl
    omega
def okMl (ls : List (List MP)) : Prop := ∀ r ∈ ls, okMs r
theorem okMl.parts {ls : List (List MP)} (h : okMl ls) : ∀ p ∈ flM ls, okM p := fun p hp => by
  obtain ⟨r, hr, hp⟩ := List.mem_flatten.mp hp
  exact (h r hr).mem p hp
theorem okMl.next {ls : List (List MP)} (h : okMl ls) : okMl (nxM ls) := fun r hr => by
  obtain ⟨p, hp, rfl⟩ := List.mem_map.mp hr
  exact rest_okM (h.parts p hp)
/-! ### forms -/
def msOf (z : Str) : Option Nat := if z = "send" then some 3 else if z = "get" then some 4 else none
def mpB : Th → Bool
  | .tup (.str z :: r) => decide (msOf z = some (r.length + 1)) && (r.take 2).all mnT
  | _ => false
def rstM : Th → Th
  | .tup (.str z :: r) => if z = "get" then (r[2]?).getD .non else .tup []
  | _ => .non
theorem mp_cases {t : Th} (h : mpB t = true) : (∃ n m, t = .tup [.str "send", .str n, .str m] ∧ mnB n = true ∧ mnB m = true) ∨ ∃ n x y, t = .tup [.str "get", .str n, .str x, y] ∧ mnB n = true ∧ mnB x = true := by
  match t, h with
  | .tup (.str z :: r), h =>
    obtain ⟨h1, h2⟩ := Bool.and_eq_true_iff.mp (show (decide (msOf z = some (r.length + 1)) && (r.take 2).all mnT) = true from h)
    have h1 := of_decide_eq_true h1
    have nm : ∀ x : Th, mnT x = true → ∃ n, x = .str n ∧ mnB n = true := fun x hx => by
      cases x with
      | str n => exact ⟨n, rfl, hx⟩
      | _ => cases hx
    unfold msOf at h1
    by_cases c : z = "send"
    · rw [if_pos c] at h1
      have l : r.length = 2 := by have := Option.some.inj h1; omega
      obtain ⟨a, b, rfl⟩ : ∃ a b, r = [a, b] := by
        match r, l with
        | [a, b], _ => exact ⟨a, b, rfl⟩
      obtain ⟨g1, g2⟩ := Bool.and_eq_true_iff.mp (show (mnT a && (mnT b && true)) = true from h2)
      obtain ⟨n, rfl, hn⟩ := nm a g1
      obtain ⟨m, rfl, hm⟩ := nm b (Bool.and_eq_true_iff.mp g2).1
      exact .inl ⟨n, m, by rw [c], hn, hm⟩
    · rw [if_neg c] at h1
      by_cases c2 : z = "get"
      · rw [if_pos c2] at h1
        have l : r.length = 3 := by have := Option.some.inj h1; omega
        obtain ⟨a, b, y, rfl⟩ : ∃ a b y, r = [a, b, y] := by
          match r, l with
          | [a, b, y], _ => exact ⟨a, b, y, rfl⟩
        obtain ⟨g1, g2⟩ := Bool.and_eq_true_iff.mp (show (mnT a && (mnT b && true)) = true from h2)
        obtain ⟨n, rfl, hn⟩ := nm a g1
        obtain ⟨m, rfl, hm⟩ := nm b (Bool.and_eq_true_iff.mp g2).1
        exact .inr ⟨n, m, y, by rw [c2], hn, hm⟩
      · rw [if_neg c2] at h1
        cases h1
theorem mp_part {p : MP} (h : okM p) : mpB (thM p) = true := by
  cases p with
  | send n m =>
    have h1 : mnB n = true := h.1
    have h2 : mnB m = true := h.2
    show (decide (msOf "send" = some 3) && (mnB n && (mnB m && true))) = true
    rw [h1, h2]
    decide +kernel
  | get n x r =>
    have h1 : mnB n = true := h.1
    have h2 : mnB x = true := h.2.1
    show (decide (msOf "get" = some 4) && (mnB n && (mnB x && true))) = true
    rw [h1, h2]
    decide +kernel
theorem rst_part (p : MP) : rstM (thM p) = thMR (restM p) := by
  cases p with
  | send n m =>
    show (if ("send" : Str) = "get" then (([.str n, .str m] : List Th)[2]?).getD .non else Th.tup []) = _
    rw [if_neg (by decide +kernel)]
    rfl
  | get n x r =>
    show (if ("get" : Str) = "get" then _ else Th.tup []) = _
    rw [if_pos rfl]
    rfl
theorem mflat_rows (ls : List (List MP)) : ((ls.map thMR).map itemsT).flatten = (flM ls).map thM := by
  induction ls with
  | nil => rfl
  | cons r ls ih =>
    show itemsT (thMR r) ++ ((ls.map thMR).map itemsT).flatten = (r ++ flM ls).map thM
    rw [ih, List.map_append]
    show thMs r ++ _ = _
    rw [thMs_map]
theorem mall_tup (ls : List (List MP)) : (ls.map thMR).all isTup = true := by
  rw [List.all_map]
  exact List.all_eq_true.mpr fun _ _ => rfl
theorem mrests_rows (ls : List (List MP)) : ((flM ls).map thM).map rstM = (nxM ls).map thMR := by
  unfold nxM
  rw [List.map_map, List.map_map]
  exact List.map_congr_left fun p _ => rst_part p
theorem msmall_of : ∀ (n m : Nat) (ls : List (List MP)), okMl ls → m + sizeMl ls ≤ 20 → deepMl ls < n → smQ mpB rstM 20 n m (ls.map thMR) = true
  | 0, m, ls, _, _, h => absurd h (Nat.not_lt_zero _)
  | n + 1, m, ls, hok, hs, hd => by
    have sz := sizeMl_rests ls
    have dl := deepMl_rests ls
    unfold smQ
    rw [if_pos (mall_tup ls), mflat_rows, List.length_map, if_pos (by omega)]
    by_cases e : (flM ls).map thM = []
    · rw [if_pos e]
    · rw [if_neg e]
      have e2 : flM ls ≠ [] := fun z => e (by rw [z]; rfl)
      have dp := deepMl_pos ls e2
      rw [if_pos (by
        rw [List.all_map]
        exact List.all_eq_true.mpr fun p hp => mp_part (hok.parts p hp)), mrests_rows]
      exact msmall_of n _ (nxM ls) hok.next (by omega) (by omega)
theorem mparts_of : ∀ (ts : List Th) (ls : List (List MP)), ts.all mpB = true → ts.map rstM = ls.map thMR → (∀ r ∈ ls, okMs r) → ∃ ps : List MP, ts = ps.map thM ∧ ps.map restM = ls ∧ ∀ p ∈ ps, okM p
  | [], ls, _, e, _ => ⟨[], rfl, (by
      cases ls with
      | nil => rfl
      | cons a l => cases e), fun _ h => nomatch h⟩
  | t :: ts, [], _, e, _ => by cases e
  | t :: ts, l :: ls, h, e, hok => by
    obtain ⟨h1, h2⟩ := Bool.and_eq_true_iff.mp (show (mpB t && ts.all mpB) = true from h)
    have e' : rstM t :: ts.map rstM = thMR l :: ls.map thMR := e
    obtain ⟨e1, e2⟩ := List.cons.inj e'
    obtain ⟨ps, p1, p2, p3⟩ := mparts_of ts ls h2 e2 (fun r hr => hok r (List.mem_cons_of_mem _ hr))
    have okl := hok l List.mem_cons_self
    obtain ⟨p, q1, q2, q3⟩ : ∃ p : MP, t = thM p ∧ restM p = l ∧ okM p := by
      rcases mp_cases h1 with ⟨n, m, rfl, hn, hm⟩ | ⟨n, x, y, rfl, hn, hx⟩
      · have q : rstM (Th.tup [.str "send", .str n, .str m]) = .tup [] := by
          show (if ("send" : Str) = "get" then (([.str n, .str m] : List Th)[2]?).getD .non else Th.tup []) = _
          rw [if_neg (by decide +kernel)]
        rw [q] at e1
        have el : l = [] := by
          cases l with
          | nil => rfl
          | cons a b => cases (Th.tup.inj e1)
        exact ⟨.send n m, rfl, el.symm, hn, hm⟩
      · have q : rstM (Th.tup [.str "get", .str n, .str x, y]) = y := by
          show (if ("get" : Str) = "get" then _ else Th.tup []) = _
          rw [if_pos rfl]
          rfl
        rw [q] at e1
        exact ⟨.get n x l, by rw [e1]; rfl, rfl, hn, hx, okl⟩
    exact ⟨p :: ps, by rw [q1, p1]; rfl, by rw [List.map_cons, q2, p2], fun r hr => by
      rcases List.mem_cons.mp hr with z | z
      · rw [z]; exact q3
      · exact p3 r z⟩
theorem msplit_flat : ∀ (xs : List (List Th)) (ps : List MP), xs.flatten = ps.map thM → ∃ ls : List (List MP), xs = ls.map (List.map thM) ∧ flM ls = ps
  | [], ps, e => ⟨[], rfl, by
      cases ps with
      | nil => rfl
      | cons a b => cases e⟩
  | x :: xs, ps, e => by
    have e' : ps.map thM = x ++ xs.flatten := e.symm
    obtain ⟨a, b, e1, e2, e3⟩ := List.map_eq_append_iff.mp e'
    obtain ⟨ls, l1, l2⟩ := msplit_flat xs b e3.symm
    exact ⟨a :: ls, by rw [List.map_cons, e2, l1], by show a ++ flM ls = ps; rw [l2, e1]⟩
theorem mrows_of : ∀ (n m : Nat) (ts : List Th), smQ mpB rstM 20 n m ts = true → ∃ ls : List (List MP), ts = ls.map thMR ∧ okMl ls ∧ m + sizeMl ls ≤ 20 ∧ deepMl ls < n
  | 0, m, ts, h => by cases h
  | n + 1, m, ts, h => by
    unfold smQ at h
    by_cases c1 : ts.all isTup = true
    · rw [if_pos c1] at h
      obtain ⟨xs, rfl⟩ := tups_of ts c1
      have ei : ((xs.map Th.tup).map itemsT).flatten = xs.flatten := by
        rw [List.map_map, show itemsT ∘ Th.tup = id from rfl, List.map_id]
      rw [ei] at h
      by_cases c2 : m + xs.flatten.length ≤ 20
      · rw [if_pos c2] at h
        by_cases c3 : xs.flatten = []
        · have all0 : ∀ x ∈ xs, x = [] := List.flatten_eq_nil_iff.mp c3
          refine ⟨xs.map fun _ => [], ?_, fun r hr => ?_, ?_, ?_⟩
          · rw [List.map_map]
            exact List.map_congr_left fun x hx => by rw [all0 x hx]; rfl
          · obtain ⟨_, _, rfl⟩ := List.mem_map.mp hr
            trivial
          · have z : ∀ ys : List (List Th), sizeMl (ys.map fun _ => ([] : List MP)) = 0 := by
              intro ys
              induction ys with
              | nil => rfl
              | cons y ys ih => show 0 + sizeMl (ys.map fun _ => ([] : List MP)) = 0; omega
            rw [z]; omega
          · have z : ∀ ys : List (List Th), deepMl (ys.map fun _ => ([] : List MP)) = 0 := by
              intro ys
              induction ys with
              | nil => rfl
              | cons y ys ih => show max 0 (deepMl (ys.map fun _ => ([] : List MP))) = 0; omega
            rw [z]; omega
        · rw [if_neg c3] at h
          by_cases c4 : xs.flatten.all mpB = true
          · rw [if_pos c4] at h
            obtain ⟨ls', e', hok', hs', hd'⟩ := mrows_of n _ _ h
            obtain ⟨ps, p1, p2, p3⟩ := mparts_of xs.flatten ls' c4 e' hok'
            obtain ⟨ls, l1, l2⟩ := msplit_flat xs ps p1
            have enx : nxM ls = ls' := by unfold nxM; rw [l2, p2]
            have sz := sizeMl_rests ls
            have du := deepMl_up ls
            rw [enx] at sz du
            have el : (flM ls).length = xs.flatten.length := by rw [l2, p1, List.length_map]
            refine ⟨ls, ?_, fun r hr => ?_, by omega, by omega⟩
            · rw [l1, List.map_map]
              exact List.map_congr_left fun r _ => by
                show Th.tup (r.map thM) = Th.tup (thMs r)
                rw [thMs_map]
            · have sub : ∀ p ∈ r, p ∈ ps := fun p hp => by
                rw [← l2]
                exact List.mem_flatten.mpr ⟨r, hr, hp⟩
              exact okMs.of fun p hp => p3 p (sub p hp)
          · rw [if_neg c4] at h; cases h
      · rw [if_neg c2] at h; cases h
    · rw [if_neg c1] at h; cases h
theorem mail_iff {t : Th} : smQ mpB rstM 20 5 0 [t] = true ↔ ∃ r : List MP, t = thMR r ∧ okMs r ∧ sizeMs r ≤ 20 ∧ deepMs r ≤ 4 := by
  constructor
  · intro h
    obtain ⟨ls, e, hok, hs, hd⟩ := mrows_of 5 0 [t] h
    match ls, e, hok, hs, hd with
    | [r], e, hok, hs, hd =>
      have hs' : 0 + (sizeMs r + 0) ≤ 20 := hs
      have hd' : max (deepMs r) 0 < 5 := hd
      exact ⟨r, (List.cons.inj e).1, hok r List.mem_cons_self, by omega, by omega⟩
    | [], e, _, _, _ => cases e
    | _ :: _ :: _, e, _, _, _ => cases (List.cons.inj e).2
  · rintro ⟨r, rfl, hok, hs, hd⟩
    exact msmall_of 5 0 [r] (fun q hq => by rw [List.mem_singleton.mp hq]; exact hok) (by show 0 + (sizeMs r + 0) ≤ 20; omega) (by show max (deepMs r) 0 < 5; omega)
/-- all parts, level by level -/
def allM : Nat → List (List MP) → List MP
  | 0, _ => []
  | n + 1, ls => if flM ls = [] then [] else flM ls ++ allM n (nxM ls)
theorem allQ_rows : ∀ (n : Nat) (ls : List (List MP)), allQ rstM n (ls.map thMR) = (allM n ls).map thM
  | 0, ls => rfl
  | n + 1, ls => by
    unfold allQ allM
    rw [mflat_rows]
    by_cases e : flM ls = []
    · rw [e]; rfl
    · rw [if_neg e, if_neg (fun z => e (List.map_eq_nil_iff.mp z)), mrests_rows, allQ_rows n (nxM ls), List.map_append]
theorem allM_gets : ∀ (n : Nat) (ls : List (List MP)), deepMl ls < n → getsM (allM n ls) = bdMl ls
  | 0, ls, h => absurd h (Nat.not_lt_zero _)
  | n + 1, ls, h => by
    have b := bdMl_rests ls
    have d := deepMl_rests ls
    unfold allM
    by_cases e : flM ls = []
    · rw [if_pos e]
      have e2 : nxM ls = [] := by unfold nxM; rw [e]; rfl
      rw [e, e2] at b
      exact b.symm
    · rw [if_neg e, getsM_app]
      have dp := deepMl_pos ls e
      rw [allM_gets n (nxM ls) (by omega)]
      exact b.symm
theorem allM_len : ∀ (n : Nat) (ls : List (List MP)), deepMl ls < n → (allM n ls).length = sizeMl ls
  | 0, ls, h => absurd h (Nat.not_lt_zero _)
  | n + 1, ls, h => by
    have b := sizeMl_rests ls
    have d := deepMl_rests ls
    unfold allM
    by_cases e : flM ls = []
    · rw [if_pos e]
      have e2 : nxM ls = [] := by unfold nxM; rw [e]; rfl
      rw [e, e2] at b
      exact b.symm
    · rw [if_neg e, List.length_append]
      have dp := deepMl_pos ls e
      rw [allM_len n (nxM ls) (by omega)]
      exact b.symm
/-- a row that is mail -/
structure MailR (r : List MP) : Prop where
  ok : okMs r
  size : sizeMs r ≤ 20
  deep : deepMs r ≤ 4
  gets : (bdMs r).length ≤ 10
  nd : (bdMs r).Nodup
  apart : ∀ x ∈ bdMs r, x ∉ frMs [] r
mutual
theorem thM_inj : ∀ (p q : MP), thM p = thM q → p = q
  | .send n m, .send n' m', h => by
    have := Th.tup.inj h
    have h1 := (List.cons.inj (List.cons.inj this).2).1
    have h2 := (List.cons.inj (List.cons.inj (List.cons.inj this).2).2).1
    rw [Th.str.inj h1, Th.str.inj h2]
  | .get n x r, .get n' x' r', h => by
    have := Th.tup.inj h
    have h1 := (List.cons.inj (List.cons.inj this).2).1
    have h2 := (List.cons.inj (List.cons.inj (List.cons.inj this).2).2).1
    have h3 := (List.cons.inj (List.cons.inj (List.cons.inj (List.cons.inj this).2).2).2).1
    rw [Th.str.inj h1, Th.str.inj h2, thMs_inj r r' (Th.tup.inj h3)]
  | .send n m, .get n' x' r', h => by
    have h0 := Th.str.inj (List.cons.inj (Th.tup.inj h)).1
    exact absurd h0 (by decide +kernel)
  | .get n x r, .send n' m', h => by
    have h0 := Th.str.inj (List.cons.inj (Th.tup.inj h)).1
    exact absurd h0 (by decide +kernel)
theorem thMs_inj : ∀ (r q : List MP), thMs r = thMs q → r = q
  | [], [], _ => rfl
  | p :: r, q :: t, h => by
    have h' : thM p :: thMs r = thM q :: thMs t := h
    rw [thM_inj p q (List.cons.inj h').1, thMs_inj r t (List.cons.inj h').2]
  | [], q :: t, h => by cases h
  | p :: r, [], h => by cases h
end
theorem thMR_inj {r q : List MP} (h : thMR r = thMR q) : r = q := thMs_inj r q (Th.tup.inj h)
theorem thMs_len (r : List MP) : (thMs r).length = r.length := by rw [thMs_map, List.length_map]
mutual
theorem okT_M : ∀ p : MP, okM p → sizeM p ≤ 1000 → okT (thM p)
  | .send n m, h, hs => by
    have l1 := mn_len h.1
    have l2 := mn_len h.2
    exact ⟨(show 3 ≤ 1000 by decide), (show ("send" : Str).length ≤ 1000 by decide +kernel), (show n.length ≤ 1000 by omega), (show m.length ≤ 1000 by omega), trivial⟩
  | .get n x r, h, hs => by
    have l1 := mn_len h.1
    have l2 := mn_len h.2.1
    unfold sizeM at hs
    have l := len_sizeMs r
    exact ⟨(show 4 ≤ 1000 by decide), (show ("get" : Str).length ≤ 1000 by decide +kernel), (show n.length ≤ 1000 by omega), (show x.length ≤ 1000 by omega), ⟨by rw [thMs_len]; omega, okT_Ms r h.2.2 (by omega)⟩, trivial⟩
theorem okT_Ms : ∀ r : List MP, okMs r → sizeMs r ≤ 1000 → okTs (thMs r)
  | [], _, _ => trivial
  | p :: r, h, hs => by
    unfold sizeMs at hs
    exact ⟨okT_M p h.1 (by omega), okT_Ms r h.2 (by omega)⟩
end
theorem okT_mail {r : List MP} (h : okMs r) (hs : sizeMs r ≤ 1000) : okT (thMR r) := by
  have l := len_sizeMs r
  exact ⟨by rw [thMs_len]; omega, okT_Ms r h hs⟩
theorem okT.rstM {t : Th} (h : okT t) (g : mpB t = true) : okT (rstM t) := by
  rcases mp_cases g with ⟨n, m, rfl, _, _⟩ | ⟨n, x, y, rfl, _, _⟩
  · have q : Wk.rstM (Th.tup [.str "send", .str n, .str m]) = .tup [] := by
      show (if ("send" : Str) = "get" then (([.str n, .str m] : List Th)[2]?).getD .non else Th.tup []) = _
      rw [if_neg (by decide +kernel)]
    rw [q]
    exact ⟨Nat.zero_le _, trivial⟩
  · have q : Wk.rstM (Th.tup [.str "get", .str n, .str x, y]) = y := by
      show (if ("get" : Str) = "get" then _ else Th.tup []) = _
      rw [if_pos rfl]
      rfl
    rw [q]
    exact h.2.2.2.2.1
end Wk

set_option Elab.async false
set_option linter.all false
set_option maxRecDepth 100000
set_option maxHeartbeats 4000000
/-! Mail: promises. -/
namespace Wk
open PySem PySem.Spec PyProof.Rows L2 GxR
def mnV : V → Bool
  | .str z => mnB z
  | _ => false
theorem ThAt.mthing {H : Hp} {t : Th} {v : V} (h : ThAt H t v) (ok : okT t) : Thing H v ∧ mnV v = mnT t := by
  refine ⟨(h.thing ok).1, ?_⟩
  cases t with
  | str z => cases h; rfl
  | non => cases h; rfl
  | int i => cases h; rfl
  | bl b => cases h; rfl
  | lst xs =>
    obtain ⟨a, vs, rfl, e, _⟩ := h
    rfl
  | tup xs =>
    obtain ⟨a, vs, rfl, e, _⟩ := h
    rfl
  | dct =>
    obtain ⟨a, rfl, e⟩ := h
    rfl
theorem mword_pos {z s : Str} (h : wordB z s = true) : ∃ c r, z.cps.toList = c :: r := by
  unfold wordB at h
  rw [Bool.and_eq_true] at h
  have h1 := of_decide_eq_true h.1
  cases e : z.cps.toList with
  | nil =>
    have : z.length = z.cps.toList.length := (Array.length_toList).symm
    rw [e, List.length_nil] at this
    omega
  | cons c r => exact ⟨c, r, rfl⟩
theorem msign_eq {c d : Nat} {z : Str} (hz : z = ⟨#[d]⟩) : decide (V.str ⟨#[c]⟩ = V.str z) = decide (c = d) := by
  subst hz
  by_cases h : c = d
  · rw [h, decide_eq_true rfl, decide_eq_true rfl]
  · rw [decide_eq_false h, decide_eq_false (fun g => h (by
      have := congrArg (fun s : Str => s.cps.toList) (V.str.inj g)
      simpa using this))]
def msV (z : Str) : V := match msOf z with
  | some n => .int (n : Nat)
  | none => .non
def MSizesG (K : PySem.W.Frag) (w : World) (d : Addr) : Prop := KGot K w d ∧ ∀ z : Str, ∃ (r : Option Value), PySem.W.nsIn K d z = some r ∧ RelV (msV z) (r.getD .none)
theorem msV_eq (z : Str) (n : Nat) : decide (msV z = V.int (n : Nat)) = decide (msOf z = some n) := by
  unfold msV
  cases e : msOf z with
  | none =>
    rw [decide_eq_false (by intro h; cases h), decide_eq_false (by intro h; cases h)]
  | some k =>
    by_cases c : k = n
    · rw [c, decide_eq_true rfl, decide_eq_true rfl]
    · rw [decide_eq_false (by intro h; exact c (by have := V.int.inj h; omega)), decide_eq_false (by intro h; exact c (Option.some.inj h))]
theorem msV_scal (z : Str) (n : Int) : scal (msV z) (.int n) = true := by
  unfold msV
  cases msOf z <;> rfl
theorem mp_word {t : Th} (h : wordT t = false) : mpB t = false := by
  cases t with
  | tup xs =>
    cases xs with
    | nil => rfl
    | cons x r => cases x <;> first | rfl | cases h
  | _ => rfl
mutual
theorem thM_tup {H H' : Hp} (s : STup H H') : ∀ (p : MP) (v : V), ThAt H (thM p) v → ThAt H' (thM p) v
  | .send n m, v, h => by
    obtain ⟨a, vs, e, h1, h2⟩ := h
    exact ⟨a, vs, e, s _ _ h1, h2⟩
  | .get n x r, v, h => by
    obtain ⟨a, vs, e, h1, u1, w1, e1, g1, u2, w2, e2, g2, u3, w3, e3, g3, u4, w4, e4, ⟨b, xs, eb, hb, hx⟩, g5⟩ := h
    exact ⟨a, vs, e, s _ _ h1, u1, w1, e1, g1, u2, w2, e2, g2, u3, w3, e3, g3, u4, w4, e4, ⟨b, xs, eb, s _ _ hb, thMs_tup s r xs hx⟩, g5⟩
theorem thMs_tup {H H' : Hp} (s : STup H H') : ∀ (r : List MP) (vs : List V), ThsAt H (thMs r) vs → ThsAt H' (thMs r) vs
  | [], vs, h => h
  | p :: r, vs, h => by
    obtain ⟨v, us, e, h1, h2⟩ := h
    exact ⟨v, us, e, thM_tup s p v h1, thMs_tup s r us h2⟩
end
theorem thMR_tup {H H' : Hp} (s : STup H H') {r : List MP} {v : V} (h : ThAt H (thMR r) v) : ThAt H' (thMR r) v := by
  obtain ⟨a, vs, e, h1, h2⟩ := h
  exact ⟨a, vs, e, s _ _ h1, thMs_tup s r vs h2⟩
theorem thMs_get {H : Hp} {r : List MP} {vs : List V} (h : ThsAt H (thMs r) vs) {i : Nat} {v : V} (e : vs[i]? = some v) : ∃ p, r[i]? = some p ∧ ThAt H (thM p) v := by
  obtain ⟨t, ht, hv⟩ := ThsAt.get h e
  rw [thMs_map, List.getElem?_map] at ht
  cases ep : r[i]? with
  | none => rw [ep] at ht; cases ht
  | some p =>
    rw [ep] at ht
    cases ht
    exact ⟨p, rfl, hv⟩
theorem deepMs.mem : ∀ {r : List MP} (p : MP), p ∈ r → deepM p ≤ deepMs r
  | q :: r, p, h => by
    show deepM p ≤ max (deepM q) (deepMs r)
    rcases List.mem_cons.mp h with e | e
    · rw [e]; omega
    · have := deepMs.mem p e
      omega
theorem sizeMs_app : ∀ r q : List MP, sizeMs (r ++ q) = sizeMs r + sizeMs q
  | [], q => by show sizeMs q = 0 + sizeMs q; omega
  | p :: r, q => by
    have := sizeMs_app r q
    show sizeM p + sizeMs (r ++ q) = sizeM p + sizeMs r + sizeMs q
    omega
theorem sizeMs_take (r : List MP) (i : Nat) : sizeMs (r.take i) ≤ sizeMs r := by
  have e := sizeMs_app (r.take i) (r.drop i)
  rw [List.take_append_drop] at e
  omega
theorem bdMs_app : ∀ r q : List MP, bdMs (r ++ q) = bdMs r ++ bdMs q
  | [], q => rfl
  | p :: r, q => by
    show bdM p ++ bdMs (r ++ q) = (bdM p ++ bdMs r) ++ bdMs q
    rw [bdMs_app r q, List.append_assoc]
theorem frMs_app (S : List Str) : ∀ r q : List MP, frMs S (r ++ q) = frMs S r ++ frMs S q
  | [], q => rfl
  | p :: r, q => by
    show frM S p ++ frMs S (r ++ q) = (frM S p ++ frMs S r) ++ frMs S q
    rw [frMs_app S r q, List.append_assoc]
def spGatherM (n : Nat) : Sp := fun vs H Q _ => ∃ (v : V) (r : List MP) (aS F B : Addr) (S fs bs : List Str), vs = [v, .ref aS, .ref F, .ref B] ∧ ThAt H (thMR r) v ∧ H aS = some (.tup (S.map V.str)) ∧ H F = some (.lst (fs.map V.str)) ∧ H B = some (.lst (bs.map V.str)) ∧ F ≠ B ∧
  deepMs r < n ∧ 2 * sizeMs r + fs.length ≤ 1000 ∧ sizeMs r + bs.length ≤ 1000 ∧ S.length + deepMs r ≤ 1000 ∧
  ∀ H', Sam2 F B H H' → H' F = some (.lst ((fs ++ frMs S r).map V.str)) → H' B = some (.lst ((bs ++ bdMs r).map V.str)) → Q .non H'
def spCallingsM (n : Nat) : Sp := fun vs H Q _ => ∃ (v : V) (r : List MP), vs = [v] ∧ ThAt H (thMR r) v ∧ deepMs r < n ∧ sizeMs r ≤ 500 ∧ deepMs r ≤ 1000 ∧
  ∀ (H' : Hp) (t F B : Addr), Same H H' → H F = none → H B = none → F ≠ B → H' t = some (.tup [.ref F, .ref B]) → H' F = some (.lst ((frMs [] r).map V.str)) → H' B = some (.lst ((bdMs r).map V.str)) → Q (.ref t) H'
def spMail (Ts : List Addr) : Sp := fun vs H Q _ => ∃ (v : V) (t : Th), vs = [v] ∧ ThAt H t v ∧ okT t ∧ TabsG Ts H ∧ ∀ (H' : Hp) (b : Bool), SamTs Ts H H' → (b = true ↔ ∃ r, t = thMR r ∧ MailR r) → Q (.bl b) H'
end Wk

set_option Elab.async false
set_option linter.all false
set_option maxRecDepth 100000
set_option maxHeartbeats 4000000
/-! A tuple's items among written ones: ( *t, x). -/
namespace Wk
open PySem PySem.Spec PyProof.Rows L2 GxR
def tStar (K : PySem.W.Frag) (te : TE) (t : TA) : TA := fun σ H Q => te σ H fun x H1 => ∃ a xs, x = .ref a ∧ SqT K H1 a xs ∧ t σ H1 fun ys H2 => Q (xs ++ ys) H2
section
variable {X : Cx} {e : Expr} {es : List Expr} {te : TE} {t : TA} {p : Pos}
theorem pa_star (ha : PE X e te) (hr : PA X es t) (hs : starEach (.Starred e p :: es) X.env = (true, eval e X.env) :: starEach es X.env := by rfl) : PA X (.Starred e p :: es) (tStar X.K te t) := by
  refine ⟨fun pos pins s σ H Q I h => ?_⟩
  rw [hs]
  show wpAny _ _ (spliced ((true, (do let v ← eval e X.env; standAt pos; pure v)) :: backTo pos (starEach es X.env))) _ _ s
  refine PySem.W.ks_spliced (thn (ha.run pins s σ H _ I h) fun u s1 ⟨x, H1, I1, r1, a, xs, ex, hq, q1⟩ => ?_)
  subst ex
  obtain rfl : u = Value.ref a := r1
  refine star_tup I1 hq fun us s2 I2 rv => ?_
  exact thn (hr.run pos pins s2 σ H1 _ I2 q1) fun vs s3 ⟨ys, H2, I3, r2, q2⟩ => ⟨xs ++ ys, H2, I3, rv.append r2, q2⟩
end
end Wk
namespace Wk
open PySem PySem.Spec PyProof.Rows L2 GxR
/-- the names that a part uses -/
def usedM : MP → List Str
  | .send n m => [n, m]
  | .get n _ _ => [n]
theorem frM_used (S : List Str) (p : MP) : frM S p = fltM S (usedM p) ++ (match p with | .send _ _ => [] | .get _ x r => frMs (S ++ [x]) r) := by
  cases p with
  | send n m => exact (List.append_nil _).symm
  | get n x r => rfl
theorem used_len (p : MP) : (usedM p).length ≤ 2 := by
  cases p with
  | send _ _ => exact Nat.le_refl 2
  | get _ _ _ => exact Nat.le_succ 1
theorem fltM_take (S : List Str) {us : List Str} {j : Nat} {x : Str} (h : us[j]? = some x) : fltM S (us.take (j + 1)) = fltM S (us.take j) ++ (if x ∈ S then [] else [x]) := by
  unfold fltM
  rw [List.take_add_one, h, List.filter_append]
  by_cases c : x ∈ S
  · rw [if_pos c]
    simp [c]
  · rw [if_neg c]
    simp [c]
end Wk
namespace Wk
open PySem PySem.Spec PyProof.Rows L2 GxR
def spMNames (n : Nat) : Sp := fun vs H Q _ => ∃ (v : V) (r : List MP), vs = [v] ∧ ThAt H (thMR r) v ∧ deepMs r < n ∧ sizeMs r ≤ 20 ∧ deepMs r ≤ 1000 ∧
  ∀ (H' : Hp) (p : Addr) (ys : List Str), Same H H' → H p = none → ys.Nodup → (∀ x, x ∈ ys ↔ x ∈ frMs [] r) → sortedS ys = true → H' p = some (.lst (ys.map V.str)) → Q (.ref p) H'
theorem getsM_take {r : List MP} {j : Nat} {p : MP} (h : r[j]? = some p) : getsM (r.take (j + 1)) = getsM (r.take j) + (if isGetM p = true then 1 else 0) := by
  rw [List.take_add_one, h, getsM_app]
  cases p <;> rfl
end Wk

set_option Elab.async false
set_option linter.all false
set_option maxRecDepth 100000
set_option maxHeartbeats 4000000
/-! Mail as it is drawn. -/
namespace Wk
open PySem PySem.Spec PyProof.Rows L2 GxR
def cntM : Nat → Nat
  | 0 => 1
  | m + 1 => 1 + 2 * cntM m
theorem deepMs_app : ∀ r q : List MP, deepMs (r ++ q) = max (deepMs r) (deepMs q)
  | [], q => by show deepMs q = max 0 (deepMs q); omega
  | p :: r, q => by
    have := deepMs_app r q
    show max (deepM p) (deepMs (r ++ q)) = max (max (deepM p) (deepMs r)) (deepMs q)
    omega
theorem okMs_app : ∀ {r q : List MP}, okMs r → okMs q → okMs (r ++ q)
  | [], q, _, h => h
  | p :: r, q, g, h => ⟨g.1, okMs_app g.2 h⟩
structure MGP (m : Nat) (ss sp sp' : List Str) (p : MP) : Prop where
  deep : deepM p ≤ m + 1
  size : sizeM p ≤ cntM m
  fr : ∀ S x, x ∈ frM S p → x ∈ ss ∧ x ∉ S
  bd : sp = sp' ++ (bdM p).reverse
  ok : (∀ n ∈ ss, mnB n = true) → (∀ n ∈ sp, mnB n = true) → okM p
structure MGR (m k : Nat) (ss sp sp' : List Str) (r : List MP) : Prop where
  deep : deepMs r ≤ m + 1
  size : sizeMs r ≤ k * cntM m
  fr : ∀ S x, x ∈ frMs S r → x ∈ ss ∧ x ∉ S
  bd : sp = sp' ++ (bdMs r).reverse
  ok : (∀ n ∈ ss, mnB n = true) → (∀ n ∈ sp, mnB n = true) → okMs r
theorem MGR.nil {m : Nat} {ss sp : List Str} : MGR m 0 ss sp sp [] := ⟨Nat.zero_le _, Nat.zero_le _, fun _ _ h => (nomatch h), by simp [bdMs], fun _ _ => trivial⟩
theorem MGR.snoc {m k : Nat} {ss sp sp1 sp2 : List Str} {r : List MP} {p : MP} (h : MGR m k ss sp sp1 r) (g : MGP m ss sp1 sp2 p) : MGR m (k + 1) ss sp sp2 (r ++ [p]) := by
  have mem1 : ∀ n ∈ sp1, n ∈ sp := fun n hn => by rw [h.bd]; exact List.mem_append_left _ hn
  refine ⟨?_, ?_, fun S x hx => ?_, ?_, fun a b => okMs_app (h.ok a b) ⟨g.ok a fun n hn => b n (mem1 n hn), trivial⟩⟩
  · rw [deepMs_app]
    have h1 := h.deep
    have h2 := g.deep
    show max (deepMs r) (max (deepM p) 0) ≤ m + 1
    omega
  · rw [sizeMs_app, Nat.succ_mul]
    have h1 := h.size
    have h2 := g.size
    show sizeMs r + (sizeM p + 0) ≤ _
    omega
  · rw [frMs_app, show frMs S [p] = frM S p ++ [] from rfl, List.append_nil] at hx
    rcases List.mem_append.mp hx with q | q
    · exact h.fr S x q
    · exact g.fr S x q
  · rw [bdMs_app, List.reverse_append, show bdMs [p] = bdM p from List.append_nil _, ← List.append_assoc, ← g.bd]
    exact h.bd
theorem MGR.up {m k j : Nat} {ss sp sp' : List Str} {r : List MP} (h : MGR m k ss sp sp' r) (hk : k ≤ j) : MGR m j ss sp sp' r :=
  ⟨h.deep, Nat.le_trans h.size (Nat.mul_le_mul_right _ hk), h.fr, h.bd, h.ok⟩
theorem cntM_pos (m : Nat) : 1 ≤ cntM m := by
  cases m with
  | zero => exact Nat.le_refl 1
  | succ m => show 1 ≤ 1 + 2 * cntM m; omega
theorem MGP.send {m : Nat} {ss sp : List Str} {a b : Str} (ha : a ∈ ss) (hb : b ∈ ss) : MGP m ss sp sp (.send a b) := by
  refine ⟨by show 1 ≤ m + 1; omega, cntM_pos m, fun S x hx => ?_, by simp [bdM], fun h _ => ⟨h a ha, h b hb⟩⟩
  have hx : x ∈ [a, b].filter fun n => decide (n ∉ S) := hx
  obtain ⟨h1, h2⟩ := List.mem_filter.mp hx
  refine ⟨?_, of_decide_eq_true h2⟩
  rcases List.mem_cons.mp h1 with e | e
  · rw [e]; exact ha
  · rw [List.mem_singleton.mp e]; exact hb
theorem MGP.get {m : Nat} {ss sp1 sp' : List Str} {r : List MP} {a n : Str} (ha : a ∈ ss) (h : MGR m 2 (ss ++ [n, n]) sp1 sp' r) : MGP (m + 1) ss (sp1 ++ [n]) sp' (.get a n r) := by
  have h1 := h.deep
  have h2 := h.size
  refine ⟨?_, ?_, fun S x hx => ?_, ?_, fun ho hp => ⟨ho a ha, hp n (List.mem_append_right _ List.mem_cons_self), h.ok (fun k hk => ?_) fun k hk => hp k (List.mem_append_left _ hk)⟩⟩
  · show deepMs r + 1 ≤ m + 1 + 1
    omega
  · show sizeMs r + 1 ≤ 1 + 2 * cntM m
    omega
  · have hx : x ∈ fltM S [a] ++ frMs (S ++ [n]) r := hx
    rcases List.mem_append.mp hx with q | q
    · obtain ⟨h1, h2⟩ := List.mem_filter.mp (show x ∈ [a].filter fun n => decide (n ∉ S) from q)
      rw [List.mem_singleton.mp h1] at h2 ⊢
      exact ⟨ha, of_decide_eq_true h2⟩
    · obtain ⟨g1, g2⟩ := h.fr _ _ q
      have nS : x ∉ S := fun z => g2 (List.mem_append_left _ z)
      have nn : x ≠ n := fun z => g2 (by rw [z]; exact List.mem_append_right _ List.mem_cons_self)
      rcases List.mem_append.mp g1 with u | u
      · exact ⟨u, nS⟩
      · have : x = n := by simpa using u
        exact absurd this nn
  · show _ = sp' ++ (n :: bdMs r).reverse
    rw [List.reverse_cons, ← List.append_assoc, ← h.bd]
  · rcases List.mem_append.mp hk with u | u
    · exact ho k u
    · have : k = n := by simpa using u
      rw [this]
      exact hp n (List.mem_append_right _ List.mem_cons_self)
def spMP (n : Nat) : Sp := fun vs H Q _ => ∃ (L S A : Addr) (nL : Int) (m : Nat) (ss sp : List Str), GArg vs H L S A nL m ss sp ∧ m ≤ n ∧
  ∀ (H' : Hp) (v : V) (sp' : List Str) (p : MP), StG L S H H' sp' → ThAt H' (thM p) v → MGP m ss sp sp' p → Q v H'
def spMRow (n : Nat) : Sp := fun vs H Q _ => ∃ (L S A : Addr) (nL : Int) (m : Nat) (ss sp : List Str), GArg vs H L S A nL m ss sp ∧ m < n ∧
  ∀ (H' : Hp) (v : V) (sp' : List Str) (r : List MP), StG L S H H' sp' → ThAt H' (thMR r) v → MGR m 2 ss sp sp' r → Q v H'
/-- a letter but z by its number, and up to three more of eight -/
def MNameOf (j : Nat) (z : Str) : Prop := ∃ r, z.cps.toList = (97 + j) :: r ∧ r.length ≤ 3 ∧ ∀ c ∈ r, c ∈ vow.cps.toList
theorem MNameOf.name {j : Nat} {z : Str} (h : MNameOf j z) : NameOf j z := by
  obtain ⟨r, e, h1, h2⟩ := h
  exact ⟨r, e, by omega, h2⟩
theorem MNameOf.ok {j : Nat} {z : Str} (h : MNameOf j z) (hj : j < 25) : mnB z = true := by
  have h1 := name_ok h.name (by omega)
  obtain ⟨r, e, h2, h3⟩ := h
  have l : z.length = r.length + 1 := by
    have : z.length = z.cps.toList.length := (Array.length_toList).symm
    rw [this, e, List.length_cons]
  unfold mnB
  rw [h1, decide_eq_true (by omega), e, List.head?_cons, decide_eq_false (by intro q; have := Option.some.inj q; omega)]
  rfl
abbrev abd : Str := "abcdefghijklmnopqrstuvwxy"
theorem abd_at : ∀ j : Nat, j < 25 → abd.cps.toList[j]? = some (97 + j) := by decide +kernel
def spMNm : Sp := fun vs H Q _ => ∃ (L : Addr) (n : Int) (m : Nat), vs = [.ref L, .int m] ∧ H L = some (.lst [.int n]) ∧ m ≤ 100 ∧
  ∀ (H' : Hp) (p : Addr) (s : Nat) (zs : List Str), StL L H H' → H p = none → H' p = some (.lst (zs.map V.str)) → zs.length = m → s < 25 → (∀ i z, zs[i]? = some z → MNameOf ((s + 4 * i) % 25) z) → Q (.ref p) H'
/-- drawn names differ -/
theorem mnames_nodup {s : Nat} {zs : List Str} (l : zs.length ≤ 25) (h : ∀ i z, zs[i]? = some z → MNameOf ((s + 4 * i) % 25) z) : zs.Nodup := by
  refine List.pairwise_iff_getElem.mpr fun i j hi hj hij e => ?_
  have h1 := h i zs[i] (List.getElem?_eq_getElem hi)
  have h2 := h j zs[j] (List.getElem?_eq_getElem hj)
  rw [← e] at h2
  have := h1.name.inj h2.name
  omega
end Wk

set_option Elab.async false
set_option linter.all false
set_option maxRecDepth 100000
set_option maxHeartbeats 4000000
/-! Mail drawn: rows joined, sizes. -/
namespace Wk
open PySem PySem.Spec PyProof.Rows L2 GxR
def rCatM : R2 := fun x y H Q => ∃ a b xs ys, x = .ref a ∧ y = .ref b ∧ H a = some (.tup xs) ∧ H b = some (.tup ys) ∧ xs.length + ys.length ≤ 1000 ∧ ∀ (H' : Hp) (c : Addr), Same H H' → H' c = some (.tup (xs ++ ys)) → Q (.ref c) H'
theorem op_catM {X : Cx} : OpR X (binaryOp .Add) rCatM := by
  intro pins s σ H x y v u Q I rx ry h
  obtain ⟨a, b, xs, ys, ex, ey, ha, hb, hz, q⟩ := h
  refine op_catA pins s σ H x y v u Q I rx ry ⟨a, b, xs, ys, ex, ey, SqT.of ha, SqT.of hb, small hz, fun e => ?_, fun _ e => ?_, fun _ _ p np => ?_⟩
  · exact q H b (fun _ _ e => e) (by rw [e]; exact hb)
  · exact q H a (fun _ _ e => e) (by rw [e, List.append_nil]; exact ha)
  · exact q _ p (same_new np) upd_same
def spMSize (n : Nat) : Sp := fun vs H Q _ => ∃ (v : V) (r : List MP), vs = [v] ∧ ThAt H (thMR r) v ∧ deepMs r < n ∧ Q (.int (sizeMs r : Nat)) H
/-- drawn so far: parts of names, what is bound taken out of the spare ones -/
structure MDr (zs sc sp : List Str) (r : List MP) : Prop where
  ok : okMs r
  size : sizeMs r ≤ 20
  deep : deepMs r ≤ 4
  fr : ∀ x ∈ frMs [] r, x ∈ sc
  bd : ∃ dn, zs = sp ++ dn ∧ (∀ x ∈ bdMs r, x ∈ dn)
  nd : (bdMs r).Nodup
theorem MDr.none {zs sc : List Str} : MDr zs sc zs [] := ⟨trivial, Nat.zero_le _, Nat.zero_le _, fun _ h => (nomatch h), ⟨[], (List.append_nil _).symm, fun _ h => (nomatch h)⟩, List.nodup_nil⟩
/-- what is drawn and not kept -/
theorem MDr.less {zs sc sp sp' : List Str} {r q : List MP} (h : MDr zs sc sp r) (g : MGR 3 2 sc sp sp' q) : MDr zs sc sp' r := by
  obtain ⟨dn, e, hd⟩ := h.bd
  exact ⟨h.ok, h.size, h.deep, h.fr, ⟨(bdMs q).reverse ++ dn, by rw [← List.append_assoc, ← g.bd]; exact e, fun x hx => List.mem_append_right _ (hd x hx)⟩, h.nd⟩
theorem MDr.more {zs sc sp sp' : List Str} {r q : List MP} (nz : zs.Nodup) (hs : ∀ n ∈ sc, mnB n = true) (hz : ∀ n ∈ zs, mnB n = true) (h : MDr zs sc sp r) (g : MGR 3 2 sc sp sp' q) (hl : sizeMs (r ++ q) ≤ 20) : MDr zs sc sp' (r ++ q) := by
  obtain ⟨dn, e, hd⟩ := h.bd
  have e2 : zs = sp' ++ ((bdMs q).reverse ++ dn) := by rw [← List.append_assoc, ← g.bd]; exact e
  have n2 : ((bdMs q).reverse ++ dn).Nodup := by
    rw [e2] at nz
    exact (List.nodup_append.mp nz).2.1
  obtain ⟨nq, _, dj⟩ := List.nodup_append.mp n2
  have hsp : ∀ n ∈ sp, mnB n = true := fun n hn => hz n (by rw [e]; exact List.mem_append_left _ hn)
  refine ⟨okMs_app h.ok (g.ok hs hsp), hl, ?_, fun x hx => ?_, ⟨_, e2, fun x hx => ?_⟩, ?_⟩
  · rw [deepMs_app]
    have := h.deep
    have := g.deep
    omega
  · rw [frMs_app] at hx
    rcases List.mem_append.mp hx with u | u
    · exact h.fr x u
    · exact (g.fr _ x u).1
  · rw [bdMs_app] at hx
    rcases List.mem_append.mp hx with u | u
    · exact List.mem_append_right _ (hd x u)
    · exact List.mem_append_left _ (List.mem_reverse.mpr u)
  · rw [bdMs_app]
    refine List.nodup_append.mpr ⟨h.nd, (List.reverse_perm _).nodup_iff.mp nq, fun a ha b hb e => ?_⟩
    exact dj b (List.mem_reverse.mpr hb) a (hd a ha) e.symm
theorem MDr.mail {zs sc sp : List Str} {r : List MP} (h : MDr zs sc sp r) (hl : zs.length ≤ 10) (hd : ∀ x ∈ zs, x ∉ sc) : MailR r := by
  obtain ⟨dn, e, hdn⟩ := h.bd
  have sub : ∀ x ∈ bdMs r, x ∈ zs := fun x hx => by rw [e]; exact List.mem_append_right _ (hdn x hx)
  refine ⟨h.ok, h.size, h.deep, ?_, h.nd, fun x hx hf => hd x (sub x hx) (h.fr x hf)⟩
  have := sub_len (bdMs r) zs h.nd sub
  omega
def spMailD : Sp := fun vs H Q _ => ∃ (L N : Addr) (n : Int) (zs : List Str), vs = [.ref L, .ref N] ∧ H L = some (.lst [.int n]) ∧ H N = some (.lst (zs.map V.str)) ∧ N ≠ L ∧ zs.length = 12 ∧ zs.Nodup ∧ (∀ z ∈ zs, mnB z = true ∧ Sh 6 z) ∧
  ∀ (H' : Hp) (v : V) (r : List MP), StL L H H' → ThAt H' (thMR r) v → MailR r → Q v H'
end Wk

set_option Elab.async false
set_option linter.all false
set_option maxRecDepth 100000
set_option maxHeartbeats 4000000
/-! A tuple compared with the one without items. -/
namespace Wk
open PySem PySem.Spec PyProof.Rows L2 GxR
def rNeT0 (K : PySem.W.Frag) : R2 := fun x y H Q => ∃ (a b : Addr) (xs : List V), x = .ref a ∧ y = .ref b ∧ SqT K H a xs ∧ SqT K H b [] ∧ Q (.bl (!xs.isEmpty)) H
theorem op_neT0 {X : Cx} (hu : X.A.units + 64 < cLine) : OpR X (compareOp .NotEq) (rNeT0 X.K) := by
  intro pins s σ H x y v u Q I rx ry h
  obtain ⟨a, b, xs, rfl, rfl, ha, hb, q⟩ := h
  cases rx
  cases ry
  obtain ⟨its, r1, ⟨o, h1, h2, n, h3⟩, _⟩ := I.tuple ha
  obtain ⟨its2, r2, ⟨o2, k1, k2, n2, k3⟩, _⟩ := I.tuple hb
  cases r2
  have l1 := r1.length
  have t := SeqAt.RcNeAt.tuples (A := X.A) (s := s) (e := fun _ => true) (items := its.toArray) (items2 := #[]) ⟨o, h1, h2, n, h3⟩ ⟨o2, k1, k2, n2, k3⟩ (by omega) (fun j j1 j2 => absurd j2 (by simp))
  refine t X.prog X.w X.xe _ ?_
  have e : (!(((List.range (min its.toArray.size (#[] : Array Value).size)).all fun _ => true) && its.toArray.size == (#[] : Array Value).size)) = !xs.isEmpty := by
    have a1 : ((List.range (min its.toArray.size (#[] : Array Value).size)).all fun _ => true) = true := List.all_eq_true.mpr fun _ _ => rfl
    rw [a1, Bool.true_and, List.size_toArray, ← l1]
    cases xs <;> rfl
  exact ⟨.bl (!xs.isEmpty), H, I, by rw [← e]; rfl, q⟩
/-! ### the law's own look -/
def spLName : Sp := fun vs H Q _ => ∃ (v : V) (t : Th), vs = [v] ∧ ThAt H t v ∧ okT t ∧ ∀ H', Same H H' → Q (.bl (nmT t)) H'
def spLRow (n : Nat) : Sp := fun vs H Q _ => ∃ (v : V) (t : Th) (m : Nat), vs = [v, .int m] ∧ ThAt H t v ∧ okT t ∧ m < n ∧ ∀ (H' : Hp) (b : Bool), Same H H' → (b = true ↔ ∃ r, t = thRow r ∧ okR NmOk r ∧ deepR r ≤ m) → Q (.bl b) H'
theorem wordB_eq (z : Str) : wordB z abc = (decide (1 ≤ z.length) && (decide (z.length ≤ 6) && z.cps.toList.all fun c => decide (c ∈ abc.cps.toList))) := rfl
/-- one thing is a part of a row of at most m more levels -/
def PartT (m : Nat) (x : Th) : Prop := ∃ p, x = thP p ∧ okP NmOk p ∧ deepP p ≤ m
theorem row_parts : ∀ (xs : List Th) (m : Nat), (∀ x ∈ xs, PartT m x) → ∃ r : List Part, xs = thR r ∧ okR NmOk r ∧ deepR r ≤ m
  | [], m, _ => ⟨[], rfl, trivial, Nat.zero_le _⟩
  | x :: xs, m, h => by
    obtain ⟨p, e, h1, h2⟩ := h x List.mem_cons_self
    obtain ⟨r, e2, h3, h4⟩ := row_parts xs m fun y hy => h y (List.mem_cons_of_mem _ hy)
    exact ⟨p :: r, by rw [e, e2]; rfl, ⟨h1, h3⟩, by show max (deepP p) (deepR r) ≤ m; omega⟩
theorem parts_row {xs : List Th} {m : Nat} {r : List Part} (e : xs = thR r) (h : okR NmOk r) (hd : deepR r ≤ m) : ∀ x ∈ xs, PartT m x := fun x hx => by
  rw [e, thR_map] at hx
  obtain ⟨p, hp, rfl⟩ := List.mem_map.mp hx
  exact ⟨p, rfl, h.mem p hp, Nat.le_trans (deepR.mem p hp) hd⟩
def sizV : List (Key × V) := [(Sum.inr "say", .int 2), (Sum.inr "again", .int 2), (Sum.inr "room", .int 3), (Sum.inr "in", .int 3), (Sum.inr "out", .int 3), (Sum.inr "open", .int 3), (Sum.inr "hear", .int 3), (Sum.inr "new", .int 3)]
theorem sizV_get (z : Str) : (valV sizV (Sum.inr z)).getD .non = szV z := by
  have step : ∀ (k : Str) (v : V) (r : List (Key × V)), valV ((Sum.inr k, v) :: r) (Sum.inr z) = if z = k then some v else valV r (Sum.inr z) := fun k v r => by
    by_cases c : z = k
    · rw [if_pos c, c]; exact valV_pos rfl
    · rw [if_neg c]; exact valV_neg (fun e => c (Sum.inr.inj e).symm)
  unfold sizV szV szOf
  rw [step, step, step, step, step, step, step, step, valV_nil]
  by_cases c1 : z = "say"
  · subst c1; rfl
  by_cases c2 : z = "again"
  · subst c2; rfl
  by_cases c3 : z = "room"
  · subst c3; rfl
  by_cases c4 : z = "in"
  · subst c4; rfl
  by_cases c5 : z = "out"
  · subst c5; rfl
  by_cases c6 : z = "open"
  · subst c6; rfl
  by_cases c7 : z = "hear"
  · subst c7; rfl
  by_cases c8 : z = "new"
  · subst c8; rfl
  simp only [if_neg c1, if_neg c2, if_neg c3, if_neg c4, if_neg c5, if_neg c6, if_neg c7, if_neg c8]
  rfl
end Wk

set_option Elab.async false
set_option linter.all false
set_option maxRecDepth 100000
set_option maxHeartbeats 4000000
/-! A list compared with the one without items; the signs of a text that are none of some. -/
namespace Wk
open PySem PySem.Spec PyProof.Rows L2 GxR
def rEqL0 (K : PySem.W.Frag) (neg : Bool) : R2 := fun x y H Q => ∃ (a b : Addr) (xs : List V), x = .ref a ∧ y = .ref b ∧ SqL K H a xs ∧ SqL K H b [] ∧ Q (.bl (if neg then !xs.isEmpty else xs.isEmpty)) H
theorem op_eqL0 {X : Cx} (hu : X.A.units + 64 < cLine) : OpR X (compareOp .Eq) (rEqL0 X.K false) := by
  intro pins s σ H x y v u Q I rx ry h
  obtain ⟨a, b, xs, rfl, rfl, ha, hb, q⟩ := h
  cases rx
  cases ry
  obtain ⟨its, r1, ⟨o, n, h1, h2, _, h3⟩, _⟩ := I.list ha
  obtain ⟨its2, r2, ⟨o2, n2, k1, k2, _, k3⟩, _⟩ := I.list hb
  cases r2
  have l1 := r1.length
  cases xs with
  | nil =>
    have e0 : its = [] := List.length_eq_zero_iff.mp l1.symm
    subst e0
    have t := SeqAt.RcAt.lists (A := X.A) (s := s) (e := fun _ => true) (items := #[]) (items2 := #[]) ⟨o, h1, h2, n, h3⟩ ⟨o2, k1, k2, n2, k3⟩ rfl (by omega) (fun j j1 j2 => absurd j2 (by simp))
    refine t X.prog X.w X.xe _ ?_
    exact ⟨.bl true, H, I, rfl, q⟩
  | cons x0 xs0 =>
    have t := SeqAt.RcAt.lists_lengths (A := X.A) (s := s) (items := its.toArray) (items2 := #[]) ⟨o, h1, h2, n, h3⟩ ⟨o2, k1, k2, n2, k3⟩ (by rw [List.size_toArray, ← l1]; rfl) (by omega)
    refine t X.prog X.w X.xe _ ?_
    exact ⟨.bl false, H, I, rfl, q⟩
theorem op_neL0 {X : Cx} (hu : X.A.units + 64 < cLine) : OpR X (compareOp .NotEq) (rEqL0 X.K true) := by
  intro pins s σ H x y v u Q I rx ry h
  obtain ⟨a, b, xs, rfl, rfl, ha, hb, q⟩ := h
  cases rx
  cases ry
  obtain ⟨its, r1, ⟨o, n, h1, h2, _, h3⟩, _⟩ := I.list ha
  obtain ⟨its2, r2, ⟨o2, n2, k1, k2, _, k3⟩, _⟩ := I.list hb
  cases r2
  have l1 := r1.length
  cases xs with
  | nil =>
    have e0 : its = [] := List.length_eq_zero_iff.mp l1.symm
    subst e0
    have t := SeqAt.RcNeAt.lists (A := X.A) (s := s) (e := fun _ => true) (items := #[]) (items2 := #[]) ⟨o, h1, h2, n, h3⟩ ⟨o2, k1, k2, n2, k3⟩ rfl (by omega) (fun j j1 j2 => absurd j2 (by simp))
    refine t X.prog X.w X.xe _ ?_
    exact ⟨.bl false, H, I, rfl, q⟩
  | cons x0 xs0 =>
    have t := SeqAt.RcNeAt.lists_lengths (A := X.A) (s := s) (items := its.toArray) (items2 := #[]) ⟨o, h1, h2, n, h3⟩ ⟨o2, k1, k2, n2, k3⟩ (by rw [List.size_toArray, ← l1]; rfl) (by omega)
    refine t X.prog X.w X.xe _ ?_
    exact ⟨.bl true, H, I, rfl, q⟩
/-- the signs that are none of sg -/
def bad (sg : Str) (l : List Nat) : List Nat := l.filter fun c => !decide (c ∈ sg.cps.toList)
def badV (sg : Str) (l : List Nat) : List V := (bad sg l).map fun c => .str ⟨#[c]⟩
theorem badV_take {sg : Str} {l : List Nat} {i c : Nat} (h : l[i]? = some c) : badV sg (l.take (i + 1)) = badV sg (l.take i) ++ (if c ∈ sg.cps.toList then [] else [.str ⟨#[c]⟩]) := by
  unfold badV bad
  rw [List.take_add_one, h, List.filter_append, List.map_append]
  congr 1
  by_cases hc : c ∈ sg.cps.toList
  · rw [if_pos hc]
    simp only [Option.toList, List.filter, decide_eq_true hc, Bool.not_true, List.map_nil]
  · rw [if_neg hc]
    simp only [Option.toList, List.filter, decide_eq_false hc, Bool.not_false, List.map_cons, List.map_nil]
theorem badV_none (sg : Str) : ∀ l : List Nat, (badV sg l).isEmpty = l.all fun c => decide (c ∈ sg.cps.toList)
  | [] => rfl
  | c :: r => by
    by_cases hc : c ∈ sg.cps.toList
    · have e : badV sg (c :: r) = badV sg r := by
        unfold badV
        rw [show bad sg (c :: r) = bad sg r from List.filter_cons_of_neg (by rw [decide_eq_true hc]; decide)]
      rw [e, badV_none sg r, List.all_cons, decide_eq_true hc, Bool.true_and]
    · have e : bad sg (c :: r) = c :: bad sg r := List.filter_cons_of_pos (by rw [decide_eq_false hc]; rfl)
      unfold badV
      rw [e, List.all_cons, decide_eq_false hc, Bool.false_and, List.map_cons]
      rfl
theorem badV_len {sg z : Str} (h : z.length ≤ 6) (i : Nat) : (badV sg (z.cps.toList.take i)).length < sizeLine := by
  have h1 : (badV sg (z.cps.toList.take i)).length ≤ 6 := by
    unfold badV bad
    rw [List.length_map]
    refine Nat.le_trans (List.length_filter_le _ _) ?_
    rw [List.length_take, Array.length_toList]
    exact Nat.le_trans (Nat.min_le_right _ _) h
  have : 1000 < sizeLine := by decide
  omega
end Wk

set_option Elab.async false
set_option linter.all false
set_option maxRecDepth 100000
set_option maxHeartbeats 4000000
/-! Mail: the law's own look. -/
namespace Wk
open PySem PySem.Spec PyProof.Rows L2 GxR
theorem three : ∀ {ws : List Th}, 3 ≤ ws.length → ∃ x0 x1 x2 wr, ws = x0 :: x1 :: x2 :: wr
  | [], h => by simp at h
  | [_], h => by simp at h
  | [_, _], h => by simp at h
  | x0 :: x1 :: x2 :: wr, _ => ⟨x0, x1, x2, wr, rfl⟩
def isSc : Th → Bool
  | .str _ => true
  | .non => true
  | .int _ => true
  | .bl _ => true
  | _ => false
/-- where two names stand in a part, its first thing is no row -/
def hdT : Nat → Th → Prop
  | 0, _ => True
  | n + 1, t => ∀ x ∈ itemsT t, ∀ y a b r, x = .tup (y :: a :: b :: r) → mnT a = true → mnT b = true → isSc y = true ∧ ∀ z, r = [z] → hdT n z
def hdX (n : Nat) (x : Th) : Prop := ∀ y a b r, x = .tup (y :: a :: b :: r) → mnT a = true → mnT b = true → isSc y = true ∧ ∀ z, r = [z] → hdT n z
theorem hdT_row {n : Nat} {xs : List Th} (h : ∀ x ∈ xs, hdX n x) : hdT (n + 1) (.tup xs) := h
mutual
theorem hdX_part : ∀ (p : MP) (n : Nat), hdX n (thM p)
  | .send n m, k => fun y a b r e _ _ => by
    have e' := Th.tup.inj e
    obtain ⟨e1, e2⟩ := List.cons.inj e'
    obtain ⟨_, e3⟩ := List.cons.inj e2
    obtain ⟨_, e4⟩ := List.cons.inj e3
    refine ⟨by rw [← e1]; rfl, fun z hz => ?_⟩
    rw [hz] at e4
    cases e4
  | .get n x q, k => fun y a b r e _ _ => by
    have e' := Th.tup.inj e
    obtain ⟨e1, e2⟩ := List.cons.inj e'
    obtain ⟨_, e3⟩ := List.cons.inj e2
    obtain ⟨_, e4⟩ := List.cons.inj e3
    refine ⟨by rw [← e1]; rfl, fun z hz => ?_⟩
    rw [hz] at e4
    obtain ⟨e5, _⟩ := List.cons.inj e4
    rw [← e5]
    exact hdT_mail q k
theorem hdT_mail : ∀ (r : List MP) (n : Nat), hdT n (thMR r)
  | _, 0 => trivial
  | r, n + 1 => fun x hx => hdXs r n x hx
theorem hdXs : ∀ (r : List MP) (n : Nat), ∀ x ∈ thMs r, hdX n x
  | [], n, x, h => nomatch h
  | p :: r, n, x, h => by
    rcases List.mem_cons.mp (show x ∈ thM p :: thMs r from h) with e | e
    · rw [e]; exact hdX_part p n
    · exact hdXs r n x e
end
def PartM (m : Nat) (x : Th) : Prop := ∃ p, x = thM p ∧ okM p ∧ deepM p ≤ m
theorem mrow_parts : ∀ (xs : List Th) (m : Nat), (∀ x ∈ xs, PartM m x) → ∃ r : List MP, xs = thMs r ∧ okMs r ∧ deepMs r ≤ m
  | [], m, _ => ⟨[], rfl, trivial, Nat.zero_le _⟩
  | x :: xs, m, h => by
    obtain ⟨p, e, h1, h2⟩ := h x List.mem_cons_self
    obtain ⟨r, e2, h3, h4⟩ := mrow_parts xs m fun y hy => h y (List.mem_cons_of_mem _ hy)
    exact ⟨p :: r, by rw [e, e2]; rfl, ⟨h1, h3⟩, by show max (deepM p) (deepMs r) ≤ m; omega⟩
theorem mparts_row {xs : List Th} {m : Nat} {r : List MP} (e : xs = thMs r) (h : okMs r) (hd : deepMs r ≤ m) : ∀ x ∈ xs, PartM m x := fun x hx => by
  rw [e, thMs_map] at hx
  obtain ⟨p, hp, rfl⟩ := List.mem_map.mp hx
  exact ⟨p, rfl, h.mem p hp, Nat.le_trans (deepMs.mem p hp) hd⟩
theorem PartM.mp {m : Nat} {x : Th} (h : PartM m x) : mpB x = true := by
  obtain ⟨p, rfl, h1, _⟩ := h
  exact mp_part h1
def spLMName : Sp := fun vs H Q _ => ∃ (v : V) (t : Th), vs = [v] ∧ ThAt H t v ∧ okT t ∧ ∀ H', Same H H' → Q (.bl (mnT t)) H'
def spLParts (n : Nat) : Sp := fun vs H Q _ => ∃ (v : V) (t : Th) (m : Nat), vs = [v, .int m] ∧ ThAt H t v ∧ okT t ∧ hdT m t ∧ m < n ∧ ∀ (H' : Hp) (b : Bool), Same H H' → (b = true ↔ ∃ r, t = thMR r ∧ okMs r ∧ deepMs r ≤ m) → Q (.bl b) H'
theorem sc_scal {H : Hp} {y : Th} {v : V} (h : ThAt H y v) (hs : isSc y = true) (z : Str) : scal v (.str z) = true := by
  cases y with
  | str _ => cases h; rfl
  | non => cases h; rfl
  | int _ => cases h; rfl
  | bl _ => cases h; rfl
  | _ => cases hs
theorem sc_str {H : Hp} {y : Th} {v : V} {z : Str} (h : ThAt H y v) (hs : isSc y = true) : v = .str z ↔ y = .str z := by
  cases y with
  | str _ => cases h; exact ⟨fun e => by rw [V.str.inj e], fun e => by rw [Th.str.inj e]⟩
  | non => cases h; exact ⟨fun e => (by cases e), fun e => (by cases e)⟩
  | int _ => cases h; exact ⟨fun e => (by cases e), fun e => (by cases e)⟩
  | bl _ => cases h; exact ⟨fun e => (by cases e), fun e => (by cases e)⟩
  | _ => cases hs
end Wk

set_option Elab.async false
set_option linter.all false
set_option maxRecDepth 100000
set_option maxHeartbeats 400000
/-! Mail: names as the law meets them. -/
namespace Wk
open PySem PySem.Spec PyProof.Rows L2 GxR
/-- kind, name, whether it is bound around -/
abbrev MEnt : Type := Str × Str × Bool
mutual
def meM (S : List Str) : MP → List MEnt
  | .send n m => [("name", n, decide (n ∈ S)), ("name", m, decide (m ∈ S))]
  | .get n x r => ("name", n, decide (n ∈ S)) :: ("bound", x, false) :: meMs (S ++ [x]) r
def meMs (S : List Str) : List MP → List MEnt
  | [] => []
  | p :: r => meM S p ++ meMs S r
end
theorem meMs_app (S : List Str) : ∀ r q : List MP, meMs S (r ++ q) = meMs S r ++ meMs S q
  | [], q => rfl
  | p :: r, q => by
    show meM S p ++ meMs S (r ++ q) = (meM S p ++ meMs S r) ++ meMs S q
    rw [meMs_app S r q, List.append_assoc]
mutual
theorem meM_len : ∀ (p : MP) (S : List Str), (meM S p).length = 2 * sizeM p
  | .send n m, S => rfl
  | .get n x r, S => by
    have := meMs_len r (S ++ [x])
    show (meMs (S ++ [x]) r).length + 1 + 1 = 2 * (sizeMs r + 1)
    omega
theorem meMs_len : ∀ (r : List MP) (S : List Str), (meMs S r).length = 2 * sizeMs r
  | [], S => rfl
  | p :: r, S => by
    have h1 := meM_len p S
    have h2 := meMs_len r S
    show (meM S p ++ meMs S r).length = 2 * (sizeM p + sizeMs r)
    rw [List.length_append]
    omega
end
def bndE (es : List MEnt) : List Str := (es.filter fun e => decide (e.1 = ("bound" : Str))).map (·.2.1)
def freE (es : List MEnt) : List Str := (es.filter fun e => decide (e.1 = ("name" : Str)) && !e.2.2).map (·.2.1)
theorem bndE_app (a b : List MEnt) : bndE (a ++ b) = bndE a ++ bndE b := by unfold bndE; rw [List.filter_append, List.map_append]
theorem freE_app (a b : List MEnt) : freE (a ++ b) = freE a ++ freE b := by unfold freE; rw [List.filter_append, List.map_append]
theorem nb_ne : ¬ ("name" : Str) = "bound" := by decide +kernel
theorem bn_ne : ¬ ("bound" : Str) = "name" := by decide +kernel
theorem freE_name (n : Str) (S : List Str) : freE [("name", n, decide (n ∈ S))] = fltM S [n] := by
  unfold freE fltM
  by_cases c : n ∈ S
  · simp [c]
  · simp [c]
theorem bndE_name (n : Str) (b : Bool) : bndE [("name", n, b)] = [] := by
  unfold bndE
  simp [nb_ne]
mutual
theorem me_frM : ∀ (p : MP) (S : List Str), freE (meM S p) = frM S p
  | .send n m, S => by
    show freE ([(("name" : Str), n, decide (n ∈ S))] ++ [(("name" : Str), m, decide (m ∈ S))]) = fltM S [n, m]
    rw [freE_app, freE_name, freE_name]
    unfold fltM
    rw [← List.filter_append]
    rfl
  | .get n x r, S => by
    show freE ([(("name" : Str), n, decide (n ∈ S))] ++ ([(("bound" : Str), x, false)] ++ meMs (S ++ [x]) r)) = fltM S [n] ++ frMs (S ++ [x]) r
    rw [freE_app, freE_app, freE_name, me_frMs r (S ++ [x]), show freE [("bound", x, false)] = [] from by unfold freE; simp [bn_ne]]
    rfl
theorem me_frMs : ∀ (r : List MP) (S : List Str), freE (meMs S r) = frMs S r
  | [], S => rfl
  | p :: r, S => by
    show freE (meM S p ++ meMs S r) = frM S p ++ frMs S r
    rw [freE_app, me_frM p S, me_frMs r S]
end
mutual
theorem me_bdM : ∀ (p : MP) (S : List Str), bndE (meM S p) = bdM p
  | .send n m, S => by
    show bndE ([(("name" : Str), n, decide (n ∈ S))] ++ [(("name" : Str), m, decide (m ∈ S))]) = []
    rw [bndE_app, bndE_name, bndE_name]
    rfl
  | .get n x r, S => by
    show bndE ([(("name" : Str), n, decide (n ∈ S))] ++ ([(("bound" : Str), x, false)] ++ meMs (S ++ [x]) r)) = x :: bdMs r
    rw [bndE_app, bndE_app, bndE_name, me_bdMs r (S ++ [x]), show bndE [("bound", x, false)] = [x] from by unfold bndE; simp]
    rfl
theorem me_bdMs : ∀ (r : List MP) (S : List Str), bndE (meMs S r) = bdMs r
  | [], S => rfl
  | p :: r, S => by
    show bndE (meM S p ++ meMs S r) = bdM p ++ bdMs r
    rw [bndE_app, me_bdM p S, me_bdMs r S]
end
/-! ### in memory -/
def MEntAt (H : Hp) (e : MEnt) (v : V) : Prop := ∃ t, v = .ref t ∧ H t = some (.tup [.str e.1, .str e.2.1, .bl e.2.2])
def MEntsAt (H : Hp) : List MEnt → List V → Prop
  | [], vs => vs = []
  | e :: es, vs => ∃ v ws, vs = v :: ws ∧ MEntAt H e v ∧ MEntsAt H es ws
theorem MEntsAt.mono {H H' : Hp} (s : STup H H') : ∀ {es : List MEnt} {vs : List V}, MEntsAt H es vs → MEntsAt H' es vs
  | [], _, h => h
  | e :: es, _, h => by
    obtain ⟨v, ws, rfl, ⟨t, rfl, ht⟩, h2⟩ := h
    exact ⟨_, ws, rfl, ⟨t, rfl, s _ _ ht⟩, MEntsAt.mono s h2⟩
theorem MEntsAt.len {H : Hp} : ∀ {es : List MEnt} {vs : List V}, MEntsAt H es vs → vs.length = es.length
  | [], _, h => by rw [h]; rfl
  | e :: es, _, h => by
    obtain ⟨v, ws, rfl, _, h2⟩ := h
    rw [List.length_cons, List.length_cons, MEntsAt.len h2]
theorem MEntsAt.get {H : Hp} : ∀ {es : List MEnt} {vs : List V}, MEntsAt H es vs → ∀ {i : Nat} {v : V}, vs[i]? = some v → ∃ e, es[i]? = some e ∧ MEntAt H e v
  | [], _, h, i, v, hv => by rw [show _ = [] from h] at hv; simp at hv
  | e :: es, _, h, 0, v, hv => by
    obtain ⟨u, ws, rfl, h1, _⟩ := h
    have z : u = v := by simpa using hv
    exact ⟨e, rfl, z ▸ h1⟩
  | e :: es, _, h, i + 1, v, hv => by
    obtain ⟨u, ws, rfl, _, h2⟩ := h
    obtain ⟨e', h3, h4⟩ := MEntsAt.get h2 (i := i) (v := v) (by simpa using hv)
    exact ⟨e', by simpa using h3, h4⟩
theorem MEntsAt.app {H : Hp} {es' : List MEnt} {us : List V} (g : MEntsAt H es' us) : ∀ {es : List MEnt} {vs : List V}, MEntsAt H es vs → MEntsAt H (es ++ es') (vs ++ us)
  | [], _, h => by
    rw [show _ = [] from h]
    exact g
  | e :: es, _, h => by
    obtain ⟨v, ws, rfl, h1, h2⟩ := h
    exact ⟨v, ws ++ us, rfl, h1, MEntsAt.app g h2⟩
theorem MEntsAt.one {H : Hp} {e : MEnt} {v : V} (h : MEntAt H e v) : MEntsAt H [e] [v] := ⟨v, [], rfl, h, rfl⟩
def spMMet (n : Nat) : Sp := fun vs H Q _ => ∃ (v : V) (r : List MP) (aS : Addr) (S : List Str), vs = [v, .ref aS] ∧ ThAt H (thMR r) v ∧ H aS = some (.lst (S.map V.str)) ∧ deepMs r < n ∧ 2 * sizeMs r ≤ 900 ∧ S.length + deepMs r ≤ 900 ∧
  ∀ (H' : Hp) (p : Addr) (us : List V), Same H H' → H p = none → H' p = some (.lst us) → MEntsAt H' (meMs S r) us → Q (.ref p) H'
end Wk

set_option Elab.async false
set_option linter.all false
namespace Wk
open PySem PySem.Spec PyProof.Rows L2 GxR
def spLMail : Sp := fun vs H Q _ => ∃ (v : V) (t : Th), vs = [v] ∧ ThAt H t v ∧ okT t ∧ hdT 4 t ∧ ∀ (H' : Hp) (b : Bool), Same H H' → (b = true ↔ ∃ r, t = thMR r ∧ MailR r) → Q (.bl b) H'
end Wk

set_option Elab.async false
set_option linter.all false
set_option maxRecDepth 100000
set_option maxHeartbeats 400000
namespace Wk
open PySem PySem.Spec PyProof.Rows L2 GxR
theorem abc_lt : ∀ c ∈ abc.cps.toList, c < 128 := by decide +kernel
theorem mn_sh {z : Str} (h : mnB z = true) : Sh 6 z := by
  have l := mn_len h
  have hw := (Bool.and_eq_true_iff.mp (Bool.and_eq_true_iff.mp h).1).2
  have ha := (Bool.and_eq_true_iff.mp (Bool.and_eq_true_iff.mp hw).2).2
  refine ⟨?_, fun c hc => abc_lt c (of_decide_eq_true (List.all_eq_true.mp ha c hc))⟩
  have : z.length = z.cps.toList.length := (Array.length_toList).symm
  omega
mutual
theorem fr_mnM : ∀ (p : MP) (S : List Str), okM p → ∀ x ∈ frM S p, mnB x = true
  | .send n m, S, h, x, hx => by
    have hx : x ∈ [n, m].filter fun n => decide (n ∉ S) := hx
    rcases List.mem_cons.mp (List.mem_filter.mp hx).1 with e | e
    · rw [e]; exact h.1
    · rw [List.mem_singleton.mp e]; exact h.2
  | .get n y r, S, h, x, hx => by
    have hx : x ∈ fltM S [n] ++ frMs (S ++ [y]) r := hx
    rcases List.mem_append.mp hx with e | e
    · rw [List.mem_singleton.mp (List.mem_filter.mp (show x ∈ [n].filter fun n => decide (n ∉ S) from e)).1]
      exact h.1
    · exact fr_mnMs r (S ++ [y]) h.2.2 x e
theorem fr_mnMs : ∀ (r : List MP) (S : List Str), okMs r → ∀ x ∈ frMs S r, mnB x = true
  | [], S, _, x, hx => nomatch hx
  | p :: r, S, h, x, hx => by
    have hx : x ∈ frM S p ++ frMs S r := hx
    rcases List.mem_append.mp hx with e | e
    · exact fr_mnM p S h.1 x e
    · exact fr_mnMs r S h.2 x e
end
def spMAsked (Ts : List Addr) : Sp := fun vs H Q _ => ∃ (v : V) (t : Th), vs = [v] ∧ ThAt H t v ∧ okT t ∧ hdT 4 t ∧ TabsG Ts H ∧ ∀ H', SamTs Ts H H' → Q (.bl true) H'
end Wk

set_option Elab.async false
set_option linter.all false
set_option maxRecDepth 100000
set_option maxHeartbeats 400000
/-! Mail bent: tuples cut; what stays. -/
namespace Wk
open PySem PySem.Spec PyProof.Rows L2 GxR
def rSlS : V → Option Int → Option Int → Hp → VK → Prop := fun x lo hi H Q => ∃ a xs, x = .ref a ∧ H a = some (.tup xs) ∧
  ¬ (HT.sIx xs.length 0 lo = 0 ∧ HT.sIx xs.length xs.length hi = xs.length) ∧ ∀ (H' : Hp) (c : Addr), Same H H' → H' c = some (.tup (cutV xs lo hi)) → Q (.ref c) H'
theorem sl_tupS {X : Cx} : SlR X rSlS := by
  intro pins s σ H x v vl vu lo hi sl Q I rx hs pl pu h
  obtain ⟨a, xs, ex, ha, hw, q⟩ := h
  exact sl_tup pins s σ H x v vl vu lo hi sl Q I rx hs pl pu ⟨a, xs, ex, SqT.of ha, hw, fun p np => q _ p (same_new np) upd_same⟩
/-! ### cut lists of things -/
theorem ThsAt.drop {H : Hp} : ∀ {ts : List Th} {vs : List V} (n : Nat), ThsAt H ts vs → ThsAt H (ts.drop n) (vs.drop n)
  | ts, vs, 0, h => h
  | [], vs, n + 1, h => by rw [show vs = [] from h]; rfl
  | t :: ts, vs, n + 1, h => by
    obtain ⟨v, us, rfl, _, h2⟩ := h
    exact ThsAt.drop n h2
theorem ThsAt.take {H : Hp} : ∀ {ts : List Th} {vs : List V} (n : Nat), ThsAt H ts vs → ThsAt H (ts.take n) (vs.take n)
  | ts, vs, 0, h => by rw [List.take_zero, List.take_zero]; rfl
  | [], vs, n + 1, h => by rw [show vs = [] from h]; rfl
  | t :: ts, vs, n + 1, h => by
    obtain ⟨v, us, rfl, h1, h2⟩ := h
    exact ⟨v, us.take n, rfl, h1, ThsAt.take n h2⟩
def cutG (ts : List Th) (lo hi : Option Int) : List Th := (ts.drop (HT.sIx ts.length 0 lo)).take (HT.sIx ts.length ts.length hi - HT.sIx ts.length 0 lo)
theorem ThsAt.cut {H : Hp} {ts : List Th} {vs : List V} (lo hi : Option Int) (h : ThsAt H ts vs) : ThsAt H (cutG ts lo hi) (cutV vs lo hi) := by
  unfold cutG cutV
  rw [ThsAt.len h]
  exact ThsAt.take _ (ThsAt.drop _ h)
theorem len_cut (ts : List Th) (lo hi : Option Int) : (cutG ts lo hi).length ≤ ts.length := by
  unfold cutG
  rw [List.length_take, List.length_drop]
  omega
theorem ok_cut {ts : List Th} (lo hi : Option Int) (h : okTs ts) : okTs (cutG ts lo hi) :=
  okTs.of fun t ht => okTs.mem h t (List.mem_of_mem_drop (List.mem_of_mem_take ht))
theorem okTs_app {l m : List Th} (h : okTs l) (g : okTs m) : okTs (l ++ m) :=
  okTs.of fun t ht => (List.mem_append.mp ht).elim (okTs.mem h t) (okTs.mem g t)
/-- all but the list at L stays; L holds one number -/
def KpM (L : Addr) (H H' : Hp) : Prop := (∀ b o, b ≠ L → H b = some o → H' b = some o) ∧ ∃ n : Int, H' L = some (.lst [.int n])
theorem KpM.digit {L : Addr} {H : Hp} {n' : Int} : KpM L H (upd H L (.lst [.int n'])) := ⟨fun b o nb e => (upd_ne nb).trans e, n', upd_same⟩
theorem KpM.sm {L : Addr} {H H1 H2 : Hp} (a : KpM L H H1) (s : Same H1 H2) : KpM L H H2 := ⟨fun b o nb e => s _ _ (a.1 b o nb e), a.2.imp fun n e => s _ _ e⟩
theorem KpM.trans {L : Addr} {H H1 H2 : Hp} (a : KpM L H H1) (b : KpM L H1 H2) : KpM L H H2 := ⟨fun c o nc e => b.1 c o nc (a.1 c o nc e), b.2⟩
theorem KpM.refl {L : Addr} {H : Hp} {n : Int} (h : H L = some (.lst [.int n])) : KpM L H H := ⟨fun _ _ _ e => e, n, h⟩
theorem KpM.tup {L : Addr} {H H' : Hp} {n : Int} (h : H L = some (.lst [.int n])) (k : KpM L H H') : STup H H' := fun a xs e => k.1 a _ (fun z => by rw [z, h] at e; cases e) e
def itemsM : MP → List Th
  | .send n m => [.str "send", .str n, .str m]
  | .get n x r => [.str "get", .str n, .str x, .tup (thMs r)]
theorem thM_items (p : MP) : thM p = .tup (itemsM p) := by cases p <;> rfl
/-- a mail with one thing in it bent -/
def spMBent (n : Nat) : Sp := fun vs H Q _ => ∃ (v : V) (r : List MP) (L Bd : Addr) (x : Int) (bs : List Str), vs = [v, .ref L, .ref Bd] ∧ ThAt H (thMR r) v ∧ okMs r ∧ sizeMs r ≤ 20 ∧ deepMs r < n ∧ H L = some (.lst [.int x]) ∧ H Bd = some (.lst (bs.map V.str)) ∧ Bd ≠ L ∧ (∀ z ∈ bs, mnB z = true) ∧ bs.length ≤ 100 ∧
  ∀ (H' : Hp) (u : V) (t : Th), KpM L H H' → ThAt H' t u → okT t → (∀ k, hdT k t) → Q u H'
def rEqT0 (K : PySem.W.Frag) : R2 := fun x y H Q => ∃ (a b : Addr) (xs : List V), x = .ref a ∧ y = .ref b ∧ SqT K H a xs ∧ SqT K H b [] ∧ Q (.bl xs.isEmpty) H
theorem op_eqT0 {X : Cx} (hu : X.A.units + 64 < cLine) : OpR X (compareOp .Eq) (rEqT0 X.K) := by
  intro pins s σ H x y v u Q I rx ry h
  obtain ⟨a, b, xs, rfl, rfl, ha, hb, q⟩ := h
  cases rx
  cases ry
  obtain ⟨its, r1, ⟨o, h1, h2, n, h3⟩, _⟩ := I.tuple ha
  obtain ⟨its2, r2, ⟨o2, k1, k2, n2, k3⟩, _⟩ := I.tuple hb
  cases r2
  have l1 := r1.length
  have t := SeqAt.RcAt.tuples (A := X.A) (s := s) (e := fun _ => true) (items := its.toArray) (items2 := #[]) ⟨o, h1, h2, n, h3⟩ ⟨o2, k1, k2, n2, k3⟩ (by omega) (fun j j1 j2 => absurd j2 (by simp))
  refine t X.prog X.w X.xe _ ?_
  have e : (((List.range (min its.toArray.size (#[] : Array Value).size)).all fun _ => true) && its.toArray.size == (#[] : Array Value).size) = xs.isEmpty := by
    have a1 : ((List.range (min its.toArray.size (#[] : Array Value).size)).all fun _ => true) = true := List.all_eq_true.mpr fun _ _ => rfl
    rw [a1, Bool.true_and, List.size_toArray, ← l1]
    cases xs <;> rfl
  exact ⟨.bl xs.isEmpty, H, I, by rw [← e]; rfl, q⟩
end Wk

set_option Elab.async false
set_option linter.all false
set_option maxRecDepth 100000
set_option maxHeartbeats 400000
/-! Mail bent: the row told. -/
namespace Wk
open PySem PySem.Spec PyProof.Rows L2 GxR
theorem cutTo {xs : List V} {j : Nat} (h : j ≤ xs.length) : cutV xs none (some (j : Int)) = xs.take j := by
  unfold cutV
  rw [HT.sIx_none, HT.sIx_nat, Nat.min_eq_left h, List.drop_zero, Nat.sub_zero]
theorem cutOff {xs : List V} {j : Nat} (h : j ≤ xs.length) : cutV xs (some (j : Int)) none = xs.drop j := by
  unfold cutV
  rw [HT.sIx_none, HT.sIx_nat, Nat.min_eq_left h]
  exact List.take_of_length_le (by rw [List.length_drop]; omega)
abbrev tBRet : TE := tOp rCatM (tOp rCatM (tSl rSlS (tVar 0) tNoPart (tPart (tVar 3))) (tTup (tCons (tVar 4) tNil))) (tSl rSlS (tVar 0) (tPart (tOp (rI0 fun i j => .int (i + j)) (tVar 3) (tC (.int 1)))) tNoPart)
/-- mail[:at] + (part,) + mail[at + 1:] -/
theorem bent_ret {σ : L2.St} {H H5 : Hp} {Q : VK} {L a : Addr} {xs : List V} {r : List MP} {j : Nat} {u : V} {xT : Th} {n5 : Int} (hn5 : H5 L = some (.lst [.int n5])) (ha : H5 a = some (.tup xs)) (hps : ThsAt H5 (thMs r) xs) (hj : j < xs.length) (hok : okMs r) (hsz : sizeMs r ≤ 20)
    (σ0 : σ[0]? = some (some (.ref a))) (σ3 : σ[3]? = some (some (.int (j : Nat)))) (σ4 : σ[4]? = some (some u)) (k5 : KpM L H H5) (hu : ThAt H5 xT u) (oku : okT xT) (hdu : ∀ k, hdX k xT)
    (q : ∀ (H' : Hp) (u : V) (t : Th), KpM L H H' → ThAt H' t u → okT t → (∀ k, hdT k t) → Q u H') : tBRet σ H5 Q := by
  have lx : xs.length = r.length := (ThsAt.len hps).trans (thMs_len r)
  have l20 := len_sizeMs r
  refine ⟨_, σ0, _, σ3, _, rfl, a, xs, rfl, ha, ?_, fun H6 c1 s6 hc1 => ?_⟩
  · rw [HT.sIx_nat]
    rintro ⟨_, e⟩
    omega
  rw [cutTo (by omega)] at hc1
  refine ⟨_, σ4, (show 1 ≤ sizeLine by decide), fun t1 nt1 => ?_⟩
  refine ⟨c1, t1, _, _, rfl, rfl, kn hc1 nt1, upd_same, by rw [List.length_take, List.length_singleton]; omega, fun H7 c2 s7 hc2 => ?_⟩
  have s57 : Same H5 H7 := s6.trans ((same_new nt1).trans s7)
  have ej : ((j : Nat) : Int) + 1 = ((j + 1 : Nat) : Int) := by omega
  refine ⟨_, σ0, _, σ3, _, _, rfl, rfl, _, rfl, a, xs, rfl, s57 _ _ ha, ?_, fun H8 c3 s8 hc3 => ?_⟩
  · rw [ej, HT.sIx_nat]
    rintro ⟨e, _⟩
    omega
  rw [ej, cutOff (by omega)] at hc3
  refine ⟨c2, c3, _, _, rfl, rfl, s8 _ _ hc2, hc3, by rw [List.length_append, List.length_take, List.length_singleton, List.length_drop]; omega, fun H9 c4 s9 hc4 => ?_⟩
  have s59 : Same H5 H9 := s57.trans (s8.trans s9)
  have okr : okTs (thMs r) := okT_Ms r hok (by omega)
  refine q H9 (.ref c4) (.tup (((thMs r).take j ++ [xT]) ++ (thMs r).drop (j + 1))) (k5.sm s59) ⟨c4, _, rfl, hc4, ?_⟩ ⟨?_, ?_⟩ fun k => ?_
  · exact ThsAt.mono (Kpt.same s59) _ _ (ThsAt.app (ThsAt.drop (j + 1) hps) (ThsAt.app (ThsAt.one hu) (ThsAt.take j hps)))
  · rw [List.length_append, List.length_append, List.length_take, List.length_singleton, List.length_drop, thMs_len]
    omega
  · exact okTs_app (okTs_app (okTs.of fun t ht => okr.mem t (List.mem_of_mem_take ht)) ⟨oku, trivial⟩) (okTs.of fun t ht => okr.mem t (List.mem_of_mem_drop ht))
  · cases k with
    | zero => trivial
    | succ k =>
      refine hdT_row fun x hx => ?_
      rcases List.mem_append.mp hx with h | h
      · rcases List.mem_append.mp h with h | h
        · exact hdXs r k x (List.mem_of_mem_take h)
        · rw [List.mem_singleton.mp h]; exact hdu k
      · exact hdXs r k x (List.mem_of_mem_drop h)
end Wk

set_option Elab.async false
set_option linter.all false
set_option maxRecDepth 100000
set_option maxHeartbeats 1000000
/-! Rows within rows: where they stand, and others put there. -/
namespace Wk
open PySem PySem.Spec PyProof.Rows L2 GxR
/-- the row within the room at a place -/
def roomAt (r : List Part) (i : Nat) : Option (List Part) := match r[i]? with
  | some (.oth .room _ q) => some q
  | _ => none
def rowAt (r : List Part) : List Nat → Option (List Part)
  | [] => some r
  | i :: p => (roomAt r i).bind fun q => rowAt q p
theorem rowAt_app (r : List Part) : ∀ p q : List Nat, rowAt r (p ++ q) = (rowAt r p).bind fun s => rowAt s q
  | [], q => rfl
  | i :: p, q => by
    show (roomAt r i).bind (fun s => rowAt s (p ++ q)) = ((roomAt r i).bind fun s => rowAt s p).bind fun s => rowAt s q
    cases roomAt r i with
    | none => rfl
    | some s => exact rowAt_app s p q
def putAt (r : List Part) : List Nat → List Part → List Part
  | [], q => q
  | i :: p, q => match r[i]? with
    | some (.oth w n s) => r.set i (.oth w n (putAt s p q))
    | _ => r
theorem roomAt_some {r : List Part} {i : Nat} {q : List Part} (h : roomAt r i = some q) : ∃ n, r[i]? = some (.oth .room n q) := by
  unfold roomAt at h
  split at h
  · rename_i n q' e
    cases h
    exact ⟨n, e⟩
  · cases h
def spPartAt : Sp := fun vs H Q _ => ∃ (a : Addr) (xs : List V) (r : List Part) (i : Int) (w : Str), vs = [.ref a, .int i, .str w] ∧ H a = some (.tup xs) ∧ PartsAt H r xs ∧ r.length ≤ 100000 ∧
  (∀ (j : Nat) (p : Part) (v : V), i = (j : Nat) → r[j]? = some p → xs[j]? = some v → wordP p = w → Q v H) ∧ ((∀ (j : Nat) (p : Part), i = (j : Nat) → r[j]? = some p → wordP p ≠ w) → Q .non H)
def spRowAt : Sp := fun vs H Q _ => ∃ (s pa : Addr) (n : Int) (rv : V) (r : List Part) (path : List Nat), vs = [.ref s, .ref pa] ∧ H s = some (.tup [.int n, rv]) ∧ RowAt H r rv ∧ sizeR r ≤ 100000 ∧ H pa = some (.tup (vN path)) ∧
  (∀ q v, rowAt r path = some q → RowAt H q v → Q v H) ∧ (rowAt r path = none → Q .non H)
def spWithRow : Sp := fun vs H Q _ => ∃ (v rv : V) (w : Wd) (n : Str) (q r : List Part), vs = [v, rv] ∧ PartAt H (.oth w n q) v ∧ RowAt H r rv ∧ ∀ H' u, Same H H' → PartAt H' (.oth w n r) u → Q u H'
def spWithPart : Sp := fun vs H Q _ => ∃ (v pv : V) (r : List Part) (k : Nat) (p : Part), vs = [v, .int (k : Nat), pv] ∧ RowAt H r v ∧ r.length ≤ 100000 ∧ k < r.length ∧ PartAt H p pv ∧ ∀ H' u, Same H H' → RowAt H' (r.set k p) u → Q u H'
def spPutAt (n : Nat) : Sp := fun vs H Q _ => ∃ (v tv : V) (r q : List Part) (pa : Addr) (path : List Nat), vs = [v, .ref pa, tv] ∧ RowAt H r v ∧ sizeR r ≤ 100000 ∧ H pa = some (.tup (vN path)) ∧ path.length < n ∧ path.length ≤ 1000 ∧ (rowAt r path).isSome = true ∧ RowAt H q tv ∧
  ∀ H' u, Same H H' → RowAt H' (putAt r path q) u → Q u H'
theorem vN_get {l : List Nat} {i : Nat} {v : V} (h : (vN l)[i]? = some v) : ∃ n, l[i]? = some n ∧ v = .int (n : Nat) := by
  unfold vN iN at h
  rw [List.map_map, List.getElem?_map] at h
  obtain ⟨n, h1, rfl⟩ := Option.map_eq_some_iff.mp h
  exact ⟨n, h1, rfl⟩
theorem vN_len (l : List Nat) : (vN l).length = l.length := by
  unfold vN iN
  rw [List.length_map, List.length_map]
theorem vN_drop (l : List Nat) (k : Nat) : (vN l).drop k = vN (l.drop k) := by
  unfold vN iN
  rw [List.map_drop, List.map_drop]
theorem vN_app (a b : List Nat) : vN (a ++ b) = vN a ++ vN b := by
  unfold vN iN
  rw [List.map_append, List.map_append]
theorem PartsAt.at {H : Hp} : ∀ {r : List Part} {xs : List V} {i : Nat} {p : Part}, PartsAt H r xs → r[i]? = some p → ∃ v, xs[i]? = some v ∧ PartAt H p v
  | [], _, i, p, _, e => by cases e
  | p0 :: r, xs, i, p, h, e => by
    obtain ⟨v, us, rfl, h1, h2⟩ := h
    cases i with
    | zero =>
      cases e
      exact ⟨v, rfl, h1⟩
    | succ i => exact PartsAt.at (i := i) h2 e
theorem PartsAt.take {H : Hp} : ∀ {r : List Part} {xs : List V} (n : Nat), PartsAt H r xs → PartsAt H (r.take n) (xs.take n)
  | r, xs, 0, h => by rw [List.take_zero, List.take_zero]; rfl
  | [], xs, n + 1, h => by rw [show xs = [] from h]; rfl
  | p :: r, xs, n + 1, h => by
    obtain ⟨v, us, rfl, h1, h2⟩ := h
    exact ⟨v, us.take n, rfl, h1, h2.take n⟩
theorem PartsAt.drop {H : Hp} : ∀ {r : List Part} {xs : List V} (n : Nat), PartsAt H r xs → PartsAt H (r.drop n) (xs.drop n)
  | r, xs, 0, h => h
  | [], xs, n + 1, h => by rw [show xs = [] from h]; rfl
  | p :: r, xs, n + 1, h => by
    obtain ⟨v, us, rfl, h1, h2⟩ := h
    exact h2.drop n
theorem set_split {r : List Part} {k : Nat} (p : Part) (h : k < r.length) : r.set k p = r.take k ++ (p :: r.drop (k + 1)) := List.set_eq_take_append_cons_drop.trans (if_pos h)
theorem word_room {p : Part} (h : wordP p = "room") : ∃ n q, p = .oth .room n q := by
  cases p with
  | say n => exact absurd (show ("say" : Str) = "room" from h) (by decide +kernel)
  | again q => exact absurd (show ("again" : Str) = "room" from h) (by decide +kernel)
  | oth w n q =>
    cases w with
    | room => exact ⟨n, q, rfl⟩
    | inn => exact absurd (show Wd.str .inn = "room" from h) (by decide +kernel)
    | out => exact absurd (show Wd.str .out = "room" from h) (by decide +kernel)
    | opn => exact absurd (show Wd.str .opn = "room" from h) (by decide +kernel)
    | hear => exact absurd (show Wd.str .hear = "room" from h) (by decide +kernel)
    | new => exact absurd (show Wd.str .new = "room" from h) (by decide +kernel)
theorem word_again {p : Part} (h : wordP p = "again") : ∃ q, p = .again q := by
  cases p with
  | say n => exact absurd (show ("say" : Str) = "again" from h) (by decide +kernel)
  | again q => exact ⟨q, rfl⟩
  | oth w n q =>
    cases w with
    | room => exact absurd (show Wd.str .room = "again" from h) (by decide +kernel)
    | inn => exact absurd (show Wd.str .inn = "again" from h) (by decide +kernel)
    | out => exact absurd (show Wd.str .out = "again" from h) (by decide +kernel)
    | opn => exact absurd (show Wd.str .opn = "again" from h) (by decide +kernel)
    | hear => exact absurd (show Wd.str .hear = "again" from h) (by decide +kernel)
    | new => exact absurd (show Wd.str .new = "again" from h) (by decide +kernel)
theorem room_size {r : List Part} {i : Nat} {w : Wd} {n : Str} {q : List Part} (h : r[i]? = some (.oth w n q)) : sizeR q ≤ sizeR r := by
  have := sizeR.mem _ (List.mem_of_getElem? h)
  have e : sizeP (.oth w n q) = sizeR q + 1 := by
    simp only [sizeP]
  omega
end Wk

set_option Elab.async false
set_option linter.all false
set_option maxRecDepth 100000
set_option maxHeartbeats 1000000
/-! Two walks in one comprehension; what steps there are. -/
namespace Wk
open PySem PySem.Spec PyProof.Rows L2 GxR
theorem lc2_in {J : It} {n : Nat} {G : Hp → Prop} {Y : Nat → Hp → V → Hp → Prop} (wk : Walk J n G Y) {g1 : TG} {tt1 : TT} {te : TE} {vs1 : List Nat} {τ : L2.St} {Ha : Hp} {D : Addr} {Qe : Hp → Prop} (Pd : Nat → Hp → Prop) (hz : Pd 0 Ha) (hGd : ∀ j Hj, j ≤ n → Pd j Hj → G Hj)
    (turn : ∀ j v Hj Hk, j < n → Pd j Hj → Y j Hj v Hk → g1 v (wipe τ vs1) Hk fun τ2 Hb => wipe τ2 vs1 = wipe τ vs1 ∧ tt1 τ2 Hb fun yes Hc =>
      if yes = true then te τ2 Hc fun y He => ∃ acc, He D = some (.lst acc) ∧ acc.length < sizeLine ∧ Pd (j + 1) (upd He D (.lst (acc ++ [y]))) else Pd (j + 1) Hc) (fin : ∀ Hj, Pd n Hj → Qe Hj) :
    ∃ Wd : Nat → Nat → Hp → Prop, (∃ m0, Wd 0 m0 Ha) ∧ ∀ j m0 Hj, Wd j m0 Hj →
      (J.stop j Hj ∧ Qe Hj) ∨ (J.go j Hj ∧ ∃ Nd : Hp → Prop, (∀ Hk, Nd Hk → ∃ m1, m1 < m0 ∧ Wd (j + 1) m1 Hk) ∧ ∀ v Hk, J.yld j Hj v Hk → g1 v (wipe τ vs1) Hk fun τ2 Hb => wipe τ2 vs1 = wipe τ vs1 ∧ tt1 τ2 Hb fun yes Hc =>
        if yes = true then te τ2 Hc fun y He => ∃ acc, He D = some (.lst acc) ∧ acc.length < sizeLine ∧ Nd (upd He D (.lst (acc ++ [y]))) else Nd Hc) := by
  refine ⟨fun j m0 Hj => (j ≤ n ∧ m0 + j = n) ∧ Pd j Hj, ⟨n, ⟨Nat.zero_le n, rfl⟩, hz⟩, fun j m0 Hj hW => ?_⟩
  obtain ⟨⟨hj, hm⟩, hP⟩ := hW
  rcases Nat.lt_or_ge j n with lt | ge
  · exact .inr ⟨wk.goes j Hj lt (hGd j Hj hj hP), Pd (j + 1), fun Hk hk => ⟨m0 - 1, by omega, ⟨lt, by omega⟩, hk⟩, fun v Hk hy => turn j v Hj Hk lt hP (wk.yields j Hj v Hk lt (hGd j Hj hj hP) hy)⟩
  · cases (show j = n by omega)
    exact .inl ⟨wk.stops Hj (hGd _ Hj hj hP), fin Hj hP⟩
/-- both -/
theorem lc2_it {J : It} {n : Nat} {G : Hp → Prop} {Y : Nat → Hp → V → Hp → Prop} (wk : Walk J n G Y) {g g1 : TG} {tt tt1 : TT} {wi1 : TI} {te : TE} {vs vs1 : List Nat} {τ : L2.St} {Ha : Hp} {D : Addr} {Qe : Hp → Prop} (Pd : Nat → Hp → Prop) (hz : Pd 0 (upd Ha D (.lst []))) (hGd : ∀ j Hj, j ≤ n → Pd j Hj → G Hj)
    (turn : ∀ j v Hj Hk, j < n → Pd j Hj → Y j Hj v Hk → g v (wipe τ vs) Hk fun τ2 Hb => wipe τ2 vs = wipe τ vs ∧ tt τ2 Hb fun yes Hc =>
      if yes = true then wi1 τ2 Hc fun J1 Hd => ∃ W1 : Nat → Nat → Hp → Prop, (∃ m, W1 0 m Hd) ∧ ∀ j1 k He, W1 j1 k He →
        (J1.stop j1 He ∧ Pd (j + 1) He) ∨ (J1.go j1 He ∧ ∃ Nx1 : Hp → Prop, (∀ Hf, Nx1 Hf → ∃ k', k' < k ∧ W1 (j1 + 1) k' Hf) ∧ ∀ x Hf, J1.yld j1 He x Hf → g1 x (wipe τ2 vs1) Hf fun τ3 Hg => wipe τ3 vs1 = wipe τ2 vs1 ∧ tt1 τ3 Hg fun b Hh =>
          if b = true then te τ3 Hh fun y Hi => ∃ acc, Hi D = some (.lst acc) ∧ acc.length < sizeLine ∧ Nx1 (upd Hi D (.lst (acc ++ [y]))) else Nx1 Hh)
      else Pd (j + 1) Hc) (fin : ∀ Hj, Pd n Hj → Qe Hj) :
    ∃ Wd : Nat → Nat → Hp → Prop, (∃ m0, Wd 0 m0 (upd Ha D (.lst []))) ∧ ∀ j m0 Hj, Wd j m0 Hj →
      (J.stop j Hj ∧ Qe Hj) ∨ (J.go j Hj ∧ ∃ Nd : Hp → Prop, (∀ Hk, Nd Hk → ∃ m1, m1 < m0 ∧ Wd (j + 1) m1 Hk) ∧ ∀ v Hk, J.yld j Hj v Hk → g v (wipe τ vs) Hk fun τ2 Hb => wipe τ2 vs = wipe τ vs ∧ tt τ2 Hb fun yes Hc =>
        if yes = true then wi1 τ2 Hc fun J1 Hd => ∃ W1 : Nat → Nat → Hp → Prop, (∃ m, W1 0 m Hd) ∧ ∀ j1 k He, W1 j1 k He →
          (J1.stop j1 He ∧ Nd He) ∨ (J1.go j1 He ∧ ∃ Nx1 : Hp → Prop, (∀ Hf, Nx1 Hf → ∃ k', k' < k ∧ W1 (j1 + 1) k' Hf) ∧ ∀ x Hf, J1.yld j1 He x Hf → g1 x (wipe τ2 vs1) Hf fun τ3 Hg => wipe τ3 vs1 = wipe τ2 vs1 ∧ tt1 τ3 Hg fun b Hh =>
            if b = true then te τ3 Hh fun y Hi => ∃ acc, Hi D = some (.lst acc) ∧ acc.length < sizeLine ∧ Nx1 (upd Hi D (.lst (acc ++ [y]))) else Nx1 Hh)
        else Nd Hc) := by
  refine ⟨fun j m0 Hj => (j ≤ n ∧ m0 + j = n) ∧ Pd j Hj, ⟨n, ⟨Nat.zero_le n, rfl⟩, hz⟩, fun j m0 Hj hW => ?_⟩
  obtain ⟨⟨hj, hm⟩, hP⟩ := hW
  rcases Nat.lt_or_ge j n with lt | ge
  · exact .inr ⟨wk.goes j Hj lt (hGd j Hj hj hP), Pd (j + 1), fun Hk hk => ⟨m0 - 1, by omega, ⟨lt, by omega⟩, hk⟩, fun v Hk hy => turn j v Hj Hk lt hP (wk.yields j Hj v Hk lt (hGd j Hj hj hP) hy)⟩
  · cases (show j = n by omega)
    exact .inl ⟨wk.stops Hj (hGd _ Hj hj hP), fin Hj hP⟩
/-! ### steps -/
def hasAt (f : Part → Bool) (r : List Part) (j : Nat) : Bool := match r[j]? with
  | some p => f p
  | none => false
def idx (f : Part → Bool) (r : List Part) (n : Nat) : List Nat := (List.range n).filter (hasAt f r)
theorem idx_succ {f : Part → Bool} {r : List Part} {n : Nat} {p : Part} (h : r[n]? = some p) : idx f r (n + 1) = idx f r n ++ (if f p = true then [n] else []) := by
  unfold idx
  rw [List.range_succ, List.filter_append]
  congr 1
  have e : hasAt f r n = f p := by unfold hasAt; rw [h]
  by_cases c : f p = true
  · rw [if_pos c, List.filter_cons_of_pos (by rw [e]; exact c)]; rfl
  · rw [if_neg c, List.filter_cons_of_neg (by rw [e]; exact c)]; rfl
theorem idx_len (f : Part → Bool) (r : List Part) (n : Nat) : (idx f r n).length ≤ n := by
  unfold idx
  exact Nat.le_trans (List.length_filter_le _ _) (by rw [List.length_range]; exact Nat.le_refl _)
def isRoomC (c : Str) : Part → Bool
  | .oth .room n _ => decide (n = c)
  | _ => false
def isHear : Part → Bool
  | .oth .hear _ _ => true
  | _ => false
def isOutC (c : Str) : Part → Bool
  | .oth .out n _ => decide (n = c)
  | _ => false
def roomsC (r : List Part) (c : Str) : List Nat := idx (isRoomC c) r r.length
def goalsD (r : List Part) (k : Nat) (q : List Part) (d : Nat) : List (Nat × Nat) := match q[d]? with
  | some (.oth .inn c _) => ((roomsC r c).filter fun j => decide (j ≠ k)).map fun j => (d, j)
  | _ => []
def goalsN (r : List Part) (k : Nat) (q : List Part) (n : Nat) : List (Nat × Nat) := ((List.range n).map (goalsD r k q)).flatten
def leavD (c : Str) (q : List Part) (j : Nat) : List (Nat × Nat) := match q[j]? with
  | some (.oth .room _ s) => (idx (isOutC c) s s.length).map fun d => (j, d)
  | _ => []
def leavN (c : Str) (q : List Part) (n : Nat) : List (Nat × Nat) := ((List.range n).map (leavD c q)).flatten
theorem goalsN_succ (r : List Part) (k : Nat) (q : List Part) (n : Nat) : goalsN r k q (n + 1) = goalsN r k q n ++ goalsD r k q n := by
  unfold goalsN
  rw [List.range_succ, List.map_append, List.flatten_append]
  show _ ++ (goalsD r k q n ++ []) = _
  rw [List.append_nil]
theorem leavN_succ (c : Str) (q : List Part) (n : Nat) : leavN c q (n + 1) = leavN c q n ++ leavD c q n := by
  unfold leavN
  rw [List.range_succ, List.map_append, List.flatten_append]
  show _ ++ (leavD c q n ++ []) = _
  rw [List.append_nil]
mutual
def gsP (path : List Nat) (r : List Part) (k : Nat) : Part → List Stp
  | .oth .room c q => ((goalsN r k q q.length).map fun x => ⟨"in", path, [k, x.1, x.2]⟩) ++ (((leavN c q q.length).map fun x => ⟨"out", path, [k, x.1, x.2]⟩) ++ gsL (path ++ [k]) q 0 q)
  | .oth .opn c _ => (roomsC r c).map fun j => ⟨"open", path, [k, j]⟩
  | .say _ => (idx isHear r r.length).map fun j => ⟨"letter", path, [k, j]⟩
  | .again _ => [⟨"again", path, [k]⟩]
  | _ => []
def gsL (path : List Nat) (r : List Part) (k : Nat) : List Part → List Stp
  | [] => []
  | p :: ps => gsP path r k p ++ gsL path r (k + 1) ps
end
def gsR (path : List Nat) (r : List Part) : List Stp := gsL path r 0 r
theorem gsL_snoc (path : List Nat) (r : List Part) (p : Part) : ∀ (k : Nat) (l : List Part), gsL path r k (l ++ [p]) = gsL path r k l ++ gsP path r (k + l.length) p
  | k, [] => by
    show gsP path r k p ++ gsL path r (k + 1) [] = [] ++ gsP path r (k + 0) p
    simp only [gsL, List.append_nil, List.nil_append, Nat.add_zero]
  | k, x :: l => by
    show gsP path r k x ++ gsL path r (k + 1) (l ++ [p]) = gsP path r k x ++ gsL path r (k + 1) l ++ gsP path r (k + (l.length + 1)) p
    rw [gsL_snoc path r p (k + 1) l, List.append_assoc, show k + 1 + l.length = k + (l.length + 1) by omega]
/-- lists of pairs of places -/
def PrsAt (H : Hp) : List (Nat × Nat) → List V → Prop
  | [], vs => vs = []
  | x :: xs, vs => ∃ t us, vs = .ref t :: us ∧ H t = some (.tup [.int (x.1 : Nat), .int (x.2 : Nat)]) ∧ PrsAt H xs us
theorem PrsAt.tup {H H' : Hp} (s : STup H H') : ∀ {xs : List (Nat × Nat)} {vs : List V}, PrsAt H xs vs → PrsAt H' xs vs
  | [], _, h => h
  | x :: xs, _, h => by
    obtain ⟨t, us, e, h1, h2⟩ := h
    exact ⟨t, us, e, s _ _ h1, h2.tup s⟩
theorem PrsAt.len {H : Hp} : ∀ {xs : List (Nat × Nat)} {vs : List V}, PrsAt H xs vs → vs.length = xs.length
  | [], _, h => by rw [show _ = [] from h]; rfl
  | x :: xs, _, h => by
    obtain ⟨t, us, rfl, h1, h2⟩ := h
    rw [List.length_cons, List.length_cons, h2.len]
theorem PrsAt.snoc {H : Hp} {x : Nat × Nat} {t : Addr} (ht : H t = some (.tup [.int (x.1 : Nat), .int (x.2 : Nat)])) : ∀ {xs : List (Nat × Nat)} {vs : List V}, PrsAt H xs vs → PrsAt H (xs ++ [x]) (vs ++ [.ref t])
  | [], _, h => by
    rw [show _ = [] from h]
    exact ⟨t, [], rfl, ht, rfl⟩
  | y :: xs, _, h => by
    obtain ⟨t', us, rfl, h1, h2⟩ := h
    exact ⟨t', _, rfl, h1, h2.snoc ht⟩
theorem PrsAt.get {H : Hp} : ∀ {xs : List (Nat × Nat)} {vs : List V} {i : Nat} {v : V}, PrsAt H xs vs → vs[i]? = some v → ∃ x t, xs[i]? = some x ∧ v = .ref t ∧ H t = some (.tup [.int (x.1 : Nat), .int (x.2 : Nat)])
  | [], _, i, v, h, e => by
    rw [show _ = [] from h] at e
    cases e
  | x :: xs, _, i, v, h, e => by
    obtain ⟨t, us, rfl, h1, h2⟩ := h
    cases i with
    | zero =>
      cases e
      exact ⟨x, t, rfl, rfl, h1⟩
    | succ i => exact PrsAt.get (i := i) h2 e
theorem rooms_len (r : List Part) (c : Str) : (roomsC r c).length ≤ r.length := idx_len _ _ _
theorem goalsD_len (r : List Part) (k : Nat) (q : List Part) (d : Nat) : (goalsD r k q d).length ≤ r.length := by
  unfold goalsD
  split
  · rename_i c _ _
    rw [List.length_map]
    exact Nat.le_trans (List.length_filter_le _ _) (rooms_len r c)
  · exact Nat.zero_le _
theorem goalsN_len (r : List Part) (k : Nat) (q : List Part) : ∀ n, (goalsN r k q n).length ≤ n * r.length
  | 0 => Nat.zero_le _
  | n + 1 => by
    have h1 := goalsN_len r k q n
    have h2 := goalsD_len r k q n
    rw [goalsN_succ, List.length_append, Nat.succ_mul]
    omega
theorem leavD_len {m : Nat} (c : Str) (q : List Part) (hq : sizeR q ≤ m) (d : Nat) : (leavD c q d).length ≤ m := by
  unfold leavD
  split
  · rename_i n s e
    rw [List.length_map]
    have h1 := idx_len (isOutC c) s s.length
    have h2 := len_sizeR s
    have h3 := room_size e
    omega
  · exact Nat.zero_le _
theorem leavN_len {m : Nat} (c : Str) (q : List Part) (hq : sizeR q ≤ m) : ∀ n, (leavN c q n).length ≤ n * m
  | 0 => Nat.zero_le _
  | n + 1 => by
    have h1 := leavN_len c q hq n
    have h2 := leavD_len c q hq n
    rw [leavN_succ, List.length_append, Nat.succ_mul]
    omega
theorem goalsD_no {r : List Part} {k : Nat} {q : List Part} {d : Nat} {p : Part} (h : q[d]? = some p) (no : ∀ c s, p ≠ .oth .inn c s) : goalsD r k q d = [] := by
  unfold goalsD
  rw [h]
  split
  · rename_i c s e
    exact absurd (Option.some.inj e) (no c s)
  · rfl
theorem leavD_no {c : Str} {q : List Part} {d : Nat} {p : Part} (h : q[d]? = some p) (no : ∀ c s, p ≠ .oth .room c s) : leavD c q d = [] := by
  unfold leavD
  rw [h]
  split
  · rename_i c s e
    exact absurd (Option.some.inj e) (no c s)
  · rfl
theorem word_in {p : Part} (h : wordP p = "in") : ∃ n q, p = .oth .inn n q := by
  cases p with
  | say n => exact absurd (show ("say" : Str) = "in" from h) (by decide +kernel)
  | again q => exact absurd (show ("again" : Str) = "in" from h) (by decide +kernel)
  | oth w n q =>
    cases w with
    | inn => exact ⟨n, q, rfl⟩
    | room => exact absurd (show Wd.str .room = "in" from h) (by decide +kernel)
    | out => exact absurd (show Wd.str .out = "in" from h) (by decide +kernel)
    | opn => exact absurd (show Wd.str .opn = "in" from h) (by decide +kernel)
    | hear => exact absurd (show Wd.str .hear = "in" from h) (by decide +kernel)
    | new => exact absurd (show Wd.str .new = "in" from h) (by decide +kernel)
theorem word_out {p : Part} (h : wordP p = "out") : ∃ n q, p = .oth .out n q := by
  cases p with
  | say n => exact absurd (show ("say" : Str) = "out" from h) (by decide +kernel)
  | again q => exact absurd (show ("again" : Str) = "out" from h) (by decide +kernel)
  | oth w n q =>
    cases w with
    | out => exact ⟨n, q, rfl⟩
    | room => exact absurd (show Wd.str .room = "out" from h) (by decide +kernel)
    | inn => exact absurd (show Wd.str .inn = "out" from h) (by decide +kernel)
    | opn => exact absurd (show Wd.str .opn = "out" from h) (by decide +kernel)
    | hear => exact absurd (show Wd.str .hear = "out" from h) (by decide +kernel)
    | new => exact absurd (show Wd.str .new = "out" from h) (by decide +kernel)
def flK (k : Nat) (d : Nat) (l : List Nat) : List (Nat × Nat) := (l.filter fun j => decide (j ≠ k)).map fun j => (d, j)
theorem flK_snoc (k d j : Nat) (l : List Nat) : flK k d (l ++ [j]) = flK k d l ++ (if j = k then [] else [(d, j)]) := by
  unfold flK
  rw [List.filter_append, List.map_append]
  by_cases c : j = k
  · rw [if_pos c, List.filter_cons_of_neg (by simp [c])]; rfl
  · rw [if_neg c, List.filter_cons_of_pos (by simp [c])]; rfl
theorem flK_len (k d : Nat) (l : List Nat) : (flK k d l).length ≤ l.length := by
  unfold flK
  rw [List.length_map]
  exact List.length_filter_le _ _
theorem goalsD_in {r : List Part} {k : Nat} {q : List Part} {d : Nat} {c : Str} {s : List Part} (h : q[d]? = some (.oth .inn c s)) : goalsD r k q d = flK k d (roomsC r c) := by
  unfold goalsD
  rw [h]
  rfl
theorem leavD_room {c : Str} {q : List Part} {j : Nat} {n : Str} {s : List Part} (h : q[j]? = some (.oth .room n s)) : leavD c q j = (idx (isOutC c) s s.length).map fun d => (j, d) := by
  unfold leavD
  rw [h]
def spRoomsC : Sp := fun vs H Q _ => ∃ (v : V) (r : List Part) (c : Str), vs = [v, .str c] ∧ RowAt H r v ∧ sizeR r ≤ 1000 ∧ ∀ (H' : Hp) (p : Addr), Same H H' → H p = none → H' p = some (.lst (vN (roomsC r c))) → Q (.ref p) H'
def spGoals : Sp := fun vs H Q _ => ∃ (v : V) (r : List Part) (k : Nat) (c : Str) (q : List Part), vs = [v, .int (k : Nat)] ∧ RowAt H r v ∧ sizeR r ≤ 1000 ∧ r[k]? = some (.oth .room c q) ∧ ∀ (H' : Hp) (p : Addr) (us : List V), Same H H' → H p = none → H' p = some (.lst us) → PrsAt H' (goalsN r k q q.length) us → Q (.ref p) H'
def spLeavers : Sp := fun vs H Q _ => ∃ (v : V) (c : Str) (q : List Part), vs = [v] ∧ PartAt H (.oth .room c q) v ∧ sizeR q ≤ 1000 ∧ ∀ (H' : Hp) (p : Addr) (us : List V), Same H H' → H p = none → H' p = some (.lst us) → PrsAt H' (leavN c q q.length) us → Q (.ref p) H'
end Wk

set_option Elab.async false
set_option linter.all false
set_option maxRecDepth 100000
set_option maxHeartbeats 1000000
/-! The steps that are gathered. -/
namespace Wk
open PySem PySem.Spec PyProof.Rows L2 GxR
/-- all but S stays; S holds these steps -/
structure GaS (S : Addr) (H0 : Hp) (ts : List Stp) (H : Hp) : Prop where
  ks : ∀ b o, b ≠ S → H0 b = some o → H b = some o
  ex : ∃ ys, H S = some (.lst ys) ∧ StpsAt H ts ys
section
variable {S : Addr} {H0 H H' : Hp} {ts us : List Stp}
theorem GaS.same (h : GaS S H0 ts H) (s : Same H H') : GaS S H0 ts H' := by
  obtain ⟨ys, h1, h2⟩ := h.ex
  exact ⟨fun b o nb e => s _ _ (h.ks b o nb e), ys, s _ _ h1, h2.tup (STup.of s)⟩
theorem GaS.tup {x0 : List V} (h : GaS S H0 ts H) (hS : H0 S = some (.lst x0)) : STup H0 H := fun a xs e => h.ks a _ (fun z => by rw [z, hS] at e; cases e) e
theorem GaS.ext (h : GaS S H0 ts H) {ys zs : List V} (hS : H S = some (.lst ys)) (hz : StpsAt H us zs) : GaS S H0 (ts ++ us) (upd H S (.lst (ys ++ zs))) := by
  obtain ⟨ys', h1, h2⟩ := h.ex
  rw [hS] at h1
  cases h1
  have st : STup H (upd H S (.lst (ys ++ zs))) := STup.lst hS
  exact ⟨fun b o nb e => (upd_ne nb).trans (h.ks b o nb e), _, upd_same, (h2.tup st).app (hz.tup st)⟩
theorem GaS.trans {vs : List Stp} (h : GaS S H0 ts H) (g : GaS S H vs H') : GaS S H0 vs H' := ⟨fun b o nb e => g.ks b o nb (h.ks b o nb e), g.ex⟩
end
theorem gsL_take (path : List Nat) (r : List Part) : ∀ (k : Nat) (l : List Part) (i : Nat), (gsL path r k (l.take i)).length ≤ (gsL path r k l).length
  | k, l, 0 => by rw [List.take_zero]; exact Nat.zero_le _
  | k, [], i + 1 => Nat.le_refl _
  | k, p :: l, i + 1 => by
    show (gsP path r k p ++ gsL path r (k + 1) (l.take i)).length ≤ (gsP path r k p ++ gsL path r (k + 1) l).length
    have := gsL_take path r (k + 1) l i
    rw [List.length_append, List.length_append]
    omega
theorem gsR_step {path : List Nat} {r : List Part} {i : Nat} {p : Part} (h : r[i]? = some p) : gsL path r 0 (r.take (i + 1)) = gsL path r 0 (r.take i) ++ gsP path r i p := by
  have hlt := (List.getElem?_eq_some_iff.mp h).1
  rw [List.take_add_one, h]
  show gsL path r 0 (r.take i ++ [p]) = _
  rw [gsL_snoc, List.length_take, Nat.min_eq_left (by omega), Nat.zero_add]
theorem word_open {p : Part} (h : wordP p = "open") : ∃ n q, p = .oth .opn n q := by
  cases p with
  | say n => exact absurd (show ("say" : Str) = "open" from h) (by decide +kernel)
  | again q => exact absurd (show ("again" : Str) = "open" from h) (by decide +kernel)
  | oth w n q =>
    cases w with
    | opn => exact ⟨n, q, rfl⟩
    | room => exact absurd (show Wd.str .room = "open" from h) (by decide +kernel)
    | inn => exact absurd (show Wd.str .inn = "open" from h) (by decide +kernel)
    | out => exact absurd (show Wd.str .out = "open" from h) (by decide +kernel)
    | hear => exact absurd (show Wd.str .hear = "open" from h) (by decide +kernel)
    | new => exact absurd (show Wd.str .new = "open" from h) (by decide +kernel)
theorem word_hear {p : Part} (h : wordP p = "hear") : ∃ n q, p = .oth .hear n q := by
  cases p with
  | say n => exact absurd (show ("say" : Str) = "hear" from h) (by decide +kernel)
  | again q => exact absurd (show ("again" : Str) = "hear" from h) (by decide +kernel)
  | oth w n q =>
    cases w with
    | hear => exact ⟨n, q, rfl⟩
    | room => exact absurd (show Wd.str .room = "hear" from h) (by decide +kernel)
    | inn => exact absurd (show Wd.str .inn = "hear" from h) (by decide +kernel)
    | out => exact absurd (show Wd.str .out = "hear" from h) (by decide +kernel)
    | opn => exact absurd (show Wd.str .opn = "hear" from h) (by decide +kernel)
    | new => exact absurd (show Wd.str .new = "hear" from h) (by decide +kernel)
theorem word_say {p : Part} (h : wordP p = "say") : ∃ n, p = .say n := by
  cases p with
  | say n => exact ⟨n, rfl⟩
  | again q => exact absurd (show ("again" : Str) = "say" from h) (by decide +kernel)
  | oth w n q =>
    cases w with
    | hear => exact absurd (show Wd.str .hear = "say" from h) (by decide +kernel)
    | room => exact absurd (show Wd.str .room = "say" from h) (by decide +kernel)
    | inn => exact absurd (show Wd.str .inn = "say" from h) (by decide +kernel)
    | out => exact absurd (show Wd.str .out = "say" from h) (by decide +kernel)
    | opn => exact absurd (show Wd.str .opn = "say" from h) (by decide +kernel)
    | new => exact absurd (show Wd.str .new = "say" from h) (by decide +kernel)
theorem isHear_eq (p : Part) : isHear p = decide (V.str (wordP p) = V.str "hear") := by
  cases p with
  | say n => exact (show false = decide (V.str "say" = V.str "hear") by decide +kernel)
  | again q => exact (show false = decide (V.str "again" = V.str "hear") by decide +kernel)
  | oth w n q =>
    cases w with
    | hear => exact (show true = decide (V.str (Wd.str .hear) = V.str "hear") by decide +kernel)
    | room => exact (show false = decide (V.str (Wd.str .room) = V.str "hear") by decide +kernel)
    | inn => exact (show false = decide (V.str (Wd.str .inn) = V.str "hear") by decide +kernel)
    | out => exact (show false = decide (V.str (Wd.str .out) = V.str "hear") by decide +kernel)
    | opn => exact (show false = decide (V.str (Wd.str .opn) = V.str "hear") by decide +kernel)
    | new => exact (show false = decide (V.str (Wd.str .new) = V.str "hear") by decide +kernel)
def spGaSt (n : Nat) : Sp := fun vs H Q _ => ∃ (v : V) (r : List Part) (pa S : Addr) (path : List Nat) (ss : List Stp) (ys : List V), vs = [v, .ref pa, .ref S] ∧ RowAt H r v ∧ deepR r < n ∧ sizeR r ≤ 1000 ∧ H pa = some (.tup (vN path)) ∧ path.length + deepR r ≤ 1000 ∧ H S = some (.lst ys) ∧ StpsAt H ss ys ∧ ss.length + (gsR path r).length ≤ 10000000 ∧
  ∀ H', GaS S H (ss ++ gsR path r) H' → Q .non H'
def spSteps : Sp := fun vs H Q _ => ∃ (s : Addr) (n : Int) (rv : V) (r : List Part), vs = [.ref s] ∧ H s = some (.tup [.int n, rv]) ∧ RowAt H r rv ∧ deepR r < 20 ∧ sizeR r ≤ 1000 ∧ (gsR [] r).length ≤ 10000000 ∧
  ∀ (H' : Hp) (p : Addr) (ts : List Stp) (ys : List V), Same H H' → H p = none → H' p = some (.lst ys) → StpsAt H' ts ys → ts.Perm (gsR [] r) → SrtO.Srtd ltSt ts → Q (.ref p) H'
end Wk

set_option Elab.async false
set_option linter.all false
set_option maxRecDepth 100000
set_option maxHeartbeats 1000000
/-! A step is asked for its form, and done. -/
namespace Wk
open PySem PySem.Spec PyProof.Rows L2 GxR
def stSz (z : Str) : Option Nat := if z = "in" then some 5 else if z = "out" then some 5 else if z = "open" then some 4 else if z = "letter" then some 4 else if z = "again" then some 3 else none
def StepSz (K : PySem.W.Frag) (w : World) (d : Addr) : Prop := KGot K w d ∧ ∀ (z : Str) (m : Nat), stSz z = some m → ∃ r : Option Value, PySem.W.nsIn K d z = some r ∧ RelV (.int (m : Nat)) (r.getD .none)
def thS (x : Stp) : Th := .tup (.str x.w :: .tup (x.p.map fun n : Nat => Th.int (n : Int)) :: x.r.map fun n : Nat => Th.int (n : Int))
theorem thsN {H : Hp} : ∀ l : List Nat, ThsAt H (l.map fun n : Nat => Th.int (n : Int)) (vN l)
  | [] => rfl
  | n :: l => ⟨.int (n : Nat), vN l, rfl, rfl, thsN l⟩
theorem StpAt.th {H : Hp} {x : Stp} {v : V} (h : StpAt H x v) : ThAt H (thS x) v := by
  obtain ⟨t, pa, rfl, h1, h2⟩ := h
  exact ⟨t, _, rfl, h1, _, _, rfl, rfl, _, _, rfl, ⟨pa, _, rfl, h2, thsN _⟩, thsN _⟩
def spWhole : Sp := fun vs H Q _ => ∃ n : Int, vs = [.int n] ∧ Q (.bl true) H
def spPlaces (Ts : List Addr) : Sp := fun vs H Q _ => ∃ (a : Addr) (l : List Nat), vs = [.ref a] ∧ H a = some (.tup (vN l)) ∧ TabsG Ts H ∧ ∀ H', SamTs Ts H H' → Q (.bl true) H'
def spStForm (Ts : List Addr) : Sp := fun vs H Q _ => ∃ (v : V) (x : Stp), vs = [v] ∧ StpAt H x v ∧ stSz x.w = some (x.r.length + 2) ∧ TabsG Ts H ∧ ∀ H', SamTs Ts H H' → Q (.bl true) H'
/-- a row done again -/
def spAgain (n : Nat) : Sp := fun vs H Q _ => ∃ (m k : Nat) (v : V) (r q : List Part), vs = [.int (m : Nat), v, .int (k : Nat)] ∧ RowAt H r v ∧ r.length ≤ 1000 ∧ r[k]? = some (.again q) ∧ deepR q < n ∧ sizeR q ≤ 1000 ∧ Gd q ∧ m + sizeR q < 10 ^ 9 ∧ (frdR n m q).2.length ≤ 1000 ∧
  ∀ H' u, Same H H' → ToldAt H' ((frdR n m q).1, r ++ (frdR n m q).2) u → Q u H'
/-- the row that a step moves -/
def spMoved (Ts : List Addr) (n : Nat) : Sp := fun vs H Q _ => ∃ (s t : Addr) (m k : Nat) (rv : V) (r q0 q : List Part) (path : List Nat), vs = [.ref s, .ref t] ∧ H s = some (.tup [.int (m : Nat), rv]) ∧ RowAt H r rv ∧ sizeR r ≤ 100000 ∧ StpAt H ⟨"again", path, [k]⟩ (.ref t) ∧ rowAt r path = some q0 ∧ q0.length ≤ 1000 ∧ q0[k]? = some (.again q) ∧ deepR q < n ∧ sizeR q ≤ 1000 ∧ Gd q ∧ m + sizeR q < 10 ^ 9 ∧ (frdR n m q).2.length ≤ 1000 ∧ TabsG Ts H ∧
  ∀ H' u, SamTs Ts H H' → ToldAt H' ((frdR n m q).1, q0 ++ (frdR n m q).2) u → Q u H'
def spDone (Ts : List Addr) (n : Nat) : Sp := fun vs H Q _ => ∃ (s t : Addr) (m k : Nat) (rv : V) (r q0 q : List Part) (path : List Nat), vs = [.ref s, .ref t] ∧ H s = some (.tup [.int (m : Nat), rv]) ∧ RowAt H r rv ∧ sizeR r ≤ 100000 ∧ StpAt H ⟨"again", path, [k]⟩ (.ref t) ∧ path.length < 20 ∧ rowAt r path = some q0 ∧ q0.length ≤ 1000 ∧ q0[k]? = some (.again q) ∧ deepR q < n ∧ sizeR q ≤ 1000 ∧ Gd q ∧ m + sizeR q < 10 ^ 9 ∧ (frdR n m q).2.length ≤ 1000 ∧ TabsG Ts H ∧
  ∀ H' u, SamTs Ts H H' → ToldAt H' ((frdR n m q).1, putAt r path (q0 ++ (frdR n m q).2)) u → Q u H'
/-- a statement that is not reached -/
theorem ps_never {X : Cx} {st : Stmt} : PS X st (fun _ _ _ => False) := ⟨fun _ _ _ _ _ _ h => h.elim⟩
end Wk

set_option Elab.async false
set_option linter.all false
set_option maxRecDepth 100000
set_option maxHeartbeats 1000000
/-! Rows put together of drawn ones. -/
namespace Wk
open PySem PySem.Spec PyProof.Rows L2 GxR
structure Dr (D Z : Nat) (ss sp sp' : List Str) (r : List Part) : Prop where
  deep : deepR r ≤ D
  size : sizeR r ≤ Z
  sc : scR ss r
  bd : sp.Perm (sp' ++ bdR r)
  ok : okR (fun n => n ∈ ss ∨ n ∈ sp) r
section
variable {D D' Z Z' : Nat} {ss sp sp1 sp2 : List Str} {r q : List Part} {n : Str}
theorem Dr.nil : Dr 0 0 ss sp sp [] := ⟨Nat.le_refl 0, Nat.le_refl 0, trivial, by show sp.Perm (sp ++ []); rw [List.append_nil], trivial⟩
theorem Dr.of {m k : Nat} (h : GR m k ss sp sp1 r) : Dr (m + 1) (k * cntP m) ss sp sp1 r := by
  refine ⟨h.deep, h.size, h.sc, ?_, h.ok⟩
  have e := h.bd
  rw [e]
  exact (List.reverse_perm (bdR r)).append_left sp1
theorem Dr.up (h : Dr D Z ss sp sp1 r) (hd : D ≤ D') (hz : Z ≤ Z') : Dr D' Z' ss sp sp1 r := ⟨Nat.le_trans h.deep hd, Nat.le_trans h.size hz, h.sc, h.bd, h.ok⟩
theorem Dr.sub (h : Dr D Z ss sp sp1 r) : ∀ x ∈ sp1, x ∈ sp := fun x hx => h.bd.mem_iff.mpr (List.mem_append_left _ hx)
/-- one behind the other, drawn so -/
theorem Dr.app (h : Dr D Z ss sp sp1 r) (g : Dr D' Z' ss sp1 sp2 q) : Dr (max D D') (Z + Z') ss sp sp2 (r ++ q) := by
  refine ⟨?_, ?_, scR_app h.sc g.sc, ?_, okR_app h.ok (okR.imp (fun x hx => hx.imp id (h.sub x)) q g.ok)⟩
  · rw [deepR_app]
    have := h.deep
    have := g.deep
    omega
  · rw [sizeR_app]
    have := h.size
    have := g.size
    omega
  · rw [bdR_app]
    refine h.bd.trans ((g.bd.append_right (bdR r)).trans ?_)
    rw [List.append_assoc]
    exact (List.perm_append_comm).append_left sp2
/-- the one drawn later ahead -/
theorem Dr.ahead (h : Dr D Z ss sp sp1 r) (g : Dr D' Z' ss sp1 sp2 q) : Dr (max D D') (Z + Z') ss sp sp2 (q ++ r) := by
  have a := h.app g
  refine ⟨?_, ?_, scR_app g.sc h.sc, ?_, okR_app (okR.imp (fun x hx => hx.imp id (h.sub x)) q g.ok) h.ok⟩
  · have := a.deep
    rw [deepR_app] at this ⊢
    omega
  · have := a.size
    rw [sizeR_app] at this ⊢
    omega
  · refine a.bd.trans ?_
    rw [bdR_app, bdR_app]
    exact (List.perm_append_comm).append_left sp2
theorem Dr.one {p : Part} (h : deepP p ≤ D) (hz : sizeP p ≤ Z) (sc : scP ss p) (bd : sp.Perm (sp1 ++ bdP p)) (ok : okP (fun n => n ∈ ss ∨ n ∈ sp) p) : Dr D Z ss sp sp1 [p] := by
  refine ⟨?_, ?_, ⟨sc, trivial⟩, ?_, ⟨ok, trivial⟩⟩
  · show max (deepP p) 0 ≤ D
    omega
  · show sizeP p + 0 ≤ Z
    omega
  · show sp.Perm (sp1 ++ (bdP p ++ []))
    rw [List.append_nil]
    exact bd
theorem Dr.say (h : n ∈ ss) : Dr 1 1 ss sp sp [.say n] := Dr.one (Nat.le_refl 1) (Nat.le_refl 1) h (by show sp.Perm (sp ++ []); rw [List.append_nil]) (.inl h)
theorem Dr.again (g : Dr D Z ss sp sp1 r) : Dr (D + 1) (Z + 1) ss sp sp1 [.again r] := Dr.one (by simp only [deepP]; have := g.deep; omega) (by simp only [sizeP]; have := g.size; omega) g.sc g.bd g.ok
theorem Dr.room (h : n ∈ ss) (g : Dr D Z ss sp sp1 r) : Dr (D + 1) (Z + 1) ss sp sp1 [.oth .room n r] := by
  refine Dr.one (by simp only [deepP]; have := g.deep; omega) (by simp only [sizeP]; have := g.size; omega) ?_ ?_ ⟨.inl h, g.ok⟩
  · show (if Wd.binds .room = true then scR (n :: ss) r else n ∈ ss ∧ scR ss r)
    exact ⟨h, g.sc⟩
  · exact g.bd
theorem Dr.opn (h : n ∈ ss) (g : Dr D Z ss sp sp1 r) : Dr (D + 1) (Z + 1) ss sp sp1 [.oth .opn n r] := by
  refine Dr.one (by simp only [deepP]; have := g.deep; omega) (by simp only [sizeP]; have := g.size; omega) ?_ ?_ ⟨.inl h, g.ok⟩
  · show (if Wd.binds .opn = true then scR (n :: ss) r else n ∈ ss ∧ scR ss r)
    exact ⟨h, g.sc⟩
  · exact g.bd
end
/-- a house put together so is one -/
theorem dr_house {zs ss sp' : List Str} {s D Z : Nat} {r : List Part} (hn : ∀ i z, zs[i]? = some z → NameOf ((s + 5 * i) % 26) z) (hl : zs.length ≤ 26) (hs : ∀ x ∈ ss, x ∈ zs.take 5) (hD : D ≤ 24) (hZ : Z ≤ 400) (h : Dr D Z ss (zs.drop 5) sp' r) : HouseR r ∧ Gd r := by
  have nd2 := names_nd hn hl
  rw [(List.take_append_drop 5 zs).symm] at nd2
  obtain ⟨_, nb, nc⟩ := List.nodup_append.mp nd2
  have hin : okR (fun n => n ∈ zs) r := okR.imp (fun n g => g.elim (fun g => List.mem_of_mem_take (hs n g)) List.mem_of_mem_drop) r h.ok
  have nm : ∀ n ∈ zs, ∃ j, j < 26 ∧ NameOf j n := fun n g => by
    obtain ⟨i, hi⟩ := List.getElem?_of_mem g
    exact ⟨_, Nat.mod_lt _ (by decide), hn i n hi⟩
  have bdin : ∀ x ∈ bdR r, x ∈ zs.drop 5 := fun x hx => h.bd.mem_iff.mpr (List.mem_append_right _ hx)
  have bnd : (bdR r).Nodup := (List.nodup_append.mp (h.bd.nodup_iff.mp nb)).2.1
  have dp := h.deep
  have zp := h.size
  refine ⟨⟨okR.imp (fun n g => ?_) r hin, by omega, by omega, bnd, fun x hx hf => ?_⟩, ⟨okR.imp (fun n g => ?_) r hin, fun x hx => ?_, bnd⟩⟩
  · obtain ⟨j, hj, g⟩ := nm n g
    exact ⟨name_ok g hj, by have := (name_len g).1; omega⟩
  · have h1 := fr_scR r [] ss h.sc (fun y hy => .inr hy) x hf
    exact nc x (hs x h1) x (bdin x hx) rfl
  · obtain ⟨j, hj, g⟩ := nm n g
    exact (g.sh hj).mono (by decide)
  · obtain ⟨j, hj, g⟩ := nm x (List.mem_of_mem_drop (bdin x hx))
    exact g.sh hj
end Wk

set_option Elab.async false
set_option linter.all false
set_option maxRecDepth 100000
set_option maxHeartbeats 1000000
/-! The sides of a row, the rooms around it, and rows put there: promises. -/
namespace Wk
open PySem PySem.Spec PyProof.Rows L2 GxR
structure SArg (H : Hp) (L S A : Addr) (nL : Int) (ss sp : List Str) : Prop where
  hL : H L = some (.lst [.int nL])
  hS : H S = some (.lst (sp.map V.str))
  hA : H A = some (.lst (ss.map V.str))
  AL : A ≠ L
  AS : A ≠ S
  ne : ss ≠ []
  len : ss.length ≤ 900
  sh : ∀ z ∈ sp, Sh 6 z
theorem SArg.step {H H' : Hp} {L S A : Addr} {nL : Int} {ss sp sp' : List Str} (a : SArg H L S A nL ss sp) (x : StG L S H H' sp') (h : ∀ z ∈ sp', z ∈ sp) : ∃ n, SArg H' L S A n ss sp' := by
  obtain ⟨n, hn⟩ := x.2.1
  exact ⟨n, hn, x.2.2, x.1 _ _ a.AL a.AS a.hA, a.AL, a.AS, a.ne, a.len, fun z hz => a.sh z (h z hz)⟩
def spSides : Sp := fun vs H Q _ => ∃ (L S A : Addr) (nL : Int) (ss sp : List Str), vs = [.ref L, .ref A, .ref S] ∧ SArg H L S A nL ss sp ∧
  ∀ (H' : Hp) (v : V) (sp' : List Str) (r : List Part), StG L S H H' sp' → RowAt H' r v → Dr 3 14 ss sp sp' r → nnR r → r.length ≤ 2 → Q v H'
def spAround : Sp := fun vs H Q _ => ∃ (L S A : Addr) (nL : Int) (ss sp0 sp : List Str) (rv : V) (r : List Part) (D Z : Nat), vs = [.ref L, rv, .ref A, .ref S] ∧ SArg H L S A nL ss sp ∧ RowAt H r rv ∧ 3 ≤ D ∧ Dr D Z ss sp0 sp r ∧ nnR r ∧
  ∀ (H' : Hp) (t pa : Addr) (u : V) (sp' : List Str) (q : List Part) (path : List Nat), StG L S H H' sp' → H' t = some (.tup [u, .ref pa]) → RowAt H' q u → H' pa = some (.tup (vN path)) → Dr (D + 3) (Z + 87) ss sp0 sp' q → nnR q → rowAt q path = some r → path.length ≤ 3 → Q (.ref t) H'
/-- sides drawn one behind the other -/
inductive Sds (ss : List Str) : List Str → List (List Part) → List Str → Prop where
  | nil {sp : List Str} : Sds ss sp [] sp
  | snoc {sp sp1 sp2 : List Str} {rs : List (List Part)} {r : List Part} : Sds ss sp rs sp1 → Dr 3 14 ss sp1 sp2 r → nnR r → r.length ≤ 2 → Sds ss sp (rs ++ [r]) sp2
theorem Sds.sub {ss sp sp' : List Str} {rs : List (List Part)} (h : Sds ss sp rs sp') : ∀ x ∈ sp', x ∈ sp := by
  induction h with
  | nil => exact fun _ h => h
  | snoc _ d _ _ ih => exact fun x hx => ih x (d.sub x hx)
theorem Sds.last {ss sp sp' : List Str} {rs : List (List Part)} {n : Nat} (h : Sds ss sp rs sp') (hn : rs.length = n + 1) : ∃ (qs : List (List Part)) (q : List Part) (sp1 : List Str), rs = qs ++ [q] ∧ qs.length = n ∧ Sds ss sp qs sp1 ∧ Dr 3 14 ss sp1 sp' q ∧ nnR q ∧ q.length ≤ 2 := by
  cases h with
  | nil => cases hn
  | snoc h d n1 l1 =>
    rw [List.length_append] at hn
    exact ⟨_, _, _, rfl, Nat.succ.inj hn, h, d, n1, l1⟩
theorem rowAt_cons {a b r q : List Part} {n : Str} {path : List Nat} (h : rowAt r path = some q) : rowAt ((a ++ [Part.oth .room n r]) ++ b) (a.length :: path) = some q := by
  have e : ((a ++ [Part.oth .room n r]) ++ b)[a.length]? = some (.oth .room n r) := by
    rw [List.getElem?_append_left (by rw [List.length_append]; exact Nat.lt_succ_self _), List.getElem?_append_right (Nat.le_refl _), Nat.sub_self]
    rfl
  show (roomAt _ a.length).bind _ = some q
  unfold roomAt
  rw [e]
  exact h
theorem nn_room {n : Str} {r : List Part} (h : nnR r) : nnR [Part.oth .room n r] := ⟨⟨(fun e => by cases e), fun _ => h⟩, trivial⟩
theorem nn_opn {n : Str} {r : List Part} : nnR [Part.oth .opn n r] := ⟨⟨(fun e => by cases e), fun e => by cases e⟩, trivial⟩
theorem nn_again {r : List Part} : nnR [Part.again r] := ⟨trivial, trivial⟩
theorem nn_say {n : Str} : nnR [Part.say n] := ⟨trivial, trivial⟩
theorem StG.sm {L S : Addr} {H H1 H2 : Hp} {sp : List Str} (x : StG L S H H1 sp) (s : Same H1 H2) : StG L S H H2 sp := by
  obtain ⟨n, hn⟩ := x.2.1
  exact ⟨fun b o n1 n2 e => s _ _ (x.1 b o n1 n2 e), ⟨n, s _ _ hn⟩, s _ _ x.2.2⟩
theorem eqv_tn0 : ∀ l : List PyData, PyData.eqv (.tuple l) (.tuple []) = l.isEmpty
  | [] => rfl
  | _ :: _ => rfl
theorem shapedN (l : List Nat) : SeqAt.shaped (.tuple (dataN l)) = true := by
  unfold SeqAt.shaped
  have e1 : PyData.canLay0 (.tuple (dataN l)) = true := layN l
  have e2 : PyData.depth (.tuple (dataN l)) = 1 := by show PyData.depthAll (dataN l) + 1 = 1; rw [depN]
  rw [e1, e2]
  decide
def spLPut (n : Nat) : Sp := fun vs H Q _ => ∃ (v tv : V) (r q : List Part) (pa : Addr) (path : List Nat), vs = [v, .ref pa, tv] ∧ RowAt H r v ∧ sizeR r ≤ 900 ∧ H pa = some (.tup (vN path)) ∧ path.length < n ∧ path.length ≤ 1000 ∧ (rowAt r path).isSome = true ∧ RowAt H q tv ∧
  ∀ H' u, Same H H' → RowAt H' (putAt r path q) u → Q u H'
end Wk

set_option Elab.async false
set_option linter.all false
set_option maxRecDepth 100000
set_option maxHeartbeats 2000000
/-! How rows are written. -/
namespace Wk
open PySem PySem.Spec PyProof.Rows L2
def jn (l : List Str) : Str := Txt.join " | " l
def shT (l : List Str) : Str := if l.isEmpty = true then "0" else jn l
def grT (l : List Str) : Str := if 1 < l.length then "(" ++ jn l ++ ")" else shT l
def wtT (l : List Str) : Str := if l.isEmpty = true then "" else "." ++ grT l
def othT (w : Wd) (n : Str) (l : List Str) : Str := match w with
  | .room => n ++ "[" ++ jn l ++ "]"
  | .hear => "(" ++ n ++ ")" ++ wtT l
  | .new => "new " ++ n ++ " " ++ grT l
  | .inn => "in" ++ " " ++ n ++ wtT l
  | .out => "out" ++ " " ++ n ++ wtT l
  | .opn => "open" ++ " " ++ n ++ wtT l
mutual
def txP : Part → Str
  | .say n => "<" ++ n ++ ">"
  | .again r => "!" ++ grT (txL r)
  | .oth w n r => othT w n (txL r)
def txL : List Part → List Str
  | [] => []
  | p :: r => txP p :: txL r
end
theorem txL_map : ∀ r : List Part, txL r = r.map txP
  | [] => rfl
  | p :: r => by
    show txP p :: txL r = txP p :: r.map txP
    rw [txL_map r]
theorem txL_len (r : List Part) : (txL r).length = r.length := by rw [txL_map, List.length_map]
theorem emp (z : Str) : Str.empty ++ z = z := by
  cases z
  show (⟨#[] ++ _⟩ : Str) = _
  rw [Array.empty_append]
theorem jn_len (l : List Str) : (jn l).length ≤ (l.map (·.length)).sum + 3 * l.length := by
  show (Builtin.Str.glued " | " l).length ≤ _
  rw [PySem.size_glued]
  have e : (" | " : Str).length = 3 := by decide +kernel
  rw [e]
  have : (l.length - 1) * 3 ≤ 3 * l.length := by omega
  omega
theorem len1 : ("[" : Str).length = 1 ∧ ("]" : Str).length = 1 ∧ ("(" : Str).length = 1 ∧ (")" : Str).length = 1 ∧ ("<" : Str).length = 1 ∧ (">" : Str).length = 1 ∧ ("!" : Str).length = 1 ∧ ("." : Str).length = 1 ∧ (" " : Str).length = 1 ∧ ("0" : Str).length = 1 ∧ ("" : Str).length = 0 ∧ ("new " : Str).length = 4 ∧ ("in" : Str).length = 2 ∧ ("out" : Str).length = 3 ∧ ("open" : Str).length = 4 := by decide +kernel
theorem shT_len (l : List Str) : (shT l).length ≤ (jn l).length + 1 := by
  unfold shT
  obtain ⟨_, _, _, _, _, _, _, _, _, h0, _⟩ := len1
  split
  · omega
  · omega
theorem grT_len (l : List Str) : (grT l).length ≤ (jn l).length + 2 := by
  unfold grT
  obtain ⟨_, _, h1, h2, _⟩ := len1
  split
  · rw [app_len, app_len]; omega
  · have := shT_len l; omega
theorem wtT_len (l : List Str) : (wtT l).length ≤ (jn l).length + 3 := by
  unfold wtT
  obtain ⟨_, _, _, _, _, _, _, h1, _, _, h2, _⟩ := len1
  split
  · omega
  · rw [app_len]; have := grT_len l; omega
theorem othT_len (w : Wd) (n : Str) (l : List Str) : (othT w n l).length ≤ n.length + (jn l).length + 8 := by
  obtain ⟨h1, h2, h3, h4, h5, h6, h7, h8, h9, h10, h11, h12, h13, h14, h15⟩ := len1
  have a1 := grT_len l
  have a2 := wtT_len l
  cases w <;> simp only [othT, app_len] <;> omega
mutual
theorem txP_len : ∀ p : Part, okP (Sh 30) p → (txP p).length + 3 ≤ 63 * sizeP p
  | .say n, h => by
    have h1 : n.length ≤ 30 := (show Sh 30 n from h).len
    obtain ⟨_, _, _, _, h5, h6, _⟩ := len1
    show ("<" ++ n ++ ">").length + 3 ≤ 63 * 1
    rw [app_len, app_len]
    omega
  | .again r, h => by
    have h1 := txL_sum r h
    obtain ⟨_, _, _, _, _, _, h7, _⟩ := len1
    have h2 := grT_len (txL r)
    show ("!" ++ grT (txL r)).length + 3 ≤ 63 * (sizeR r + 1)
    rw [app_len]
    omega
  | .oth w n r, h => by
    have h0 : n.length ≤ 30 := (show Sh 30 n from h.1).len
    have h1 := txL_sum r h.2
    have h2 := othT_len w n (txL r)
    show (othT w n (txL r)).length + 3 ≤ 63 * (sizeR r + 1)
    omega
theorem txL_sum : ∀ r : List Part, okR (Sh 30) r → (jn (txL r)).length ≤ 63 * sizeR r
  | r, h => by
    have h1 := jn_len (txL r)
    have h2 := txL_sum2 r h
    omega
theorem txL_sum2 : ∀ r : List Part, okR (Sh 30) r → ((txL r).map (·.length)).sum + 3 * (txL r).length ≤ 63 * sizeR r
  | [], _ => Nat.le_refl 0
  | p :: r, h => by
    have h1 := txP_len p h.1
    have h2 := txL_sum2 r h.2
    show ((txP p).length :: (txL r).map (·.length)).sum + 3 * ((txL r).length + 1) ≤ 63 * (sizeP p + sizeR r)
    rw [List.sum_cons]
    omega
end
/-- a text of the row, by g -/
def spT (g : List Str → Str) (n : Nat) : Sp := fun vs H Q _ => ∃ (v : V) (r : List Part), vs = [v] ∧ RowAt H r v ∧ deepR r < n ∧ sizeR r ≤ 1000 ∧ okR (Sh 30) r ∧ ∀ H', Same H H' → Q (.str (g (txL r))) H'
def spTP (n : Nat) : Sp := fun vs H Q _ => ∃ (v : V) (p : Part), vs = [v] ∧ PartAt H p v ∧ deepP p ≤ n ∧ sizeP p ≤ 1000 ∧ okP (Sh 30) p ∧ ∀ H', Same H H' → Q (.str (txP p)) H'
section
variable {P : Program} {w : World} {K : PySem.W.Frag} {mg : Str → Option Value} {base : Heap}
theorem T_none {f : Addr} {fd : FuncData} {k : Nat} {ps : List Str} {g : List Str → Str} : FnOk P w K mg base CX0 k f fd ps (spT g 0) := by
  have no : ∀ vs H Q E, ¬ spT g 0 vs H Q E := fun vs H Q E h => by
    obtain ⟨_, _, _, _, h1, _⟩ := h
    omega
  exact ⟨fun vs H Q E h => absurd h (no vs H Q E), fun A outer s H args us vs Q E _ _ _ _ h => absurd h (no vs H Q E)⟩
end
end Wk

set_option Elab.async false
set_option linter.all false
set_option maxRecDepth 100000
set_option maxHeartbeats 4000000
namespace Wk
open PySem PySem.Spec PyProof.Rows L2
/-! texts are of plain signs -/
def Asc (z : Str) : Prop := ∀ c ∈ z.cps.toList, c < 128
theorem Asc.app {y z : Str} (h : Asc y) (g : Asc z) : Asc (y ++ z) := fun c hc => by
  rw [app_codes] at hc
  rcases List.mem_append.mp hc with q | q
  · exact h c q
  · exact g c q
theorem Asc.ok {z : Str} (h : Asc z) : PyData.strOk z = true := by
  unfold PyData.strOk
  rw [Array.all_eq_true']
  intro c hc
  have := h c (Array.mem_def.mp hc)
  simp
  omega
theorem asc_fold {sep : Array Nat} (hs : ∀ c ∈ sep.toList, c < 128) : ∀ (l : List Str) (acc : Array Nat), (∀ c ∈ acc.toList, c < 128) → (∀ z ∈ l, Asc z) → ∀ c ∈ (l.foldl (fun acc p => acc ++ sep ++ p.cps) acc).toList, c < 128
  | [], acc, h, _ => h
  | z :: r, acc, h, g => by
    rw [List.foldl_cons]
    refine asc_fold hs r _ (fun c hc => ?_) (fun y hy => g y (List.mem_cons_of_mem _ hy))
    rw [Array.toList_append, Array.toList_append] at hc
    rcases List.mem_append.mp hc with q | q
    · rcases List.mem_append.mp q with q | q
      · exact h c q
      · exact hs c q
    · exact g z List.mem_cons_self c q
theorem jn_asc {l : List Str} (h : ∀ z ∈ l, Asc z) : Asc (jn l) := by
  have hs : ∀ c ∈ (" | " : Str).cps.toList, c < 128 := by decide +kernel
  cases l with
  | nil => exact fun c hc => (nomatch (show c ∈ ([] : List Nat) from hc))
  | cons z r => exact asc_fold hs r z.cps (h z List.mem_cons_self) (fun y hy => h y (List.mem_cons_of_mem _ hy))
theorem asc_consts : Asc "[" ∧ Asc "]" ∧ Asc "(" ∧ Asc ")" ∧ Asc "<" ∧ Asc ">" ∧ Asc "!" ∧ Asc "." ∧ Asc " " ∧ Asc "0" ∧ Asc "" ∧ Asc "new " ∧ Asc "in" ∧ Asc "out" ∧ Asc "open" := by unfold Asc; decide +kernel
theorem shT_asc {l : List Str} (h : Asc (jn l)) : Asc (shT l) := by
  unfold shT
  obtain ⟨_, _, _, _, _, _, _, _, _, h0, _⟩ := asc_consts
  split
  · exact h0
  · exact h
theorem grT_asc {l : List Str} (h : Asc (jn l)) : Asc (grT l) := by
  unfold grT
  obtain ⟨_, _, h1, h2, _⟩ := asc_consts
  split
  · exact (h1.app h).app h2
  · exact shT_asc h
theorem wtT_asc {l : List Str} (h : Asc (jn l)) : Asc (wtT l) := by
  unfold wtT
  obtain ⟨_, _, _, _, _, _, _, h1, _, _, h2, _⟩ := asc_consts
  split
  · exact h2
  · exact h1.app (grT_asc h)
mutual
theorem txP_asc : ∀ p : Part, okP (Sh 30) p → Asc (txP p)
  | .say n, h => by
    obtain ⟨_, _, _, _, h5, h6, _⟩ := asc_consts
    exact (h5.app (show Sh 30 n from h).2).app h6
  | .again r, h => by
    obtain ⟨_, _, _, _, _, _, h7, _⟩ := asc_consts
    exact h7.app (grT_asc (jn_asc (txL_asc r h)))
  | .oth w n r, h => by
    obtain ⟨h1, h2, h3, h4, h5, h6, h7, h8, h9, h10, h11, h12, h13, h14, h15⟩ := asc_consts
    have hn : Asc n := (show Sh 30 n from h.1).2
    have hj := jn_asc (txL_asc r h.2)
    cases w with
    | room => exact ((hn.app h1).app hj).app h2
    | hear => exact ((h3.app hn).app h4).app (wtT_asc hj)
    | new => exact ((h12.app hn).app h9).app (grT_asc hj)
    | inn => exact ((h13.app h9).app hn).app (wtT_asc hj)
    | out => exact ((h14.app h9).app hn).app (wtT_asc hj)
    | opn => exact ((h15.app h9).app hn).app (wtT_asc hj)
theorem txL_asc : ∀ r : List Part, okR (Sh 30) r → ∀ z ∈ txL r, Asc z
  | [], _, z, hz => nomatch (show z ∈ ([] : List Str) from hz)
  | p :: r, h, z, hz => by
    rcases List.mem_cons.mp (show z ∈ txP p :: txL r from hz) with e | e
    · rw [e]
      exact txP_asc p h.1
    · exact txL_asc r h.2 z e
end
theorem eqv_tnil : ∀ l : List PyData, PyData.eqv (.tuple l) (.tuple []) = l.isEmpty
  | [] => by simp only [PyData.eqv, PyData.eqvAll, List.isEmpty]
  | _ :: _ => by simp only [PyData.eqv, PyData.eqvAll, List.isEmpty]
theorem tnil_shaped : SeqAt.shaped (.tuple []) = true := shapedR (f := fun _ => False) (r := []) (fun _ h => h.elim) trivial (Nat.zero_le _)
theorem dR_empty (r : List Part) : (dR r).isEmpty = r.isEmpty := by cases r <;> rfl
theorem txL_empty (r : List Part) : (txL r).isEmpty = r.isEmpty := by cases r <;> rfl
end Wk

set_option Elab.async false
set_option linter.all false
set_option maxRecDepth 100000
set_option maxHeartbeats 2000000
/-! max(a list of ints, default=..). -/
namespace Wk
open PySem PySem.Spec PyProof.Rows L2
theorem args_maxD (a d : Value) : argsOk "max" ⟨[a], [("default", d)]⟩ := by unfold argsOk; kernel_rfl
section
variable {P : Program} {w : World} {A : Around} {E : Value → Shared → Prop} {s : Shared}
abbrev best (vs : Array Value) (c : Nat) : Obj := { cls := .type "list", dict := none, data := .seq vs c, slots := #[] }
theorem mx_loop {I S : Addr} {fp wr : List Addr} {G : Array GenState → Array GenState → Prop} {n : Nat} {Pv : Nat → Value → Prop} {St : Nat → Shared → Prop} {R : Result → Shared → Prop} {d : Value}
    (W : WalksS P w A.in1 I fp wr G n Pv St) (hSf : S ∉ fp) (ns : List Int) (hn : n = ns.length) (hval : ∀ i v, Pv i v → ∃ k t, ns[i]? = some k ∧ v = .int k t) :
    ∀ (k i : Nat) (s : Shared) (m : Int) (tm : Tok) (c : Nat), n - i = k → i ≤ n → St i s → s.heap.get? S = some (best #[.int m tm, .int m tm] c) → m ∈ ns.take i → (∀ x ∈ ns.take i, x ≤ m) →
      (∀ s' M t', Moved (S :: wr) G s s' → M ∈ ns → (∀ x ∈ ns, x ≤ M) → R (.ok (.ret (.int M t'))) s') → codeAny (model P w) A (.builtin "max.loop" ⟨[.ref I, .none, .ref S], [("default", d)]⟩) R s := by
  have hSw : S ∉ wr := fun h => hSf (W.sub _ h)
  have hsub : ∀ b ∈ wr, b ∈ S :: wr := fun b hb => List.mem_cons_of_mem _ hb
  have hname : (toString "max" ++ toString ".loop" : String) = "max.loop" := by decide
  have notS : ∀ {b : Addr}, b ∉ S :: wr → S ≠ b := fun hb h => hb (by rw [h]; exact List.mem_cons_self)
  intro k
  induction k with
  | zero =>
    intro i s m tm c hk hi hst hS hm1 hm2 hR
    have hin : i = n := by omega
    subst hin
    refine codeAny_builtin PySem.F.entry_max_loop ?_
    rw [Around.under_plainId PySem.F.plain_max_loop _]
    show wpAny _ A.in1 (seqItems? (.ref S) >>= _) _ _ s
    refine wpAny_bind (wpAny_seqItems hS rfl ?_)
    show wpAny _ A.in1 (tryCatch (pyNext (.ref I)) _ >>= _) _ _ s
    refine wpAny_bind (wpAny_tryCatch (W.done s _ _ hst fun s' mv => ?_))
    have hS' := mv.heap S _ hSw hS
    show wpAny _ A.in1 (updateSeq S (fun _ => #[]) >>= _) _ _ _
    refine wpAny_bind (wpAny_updateSeq hS' rfl (wpAny_bind (wpAny_letGo (wpAny_pure ?_))))
    rw [hn, List.take_length] at hm1 hm2
    exact hR _ m tm ((mv.mono hsub).then_heap (tk := s'.toks) (Nat.le_refl _) fun b o hb e => (Heap.get?_update_other _ _ (notS hb)).trans e) hm1 hm2
  | succ k ih =>
    intro i s m tm c hk hi hst hS hm1 hm2 hR
    have hlt : i < n := by omega
    refine codeAny_builtin PySem.F.entry_max_loop ?_
    rw [Around.under_plainId PySem.F.plain_max_loop _]
    show wpAny _ A.in1 (seqItems? (.ref S) >>= _) _ _ s
    refine wpAny_bind (wpAny_seqItems hS rfl ?_)
    show wpAny _ A.in1 (tryCatch (pyNext (.ref I)) _ >>= _) _ _ s
    refine wpAny_bind (wpAny_tryCatch (W.item i s _ _ hlt hst fun v s' hP hst' mv => ?_))
    obtain ⟨q, t, hq, rfl⟩ := hval i v hP
    have tk1 : ns.take (i + 1) = ns.take i ++ [q] := by rw [List.take_add_one, hq]; rfl
    have hS' := mv.heap S _ hSw hS
    show wpAny _ A.in1 (tryCatch (holding [Value.int q t, .int q t] (richCompare .Gt (.int q t) (.int m tm) >>= _)) _ >>= _) _ _ _
    refine wpAny_bind (wpAny_tryCatch (wpAny_holding (wpAny_bind (show wpAny _ _ (richCompare .Gt (.int q t) (.int m tm)) _ _ _ from PySem.SiftDown.gt_int ?_))))
    refine wpAny_bind (wpAny_holding (wpAny_truthy_bool ?_))
    refine wpAny_bind (wpAny_letGo (wpAny_pure ?_))
    by_cases hb : q > m
    · rw [decide_eq_true hb]
      simp only [if_true]
      refine wpAny_bind ?_
      refine wpAny_updateSeq hS' rfl (wpAny_bind (wpAny_letGo ?_))
      rw [hname]
      refine wpAny_pure ⟨plainId_quiet PySem.F.plain_max_loop _, ih (i + 1) _ q t _ (by omega) hlt (W.frame _ s' _ s'.toks hst' (Nat.le_refl _) fun b hbf o e => ?_) (Heap.get?_update_self _ hS' rfl) (by rw [tk1]; simp) (fun x hx => ?_)
        fun s'' M t' mv' h1 h2 => ?_⟩
      · exact (Heap.get?_update_other _ _ (fun h : S = b => hSf (by rw [h]; exact hbf))).trans e
      · rw [tk1, List.mem_append, List.mem_singleton] at hx
        rcases hx with z | z
        · have := hm2 x z; omega
        · omega
      · exact hR s'' M t' (Moved.trans W.gtrans ((mv.mono hsub).then_heap (tk := s'.toks) (Nat.le_refl _) fun b o hb e => (Heap.get?_update_other _ _ (notS hb)).trans e) mv') h1 h2
    · rw [decide_eq_false hb]
      simp only [Bool.false_eq_true, if_false]
      refine wpAny_bind (wpAny_letGo ?_)
      rw [hname]
      refine wpAny_pure ⟨plainId_quiet PySem.F.plain_max_loop _, ih (i + 1) _ m tm c (by omega) hlt hst' hS' (by rw [tk1]; exact List.mem_append_left _ hm1) (fun x hx => ?_) fun s'' M t' mv' h1 h2 => hR s'' M t' (Moved.trans W.gtrans (mv.mono hsub) mv') h1 h2⟩
      rw [tk1, List.mem_append, List.mem_singleton] at hx
      rcases hx with z | z
      · exact hm2 x z
      · omega
/-- the most of ns, or the default -/
def MaxD (ns : List Int) (d M : Int) : Prop := (ns = [] ∧ M = d) ∨ (M ∈ ns ∧ ∀ x ∈ ns, x ≤ M)
theorem mx_first {I S : Addr} {fp wr : List Addr} {G : Array GenState → Array GenState → Prop} {n : Nat} {Pv : Nat → Value → Prop} {St : Nat → Shared → Prop} {R : Result → Shared → Prop} {d : Int} {td : Tok} {c : Nat}
    (W : WalksS P w A.in1 I fp wr G n Pv St) (hSf : S ∉ fp) (ns : List Int) (hn : n = ns.length) (hval : ∀ i v, Pv i v → ∃ k t, ns[i]? = some k ∧ v = .int k t) (hst : St 0 s) (hS : s.heap.get? S = some (best #[] c))
    (hR : ∀ s' M t', Moved (S :: wr) G s s' → MaxD ns d M → R (.ok (.ret (.int M t'))) s') : codeAny (model P w) A (.builtin "max.loop" ⟨[.ref I, .none, .ref S], [("default", .int d td)]⟩) R s := by
  have hSw : S ∉ wr := fun h => hSf (W.sub _ h)
  have hsub : ∀ b ∈ wr, b ∈ S :: wr := fun b hb => List.mem_cons_of_mem _ hb
  have hname : (toString "max" ++ toString ".loop" : String) = "max.loop" := by decide
  have notS : ∀ {b : Addr}, b ∉ S :: wr → S ≠ b := fun hb h => hb (by rw [h]; exact List.mem_cons_self)
  refine codeAny_builtin PySem.F.entry_max_loop ?_
  rw [Around.under_plainId PySem.F.plain_max_loop _]
  show wpAny _ A.in1 (seqItems? (.ref S) >>= _) _ _ s
  refine wpAny_bind (wpAny_seqItems hS rfl ?_)
  show wpAny _ A.in1 (tryCatch (pyNext (.ref I)) _ >>= _) _ _ s
  rcases Nat.eq_zero_or_pos n with h0 | hpos
  · subst h0
    refine wpAny_bind (wpAny_tryCatch (W.done s _ _ hst fun s' mv => ?_))
    show wpAny _ A.in1 (rule _ >>= _) _ _ _
    refine wpAny_bind (wpAny_rule (wpAny_pure ?_))
    exact hR s' d td (mv.mono hsub) (.inl ⟨List.length_eq_zero_iff.mp hn.symm, rfl⟩)
  · refine wpAny_bind (wpAny_tryCatch (W.item 0 s _ _ hpos hst fun v s' hP hst' mv => ?_))
    obtain ⟨q, t, hq, rfl⟩ := hval 0 v hP
    have hS' := mv.heap S _ hSw hS
    have tk1 : ns.take 1 = [q] := by rw [List.take_add_one, hq]; rfl
    show wpAny _ A.in1 (updateSeq S (fun _ => #[.int q t, .int q t]) >>= _) _ _ _
    refine wpAny_bind ?_
    refine wpAny_updateSeq hS' rfl ?_
    rw [hname]
    refine wpAny_pure ⟨plainId_quiet PySem.F.plain_max_loop _, mx_loop W hSf ns hn hval (n - 1) 1 _ q t _ rfl hpos (W.frame _ s' _ s'.toks hst' (Nat.le_refl _) fun b hbf o e => ?_) (Heap.get?_update_self _ hS' rfl) (by rw [tk1]; simp) (fun x hx => by rw [tk1] at hx; rw [List.mem_singleton.mp hx]; exact Int.le_refl _) fun s'' M t' mv' h1 h2 => ?_⟩
    · exact (Heap.get?_update_other _ _ (fun h : S = b => hSf (by rw [h]; exact hbf))).trans e
    · exact hR s'' M t' (Moved.trans W.gtrans ((mv.mono hsub).then_heap (tk := s'.toks) (Nat.le_refl _) fun b o hb e => (Heap.get?_update_other _ _ (notS hb)).trans e) mv') (.inr ⟨h1, h2⟩)
theorem ints_get : ∀ {vs : List Value} {xs : List Int}, IntsAre vs xs → ∀ (i : Nat) (v : Value), vs[i]? = some v → ∃ x t, xs[i]? = some x ∧ v = .int x t
  | _, _, .nil, i, v, h => by simp at h
  | _, _, .cons x t r, 0, v, h => by
    simp at h
    exact ⟨x, t, rfl, h.symm⟩
  | _, _, .cons x t r, i + 1, v, h => by
    simp at h
    obtain ⟨y, u, h1, h2⟩ := ints_get r i v h
    exact ⟨y, u, by simpa using h1, h2⟩
theorem call_maxD {l : Addr} {items : Array Value} {ns : List Int} {d : Int} {td : Tok} {Q : Value → Shared → Prop} (hh : A.handled = none) (hl : s.heap.IsList l items) (hit : IntsAre items.toList ns)
    (hQ : ∀ h' tk M t', (∀ b o, s.heap.get? b = some o → h'.get? b = some o) → MaxD ns d M → Q (.int M t') { s with heap := h', toks := tk }) :
    wpAny (model P w) A (call (.builtin "max") [.ref l] [("default", .int d td)]) Q E s := by
  have hname : (toString "max" ++ toString ".loop" : String) = "max.loop" := by decide
  have hlt : l < s.heap.objs.size := by obtain ⟨o, ho, _⟩ := hl; exact Heap.lt_size ho
  have body : wpAny (model P w) A.in1 (Builtin.«max» ⟨[.ref l], [("default", .int d td)]⟩) (fun fin s' => match fin with
      | .done f => (match (Except.ok f : Result) with | .ok (.ret v) => Q v s' | .ok _ => False | .error e => E e s')
      | .again c' => c'.quiet = true ∧ codeAny (model P w) A c' (fun r s' => match r with | .ok (.ret v) => Q v s' | .ok _ => False | .error e => E e s') s') E s := by
    show wpAny _ A.in1 (Builtin.Builtins.bindParams "max" ["key", "default"] 0 ⟨[], [("default", .int d td)]⟩ >>= _) _ _ s
    refine wpAny_bind (wpAny_of_eq (show Builtin.Builtins.bindParams "max" ["key", "default"] 0 ⟨[], [("default", .int d td)]⟩ = pure [none, some (.int d td)] from rfl) ?_)
    refine wpAny_bind (wpAny_pure ?_)
    refine wpAny_bind (wpAny_pyIter_list hl ?_)
    refine wpAny_bind (wpAny_newObj_type ?_)
    rw [hname]
    have z1 : (s.heap.push { cls := .type "list_iterator", data := .fields #[.ref l, .int 0 0] }).objs.size = s.heap.objs.size + 1 := Heap.size_push ..
    have hl1 : (s.heap.push { cls := .type "list_iterator", data := .fields #[.ref l, .int 0 0] }).IsList l items := hl.push _
    refine wpAny_pure ⟨plainId_quiet PySem.F.plain_max_loop _, mx_first (I := s.heap.objs.size) (S := (s.heap.push { cls := .type "list_iterator", data := .fields #[.ref l, .int 0 0] }).objs.size) ((Walks.list (A := A.in1) hh s.heap.objs.size l (Nat.ne_of_lt hlt) items).toS) ?_ ns ?_ (fun i v hv => ints_get hit i v (by rw [Array.getElem?_toList]; exact hv)) ⟨⟨_, Heap.get?_push_of_some _ (Heap.get?_push_size _ rfl), rfl, rfl⟩, hl1.push _⟩ (Heap.get?_push_size _ rfl) fun s' M t' mv hM => ?_⟩
    · intro z
      rw [z1] at z
      rcases List.mem_cons.mp z with z | z
      · exact absurd z (Nat.ne_of_gt (Nat.lt_succ_self _))
      · exact absurd (List.mem_singleton.mp z) (Nat.ne_of_gt (Nat.lt_succ_of_lt hlt))
    · rw [← hit.length, Array.length_toList]
    · obtain ⟨h', g2, d', tk', os'⟩ := s'
      have eg : g2 = s.gens := mv.gens
      have ed : d' = s.drawn := mv.drawn
      have eo : os' = s.os := mv.os
      subst eg; subst ed; subst eo
      refine hQ h' tk' M t' (fun b o e => ?_) hM
      have hbl : b < s.heap.objs.size := Heap.lt_size e
      refine mv.heap b o (fun z => ?_) (Heap.get?_push_of_some _ (Heap.get?_push_of_some _ e))
      rcases List.mem_cons.mp z with z | z
      · exact absurd hbl (by rw [z]; exact Nat.not_lt_of_le (by rw [z1]; exact Nat.le_succ _))
      · exact absurd hbl (by rw [List.mem_singleton.mp z]; exact Nat.lt_irrefl _)
  refine wpAny_call (codeAny_call_builtin PySem.F.plain_max PySem.F.entry_max ?_)
  have ha := args_maxD (.ref l) (.int d td)
  simp only [checkBuiltinCall, PySem.F.kind_max]
  cases hsig : Manifest.signature? "max" with
  | none => exact wpAny_pure body
  | some sig =>
    simp only [argsOk, hsig] at ha
    have h2 : Bind.checkArgs "max" sig ⟨[.ref l], [("default", .int d td)]⟩ = pure () := ha
    show wpAny _ A.in1 (Bind.checkArgs "max" sig ⟨[.ref l], [("default", .int d td)]⟩) _ _ s
    rw [h2]
    exact wpAny_pure body
end
/-- max(xs, default=d) -/
def rMaxDf (K : PySem.W.Frag) : List V → List V → Hp → VK → Prop := fun vs zs H Q => ∃ (a : Addr) (ns : List Int) (d : Int), vs = [V.ref a] ∧ zs = [.int d] ∧ SqL K H a (ns.map V.int) ∧ ∀ M, MaxD ns d M → Q (.int M) H
theorem cr_maxDf {X : Cx} (hc : X.calm = true) : CallRK X (.builtin "max") ["default"] (rMaxDf X.K) := by
  intro pins s σ H vs zs us ws Q I r rz h
  obtain ⟨a, ns, d, rfl, rfl, hs, q⟩ := h
  obtain ⟨its, rv, hl, _⟩ := I.list hs
  rw [Vals.ref1 r]
  cases rz with
  | cons rd rt =>
    cases rt
    obtain ⟨td, rfl⟩ := rd
    exact call_maxD (I.ok.hd hc) hl.isList (by simpa using rv.ints) fun h' tk M t' hk hM => ⟨.int M, H, I.kept hk, ⟨_, rfl⟩, q M hM⟩
end Wk

set_option Elab.async false
set_option linter.all false
set_option maxRecDepth 100000
set_option maxHeartbeats 3200000
/-! Sets of whole numbers made of lists. -/
namespace Wk
open PySem PySem.Spec PyProof.Rows L2
section
variable {P : Program} {w : World} {A : Around} {E : Value → Shared → Prop} {s : Shared}
/-- set(a list of whole numbers) -/
theorem call_setI {l : Addr} {items : Array Value} (xs : List Int) {Q : Value → Shared → Prop} (hh : A.handled = none) (hl : s.heap.IsList l items) (hit : IntsAre items.toList xs) (hb : xs.length + 1 < scanBound)
    (h : ∀ (h' : Heap) (tk c : Nat), SetR w h' s.heap.objs.size (fun j => decide (j ∈ xs)) c → (∀ b o, s.heap.get? b = some o → h'.get? b = some o) → Q (.ref s.heap.objs.size) { s with heap := h', toks := tk }) :
    wpAny (model P w) A (call (.type "set") [.ref l]) Q E s := by
  have hisz : items.size = xs.length := by rw [← IntsAre.length hit, Array.length_toList]
  obtain ⟨c, tl, hmro⟩ := PySem.F.called_set.mro
  have hmade := PySem.F.called_set.made
  have hsub := PySem.F.called_set.sub
  refine wpAny_call (codeAny_of_tree ?_)
  show wpAny _ _ (callAny (.type "set") _) _ _ _
  refine wpAny_pure ⟨Code.quiet_builtin _ (by decide +kernel), codeAny_builtin PySem.F.entry_type_call ?_⟩
  rw [Around.under_plain (weight_type_call_type "set" [.ref l] []) rfl]
  have h1 := PySem.F.called_set.notType
  have h2 := PySem.F.called_set.canCreate
  have hct := PySem.F.typeCall_set_1 (.ref l)
  have hS : (s.heap.push (set0 w)).get? s.heap.objs.size = some (set0 w) := Heap.get?_push_size _ rfl
  repeat (any_goals (first | assumption | wp_step))
  refine codeAny_mono (code_set_led1 (.ref l) (E := E) (Q₁ := fun obj s₁ => obj = .ref s.heap.objs.size ∧ s₁ = { s with heap := s.heap.push (set0 w) }) ⟨rfl, rfl⟩) fun r s₁ hr => ?_
  cases r with
  | error e => exact hr
  | ok fl =>
    cases fl with
    | ret obj =>
      obtain ⟨rfl, rfl⟩ := hr
      have hT : Shared.TypeIs { s with heap := s.heap.push (set0 w) } (.ref s.heap.objs.size) "set" := ⟨_, hS, rfl⟩
      have hli := PySem.F.called_set.init.lookup
      have hbi := PySem.F.called_set.init.bind (.ref s.heap.objs.size)
      repeat (any_goals (first | assumption | wp_step))
      refine codeAny_mono (codeAny_call_builtin (R := wants (fun r s₂ => r = .none ∧ ∃ (h' : Heap) (tk c : Nat), s₂ = { s with heap := h', toks := tk } ∧ SetR w h' s.heap.objs.size (fun j => decide (j ∈ xs)) c ∧
          (∀ b o, s.heap.get? b = some o → h'.get? b = some o)) E) PySem.F.called_set.init.plain PySem.F.entry_set_init (check_set_init_1 hT ?_)) fun r₂ s₂ hr₂ => ?_
      · obtain ⟨ol, hol, hcl, nl, hdl⟩ := hl
        obtain ⟨ocls, odict, odata, oslots⟩ := ol
        simp only at hcl hdl
        subst hcl; subst hdl
        have hol' : (s.heap.push (set0 w)).get? l = some { cls := .type "list", dict := odict, data := .seq items nl, slots := oslots } := Heap.get?_push_of_some _ hol
        have hsls := PySem.F.sub_list_set
        have hslf := PySem.F.sub_list_frozenset
        have hne : (Value.type "list" == Value.type "dict") = false := by decide
        have hl1 : (s.heap.push (set0 w)).IsList l items := ⟨_, hol', rfl, nl, rfl⟩
        unfold Builtin.«set.__init__» noKeywords Builtin.Frozenset.updateFrom
        generalize hPI : pyIter = PI
        wp_walk
        subst hPI
        refine wpAny_pyIter_list hl1 (wpAny_bind (wpAny_runValue ?_))
        have hlS : l < s.heap.objs.size := Heap.lt_size hol
        have hh3 : A.in1.in1.in1.handled = none := hh
        have hz : (s.heap.push (set0 w)).objs.size = s.heap.objs.size + 1 := Heap.size_push ..
        have hneI : l ≠ (s.heap.push (set0 w)).objs.size := by rw [hz]; exact Nat.ne_of_lt (Nat.lt_succ_of_lt hlS)
        have hSf : s.heap.objs.size ∉ [(s.heap.push (set0 w)).objs.size, l] := fun z => by
          rw [hz] at z
          rcases List.mem_cons.mp z with z | z
          · exact absurd z (Nat.ne_of_lt (Nat.lt_succ_self _))
          · exact absurd (List.mem_singleton.mp z) (Nat.ne_of_gt hlS)
        refine set_update_ints ((Walks.list hh3 _ l hneI items).toS) s.heap.objs.size hSf xs hisz hb (fun i v hv => ints_get hit i v (by rw [Array.getElem?_toList]; exact hv)) (items.size - 0) 0 _ (by omega) (Nat.zero_le _)
          ⟨⟨_, Heap.get?_push_size _ rfl, rfl, rfl⟩, hl1.push _⟩ ⟨0, Nat.le_refl _, setR_new_at (Heap.get?_push_of_some _ hS)⟩ fun s' c hm hc hT' => ?_
        obtain ⟨h', g2, d', tk', os'⟩ := s'
        have eg : g2 = s.gens := hm.gens
        have ed : d' = s.drawn := hm.drawn
        have eo : os' = s.os := hm.os
        subst eg; subst ed; subst eo
        refine wpAny_pure ?_
        show wpAny _ _ (ret Value.none) _ _ _
        refine wpAny_pure ⟨rfl, h', tk', c, rfl, hT', fun b o e => ?_⟩
        have hbl : b < s.heap.objs.size := Heap.lt_size e
        refine hm.heap b o (fun z => ?_) (Heap.get?_push_of_some _ (Heap.get?_push_of_some _ e))
        rcases List.mem_cons.mp z with z | z
        · exact absurd hbl (by rw [z]; exact Nat.lt_irrefl _)
        · have z := List.mem_singleton.mp z
          exact absurd hbl (by rw [z]; exact Nat.not_lt_of_le (by rw [hz]; exact Nat.le_succ _))
      · cases r₂ with
        | error e => exact hr₂
        | ok fl₂ =>
          cases fl₂ with
          | ret r =>
            obtain ⟨rfl, h', tk, c, rfl, hT', hk'⟩ := hr₂
            repeat (any_goals (first | assumption | wp_step))
            exact h _ _ _ hT' hk'
          | _ => exact hr₂.elim
    | _ => exact hr.elim
end
theorem set_size {w : World} {h : Heap} {a : Addr} {ns : List Int} {c : Nat} (R : SetR w h a (fun j => decide (j ∈ ns)) c) (nd : ns.Nodup) : c = ns.length := by
  obtain ⟨o, es, ep, t, ho, hex, hd, g, n1, hm, hb, hf, hn, hr, hl⟩ := R
  have pm : (es.toList.map keyOf).Perm ns := (List.perm_ext_iff_of_nodup n1 nd).mpr fun x => by
    rw [← hm x]
    exact decide_eq_true_iff
  have e := pm.length_eq
  rw [List.length_map, Array.length_toList] at e
  omega
def rSetI (K : PySem.W.Frag) (w : World) : List V → Hp → VK → Prop := fun xs H Q => ∃ (l : Addr) (ns : List Int), xs = [V.ref l] ∧ SqL K H l (ns.map V.int) ∧ ns.length + 1 < scanBound ∧
  ∀ (p : Addr) (c : Nat), H p = none → (ns.Nodup → c = ns.length) → Q (.ref p) (upd H p (SetO w p (fun j => decide (j ∈ ns)) c))
section
variable {X : Cx}
theorem cr_setI (hc : X.calm = true) : CallR X (.type "set") (rSetI X.K X.w) := by
  intro pins s σ H xs us Q I r h
  obtain ⟨l, ns, rfl, hl, hb, q⟩ := h
  rw [Vals.ref1 r]
  obtain ⟨its, ri, pl, hz⟩ := I.list hl
  refine call_setI ns (I.ok.hd hc) pl.isList (by simpa using intsAre_of ri) hb fun h' tk c hT hk => ?_
  have hn : H s.heap.objs.size = none := I.hok.fresh (Nat.le_refl _)
  exact ⟨.ref _, upd H s.heap.objs.size (SetO X.w s.heap.objs.size _ c), I.laid (t' := tk) hk (Nat.le_refl _) (setO_new hT), rfl, q _ c hn (set_size hT)⟩
def rLenI (w : World) : List V → Hp → VK → Prop := fun xs H Q => ∃ (a : Addr) (S : Int → Bool) (n : Nat), xs = [V.ref a] ∧ H a = some (SetO w a S n) ∧ Q (.int (n : Nat)) H
theorem cr_lenI : CallR X (.builtin "len") (rLenI X.w) := by
  intro pins s σ H xs us Q I r h
  obtain ⟨a, S, n, rfl, ha, q⟩ := h
  rw [Vals.ref1 r]
  obtain ⟨o, es, ep, t, ho, hex, hd, g, n1, hm, hb, hf, hn, hr, hl⟩ := setO_get I ha
  refine call_len_set ho hex hd hf (by
    have hb2 : scanBound ≤ 2 ^ 62 := by decide
    omega) ⟨.int (n : Nat), H, I.tok _, ⟨_, by rw [hn]⟩, q⟩
end
end Wk

set_option Elab.async false
set_option linter.all false
set_option maxRecDepth 100000
set_option maxHeartbeats 4000000
/-! Private names as texts. -/
namespace Wk
open PySem PySem.Spec PyProof.Rows L2 GxR
def dots (z : Str) : List Nat := Builtin.Str.occurrences z "." 0 z.length 1
def hd0 (f : Str) : Bool := decide (f.cps.toList.head? = some 48)
def privB (z : Str) : Bool := nameB (Txt.partition z ".").1 && (wordB (Txt.partition z ".").2.2 fg && !hd0 (Txt.partition z ".").2.2)
def prV : V → Bool
  | .str z => privB z
  | _ => false
theorem wordB_pos {z s : Str} (h : wordB z s = true) : ∃ c r, z.cps.toList = c :: r := by
  unfold wordB at h
  rw [Bool.and_eq_true] at h
  have h1 : 1 ≤ z.cps.toList.length := by
    have := of_decide_eq_true h.1
    rw [Array.length_toList]
    exact this
  cases e : z.cps.toList with
  | nil => rw [e] at h1; exact absurd h1 (by decide)
  | cons c r => exact ⟨c, r, rfl⟩
theorem sign_eq {c d : Nat} {z : Str} (hz : z = ⟨#[d]⟩) : decide (V.str ⟨#[c]⟩ = V.str z) = decide (c = d) := by
  subst hz
  by_cases h : c = d
  · rw [h, decide_eq_true rfl, decide_eq_true rfl]
  · rw [decide_eq_false h, decide_eq_false]
    intro e
    have e1 : (⟨#[c]⟩ : Str) = ⟨#[d]⟩ := V.str.inj e
    have e2 : (#[c] : Array Nat) = #[d] := congrArg Str.cps e1
    exact h (by simpa using e2)
theorem part_of (z : Str) : Txt.partition z "." = match dots z with
    | [] => (z, Str.empty, Str.empty)
    | i :: _ => (Builtin.Str.strSub z 0 i, ".", Builtin.Str.strSub z (i + 1) z.length) := by
  unfold dots Txt.partition
  rcases StrLaws.occ_head z "." 1 (Nat.le_refl 1) with ⟨h0, _⟩ | ⟨i, r, h0, _, _⟩
  · rw [h0]
  · rw [h0]
    rfl
theorem dots_none {z : Str} (h : 46 ∉ z.cps.toList) : dots z = [] := by
  have e := StrLaws.found_one z 46
  rw [decide_eq_false h] at e
  have e2 : (Builtin.Str.occurrences z ⟨#[46]⟩ 0 z.length 1).isEmpty = true := by simpa using e
  exact List.isEmpty_iff.mp e2
theorem dots_at {z : Str} {xs ys : List Nat} (h : z.cps.toList = xs ++ 46 :: ys) (hx : 46 ∉ xs) : ∃ r, dots z = xs.length :: r := by
  have at0 : z.cps.toList[xs.length]? = some 46 := by rw [h, List.getElem?_append_right (Nat.le_refl _), Nat.sub_self]; rfl
  have a0 : StrLaws.At z "." z.length xs.length := (StrLaws.subAt_one z 46 xs.length).mpr at0
  rcases StrLaws.occ_head z "." 1 (Nat.le_refl 1) with ⟨_, hn⟩ | ⟨i, r, h0, hi, hb⟩
  · exact absurd a0 (hn xs.length)
  · refine ⟨r, ?_⟩
    have e : i = xs.length := by
      rcases Nat.lt_trichotomy i xs.length with c | c | c
      · have q := (StrLaws.subAt_one z 46 i).mp hi
        rw [h, List.getElem?_append_left c] at q
        exact absurd (List.mem_of_getElem? q) hx
      · exact c
      · exact absurd a0 (hb xs.length c)
    rw [← e]
    exact h0
theorem sub_codes (z : Str) (i j : Nat) : (Builtin.Str.strSub z i j).cps.toList = (z.cps.toList.drop i).take (j - i) := by
  show (z.cps.extract i j).toList = _
  rw [Array.toList_extract, List.extract_eq_take_drop]
theorem str_ext {x y : Str} (h : x.cps.toList = y.cps.toList) : x = y := Str.ext' (Array.toList_inj.mp h)
theorem priv_codes (x : Str) (k : Nat) : (priv x k).cps.toList = x.cps.toList ++ 46 :: (Str.ofString (toString (k : Int))).cps.toList := by
  unfold priv
  rw [app_codes, app_codes, List.append_assoc]
  rfl
theorem len_codes (x : Str) : x.length = x.cps.toList.length := (Array.length_toList).symm
theorem priv_part {x : Str} {k : Nat} (hx : 46 ∉ x.cps.toList) : Txt.partition (priv x k) "." = ((x, ((".", Str.ofString (toString (k : Int))) : Str × Str)) : Str × Str × Str) := by
  obtain ⟨r, hr⟩ := dots_at (priv_codes x k) hx
  rw [part_of, hr]
  dsimp only
  have l : (priv x k).length = x.cps.toList.length + ((Str.ofString (toString (k : Int))).cps.toList.length + 1) := by
    rw [len_codes, priv_codes, List.length_append, List.length_cons]
  refine Prod.ext ?_ (Prod.ext rfl ?_)
  · refine str_ext ?_
    show (Builtin.Str.strSub (priv x k) 0 x.cps.toList.length).cps.toList = _
    rw [sub_codes, priv_codes, List.drop_zero, Nat.sub_zero, List.take_append_of_le_length (Nat.le_refl _), List.take_length]
  · refine str_ext ?_
    show (Builtin.Str.strSub (priv x k) (x.cps.toList.length + 1) (priv x k).length).cps.toList = _
    rw [sub_codes, priv_codes, l, List.drop_append, List.drop_of_length_le (by omega), List.nil_append, show x.cps.toList.length + 1 - x.cps.toList.length = 1 by omega]
    show List.take _ (Str.ofString (toString (k : Int))).cps.toList = _
    rw [List.take_of_length_le (by omega)]
def figsOk (k : Nat) : Bool := wordB (Str.ofString (toString (k : Int))) fg && !hd0 (Str.ofString (toString (k : Int)))
theorem figs_ok : ∀ k : Nat, k < 300 → 1 ≤ k → figsOk k = true := by decide +kernel
theorem priv_true {x : Str} {k : Nat} (hx : 46 ∉ x.cps.toList) (hn : nameB x = true) (h1 : 1 ≤ k) (h2 : k < 300) : privB (priv x k) = true := by
  unfold privB
  rw [priv_part hx, hn]
  exact figs_ok k h2 h1
theorem priv_false {z : Str} (h : 46 ∉ z.cps.toList) : privB z = false := by
  unfold privB
  rw [part_of, dots_none h]
  have e : wordB Str.empty fg = false := by decide +kernel
  dsimp only
  rw [e, Bool.false_and, Bool.and_false]
theorem priv_dot (x : Str) (k : Nat) : 46 ∈ (priv x k).cps.toList := by
  rw [priv_codes]
  exact List.mem_append_right _ List.mem_cons_self
theorem name_nodot {j : Nat} {z : Str} (h : NameOf j z) (hj : j < 26) : 46 ∉ z.cps.toList := fun c => by
  obtain ⟨r, e, _, h2⟩ := h
  rw [e] at c
  rcases List.mem_cons.mp c with q | q
  · omega
  · have := vow_lt 46 (h2 46 q)
    omega
theorem priv_index {x : Str} {k : Nat} (hx : 46 ∉ x.cps.toList) : Txt.index0 (priv x k) "." = some x.cps.toList.length := by
  obtain ⟨r, hr⟩ := dots_at (priv_codes x k) hx
  show (dots (priv x k)).head? = _
  rw [hr]
  rfl
theorem priv_inj {x y : Str} {j k : Nat} (hx : 46 ∉ x.cps.toList) (hy : 46 ∉ y.cps.toList) (hj : j < 300) (hk : k < 300) (h : priv x j = priv y k) : x = y ∧ j = k := by
  have e : Txt.partition (priv x j) "." = Txt.partition (priv y k) "." := by rw [h]
  rw [priv_part hx, priv_part hy] at e
  have e1 := congrArg (·.1) e
  have e2 : Str.ofString (toString (j : Int)) = Str.ofString (toString (k : Int)) := congrArg (·.2.2) e
  refine ⟨e1, ?_⟩
  have n1 := PySem.W.KIN.num_reads (n := (j : Int)) (by omega) (by omega)
  have n2 := PySem.W.KIN.num_reads (n := (k : Int)) (by omega) (by omega)
  rw [e2, n2] at n1
  have := Option.some.inj n1
  omega
theorem priv_cut {x : Str} {k : Nat} : cutS (priv x k) (some ((x.cps.toList.length + 1 : Nat) : Int)) none = Str.ofString (toString (k : Int)) := by
  refine str_ext ?_
  have l : (priv x k).length = x.cps.toList.length + ((Str.ofString (toString (k : Int))).cps.toList.length + 1) := by
    rw [len_codes, priv_codes, List.length_append, List.length_cons]
  show ((priv x k).cps.toList.drop (HT.sIx (priv x k).length 0 (some ((x.cps.toList.length + 1 : Nat) : Int)))).take (HT.sIx (priv x k).length (priv x k).length none - HT.sIx (priv x k).length 0 (some ((x.cps.toList.length + 1 : Nat) : Int))) = _
  rw [HT.sIx_none, HT.sIx_nat, Nat.min_eq_left (by omega), priv_codes, List.drop_append, List.drop_of_length_le (by omega), List.nil_append, show x.cps.toList.length + 1 - x.cps.toList.length = 1 by omega]
  show List.take _ (Str.ofString (toString (k : Int))).cps.toList = _
  rw [List.take_of_length_le (by omega)]
/-! ### the callings of stands -/
/-- a plain name, or the private one whose base B tells, with a number below N -/
def CalOk (Pl : Str → Prop) (B : Nat → Str) (N : Nat) (n : Str) : Prop := Pl n ∨ ∃ k, n = priv (B k) k ∧ 1 ≤ k ∧ k < N ∧ 46 ∉ (B k).cps.toList ∧ nameB (B k) = true
theorem CalOk.mono {Pl : Str → Prop} {B B' : Nat → Str} {N N' : Nat} {n : Str} (h : CalOk Pl B N n) (hB : ∀ j, j < N → B' j = B j) (hN : N ≤ N') : CalOk Pl B' N' n := by
  rcases h with h | ⟨k, e, h1, h2, h3, h4⟩
  · exact .inl h
  · refine .inr ⟨k, ?_, h1, Nat.lt_of_lt_of_le h2 hN, ?_, ?_⟩
    · rw [hB k h2]; exact e
    · rw [hB k h2]; exact h3
    · rw [hB k h2]; exact h4
/-- names that are bound are plain ones -/
def PlB (r : List Part) : Prop := ∀ x ∈ bdR r, 46 ∉ x.cps.toList ∧ nameB x = true
theorem PlB.sub {r q : List Part} (h : PlB r) (s : ∀ x ∈ bdR q, x ∈ bdR r) : PlB q := fun x hx => h x (s x hx)
theorem frd_cal {Pl : Str → Prop} : ∀ (n k : Nat) (r : List Part) (B : Nat → Str), deepR r ≤ n → Gd r → PlB r → k + sizeR r < 10 ^ 10 → 1 ≤ k → okR (CalOk Pl B k) r →
    ∃ B' : Nat → Str, (∀ j, j < k → B' j = B j) ∧ okR (CalOk Pl B' (frdR n k r).1) (frdR n k r).2
  | 0, k, r, B, hd, g, pb, hk, h1, h => ⟨B, fun _ _ => rfl, h⟩
  | n + 1, k, r, B, hd, g, pb, hk, h1, h => by
    show ∃ B' : Nat → Str, (∀ j, j < k → B' j = B j) ∧ okR (CalOk Pl B' (frdL (frdR n) k r).1) (frdL (frdR n) k r).2
    induction r generalizing k B with
    | nil => exact ⟨B, fun _ _ => rfl, trivial⟩
    | cons p r ih =>
      have hd' : max (deepP p) (deepR r) ≤ n + 1 := hd
      have hk' : k + (sizeP p + sizeR r) < 10 ^ 10 := hk
      have g1 := g.head
      have d2 := deep_rest p
      have s2 := size_rest p
      have pb1 : ∀ x ∈ bdP p, 46 ∉ x.cps.toList ∧ nameB x = true := fun x hx => pb x (List.mem_append_left _ hx)
      have one : k ≤ (frdP (frdR n) k p).1 ∧ (frdP (frdR n) k p).1 ≤ k + sizeP p ∧ ∃ B' : Nat → Str, (∀ j, j < k → B' j = B j) ∧ okR (CalOk Pl B' (frdP (frdR n) k p).1) (frdP (frdR n) k p).2 := by
        cases p with
        | say m => exact ⟨Nat.le_refl _, Nat.le_add_right _ _, B, fun _ _ => rfl, h.1, trivial⟩
        | again q => exact ⟨Nat.le_refl _, Nat.le_add_right _ _, B, fun _ _ => rfl, h.1, trivial⟩
        | oth w m q =>
          have v1 : deepR (restP (Part.oth w m q)) = deepR q := rfl
          have v2 : sizeR (restP (Part.oth w m q)) = sizeR q := rfl
          have pbq : PlB q := fun x hx => pb1 x (List.mem_append_right _ hx)
          cases w with
          | room =>
            have f := frd_ok n k q (by omega) g1.rest (by omega)
            obtain ⟨B', hB, hc⟩ := frd_cal n k q B (by omega) g1.rest pbq (by omega) h1 h.1.2
            have fl := f.lo
            have fh := f.hi
            exact ⟨fl, (by show (frdR n k q).1 ≤ k + (sizeR q + 1); omega), B', hB, ⟨h.1.1.mono hB fl, hc⟩, trivial⟩
          | new =>
            obtain ⟨hx, hs⟩ := g1.out rfl
            obtain ⟨pm1, pm2⟩ := pb1 m (List.mem_append_left _ List.mem_cons_self)
            have eb : bdR (calledR m (priv m k) q) = bdR q := by rw [called_lcR q hx]; exact lc_bdR q hx
            have gc := g1.rest.called hx (priv_sh (k := k) hs (by omega))
            have f := frd_ok n (k + 1) (calledR m (priv m k) q) (by rw [calledR_deep]; omega) gc (by rw [calledR_size]; omega)
            have B1 : ∀ j, j < k → (fun j => if j = k then m else B j) j = B j := fun j hj => if_neg (by omega)
            have ok1 : okR (CalOk Pl (fun j => if j = k then m else B j) (k + 1)) (calledR m (priv m k) q) := calledR_ok m (priv m k) (.inr ⟨k, (by
                show priv m k = priv (if k = k then m else B k) k
                rw [if_pos rfl]), h1, Nat.lt_succ_self k, (by
                show 46 ∉ (if k = k then m else B k).cps.toList
                rw [if_pos rfl]; exact pm1), (by
                show nameB (if k = k then m else B k) = true
                rw [if_pos rfl]; exact pm2)⟩) q (okR.imp (fun x hx => CalOk.mono hx B1 (Nat.le_succ k)) q h.1.2)
            obtain ⟨B', hB, hc⟩ := frd_cal n (k + 1) (calledR m (priv m k) q) _ (by rw [calledR_deep]; omega) gc (fun x hx => pbq x (by rw [eb] at hx; exact hx)) (by rw [calledR_size]; omega) (by omega) ok1
            have fl := f.lo
            have fh := f.hi
            rw [calledR_size] at fh
            exact ⟨(by show k ≤ (frdR n (k + 1) (calledR m (priv m k) q)).1; omega), (by show (frdR n (k + 1) (calledR m (priv m k) q)).1 ≤ k + (sizeR q + 1); omega), B', fun j hj => by rw [hB j (by omega)]; exact B1 j hj, hc⟩
          | inn => exact ⟨Nat.le_refl _, Nat.le_add_right _ _, B, fun _ _ => rfl, h.1, trivial⟩
          | out => exact ⟨Nat.le_refl _, Nat.le_add_right _ _, B, fun _ _ => rfl, h.1, trivial⟩
          | opn => exact ⟨Nat.le_refl _, Nat.le_add_right _ _, B, fun _ _ => rfl, h.1, trivial⟩
          | hear => exact ⟨Nat.le_refl _, Nat.le_add_right _ _, B, fun _ _ => rfl, h.1, trivial⟩
      obtain ⟨o1, o2, B1, hB1, hc1⟩ := one
      obtain ⟨B2, hB2, hc2⟩ := ih (frdP (frdR n) k p).1 B1 (by omega) g.tail (fun x hx => pb x (List.mem_append_right _ hx)) (by omega) (by omega) (okR.imp (fun x hx => hx.mono hB1 o1) r h.2)
      have tl := frd_ok (n + 1) (frdP (frdR n) k p).1 r (by omega) g.tail (by omega)
      refine ⟨B2, fun j hj => by rw [hB2 j (by omega)]; exact hB1 j hj, okR_app (okR.imp (fun x hx => hx.mono hB2 tl.lo) _ hc1) hc2⟩
end Wk
namespace Wk
open PySem PySem.Spec PyProof.Rows L2 GxR
theorem pw_sorted : ∀ l : List Str, l.Pairwise leS → sortedS l = true := fun l h => sortedS_of_pairwise l (h.imp fun {a b} q => by
  rw [ltCps_eq]
  exact decide_eq_false q)
theorem sorted_filter {ys : List Str} {f : Str → Bool} (h : sortedS ys = true) : sortedS (ys.filter f) = true := pw_sorted _ ((sorted_pw ys h).filter f)
def spPrivs (Ts : List Addr) (n : Nat) : Sp := fun vs H Q _ => ∃ (v : V) (r : List Part), vs = [v] ∧ RowAt H r v ∧ deepR r < n ∧ sizeR r ≤ 1000 ∧ deepR r ≤ 1000 ∧ (∀ x ∈ frR [] r, x.length ≤ 1000) ∧ (∀ L : List Str, L.Nodup → (∀ x, x ∈ L ↔ x ∈ frR [] r) → L.length < 64) ∧ TabsG Ts H ∧
  ∀ (H' : Hp) (p : Addr) (ys : List Str), SamTs Ts H H' → H p = none → ys.Nodup → (∀ x, x ∈ ys ↔ x ∈ frR [] r ∧ privB x = true) → sortedS ys = true → ys.length < 64 → H' p = some (.lst (ys.map V.str)) → Q (.ref p) H'
end Wk
namespace Wk
open PySem PySem.Spec PyProof.Rows L2 GxR
/-- as many numbers are used as bound names are gone, at most -/
theorem frd_num : ∀ (n k : Nat) (r : List Part), deepR r ≤ n → Gd r → k + sizeR r < 10 ^ 10 → (frdR n k r).1 + (bdR (frdR n k r).2).length ≤ k + (bdR r).length
  | 0, k, r, hd, g, hk => Nat.le_refl _
  | n + 1, k, r, hd, g, hk => by
    show (frdL (frdR n) k r).1 + (bdR (frdL (frdR n) k r).2).length ≤ k + (bdR r).length
    induction r generalizing k with
    | nil => exact Nat.le_refl _
    | cons p r ih =>
      have hd' : max (deepP p) (deepR r) ≤ n + 1 := hd
      have hk' : k + (sizeP p + sizeR r) < 10 ^ 10 := hk
      have g1 := g.head
      have d2 := deep_rest p
      have s2 := size_rest p
      have one : (frdP (frdR n) k p).1 + (bdR (frdP (frdR n) k p).2).length ≤ k + (bdP p).length ∧ (frdP (frdR n) k p).1 ≤ k + sizeP p := by
        have stay : ∀ (q : Part), k + (bdR [q]).length ≤ k + (bdP q).length := fun q => by
          rw [show bdR [q] = bdP q from List.append_nil _]
          exact Nat.le_refl _
        cases p with
        | say m => exact ⟨stay _, Nat.le_add_right _ _⟩
        | again q => exact ⟨stay _, Nat.le_add_right _ _⟩
        | oth w m q =>
          have v1 : deepR (restP (Part.oth w m q)) = deepR q := rfl
          have v2 : sizeR (restP (Part.oth w m q)) = sizeR q := rfl
          cases w with
          | room =>
            have f := frd_ok n k q (by omega) g1.rest (by omega)
            have fh := f.hi
            have e1 : ∀ t, bdR [Part.oth .room m t] = bdR t := fun t => by
              show ([] ++ bdR t) ++ [] = _
              rw [List.append_nil]; rfl
            have i1 := frd_num n k q (by omega) g1.rest (by omega)
            refine ⟨?_, (by show (frdR n k q).1 ≤ k + (sizeR q + 1); omega)⟩
            show (frdR n k q).1 + (bdR [Part.oth .room m (frdR n k q).2]).length ≤ k + ([] ++ bdR q).length
            rw [e1, List.nil_append]
            exact i1
          | new =>
            obtain ⟨hx, hs⟩ := g1.out rfl
            have eb : bdR (calledR m (priv m k) q) = bdR q := by rw [called_lcR q hx]; exact lc_bdR q hx
            have gc := g1.rest.called hx (priv_sh (k := k) hs (by omega))
            have f := frd_ok n (k + 1) (calledR m (priv m k) q) (by rw [calledR_deep]; omega) gc (by rw [calledR_size]; omega)
            have fh := f.hi
            rw [calledR_size] at fh
            have i1 := frd_num n (k + 1) (calledR m (priv m k) q) (by rw [calledR_deep]; omega) gc (by rw [calledR_size]; omega)
            rw [eb] at i1
            refine ⟨?_, (by show (frdR n (k + 1) (calledR m (priv m k) q)).1 ≤ k + (sizeR q + 1); omega)⟩
            show (frdR n (k + 1) (calledR m (priv m k) q)).1 + (bdR (frdR n (k + 1) (calledR m (priv m k) q)).2).length ≤ k + (m :: bdR q).length
            rw [List.length_cons]
            omega
          | inn => exact ⟨stay _, Nat.le_add_right _ _⟩
          | out => exact ⟨stay _, Nat.le_add_right _ _⟩
          | opn => exact ⟨stay _, Nat.le_add_right _ _⟩
          | hear => exact ⟨stay _, Nat.le_add_right _ _⟩
      obtain ⟨o1, o2⟩ := one
      have tl := ih (frdP (frdR n) k p).1 (by omega) g.tail (by omega)
      show (frdL (frdR n) (frdP (frdR n) k p).1 r).1 + (bdR ((frdP (frdR n) k p).2 ++ (frdL (frdR n) (frdP (frdR n) k p).1 r).2)).length ≤ k + (bdP p ++ bdR r).length
      rw [bdR_app, List.length_append, List.length_append]
      omega
/-! ### callings with a dot -/
def dt (n : Str) : List Str := if 46 ∈ n.cps.toList then [n] else []
mutual
def pvP : Part → List Str
  | .say n => dt n
  | .again r => pvR r
  | .oth _ n r => dt n ++ pvR r
def pvR : List Part → List Str
  | [] => []
  | p :: r => pvP p ++ pvR r
end
theorem pvR_app : ∀ r q : List Part, pvR (r ++ q) = pvR r ++ pvR q
  | [], q => rfl
  | p :: r, q => by
    show pvP p ++ pvR (r ++ q) = (pvP p ++ pvR r) ++ pvR q
    rw [pvR_app r q, List.append_assoc]
theorem dt_len (n : Str) : (dt n).length ≤ 1 := by
  unfold dt
  by_cases c : 46 ∈ n.cps.toList
  · rw [if_pos c]; exact Nat.le_refl _
  · rw [if_neg c]; exact Nat.zero_le _
mutual
theorem pvP_len : ∀ p : Part, (pvP p).length ≤ sizeP p
  | .say n => dt_len n
  | .again r => by
    have := pvR_len r
    show (pvR r).length ≤ sizeR r + 1
    omega
  | .oth _ n r => by
    have h1 := pvR_len r
    have h2 := dt_len n
    show (dt n ++ pvR r).length ≤ sizeR r + 1
    rw [List.length_append]
    omega
theorem pvR_len : ∀ r : List Part, (pvR r).length ≤ sizeR r
  | [] => Nat.le_refl _
  | p :: r => by
    have h1 := pvP_len p
    have h2 := pvR_len r
    show (pvP p ++ pvR r).length ≤ sizeP p + sizeR r
    rw [List.length_append]
    omega
end
theorem dt_mem {x n : Str} (h : x ∈ dt n) : x = n ∧ 46 ∈ n.cps.toList := by
  unfold dt at h
  by_cases c : 46 ∈ n.cps.toList
  · rw [if_pos c] at h; exact ⟨List.mem_singleton.mp h, c⟩
  · rw [if_neg c] at h; cases h
mutual
theorem pv_frP {x : Str} : ∀ (p : Part) (S : List Str), x ∉ S → (∀ y ∈ bdP p, 46 ∉ y.cps.toList) → x ∈ pvP p → x ∈ frP S p ∧ 46 ∈ x.cps.toList
  | .say n, S, hS, hb, hx => by
    obtain ⟨e, d⟩ := dt_mem hx
    unfold frP
    rw [← e, if_neg hS]
    exact ⟨List.mem_singleton.mpr rfl, e ▸ d⟩
  | .again r, S, hS, hb, hx => pv_frR r S hS hb hx
  | .oth w n r, S, hS, hb, hx => by
    unfold bdP at hb
    unfold frP
    have hbr : ∀ y ∈ bdR r, 46 ∉ y.cps.toList := fun y hy => hb y (List.mem_append_right _ hy)
    rcases List.mem_append.mp (show x ∈ dt n ++ pvR r from hx) with g | g
    · obtain ⟨e, d⟩ := dt_mem g
      by_cases b : w.binds = true
      · exact absurd d (hb n (List.mem_append_left _ (by rw [if_pos b]; exact List.mem_singleton.mpr rfl)))
      · rw [if_neg b, ← e, if_neg hS]
        exact ⟨List.mem_append_left _ (List.mem_singleton.mpr rfl), e ▸ d⟩
    · by_cases b : w.binds = true
      · rw [if_pos b]
        have nn : 46 ∉ n.cps.toList := hb n (List.mem_append_left _ (by rw [if_pos b]; exact List.mem_singleton.mpr rfl))
        obtain ⟨h1, h2⟩ := pv_frR r [] (fun z => nomatch z) hbr g
        refine pv_frR r (S ++ [n]) (fun z => ?_) hbr g
        rcases List.mem_append.mp z with q | q
        · exact hS q
        · rw [List.mem_singleton.mp q] at h2
          exact nn h2
      · rw [if_neg b]
        obtain ⟨h1, h2⟩ := pv_frR r S hS hbr g
        exact ⟨List.mem_append_right _ h1, h2⟩
theorem pv_frR {x : Str} : ∀ (r : List Part) (S : List Str), x ∉ S → (∀ y ∈ bdR r, 46 ∉ y.cps.toList) → x ∈ pvR r → x ∈ frR S r ∧ 46 ∈ x.cps.toList
  | [], S, _, _, hx => nomatch hx
  | p :: r, S, hS, hb, hx => by
    rcases List.mem_append.mp (show x ∈ pvP p ++ pvR r from hx) with g | g
    · obtain ⟨h1, h2⟩ := pv_frP p S hS (fun y hy => hb y (List.mem_append_left _ hy)) g
      exact ⟨List.mem_append_left _ h1, h2⟩
    · obtain ⟨h1, h2⟩ := pv_frR r S hS (fun y hy => hb y (List.mem_append_right _ hy)) g
      exact ⟨List.mem_append_right _ h1, h2⟩
end
mutual
theorem fr_pvP {x : Str} (d : 46 ∈ x.cps.toList) : ∀ (p : Part) (S : List Str), x ∈ frP S p → x ∈ pvP p
  | .say n, S, hx => by
    unfold frP at hx
    by_cases c : n ∈ S
    · rw [if_pos c] at hx; cases hx
    · rw [if_neg c] at hx
      have e := List.mem_singleton.mp hx
      show x ∈ dt n
      unfold dt
      rw [← e, if_pos d]
      exact List.mem_singleton.mpr rfl
  | .again r, S, hx => fr_pvR d r S hx
  | .oth w n r, S, hx => by
    unfold frP at hx
    show x ∈ dt n ++ pvR r
    by_cases b : w.binds = true
    · rw [if_pos b] at hx
      exact List.mem_append_right _ (fr_pvR d r _ hx)
    · rw [if_neg b] at hx
      rcases List.mem_append.mp hx with g | g
      · by_cases c : n ∈ S
        · rw [if_pos c] at g; cases g
        · rw [if_neg c] at g
          have e := List.mem_singleton.mp g
          refine List.mem_append_left _ ?_
          unfold dt
          rw [← e, if_pos d]
          exact List.mem_singleton.mpr rfl
      · exact List.mem_append_right _ (fr_pvR d r S g)
theorem fr_pvR {x : Str} (d : 46 ∈ x.cps.toList) : ∀ (r : List Part) (S : List Str), x ∈ frR S r → x ∈ pvR r
  | [], S, hx => nomatch hx
  | p :: r, S, hx => by
    rcases List.mem_append.mp (show x ∈ frP S p ++ frR S r from hx) with g | g
    · exact List.mem_append_left _ (fr_pvP d p S g)
    · exact List.mem_append_right _ (fr_pvR d r S g)
end
/-- a row of a stand, or within one of its rooms -/
structure StRow (zs : List Str) (B : Nat → Str) (N : Nat) (r : List Part) : Prop where
  cal : okR (CalOk (fun n => n ∈ zs) B N) r
  sh : okR (Sh 30) r
  pl : ∀ y ∈ bdR r, 46 ∉ y.cps.toList
  deep : deepR r ≤ 5
  size : sizeR r ≤ 201
theorem StRow.priv_iff {zs : List Str} {B : Nat → Str} {N : Nat} {r : List Part} (h : StRow zs B N r) (hz : ∀ z ∈ zs, 46 ∉ z.cps.toList) (hN : N ≤ 300) : ∀ x, x ∈ pvR r ↔ x ∈ frR [] r ∧ privB x = true := fun x => by
  constructor
  · intro hx
    obtain ⟨h1, h2⟩ := pv_frR r [] (fun z => nomatch z) h.pl hx
    refine ⟨h1, ?_⟩
    rcases fr_okR r [] h.cal x h1 with c | ⟨k, e, k1, k2, k3, k4⟩
    · exact absurd h2 (hz x c)
    · rw [e]
      exact priv_true k3 k4 k1 (by omega)
  · intro hx
    by_cases d : 46 ∈ x.cps.toList
    · exact fr_pvR d r [] hx.1
    · rw [priv_false d] at hx
      cases hx.2
theorem StRow.few {zs : List Str} {B : Nat → Str} {N : Nat} {r : List Part} (h : StRow zs B N r) (hl : zs.length + N < 64) : ∃ D : List Str, D.length < 64 ∧ ∀ x ∈ frR [] r, x ∈ D :=
  ⟨zs ++ (List.range N).map fun k => priv (B k) k, by rw [List.length_append, List.length_map, List.length_range]; exact hl, fun x hx => by
    rcases fr_okR r [] h.cal x hx with c | ⟨k, e, k1, k2, k3, k4⟩
    · exact List.mem_append_left _ c
    · exact List.mem_append_right _ (List.mem_map.mpr ⟨k, List.mem_range.mpr k2, e.symm⟩)⟩
theorem StRow.lt64 {zs : List Str} {B : Nat → Str} {N : Nat} {r : List Part} (h : StRow zs B N r) (hl : zs.length + N < 64) : ∀ L : List Str, L.Nodup → (∀ x, x ∈ L ↔ x ∈ frR [] r) → L.length < 64 :=
  Wk.lt64 (D := zs ++ (List.range N).map fun k => priv (B k) k) (fun x hx => by
    rcases fr_okR r [] h.cal x hx with c | ⟨k, e, k1, k2, k3, k4⟩
    · exact List.mem_append_left _ c
    · exact List.mem_append_right _ (List.mem_map.mpr ⟨k, List.mem_range.mpr k2, e.symm⟩)) (by rw [List.length_append, List.length_map, List.length_range]; exact hl)
/-! ### rooms -/
mutual
def rmP : Part → List (List Part)
  | .say _ => []
  | .again _ => []
  | .oth w _ r => match w with
    | .room => r :: rmR r
    | _ => []
def rmR : List Part → List (List Part)
  | [] => []
  | p :: r => rmP p ++ rmR r
end
theorem rmR_app : ∀ r q : List Part, rmR (r ++ q) = rmR r ++ rmR q
  | [], q => rfl
  | p :: r, q => by
    show rmP p ++ rmR (r ++ q) = (rmP p ++ rmR r) ++ rmR q
    rw [rmR_app r q, List.append_assoc]
mutual
theorem rmP_len : ∀ p : Part, (rmP p).length ≤ sizeP p
  | .say _ => Nat.zero_le _
  | .again r => Nat.zero_le _
  | .oth w x r => by
    have h := rmR_len r
    cases w with
    | room => show (rmR r).length + 1 ≤ sizeR r + 1; omega
    | _ => exact Nat.zero_le _
theorem rmR_len : ∀ r : List Part, (rmR r).length ≤ sizeR r
  | [] => Nat.le_refl _
  | p :: r => by
    have h1 := rmP_len p
    have h2 := rmR_len r
    show (rmP p ++ rmR r).length ≤ sizeP p + sizeR r
    rw [List.length_append]
    omega
end
theorem StRow.part {zs : List Str} {B : Nat → Str} {N : Nat} {p : Part} {r : List Part} (h : StRow zs B N r) (hp : p ∈ r) : StRow zs B N (restP p) :=
  ⟨rest_ok (h.cal.mem p hp), rest_ok (h.sh.mem p hp), fun y hy => h.pl y (bd_mem p hp (rest_bd hy)), Nat.le_trans (rest_deep p) (Nat.le_trans (deepR.mem p hp) h.deep), Nat.le_trans (rest_size p) (Nat.le_trans (sizeR.mem p hp) h.size)⟩
theorem rm_st {zs : List Str} {B : Nat → Str} {N : Nat} : ∀ (d : Nat) (r : List Part), deepR r ≤ d → StRow zs B N r → ∀ q ∈ rmR r, StRow zs B N q
  | 0, r, hd, h, q, hq => by
    cases r with
    | nil => cases hq
    | cons p r =>
      have := deep_posP p
      have h2 : max (deepP p) (deepR r) ≤ 0 := hd
      omega
  | d + 1, r, hd, h, q, hq => by
    have key : ∀ (r' : List Part), (∀ p ∈ r', p ∈ r) → ∀ q ∈ rmR r', StRow zs B N q := by
      intro r'
      induction r' with
      | nil => intro _ q hq; cases hq
      | cons p r' ih =>
        intro hs q hq
        rcases List.mem_append.mp (show q ∈ rmP p ++ rmR r' from hq) with g | g
        · have hp := hs p List.mem_cons_self
          have hst := h.part hp
          have dm := deepR.mem p hp
          have dr := deep_rest p
          cases p with
          | say m => cases g
          | again t => cases g
          | oth w m t =>
            have v1 : deepR (restP (Part.oth w m t)) = deepR t := rfl
            cases w with
            | room =>
              rcases List.mem_cons.mp (show q ∈ t :: rmR t from g) with e | e
              · rw [e]; exact hst
              · exact rm_st d t (by omega) hst q e
            | _ => cases g
        · exact ih (fun p hp => hs p (List.mem_cons_of_mem _ hp)) q g
    exact key r (fun p hp => hp) q hq
def spPrivL (n : Nat) : Sp := fun vs H Q _ => ∃ (v : V) (r : List Part) (Fd : Addr) (fs : List Str), vs = [v, .ref Fd] ∧ RowAt H r v ∧ H Fd = some (.lst (fs.map V.str)) ∧ deepR r < n ∧ sizeR r + fs.length ≤ 1000 ∧
  ∀ H', Sam1 Fd H H' → H' Fd = some (.lst ((fs ++ pvR r).map V.str)) → Q (.ref Fd) H'
def spRooms (n : Nat) : Sp := fun vs H Q _ => ∃ (v : V) (r : List Part), vs = [v] ∧ RowAt H r v ∧ deepR r < n ∧ sizeR r ≤ 1000 ∧
  ∀ (H' : Hp) (p : Addr) (us : List V), Same H H' → H p = none → H' p = some (.lst us) → LvAt H' (rmR r) us → Q (.ref p) H'
def spTold2 (Ts : List Addr) (n : Nat) : Sp := fun vs H Q _ => ∃ (v : V) (r : List Part), vs = [v] ∧ RowAt H r v ∧ deepR r < n ∧ sizeR r ≤ 1000 ∧ deepR r ≤ 1000 ∧ okR (Sh 30) r ∧ (∃ D : List Str, D.length < 64 ∧ ∀ x ∈ frR [] r, x ∈ D) ∧ (∀ x, x ∈ pvR r ↔ x ∈ frR [] r ∧ privB x = true) ∧ TabsG Ts H ∧
  ∀ (H' : Hp), SamTs Ts H H' → Q (.bl true) H'
/-- the numbers of private names -/
theorem nums_of {B : Nat → Str} {N : Nat} : ∀ ys : List Str, (∀ y ∈ ys, ∃ k, y = priv (B k) k ∧ 1 ≤ k ∧ k < N ∧ 46 ∉ (B k).cps.toList) → ∃ ks : List Nat, ys = ks.map (fun k => priv (B k) k) ∧ ∀ k ∈ ks, 1 ≤ k ∧ k < N ∧ 46 ∉ (B k).cps.toList
  | [], _ => ⟨[], rfl, fun _ h => nomatch h⟩
  | y :: ys, h => by
    obtain ⟨k, e, h1⟩ := h y List.mem_cons_self
    obtain ⟨ks, e2, h2⟩ := nums_of ys fun z hz => h z (List.mem_cons_of_mem _ hz)
    exact ⟨k :: ks, by rw [e, e2]; rfl, fun j hj => by
      rcases List.mem_cons.mp hj with q | q
      · rw [q]; exact h1
      · exact h2 j q⟩
end Wk

set_option Elab.async false
set_option linter.all false
set_option maxRecDepth 100000
set_option maxHeartbeats 1000000
/-! Steps that a row has; rows put within rows. -/
namespace Wk
open PySem PySem.Spec PyProof.Rows L2 GxR
theorem gsL_mem {path : List Nat} {r : List Part} {x : Stp} : ∀ {l : List Part} {k i : Nat} {p : Part}, l[i]? = some p → x ∈ gsP path r (k + i) p → x ∈ gsL path r k l
  | [], k, i, p, h, _ => by cases h
  | y :: l, k, 0, p, h, g => by
    cases h
    exact List.mem_append_left _ g
  | y :: l, k, i + 1, p, h, g => List.mem_append_right _ (gsL_mem (k := k + 1) (i := i) h (by rw [show k + 1 + i = k + (i + 1) by omega]; exact g))
theorem gsR_mem {path : List Nat} {r : List Part} {x : Stp} {i : Nat} {p : Part} (h : r[i]? = some p) (g : x ∈ gsP path r i p) : x ∈ gsR path r := gsL_mem (k := 0) (i := i) h (by rw [Nat.zero_add]; exact g)
theorem gs_at {x : Stp} {q : List Part} : ∀ (path pre : List Nat) (r : List Part), rowAt r path = some q → x ∈ gsR (pre ++ path) q → x ∈ gsR pre r
  | [], pre, r, h, g => by
    cases h
    rw [List.append_nil] at g
    exact g
  | i :: p, pre, r, h, g => by
    have h' : (roomAt r i).bind (fun s => rowAt s p) = some q := h
    cases e : roomAt r i with
    | none => rw [e] at h'; cases h'
    | some s =>
      rw [e] at h'
      obtain ⟨n, hn⟩ := roomAt_some e
      refine gsR_mem hn ?_
      have k := gs_at p (pre ++ [i]) s h' (by rw [List.append_assoc]; exact g)
      exact List.mem_append_right _ (List.mem_append_right _ k)
theorem gs_again {path : List Nat} {q s : List Part} {k : Nat} (h : q[k]? = some (.again s)) : (⟨"again", path, [k]⟩ : Stp) ∈ gsR path q := gsR_mem h (List.mem_singleton.mpr rfl)
/-! how many there are -/
theorem big_len {x N a d : Nat} (h : x ≤ N) (ha : 1 ≤ a) : x ≤ a * ((2 * N + 1) * (1 + d)) := by
  have h1 : 2 * N + 1 ≤ (2 * N + 1) * (1 + d) := Nat.le_mul_of_pos_right _ (by omega)
  have h2 : (2 * N + 1) * (1 + d) ≤ a * ((2 * N + 1) * (1 + d)) := Nat.le_mul_of_pos_left _ (by omega)
  omega
mutual
theorem gsP_len (N : Nat) : ∀ (p : Part) (path : List Nat) (r : List Part) (k d : Nat), deepP p ≤ d → sizeP p ≤ N → r.length ≤ N → (gsP path r k p).length ≤ sizeP p * ((2 * N + 1) * (1 + d))
  | .say n, path, r, k, d, hd, hs, hr => by
    simp only [gsP, sizeP]
    rw [List.length_map]
    exact big_len (Nat.le_trans (idx_len _ _ _) hr) (Nat.le_refl 1)
  | .again q, path, r, k, d, hd, hs, hr => by
    simp only [gsP, sizeP] at hs ⊢
    exact big_len (show 1 ≤ N by omega) (by omega)
  | .oth w n q, path, r, k, d, hd, hs, hr => by
    cases w with
    | room =>
      simp only [gsP]
      simp only [deepP] at hd
      simp only [sizeP] at hs ⊢
      obtain ⟨d', rfl⟩ : ∃ d', d = d' + 1 := ⟨d - 1, by omega⟩
      have h1 := goalsN_len r k q q.length
      have h2 := leavN_len (m := N) n q (by omega) q.length
      have h3 := gsL_len N q (path ++ [k]) q 0 d' (by omega) (by omega) (Nat.le_trans (len_sizeR q) (by omega))
      have lq := len_sizeR q
      have g1 : q.length * r.length ≤ sizeR q * N := Nat.mul_le_mul lq hr
      have g2 : q.length * N ≤ sizeR q * N := Nat.mul_le_mul_right N lq
      rw [List.length_append, List.length_append, List.length_map, List.length_map]
      have e1 : (2 * N + 1) * (1 + (d' + 1)) = (2 * N + 1) * (1 + d') + (2 * N + 1) := by
        rw [show 1 + (d' + 1) = (1 + d') + 1 by omega, Nat.mul_succ]
      have e2 : sizeR q * (2 * N + 1) = 2 * (sizeR q * N) + sizeR q := by
        rw [Nat.mul_add, Nat.mul_one, Nat.mul_left_comm]
      rw [e1, Nat.add_mul, Nat.mul_add, e2]
      generalize sizeR q * ((2 * N + 1) * (1 + d')) = X at *
      generalize sizeR q * N = Y at *
      omega
    | opn =>
      simp only [gsP, sizeP]
      rw [List.length_map]
      exact big_len (Nat.le_trans (idx_len _ _ _) hr) (by omega)
    | inn => simp only [gsP]; exact Nat.zero_le _
    | out => simp only [gsP]; exact Nat.zero_le _
    | hear => simp only [gsP]; exact Nat.zero_le _
    | new => simp only [gsP]; exact Nat.zero_le _
theorem gsL_len (N : Nat) : ∀ (l : List Part) (path : List Nat) (r : List Part) (k d : Nat), deepR l ≤ d → sizeR l ≤ N → r.length ≤ N → (gsL path r k l).length ≤ sizeR l * ((2 * N + 1) * (1 + d))
  | [], path, r, k, d, hd, hs, hr => Nat.zero_le _
  | p :: l, path, r, k, d, hd, hs, hr => by
    have hd' : max (deepP p) (deepR l) ≤ d := hd
    have hs' : sizeP p + sizeR l ≤ N := hs
    have h1 := gsP_len N p path r k d (by omega) (by omega) hr
    have h2 := gsL_len N l path r (k + 1) d (by omega) (by omega) hr
    show (gsP path r k p ++ gsL path r (k + 1) l).length ≤ (sizeP p + sizeR l) * _
    rw [List.length_append, Nat.add_mul]
    omega
end
theorem gs_few {r : List Part} (hs : sizeR r ≤ 400) (hd : deepR r ≤ 12) : (gsR [] r).length ≤ 10000000 := by
  have h := gsL_len 400 r [] r 0 12 hd hs (Nat.le_trans (len_sizeR r) hs)
  have h2 : sizeR r * ((2 * 400 + 1) * (1 + 12)) ≤ 400 * ((2 * 400 + 1) * (1 + 12)) := Nat.mul_le_mul_right _ hs
  exact Nat.le_trans h (Nat.le_trans h2 (by decide))
/-! ### rows put within rows -/
theorem lset_size {p p' : Part} : ∀ {r : List Part} {i : Nat}, r[i]? = some p → sizeR (r.set i p') + sizeP p = sizeR r + sizeP p'
  | [], i, h => by cases h
  | y :: r, 0, h => by
    cases h
    show sizeP p' + sizeR r + sizeP p = sizeP p + sizeR r + sizeP p'
    omega
  | y :: r, i + 1, h => by
    have k := lset_size (p' := p') (r := r) (i := i) h
    show sizeP y + sizeR (r.set i p') + sizeP p = sizeP y + sizeR r + sizeP p'
    omega
theorem lset_deep {p' : Part} : ∀ (r : List Part) (i : Nat), deepR (r.set i p') ≤ max (deepR r) (deepP p')
  | [], i => Nat.zero_le _
  | y :: r, 0 => by
    show max (deepP p') (deepR r) ≤ max (max (deepP y) (deepR r)) (deepP p')
    omega
  | y :: r, i + 1 => by
    have k := lset_deep (p' := p') r i
    show max (deepP y) (deepR (r.set i p')) ≤ max (max (deepP y) (deepR r)) (deepP p')
    omega
theorem lset_ok {f : Str → Prop} {p' : Part} (hp : okP f p') : ∀ {r : List Part} {i : Nat}, okR f r → okR f (r.set i p')
  | [], i, h => trivial
  | y :: r, 0, h => ⟨hp, h.2⟩
  | y :: r, i + 1, h => ⟨h.1, lset_ok hp h.2⟩
theorem put_cons {r q : List Part} {i : Nat} {p : List Nat} (h : rowAt r (i :: p) = some q) : ∃ n s, r[i]? = some (.oth .room n s) ∧ rowAt s p = some q ∧ ∀ q', putAt r (i :: p) q' = r.set i (.oth .room n (putAt s p q')) := by
  have h' : (roomAt r i).bind (fun s => rowAt s p) = some q := h
  cases e : roomAt r i with
  | none => rw [e] at h'; cases h'
  | some s =>
    rw [e] at h'
    obtain ⟨n, hn⟩ := roomAt_some e
    refine ⟨n, s, hn, h', fun q' => ?_⟩
    show (match r[i]? with | some (.oth w n s) => r.set i (.oth w n (putAt s p q')) | _ => r) = _
    rw [hn]
theorem put_size {q q' : List Part} : ∀ {path : List Nat} {r : List Part}, rowAt r path = some q → sizeR (putAt r path q') + sizeR q = sizeR r + sizeR q'
  | [], r, h => by
    cases h
    exact Nat.add_comm _ _
  | i :: p, r, h => by
    obtain ⟨n, s, hn, hs, e⟩ := put_cons h
    have k := put_size (q' := q') hs
    have g := lset_size (p' := .oth .room n (putAt s p q')) hn
    simp only [sizeP] at g
    rw [e]
    omega
theorem put_deep {q q' : List Part} : ∀ {path : List Nat} {r : List Part}, rowAt r path = some q → deepR (putAt r path q') ≤ max (deepR r) (path.length + deepR q')
  | [], r, h => by
    show deepR q' ≤ max (deepR r) (0 + deepR q')
    omega
  | i :: p, r, h => by
    obtain ⟨n, s, hn, hs, e⟩ := put_cons h
    have k := put_deep (q' := q') hs
    have g := lset_deep (p' := .oth .room n (putAt s p q')) r i
    have d := deepR.mem _ (List.mem_of_getElem? hn)
    simp only [deepP] at g d
    rw [e, List.length_cons]
    omega
theorem row_deep {q : List Part} : ∀ {path : List Nat} {r : List Part}, rowAt r path = some q → path.length + deepR q ≤ deepR r
  | [], r, h => by
    cases h
    show 0 + deepR q ≤ deepR q
    omega
  | i :: p, r, h => by
    obtain ⟨n, s, hn, hs, _⟩ := put_cons h
    have k := row_deep hs
    have d := deepR.mem _ (List.mem_of_getElem? hn)
    simp only [deepP] at d
    rw [List.length_cons]
    omega
theorem row_size {q : List Part} : ∀ {path : List Nat} {r : List Part}, rowAt r path = some q → sizeR q ≤ sizeR r
  | [], r, h => by cases h; exact Nat.le_refl _
  | i :: p, r, h => by
    obtain ⟨n, s, hn, hs, _⟩ := put_cons h
    have k := row_size hs
    have d := room_size hn
    omega
theorem row_ok {f : Str → Prop} {q : List Part} : ∀ {path : List Nat} {r : List Part}, rowAt r path = some q → okR f r → okR f q
  | [], r, h, g => by cases h; exact g
  | i :: p, r, h, g => by
    obtain ⟨n, s, hn, hs, _⟩ := put_cons h
    exact row_ok hs (g.mem _ (List.mem_of_getElem? hn)).2
theorem put_ok {f : Str → Prop} {q q' : List Part} : ∀ {path : List Nat} {r : List Part}, rowAt r path = some q → okR f r → okR f q' → okR f (putAt r path q')
  | [], r, h, g, k => k
  | i :: p, r, h, g, k => by
    obtain ⟨n, s, hn, hs, e⟩ := put_cons h
    have m := g.mem _ (List.mem_of_getElem? hn)
    rw [e]
    exact lset_ok (show okP f (.oth .room n (putAt s p q')) from ⟨m.1, put_ok hs m.2 k⟩) g
theorem put_at {q q' : List Part} : ∀ {path : List Nat} {r : List Part}, rowAt r path = some q → rowAt (putAt r path q') path = some q'
  | [], r, h => rfl
  | i :: p, r, h => by
    obtain ⟨n, s, hn, hs, e⟩ := put_cons h
    have k := put_at (q' := q') hs
    rw [e]
    have hi : i < r.length := (List.getElem?_eq_some_iff.mp hn).1
    show (roomAt (r.set i _) i).bind _ = some q'
    unfold roomAt
    rw [List.getElem?_set_self hi]
    exact k
/-! ### what is loosed anew is called anew -/
theorem anew {zs : List Str} {m : Nat} {r : List Part} {n : Nat} (hd : deepR r ≤ n) (g : Gd r) (pb : PlB r) (hk : m + sizeR r < 10 ^ 10) (h1 : 1 ≤ m) (hz : okR (fun x => x ∈ zs) r) :
    ∃ B : Nat → Str, okR (CalOk (fun x => x ∈ zs) B (frdR n m r).1) (frdR n m r).2 ∧ ∀ k, 46 ∉ (B k).cps.toList → m ≤ k := by
  obtain ⟨B, hB, hok⟩ := frd_cal (Pl := fun x => x ∈ zs) n m r (fun _ => ".") hd g pb hk h1 (okR.imp (fun x h => .inl h) r hz)
  refine ⟨B, hok, fun k h => ?_⟩
  by_cases c : k < m
  · rw [hB k c] at h
    exact absurd (by decide +kernel) h
  · omega
end Wk

set_option Elab.async false
set_option linter.all false
set_option maxRecDepth 100000
set_option maxHeartbeats 1000000
/-! What the laws of steps stand on. -/
namespace Wk
open PySem PySem.Spec PyProof.Rows L2 GxR
mutual
theorem gsP_word : ∀ (p : Part) (path : List Nat) (r : List Part) (k : Nat), ∀ x ∈ gsP path r k p, PyData.strOk x.w = true
  | .say n, path, r, k, x, hx => by
    simp only [gsP] at hx
    obtain ⟨j, _, rfl⟩ := List.mem_map.mp hx
    exact (show PyData.strOk "letter" = true by decide +kernel)
  | .again q, path, r, k, x, hx => by
    simp only [gsP] at hx
    rw [List.mem_singleton.mp hx]
    exact (show PyData.strOk "again" = true by decide +kernel)
  | .oth w n q, path, r, k, x, hx => by
    cases w with
    | room =>
      simp only [gsP] at hx
      rcases List.mem_append.mp hx with h | h
      · obtain ⟨j, _, rfl⟩ := List.mem_map.mp h
        exact (show PyData.strOk "in" = true by decide +kernel)
      · rcases List.mem_append.mp h with h | h
        · obtain ⟨j, _, rfl⟩ := List.mem_map.mp h
          exact (show PyData.strOk "out" = true by decide +kernel)
        · exact gsL_word q _ _ _ x h
    | opn =>
      simp only [gsP] at hx
      obtain ⟨j, _, rfl⟩ := List.mem_map.mp hx
      exact (show PyData.strOk "open" = true by decide +kernel)
    | inn => simp only [gsP] at hx; cases hx
    | out => simp only [gsP] at hx; cases hx
    | hear => simp only [gsP] at hx; cases hx
    | new => simp only [gsP] at hx; cases hx
theorem gsL_word : ∀ (l : List Part) (path : List Nat) (r : List Part) (k : Nat), ∀ x ∈ gsL path r k l, PyData.strOk x.w = true
  | [], path, r, k, x, hx => nomatch hx
  | p :: l, path, r, k, x, hx => by
    rcases List.mem_append.mp (show x ∈ gsP path r k p ++ gsL path r (k + 1) l from hx) with h | h
    · exact gsP_word p path r k x h
    · exact gsL_word l path r (k + 1) x h
end
/-- what a drawn row is that lies within something -/
structure Rf (zs : List Str) (rest : List Part) : Prop where
  deep : deepR rest ≤ 4
  size : sizeR rest ≤ 66
  gd : Gd rest
  plb : PlB rest
  ok : okR (fun x => x ∈ zs) rest
  bd : (bdR rest).length ≤ 8
theorem names_pl {zs : List Str} {s : Nat} (hn : ∀ i z, zs[i]? = some z → NameOf ((s + 5 * i) % 26) z) : ∀ z ∈ zs, 46 ∉ z.cps.toList ∧ nameB z = true := fun z hz => by
  obtain ⟨i, hi⟩ := List.getElem?_of_mem hz
  exact ⟨name_nodot (hn i z hi) (Nat.mod_lt _ (by decide)), name_ok (hn i z hi) (Nat.mod_lt _ (by decide))⟩
theorem Rf.of {zs ss sp' : List Str} {s : Nat} {r : List Part} (hn : ∀ i z, zs[i]? = some z → NameOf ((s + 5 * i) % 26) z) (hl : zs.length = 13) (hs : ∀ x ∈ ss, x ∈ zs.take 5) (h : GR 3 (most 3) ss (zs.drop 5) sp' r) : Rf zs r := by
  have d : Dr 4 66 ss (zs.drop 5) sp' r := (Dr.of h).up (Nat.le_refl _) (by decide)
  have g := (dr_house hn (by omega) hs (by decide) (by decide) d).2
  have ok : okR (fun x => x ∈ zs) r := okR.imp (fun n g => g.elim (fun g => List.mem_of_mem_take (hs n g)) List.mem_of_mem_drop) r d.ok
  have b := d.bd.length_eq
  rw [List.length_drop, List.length_append] at b
  exact ⟨d.deep, d.size, g, fun x hx => names_pl hn x (bd_okR r ok x hx), ok, by omega⟩
/-- what is loosed of it -/
structure Ls (zs : List Str) (m : Nat) (o : Nat × List Part) : Prop where
  lo : m ≤ o.1
  hi : o.1 ≤ m + 8
  deep : deepR o.2 ≤ 4
  size : sizeR o.2 ≤ 66
  ok : okR (Sh 30) o.2
  cal : ∃ B : Nat → Str, okR (CalOk (fun x => x ∈ zs) B o.1) o.2 ∧ ∀ k, 46 ∉ (B k).cps.toList → m ≤ k
theorem Rf.loosed {zs : List Str} {rest : List Part} {m : Nat} (h : Rf zs rest) (h1 : 1 ≤ m) (hm : m ≤ 200) : Ls zs m (frdR 6 m rest) := by
  have hd := h.deep
  have hs := h.size
  have hb := h.bd
  have fo := frd_ok 6 m rest (by omega) h.gd (by omega)
  have fn := frd_num 6 m rest (by omega) h.gd (by omega)
  exact ⟨fo.lo, by omega, Nat.le_trans fo.deep hd, Nat.le_trans fo.size hs, fo.ok, anew (by omega) h.gd h.plb (by omega) h1 h.ok⟩
theorem Ls.lt64 {zs : List Str} {m : Nat} {o : Nat × List Part} (h : Ls zs m o) (hl : zs.length = 13) (hm : m ≤ 40) : ∀ L : List Str, L.Nodup → (∀ x, x ∈ L ↔ x ∈ frR [] o.2) → L.length < 64 := by
  obtain ⟨B, hok, hB⟩ := h.cal
  have hi := h.hi
  refine Wk.lt64 (D := zs ++ (List.range 9).map fun k => priv (B (m + k)) (m + k)) (fun x hx => ?_) (by rw [List.length_append, List.length_map, List.length_range]; omega)
  rcases fr_okR o.2 [] hok x hx with c | ⟨k, e, k1, k2, k3, k4⟩
  · exact List.mem_append_left _ c
  · have hk := hB k k3
    exact List.mem_append_right _ (List.mem_map.mpr ⟨k - m, List.mem_range.mpr (by omega), by rw [show m + (k - m) = k by omega]; exact e.symm⟩)
theorem Ls.names {zs : List Str} {m : Nat} {o : Nat × List Part} (h : Ls zs m o) (hz : ∀ z ∈ zs, 46 ∉ z.cps.toList) {x : Str} (hx : x ∈ frR [] o.2 ∧ privB x = true) : ∃ b k, x = priv b k ∧ m ≤ k ∧ k < o.1 ∧ 46 ∉ b.cps.toList := by
  obtain ⟨B, hok, hB⟩ := h.cal
  rcases fr_okR o.2 [] hok x hx.1 with c | ⟨k, e, k1, k2, k3, k4⟩
  · have h2 := hx.2
    rw [priv_false (hz x c)] at h2
    cases h2
  · exact ⟨B k, k, e, hB k k3, k2, k3⟩
/-- how the turns go on -/
structure Lp (path : List Nat) (k : Nat) (rest : List Part) (i m : Nat) (q h : List Part) (seen : List Str) : Prop where
  m1 : 1 ≤ m
  mi : m ≤ 1 + 8 * i
  row : rowAt h path = some q
  one : q[k]? = some (.again rest)
  size : sizeR h ≤ 182 + 66 * i
  deep : deepR h ≤ 8
  ok : okR (Sh 30) h
  old : ∀ x ∈ seen, ∃ b j, x = priv b j ∧ j < m ∧ 46 ∉ b.cps.toList
  len : seen.length ≤ 64 * i
theorem Lp.next {zs : List Str} {path : List Nat} {k i m : Nat} {rest q h : List Part} {seen ys : List Str} (l : Lp path k rest i m q h seen) (hp : path.length ≤ 3) {o : Nat × List Part} (s : Ls zs m o) (hys : ∀ y ∈ ys, ∃ b j, y = priv b j ∧ m ≤ j ∧ j < o.1 ∧ 46 ∉ b.cps.toList) (ly : ys.length < 64) :
    Lp path k rest (i + 1) o.1 (q ++ o.2) (putAt h path (q ++ o.2)) (seen ++ ys) := by
  have s1 := s.lo
  have s2 := s.hi
  have s3 := s.deep
  have s4 := s.size
  have l1 := l.m1
  have l2 := l.mi
  have l3 := l.size
  have l4 := l.deep
  have l5 := l.len
  have rd := row_deep l.row
  have ps := put_size (q' := q ++ o.2) l.row
  have pd := put_deep (q' := q ++ o.2) l.row
  rw [sizeR_app] at ps
  rw [deepR_app] at pd
  refine ⟨by omega, by omega, put_at l.row, ?_, by omega, by omega, put_ok l.row l.ok (okR_app (row_ok l.row l.ok) s.ok), fun x hx => ?_, by rw [List.length_append]; omega⟩
  · rw [List.getElem?_append_left (List.getElem?_eq_some_iff.mp l.one).1]
    exact l.one
  · rcases List.mem_append.mp hx with g | g
    · obtain ⟨b, j, e, hj, hb⟩ := l.old x g
      exact ⟨b, j, e, by omega, hb⟩
    · obtain ⟨b, j, e, _, hj, hb⟩ := hys x g
      exact ⟨b, j, e, hj, hb⟩
theorem Lp.fresh {path : List Nat} {k i m : Nat} {rest q h : List Part} {seen : List Str} (l : Lp path k rest i m q h seen) (hi : i ≤ 3) {x : Str} {n : Nat} (hn : n < 300) (hx : ∃ b j, x = priv b j ∧ m ≤ j ∧ j < n ∧ 46 ∉ b.cps.toList) : x ∉ seen := fun hm => by
  obtain ⟨b, j, e, h1, h2, hb⟩ := hx
  obtain ⟨b', j', e', hj', hb'⟩ := l.old x hm
  have l2 := l.mi
  have := (priv_inj hb hb' (by omega) (by omega) (e.symm.trans e')).2
  omega
theorem Lp.step {path : List Nat} {k i m : Nat} {rest q h : List Part} {seen : List Str} (l : Lp path k rest i m q h seen) : (⟨"again", path, [k]⟩ : Stp) ∈ gsR [] h := gs_at path [] h l.row (gs_again l.one)
/-! ### the list that is drawn from may change, and tables -/
def KpL (Ts : List Addr) (L : Addr) (H H' : Hp) : Prop := (∀ b o, b ≠ L → b ∉ Ts → H b = some o → H' b = some o) ∧ TabsG Ts H'
theorem KpL.sam {Ts : List Addr} {L : Addr} {H H1 H2 : Hp} (a : KpL Ts L H H1) (b : SamTs Ts H1 H2) : KpL Ts L H H2 := ⟨fun c o n1 n2 e => b.1 c o n2 (a.1 c o n1 n2 e), b.2⟩
theorem KpL.same {Ts : List Addr} {L : Addr} {H H1 H2 : Hp} (a : KpL Ts L H H1) (b : Same H1 H2) : KpL Ts L H H2 := a.sam (SamTs.of a.2 b)
theorem KpL.left {Ts : List Addr} {L : Addr} {n : Int} {H H1 : Hp} (t : TabsG Ts H) (hL : H L = some (.lst [.int n])) (x : StL L H H1) : KpL Ts L H H1 := ⟨fun c o n1 _ e => x.1 c o n1 e, fun T h => by
  obtain ⟨ps, h1, h2⟩ := t T h
  have ne : T ≠ L := fun z => t.outL hL (z ▸ h)
  exact ⟨ps, x.1 _ _ ne h1, h2⟩⟩
theorem KpL.drawn {Ts : List Addr} {L S : Addr} {n : Int} {sp sp' : List Str} {H H1 H2 : Hp} (a : KpL Ts L H H1) (hL : H1 L = some (.lst [.int n])) (hS : H1 S = some (.lst (sp.map V.str))) (nS : H S = none) (x : StG L S H1 H2 sp') : KpL Ts L H H2 := ⟨fun c o n1 n2 e => x.1 c o n1 (fun z => by rw [z, nS] at e; cases e) (a.1 c o n1 n2 e), fun T h => by
  obtain ⟨ps, h1, h2⟩ := a.2 T h
  have n1 : T ≠ L := fun z => a.2.outL hL (z ▸ h)
  have n2 : T ≠ S := fun z => a.2.outL hS (z ▸ h)
  exact ⟨ps, x.1 _ _ n1 n2 h1, h2⟩⟩
theorem Sds.zero {ss sp sp' : List Str} {rs : List (List Part)} (h : Sds ss sp rs sp') (hn : rs.length = 0) : sp' = sp ∧ rs = [] := by
  cases h with
  | nil => exact ⟨rfl, rfl⟩
  | snoc h d n1 l1 =>
    rw [List.length_append] at hn
    cases hn
theorem room65 {k : Nat} {A : Around} (r : Room k A) : A.units + 65 < cLine := by have := r.un; omega
def spRight (Ts : List Addr) : Sp := fun vs H Q _ => ∃ (L : Addr) (n : Int), vs = [.ref L] ∧ H L = some (.lst [.int n]) ∧ TabsG Ts H ∧ ∀ H', KpL Ts L H H' → Q (.bl true) H'
end Wk

set_option Elab.async false
set_option linter.all false
set_option maxRecDepth 100000
set_option maxHeartbeats 1000000
/-! Rows without some of their parts; what steps do. -/
namespace Wk
open PySem PySem.Spec PyProof.Rows L2 GxR
section
variable {X : Cx} {CX : CXT} {k : Nat} {f : Addr} {sp : Sp} {E : XK} {x : Str} {e : Expr} {es : List Expr} {t : TA} {p pos : Pos}
/-- x(e, ..), x a def of the module that binds otherwise -/
theorem pe_callR (F : FnR X.prog X.w X.K X.mg X.base CX k f sp) (hr : Room k X.A) (hg : Gl X x) (hm : X.mg x = some (.ref f)) (hk : PySem.W.keepIn X.K (.ref f) = true) (hx : Passes CX X E)
    (ha : PA X (e :: es) t) (hdb : (x == ("__debug__" : Str)) = false := by decide) (he : starEach (e :: es) X.env = (false, eval e X.env) :: starEach es X.env := by rfl) (hpl : (backTo pos (starEach es X.env)).any (·.1) = false := by rfl) :
    PE X (.Call (.Name x p) (e :: es) [] pos) (fun σ H Q => t σ H fun vs H1 => sp vs H1 Q E) := by
  refine ⟨fun pins s σ H Q I h => ?_⟩
  refine wpAny_Call_Name_kw (ld_glob I hg hm ?_ hdb)
  refine PySem.W.callWith_K (h₀ := X.base) I.ok.mod.kin hk (thn (ha.run pos pins s σ H _ I h) fun us s1 ⟨vs, H1, I1, r, q⟩ => ⟨I1.kIn, ?_⟩) he hpl
  exact wpAny_call (run_fnR F hr hx I1 r q)
end
/-! ### rows without some places -/
def woL (pl : List Nat) : Nat → List Part → List Part
  | _, [] => []
  | k, p :: r => (if k ∈ pl then [] else [p]) ++ woL pl (k + 1) r
def wo (pl : List Nat) (r : List Part) : List Part := woL pl 0 r
theorem woL_app (pl : List Nat) : ∀ (k : Nat) (l q : List Part), woL pl k (l ++ q) = woL pl k l ++ woL pl (k + l.length) q
  | k, [], q => rfl
  | k, p :: l, q => by
    show (if k ∈ pl then [] else [p]) ++ woL pl (k + 1) (l ++ q) = ((if k ∈ pl then [] else [p]) ++ woL pl (k + 1) l) ++ woL pl (k + (l.length + 1)) q
    rw [woL_app pl (k + 1) l q, List.append_assoc, show k + 1 + l.length = k + (l.length + 1) by omega]
theorem woL_one {pl : List Nat} {k : Nat} {p : Part} : woL pl k [p] = if k ∈ pl then [] else [p] := List.append_nil _
theorem woL_all {pl : List Nat} : ∀ {l : List Part} {k : Nat}, (∀ i, k ≤ i → i < k + l.length → i ∉ pl) → woL pl k l = l
  | [], k, h => rfl
  | p :: l, k, h => by
    show (if k ∈ pl then [] else [p]) ++ woL pl (k + 1) l = p :: l
    rw [if_neg (h k (Nat.le_refl _) (by rw [List.length_cons]; omega)), woL_all fun i h1 h2 => h i (by omega) (by rw [List.length_cons]; omega)]
    rfl
theorem wo_snoc {pl : List Nat} {r : List Part} {n : Nat} {p : Part} (h : r[n]? = some p) : wo pl (r.take (n + 1)) = wo pl (r.take n) ++ (if n ∈ pl then [] else [p]) := by
  have e : r.take (n + 1) = r.take n ++ [p] := by rw [List.take_add_one, h]; rfl
  have l : (r.take n).length = n := by
    rw [List.length_take]
    have := (List.getElem?_eq_some_iff.mp h).1
    omega
  unfold wo
  rw [e, woL_app, woL_one, l, Nat.zero_add]
theorem wo_len (pl : List Nat) : ∀ (r : List Part) (k : Nat), (woL pl k r).length ≤ r.length
  | [], k => Nat.le_refl _
  | p :: r, k => by
    have := wo_len pl r (k + 1)
    show ((if k ∈ pl then [] else [p]) ++ woL pl (k + 1) r).length ≤ r.length + 1
    rw [List.length_append]
    split
    · show 0 + _ ≤ _; omega
    · show 1 + _ ≤ _; omega
/-- one part taken out -/
theorem wo1 {a b : List Part} {x : Part} : wo [a.length] ((a ++ [x]) ++ b) = a ++ b := by
  unfold wo
  rw [woL_app, woL_app, woL_one, Nat.zero_add, if_pos (List.mem_singleton.mpr rfl), List.append_nil]
  rw [woL_all (l := a) fun i _ h => by rw [List.mem_singleton]; omega, woL_all (l := b) fun i h _ => by rw [List.length_append, List.length_singleton] at h; rw [List.mem_singleton]; omega]
/-- two parts taken out -/
theorem wo2 {a b c : List Part} {x y : Part} {pl : List Nat} (h : ∀ i, i ∈ pl ↔ i = a.length ∨ i = a.length + 1 + b.length) : wo pl ((((a ++ [x]) ++ b) ++ [y]) ++ c) = (a ++ b) ++ c := by
  unfold wo
  rw [woL_app, woL_app, woL_app, woL_app, woL_one, woL_one]
  simp only [List.length_append, List.length_singleton, Nat.zero_add]
  rw [if_pos ((h _).mpr (.inl rfl)), if_pos ((h _).mpr (.inr rfl)), List.append_nil, List.append_nil]
  rw [woL_all (l := a) fun i _ h2 z => by have := (h i).mp z; omega, woL_all (l := b) fun i h1 h2 z => by have := (h i).mp z; omega, woL_all (l := c) fun i h1 h2 z => by have := (h i).mp z; omega]
def spWo : Sp := fun vs H Q _ => ∃ (v : V) (p : Addr) (r : List Part) (pl : List Nat), vs = [v, .ref p] ∧ RowAt H r v ∧ r.length ≤ 1000 ∧ H p = some (.tup (vN pl)) ∧ ∀ H' u, Same H H' → RowAt H' (wo pl r) u → Q u H'
def spWithout : Sp := fun vs H Q _ => ∃ (v : V) (r : List Part) (pl : List Nat), vs = v :: vN pl ∧ RowAt H r v ∧ r.length ≤ 1000 ∧ pl.length ≤ 1000 ∧ ∀ H' u, Same H H' → RowAt H' (wo pl r) u → Q u H'
theorem inV_vN (i : Nat) : ∀ l : List Nat, inV (.int (i : Nat)) (vN l) = decide (i ∈ l)
  | [] => rfl
  | m :: l => by
    show (eqV (.int (m : Nat)) (.int (i : Nat)) || inV (.int (i : Nat)) (vN l)) = _
    rw [inV_vN i l]
    show (((m : Int) == (i : Int)) || decide (i ∈ l)) = _
    by_cases e : m = i
    · rw [e]; simp
    · have e2 : ¬ i = m := fun z => e z.symm
      have e3 : ¬ (m : Int) = (i : Int) := fun z => e (by omega)
      simp [e2, e3]
/-! ### what a step does to a row -/
abbrev MvP := Nat → List Part → List Nat → Nat × List Part → Prop
def spMvG (Ok : MvP) : Sp := fun vs H Q _ => ∃ (m : Nat) (v : V) (r : List Part) (pl : List Nat) (o : Nat × List Part), vs = .int (m : Nat) :: v :: vN pl ∧ RowAt H r v ∧ r.length ≤ 900 ∧ Ok m r pl o ∧ ∀ H' u, Same H H' → ToldAt H' o u → Q u H'
def spMovedG (Ts : List Addr) (wd : Str) (ar : Nat) (Ok : MvP) : Sp := fun vs H Q _ => ∃ (s t : Addr) (m : Nat) (rv : V) (r q0 : List Part) (path pl : List Nat) (o : Nat × List Part), vs = [.ref s, .ref t] ∧ H s = some (.tup [.int (m : Nat), rv]) ∧ RowAt H r rv ∧ sizeR r ≤ 100000 ∧ StpAt H ⟨wd, path, pl⟩ (.ref t) ∧ pl.length = ar ∧ rowAt r path = some q0 ∧ q0.length ≤ 900 ∧ Ok m q0 pl o ∧ TabsG Ts H ∧
  ∀ H' u, SamTs Ts H H' → ToldAt H' o u → Q u H'
def spDoneG (Ts : List Addr) (wd : Str) (ar : Nat) (Ok : MvP) : Sp := fun vs H Q _ => ∃ (s t : Addr) (m : Nat) (rv : V) (r q0 : List Part) (path pl : List Nat) (o : Nat × List Part), vs = [.ref s, .ref t] ∧ H s = some (.tup [.int (m : Nat), rv]) ∧ RowAt H r rv ∧ sizeR r ≤ 100000 ∧ StpAt H ⟨wd, path, pl⟩ (.ref t) ∧ pl.length = ar ∧ path.length < 20 ∧ rowAt r path = some q0 ∧ q0.length ≤ 900 ∧ Ok m q0 pl o ∧ TabsG Ts H ∧
  ∀ H' u, SamTs Ts H H' → ToldAt H' (o.1, putAt r path o.2) u → Q u H'
/-- a row that can be freed from m -/
structure Fre (n m : Nat) (s : List Part) : Prop where
  deep : deepR s < n
  size : sizeR s ≤ 300
  gd : Gd s
  num : m + sizeR s < 10 ^ 9
theorem Fre.len {n m : Nat} {s : List Part} (h : Fre n m s) : (frdR n m s).2.length ≤ 300 := by
  have h1 := h.deep
  have h2 := h.size
  have h3 := h.num
  have := (frd_ok n m s (by omega) h.gd (by omega)).size
  have := len_sizeR (frdR n m s).2
  omega
def OkOpen (n : Nat) : MvP := fun m r pl o => ∃ (k j : Nat) (c : Str) (s t : List Part), pl = [k, j] ∧ r[k]? = some (.oth .opn c s) ∧ r[j]? = some (.oth .room c t) ∧ Fre n m s ∧ t.length ≤ 700 ∧ o = ((frdR n m s).1, wo [k, j] r ++ ((frdR n m s).2 ++ t))
def OkHear (n : Nat) : MvP := fun m r pl o => ∃ (k j : Nat) (c x : Str) (s : List Part), pl = [k, j] ∧ r[k]? = some (.say c) ∧ r[j]? = some (.oth .hear x s) ∧ Fre n m (calledR x c s) ∧ o = ((frdR n m (calledR x c s)).1, wo [k, j] r ++ (frdR n m (calledR x c s)).2)
def OkIn (n : Nat) : MvP := fun m r pl o => ∃ (k d j : Nat) (w c : Str) (t u s : List Part), pl = [k, d, j] ∧ k ≠ j ∧ r[k]? = some (.oth .room w t) ∧ r[j]? = some (.oth .room c u) ∧ t[d]? = some (.oth .inn c s) ∧ t.length ≤ 700 ∧ u.length ≤ 700 ∧ Fre n m s ∧
  o = ((frdR n m s).1, wo [k] (r.set j (.oth .room c (u ++ [.oth .room w (wo [d] t ++ (frdR n m s).2)]))))
def OkOut (n : Nat) : MvP := fun m r pl o => ∃ (k j d : Nat) (w c : Str) (t u s : List Part), pl = [k, j, d] ∧ r[k]? = some (.oth .room c t) ∧ t[j]? = some (.oth .room w u) ∧ u[d]? = some (.oth .out c s) ∧ t.length ≤ 700 ∧ u.length ≤ 700 ∧ Fre n m s ∧
  o = ((frdR n m s).1, r.set k (.oth .room c (wo [j] t)) ++ [.oth .room w (wo [d] u ++ (frdR n m s).2)])
/-- a room whose deed is spent -/
def spSpent (n : Nat) : Sp := fun vs H Q _ => ∃ (m d : Nat) (v : V) (w c : Str) (wd : Wd) (t s : List Part), vs = [.int (m : Nat), v, .int (d : Nat)] ∧ PartAt H (.oth .room w t) v ∧ t.length ≤ 700 ∧ t[d]? = some (.oth wd c s) ∧ Fre n m s ∧
  ∀ H' a u, Same H H' → H' a = some (.tup [.int ((frdR n m s).1 : Nat), u]) → PartAt H' (.oth .room w (wo [d] t ++ (frdR n m s).2)) u → Q (.ref a) H'
theorem partAt_get {H : Hp} {Q : VK} {E : XK} {a : Addr} {xs : List V} {r : List Part} {i : Nat} {p : Part} {wd : Str} (ha : H a = some (.tup xs)) (hps : PartsAt H r xs) (hl : r.length ≤ 1000) (hi : r[i]? = some p) (hw : wordP p = wd)
    (q : ∀ v, xs[i]? = some v → PartAt H p v → Q v H) : spPartAt [.ref a, .int (i : Nat), .str wd] H Q E := by
  refine ⟨a, xs, r, (i : Nat), wd, rfl, ha, hps, by omega, fun j p' u ej hp hu hw' => ?_, fun no => absurd hw (no i p rfl hi)⟩
  have ej' : i = j := by omega
  subst ej'
  obtain ⟨p2, e2, hpu⟩ := PartsAt.get hps hu
  rw [hi] at e2
  cases e2
  exact q u hu hpu
end Wk

set_option Elab.async false
set_option linter.all false
set_option maxRecDepth 100000
set_option maxHeartbeats 1000000
/-! What the laws of the four moves share. -/
namespace Wk
open PySem PySem.Spec PyProof.Rows L2 GxR
/-! ### parts in another order -/
section
variable {r q : List Part}
theorem deepR_perm (h : r.Perm q) : deepR r = deepR q := by
  induction h with
  | nil => rfl
  | cons x _ ih => exact congrArg (max (deepP x)) ih
  | swap x y l =>
    show max (deepP y) (max (deepP x) (deepR l)) = max (deepP x) (max (deepP y) (deepR l))
    omega
  | trans _ _ a b => exact a.trans b
theorem sizeR_perm (h : r.Perm q) : sizeR r = sizeR q := by
  induction h with
  | nil => rfl
  | cons x _ ih => exact congrArg (sizeP x + ·) ih
  | swap x y l =>
    show sizeP y + (sizeP x + sizeR l) = sizeP x + (sizeP y + sizeR l)
    omega
  | trans _ _ a b => exact a.trans b
theorem scR_perm {ss : List Str} (h : r.Perm q) : scR ss r → scR ss q := by
  induction h with
  | nil => exact id
  | cons x _ ih => exact fun g => ⟨g.1, ih g.2⟩
  | swap x y l => exact fun g => ⟨g.2.1, g.1, g.2.2⟩
  | trans _ _ a b => exact fun g => b (a g)
theorem okR_perm {f : Str → Prop} (h : r.Perm q) : okR f r → okR f q := by
  induction h with
  | nil => exact id
  | cons x _ ih => exact fun g => ⟨g.1, ih g.2⟩
  | swap x y l => exact fun g => ⟨g.2.1, g.1, g.2.2⟩
  | trans _ _ a b => exact fun g => b (a g)
theorem nnR_perm (h : r.Perm q) : nnR r → nnR q := by
  induction h with
  | nil => exact id
  | cons x _ ih => exact fun g => ⟨g.1, ih g.2⟩
  | swap x y l => exact fun g => ⟨g.2.1, g.1, g.2.2⟩
  | trans _ _ a b => exact fun g => b (a g)
theorem bdR_perm (h : r.Perm q) : (bdR r).Perm (bdR q) := by
  induction h with
  | nil => exact .refl _
  | cons x _ ih => exact ih.append_left (bdP x)
  | swap x y l =>
    show (bdP y ++ (bdP x ++ bdR l)).Perm (bdP x ++ (bdP y ++ bdR l))
    rw [← List.append_assoc, ← List.append_assoc]
    exact (List.perm_append_comm).append_right (bdR l)
  | trans _ _ a b => exact a.trans b
end
section
variable {D Z : Nat} {ss sp sp1 : List Str} {r q : List Part} {n : Str}
theorem Dr.perm (h : Dr D Z ss sp sp1 r) (p : r.Perm q) : Dr D Z ss sp sp1 q :=
  ⟨by rw [← deepR_perm p]; exact h.deep, by rw [← sizeR_perm p]; exact h.size, scR_perm p h.sc, h.bd.trans ((bdR_perm p).append_left sp1), okR_perm p h.ok⟩
theorem Dr.inn (h : n ∈ ss) (g : Dr D Z ss sp sp1 r) : Dr (D + 1) (Z + 1) ss sp sp1 [.oth .inn n r] := by
  refine Dr.one (by simp only [deepP]; have := g.deep; omega) (by simp only [sizeP]; have := g.size; omega) ?_ ?_ ⟨.inl h, g.ok⟩
  · show (if Wd.binds .inn = true then scR (n :: ss) r else n ∈ ss ∧ scR ss r)
    exact ⟨h, g.sc⟩
  · exact g.bd
theorem Dr.out (h : n ∈ ss) (g : Dr D Z ss sp sp1 r) : Dr (D + 1) (Z + 1) ss sp sp1 [.oth .out n r] := by
  refine Dr.one (by simp only [deepP]; have := g.deep; omega) (by simp only [sizeP]; have := g.size; omega) ?_ ?_ ⟨.inl h, g.ok⟩
  · show (if Wd.binds .out = true then scR (n :: ss) r else n ∈ ss ∧ scR ss r)
    exact ⟨h, g.sc⟩
  · exact g.bd
end
theorem nn_inn {n : Str} {r : List Part} : nnR [Part.oth .inn n r] := ⟨⟨(fun e => by cases e), fun e => by cases e⟩, trivial⟩
theorem nn_out {n : Str} {r : List Part} : nnR [Part.oth .out n r] := ⟨⟨(fun e => by cases e), fun e => by cases e⟩, trivial⟩
theorem nn_hear {n : Str} {r : List Part} : nnR [Part.oth .hear n r] := ⟨⟨(fun e => by cases e), fun e => by cases e⟩, trivial⟩
/-! ### steps that are told -/
theorem idx_mem {f : Part → Bool} {r : List Part} {j : Nat} {p : Part} (h : r[j]? = some p) (hf : f p = true) : j ∈ idx f r r.length := by
  unfold idx
  rw [List.mem_filter]
  refine ⟨List.mem_range.mpr (List.getElem?_eq_some_iff.mp h).1, ?_⟩
  unfold hasAt
  rw [h]
  exact hf
section
variable {path : List Nat} {q : List Part} {k j d : Nat} {c x w : Str} {s t u : List Part}
theorem gs_open (h : q[k]? = some (.oth .opn c s)) (g : q[j]? = some (.oth .room c t)) : (⟨"open", path, [k, j]⟩ : Stp) ∈ gsR path q :=
  gsR_mem h (List.mem_map.mpr ⟨j, idx_mem g (decide_eq_true rfl), rfl⟩)
theorem gs_letter (h : q[k]? = some (.say c)) (g : q[j]? = some (.oth .hear x s)) : (⟨"letter", path, [k, j]⟩ : Stp) ∈ gsR path q :=
  gsR_mem h (List.mem_map.mpr ⟨j, idx_mem g rfl, rfl⟩)
theorem gs_in (h : q[k]? = some (.oth .room w t)) (g : q[j]? = some (.oth .room c u)) (hd : t[d]? = some (.oth .inn c s)) (ne : k ≠ j) : (⟨"in", path, [k, d, j]⟩ : Stp) ∈ gsR path q := by
  refine gsR_mem h (List.mem_append_left _ (List.mem_map.mpr ⟨(d, j), ?_, rfl⟩))
  refine List.mem_flatten.mpr ⟨goalsD q k t d, List.mem_map.mpr ⟨d, List.mem_range.mpr (List.getElem?_eq_some_iff.mp hd).1, rfl⟩, ?_⟩
  rw [goalsD_in hd]
  exact List.mem_map.mpr ⟨j, List.mem_filter.mpr ⟨idx_mem g (decide_eq_true rfl), decide_eq_true (Ne.symm ne)⟩, rfl⟩
theorem gs_out (h : q[k]? = some (.oth .room c t)) (g : t[j]? = some (.oth .room w u)) (hd : u[d]? = some (.oth .out c s)) : (⟨"out", path, [k, j, d]⟩ : Stp) ∈ gsR path q := by
  refine gsR_mem h (List.mem_append_right _ (List.mem_append_left _ (List.mem_map.mpr ⟨(j, d), ?_, rfl⟩)))
  refine List.mem_flatten.mpr ⟨leavD c t j, List.mem_map.mpr ⟨j, List.mem_range.mpr (List.getElem?_eq_some_iff.mp g).1, rfl⟩, ?_⟩
  rw [leavD_room g]
  exact List.mem_map.mpr ⟨d, idx_mem hd (decide_eq_true rfl), rfl⟩
end
/-! ### either one first -/
def sel {α : Type} (t : Bool) (x y : α) : α := match t with
  | false => x
  | true => y
theorem sel_map {α β : Type} (f : α → β) (t : Bool) (x y : α) : sel t (f x) (f y) = f (sel t x y) := by cases t <;> rfl
theorem turn2 {d : Int} (h0 : 0 ≤ d) (h1 : d < 2) : ∃ t : Bool, ∀ (x y : V), atI [x, y] d = some (sel t x y) ∧ atI [x, y] (1 - d) = some (sel t y x) := by
  rcases (show d = 0 ∨ d = 1 by omega) with rfl | rfl
  · exact ⟨false, fun x y => ⟨atI_nat (j := 0) rfl, atI_nat (j := 1) rfl⟩⟩
  · exact ⟨true, fun x y => ⟨atI_nat (j := 1) rfl, atI_nat (j := 0) rfl⟩⟩
theorem sel_part {H : Hp} {X Y : Part} {u v : V} (t : Bool) (hx : PartAt H X u) (hy : PartAt H Y v) : PartAt H (sel t X Y) (sel t u v) := by cases t <;> assumption
theorem get_mid {a b : List Part} {x : Part} : ((a ++ [x]) ++ b)[a.length]? = some x := by
  rw [List.getElem?_append_left (by rw [List.length_append]; exact Nat.lt_succ_self _), List.getElem?_append_right (Nat.le_refl _), Nat.sub_self]
  rfl
abbrev row5 (t : Bool) (a b c : List Part) (X Y : Part) : List Part := (((a ++ [sel t X Y]) ++ b) ++ [sel t Y X]) ++ c
section
variable {a b c : List Part} {X Y : Part} {t : Bool}
theorem get5a {x y : Part} : ((((a ++ [x]) ++ b) ++ [y]) ++ c)[a.length]? = some x := by
  rw [List.append_assoc, List.append_assoc]
  exact get_mid
theorem get5b {x y : Part} : ((((a ++ [x]) ++ b) ++ [y]) ++ c)[a.length + 1 + b.length]? = some y := by
  have e : a.length + 1 + b.length = ((a ++ [x]) ++ b).length := by rw [List.length_append, List.length_append]; rfl
  rw [e]
  exact get_mid
theorem sel_one : (row5 t a b c X Y)[sel t a.length (a.length + 1 + b.length)]? = some X := by
  cases t
  · exact get5a
  · exact get5b
theorem sel_two : (row5 t a b c X Y)[sel t (a.length + 1 + b.length) a.length]? = some Y := by
  cases t
  · exact get5b
  · exact get5a
theorem sel_wo : wo [sel t a.length (a.length + 1 + b.length), sel t (a.length + 1 + b.length) a.length] (row5 t a b c X Y) = (a ++ b) ++ c := by
  refine wo2 fun i => ?_
  rw [List.mem_cons, List.mem_singleton]
  cases t
  · exact Iff.rfl
  · exact Or.comm
theorem row5_perm : ((((a ++ [X]) ++ b) ++ [Y]) ++ c).Perm (row5 t a b c X Y) := by
  cases t
  · exact .refl _
  · show ((((a ++ [X]) ++ b) ++ [Y]) ++ c).Perm ((((a ++ [Y]) ++ b) ++ [X]) ++ c)
    classical
    refine List.perm_iff_count.mpr fun z => ?_
    simp only [List.count_append]
    omega
end
/-! ### what was drawn, and what stays -/
structure Hd (Ts : List Addr) (H0 H : Hp) (L S A : Addr) (ss sp : List Str) : Prop where
  ag : ∃ n, SArg H L S A n ss sp
  kp : KpL Ts L H0 H
  nS : H0 S = none
theorem Hd.step {Ts : List Addr} {H0 H H' : Hp} {L S A : Addr} {ss sp sp' : List Str} (h : Hd Ts H0 H L S A ss sp) (x : StG L S H H' sp') (sub : ∀ z ∈ sp', z ∈ sp) : Hd Ts H0 H' L S A ss sp' := by
  obtain ⟨n, ag⟩ := h.ag
  exact ⟨ag.step x sub, h.kp.drawn ag.hL ag.hS h.nS x, h.nS⟩
theorem Hd.same {Ts : List Addr} {H0 H H' : Hp} {L S A : Addr} {ss sp : List Str} (h : Hd Ts H0 H L S A ss sp) (s : Same H H') : Hd Ts H0 H' L S A ss sp := by
  obtain ⟨n, ag⟩ := h.ag
  exact h.step ((StG.refl ag.hL ag.hS).sm s) fun _ h => h
theorem Hd.tup {Ts : List Addr} {H0 H H' : Hp} {L S A : Addr} {ss sp sp' : List Str} (h : Hd Ts H0 H L S A ss sp) (x : StG L S H H' sp') : STup H H' := by
  obtain ⟨n, ag⟩ := h.ag
  exact x.tup ag.hL ag.hS
theorem Hd.new {Ts : List Addr} {H0 H : Hp} {L S A D : Addr} {ss sp : List Str} (h : Hd Ts H0 H L S A ss sp) (n : H D = none) : D ≠ L ∧ D ≠ S := by
  obtain ⟨m, ag⟩ := h.ag
  exact ⟨Ne.symm (ne_of_none ag.hL n), Ne.symm (ne_of_none ag.hS n)⟩
/-- what the end of these laws stands on -/
structure Tl (wd : Str) (path pl : List Nat) (q h : List Part) (o : Nat × List Part) : Prop where
  row : rowAt h path = some q
  lp : path.length ≤ 3
  size : sizeR h ≤ 400
  deep : deepR h ≤ 12
  ok : okR (Sh 30) h
  step : (⟨wd, path, pl⟩ : Stp) ∈ gsR [] h
  wok : PyData.strOk wd = true
  deep2 : deepR (putAt h path o.2) ≤ 30
  ok2 : okR (Sh 30) (putAt h path o.2)
theorem Tl.of {wd : Str} {path pl : List Nat} {q h : List Part} {o : Nat × List Part} (row : rowAt h path = some q) (lp : path.length ≤ 3) (size : sizeR h ≤ 400) (deep : deepR h ≤ 12) (ok : okR (Sh 30) h) (step : (⟨wd, path, pl⟩ : Stp) ∈ gsR path q)
    (wok : PyData.strOk wd = true) (d2 : deepR o.2 ≤ 20) (ok2 : okR (Sh 30) o.2) : Tl wd path pl q h o := by
  refine ⟨row, lp, size, deep, ok, gs_at path [] h row step, wok, ?_, put_ok row ok ok2⟩
  have := put_deep (q' := o.2) row
  omega
theorem Rf.fre {zs : List Str} {rest : List Part} (h : Rf zs rest) : Fre 6 1 rest := by
  have h1 := h.deep
  have h2 := h.size
  exact ⟨by omega, by omega, h.gd, by omega⟩
theorem Fre.fo {n m : Nat} {s : List Part} (h : Fre n m s) : FrOk m s (frdR n m s) := by
  have h1 := h.deep
  have h3 := h.num
  exact frd_ok n m s (by omega) h.gd (by omega)
theorem len3 (a b : Nat) : ((a : Nat) : Int) + 1 + ((b : Nat) : Int) = ((a + 1 + b : Nat) : Int) := by omega
/-- a row that lies at an address -/
structure RwA (H : Hp) (s : List Part) (a : Addr) (xs : List V) : Prop where
  h : H a = some (.tup xs)
  p : PartsAt H s xs
section
variable {H H' : Hp} {s t : List Part} {a b c : Addr} {xs ys : List V}
theorem RwA.mono (r : RwA H s a xs) (st : STup H H') : RwA H' s a xs := ⟨st _ _ r.h, PartsAt.mono st _ _ r.p⟩
theorem RwA.sm (r : RwA H s a xs) (st : Same H H') : RwA H' s a xs := r.mono (STup.of st)
theorem RwA.row (r : RwA H s a xs) : RowAt H s (.ref a) := ⟨a, xs, rfl, r.h, r.p⟩
theorem RwA.len (r : RwA H s a xs) : xs.length = s.length := PartsAt.len r.p
theorem RwA.cat (r : RwA H s a xs) (q : RwA H t b ys) (sm : Same H H') (hc : H' c = some (.tup (xs ++ ys))) : RwA H' (s ++ t) c (xs ++ ys) := ⟨hc, PartsAt.app (q.sm sm).p (r.sm sm).p⟩
theorem RwA.one {p : Part} {v : V} (n : H a = none) (h : PartAt H p v) : RwA (upd H a (.tup [v])) [p] a [v] := ⟨upd_same, PartsAt.one (PartAt.mono (STup.new n) _ _ h)⟩
end
theorem RowAt.rwa {H : Hp} {s : List Part} {v : V} (h : RowAt H s v) : ∃ a xs, v = .ref a ∧ RwA H s a xs := by
  obtain ⟨a, xs, e, h1, h2⟩ := h
  exact ⟨a, xs, e, h1, h2⟩
theorem part_oth {H : Hp} {w : Wd} {n : Str} {s : List Part} {t a : Addr} {xs : List V} (h : H t = some (.tup [.str w.str, .str n, .ref a])) (r : RwA H s a xs) : PartAt H (.oth w n s) (.ref t) := ⟨t, a, xs, rfl, h, r.h, r.p⟩
end Wk

set_option Elab.async false
set_option linter.all false
set_option maxRecDepth 100000
set_option maxHeartbeats 1000000
namespace Wk
open PySem PySem.Spec PyProof.Rows L2 GxR
theorem okR_of {f : Str → Prop} : ∀ {r : List Part}, (∀ p ∈ r, okP f p) → okR f r
  | [], _ => trivial
  | p :: r, h => ⟨h p List.mem_cons_self, okR_of fun x hx => h x (List.mem_cons_of_mem _ hx)⟩
theorem okR_cut {f : Str → Prop} {r q : List Part} (h : okR f (r ++ q)) : okR f r ∧ okR f q := ⟨okR_of fun p hp => h.mem p (List.mem_append_left _ hp), okR_of fun p hp => h.mem p (List.mem_append_right _ hp)⟩
theorem ok_split5 {f : Str → Prop} {t : Bool} {a b c : List Part} {X Y : Part} (h : okR f (row5 t a b c X Y)) : okR f a ∧ okR f b ∧ okR f c ∧ okP f X ∧ okP f Y := by
  have g := okR_perm (row5_perm (t := t)).symm h
  obtain ⟨g, hc⟩ := okR_cut g
  obtain ⟨g, hy⟩ := okR_cut g
  obtain ⟨g, hb⟩ := okR_cut g
  obtain ⟨ha, hx⟩ := okR_cut g
  exact ⟨ha, hb, hc, hx.1, hy.1⟩
theorem putSome {h q : List Part} {path : List Nat} (e : rowAt h path = some q) : (rowAt h path).isSome = true := by rw [e]; rfl
/-- the step laid out -/
theorem step2 {H : Hp} {ts pa : Addr} {wd : Str} {t : Bool} {i j : Nat} {path : List Nat} (h : H ts = some (.tup [.str wd, .ref pa, sel t (.int (i : Nat)) (.int (j : Nat)), sel t (.int (j : Nat)) (.int (i : Nat))])) (hp : H pa = some (.tup (vN path))) : StpAt H ⟨wd, path, [sel t i j, sel t j i]⟩ (.ref ts) := by
  refine ⟨ts, pa, rfl, ?_, hp⟩
  rw [h]
  cases t <;> rfl
/-- the locals written out anew -/
def tNorm (u : TS) : TS := fun D σ H => ∃ σ' : L2.St, σ = σ' ∧ u D σ' H
theorem pss_norm {X : Cx} {rest : List Stmt} {u : TS} (h : PSs X rest u) : PSs X rest (tNorm u) := by
  refine ⟨fun pins s σ H D I g => ?_⟩
  obtain ⟨σ', e, g⟩ := g
  subst e
  exact h.run pins s σ H D I g
end Wk

set_option Elab.async false
set_option linter.all false
set_option maxRecDepth 100000
set_option maxHeartbeats 1000000
namespace Wk
open PySem PySem.Spec PyProof.Rows L2 GxR
theorem set_mid {a b : List Part} {x y : Part} : ((a ++ [x]) ++ b).set a.length y = (a ++ [y]) ++ b := by
  rw [List.append_assoc, List.append_assoc, List.set_append_right _ _ (Nat.le_refl _), Nat.sub_self]
  rfl
theorem step3 {H : Hp} {ts pa : Addr} {wd : Str} {i j k : Nat} {path : List Nat} (h : H ts = some (.tup [.str wd, .ref pa, .int (i : Nat), .int (j : Nat), .int (k : Nat)])) (hp : H pa = some (.tup (vN path))) : StpAt H ⟨wd, path, [i, j, k]⟩ (.ref ts) := ⟨ts, pa, rfl, h, hp⟩
theorem ok_mid {f : Str → Prop} {a b : List Part} {x : Part} (h : okR f ((a ++ [x]) ++ b)) : okR f a ∧ okP f x ∧ okR f b := by
  obtain ⟨h1, h2⟩ := okR_cut h
  obtain ⟨h3, h4⟩ := okR_cut h1
  exact ⟨h3, h4.1, h2⟩
theorem deepR_one {p : Part} : deepR [p] = deepP p := by show max (deepP p) 0 = _; omega
theorem deepP_oth {w : Wd} {n : Str} {r : List Part} : deepP (.oth w n r) = deepR r + 1 := rfl
end Wk

set_option Elab.async false
set_option linter.all false
set_option maxRecDepth 100000
set_option maxHeartbeats 1000000
namespace Wk
open PySem PySem.Spec PyProof.Rows L2 GxR
/-- who hears, what is heard drawn last of all names -/
theorem Dr.hear {D Z : Nat} {ss sp sp1 full : List Str} {x : Str} {r : List Part} (g : Dr D Z (ss ++ [x, x]) sp sp1 r) (hf : full = sp ++ [x]) : Dr (D + 1) (Z + 1) ss full sp1 [.oth .hear x r] := by
  subst hf
  refine Dr.one (by simp only [deepP]; have := g.deep; omega) (by simp only [sizeP]; have := g.size; omega) ?_ ?_ ⟨.inr (List.mem_append_right _ (List.mem_singleton.mpr rfl)), okR.imp (fun n h => ?_) r g.ok⟩
  · show (if Wd.binds .hear = true then scR (x :: ss) r else x ∈ ss ∧ scR ss r)
    refine scR.mono r (fun n hn => ?_) g.sc
    rcases List.mem_append.mp hn with h | h
    · exact List.mem_cons_of_mem _ h
    · simp only [List.mem_cons, List.not_mem_nil, or_false, or_self] at h
      rw [h]
      exact List.mem_cons_self
  · show (sp ++ [x]).Perm (sp1 ++ ([x] ++ bdR r))
    refine (g.bd.append_right [x]).trans ?_
    rw [List.append_assoc]
    exact (List.perm_append_comm).append_left sp1
  · rcases h with h | h
    · rcases List.mem_append.mp h with h | h
      · exact .inl h
      · simp only [List.mem_cons, List.not_mem_nil, or_false, or_self] at h
        rw [h]
        exact .inr (List.mem_append_right _ (List.mem_singleton.mpr rfl))
    · exact .inr (List.mem_append_left _ h)
theorem drop_last {zs : List Str} {x : Str} (hl : zs.length = 13) (hx : zs[12]? = some x) : zs.drop 5 = (zs.drop 5).take 7 ++ [x] := by
  have e := (List.take_append_drop 7 (zs.drop 5)).symm
  rw [List.drop_drop] at e
  have e2 : zs.drop (5 + 7) = [x] := by
    have h12 : 12 < zs.length := by omega
    rw [List.drop_eq_getElem_cons (i := 12) h12]
    have e3 : zs[12] = x := by
      rw [List.getElem?_eq_getElem h12] at hx
      exact Option.some.inj hx
    rw [e3, List.drop_of_length_le (by omega)]
  rw [e2] at e
  exact e
end Wk

set_option Elab.async false
set_option linter.all false
set_option maxRecDepth 100000
set_option maxHeartbeats 1000000
namespace Wk
open PySem PySem.Spec PyProof.Rows L2 GxR
theorem ixNat {n j : Nat} (hj : j < n) : ixN n (j : Int) = some j := by
  unfold ixN
  rw [if_pos (by omega), if_pos (by omega)]
  simp
theorem woL_erase : ∀ (l : List Part) (i k : Nat), i ≤ k → woL [k] i l = l.eraseIdx (k - i)
  | [], i, k, h => rfl
  | p :: l, i, k, h => by
    show (if i ∈ [k] then [] else [p]) ++ woL [k] (i + 1) l = _
    by_cases e : i = k
    · subst e
      rw [if_pos (List.mem_singleton.mpr rfl), Nat.sub_self, woL_all fun j h1 _ => by rw [List.mem_singleton]; omega]
      rfl
    · rw [if_neg (by rw [List.mem_singleton]; exact e), woL_erase l (i + 1) k (by omega), show k - i = (k - (i + 1)) + 1 by omega]
      rfl
theorem wo_erase {l : List Part} {k : Nat} : wo [k] l = l.eraseIdx k := woL_erase l 0 k (Nat.zero_le _)
theorem PartsAt.set {H : Hp} {p : Part} {v : V} (hp : PartAt H p v) : ∀ {r : List Part} {xs : List V} {j : Nat}, PartsAt H r xs → PartsAt H (r.set j p) (xs.set j v)
  | [], xs, j, h => by rw [show xs = [] from h]; rfl
  | q :: r, xs, j, h => by
    obtain ⟨u, us, rfl, h1, h2⟩ := h
    cases j with
    | zero => exact ⟨v, us, rfl, hp, h2⟩
    | succ j => exact ⟨u, us.set j v, rfl, h1, PartsAt.set hp h2⟩
theorem PartsAt.erase {H : Hp} : ∀ {r : List Part} {xs : List V} {j : Nat}, PartsAt H r xs → PartsAt H (r.eraseIdx j) (xs.eraseIdx j)
  | [], xs, j, h => by rw [show xs = [] from h]; rfl
  | q :: r, xs, j, h => by
    obtain ⟨u, us, rfl, h1, h2⟩ := h
    cases j with
    | zero => exact h2
    | succ j => exact ⟨u, us.eraseIdx j, rfl, h1, PartsAt.erase h2⟩
theorem deepR_of {D : Nat} : ∀ {r : List Part}, (∀ p ∈ r, deepP p ≤ D) → deepR r ≤ D
  | [], _ => Nat.zero_le _
  | p :: r, h => by
    have h1 := h p List.mem_cons_self
    have h2 := deepR_of fun x hx => h x (List.mem_cons_of_mem p hx)
    show max (deepP p) (deepR r) ≤ D
    omega
theorem deepR_erase {r : List Part} {k : Nat} : deepR (r.eraseIdx k) ≤ deepR r := deepR_of fun p hp => deepR.mem p ((List.eraseIdx_sublist r k).subset hp)
theorem okR_erase {f : Str → Prop} {r : List Part} {k : Nat} (h : okR f r) : okR f (r.eraseIdx k) := okR_of fun p hp => h.mem p ((List.eraseIdx_sublist r k).subset hp)
theorem sel_ne {t : Bool} {a b : Nat} : sel t a (a + 1 + b) ≠ sel t (a + 1 + b) a := by
  cases t
  · show a ≠ a + 1 + b; omega
  · show a + 1 + b ≠ a; omega
theorem selI (t : Bool) (a b : Nat) : sel t (V.int (a : Nat)) (V.int (b : Nat)) = V.int ((sel t a b : Nat) : Int) := by cases t <;> rfl
theorem step2d {H : Hp} {ts pa : Addr} {wd : Str} {t : Bool} {i j d : Nat} {path : List Nat} (h : H ts = some (.tup [.str wd, .ref pa, sel t (.int (i : Nat)) (.int (j : Nat)), .int (d : Nat), sel t (.int (j : Nat)) (.int (i : Nat))])) (hp : H pa = some (.tup (vN path))) : StpAt H ⟨wd, path, [sel t i j, d, sel t j i]⟩ (.ref ts) := by
  refine ⟨ts, pa, rfl, ?_, hp⟩
  rw [h]
  cases t <;> rfl
/-- a list of values laid anew -/
theorem same_in {H H1 : Hp} {D : Addr} {o : HO} (n : H D = none) (s : Same H H1) : Same H (upd H1 D o) := fun b u e => by
  rw [upd_ne (ne_of_none e n)]
  exact s _ _ e
theorem KpL.put {Ts : List Addr} {L D : Addr} {xs ys : List V} {H G H1 : Hp} (g : KpL Ts L H G) (n : G D = none) (a : KpL Ts L H H1) (h : H1 D = some (.lst xs)) : KpL Ts L H (upd H1 D (.lst ys)) := by
  refine ⟨fun b o n1 n2 e => ?_, fun T hT => ?_⟩
  · rw [upd_ne (ne_of_none (g.1 b o n1 n2 e) n)]
    exact a.1 b o n1 n2 e
  · obtain ⟨ps, h1, h2⟩ := a.2 T hT
    have ne : T ≠ D := fun z => a.2.outL h (z ▸ hT)
    exact ⟨ps, by rw [upd_ne ne]; exact h1, h2⟩
end Wk

set_option Elab.async false
set_option linter.all false
set_option maxRecDepth 100000
set_option maxHeartbeats 1000000
/-! Stands on which any step can be done: what stays. -/
namespace Wk
open PySem PySem.Spec PyProof.Rows L2 GxR
/-- a row that waits -/
structure RsF (r : List Part) : Prop where
  gd : Gd r
  size : sizeR r ≤ 65
  deep : deepR r ≤ 4
mutual
def ivP : Part → Prop
  | .say n => Sh 30 n
  | .again r => RsF r
  | .oth w n r => match w with
    | .room => Sh 30 n ∧ ivR r
    | .new => False
    | .hear => Sh 30 n ∧ RsF r ∧ n ∉ bdR r
    | _ => Sh 30 n ∧ RsF r
def ivR : List Part → Prop
  | [] => True
  | p :: r => ivP p ∧ ivR r
end
theorem ivR_of : ∀ {r : List Part}, (∀ p ∈ r, ivP p) → ivR r
  | [], _ => trivial
  | p :: r, h => ⟨h p List.mem_cons_self, ivR_of fun x hx => h x (List.mem_cons_of_mem _ hx)⟩
theorem ivR.mem : ∀ {r : List Part}, ivR r → ∀ p ∈ r, ivP p
  | [], _, p, hp => nomatch hp
  | q :: r, h, p, hp => by
    rcases List.mem_cons.mp hp with e | e
    · rw [e]; exact h.1
    · exact ivR.mem h.2 p e
theorem ivR_app : ∀ {r q : List Part}, ivR r → ivR q → ivR (r ++ q)
  | [], q, _, g => g
  | p :: r, q, h, g => ⟨h.1, ivR_app h.2 g⟩
theorem ivR.get {r : List Part} {i : Nat} {p : Part} (h : ivR r) (e : r[i]? = some p) : ivP p := h.mem p (List.mem_of_getElem? e)
theorem ivR_set {p : Part} (hp : ivP p) : ∀ {r : List Part} {i : Nat}, ivR r → ivR (r.set i p)
  | [], i, h => trivial
  | y :: r, 0, h => ⟨hp, h.2⟩
  | y :: r, i + 1, h => ⟨h.1, ivR_set hp h.2⟩
theorem ivR_wo {pl : List Nat} : ∀ {r : List Part} {k : Nat}, ivR r → ivR (woL pl k r)
  | [], k, h => trivial
  | p :: r, k, h => by
    show ivR ((if k ∈ pl then [] else [p]) ++ woL pl (k + 1) r)
    refine ivR_app ?_ (ivR_wo h.2)
    split
    · exact trivial
    · exact ⟨h.1, trivial⟩
mutual
theorem iv_okP : ∀ p : Part, ivP p → okP (Sh 30) p
  | .say n, h => h
  | .again r, h => (show RsF r from h).gd.ok
  | .oth w n r, h => by
    cases w with
    | room => exact ⟨h.1, iv_okR r h.2⟩
    | new => exact h.elim
    | hear => exact ⟨h.1, h.2.1.gd.ok⟩
    | inn => exact ⟨h.1, h.2.gd.ok⟩
    | out => exact ⟨h.1, h.2.gd.ok⟩
    | opn => exact ⟨h.1, h.2.gd.ok⟩
theorem iv_okR : ∀ r : List Part, ivR r → okR (Sh 30) r
  | [], _ => trivial
  | p :: r, h => ⟨iv_okP p h.1, iv_okR r h.2⟩
end
mutual
theorem gd_ivP : ∀ p : Part, Gd [p] → nnP p → sizeP p ≤ 66 → deepP p ≤ 5 → ivP p
  | .say n, g, nn, hs, hd => g.ok.1
  | .again r, g, nn, hs, hd => by
    simp only [sizeP] at hs
    simp only [deepP] at hd
    exact (show RsF r from ⟨g.rest, by omega, by omega⟩)
  | .oth w n r, g, nn, hs, hd => by
    simp only [sizeP] at hs
    simp only [deepP] at hd
    have rs : RsF r := ⟨g.rest, by omega, by omega⟩
    have hn := g.ok.1.1
    cases w with
    | room => exact ⟨hn, gd_ivR r g.rest (nn.2 rfl) (fun p hp => by have := sizeR.mem p hp; omega) (by omega)⟩
    | new => exact absurd rfl nn.1
    | hear => exact ⟨hn, rs, (g.out rfl).1⟩
    | inn => exact ⟨hn, rs⟩
    | out => exact ⟨hn, rs⟩
    | opn => exact ⟨hn, rs⟩
theorem gd_ivR : ∀ r : List Part, Gd r → nnR r → (∀ p ∈ r, sizeP p ≤ 66) → deepR r ≤ 5 → ivR r
  | [], _, _, _, _ => trivial
  | p :: r, g, nn, hs, hd => by
    have hd' : max (deepP p) (deepR r) ≤ 5 := hd
    exact ⟨gd_ivP p g.head nn.1 (hs p List.mem_cons_self) (by omega), gd_ivR r g.tail nn.2 (fun q hq => hs q (List.mem_cons_of_mem _ hq)) (by omega)⟩
end
/-- parts that are freed do not grow -/
theorem frd_parts {n B : Nat} : ∀ (r : List Part) (k : Nat), deepR r ≤ n + 1 → Gd r → k + sizeR r < 10 ^ 10 → (∀ p ∈ r, sizeP p ≤ B) → ∀ q ∈ (frdR (n + 1) k r).2, sizeP q ≤ B
  | [], k, hd, g, hk, hB, q, hq => nomatch hq
  | p :: r, k, hd, g, hk, hB, q, hq => by
    have hd' : max (deepP p) (deepR r) ≤ n + 1 := hd
    have hk' : k + (sizeP p + sizeR r) < 10 ^ 10 := hk
    have z1 : sizeR [p] = sizeP p := by show sizeP p + 0 = _; omega
    have z2 : deepR [p] = deepP p := by show max (deepP p) 0 = _; omega
    have f := frd_ok (n + 1) k [p] (by omega) g.head (by omega)
    have e : frdR (n + 1) k [p] = ((frdP (frdR n) k p).1, (frdP (frdR n) k p).2) := by
      show (_, (frdP (frdR n) k p).2 ++ []) = _
      rw [List.append_nil]
      rfl
    rw [e] at f
    have fh := f.hi
    have fs := f.size
    rw [z1] at fh fs
    rcases List.mem_append.mp (show q ∈ (frdP (frdR n) k p).2 ++ (frdL (frdR n) (frdP (frdR n) k p).1 r).2 from hq) with h | h
    · have := sizeR.mem q h
      have := hB p List.mem_cons_self
      have fs' : sizeR (frdP (frdR n) k p).2 ≤ sizeP p := fs
      omega
    · have fh' : (frdP (frdR n) k p).1 ≤ k + sizeP p := fh
      exact frd_parts r (frdP (frdR n) k p).1 (by omega) g.tail (by omega) (fun p hp => hB p (List.mem_cons_of_mem _ hp)) q h
/-- what is loosed -/
structure LsF (m : Nat) (o : Nat × List Part) : Prop where
  iv : ivR o.2
  size : sizeR o.2 ≤ 65
  lo : m ≤ o.1
  hi : o.1 ≤ m + 65
theorem RsF.fre {r : List Part} {m : Nat} (h : RsF r) (hm : m ≤ 100000000) : Fre 6 m r := by
  have h1 := h.deep
  have h2 := h.size
  exact ⟨by omega, by omega, h.gd, by omega⟩
theorem RsF.loosed {r : List Part} {m : Nat} (h : RsF r) (hm : m ≤ 100000000) : LsF m (frdR 6 m r) ∧ deepR (frdR 6 m r).2 ≤ deepR r := by
  have h1 := h.deep
  have h2 := h.size
  have f := (h.fre hm).fo
  have fs := f.size
  have fd := f.deep
  have fh := f.hi
  refine ⟨⟨gd_ivR _ (f.gd h.gd) f.nn (fun p hp => ?_) (by omega), by omega, f.lo, by omega⟩, fd⟩
  have := sizeR.mem p hp
  omega
theorem RsF.called {r : List Part} {x c : Str} (h : RsF r) (hx : x ∉ bdR r) (hc : Sh 30 c) : RsF (calledR x c r) := ⟨h.gd.called hx hc, by rw [calledR_size]; exact h.size, by rw [calledR_deep]; exact h.deep⟩
/-! ### any step -/
def OkAgain (n : Nat) : MvP := fun m r pl o => ∃ (k : Nat) (s : List Part), pl = [k] ∧ r[k]? = some (.again s) ∧ Fre n m s ∧ o = ((frdR n m s).1, r ++ (frdR n m s).2)
/-- the step wd at pl in the row q -/
inductive Mv (q : List Part) : Str → List Nat → Prop where
  | again {k : Nat} {s : List Part} (h : q[k]? = some (.again s)) : Mv q "again" [k]
  | opn {k j : Nat} {c : Str} {s t : List Part} (h : q[k]? = some (.oth .opn c s)) (g : q[j]? = some (.oth .room c t)) : Mv q "open" [k, j]
  | hear {k j : Nat} {c x : Str} {s : List Part} (h : q[k]? = some (.say c)) (g : q[j]? = some (.oth .hear x s)) : Mv q "letter" [k, j]
  | inn {k d j : Nat} {w c : Str} {t u s : List Part} (ne : k ≠ j) (h : q[k]? = some (.oth .room w t)) (g : q[j]? = some (.oth .room c u)) (hd : t[d]? = some (.oth .inn c s)) : Mv q "in" [k, d, j]
  | out {k j d : Nat} {w c : Str} {t u s : List Part} (h : q[k]? = some (.oth .room c t)) (g : t[j]? = some (.oth .room w u)) (hd : u[d]? = some (.oth .out c s)) : Mv q "out" [k, j, d]
theorem mem_idx {f : Part → Bool} {r : List Part} {n j : Nat} (h : j ∈ idx f r n) : ∃ p, r[j]? = some p ∧ f p = true := by
  unfold idx at h
  have g := (List.mem_filter.mp h).2
  unfold hasAt at g
  split at g
  · rename_i p e
    exact ⟨p, e, g⟩
  · cases g
theorem isRoomC_true {c : Str} {p : Part} (h : isRoomC c p = true) : ∃ t, p = .oth .room c t := by
  unfold isRoomC at h
  split at h
  · rename_i n t
    exact ⟨t, by rw [of_decide_eq_true h]⟩
  · cases h
theorem isHear_true {p : Part} (h : isHear p = true) : ∃ x s, p = .oth .hear x s := by
  unfold isHear at h
  split at h
  · exact ⟨_, _, rfl⟩
  · cases h
theorem isOutC_true {c : Str} {p : Part} (h : isOutC c p = true) : ∃ s, p = .oth .out c s := by
  unfold isOutC at h
  split at h
  · rename_i n t
    exact ⟨t, by rw [of_decide_eq_true h]⟩
  · cases h
mutual
theorem gsP_inv (r : List Part) (pre : List Nat) (k : Nat) (x : Stp) : ∀ p : Part, r[k]? = some p → x ∈ gsP pre r k p → (x.p = pre ∧ Mv r x.w x.r) ∨ ∃ path n s q, p = .oth .room n s ∧ x.p = (pre ++ [k]) ++ path ∧ rowAt s path = some q ∧ Mv q x.w x.r
  | .say n, e, h => by
    simp only [gsP] at h
    obtain ⟨j, hj, rfl⟩ := List.mem_map.mp h
    obtain ⟨p, hp, hf⟩ := mem_idx hj
    obtain ⟨y, s, rfl⟩ := isHear_true hf
    exact .inl ⟨rfl, Mv.hear e hp⟩
  | .again s, e, h => by
    simp only [gsP] at h
    obtain rfl := List.mem_singleton.mp h
    exact .inl ⟨rfl, Mv.again e⟩
  | .oth w n s, e, h => by
    cases w with
    | room =>
      simp only [gsP] at h
      rcases List.mem_append.mp h with h | h
      · obtain ⟨y, hy, rfl⟩ := List.mem_map.mp h
        obtain ⟨l, hl, hy⟩ := List.mem_flatten.mp hy
        obtain ⟨d, _, rfl⟩ := List.mem_map.mp hl
        unfold goalsD at hy
        split at hy
        · rename_i c s2 ed
          obtain ⟨j, hj, rfl⟩ := List.mem_map.mp hy
          obtain ⟨hj1, hj2⟩ := List.mem_filter.mp hj
          obtain ⟨p, hp, hf⟩ := mem_idx hj1
          obtain ⟨u, rfl⟩ := isRoomC_true hf
          exact .inl ⟨rfl, Mv.inn (Ne.symm (of_decide_eq_true hj2)) e hp ed⟩
        · cases hy
      · rcases List.mem_append.mp h with h | h
        · obtain ⟨y, hy, rfl⟩ := List.mem_map.mp h
          obtain ⟨l, hl, hy⟩ := List.mem_flatten.mp hy
          obtain ⟨j, _, rfl⟩ := List.mem_map.mp hl
          unfold leavD at hy
          split at hy
          · rename_i w2 u eu
            obtain ⟨d, hd, rfl⟩ := List.mem_map.mp hy
            obtain ⟨p, hp, hf⟩ := mem_idx hd
            obtain ⟨s3, rfl⟩ := isOutC_true hf
            exact .inl ⟨rfl, Mv.out e eu hp⟩
          · cases hy
        · obtain ⟨path, q, e1, e2, e3⟩ := gsL_inv s (pre ++ [k]) x s 0 (fun i => by rw [Nat.zero_add]) h
          exact .inr ⟨path, n, s, q, rfl, e1, e2, e3⟩
    | opn =>
      simp only [gsP] at h
      obtain ⟨j, hj, rfl⟩ := List.mem_map.mp h
      obtain ⟨p, hp, hf⟩ := mem_idx hj
      obtain ⟨t, rfl⟩ := isRoomC_true hf
      exact .inl ⟨rfl, Mv.opn e hp⟩
    | inn => simp only [gsP] at h; cases h
    | out => simp only [gsP] at h; cases h
    | hear => simp only [gsP] at h; cases h
    | new => simp only [gsP] at h; cases h
theorem gsL_inv (r : List Part) (pre : List Nat) (x : Stp) : ∀ (l : List Part) (k : Nat), (∀ i, l[i]? = r[k + i]?) → x ∈ gsL pre r k l → ∃ path q, x.p = pre ++ path ∧ rowAt r path = some q ∧ Mv q x.w x.r
  | [], k, e, h => nomatch h
  | p :: l, k, e, h => by
    have e0 : r[k]? = some p := (e 0).symm
    rcases List.mem_append.mp (show x ∈ gsP pre r k p ++ gsL pre r (k + 1) l from h) with h | h
    · rcases gsP_inv r pre k x p e0 h with ⟨e1, e2⟩ | ⟨path, n, s, q, rfl, e1, e2, e3⟩
      · exact ⟨[], r, by rw [List.append_nil]; exact e1, rfl, e2⟩
      · refine ⟨k :: path, q, by rw [e1, List.append_assoc]; rfl, ?_, e3⟩
        show (roomAt r k).bind _ = some q
        unfold roomAt
        rw [e0]
        exact e2
    · exact gsL_inv r pre x l (k + 1) (fun i => by rw [show k + 1 + i = k + (i + 1) by omega]; exact e (i + 1)) h
end
theorem gs_inv {h : List Part} {x : Stp} (g : x ∈ gsR [] h) : ∃ path q, x.p = path ∧ rowAt h path = some q ∧ Mv q x.w x.r := by
  obtain ⟨path, q, e1, e2, e3⟩ := gsL_inv h [] x h 0 (fun i => by rw [Nat.zero_add]) g
  exact ⟨path, q, e1, e2, e3⟩
end Wk

set_option Elab.async false
set_option linter.all false
set_option maxRecDepth 100000
set_option maxHeartbeats 1000000
/-! Any step can be done, and what it leaves. -/
namespace Wk
open PySem PySem.Spec PyProof.Rows L2 GxR
theorem wo_le (pl : List Nat) : ∀ (r : List Part) (k : Nat), sizeR (woL pl k r) ≤ sizeR r
  | [], k => Nat.le_refl _
  | p :: r, k => by
    have h := wo_le pl r (k + 1)
    show sizeR ((if k ∈ pl then [] else [p]) ++ woL pl (k + 1) r) ≤ sizeP p + sizeR r
    rw [sizeR_app]
    split
    · show 0 + _ ≤ _; omega
    · show (sizeP p + 0) + _ ≤ _; omega
theorem woL_size {pl : List Nat} {p : Part} : ∀ {r : List Part} {k j : Nat}, r[j]? = some p → k + j ∈ pl → sizeR (woL pl k r) + sizeP p ≤ sizeR r
  | [], k, j, h, _ => by cases h
  | y :: r, k, 0, h, hj => by
    cases h
    have g := wo_le pl r (k + 1)
    show sizeR ((if k ∈ pl then [] else [p]) ++ woL pl (k + 1) r) + sizeP p ≤ sizeP p + sizeR r
    rw [if_pos (by rw [Nat.add_zero] at hj; exact hj)]
    show sizeR (woL pl (k + 1) r) + sizeP p ≤ _
    omega
  | y :: r, k, j + 1, h, hj => by
    have g := woL_size (r := r) (k := k + 1) (j := j) h (by rw [show k + 1 + j = k + (j + 1) by omega]; exact hj)
    show sizeR ((if k ∈ pl then [] else [y]) ++ woL pl (k + 1) r) + sizeP p ≤ sizeP y + sizeR r
    rw [sizeR_app]
    split
    · show (0 + _) + _ ≤ _; omega
    · show ((sizeP y + 0) + _) + _ ≤ _; omega
theorem wo_size {pl : List Nat} {p : Part} {r : List Part} {j : Nat} (h : r[j]? = some p) (hj : j ∈ pl) : sizeR (wo pl r) + sizeP p ≤ sizeR r := woL_size (k := 0) h (by rw [Nat.zero_add]; exact hj)
theorem wo_deep (pl : List Nat) : ∀ (r : List Part) (k : Nat), deepR (woL pl k r) ≤ deepR r
  | [], k => Nat.le_refl _
  | p :: r, k => by
    have h := wo_deep pl r (k + 1)
    show deepR ((if k ∈ pl then [] else [p]) ++ woL pl (k + 1) r) ≤ max (deepP p) (deepR r)
    rw [deepR_app]
    split
    · show max 0 _ ≤ _; omega
    · show max (max (deepP p) 0) _ ≤ _; omega
theorem deep_get {r : List Part} {i : Nat} {w : Wd} {n : Str} {q : List Part} (h : r[i]? = some (.oth w n q)) : deepR q + 1 ≤ deepR r := deepR.mem _ (List.mem_of_getElem? h)
theorem size_get {r : List Part} {i : Nat} {w : Wd} {n : Str} {q : List Part} (h : r[i]? = some (.oth w n q)) : sizeR q + 1 ≤ sizeR r := sizeR.mem _ (List.mem_of_getElem? h)
def MvOk (wd : Str) : MvP := fun m r pl o => (wd = "again" ∧ OkAgain 6 m r pl o) ∨ (wd = "open" ∧ OkOpen 6 m r pl o) ∨ (wd = "letter" ∧ OkHear 6 m r pl o) ∨ (wd = "in" ∧ OkIn 6 m r pl o) ∨ (wd = "out" ∧ OkOut 6 m r pl o)
/-- what a step leaves of a row -/
structure MvS (m : Nat) (q : List Part) (o : Nat × List Part) : Prop where
  iv : ivR o.2
  size : sizeR o.2 ≤ sizeR q + 65
  deep : deepR o.2 ≤ deepR q + 1
  lo : m ≤ o.1
  hi : o.1 ≤ m + 65
theorem mv_ok {q : List Part} {wd : Str} {pl : List Nat} {m : Nat} (h : Mv q wd pl) (iv : ivR q) (hs : sizeR q ≤ 700) (hm : m ≤ 100000000) : ∃ o, MvOk wd m q pl o ∧ MvS m q o := by
  cases h with
  | @again k s hk =>
    have rs : RsF s := iv.get hk
    obtain ⟨l, ld⟩ := rs.loosed hm
    have l1 := l.size
    have d1 : deepR s + 1 ≤ deepR q := deepR.mem _ (List.mem_of_getElem? hk)
    refine ⟨_, .inl ⟨rfl, k, s, rfl, hk, rs.fre hm, rfl⟩, ivR_app iv l.iv, ?_, ?_, l.lo, l.hi⟩
    · show sizeR (q ++ _) ≤ _
      rw [sizeR_app]; omega
    · show deepR (q ++ _) ≤ _
      rw [deepR_app]; omega
  | @opn k j c s t hk hj =>
    have rs : RsF s := (iv.get hk).2
    have it : ivR t := (iv.get hj).2
    obtain ⟨l, ld⟩ := rs.loosed hm
    have l1 := l.size
    have d1 := deep_get hk
    have d2 := deep_get hj
    have z2 := size_get hj
    have lt := len_sizeR t
    have w1 : sizeR (wo [k, j] q) + (sizeR t + 1) ≤ sizeR q := wo_size hj (by simp)
    have w2 : deepR (wo [k, j] q) ≤ deepR q := wo_deep [k, j] q 0
    refine ⟨_, .inr (.inl ⟨rfl, k, j, c, s, t, rfl, hk, hj, rs.fre hm, by omega, rfl⟩), ivR_app (ivR_wo iv) (ivR_app l.iv it), ?_, ?_, l.lo, l.hi⟩
    · show sizeR (wo [k, j] q ++ (_ ++ t)) ≤ _
      rw [sizeR_app, sizeR_app]; omega
    · show deepR (wo [k, j] q ++ (_ ++ t)) ≤ _
      rw [deepR_app, deepR_app]; omega
  | @hear k j c x s hk hj =>
    have hc : Sh 30 c := iv.get hk
    obtain ⟨_, rs0, xb⟩ := iv.get hj
    have rs := rs0.called xb hc
    obtain ⟨l, ld⟩ := rs.loosed hm
    rw [calledR_deep] at ld
    have l1 := l.size
    have d1 := deep_get hj
    have w1 : sizeR (wo [k, j] q) ≤ sizeR q := wo_le [k, j] q 0
    have w2 : deepR (wo [k, j] q) ≤ deepR q := wo_deep [k, j] q 0
    refine ⟨_, .inr (.inr (.inl ⟨rfl, k, j, c, x, s, rfl, hk, hj, rs.fre hm, rfl⟩)), ivR_app (ivR_wo iv) l.iv, ?_, ?_, l.lo, l.hi⟩
    · show sizeR (wo [k, j] q ++ _) ≤ _
      rw [sizeR_app]; omega
    · show deepR (wo [k, j] q ++ _) ≤ _
      rw [deepR_app]; omega
  | @inn k d j w c t u s ne hk hj hd =>
    obtain ⟨hw, it⟩ := iv.get hk
    obtain ⟨hc, iu⟩ := iv.get hj
    have rs : RsF s := (it.get hd).2
    obtain ⟨l, ld⟩ := rs.loosed hm
    have l1 := l.size
    have d1 := deep_get hk
    have d2 := deep_get hj
    have d3 := deep_get hd
    have z1 := size_get hk
    have z2 := size_get hj
    have lt := len_sizeR t
    have lu := len_sizeR u
    have w1 : sizeR (wo [d] t) ≤ sizeR t := wo_le [d] t 0
    have w2 : deepR (wo [d] t) ≤ deepR t := wo_deep [d] t 0
    obtain ⟨Y, eY⟩ : ∃ Y : Part, Y = .oth .room c (u ++ [.oth .room w (wo [d] t ++ (frdR 6 m s).2)]) := ⟨_, rfl⟩
    have yz : sizeP Y ≤ sizeR u + sizeR t + 67 := by
      rw [eY]
      show sizeR (u ++ [_]) + 1 ≤ _
      rw [sizeR_app]
      show sizeR u + ((sizeR (wo [d] t ++ _) + 1) + 0) + 1 ≤ _
      rw [sizeR_app]; omega
    have yd : deepP Y ≤ deepR q + 1 := by
      rw [eY]
      show deepR (u ++ [_]) + 1 ≤ _
      rw [deepR_app, deepR_one]
      show max (deepR u) (deepR (wo [d] t ++ _) + 1) + 1 ≤ _
      rw [deepR_app]; omega
    have yi : ivP Y := by
      rw [eY]
      exact ⟨hc, ivR_app iu ⟨⟨hw, ivR_app (ivR_wo it) l.iv⟩, trivial⟩⟩
    have hk2 : (q.set j Y)[k]? = some (.oth .room w t) := by rw [List.getElem?_set_ne (Ne.symm ne)]; exact hk
    have s1 := lset_size (p' := Y) hj
    have s2 : sizeR (wo [k] (q.set j Y)) + (sizeR t + 1) ≤ sizeR (q.set j Y) := wo_size hk2 (List.mem_singleton.mpr rfl)
    have s3 := lset_deep (p' := Y) q j
    have s4 : deepR (wo [k] (q.set j Y)) ≤ deepR (q.set j Y) := wo_deep [k] _ 0
    have e1 : sizeP (.oth .room c u) = sizeR u + 1 := rfl
    refine ⟨((frdR 6 m s).1, wo [k] (q.set j Y)), .inr (.inr (.inr (.inl ⟨rfl, k, d, j, w, c, t, u, s, rfl, ne, hk, hj, hd, by omega, by omega, rs.fre hm, by rw [eY]⟩))), ivR_wo (ivR_set yi iv), ?_, ?_, l.lo, l.hi⟩
    · show sizeR (wo [k] (q.set j Y)) ≤ _
      omega
    · show deepR (wo [k] (q.set j Y)) ≤ _
      omega
  | @out k j d w c t u s hk hj hd =>
    obtain ⟨hc, it⟩ := iv.get hk
    obtain ⟨hw, iu⟩ := it.get hj
    have rs : RsF s := (iu.get hd).2
    obtain ⟨l, ld⟩ := rs.loosed hm
    have l1 := l.size
    have d1 := deep_get hk
    have d2 := deep_get hj
    have d3 := deep_get hd
    have z1 := size_get hk
    have z2 := size_get hj
    have lt := len_sizeR t
    have lu := len_sizeR u
    have w1 : sizeR (wo [d] u) ≤ sizeR u := wo_le [d] u 0
    have w2 : deepR (wo [d] u) ≤ deepR u := wo_deep [d] u 0
    have w3 : sizeR (wo [j] t) + (sizeR u + 1) ≤ sizeR t := wo_size hj (List.mem_singleton.mpr rfl)
    have w4 : deepR (wo [j] t) ≤ deepR t := wo_deep [j] t 0
    have s1 := lset_size (p' := .oth .room c (wo [j] t)) hk
    have s3 := lset_deep (p' := .oth .room c (wo [j] t)) q k
    have e1 : sizeP (.oth .room c t) = sizeR t + 1 := rfl
    have e2 : sizeP (.oth .room c (wo [j] t)) = sizeR (wo [j] t) + 1 := rfl
    have e3 : deepP (.oth .room c (wo [j] t)) = deepR (wo [j] t) + 1 := rfl
    refine ⟨_, .inr (.inr (.inr (.inr ⟨rfl, k, j, d, w, c, t, u, s, rfl, hk, hj, hd, by omega, by omega, rs.fre hm, rfl⟩))), ivR_app (ivR_set (show ivP (.oth .room c (wo [j] t)) from ⟨hc, ivR_wo it⟩) iv) ⟨⟨hw, ivR_app (ivR_wo iu) l.iv⟩, trivial⟩, ?_, ?_, l.lo, l.hi⟩
    · show sizeR (q.set k _ ++ [_]) ≤ _
      rw [sizeR_app]
      show _ + ((sizeR (wo [d] u ++ _) + 1) + 0) ≤ _
      rw [sizeR_app]; omega
    · show deepR (q.set k _ ++ [_]) ≤ _
      rw [deepR_app, deepR_one]
      show max _ (deepR (wo [d] u ++ _) + 1) ≤ _
      rw [deepR_app]; omega
/-! ### the stand behind it -/
theorem put_iv {q q' : List Part} : ∀ {path : List Nat} {r : List Part}, rowAt r path = some q → ivR r → ivR q' → ivR (putAt r path q')
  | [], r, h, g, k => k
  | i :: p, r, h, g, k => by
    obtain ⟨n, s, hn, hs, e⟩ := put_cons h
    have m := g.get hn
    rw [e]
    exact ivR_set (show ivP (.oth .room n (putAt s p q')) from ⟨m.1, put_iv hs m.2 k⟩) g
theorem row_iv {q : List Part} : ∀ {path : List Nat} {r : List Part}, rowAt r path = some q → ivR r → ivR q
  | [], r, h, g => by cases h; exact g
  | i :: p, r, h, g => by
    obtain ⟨n, s, hn, hs, _⟩ := put_cons h
    exact row_iv hs (g.get hn).2
/-- a stand after i steps -/
structure Iv (i : Nat) (m : Nat) (h : List Part) : Prop where
  iv : ivR h
  size : sizeR h ≤ 264 + 65 * i
  deep : deepR h ≤ 5 + i
  lo : 1 ≤ m
  hi : m ≤ 300 + 65 * i
theorem Iv.next {i m : Nat} {h : List Part} {x : Stp} (v : Iv i m h) (hi : i ≤ 6) (hx : x ∈ gsR [] h) : ∃ (path : List Nat) (q : List Part) (o : Nat × List Part), x.p = path ∧ rowAt h path = some q ∧ MvOk x.w m q x.r o ∧ path.length ≤ 11 ∧ q.length ≤ 700 ∧ Iv (i + 1) o.1 (putAt h path o.2) := by
  obtain ⟨path, q, e1, e2, mv⟩ := gs_inv hx
  have v1 := v.size
  have v2 := v.deep
  have v3 := v.hi
  have v4 := v.lo
  have rs := row_size e2
  have rd := row_deep e2
  obtain ⟨o, ok, s⟩ := mv_ok (m := m) mv (row_iv e2 v.iv) (by omega) (by omega)
  have s1 := s.size
  have s2 := s.deep
  have s3 := s.lo
  have s4 := s.hi
  have ps := put_size (q' := o.2) e2
  have pd := put_deep (q' := o.2) e2
  have lq := len_sizeR q
  exact ⟨path, q, o, e1, e2, ok, by omega, by omega, put_iv e2 v.iv s.iv, by omega, by omega, by omega, by omega⟩
end Wk

set_option Elab.async false
set_option linter.all false
set_option maxRecDepth 100000
set_option maxHeartbeats 1000000
/-! A step of any kind is done; houses of several rows. -/
namespace Wk
open PySem PySem.Spec PyProof.Rows L2 GxR
section
variable {P : Program} {w : World} {K : PySem.W.Frag} {mg : Str → Option Value} {base : Heap} {CX : CXT} {k : Nat} {f : Addr} {fd : FuncData} {ps : List Str}
theorem fn_or {sp sp' : Sp} (F : FnOk P w K mg base CX k f fd ps sp) (G : FnOk P w K mg base CX k f fd ps sp') : FnOk P w K mg base CX k f fd ps (fun vs H Q E => sp vs H Q E ∨ sp' vs H Q E) :=
  ⟨fun vs H Q E h => h.elim (F.len vs H Q E) (G.len vs H Q E), fun A outer s H args us vs Q E hr he hb hv h => h.elim (F.run A outer s H args us vs Q E hr he hb hv) (G.run A outer s H args us vs Q E hr he hb hv)⟩
theorem again_mv (F : FnOk P w K mg base CX k f fd ps (spAgain 6)) : FnOk P w K mg base CX k f fd ps (spMvG (OkAgain 6)) := F.imp fun vs H Q E h => by
  obtain ⟨m, v, r, pl, o, e, hR, lr, ⟨i, s, rfl, hi, fr, rfl⟩, q⟩ := h
  have h1 := fr.size
  have h2 := fr.len
  exact ⟨m, i, v, r, s, e, hR, by omega, hi, fr.deep, by omega, fr.gd, fr.num, by omega, q⟩
def spDoneA (Ts : List Addr) : Sp := fun vs H Q _ => ∃ (s t : Addr) (m : Nat) (rv : V) (r q0 : List Part) (x : Stp) (o : Nat × List Part), vs = [.ref s, .ref t] ∧ H s = some (.tup [.int (m : Nat), rv]) ∧ RowAt H r rv ∧ sizeR r ≤ 100000 ∧ StpAt H x (.ref t) ∧ x.p.length < 20 ∧ rowAt r x.p = some q0 ∧ q0.length ≤ 900 ∧ MvOk x.w m q0 x.r o ∧ TabsG Ts H ∧
  ∀ H' u, SamTs Ts H H' → ToldAt H' (o.1, putAt r x.p o.2) u → Q u H'
theorem doneA {Ts : List Addr} (F1 : FnOk P w K mg base CX k f fd ps (spDoneG Ts "again" 1 (OkAgain 6))) (F2 : FnOk P w K mg base CX k f fd ps (spDoneG Ts "open" 2 (OkOpen 6))) (F3 : FnOk P w K mg base CX k f fd ps (spDoneG Ts "letter" 2 (OkHear 6)))
    (F4 : FnOk P w K mg base CX k f fd ps (spDoneG Ts "in" 3 (OkIn 6))) (F5 : FnOk P w K mg base CX k f fd ps (spDoneG Ts "out" 3 (OkOut 6))) : FnOk P w K mg base CX k f fd ps (spDoneA Ts) :=
  (fn_or F1 (fn_or F2 (fn_or F3 (fn_or F4 F5)))).imp fun vs H Q E h => by
    obtain ⟨s, t, m, rv, r, q0, ⟨wd, path, pl⟩, o, rfl, hs, hR, lr, hx, lp, hrow, lq, ok, tg, q⟩ := h
    rcases ok with ⟨e, ok⟩ | ⟨e, ok⟩ | ⟨e, ok⟩ | ⟨e, ok⟩ | ⟨e, ok⟩
    · have hl : pl.length = 1 := by obtain ⟨_, _, e, _⟩ := ok; rw [show pl = _ from e]; rfl
      cases e
      exact .inl ⟨s, t, m, rv, r, q0, path, pl, o, rfl, hs, hR, lr, hx, hl, lp, hrow, lq, ok, tg, q⟩
    · have hl : pl.length = 2 := by obtain ⟨_, _, _, _, _, e, _⟩ := ok; rw [show pl = _ from e]; rfl
      cases e
      exact .inr (.inl ⟨s, t, m, rv, r, q0, path, pl, o, rfl, hs, hR, lr, hx, hl, lp, hrow, lq, ok, tg, q⟩)
    · have hl : pl.length = 2 := by obtain ⟨_, _, _, _, _, e, _⟩ := ok; rw [show pl = _ from e]; rfl
      cases e
      exact .inr (.inr (.inl ⟨s, t, m, rv, r, q0, path, pl, o, rfl, hs, hR, lr, hx, hl, lp, hrow, lq, ok, tg, q⟩))
    · have hl : pl.length = 3 := by obtain ⟨_, _, _, _, _, _, _, _, e, _⟩ := ok; rw [show pl = _ from e]; rfl
      cases e
      exact .inr (.inr (.inr (.inl ⟨s, t, m, rv, r, q0, path, pl, o, rfl, hs, hR, lr, hx, hl, lp, hrow, lq, ok, tg, q⟩)))
    · have hl : pl.length = 3 := by obtain ⟨_, _, _, _, _, _, _, _, e, _⟩ := ok; rw [show pl = _ from e]; rfl
      cases e
      exact .inr (.inr (.inr (.inr ⟨s, t, m, rv, r, q0, path, pl, o, rfl, hs, hR, lr, hx, hl, lp, hrow, lq, ok, tg, q⟩)))
end
theorem gs_few2 {r : List Part} (hs : sizeR r ≤ 700) (hd : deepR r ≤ 9) : (gsR [] r).length ≤ 10000000 := by
  have h := gsL_len 700 r [] r 0 9 hd hs (Nat.le_trans (len_sizeR r) hs)
  have h2 : sizeR r * ((2 * 700 + 1) * (1 + 9)) ≤ 700 * ((2 * 700 + 1) * (1 + 9)) := Nat.mul_le_mul_right _ hs
  exact Nat.le_trans h (Nat.le_trans h2 (by decide))
/-! ### lively houses -/
def spLively : Sp := fun vs H Q _ => ∃ (L S A : Addr) (nL : Int) (ss sp : List Str), vs = [.ref L, .ref A, .ref S] ∧ SArg H L S A nL ss sp ∧
  ∀ (H' : Hp) (v : V) (sp' : List Str) (r : List Part), StG L S H H' sp' → RowAt H' r v → Dr 4 264 ss sp sp' r → (∀ p ∈ r, sizeP p ≤ 66) → Q v H'
/-- a lively house settled -/
theorem lively_iv {zs ss sp' : List Str} {s : Nat} {r : List Part} (hn : ∀ i z, zs[i]? = some z → NameOf ((s + 5 * i) % 26) z) (hl : zs.length ≤ 26) (hs : ∀ x ∈ ss, x ∈ zs.take 5) (d : Dr 4 264 ss (zs.drop 5) sp' r) (hp : ∀ p ∈ r, sizeP p ≤ 66) : HouseR r ∧ Gd r ∧ Iv 0 (frdR 6 1 r).1 (frdR 6 1 r).2 := by
  obtain ⟨hh, gd⟩ := dr_house hn hl hs (by decide) (by decide) d
  have h1 := d.deep
  have h2 := d.size
  have f := frd_ok 6 1 r (by omega) gd (by omega)
  have f1 := f.size
  have f2 := f.deep
  have f3 := f.lo
  have f4 := f.hi
  exact ⟨hh, gd, gd_ivR _ (f.gd gd) f.nn (frd_parts (n := 5) r 1 (by omega) gd (by omega) hp) (by omega), by omega, by omega, by omega, by omega⟩
end Wk

set_option Elab.async false
set_option linter.all false
set_option maxRecDepth 100000
set_option maxHeartbeats 1000000
/-! Steps found in another order are the same when they are sorted. -/
namespace Wk
open PySem PySem.Spec PyProof.Rows L2 GxR
theorem lex_tot : ∀ xs ys : List Int, HT.lexLt xs ys = false → HT.lexLt ys xs = false → xs = ys
  | [], [], _, _ => rfl
  | [], y :: ys, h, _ => by rw [HT.lexLt_nil_cons] at h; cases h
  | x :: xs, [], _, h => by rw [HT.lexLt_nil_cons] at h; cases h
  | x :: xs, y :: ys, h, g => by
    rw [HT.lexLt_cons] at h g
    by_cases e : x = y
    · subst e
      rw [if_pos rfl] at h g
      rw [lex_tot xs ys h g]
    · rw [if_neg e] at h
      rw [if_neg (Ne.symm e)] at g
      have h1 := of_decide_eq_false h
      have g1 := of_decide_eq_false g
      omega
theorem iN_inj {a b : List Nat} (h : iN a = iN b) : a = b := by
  refine vN_inj ?_
  unfold vN
  rw [h]
theorem ltSt_anti {a b : Stp} (h : ltSt a b = false) (g : ltSt b a = false) : a = b := by
  rw [ltSt_eq] at h g
  obtain ⟨w, p, r⟩ := a
  obtain ⟨w', p', r'⟩ := b
  dsimp only at h g
  by_cases e : w = w'
  · subst e
    rw [if_pos rfl] at h g
    by_cases e2 : p = p'
    · subst e2
      rw [if_pos rfl] at h g
      rw [iN_inj (lex_tot _ _ h g)]
    · rw [if_neg e2] at h
      rw [if_neg (Ne.symm e2)] at g
      exact absurd (iN_inj (lex_tot _ _ h g)) e2
  · rw [if_neg e] at h
    rw [if_neg (Ne.symm e)] at g
    have h1 := of_decide_eq_false h
    have g1 := of_decide_eq_false g
    rw [← decide_eq_false_iff_not, nat_lex] at h1 g1
    exact absurd (Str.ext' (Array.toList_inj.mp (iN_inj (lex_tot _ _ h1 g1)))) e
theorem srt_same {l q : List Stp} (a : SrtO.Srtd ltSt l) (b : SrtO.Srtd ltSt q) (p : l.Perm q) : l = q :=
  List.Perm.eq_of_pairwise (fun x y _ _ h g => ltSt_anti g h) a b p
/-! ### two walks in either order -/
theorem flat_app {α β : Type} (a b : α → List β) : ∀ l : List α, (l.flatMap fun x => a x ++ b x).Perm (l.flatMap a ++ l.flatMap b)
  | [] => .refl _
  | x :: l => by
    have h := flat_app a b l
    show ((a x ++ b x) ++ l.flatMap fun x => a x ++ b x).Perm ((a x ++ l.flatMap a) ++ (b x ++ l.flatMap b))
    rw [List.append_assoc, List.append_assoc]
    refine List.Perm.append_left _ ?_
    refine (h.append_left (b x)).trans ?_
    rw [← List.append_assoc, ← List.append_assoc]
    exact (List.perm_append_comm).append_right _
theorem flat_nil {α β : Type} : ∀ l : List α, (l.flatMap fun _ => ([] : List β)) = []
  | [] => rfl
  | _ :: l => flat_nil l
theorem flat_swap {β : Type} (g : Nat → Nat → List β) (R : List Nat) : ∀ T : List Nat, (R.flatMap fun j => T.flatMap fun d => g d j).Perm (T.flatMap fun d => R.flatMap fun j => g d j)
  | [] => by
    show (R.flatMap fun _ => ([] : List β)).Perm []
    rw [flat_nil]
  | d :: T => by
    show (R.flatMap fun j => g d j ++ T.flatMap fun d => g d j).Perm ((R.flatMap fun j => g d j) ++ T.flatMap fun d => R.flatMap fun j => g d j)
    exact (flat_app _ _ R).trans ((flat_swap g R T).append_left _)
theorem flat_filter {α β : Type} (f : α → Bool) (F : α → β) : ∀ l : List α, (l.filter f).map F = l.flatMap fun x => if f x = true then [F x] else []
  | [] => rfl
  | x :: l => by
    show ((x :: l).filter f).map F = (if f x = true then [F x] else []) ++ l.flatMap fun x => if f x = true then [F x] else []
    by_cases c : f x = true
    · rw [List.filter_cons_of_pos c, if_pos c, List.map_cons, flat_filter f F l]; rfl
    · rw [List.filter_cons_of_neg c, if_neg c, flat_filter f F l]; rfl
/-! ### the steps of one part by another -/
/-- the deed at d in t leads to the room at j -/
def inC (r : List Part) (k : Nat) (t : List Part) (d j : Nat) : Bool := match t[d]? with
  | some (.oth .inn c _) => hasAt (isRoomC c) r j && decide (j ≠ k)
  | _ => false
def lsJ (path : List Nat) (r : List Part) (k : Nat) (p : Part) (j : Nat) : List Stp := match p with
  | .oth .opn c _ => if hasAt (isRoomC c) r j = true then [⟨"open", path, [k, j]⟩] else []
  | .say _ => if hasAt isHear r j = true then [⟨"letter", path, [k, j]⟩] else []
  | .oth .room _ t => ((List.range t.length).filter fun d => inC r k t d j).map fun d => ⟨"in", path, [k, d, j]⟩
  | _ => []
def lsN (path : List Nat) (r : List Part) (k : Nat) (p : Part) (n : Nat) : List Stp := (List.range n).flatMap (lsJ path r k p)
theorem lsN_succ (path : List Nat) (r : List Part) (k : Nat) (p : Part) (n : Nat) : lsN path r k p (n + 1) = lsN path r k p n ++ lsJ path r k p n := by
  unfold lsN
  rw [List.range_succ, List.flatMap_append]
  show _ ++ (lsJ path r k p n ++ []) = _
  rw [List.append_nil]
theorem goals_eq (r : List Part) (k : Nat) (t : List Part) (d : Nat) : goalsD r k t d = ((List.range r.length).filter fun j => inC r k t d j).map fun j => (d, j) := by
  unfold goalsD
  split
  · rename_i c s e
    unfold roomsC idx
    rw [List.filter_filter]
    congr 1
    refine List.filter_congr fun j _ => ?_
    unfold inC
    rw [e, Bool.and_comm]
  · rename_i no
    rw [List.filter_eq_nil_iff.mpr fun j _ => ?_]
    · rfl
    · unfold inC
      split
      · rename_i c s e
        exact absurd e (no c s)
      · exact Bool.false_ne_true
theorem ls_in {path : List Nat} {r : List Part} {k : Nat} {c : Str} {t : List Part} : (lsN path r k (.oth .room c t) r.length).Perm ((goalsN r k t t.length).map fun x => (⟨"in", path, [k, x.1, x.2]⟩ : Stp)) := by
  have e1 : lsN path r k (.oth .room c t) r.length = (List.range r.length).flatMap fun j => (List.range t.length).flatMap fun d => if inC r k t d j = true then [(⟨"in", path, [k, d, j]⟩ : Stp)] else [] := by
    unfold lsN
    refine congrArg (fun f => List.flatMap f (List.range r.length)) (funext fun j => ?_)
    exact flat_filter _ _ _
  have e2 : ((goalsN r k t t.length).map fun x => (⟨"in", path, [k, x.1, x.2]⟩ : Stp)) = (List.range t.length).flatMap fun d => (List.range r.length).flatMap fun j => if inC r k t d j = true then [(⟨"in", path, [k, d, j]⟩ : Stp)] else [] := by
    unfold goalsN
    rw [List.map_flatten, List.map_map, List.flatMap_def]
    congr 1
    refine List.map_congr_left fun d _ => ?_
    show (goalsD r k t d).map _ = _
    rw [goals_eq, List.map_map]
    exact flat_filter _ _ _
  rw [e1, e2]
  exact flat_swap _ _ _
theorem ls_open {path : List Nat} {r : List Part} {k : Nat} {c : Str} {s : List Part} : lsN path r k (.oth .opn c s) r.length = (roomsC r c).map fun j => (⟨"open", path, [k, j]⟩ : Stp) := by
  unfold roomsC idx
  rw [flat_filter]
  rfl
theorem ls_say {path : List Nat} {r : List Part} {k : Nat} {c : Str} : lsN path r k (.say c) r.length = (idx isHear r r.length).map fun j => (⟨"letter", path, [k, j]⟩ : Stp) := by
  unfold idx
  rw [flat_filter]
  rfl
theorem ls_none {path : List Nat} {r : List Part} {k n : Nat} {p : Part} (h : ∀ j, lsJ path r k p j = []) : lsN path r k p n = [] := by
  unfold lsN
  rw [show lsJ path r k p = fun _ => [] from funext h]
  exact flat_nil _
/-- one part's steps, as they are found -/
def lsA (path : List Nat) (k : Nat) : Part → List Stp
  | .again _ => [⟨"again", path, [k]⟩]
  | _ => []
def lsO (path : List Nat) (k : Nat) : Part → List Stp
  | .oth .room c q => ((leavN c q q.length).map fun x : Nat × Nat => ⟨"out", path, [k, x.1, x.2]⟩) ++ gsR (path ++ [k]) q
  | _ => []
theorem ls_part {path : List Nat} {r : List Part} {k : Nat} (p : Part) : ((lsA path k p ++ lsN path r k p r.length) ++ lsO path k p).Perm (gsP path r k p) := by
  cases p with
  | say c =>
    show (([] ++ lsN path r k (.say c) r.length) ++ []).Perm _
    rw [List.append_nil, ls_say]
    exact .refl _
  | again q =>
    show (([_] ++ lsN path r k (.again q) r.length) ++ []).Perm _
    rw [ls_none fun j => rfl]
    exact .refl _
  | oth w c q =>
    cases w with
    | room =>
      show (([] ++ lsN path r k (.oth .room c q) r.length) ++ (((leavN c q q.length).map fun x : Nat × Nat => (⟨"out", path, [k, x.1, x.2]⟩ : Stp)) ++ gsR (path ++ [k]) q)).Perm _
      exact (ls_in (path := path) (r := r) (k := k) (c := c) (t := q)).append_right _
    | opn =>
      show (([] ++ lsN path r k (.oth .opn c q) r.length) ++ []).Perm _
      rw [List.append_nil, ls_open]
      exact .refl _
    | inn => show (([] ++ lsN path r k (.oth .inn c q) r.length) ++ []).Perm _; rw [ls_none fun j => rfl]; exact .refl _
    | out => show (([] ++ lsN path r k (.oth .out c q) r.length) ++ []).Perm _; rw [ls_none fun j => rfl]; exact .refl _
    | hear => show (([] ++ lsN path r k (.oth .hear c q) r.length) ++ []).Perm _; rw [ls_none fun j => rfl]; exact .refl _
    | new => show (([] ++ lsN path r k (.oth .new c q) r.length) ++ []).Perm _; rw [ls_none fun j => rfl]; exact .refl _
def spLSteps (n : Nat) : Sp := fun vs H Q _ => ∃ (v : V) (r : List Part) (pa : Addr) (path : List Nat), vs = [v, .ref pa] ∧ RowAt H r v ∧ deepR r < n ∧ sizeR r ≤ 1000 ∧ H pa = some (.tup (vN path)) ∧ path.length + deepR r ≤ 900 ∧ (gsR path r).length ≤ 10000000 ∧
  ∀ (H' : Hp) (p : Addr) (ts : List Stp) (ys : List V), Same H H' → H p = none → H' p = some (.lst ys) → StpsAt H' ts ys → ts.Perm (gsR path r) → SrtO.Srtd ltSt ts → Q (.ref p) H'
end Wk

set_option Elab.async false
set_option linter.all false
set_option maxRecDepth 100000
set_option maxHeartbeats 1000000
namespace Wk
open PySem PySem.Spec PyProof.Rows L2 GxR
/-- a step put to the list -/
theorem GaS.push {F : Addr} {H0 H : Hp} {ts : List Stp} (hG : GaS F H0 ts H) {wd : Str} {path rs : List Nat} {t pa : Addr} (nt : H t = none) (hpa : H pa = some (.tup (vN path))) (hl : ts.length ≤ 13000000) :
    ∃ ys, (upd H t (.tup (.str wd :: .ref pa :: vN rs))) F = some (.lst ys) ∧ ys.length < sizeLine ∧ GaS F H0 (ts ++ [⟨wd, path, rs⟩]) (upd (upd H t (.tup (.str wd :: .ref pa :: vN rs))) F (.lst (ys ++ [.ref t]))) := by
  obtain ⟨ys, h1, h2⟩ := hG.ex
  have s := same_new (o := HO.tup (.str wd :: .ref pa :: vN rs)) nt
  have g := hG.same s
  refine ⟨ys, s _ _ h1, ?_, g.ext (s _ _ h1) ⟨.ref t, [], rfl, ⟨t, pa, rfl, upd_same, s _ _ hpa⟩, rfl⟩⟩
  have := StpsAt.len h2
  exact Nat.lt_of_le_of_lt (show ys.length ≤ 13000000 by omega) (by decide)
theorem GaS.fl {F : Addr} {H0 H : Hp} {ts : List Stp} (hG : GaS F H0 ts H) : ∃ ys, H F = some (.lst ys) := by
  obtain ⟨ys, h1, _⟩ := hG.ex
  exact ⟨ys, h1⟩
theorem lsJ_len {path : List Nat} {r : List Part} {k : Nat} {p : Part} (hs : sizeP p ≤ 1000) (j : Nat) : (lsJ path r k p j).length ≤ 1000 := by
  cases p with
  | say c =>
    show (if hasAt isHear r j = true then [_] else []).length ≤ _
    split
    · show 1 ≤ _; omega
    · show 0 ≤ _; omega
  | again q => show 0 ≤ _; omega
  | oth w c q =>
    have lq := len_sizeR q
    have e : sizeP (.oth w c q) = sizeR q + 1 := rfl
    cases w with
    | room =>
      show ((_ : List Nat).map _).length ≤ _
      rw [List.length_map]
      refine Nat.le_trans (List.length_filter_le _ _) ?_
      rw [List.length_range]
      omega
    | opn =>
      show (if hasAt (isRoomC c) r j = true then [_] else []).length ≤ _
      split
      · show 1 ≤ _; omega
      · show 0 ≤ _; omega
    | inn => show 0 ≤ _; omega
    | out => show 0 ≤ _; omega
    | hear => show 0 ≤ _; omega
    | new => show 0 ≤ _; omega
theorem lsN_len {path : List Nat} {r : List Part} {k : Nat} {p : Part} (hs : sizeP p ≤ 1000) : ∀ n, (lsN path r k p n).length ≤ 1000 * n
  | 0 => Nat.zero_le _
  | n + 1 => by
    have h1 := lsN_len (path := path) (r := r) (k := k) hs n
    have h2 := lsJ_len (path := path) (r := r) (k := k) hs n
    rw [lsN_succ, List.length_append]
    omega
theorem hasAt_some {f : Part → Bool} {r : List Part} {j : Nat} {p : Part} (h : r[j]? = some p) : hasAt f r j = f p := by
  unfold hasAt
  rw [h]
theorem filter_succ (f : Nat → Bool) (n : Nat) : (List.range (n + 1)).filter f = (List.range n).filter f ++ (if f n = true then [n] else []) := by
  rw [List.range_succ, List.filter_append]
  congr 1
  by_cases c : f n = true
  · rw [if_pos c, List.filter_cons_of_pos c]; rfl
  · rw [if_neg c, List.filter_cons_of_neg c]; rfl
theorem isRoomC_room {c n : Str} {u : List Part} : isRoomC c (.oth .room n u) = decide (n = c) := rfl
theorem isRoomC_no {c : Str} {p : Part} (h : wordP p ≠ "room") : isRoomC c p = false := by
  unfold isRoomC
  split
  · exact absurd rfl h
  · rfl
theorem isHear_no {p : Part} (h : wordP p ≠ "hear") : isHear p = false := by
  unfold isHear
  split
  · exact absurd rfl h
  · rfl
theorem isHear_word {p : Part} (h : wordP p = "hear") : isHear p = true := by
  obtain ⟨n, q, rfl⟩ := word_hear h
  rfl
/-- the steps that a part has by one that is no partner of it -/
theorem lsJ_no {path : List Nat} {r : List Part} {k j : Nat} {p o : Part} (ho : r[j]? = some o) (h1 : ¬ (wordP p = "open" ∧ wordP o = "room")) (h2 : ¬ (wordP p = "say" ∧ wordP o = "hear")) (h3 : ¬ (wordP p = "room" ∧ wordP o = "room" ∧ j ≠ k)) : lsJ path r k p j = [] := by
  cases p with
  | say c =>
    show (if hasAt isHear r j = true then [_] else []) = []
    rw [hasAt_some ho, isHear_no fun e => h2 ⟨rfl, e⟩]
    rfl
  | again q => rfl
  | oth w c q =>
    cases w with
    | room =>
      show ((List.range q.length).filter fun d => inC r k q d j).map _ = []
      rw [List.filter_eq_nil_iff.mpr fun d _ => ?_]
      · rfl
      · unfold inC
        split
        · rename_i c' s e
          rw [hasAt_some ho]
          by_cases e1 : wordP o = "room"
          · have e2 : j = k := by
              by_cases e3 : j = k
              · exact e3
              · exact absurd ⟨rfl, e1, e3⟩ h3
            rw [decide_eq_false (fun z => z e2), Bool.and_false]
            exact Bool.false_ne_true
          · rw [isRoomC_no e1]
            exact Bool.false_ne_true
        · exact Bool.false_ne_true
    | opn =>
      show (if hasAt (isRoomC c) r j = true then [_] else []) = []
      rw [hasAt_some ho, isRoomC_no fun e => h1 ⟨rfl, e⟩]
      rfl
    | inn => rfl
    | out => rfl
    | hear => rfl
    | new => rfl
theorem inC_eq {r t : List Part} {k j d : Nat} {n : Str} {u : List Part} {p : Part} (hj : r[j]? = some (.oth .room n u)) (ne : j ≠ k) (hd : t[d]? = some p) : inC r k t d j = true ↔ ∃ s, p = .oth .inn n s := by
  unfold inC
  rw [hd]
  split
  · rename_i c s e
    have e' := Option.some.inj e
    rw [hasAt_some hj, isRoomC_room, decide_eq_true ne, Bool.and_true, decide_eq_true_iff]
    constructor
    · intro h
      exact ⟨s, by rw [e', h]⟩
    · rintro ⟨s', h⟩
      rw [h] at e'
      cases e'
      rfl
  · rename_i no
    constructor
    · intro h; cases h
    · rintro ⟨s, h⟩
      exact absurd (by rw [h]) (no n s)
end Wk

set_option Elab.async false
set_option linter.all false
set_option maxRecDepth 100000
set_option maxHeartbeats 1000000
/-! The law's own order of finding steps, piece by piece. -/
namespace Wk
open PySem PySem.Spec PyProof.Rows L2 GxR
def jO (path : List Nat) (r : List Part) (k : Nat) (p : Part) (j : Nat) : List Stp := match p with
  | .oth .opn c _ => if hasAt (isRoomC c) r j = true then [⟨"open", path, [k, j]⟩] else []
  | _ => []
def jS (path : List Nat) (r : List Part) (k : Nat) (p : Part) (j : Nat) : List Stp := match p with
  | .say _ => if hasAt isHear r j = true then [⟨"letter", path, [k, j]⟩] else []
  | _ => []
def jRn (path : List Nat) (r : List Part) (k : Nat) (p : Part) (j n : Nat) : List Stp := match p with
  | .oth .room _ t => ((List.range n).filter fun d => inC r k t d j).map fun d => ⟨"in", path, [k, d, j]⟩
  | _ => []
def jR (path : List Nat) (r : List Part) (k : Nat) (p : Part) (j : Nat) : List Stp := match p with
  | .oth .room _ t => ((List.range t.length).filter fun d => inC r k t d j).map fun d => ⟨"in", path, [k, d, j]⟩
  | _ => []
theorem lsJ_split (path : List Nat) (r : List Part) (k : Nat) (p : Part) (j : Nat) : lsJ path r k p j = (jO path r k p j ++ jS path r k p j) ++ jR path r k p j := by
  cases p with
  | say c => show _ = ([] ++ _) ++ []; rw [List.append_nil]; rfl
  | again q => rfl
  | oth w c q =>
    cases w with
    | opn => show _ = (_ ++ []) ++ []; rw [List.append_nil, List.append_nil]; rfl
    | room => rfl
    | inn => rfl
    | out => rfl
    | hear => rfl
    | new => rfl
def isInC (c : Str) : Part → Bool
  | .oth .inn n _ => decide (n = c)
  | _ => false
theorem isInC_no {c : Str} {p : Part} (h : wordP p ≠ "in") : isInC c p = false := by
  unfold isInC
  split
  · exact absurd rfl h
  · rfl
theorem isInC_iff {c : Str} {p : Part} : isInC c p = true ↔ ∃ s, p = .oth .inn c s := by
  unfold isInC
  split
  · rename_i n t
    rw [decide_eq_true_iff]
    constructor
    · intro e; exact ⟨t, by rw [e]⟩
    · rintro ⟨s, e⟩; cases e; rfl
  · rename_i no
    constructor
    · intro e; cases e
    · rintro ⟨s, e⟩; exact absurd e (no c s)
section
variable {path : List Nat} {r : List Part} {k j : Nat} {p o : Part}
theorem jO_no1 (h : wordP p ≠ "open") : jO path r k p j = [] := by
  cases p with
  | say c => rfl
  | again q => rfl
  | oth w c q =>
    cases w with
    | opn => exact absurd rfl h
    | room => rfl
    | inn => rfl
    | out => rfl
    | hear => rfl
    | new => rfl
theorem jO_no2 (ho : r[j]? = some o) (h : wordP o ≠ "room") : jO path r k p j = [] := by
  unfold jO
  split
  · rw [hasAt_some ho, isRoomC_no h]; rfl
  · rfl
theorem jO_no3 {c n : Str} {s u : List Part} (ho : r[j]? = some (.oth .room n u)) (h : n ≠ c) : jO path r k (.oth .opn c s) j = [] := by
  show (if hasAt (isRoomC c) r j = true then [_] else []) = []
  rw [hasAt_some ho, isRoomC_room, decide_eq_false h]; rfl
theorem jO_yes {c : Str} {s u : List Part} (ho : r[j]? = some (.oth .room c u)) : jO path r k (.oth .opn c s) j = [⟨"open", path, [k, j]⟩] := by
  show (if hasAt (isRoomC c) r j = true then [_] else []) = [_]
  rw [hasAt_some ho, isRoomC_room, decide_eq_true rfl, if_pos rfl]
theorem jS_no1 (h : wordP p ≠ "say") : jS path r k p j = [] := by
  cases p with
  | say c => exact absurd rfl h
  | again q => rfl
  | oth w c q => rfl
theorem jS_no2 (ho : r[j]? = some o) (h : wordP o ≠ "hear") : jS path r k p j = [] := by
  unfold jS
  split
  · rw [hasAt_some ho, isHear_no h]; rfl
  · rfl
theorem jS_yes {c : Str} (ho : r[j]? = some o) (h : wordP o = "hear") : jS path r k (.say c) j = [⟨"letter", path, [k, j]⟩] := by
  show (if hasAt isHear r j = true then [_] else []) = [_]
  rw [hasAt_some ho, isHear_word h, if_pos rfl]
theorem jR_no1 (h : wordP p ≠ "room") : jR path r k p j = [] := by
  cases p with
  | say c => rfl
  | again q => rfl
  | oth w c q =>
    cases w with
    | opn => rfl
    | room => exact absurd rfl h
    | inn => rfl
    | out => rfl
    | hear => rfl
    | new => rfl
theorem jR_no2 (ho : r[j]? = some o) (h : ¬ (wordP o = "room" ∧ j ≠ k)) : jR path r k p j = [] := by
  cases e : decide (wordP p = "room") with
  | false => exact jR_no1 (of_decide_eq_false e)
  | true =>
    have e' := of_decide_eq_true e
    have s := lsJ_split path r k p j
    rw [jO_no1 (by rw [e']; decide), jS_no1 (by rw [e']; decide), lsJ_no ho (fun z => by rw [e'] at z; exact absurd z.1 (by decide)) (fun z => by rw [e'] at z; exact absurd z.1 (by decide)) (fun z => h z.2)] at s
    exact s.symm
theorem jRn_succ {c n : Str} {t u : List Part} {d : Nat} {q : Part} (hj : r[j]? = some (.oth .room n u)) (ne : j ≠ k) (hd : t[d]? = some q) : jRn path r k (.oth .room c t) j (d + 1) = jRn path r k (.oth .room c t) j d ++ (if isInC n q = true then [⟨"in", path, [k, d, j]⟩] else []) := by
  show ((List.range (d + 1)).filter fun d => inC r k t d j).map _ = ((List.range d).filter fun d => inC r k t d j).map _ ++ _
  rw [filter_succ, List.map_append]
  congr 1
  have e := (inC_eq (k := k) hj ne hd).trans isInC_iff.symm
  by_cases z : inC r k t d j = true
  · rw [if_pos z, if_pos (e.mp z)]; rfl
  · rw [if_neg z, if_neg (fun y => z (e.mpr y))]; rfl
theorem jRn_len {d : Nat} : (jRn path r k p j d).length ≤ d := by
  unfold jRn
  split
  · rw [List.length_map]
    refine Nat.le_trans (List.length_filter_le _ _) ?_
    rw [List.length_range]
    exact Nat.le_refl _
  · exact Nat.zero_le _
end
theorem lsA_len {path : List Nat} {k : Nat} {p : Part} : (lsA path k p).length ≤ 1 := by
  cases p with
  | again q => exact Nat.le_refl _
  | say c => exact Nat.zero_le _
  | oth w c q => exact Nat.zero_le _
theorem lsA_no {path : List Nat} {k : Nat} {p : Part} (h : wordP p ≠ "again") : lsA path k p = [] := by
  cases p with
  | again q => exact absurd rfl h
  | say c => rfl
  | oth w c q => rfl
theorem lsO_no {path : List Nat} {k : Nat} {p : Part} (h : wordP p ≠ "room") : lsO path k p = [] := by
  cases p with
  | again q => rfl
  | say c => rfl
  | oth w c q =>
    cases w with
    | opn => rfl
    | room => exact absurd rfl h
    | inn => rfl
    | out => rfl
    | hear => rfl
    | new => rfl
/-- the outs of a room's parts -/
def oN (path : List Nat) (k : Nat) (c : Str) (q : List Part) (n : Nat) : List Stp := (leavN c q n).map fun x : Nat × Nat => ⟨"out", path, [k, x.1, x.2]⟩
def oD (path : List Nat) (k : Nat) (c : Str) (s : List Part) (j n : Nat) : List Stp := (idx (isOutC c) s n).map fun d => ⟨"out", path, [k, j, d]⟩
theorem oN_no {path : List Nat} {k : Nat} {c : Str} {q : List Part} {j : Nat} {p : Part} (h : q[j]? = some p) (no : wordP p ≠ "room") : oN path k c q (j + 1) = oN path k c q j := by
  unfold oN
  rw [leavN_succ, leavD_no h (fun c s e => no (by rw [e]; rfl)), List.append_nil]
theorem oN_yes {path : List Nat} {k : Nat} {c n : Str} {q s : List Part} {j : Nat} (h : q[j]? = some (.oth .room n s)) : oN path k c q (j + 1) = oN path k c q j ++ oD path k c s j s.length := by
  unfold oN oD
  rw [leavN_succ, leavD_room h, List.map_append, List.map_map]
  rfl
theorem oD_succ {path : List Nat} {k : Nat} {c : Str} {s : List Part} {j d : Nat} {p : Part} (h : s[d]? = some p) : oD path k c s j (d + 1) = oD path k c s j d ++ (if isOutC c p = true then [⟨"out", path, [k, j, d]⟩] else []) := by
  unfold oD
  rw [idx_succ h, List.map_append]
  congr 1
  by_cases z : isOutC c p = true
  · rw [if_pos z, if_pos z]; rfl
  · rw [if_neg z, if_neg z]; rfl
theorem oD_len {path : List Nat} {k : Nat} {c : Str} {s : List Part} {j n : Nat} : (oD path k c s j n).length ≤ n := by
  unfold oD
  rw [List.length_map]
  exact idx_len _ _ _
theorem oN_len {path : List Nat} {k : Nat} {c : Str} {q : List Part} {n : Nat} (hq : sizeR q ≤ 1000) : (oN path k c q n).length ≤ n * 1000 := by
  unfold oN
  rw [List.length_map]
  exact leavN_len c q hq n
theorem isOutC_no {c : Str} {p : Part} (h : wordP p ≠ "out") : isOutC c p = false := by
  cases e : isOutC c p with
  | false => rfl
  | true =>
    obtain ⟨s, rfl⟩ := isOutC_true e
    exact absurd rfl h
theorem ne_int {a b : Nat} (h : a ≠ b) : (!decide (V.int (a : Nat) = V.int (b : Nat))) = true := by
  rw [decide_eq_false (fun z => h (by have := V.int.inj z; omega))]
  rfl
theorem int_ne {a b : Nat} (h : (!decide (V.int (a : Nat) = V.int (b : Nat))) = true) : a ≠ b := fun e => by
  rw [e, decide_eq_true rfl] at h
  cases h
/-- what holds while steps are gathered -/
structure GaP (F : Addr) (H0 : Hp) (ts : List Stp) (n : Nat) (H : Hp) : Prop where
  g : GaS F H0 ts H
  len : ts.length ≤ n
end Wk

set_option Elab.async false
set_option linter.all false
set_option maxRecDepth 100000
set_option maxHeartbeats 1000000
/-! Rows by paths of any whole numbers; all paths of a row; lists of things of any kind. -/
namespace Wk
open PySem PySem.Spec PyProof.Rows L2 GxR
/-! ### a list of things, each by a relation -/
def AllAt {α : Type} (R : Hp → α → V → Prop) (H : Hp) : List α → List V → Prop
  | [], vs => vs = []
  | x :: xs, vs => ∃ v us, vs = v :: us ∧ R H x v ∧ AllAt R H xs us
section
variable {α : Type} {R : Hp → α → V → Prop} {H H' : Hp}
theorem AllAt.imp (h : ∀ x v, R H x v → R H' x v) : ∀ {xs : List α} {vs : List V}, AllAt R H xs vs → AllAt R H' xs vs
  | [], _, g => g
  | x :: xs, vs, g => by
    obtain ⟨v, us, rfl, g1, g2⟩ := g
    exact ⟨v, us, rfl, h x v g1, AllAt.imp h g2⟩
theorem AllAt.len : ∀ {xs : List α} {vs : List V}, AllAt R H xs vs → vs.length = xs.length
  | [], vs, g => by rw [show vs = [] from g]; rfl
  | x :: xs, vs, g => by
    obtain ⟨v, us, rfl, g1, g2⟩ := g
    rw [List.length_cons, List.length_cons, AllAt.len g2]
theorem AllAt.app : ∀ {xs ys : List α} {vs us : List V}, AllAt R H xs vs → AllAt R H ys us → AllAt R H (xs ++ ys) (vs ++ us)
  | [], ys, vs, us, g, k => by rw [show vs = [] from g]; exact k
  | x :: xs, ys, vs, us, g, k => by
    obtain ⟨v, ws, rfl, g1, g2⟩ := g
    exact ⟨v, ws ++ us, rfl, g1, AllAt.app g2 k⟩
theorem AllAt.one {x : α} {v : V} (h : R H x v) : AllAt R H [x] [v] := ⟨v, [], rfl, h, rfl⟩
theorem AllAt.get : ∀ {xs : List α} {vs : List V} {i : Nat} {v : V}, AllAt R H xs vs → vs[i]? = some v → ∃ x, xs[i]? = some x ∧ R H x v
  | [], vs, i, v, g, e => by rw [show vs = [] from g] at e; cases e
  | x :: xs, vs, i, v, g, e => by
    obtain ⟨u, us, rfl, g1, g2⟩ := g
    cases i with
    | zero => cases e; exact ⟨x, rfl, g1⟩
    | succ i => exact AllAt.get (i := i) g2 e
theorem AllAt.at : ∀ {xs : List α} {vs : List V} {i : Nat} {x : α}, AllAt R H xs vs → xs[i]? = some x → ∃ v, vs[i]? = some v ∧ R H x v
  | [], vs, i, x, g, e => by cases e
  | y :: xs, vs, i, x, g, e => by
    obtain ⟨u, us, rfl, g1, g2⟩ := g
    cases i with
    | zero => cases e; exact ⟨u, rfl, g1⟩
    | succ i => exact AllAt.at (i := i) g2 e
theorem AllAt.take : ∀ {xs : List α} {vs : List V} (n : Nat), AllAt R H xs vs → AllAt R H (xs.take n) (vs.take n)
  | xs, vs, 0, g => by rw [List.take_zero, List.take_zero]; rfl
  | [], vs, n + 1, g => by rw [show vs = [] from g]; rfl
  | x :: xs, vs, n + 1, g => by
    obtain ⟨v, us, rfl, g1, g2⟩ := g
    exact ⟨v, us.take n, rfl, g1, AllAt.take n g2⟩
/-- all but S stays; S holds these -/
structure GaL (R : Hp → α → V → Prop) (S : Addr) (H0 : Hp) (ts : List α) (H : Hp) : Prop where
  ks : ∀ b o, b ≠ S → H0 b = some o → H b = some o
  ex : ∃ ys, H S = some (.lst ys) ∧ AllAt R H ts ys
variable {S : Addr} {H0 : Hp} {ts us : List α}
theorem GaL.same (m : ∀ {G G' : Hp}, STup G G' → ∀ x v, R G x v → R G' x v) (h : GaL R S H0 ts H) (s : Same H H') : GaL R S H0 ts H' := by
  obtain ⟨ys, h1, h2⟩ := h.ex
  exact ⟨fun b o nb e => s _ _ (h.ks b o nb e), ys, s _ _ h1, h2.imp (m (STup.of s))⟩
theorem GaL.tup {x0 : List V} (h : GaL R S H0 ts H) (hS : H0 S = some (.lst x0)) : STup H0 H := fun a xs e => h.ks a _ (fun z => by rw [z, hS] at e; cases e) e
theorem GaL.ext (m : ∀ {G G' : Hp}, STup G G' → ∀ x v, R G x v → R G' x v) (h : GaL R S H0 ts H) {ys zs : List V} (hS : H S = some (.lst ys)) (hz : AllAt R H us zs) : GaL R S H0 (ts ++ us) (upd H S (.lst (ys ++ zs))) := by
  obtain ⟨ys', h1, h2⟩ := h.ex
  rw [hS] at h1
  cases h1
  have st : STup H (upd H S (.lst (ys ++ zs))) := STup.lst hS
  exact ⟨fun b o nb e => (upd_ne nb).trans (h.ks b o nb e), _, upd_same, (h2.imp (m st)).app (hz.imp (m st))⟩
end
/-! ### rows by paths of any whole numbers -/
def roomI (r : List Part) (i : Int) : Option (List Part) := if 0 ≤ i then roomAt r i.toNat else none
def rowI (r : List Part) : List Int → Option (List Part)
  | [] => some r
  | i :: p => (roomI r i).bind fun q => rowI q p
theorem roomI_nat (r : List Part) (n : Nat) : roomI r (n : Int) = roomAt r n := by
  unfold roomI
  rw [if_pos (by omega)]
  rfl
theorem rowI_nat : ∀ (p : List Nat) (r : List Part), rowI r (iN p) = rowAt r p
  | [], r => rfl
  | i :: p, r => by
    show (roomI r (i : Int)).bind (fun q => rowI q (iN p)) = (roomAt r i).bind fun q => rowAt q p
    rw [roomI_nat]
    refine congrArg _ (funext fun q => rowI_nat p q)
theorem rowI_app (r : List Part) : ∀ p q : List Int, rowI r (p ++ q) = (rowI r p).bind fun s => rowI s q
  | [], q => rfl
  | i :: p, q => by
    show (roomI r i).bind (fun s => rowI s (p ++ q)) = ((roomI r i).bind fun s => rowI s p).bind fun s => rowI s q
    cases roomI r i with
    | none => rfl
    | some s => exact rowI_app s p q
def spRowI : Sp := fun vs H Q _ => ∃ (s pa : Addr) (n : Int) (rv : V) (r : List Part) (path : List Int), vs = [.ref s, .ref pa] ∧ H s = some (.tup [.int n, rv]) ∧ RowAt H r rv ∧ sizeR r ≤ 100000 ∧ H pa = some (.tup (path.map V.int)) ∧
  (∀ q v, rowI r path = some q → RowAt H q v → Q v H) ∧ (rowI r path = none → Q .non H)
section
variable {P : Program} {w : World} {K : PySem.W.Frag} {mg : Str → Option Value} {base : Heap} {CX : CXT} {k : Nat} {f : Addr} {fd : FuncData} {ps : List Str}
theorem rowAt_of (F : FnOk P w K mg base CX k f fd ps spRowI) : FnOk P w K mg base CX k f fd ps spRowAt := F.imp fun vs H Q E h => by
  obtain ⟨s, pa, n, rv, r, path, e, h1, h2, h3, h4, q1, q2⟩ := h
  exact ⟨s, pa, n, rv, r, iN path, e, h1, h2, h3, h4, fun q v hq => q1 q v (by rw [← rowI_nat]; exact hq), fun hq => q2 (by rw [← rowI_nat]; exact hq)⟩
end
/-! ### all paths of a row -/
mutual
def ptP (pre : List Nat) (k : Nat) : Part → List (List Nat × List Part)
  | .say _ => []
  | .again _ => []
  | .oth w n q => match w with
    | .room => (pre ++ [k], q) :: ptL (pre ++ [k]) 0 q
    | _ => []
def ptL (pre : List Nat) (k : Nat) : List Part → List (List Nat × List Part)
  | [] => []
  | p :: r => ptP pre k p ++ ptL pre (k + 1) r
end
def ptR (pre : List Nat) (r : List Part) : List (List Nat × List Part) := (pre, r) :: ptL pre 0 r
theorem ptP_room {pre : List Nat} {k : Nat} {n : Str} {q : List Part} : ptP pre k (.oth .room n q) = ptR (pre ++ [k]) q := by simp only [ptP, ptR]
theorem ptP_no {pre : List Nat} {k : Nat} {p : Part} (h : wordP p ≠ "room") : ptP pre k p = [] := by
  cases p with
  | say c => simp only [ptP]
  | again q => simp only [ptP]
  | oth w c q =>
    cases w with
    | room => exact absurd rfl h
    | opn => simp only [ptP]
    | inn => simp only [ptP]
    | out => simp only [ptP]
    | hear => simp only [ptP]
    | new => simp only [ptP]
theorem ptL_snoc (pre : List Nat) (p : Part) : ∀ (l : List Part) (k : Nat), ptL pre k (l ++ [p]) = ptL pre k l ++ ptP pre (k + l.length) p
  | [], k => by
    show ptP pre k p ++ [] = [] ++ ptP pre (k + 0) p
    rw [List.append_nil]; rfl
  | q :: l, k => by
    show ptP pre k q ++ ptL pre (k + 1) (l ++ [p]) = (ptP pre k q ++ ptL pre (k + 1) l) ++ ptP pre (k + (l.length + 1)) p
    rw [ptL_snoc pre p l (k + 1), List.append_assoc, show k + 1 + l.length = k + (l.length + 1) by omega]
theorem ptL_step {pre : List Nat} {r : List Part} {i : Nat} {p : Part} (h : r[i]? = some p) : ptL pre 0 (r.take (i + 1)) = ptL pre 0 (r.take i) ++ ptP pre i p := by
  have hlt := (List.getElem?_eq_some_iff.mp h).1
  rw [List.take_add_one, h]
  show ptL pre 0 (r.take i ++ [p]) = _
  rw [ptL_snoc, List.length_take, Nat.min_eq_left (by omega), Nat.zero_add]
mutual
theorem ptP_len (pre : List Nat) (k : Nat) : ∀ p : Part, (ptP pre k p).length ≤ sizeP p
  | .say _ => by simp only [ptP]; exact Nat.zero_le _
  | .again _ => by simp only [ptP]; exact Nat.zero_le _
  | .oth w n q => by
    cases w with
    | room =>
      have := ptL_len (pre ++ [k]) 0 q
      simp only [ptP, sizeP, List.length_cons]
      omega
    | opn => simp only [ptP]; exact Nat.zero_le _
    | inn => simp only [ptP]; exact Nat.zero_le _
    | out => simp only [ptP]; exact Nat.zero_le _
    | hear => simp only [ptP]; exact Nat.zero_le _
    | new => simp only [ptP]; exact Nat.zero_le _
theorem ptL_len (pre : List Nat) (k : Nat) : ∀ l : List Part, (ptL pre k l).length ≤ sizeR l
  | [] => Nat.zero_le _
  | p :: l => by
    have h1 := ptP_len pre k p
    have h2 := ptL_len pre (k + 1) l
    show (ptP pre k p ++ ptL pre (k + 1) l).length ≤ sizeP p + sizeR l
    rw [List.length_append]
    omega
end
theorem ptR_len (pre : List Nat) (r : List Part) : (ptR pre r).length ≤ sizeR r + 1 := by
  have := ptL_len pre 0 r
  show (ptL pre 0 r).length + 1 ≤ _
  omega
mutual
theorem ptP_mem (pre : List Nat) (k : Nat) (x : List Nat × List Part) : ∀ p : Part, x ∈ ptP pre k p → ∃ n q path, p = .oth .room n q ∧ x.1 = pre ++ k :: path ∧ rowAt q path = some x.2
  | .say _, h => by simp only [ptP] at h; cases h
  | .again _, h => by simp only [ptP] at h; cases h
  | .oth w n q, h => by
    cases w with
    | room =>
      simp only [ptP] at h
      rcases List.mem_cons.mp h with rfl | h
      · exact ⟨n, q, [], rfl, rfl, rfl⟩
      · obtain ⟨path, e1, e2⟩ := ptL_mem q (pre ++ [k]) 0 x q (fun i => by rw [Nat.zero_add]) h
        exact ⟨n, q, path, rfl, by rw [e1, List.append_assoc]; rfl, e2⟩
    | opn => simp only [ptP] at h; cases h
    | inn => simp only [ptP] at h; cases h
    | out => simp only [ptP] at h; cases h
    | hear => simp only [ptP] at h; cases h
    | new => simp only [ptP] at h; cases h
theorem ptL_mem (r : List Part) (pre : List Nat) (k : Nat) (x : List Nat × List Part) : ∀ l : List Part, (∀ i, l[i]? = r[k + i]?) → x ∈ ptL pre k l → ∃ path, x.1 = pre ++ path ∧ rowAt r path = some x.2
  | [], _, h => nomatch h
  | p :: l, e, h => by
    have e0 : r[k]? = some p := (e 0).symm
    rcases List.mem_append.mp (show x ∈ ptP pre k p ++ ptL pre (k + 1) l from h) with h | h
    · obtain ⟨n, q, path, rfl, e1, e2⟩ := ptP_mem pre k x p h
      refine ⟨k :: path, e1, ?_⟩
      show (roomAt r k).bind _ = _
      unfold roomAt
      rw [e0]
      exact e2
    · exact ptL_mem r pre (k + 1) x l (fun i => by rw [show k + 1 + i = k + (i + 1) by omega]; exact e (i + 1)) h
end
theorem ptR_mem {r : List Part} {x : List Nat × List Part} (h : x ∈ ptR [] r) : rowAt r x.1 = some x.2 := by
  rcases List.mem_cons.mp h with rfl | h
  · rfl
  · obtain ⟨path, e1, e2⟩ := ptL_mem r [] 0 x r (fun i => by rw [Nat.zero_add]) h
    rw [e1]; exact e2
theorem ptL_at {pre : List Nat} {y : List Nat × List Part} {p : Part} : ∀ {l : List Part} {k i : Nat}, l[i]? = some p → y ∈ ptP pre (k + i) p → y ∈ ptL pre k l
  | [], k, i, h, _ => by cases h
  | q :: l, k, 0, h, g => by
    cases h
    exact List.mem_append_left _ g
  | q :: l, k, i + 1, h, g => List.mem_append_right _ (ptL_at (k := k + 1) (i := i) h (by rw [show k + 1 + i = k + (i + 1) by omega]; exact g))
theorem ptR_at {q : List Part} : ∀ {path : List Nat} {r : List Part} {pre : List Nat}, rowAt r path = some q → (pre ++ path, q) ∈ ptR pre r
  | [], r, pre, h => by
    cases h
    rw [List.append_nil]
    exact List.mem_cons_self
  | i :: path, r, pre, h => by
    have h' : (roomAt r i).bind (fun s => rowAt s path) = some q := h
    cases e : roomAt r i with
    | none => rw [e] at h'; cases h'
    | some s =>
      rw [e] at h'
      obtain ⟨n, e2⟩ := roomAt_some e
      have g := ptR_at (pre := pre ++ [i]) (show rowAt s path = some q from h')
      rw [List.append_assoc] at g
      exact List.mem_cons_of_mem _ (ptL_at (k := 0) e2 (by rw [Nat.zero_add, ptP_room]; exact g))
/-- a path and its row, laid out -/
def PthAt (H : Hp) (x : List Nat × List Part) (v : V) : Prop := ∃ t pa rv, v = .ref t ∧ H t = some (.tup [.ref pa, rv]) ∧ H pa = some (.tup (vN x.1)) ∧ RowAt H x.2 rv
theorem PthAt.tup {G G' : Hp} (s : STup G G') (x : List Nat × List Part) (v : V) (h : PthAt G x v) : PthAt G' x v := by
  obtain ⟨t, pa, rv, e, h1, h2, h3⟩ := h
  exact ⟨t, pa, rv, e, s _ _ h1, s _ _ h2, h3.mono s⟩
def spPaths (n : Nat) : Sp := fun vs H Q _ => ∃ (v : V) (r : List Part) (pa : Addr) (path : List Nat), vs = [v, .ref pa] ∧ RowAt H r v ∧ deepR r < n ∧ sizeR r ≤ 1000 ∧ H pa = some (.tup (vN path)) ∧ path.length + deepR r ≤ 900 ∧
  ∀ (H' : Hp) (p : Addr) (ys : List V), Same H H' → H p = none → H' p = some (.lst ys) → AllAt PthAt H' (ptR path r) ys → Q (.ref p) H'
theorem none_of {H H' : Hp} {p : Addr} (s : Same H H') (n : H' p = none) : H p = none := by
  cases e : H p with
  | none => rfl
  | some o => rw [s _ _ e] at n; cases n
theorem rowI_some {q : List Part} : ∀ {p : List Int} {r : List Part}, rowI r p = some q → ∃ l : List Nat, p = iN l ∧ rowAt r l = some q
  | [], r, h => ⟨[], rfl, h⟩
  | i :: p, r, h => by
    have h' : (roomI r i).bind (fun s => rowI s p) = some q := h
    cases e : roomI r i with
    | none => rw [e] at h'; cases h'
    | some s =>
      rw [e] at h'
      obtain ⟨l, e2, e3⟩ := rowI_some (show rowI s p = some q from h')
      unfold roomI at e
      split at e
      · rename_i h0
        refine ⟨i.toNat :: l, ?_, ?_⟩
        · rw [e2]
          show i :: iN l = ((i.toNat : Nat) : Int) :: iN l
          rw [show ((i.toNat : Nat) : Int) = i by omega]
        · show (roomAt r i.toNat).bind _ = _
          rw [e]
          exact e3
      · cases e
theorem rowI_neg (r : List Part) (p : List Int) {i : Int} (h : i < 0) : rowI r (p ++ [i]) = none := by
  rw [rowI_app]
  cases rowI r p with
  | none => rfl
  | some q =>
    show (roomI q i).bind _ = none
    unfold roomI
    rw [if_neg (by omega)]
    rfl
theorem rowI_far (r : List Part) {i : Int} (h : (r.length : Int) ≤ i) : rowI r [i] = none := by
  show (roomI r i).bind _ = none
  unfold roomI
  rw [if_pos (by omega)]
  unfold roomAt
  rw [List.getElem?_eq_none (by omega)]
  rfl
/-! ### tuples of whole numbers as data -/
def dataI (l : List Int) : List PyData := l.map PyData.int
theorem dpI {K : PySem.W.Frag} {H : Hp} : ∀ l : List Int, DpAll K H (l.map V.int) (dataI l)
  | [] => .nil
  | n :: l => .cons (.int n) (dpI l)
theorem layI : ∀ l : List Int, PyData.canLayAll0 (dataI l) = true
  | [] => rfl
  | n :: l => by
    show (true && PyData.canLayAll0 (dataI l)) = true
    rw [layI l]; rfl
theorem depI : ∀ l : List Int, PyData.depthAll (dataI l) = 0
  | [] => rfl
  | n :: l => by
    show max 0 (PyData.depthAll (dataI l)) = 0
    rw [depI l]; rfl
theorem shapedI (l : List Int) : SeqAt.shaped (.tuple (dataI l)) = true := by
  have e1 : PyData.canLay0 (.tuple (dataI l)) = true := layI l
  have e2 : PyData.depth (.tuple (dataI l)) = 1 := by show PyData.depthAll (dataI l) + 1 = 1; rw [depI]
  unfold SeqAt.shaped
  rw [e1, e2]; rfl
theorem eqvI : ∀ l m : List Int, PyData.eqvAll (dataI l) (dataI m) = decide (l = m)
  | [], [] => rfl
  | [], m :: ms => rfl
  | n :: l, [] => rfl
  | n :: l, m :: ms => by
    show ((n == m) && PyData.eqvAll (dataI l) (dataI ms)) = _
    rw [eqvI l ms, Bool.eq_iff_iff, Bool.and_eq_true_iff, beq_iff_eq, decide_eq_true_iff, decide_eq_true_iff, List.cons.injEq]
/-! ### how long steps are -/
theorem Mv.len {q : List Part} {w : Str} {r : List Nat} (h : Mv q w r) : r.length ≤ 3 := by
  cases h with
  | again h => exact (show 1 ≤ 3 by decide)
  | opn h g => exact (show 2 ≤ 3 by decide)
  | hear h g => exact (show 2 ≤ 3 by decide)
  | inn ne h g hd => exact (show 3 ≤ 3 by decide)
  | out h g hd => exact (show 3 ≤ 3 by decide)
theorem stp_lens {h : List Part} {x : Stp} (g : x ∈ gsR [] h) : x.p.length ≤ deepR h ∧ x.r.length ≤ 3 := by
  obtain ⟨path, q, e1, e2, mv⟩ := gs_inv g
  have rd := row_deep e2
  rw [e1]
  exact ⟨by omega, mv.len⟩
/-! ### equal lists of steps -/
theorem eqv_stps (l : List Stp) : PyData.eqvAll (l.map dataS) (l.map dataS) = true := by
  induction l with
  | nil => rfl
  | cons x l ih =>
    show (PyData.eqv (dataS x) (dataS x) && PyData.eqvAll (l.map dataS) (l.map dataS)) = true
    rw [eqvS, ih, decide_eq_true rfl]; rfl
theorem AllAt.mem {α : Type} {R : Hp → α → V → Prop} {H : Hp} {xs : List α} {vs : List V} {v : V} (g : AllAt R H xs vs) (h : v ∈ vs) : ∃ x ∈ xs, R H x v := by
  obtain ⟨i, hi⟩ := List.getElem?_of_mem h
  obtain ⟨x, hx, r⟩ := g.get hi
  exact ⟨x, List.mem_of_getElem? hx, r⟩
def spRight19 : Sp := fun vs H Q _ => ∃ (st L : Addr) (n : Int) (i m : Nat) (hv : V) (h : List Part), vs = [.ref st, .ref L] ∧ H st = some (.tup [.int (m : Nat), hv]) ∧ RowAt H h hv ∧ Iv i m h ∧ i ≤ 3 ∧ H L = some (.lst [.int n]) ∧ ∀ H', StL L H H' → Q (.bl true) H'
theorem KpL.stl {Ts : List Addr} {L : Addr} {n : Int} {H H1 H2 : Hp} (a : KpL Ts L H H1) (hL : H1 L = some (.lst [.int n])) (x : StL L H1 H2) : KpL Ts L H H2 := by
  have g := KpL.left a.2 hL x
  exact ⟨fun b o n1 n2 e => g.1 b o n1 n2 (a.1 b o n1 n2 e), g.2⟩
theorem Iv.up {i j m : Nat} {h : List Part} (v : Iv i m h) (e : i ≤ j) : Iv j m h := by
  have h1 := v.size
  have h2 := v.deep
  have h3 := v.hi
  exact ⟨v.iv, by omega, by omega, v.lo, by omega⟩
end Wk

set_option Elab.async false
set_option linter.all false
set_option maxRecDepth 100000
set_option maxHeartbeats 2000000
namespace K19
open PySem PySem.Spec PyProof.Rows L2 Wk GxR
def topS (i : Nat) : Stmt := PySem.Challenge.pw_walkrooms_k19_steps_told.main.body.getD i (.Pass ⟨0, 0, 0, 0⟩)
end K19

set_option Elab.async false
set_option linter.all false
set_option maxRecDepth 100000
set_option maxHeartbeats 2000000
namespace K19
open PySem PySem.Spec PyProof.Rows L2 Wk GxR
abbrev sIsName : Stmt := topS 8
abbrev sCons : Stmt := topS 9
theorem scIN : FnScope ["thing"] ["thing"] (defScope sIsName) := ⟨rfl, rfl, rfl, by decide +kernel, rfl, by decide +kernel, by decide +kernel⟩
theorem scCO : FnScope ["text", "signs"] ["text", "signs"] (defScope sCons) := ⟨rfl, rfl, rfl, by decide +kernel, rfl, by decide +kernel, by decide +kernel⟩
section
variable {P : Program} {w : World} {K : PySem.W.Frag} {mg : Str → Option Value} {base : Heap} {T : Addr} {Ts : List Addr}
theorem ok_cons {f c : Addr} {oc : Value} {od an : Option Addr} {osl : Array (Option Value)} {kV doc pm ct : Value} {k : Nat} {t6 : Tok}
    (l : K.lookup f = some ⟨oc, od, .func (PySem.W.fnOf "consists_of" "consists_of" (defArgs sCons) (defBody sCons) (defScope sCons) .none kV doc pm an (.ref c) ct), osl⟩)
    (hc : PySem.W.codeIn K (.ref c) "consists_of" = true) (TB : GxR.TabB base mg c T) (mT : T ∈ Ts) (ml : mg "len" = none) (ma : mg "all" = none) (mM : mg "MOST_SIGNS" = some (.int 6 t6)) :
    FnOk P w K mg base CX0 (k + 1) f (PySem.W.fnOf "consists_of" "consists_of" (defArgs sCons) (defBody sCons) (defScope sCons) .none kV doc pm an (.ref c) ct) ["text", "signs"] (spWord Ts) := by
  refine fn_of l hc scCO (fun vs H Q E h => ?_) fun A outer s H vs Q E hr h => ?_
  · obtain ⟨z, s, rfl, _⟩ := h
    rfl
  obtain ⟨z, sg, rfl, hz, tg, q⟩ := h
  have free1 : ∀ y ∈ ([(Str.ofString ".0", NameKind.local), (Str.ofString "sign", NameKind.local), (Str.ofString "signs", NameKind.free)] : List (Str × NameKind)), y.2 = NameKind.free →
      ∃ cc, (cxOf CX0 P w K mg base ["text", "signs"] "consists_of" (defScope sCons) f (.ref c) A outer s H E).env.cells.lookup y.1 = some cc := fun y hy e => by
    simp only [List.mem_cons, List.not_mem_nil, or_false] at hy
    rcases hy with rfl | rfl | rfl
    · cases e
    · cases e
    · exact ⟨_, rfl⟩
  refine ⟨_, pss_one (ps_ret (pe_and (pe_chain op_le op_le pe_int (pe_callB call_len_str (by rfl) ml PySem.boot_len (pa_cons (pv 0) pa_nil)) (pe_glob (v := .int 6) (by rfl) mM ⟨_, rfl⟩))
    (pe_one (pe_allC (i := 1) (y := "signs") hr (by rfl) ma (by decide +kernel) TB rfl ⟨rfl, rfl, by decide +kernel, rfl, rfl, free1⟩ rfl rfl (fun _ => rfl) (pv 0) (elt_in rfl rfl rfl) (fun _ => rfl))))), ?_⟩
  refine ⟨.str z, rfl, z, rfl, small hz, 1, z.length, rfl, rfl, _, rfl, ?_⟩
  refine ite2 (fun h1 => ?_) (fun h1 => ?_)
  · have h1' : 1 ≤ z.length := by
      have := of_decide_eq_true h1
      omega
    refine ⟨_, _, rfl, rfl, _, rfl, ite2 (fun h2 => ?_) (fun h2 => ?_)⟩
    · have h2' : z.length ≤ 6 := by
        have := of_decide_eq_true h2
        omega
      refine ⟨.str z, rfl, z, sg, rfl, rfl, tg T mT, fun H2 hT => ?_⟩
      have e : wordB z sg = z.cps.toList.all fun c => decide (c ∈ sg.cps.toList) := by
        unfold wordB
        rw [decide_eq_true h1', decide_eq_true h2', Bool.true_and, Bool.true_and]
      rw [← e]
      exact q H2 (SamTs.tab mT tg hT)
    · have h2' : ¬ z.length ≤ 6 := fun g => h2 (decide_eq_true (by omega))
      have e : wordB z sg = false := by
        unfold wordB
        rw [decide_eq_false h2', Bool.false_and, Bool.and_false]
      have q1 := q H (SamTs.refl tg)
      rw [e] at q1
      exact q1
  · have h1' : ¬ 1 ≤ z.length := fun g => h1 (decide_eq_true (by omega))
    have e : wordB z sg = false := by
      unfold wordB
      rw [decide_eq_false h1', Bool.false_and]
    have q1 := q H (SamTs.refl tg)
    rw [e] at q1
    exact ⟨_, rfl, iteF q1⟩
theorem ok_name {f fC aT : Addr} {fd fdC : FuncData} {tL : Tok} (F : Fun K "is_name" "is_name" sIsName f fd) (GC : FnOk P w K mg base CX0 1 fC fdC ["text", "signs"] (spWord Ts)) (bC : Binds K fdC ["text", "signs"] []) (kC : PySem.W.keepIn K (.ref fC) = true)
    (mC : mg "consists_of" = some (.ref fC)) (mi : mg "isinstance" = none) (ms : mg "str" = none) (mT : mg "TAKEN_WORDS" = some (.ref aT)) (hT : ∀ H, SqT K H aT takenV) (mL : mg "LETTERS" = some (.str abc tL)) :
    FnOk P w K mg base CX0 2 f fd ["thing"] (spName Ts nmV) := by
  refine F.ok scIN (fun vs H Q E h => ?_) (fun cdv A outer s H vs Q E hr h => ?_)
  · obtain ⟨v, rfl, _⟩ := h
    rfl
  obtain ⟨v, rfl, th, tg, q⟩ := h
  refine ⟨_, pss_cons (ps_if (PW.pt (pw_or (pt_not (pt_val (pe_callB call_isi (by rfl) mi (by decide +kernel) (pa_cons (pv 0) (pa_cons (pe_bltn (v := .ty "str") (by rfl) ms (by decide +kernel) rfl) pa_nil)))))
      (pw_or1 (pt_cmpR op_in_seq (pv 0) (pe_glob (v := .ref aT) (by rfl) mT rfl) rfl)))) (pss_one (ps_ret pe_bl)) pss_nil)
    (pss_one (ps_ret (pe_call GC hr (by rfl) mC kC bC .nil pass0 (pa_cons (pv 0) (pa_cons (pe_glob (v := .str abc) (by rfl) mL ⟨_, rfl⟩) pa_nil))))), ?_⟩
  obtain ⟨t, hty, hk⟩ := th.ty (K := K)
  refine ⟨v, rfl, v, .ty "str", .type t, .type "str", strish v, rfl, .ty "str", hty, hk, _, rfl, ?_⟩
  rcases th.cases with ⟨z, rfl, hz⟩ | ⟨e1, e2⟩
  · refine iteF ?_
    refine ⟨.str z, rfl, aT, takenV, rfl, .inr (hT H), rfl, rfl, _, rfl, ite2 (fun h => ?_) (fun h => ?_)⟩
    · have e : nmV (.str z) = false := by
        show nameB z = false
        unfold nameB
        rw [show inV (.str z) takenV = true from h, Bool.not_true, Bool.false_and]
      have q1 := q H (SamTs.refl tg)
      rw [e] at q1
      exact q1
    · have h' : inV (.str z) takenV = false := Bool.eq_false_iff.mpr h
      have e : nmV (.str z) = wordB z abc := by
        show nameB z = _
        unfold nameB
        rw [h', Bool.not_false, Bool.true_and]
      refine ⟨.str z, rfl, z, abc, rfl, hz, tg, fun H' x => ?_⟩
      have q1 := q H' x
      rw [e] at q1
      exact q1
  · rw [e1]
    refine iteT ?_
    have q1 := q H (SamTs.refl tg)
    rw [e2] at q1
    exact q1
end
end K19

set_option Elab.async false
set_option linter.all false
set_option maxRecDepth 100000
set_option maxHeartbeats 2000000
namespace K19
open PySem PySem.Spec PyProof.Rows L2 Wk GxR
abbrev sRest : Stmt := topS 16
theorem scRest : FnScope ["part"] ["part"] (defScope sRest) := ⟨rfl, rfl, rfl, by decide +kernel, rfl, by decide +kernel, by decide +kernel⟩
abbrev sCalling : Stmt := topS 15
abbrev sCallings : Stmt := topS 25
abbrev sGather : Stmt := topS 26
theorem scCalling : FnScope ["part"] ["part"] (defScope sCalling) := ⟨rfl, rfl, rfl, by decide +kernel, rfl, by decide +kernel, by decide +kernel⟩
theorem scGather : FnScope ["row", "around", "free", "bound", "part", "calling", "within"] ["row", "around", "free", "bound"] (defScope sGather) := ⟨rfl, rfl, rfl, by decide +kernel, rfl, by decide +kernel, by decide +kernel⟩
theorem scCallings : FnScope ["row", "free", "bound"] ["row"] (defScope sCallings) := ⟨rfl, rfl, rfl, by decide +kernel, rfl, by decide +kernel, by decide +kernel⟩
theorem atI_last {xs : List V} {k : Nat} {y : V} (hl : xs.length = k + 1) (h : xs[k]? = some y) : atI xs (-1) = some y := by
  unfold atI ixN
  rw [if_neg (by omega), if_pos (by omega), show ((-1 : Int) + (xs.length : Int)).toNat = k by omega]
  exact h
section
variable {P : Program} {w : World} {K : PySem.W.Frag} {mg : Str → Option Value} {base : Heap}
theorem ok_rest {f : Addr} {fd : FuncData} {k : Nat} (F : Fun K "rest_of" "rest_of" sRest f fd) : FnOk P w K mg base CX0 (k + 1) f fd ["part"] spRest := by
  refine F.ok scRest (fun vs H Q E h => ?_) (fun cdv A outer s H vs Q E hr h => ?_)
  · obtain ⟨_, _, rfl, _⟩ := h
    rfl
  obtain ⟨v, p, rfl, hp, q⟩ := h
  refine ⟨_, pss_one (ps_ret (pe_ifExp (pt_cmpR op_eq (pe_ix ix_tup (pv 0) pe_int (fun _ _ => rfl)) pe_str (nomark _)) (pe_tup pa_nil) (pe_ix ix_tup (pv 0) (pe_un un_neg pe_int) (fun _ _ => rfl)))), ?_⟩
  cases p with
  | say n =>
    obtain ⟨a, rfl, ha⟩ := hp
    refine ⟨_, rfl, a, _, 0, _, rfl, rfl, SqT.of ha, atI_nat (j := 0) rfl, rfl, _, rfl, iteT ?_⟩
    refine ⟨(show 0 ≤ sizeLine by decide), fun t nt => q _ _ (same_new nt) ⟨t, [], rfl, upd_same, rfl⟩⟩
  | again r =>
    obtain ⟨a, b, xs, rfl, ha, hb, hps⟩ := hp
    refine ⟨_, rfl, a, _, 0, _, rfl, rfl, SqT.of ha, atI_nat (j := 0) rfl, rfl, _, rfl, iteD (by decide +kernel) ?_⟩
    exact ⟨_, rfl, _, rfl, a, _, -1, _, rfl, rfl, SqT.of ha, atI_last (k := 1) rfl rfl, q _ _ (fun _ _ e => e) ⟨b, xs, rfl, hb, hps⟩⟩
  | oth w n r =>
    obtain ⟨a, b, xs, rfl, ha, hb, hps⟩ := hp
    refine ⟨_, rfl, a, _, 0, _, rfl, rfl, SqT.of ha, atI_nat (j := 0) rfl, rfl, _, rfl, iteD (wd_say w) ?_⟩
    exact ⟨_, rfl, _, rfl, a, _, -1, _, rfl, rfl, SqT.of ha, atI_last (k := 2) rfl rfl, q _ _ (fun _ _ e => e) ⟨b, xs, rfl, hb, hps⟩⟩
theorem ok_calling {f : Addr} {fd : FuncData} {k : Nat} (F : Fun K "calling_of" "calling_of" sCalling f fd) : FnOk P w K mg base CX0 (k + 1) f fd ["part"] spCalling := by
  refine F.ok scCalling (fun vs H Q E h => ?_) (fun cdv A outer s H vs Q E hr h => ?_)
  · obtain ⟨_, _, rfl, _⟩ := h
    rfl
  obtain ⟨v, p, rfl, hp, q⟩ := h
  refine ⟨_, pss_one (ps_ret (pe_ifExp (pt_cmpR op_eq (pe_ix ix_tup (pv 0) pe_int (fun _ _ => rfl)) pe_str (nomark _)) pe_non (pe_ix ix_tup (pv 0) pe_int (fun _ _ => rfl)))), ?_⟩
  cases p with
  | say n =>
    obtain ⟨a, rfl, ha⟩ := hp
    refine ⟨_, rfl, a, _, 0, _, rfl, rfl, SqT.of ha, atI_nat (j := 0) rfl, rfl, _, rfl, iteD say_again ?_⟩
    exact ⟨_, rfl, a, _, 1, _, rfl, rfl, SqT.of ha, atI_nat (j := 1) rfl, q⟩
  | again r =>
    obtain ⟨a, b, xs, rfl, ha, hb, hps⟩ := hp
    exact ⟨_, rfl, a, _, 0, _, rfl, rfl, SqT.of ha, atI_nat (j := 0) rfl, rfl, _, rfl, iteU (by decide +kernel) q⟩
  | oth w n r =>
    obtain ⟨a, b, xs, rfl, ha, hb, hps⟩ := hp
    refine ⟨_, rfl, a, _, 0, _, rfl, rfl, SqT.of ha, atI_nat (j := 0) rfl, rfl, _, rfl, iteD (wd_again w) ?_⟩
    exact ⟨_, rfl, a, _, 1, _, rfl, rfl, SqT.of ha, atI_nat (j := 1) rfl, q⟩
abbrev ps4g : List Str := ["row", "around", "free", "bound"]
theorem ok_gather {f fC fB fR : Addr} {fd fdC fdB fdR : FuncData} {n : Nat} (F : Fun K "gather_callings" "gather_callings" sGather f fd)
    (GC : FnOk P w K mg base CX0 1 fC fdC ["part"] spCalling) (bC : Binds K fdC ["part"] []) (kC : PySem.W.keepIn K (.ref fC) = true) (mC : mg "calling_of" = some (.ref fC))
    (GB : FnOk P w K mg base CX0 1 fB fdB ["part"] spBinder) (bB : Binds K fdB ["part"] []) (kB : PySem.W.keepIn K (.ref fB) = true) (mB : mg "is_binder" = some (.ref fB))
    (GR : FnOk P w K mg base CX0 1 fR fdR ["part"] spRest) (bR : Binds K fdR ["part"] []) (kR : PySem.W.keepIn K (.ref fR) = true) (mR : mg "rest_of" = some (.ref fR))
    (G : FnOk P w K mg base CX0 (n + 1) f fd ps4g (spGather n)) (bF : Binds K fd ps4g []) (mF : mg "gather_callings" = some (.ref f)) : FnOk P w K mg base CX0 (n + 1 + 1) f fd ps4g (spGather (n + 1)) := by
  refine F.ok scGather (fun vs H Q E h => ?_) (fun cdv A outer s H vs Q E hr h => ?_)
  · obtain ⟨_, _, _, _, _, _, _, _, rfl, _⟩ := h
    rfl
  obtain ⟨v, r, aS, Fl, Bl, S, fs, bs, rfl, hR, hS, hF, hB, hne, hd, hsf, hsb, hsS, q⟩ := h
  have hr1 : Room 1 _ := hr.mono (by omega)
  refine ⟨_, pss_one (ps_for PassesOwn.never rfl (pi_tup (pv 0)) (pg_name (i := 4) scGather.nd rfl (.inl rfl))
    (pss_cons (ps_set (i := 5) scGather.nd rfl (.inl rfl) (pe_call GC hr1 (by rfl) mC kC bC .nil pass0 (pa_cons (pv 4) pa_nil)))
    (pss_cons (ps_set (i := 6) scGather.nd rfl (.inl rfl) (pv 1))
    (C8.pss_cut (ps_if (pt_val (pe_call GB hr1 (by rfl) mB kB bB .nil pass0 (pa_cons (pv 4) pa_nil)))
      (pss_cons (ps_expr (pe_bm PySem.F.plainAttrs_list PySem.F.slot_list_append PySem.F.type_list_append mt_append (pv 3) (pa_cons (pv 5) pa_nil)))
        (pss_one (ps_set (i := 6) scGather.nd rfl (.inl rfl) (pe_op op_catA (pv 1) (pe_tup (pa_cons (pv 5) pa_nil))))))
      (pss_one (ps_if (PW.pt (pw_and (pt_cmp (pc_notN (pv 5))) (pw_and1 (pt_cmpR op_notIn_seq (pv 5) (pv 1) rfl)))) (pss_one (ps_expr (pe_bm PySem.F.plainAttrs_list PySem.F.slot_list_append PySem.F.type_list_append mt_append (pv 2) (pa_cons (pv 5) pa_nil)))) pss_nil)))
    (pss_one (ps_expr (pe_call G hr (by rfl) mF F.kp bF .nil pass0 (pa_cons (pe_call GR hr1 (by rfl) mR kR bR .nil pass0 (pa_cons (pv 4) pa_nil)) (pa_cons (pv 6) (pa_cons (pv 2) (pa_cons (pv 3) pa_nil))))))))))), ?_⟩
  obtain ⟨a, xs, rfl, ha, hps⟩ := hR
  have lx := PartsAt.len hps
  refine ⟨_, rfl, a, rfl, ⟨_, SqT.of ha⟩, for_it (walk_tup (xs := xs)) (fun i σ H' => Sam2 Fl Bl H H' ∧ H' Fl = some (.lst ((fs ++ frR S (r.take i)).map V.str)) ∧ H' Bl = some (.lst ((bs ++ bdR (r.take i)).map V.str)) ∧
      ∃ s4 s5 s6 : Option V, σ = [some (.ref a), some (.ref aS), some (.ref Fl), some (.ref Bl), s4, s5, s6])
    ⟨fun _ _ _ _ e => e, by simpa [frR] using hF, by simpa [bdR] using hB, _, _, _, rfl⟩ (fun i σ H' _ hP => SqT.of (hP.1.tup hF hB _ _ ha)) (fun i y σ H1 H2 hi hP hY => ?_) (fun σ H' hP => ?_)⟩
  · obtain ⟨rfl, hy⟩ := hY
    obtain ⟨sm, hF1, hB1, s4, s5, s6, rfl⟩ := hP
    obtain ⟨p, hp, hpa⟩ := PartsAt.get hps hy
    have pm : p ∈ r := List.mem_of_getElem? hp
    have d1 := deepR.mem p pm
    have d2 := deep_rest p
    have st := sm.tup hF hB
    have hpa2 := PartAt.mono st p y hpa
    have hS2 := st _ _ hS
    have tk : r.take (i + 1) = r.take i ++ [p] := by rw [List.take_add_one, hp]; rfl
    have z1 := sizeR_take r (i + 1)
    rw [tk, sizeR_app] at z1
    have z2 : sizeR [p] = sizeP p := by show sizeP p + 0 = sizeP p; omega
    have z3 := size_rest p
    have lf := frR_len (r.take i) S
    have lb := bdR_len (r.take i)
    refine ⟨_, rfl, y, p, rfl, hpa2, ?_⟩
    refine ⟨_, rfl, ?_⟩
    refine ⟨fun σ' H' => ∃ aW, σ' = [some (.ref a), some (.ref aS), some (.ref Fl), some (.ref Bl), some y, some (callP p), some (.ref aW)] ∧ Sam2 Fl Bl H2 H' ∧ H' aW = some (.tup ((inP S p).map V.str)) ∧
      H' Fl = some (.lst ((fs ++ frR S (r.take i) ++ fhP S p).map V.str)) ∧ H' Bl = some (.lst ((bs ++ bdR (r.take i) ++ bhP p).map V.str)), ?_, fun σ' H3 hm => ?_⟩
    · refine ⟨_, rfl, y, p, rfl, hpa2, _, rfl, ?_⟩
      have bF1 : ((fs ++ frR S (r.take i)).map V.str).length < sizeLine := by
        rw [List.length_map, List.length_append]; exact small1000 (by omega)
      have bB1 : ((bs ++ bdR (r.take i)).map V.str).length < sizeLine := by
        rw [List.length_map, List.length_append]; exact small1000 (by omega)
      -- a calling that is not bound by its part
      have go : ∀ m : Str, callP p = .str m → inP S p = S → bhP p = [] → fhP S p = (if m ∈ S then [] else [m]) →
          (fun σ' H' => ∃ aW, σ' = [some (.ref a), some (.ref aS), some (.ref Fl), some (.ref Bl), some y, some (callP p), some (.ref aW)] ∧ Sam2 Fl Bl H2 H' ∧ H' aW = some (.tup ((inP S p).map V.str)) ∧
            H' Fl = some (.lst ((fs ++ frR S (r.take i) ++ fhP S p).map V.str)) ∧ H' Bl = some (.lst ((bs ++ bdR (r.take i) ++ bhP p).map V.str)) : L2.St → Hp → Prop)
            [some (.ref a), some (.ref aS), some (.ref Fl), some (.ref Bl), some y, some (callP p), some (.ref aS)] (if m ∈ S then H2 else upd H2 Fl (.lst ((fs ++ frR S (r.take i)).map V.str ++ [.str m]))) := by
        intro m e1 e2 e3 e4
        refine ⟨aS, rfl, ?_, ?_, ?_, ?_⟩
        · split
          · exact fun _ _ _ _ e => e
          · exact fun b o n1 _ e => by rw [upd_ne n1]; exact e
        · rw [e2]
          split
          · exact hS2
          · rw [upd_ne (fun z => by rw [z, hF1] at hS2; cases hS2)]; exact hS2
        · rw [e4]
          split
          · rw [List.append_nil]; exact hF1
          · rw [upd_same]; simp
        · rw [e3, List.append_nil]
          split
          · exact hB1
          · rw [upd_ne (Ne.symm hne)]; exact hB1
      cases p with
      | say m =>
        refine iteF ?_
        refine ⟨_, rfl, _, rfl, iteU rfl ?_⟩
        refine ⟨_, rfl, _, rfl, aS, _, rfl, .inr (SqT.of hS2), rfl, Wk.flat_strs S, _, rfl, ite2 (fun e => ?_) (fun e => ?_)⟩
        · have e : m ∉ S := by
            have z : (!inV (.str m) (S.map V.str)) = true := e
            rw [inV_strs] at z
            simpa using z
          have g := go m rfl rfl rfl rfl
          rw [if_neg e] at g
          exact ⟨_, rfl, .inl ⟨rfl, _, SqL.of hF1⟩, _, rfl, Fl, _, _, rfl, rfl, hF1, bF1, g⟩
        · have e : m ∈ S := by
            have z : ¬ (!inV (.str m) (S.map V.str)) = true := e
            rw [inV_strs] at z
            simpa using z
          have g := go m rfl rfl rfl rfl
          rw [if_pos e] at g
          exact g
      | again r' =>
        refine iteF ?_
        refine ⟨_, rfl, _, rfl, iteF ?_⟩
        exact ⟨aS, rfl, fun _ _ _ _ e => e, hS2, by rw [show fhP S (.again r') = [] from rfl, List.append_nil]; exact hF1, by rw [show bhP (.again r') = [] from rfl, List.append_nil]; exact hB1⟩
      | oth wd m r' =>
        refine ite2 (fun hw => ?_) (fun hw => ?_)
        · have hw : wd.binds = true := hw
          have e1 : inP S (.oth wd m r') = S ++ [m] := if_pos hw
          have e2 : fhP S (.oth wd m r') = [] := if_pos hw
          have e3 : bhP (.oth wd m r') = [m] := if_pos hw
          refine ⟨_, rfl, .inl ⟨rfl, _, SqL.of hB1⟩, _, rfl, Bl, _, _, rfl, rfl, hB1, bB1, ?_⟩
          have nSB : aS ≠ Bl := fun z => by rw [z, hB1] at hS2; cases hS2
          have hS3 : upd H2 Bl (.lst ((bs ++ bdR (r.take i)).map V.str ++ [.str m])) aS = some (.tup (S.map V.str)) := by rw [upd_ne nSB]; exact hS2
          refine ⟨_, rfl, _, rfl, (show 1 ≤ sizeLine by decide), fun t nt => ?_⟩
          have sm3 : Sam2 Fl Bl H2 (upd (upd H2 Bl (.lst ((bs ++ bdR (r.take i)).map V.str ++ [.str m]))) t (.tup [.str m])) := fun b o n1 n2 e => kn (by rw [upd_ne n2]; exact e) nt
          have hF3 : upd (upd H2 Bl (.lst ((bs ++ bdR (r.take i)).map V.str ++ [.str m]))) t (.tup [.str m]) Fl = some (.lst ((fs ++ frR S (r.take i)).map V.str)) := kn (by rw [upd_ne hne]; exact hF1) nt
          have hB3 : upd (upd H2 Bl (.lst ((bs ++ bdR (r.take i)).map V.str ++ [.str m]))) t (.tup [.str m]) Bl = some (.lst ((bs ++ bdR (r.take i)).map V.str ++ [.str m])) := kn upd_same nt
          refine ⟨aS, t, _, _, rfl, rfl, SqT.of (kn hS3 nt), SqT.of upd_same, by rw [List.length_map]; exact small (by show S.length + 1 ≤ 1000; omega), fun e => ?_, (fun _ e => by cases e), fun _ _ u nu => ?_⟩
          · have e : S = [] := List.map_eq_nil_iff.mp e
            refine ⟨t, rfl, sm3, ?_, ?_, ?_⟩
            · rw [e1, e]; exact upd_same
            · rw [e2, List.append_nil]; exact hF3
            · rw [e3]; exact hB3.trans (by simp)
          · refine ⟨u, rfl, fun b o n1 n2 e => kn (sm3 b o n1 n2 e) nu, ?_, ?_, ?_⟩
            · rw [e1]; exact upd_same.trans (by show _ = some (HO.tup ((S ++ [m]).map V.str)); rw [List.map_append]; rfl)
            · rw [e2, List.append_nil]; exact kn hF3 nu
            · rw [e3]; exact (kn hB3 nu).trans (by simp)
        · have hw : ¬ wd.binds = true := hw
          have e1 : inP S (.oth wd m r') = S := if_neg hw
          have e2 : fhP S (.oth wd m r') = if m ∈ S then [] else [m] := if_neg hw
          have e3 : bhP (.oth wd m r') = [] := if_neg hw
          refine ⟨_, rfl, _, rfl, iteU rfl ?_⟩
          refine ⟨_, rfl, _, rfl, aS, _, rfl, .inr (SqT.of hS2), rfl, Wk.flat_strs S, _, rfl, ite2 (fun e => ?_) (fun e => ?_)⟩
          · have e : m ∉ S := by
              have z : (!inV (.str m) (S.map V.str)) = true := e
              rw [inV_strs] at z
              simpa using z
            have g := go m rfl e1 e3 e2
            rw [if_neg e] at g
            exact ⟨_, rfl, .inl ⟨rfl, _, SqL.of hF1⟩, _, rfl, Fl, _, _, rfl, rfl, hF1, bF1, g⟩
          · have e : m ∈ S := by
              have z : ¬ (!inV (.str m) (S.map V.str)) = true := e
              rw [inV_strs] at z
              simpa using z
            have g := go m rfl e1 e3 e2
            rw [if_pos e] at g
            exact g
    · obtain ⟨aW, rfl, sm3, hW, hF3, hB3⟩ := hm
      have hpa3 := PartAt.mono (sm3.tup hF1 hB1) p y hpa2
      have lh := fhP_len S p
      have lbh := bhP_len p
      have li := inP_len S p
      refine ⟨_, rfl, y, p, rfl, hpa3, fun H4 u sm4 hu => ?_⟩
      refine ⟨_, rfl, _, rfl, _, rfl, u, restP p, aW, Fl, Bl, inP S p, fs ++ frR S (r.take i) ++ fhP S p, bs ++ bdR (r.take i) ++ bhP p, rfl, hu, sm4 _ _ hW, sm4 _ _ hF3, sm4 _ _ hB3, hne, by omega, ?_, ?_, by omega, fun H5 sm5 hF5 hB5 => ?_⟩
      · rw [List.length_append, List.length_append]; omega
      · rw [List.length_append, List.length_append]; omega
      · refine ⟨sm.trans (sm3.trans ((Sam2.of sm4).trans sm5)), ?_, ?_, _, _, _, rfl⟩
        · rw [hF5, tk, frR_app, show frR S [p] = frP S p ++ [] from rfl, List.append_nil, frP_eq S p]
          simp only [List.append_assoc]
        · rw [hB5, tk, bdR_app, show bdR [p] = bdP p ++ [] from rfl, List.append_nil, bdP_eq p]
          simp only [List.append_assoc]
  · obtain ⟨sm, hF1, hB1, s4, s5, s6, rfl⟩ := hP
    rw [lx, List.take_length] at hF1 hB1
    exact q H' sm hF1 hB1
theorem gather_none {f : Addr} {fd : FuncData} {k : Nat} : FnOk P w K mg base CX0 k f fd ps4g (spGather 0) := by
  have no : ∀ vs H Q E, ¬ spGather 0 vs H Q E := fun vs H Q E h => by
    obtain ⟨_, _, _, _, _, _, _, _, _, _, _, _, _, _, h1, _⟩ := h
    omega
  exact ⟨fun vs H Q E h => absurd h (no vs H Q E), fun A outer s H args us vs Q E _ _ _ _ h => absurd h (no vs H Q E)⟩
theorem gather_ok {f fC fB fR : Addr} {fd fdC fdB fdR : FuncData} (F : Fun K "gather_callings" "gather_callings" sGather f fd)
    (GC : FnOk P w K mg base CX0 1 fC fdC ["part"] spCalling) (bC : Binds K fdC ["part"] []) (kC : PySem.W.keepIn K (.ref fC) = true) (mC : mg "calling_of" = some (.ref fC))
    (GB : FnOk P w K mg base CX0 1 fB fdB ["part"] spBinder) (bB : Binds K fdB ["part"] []) (kB : PySem.W.keepIn K (.ref fB) = true) (mB : mg "is_binder" = some (.ref fB))
    (GR : FnOk P w K mg base CX0 1 fR fdR ["part"] spRest) (bR : Binds K fdR ["part"] []) (kR : PySem.W.keepIn K (.ref fR) = true) (mR : mg "rest_of" = some (.ref fR))
    (bF : Binds K fd ps4g []) (mF : mg "gather_callings" = some (.ref f)) : ∀ n : Nat, FnOk P w K mg base CX0 (n + 1) f fd ps4g (spGather n)
  | 0 => gather_none
  | n + 1 => ok_gather F GC bC kC mC GB bB kB mB GR bR kR mR (gather_ok F GC bC kC mC GB bB kB mB GR bR kR mR bF mF n) bF mF
theorem ok_callings {f fG : Addr} {fd fdG : FuncData} {n : Nat} (F : Fun K "callings_of" "callings_of" sCallings f fd)
    (G : FnOk P w K mg base CX0 (n + 1) fG fdG ps4g (spGather n)) (bG : Binds K fdG ps4g []) (kG : PySem.W.keepIn K (.ref fG) = true) (mG : mg "gather_callings" = some (.ref fG)) : FnOk P w K mg base CX0 (n + 1 + 1) f fd ["row"] (spCallings n) := by
  refine F.ok scCallings (fun vs H Q E h => ?_) (fun cdv A outer s H vs Q E hr h => ?_)
  · obtain ⟨_, _, rfl, _⟩ := h
    rfl
  obtain ⟨v, r, rfl, hR, hd, hs, hd2, q⟩ := h
  refine ⟨_, pss_cons (ps_set (i := 1) scCallings.nd rfl (.inl rfl) (pe_lst pa_nil)) (pss_cons (ps_set (i := 2) scCallings.nd rfl (.inl rfl) (pe_lst pa_nil))
    (pss_cons (ps_expr (pe_call G hr (by rfl) mG kG bG .nil pass0 (pa_cons (pv 0) (pa_cons (pe_tup pa_nil) (pa_cons (pv 1) (pa_cons (pv 2) pa_nil))))))
    (pss_one (ps_ret (pe_tup (pa_cons (pv 1) (pa_cons (pv 2) pa_nil))))))), ?_⟩
  refine ⟨(show 0 ≤ sizeLine by decide), fun Fl nF => ?_⟩
  refine ⟨(show 0 ≤ sizeLine by decide), fun Bl nB => ?_⟩
  have hne : Fl ≠ Bl := fun z => by rw [← z, upd_same] at nB; cases nB
  have nB0 : H Bl = none := by rw [← nB, upd_ne (Ne.symm hne)]
  refine ⟨_, rfl, (show 0 ≤ sizeLine by decide), fun t nt => ?_⟩
  have k3 : ∀ b o, H b = some o → upd (upd (upd H Fl (.lst [])) Bl (.lst [])) t (.tup []) b = some o := fun b o e => kn (kn (kn e nF) nB) nt
  refine ⟨_, rfl, _, rfl, v, r, t, Fl, Bl, [], [], [], rfl, RowAt.mono (fun a xs e => k3 a _ e) hR, upd_same, kn (kn upd_same nB) nt, kn upd_same nt, hne, hd, hs, hs, by simpa using hd2, fun H' sm hF hB => ?_⟩
  refine ⟨_, rfl, _, rfl, (show 2 ≤ sizeLine by decide), fun u nu => ?_⟩
  refine q _ u Fl Bl (fun b o e => kn (sm b o (fun z => by rw [z, nF] at e; cases e) (fun z => by rw [z, nB0] at e; cases e) (k3 b o e)) nu) nF nB0 hne upd_same (kn hF nu) (kn hB nu)
end
end K19

set_option Elab.async false
set_option linter.all false
set_option maxRecDepth 100000
set_option maxHeartbeats 2000000
namespace K19
open PySem PySem.Spec PyProof.Rows L2 Wk
abbrev sBinder : Stmt := topS 17
abbrev sCalled : Stmt := topS 27
abbrev sPCalled : Stmt := topS 28
theorem scBinder : FnScope ["part"] ["part"] (defScope sBinder) := ⟨rfl, rfl, rfl, by decide +kernel, rfl, by decide +kernel, by decide +kernel⟩
theorem scCalled : FnScope ["row", "x", "calling", "part"] ["row", "x", "calling"] (defScope sCalled) := ⟨rfl, rfl, rfl, by decide +kernel, rfl, by decide +kernel, by decide +kernel⟩
theorem scPCalled : FnScope ["part", "x", "calling", "word", "name"] ["part", "x", "calling"] (defScope sPCalled) := ⟨rfl, rfl, rfl, by decide +kernel, rfl, by decide +kernel, by decide +kernel⟩
section
variable {P : Program} {w : World} {K : PySem.W.Frag} {mg : Str → Option Value} {base : Heap}
theorem ok_binder {f aB : Addr} {fd : FuncData} {k : Nat} (F : Fun K "is_binder" "is_binder" sBinder f fd) (mB : mg "BINDING_WORDS" = some (.ref aB)) (hB : ∀ H, SqT K H aB bindV) : FnOk P w K mg base CX0 (k + 1) f fd ["part"] spBinder := by
  refine F.ok scBinder (fun vs H Q E h => ?_) (fun cdv A outer s H vs Q E hr h => ?_)
  · obtain ⟨_, _, rfl, _⟩ := h
    rfl
  obtain ⟨v, p, rfl, hp, q⟩ := h
  refine ⟨_, pss_one (ps_ret (pe_cmpR op_in_seq (pe_ix ix_tup (pv 0) pe_int (fun _ _ => rfl)) (pe_glob (v := .ref aB) (by rfl) mB rfl) rfl)), ?_⟩
  obtain ⟨a, xs, rfl, ha, h0⟩ := hp.word
  refine ⟨_, rfl, a, xs, 0, _, rfl, rfl, SqT.of ha, atI_nat (j := 0) h0, aB, bindV, rfl, .inr (hB _), rfl, rfl, ?_⟩
  have e : inV (.str (wordP p)) bindV = bindsP p := inV_binds p
  show Q (.bl (inV (.str (wordP p)) bindV)) H
  rw [e]
  exact q
abbrev ps3 : List Str := ["row", "x", "calling"]
abbrev ps3p : List Str := ["part", "x", "calling"]
theorem ok_pcalled {f fB fC : Addr} {fd fdB fdC : FuncData} {n : Nat} (F : Fun K "part_called" "part_called" sPCalled f fd) (GB : FnOk P w K mg base CX0 1 fB fdB ["part"] spBinder) (bB : Binds K fdB ["part"] []) (kB : PySem.W.keepIn K (.ref fB) = true) (mB : mg "is_binder" = some (.ref fB))
    (GC : FnOk P w K mg base CX0 (2 * n + 1) fC fdC ps3 (spCalled n)) (bC : Binds K fdC ps3 []) (kC : PySem.W.keepIn K (.ref fC) = true) (mC : mg "called" = some (.ref fC)) : FnOk P w K mg base CX0 (2 * n + 1 + 1) f fd ps3p (spPCalled n) := by
  refine F.ok scPCalled (fun vs H Q E h => ?_) (fun cdv A outer s H vs Q E hr h => ?_)
  · obtain ⟨_, _, _, _, rfl, _⟩ := h
    rfl
  obtain ⟨v, x, c, p, rfl, hp, hd, q⟩ := h
  have hr1 : Room 1 _ := hr.mono (by omega)
  refine ⟨_, pss_cons (ps_set (i := 3) scPCalled.nd rfl (.inl rfl) (pe_ix ix_tup (pv 0) pe_int (fun _ _ => rfl)))
    (pss_cons (ps_if (pt_cmpR op_eq (pv 3) pe_str (nomark _)) (pss_one (ps_ret (pe_tup (pa_cons (pv 3) (pa_cons (pe_call GC hr (by rfl) mC kC bC .nil pass0 (pa_cons (pe_ix ix_tup (pv 0) pe_int (fun _ _ => rfl)) (pa_cons (pv 1) (pa_cons (pv 2) pa_nil)))) pa_nil))))) pss_nil)
    (pss_cons (ps_if (PW.pt (pw_and (pt_val (pe_call GB hr1 (by rfl) mB kB bB .nil pass0 (pa_cons (pv 0) pa_nil))) (pw_and1 (pt_cmpR op_eq (pe_ix ix_tup (pv 0) pe_int (fun _ _ => rfl)) (pv 1) (nomark _))))) (pss_one (ps_ret (pv 0))) pss_nil)
    (pss_cons (ps_set (i := 4) scPCalled.nd rfl (.inl rfl) (pe_ifExp (pt_cmpR op_eq (pe_ix ix_tup (pv 0) pe_int (fun _ _ => rfl)) (pv 1) (nomark _)) (pv 2) (pe_ix ix_tup (pv 0) pe_int (fun _ _ => rfl))))
    (pss_cons (ps_if (pt_cmpR op_eq (pv 3) pe_str (nomark _)) (pss_one (ps_ret (pe_tup (pa_cons (pv 3) (pa_cons (pv 4) pa_nil))))) pss_nil)
    (pss_one (ps_ret (pe_tup (pa_cons (pv 3) (pa_cons (pv 4) (pa_cons (pe_call GC hr (by rfl) mC kC bC .nil pass0 (pa_cons (pe_ix ix_tup (pv 0) pe_int (fun _ _ => rfl)) (pa_cons (pv 1) (pa_cons (pv 2) pa_nil)))) pa_nil))))))))))
    , ?_⟩
  cases p with
  | say n =>
    obtain ⟨a, rfl, ha⟩ := hp
    refine ⟨_, rfl, a, _, 0, _, rfl, rfl, SqT.of ha, atI_nat (j := 0) rfl, ?_⟩
    refine ⟨_, rfl, rfl, _, rfl, iteD say_again ?_⟩
    refine ⟨_, rfl, _, .say n, rfl, ⟨a, rfl, ha⟩, _, rfl, iteF ?_⟩
    refine ⟨_, rfl, a, _, 1, _, rfl, rfl, SqT.of ha, atI_nat (j := 1) rfl, _, rfl, rfl, _, rfl, ite2 (fun e => ?_) (fun e => ?_)⟩
    · refine ⟨_, rfl, ?_⟩
      refine ⟨_, rfl, rfl, _, rfl, iteT ?_⟩
      refine ⟨_, rfl, _, rfl, (show 2 ≤ sizeLine by decide), fun t nt => q _ _ (same_new nt) ?_⟩
      unfold calledP
      rw [if_pos (str_eq e)]
      exact ⟨t, rfl, upd_same⟩
    · refine ⟨_, rfl, a, _, 1, _, rfl, rfl, SqT.of ha, atI_nat (j := 1) rfl, ?_⟩
      refine ⟨_, rfl, rfl, _, rfl, iteT ?_⟩
      refine ⟨_, rfl, _, rfl, (show 2 ≤ sizeLine by decide), fun t nt => q _ _ (same_new nt) ?_⟩
      unfold calledP
      rw [if_neg (str_ne e)]
      exact ⟨t, rfl, upd_same⟩
  | again r =>
    obtain ⟨a, b, xs, rfl, ha, hb, hps⟩ := hp
    refine ⟨_, rfl, a, _, 0, _, rfl, rfl, SqT.of ha, atI_nat (j := 0) rfl, ?_⟩
    refine ⟨_, rfl, rfl, _, rfl, iteT ?_⟩
    have hd1 : deepR r + 1 ≤ n := hd.1
    have hs1 : sizeR r + 1 ≤ 1000 := hd.2
    refine ⟨_, rfl, _, rfl, a, _, 1, _, rfl, rfl, SqT.of ha, atI_nat (j := 1) rfl, _, rfl, _, rfl, .ref b, x, c, r, rfl, ⟨b, xs, rfl, hb, hps⟩, by omega, by have := len_sizeR r; omega, by omega, fun H' u sm hu => ?_⟩
    obtain ⟨b', ys, rfl, hb', hps'⟩ := hu
    refine ⟨(show 2 ≤ sizeLine by decide), fun t nt => q _ _ (sm.trans (same_new nt)) ?_⟩
    exact ⟨t, b', ys, rfl, upd_same, kn hb' nt, PartsAt.mono (STup.new nt) _ _ hps'⟩
  | oth w n r =>
    obtain ⟨a, b, xs, rfl, ha, hb, hps⟩ := hp
    have hd1 : deepR r + 1 ≤ _ := hd.1
    have hs1 : sizeR r + 1 ≤ 1000 := hd.2
    refine ⟨_, rfl, a, _, 0, _, rfl, rfl, SqT.of ha, atI_nat (j := 0) rfl, ?_⟩
    refine ⟨_, rfl, rfl, _, rfl, iteD (wd_again w) ?_⟩
    -- the rest, where the part does not bind x
    have go : ¬ (w.binds = true ∧ n = x) → ∀ (nm : Str), nm = (if n = x then c else n) → ∀ (H' : Hp) (u : V), Same H H' → RowAt H' (calledR x c r) u → ∀ t, H' t = none → Q (.ref t) (upd H' t (.tup [.str w.str, .str nm, u])) := by
      intro hb2 nm e H' u sm hu t nt
      obtain ⟨b', ys, rfl, hb', hps'⟩ := hu
      refine q _ _ (sm.trans (same_new nt)) ?_
      unfold calledP
      rw [if_neg hb2, ← e]
      exact ⟨t, b', ys, rfl, upd_same, kn hb' nt, PartsAt.mono (STup.new nt) _ _ hps'⟩
    refine ⟨_, rfl, _, .oth w n r, rfl, ⟨a, b, xs, rfl, ha, hb, hps⟩, _, rfl, ite2 (fun hw => ?_) (fun hw => ?_)⟩
    · refine ⟨_, rfl, a, _, 1, _, rfl, rfl, SqT.of ha, atI_nat (j := 1) rfl, _, rfl, rfl, _, rfl, ite2 (fun e => ?_) (fun e => ?_)⟩
      · refine ⟨_, rfl, q _ _ (Same.refl H) ?_⟩
        unfold calledP
        rw [if_pos ⟨hw, str_eq e⟩]
        exact ⟨a, b, xs, rfl, ha, hb, hps⟩
      · refine ⟨_, rfl, a, _, 1, _, rfl, rfl, SqT.of ha, atI_nat (j := 1) rfl, _, rfl, rfl, _, rfl, iteD (Bool.eq_false_iff.mpr e) ?_⟩
        refine ⟨_, rfl, a, _, 1, _, rfl, rfl, SqT.of ha, atI_nat (j := 1) rfl, ?_⟩
        refine ⟨_, rfl, rfl, _, rfl, iteD (wd_say w) ?_⟩
        refine ⟨_, rfl, _, rfl, _, rfl, a, _, 2, _, rfl, rfl, SqT.of ha, atI_nat (j := 2) rfl, _, rfl, _, rfl, .ref b, x, c, r, rfl, ⟨b, xs, rfl, hb, hps⟩, by omega, by have := len_sizeR r; omega, by omega, fun H' u sm hu => ?_⟩
        exact ⟨(show 3 ≤ sizeLine by decide), fun t nt => go (fun z => str_ne e z.2) _ (by rw [if_neg (str_ne e)]) H' u sm hu t nt⟩
    · have hb2 : ¬ (w.binds = true ∧ n = x) := fun z => hw z.1
      refine iteF ?_
      refine ⟨_, rfl, a, _, 1, _, rfl, rfl, SqT.of ha, atI_nat (j := 1) rfl, _, rfl, rfl, _, rfl, ite2 (fun e => ?_) (fun e => ?_)⟩
      · refine ⟨_, rfl, ?_⟩
        refine ⟨_, rfl, rfl, _, rfl, iteD (wd_say w) ?_⟩
        refine ⟨_, rfl, _, rfl, _, rfl, a, _, 2, _, rfl, rfl, SqT.of ha, atI_nat (j := 2) rfl, _, rfl, _, rfl, .ref b, x, c, r, rfl, ⟨b, xs, rfl, hb, hps⟩, by omega, by have := len_sizeR r; omega, by omega, fun H' u sm hu => ?_⟩
        exact ⟨(show 3 ≤ sizeLine by decide), fun t nt => go hb2 _ (by rw [if_pos (str_eq e)]) H' u sm hu t nt⟩
      · refine ⟨_, rfl, a, _, 1, _, rfl, rfl, SqT.of ha, atI_nat (j := 1) rfl, ?_⟩
        refine ⟨_, rfl, rfl, _, rfl, iteD (wd_say w) ?_⟩
        refine ⟨_, rfl, _, rfl, _, rfl, a, _, 2, _, rfl, rfl, SqT.of ha, atI_nat (j := 2) rfl, _, rfl, _, rfl, .ref b, x, c, r, rfl, ⟨b, xs, rfl, hb, hps⟩, by omega, by have := len_sizeR r; omega, by omega, fun H' u sm hu => ?_⟩
        exact ⟨(show 3 ≤ sizeLine by decide), fun t nt => go hb2 _ (by rw [if_neg (str_ne e)]) H' u sm hu t nt⟩
theorem ok_called {f fP : Addr} {fd fdP : FuncData} {n : Nat} (F : Fun K "called" "called" sCalled f fd) (mt : mg "tuple" = none)
    (GP : FnOk P w K mg base CX0 (2 * n + 2) fP fdP ps3p (spPCalled n)) (bP : Binds K fdP ps3p []) (kP : PySem.W.keepIn K (.ref fP) = true) (mP : mg "part_called" = some (.ref fP)) : FnOk P w K mg base CX0 (2 * n + 2 + 1) f fd ps3 (spCalled (n + 1)) := by
  refine F.ok scCalled (fun vs H Q E h => ?_) (fun cdv A outer s H vs Q E hr h => ?_)
  · obtain ⟨_, _, _, _, rfl, _⟩ := h
    rfl
  obtain ⟨v, x, c, r, rfl, hR, hd, hl, hs, q⟩ := h
  refine ⟨_, pss_one (ps_ret (pe_callTy call_tuple_of (by rfl) mt (by decide +kernel) (pa_cons (pe_lc (own := [("part", 3)]) (g := gName 3) (tt := tYes) (by rfl) scCalled.nd (pi_tup (pv 0))
        (blkOk_by (own := [("part", 3)]) (N := ["row", "x", "calling", "part"]) (sc := defScope sCalled) (by decide +kernel)) (fun _ _ _ _ _ => pg_name (i := 3) scCalled.nd rfl (Or.inl rfl)) (fun _ _ _ _ _ => pts_nil)
        (fun _ _ _ _ _ => pe_call GP hr (by rfl) mP kP bP .nil pass0 (pa_cons (pv 3) (pa_cons (pv 1) (pa_cons (pv 2) pa_nil))))) pa_nil))), ?_⟩
  obtain ⟨a, xs, rfl, ha, hps⟩ := hR
  have lx := PartsAt.len hps
  refine ⟨_, rfl, a, rfl, ⟨_, SqT.of ha⟩, fun D nD => ?_⟩
  refine lc_it (walk_tup (xs := xs)) (fun i H' => Same H H' ∧ ∃ vs : List V, H' D = some (.lst vs) ∧ PartsAt H' (calledR x c (r.take i)) vs ∧ vs.length = i) ⟨same_new nD, [], upd_same, rfl, rfl⟩ (fun i H' _ hP => SqT.of (hP.1 _ _ ha)) (fun i y H1 H2 hi hP hY => ?_) (fun H' hP => ?_)
  · obtain ⟨rfl, hy⟩ := hY
    obtain ⟨sm, vs, hD, hvs, hlv⟩ := hP
    obtain ⟨p, hp, hpa⟩ := PartsAt.get hps hy
    have pm : p ∈ r := List.mem_of_getElem? hp
    have d1 := deepR.mem p pm
    have s1 := sizeR.mem p pm
    refine ⟨rfl, yes (iteT ?_)⟩
    refine ⟨_, rfl, _, rfl, _, rfl, y, x, c, p, rfl, PartAt.mono (STup.of sm) p y hpa, ⟨by omega, by omega⟩, fun H3 u sm3 hu => ?_⟩
    have hD3 := sm3 _ _ hD
    have st4 : STup H3 (upd H3 D (.lst (vs ++ [u]))) := STup.lst hD3
    refine ⟨vs, hD3, by rw [hlv]; exact small1000 (by omega), fun b o e => ?_, vs ++ [u], upd_same, ?_, by rw [List.length_append, hlv]; rfl⟩
    · rw [upd_ne (ne_of_none e nD)]
      exact sm3 _ _ (sm _ _ e)
    · rw [calledR_map, List.take_add_one, hp, List.map_append, ← calledR_map]
      exact PartsAt.app (PartsAt.one (PartAt.mono st4 _ _ hu)) (PartsAt.mono ((STup.of sm3).trans st4) _ _ hvs)
  · obtain ⟨sm, vs, hD, hvs, hlv⟩ := hP
    rw [lx, List.take_length] at hvs
    refine ⟨D, vs, rfl, .inl ⟨SqL.of hD, fun t nt => q _ _ (sm.trans (same_new nt)) ⟨t, vs, rfl, upd_same, PartsAt.mono (STup.new nt) _ _ hvs⟩⟩⟩
theorem called_none {f : Addr} {fd : FuncData} {k : Nat} : FnOk P w K mg base CX0 k f fd ps3 (spCalled 0) := by
  have no : ∀ vs H Q E, ¬ spCalled 0 vs H Q E := fun vs H Q E h => by
    obtain ⟨_, _, _, _, _, _, h1, _⟩ := h
    omega
  exact ⟨fun vs H Q E h => absurd h (no vs H Q E), fun A outer s H args us vs Q E _ _ _ _ h => absurd h (no vs H Q E)⟩
theorem called_ok {fB fP fC : Addr} {fdB fdP fdC : FuncData} (FP : Fun K "part_called" "part_called" sPCalled fP fdP) (FC : Fun K "called" "called" sCalled fC fdC) (GB : FnOk P w K mg base CX0 1 fB fdB ["part"] spBinder) (bB : Binds K fdB ["part"] []) (kB : PySem.W.keepIn K (.ref fB) = true) (mB : mg "is_binder" = some (.ref fB))
    (mt : mg "tuple" = none) (bC : Binds K fdC ps3 []) (mC : mg "called" = some (.ref fC)) (bP : Binds K fdP ps3p []) (mP : mg "part_called" = some (.ref fP)) :
    ∀ n : Nat, FnOk P w K mg base CX0 (2 * n + 1) fC fdC ps3 (spCalled n)
  | 0 => called_none
  | n + 1 => ok_called FC mt (ok_pcalled FP GB bB kB mB (called_ok FP FC GB bB kB mB mt bC mC bP mP n) bC FC.kp mC) bP FP.kp mP
end
end K19

set_option Elab.async false
set_option linter.all false
set_option maxRecDepth 100000
set_option maxHeartbeats 4000000
namespace K19
open PySem PySem.Spec PyProof.Rows L2 Wk GxR
abbrev sForm : Stmt := topS 13
abbrev sBegins : Stmt := topS 14
abbrev sNPart : Stmt := topS 24
theorem scForm : FnScope ["thing"] ["thing"] (defScope sForm) := ⟨rfl, rfl, rfl, by decide +kernel, rfl, by decide +kernel, by decide +kernel⟩
theorem scBegins : FnScope ["thing"] ["thing"] (defScope sBegins) := ⟨rfl, rfl, rfl, by decide +kernel, rfl, by decide +kernel, by decide +kernel⟩
theorem scNPart : FnScope ["thing"] ["thing"] (defScope sNPart) := ⟨rfl, rfl, rfl, by decide +kernel, rfl, by decide +kernel, by decide +kernel⟩
section
variable {P : Program} {w : World} {K : PySem.W.Frag} {mg : Str → Option Value} {base : Heap} {T : Addr} {Ts : List Addr}
theorem ok_begins {f : Addr} {fd : FuncData} {k : Nat} (F : Fun K "begins_with_word" "begins_with_word" sBegins f fd) (mi : mg "isinstance" = none) (mt : mg "tuple" = none) (ms : mg "str" = none) (ml : mg "len" = none) :
    FnOk P w K mg base CX0 (k + 1) f fd ["thing"] spBegins := by
  refine F.ok scBegins (fun vs H Q E h => ?_) (fun cdv A outer s H vs Q E hr h => ?_)
  · obtain ⟨_, _, rfl, _⟩ := h
    rfl
  obtain ⟨v, t, rfl, ht, q⟩ := h
  refine ⟨_, pss_one (ps_ret (pe_and (pe_callB call_isi (by rfl) mi (by decide +kernel) (pa_cons (pv 0) (pa_cons (pe_bltn (v := .ty "tuple") (by rfl) mt (by decide +kernel) rfl) pa_nil)))
    (pe_and (pe_cmpR op_gt (pe_callB call_len_seq (by rfl) ml PySem.boot_len (pa_cons (pv 0) pa_nil)) pe_int (nomark _))
      (pe_one (pe_callB call_isi (by rfl) mi (by decide +kernel) (pa_cons (pe_ix ix_tup (pv 0) pe_int (fun _ _ => rfl)) (pa_cons (pe_bltn (v := .ty "str") (by rfl) ms (by decide +kernel) rfl) pa_nil))))))), ?_⟩
  obtain ⟨ty, h1, h2, h3⟩ := ht.tyT (K := K)
  refine ⟨_, rfl, v, .ty "tuple", .type ty, .type "tuple", isTup t, rfl, .ty "tuple", h1, h2, _, rfl, ?_⟩
  match t, ht, q with
  | .tup [], ht, q =>
    obtain ⟨a, vs, rfl, ha, hv⟩ := ht
    have e0 : vs = [] := hv
    subst e0
    exact iteT ⟨_, rfl, a, [], rfl, .inr (SqT.of ha), _, _, rfl, rfl, _, rfl, iteD (by decide) q⟩
  | .tup (x :: r), ht, q =>
    obtain ⟨a, vs, rfl, ha, u, us, rfl, hx, hus⟩ := ht
    refine iteT ⟨_, rfl, a, u :: us, rfl, .inr (SqT.of ha), _, _, rfl, rfl, _, rfl, iteU (decide_eq_true (by show (0 : Int) < (((u :: us).length : Nat) : Int); rw [List.length_cons]; omega)) ?_⟩
    obtain ⟨ty, g1, g2, g3⟩ := hx.tyT (K := K)
    refine ⟨_, rfl, a, _, 0, _, rfl, rfl, SqT.of ha, atI_nat (j := 0) rfl, u, .ty "str", .type ty, .type "str", isStrT x, rfl, .ty "str", g1, g3, ?_⟩
    have e : wordT (.tup (x :: r)) = isStrT x := by cases x <;> rfl
    rw [e] at q
    exact q
  | .non, _, q => exact iteF q
  | .int _, _, q => exact iteF q
  | .bl _, _, q => exact iteF q
  | .lst _, _, q => exact iteF q
  | .str _, _, q => exact iteF q
  | .dct, _, q => exact iteF q
theorem ok_formG {f dS fB : Addr} {fd fdB : FuncData} {k : Nat} (F : Fun K "has_form" "has_form" sForm f fd) (ml : mg "len" = none) (mS : mg "SIZES" = some (.ref dS)) (hS : SizesG K w dS)
    (GB : FnOk P w K mg base CX0 k fB fdB ["thing"] spBegins) (bB : Binds K fdB ["thing"] []) (kB : PySem.W.keepIn K (.ref fB) = true) (mB : mg "begins_with_word" = some (.ref fB)) :
    FnOk P w K mg base CX0 (k + 1) f fd ["thing"] spFormG := by
  refine F.ok scForm (fun vs H Q E h => ?_) (fun cdv A outer s H vs Q E hr h => ?_)
  · obtain ⟨_, _, rfl, _⟩ := h
    rfl
  obtain ⟨v, t, rfl, ht, q⟩ := h
  refine ⟨_, pss_one (ps_ret (pe_and (pe_call GB hr (by rfl) mB kB bB .nil pass0 (pa_cons (pv 0) pa_nil))
      (pe_one (pe_cmpR op_eq (pe_kget (pe_glob (v := .ref dS) (by rfl) mS rfl) (pe_ix ix_tup (pv 0) pe_int (fun _ _ => rfl)) ⟨rfl, rfl, rfl, rfl⟩) (pe_callB call_len_seq (by rfl) ml PySem.boot_len (pa_cons (pv 0) pa_nil)) (nomark _))))), ?_⟩
  refine ⟨_, rfl, v, t, rfl, ht, _, rfl, ?_⟩
  by_cases c : wordT t = true
  · rw [c]
    refine iteT ?_
    obtain ⟨z, r, rfl⟩ := word_cases c
    obtain ⟨a, vs, rfl, ha, u, us, rfl, hx, hus⟩ := ht
    have lu := ThsAt.len hus
    have ez : u = .str z := hx
    subst ez
    obtain ⟨rr, r1, r2⟩ := hS.2 z
    refine ⟨dS, rfl, hS.1, _, rfl, a, _, 0, _, rfl, rfl, SqT.of ha, atI_nat (j := 0) rfl, z, rr, szV z, rfl, r1, r2, _, rfl, a, _, rfl, .inr (SqT.of ha), szV_scal z _, ?_⟩
    have e : formB (.tup (.str z :: r)) = decide (szV z = V.int ((V.str z :: us).length : Nat)) := by
      rw [szV_eq, List.length_cons, lu]
      rfl
    rw [e] at q
    exact q
  · have c' : wordT t = false := Bool.eq_false_iff.mpr c
    rw [c']
    rw [form_word c'] at q
    exact iteF q
theorem ok_callingG {f : Addr} {fd : FuncData} {k : Nat} (F : Fun K "calling_of" "calling_of" sCalling f fd) : FnOk P w K mg base CX0 (k + 1) f fd ["part"] spCallingG := by
  refine F.ok scCalling (fun vs H Q E h => ?_) (fun cdv A outer s H vs Q E hr h => ?_)
  · obtain ⟨_, _, _, _, rfl, _⟩ := h
    rfl
  obtain ⟨v, z, x, r, rfl, ht, q1, q2⟩ := h
  refine ⟨_, pss_one (ps_ret (pe_ifExp (pt_cmpR op_eq (pe_ix ix_tup (pv 0) pe_int (fun _ _ => rfl)) pe_str (nomark _)) pe_non (pe_ix ix_tup (pv 0) pe_int (fun _ _ => rfl)))), ?_⟩
  obtain ⟨a, vs, rfl, ha, u, us, rfl, hx, u2, us2, rfl, hx2, _⟩ := ht
  have ez : u = .str z := hx
  subst ez
  refine ⟨_, rfl, a, _, 0, _, rfl, rfl, SqT.of ha, atI_nat (j := 0) rfl, rfl, _, rfl, ite2 (fun c => q1 (str_eq c)) (fun c => ?_)⟩
  exact ⟨_, rfl, a, _, 1, _, rfl, rfl, SqT.of ha, atI_nat (j := 1) rfl, q2 (str_ne c) u2 hx2⟩
theorem ok_restG {f : Addr} {fd : FuncData} {k : Nat} (F : Fun K "rest_of" "rest_of" sRest f fd) : FnOk P w K mg base CX0 (k + 1) f fd ["part"] spRestG := by
  refine F.ok scRest (fun vs H Q E h => ?_) (fun cdv A outer s H vs Q E hr h => ?_)
  · obtain ⟨_, _, _, rfl, _⟩ := h
    rfl
  obtain ⟨v, t, G, rfl, ht, kp, hn, q⟩ := h
  refine ⟨_, pss_one (ps_ret (pe_ifExp (pt_cmpR op_eq (pe_ix ix_tup (pv 0) pe_int (fun _ _ => rfl)) pe_str (nomark _)) (pe_tup pa_nil) (pe_ix ix_tup (pv 0) (pe_un un_neg pe_int) (fun _ _ => rfl)))), ?_⟩
  rcases np_cases hn with ⟨n, rfl, _⟩ | ⟨y, rfl⟩ | ⟨wd, n, y, rfl, _⟩
  · obtain ⟨a, vs, rfl, ha0, u, us, rfl, hx, _⟩ := ht
    have ez : u = .str "say" := hx
    subst ez
    have ha := kp _ _ (fun _ z => by cases z) ha0
    refine ⟨_, rfl, a, _, 0, _, rfl, rfl, SqT.of ha, atI_nat (j := 0) rfl, rfl, _, rfl, iteU (by decide +kernel) ?_⟩
    exact ⟨(show 0 ≤ sizeLine by decide), fun p np => q _ _ (same_new np) (.inr ⟨rfl, p, rfl, upd_same⟩)⟩
  · obtain ⟨a, vs, rfl, ha0, u, us, rfl, hx, u2, us2, rfl, hy, h0⟩ := ht
    have ez : u = .str "again" := hx
    have e0 : us2 = [] := h0
    subst ez e0
    have ha := kp _ _ (fun _ z => by cases z) ha0
    refine ⟨_, rfl, a, _, 0, _, rfl, rfl, SqT.of ha, atI_nat (j := 0) rfl, rfl, _, rfl, iteD (by decide +kernel) ?_⟩
    refine ⟨_, rfl, _, rfl, a, _, -1, _, rfl, rfl, SqT.of ha, atI_last (k := 1) rfl rfl, q _ _ (fun _ _ e => e) ?_⟩
    have e : restT (Th.tup [.str "again", y]) = y := by
      show (if ("again" : Str) = "say" then Th.tup [] else _) = _
      rw [if_neg (by decide +kernel)]
      rfl
    rw [e]
    exact .inl hy
  · obtain ⟨a, vs, rfl, ha0, u, us, rfl, hx, u2, us2, rfl, _, u3, us3, rfl, hy, h0⟩ := ht
    have ez : u = .str wd.str := hx
    have e0 : us3 = [] := h0
    subst ez e0
    have ha := kp _ _ (fun _ z => by cases z) ha0
    refine ⟨_, rfl, a, _, 0, _, rfl, rfl, SqT.of ha, atI_nat (j := 0) rfl, rfl, _, rfl, iteD (wd_say wd) ?_⟩
    refine ⟨_, rfl, _, rfl, a, _, -1, _, rfl, rfl, SqT.of ha, atI_last (k := 2) rfl rfl, q _ _ (fun _ _ e => e) ?_⟩
    have e : restT (Th.tup [.str wd.str, .str n, y]) = y := by
      show (if wd.str = "say" then Th.tup [] else _) = _
      rw [if_neg (wd_ne_say wd)]
      rfl
    rw [e]
    exact .inl hy
theorem ok_npartG {f fF fC fN : Addr} {fd fdF fdC fdN : FuncData} (F : Fun K "is_named_part" "is_named_part" sNPart f fd)
    (GF : FnOk P w K mg base CX0 2 fF fdF ["thing"] spFormG) (bF : Binds K fdF ["thing"] []) (kF : PySem.W.keepIn K (.ref fF) = true) (mF : mg "has_form" = some (.ref fF))
    (GC : FnOk P w K mg base CX0 1 fC fdC ["part"] spCallingG) (bC : Binds K fdC ["part"] []) (kC : PySem.W.keepIn K (.ref fC) = true) (mC : mg "calling_of" = some (.ref fC))
    (GN : FnOk P w K mg base CX0 2 fN fdN ["thing"] (spName Ts nmV)) (bN : Binds K fdN ["thing"] []) (kN : PySem.W.keepIn K (.ref fN) = true) (mN : mg "is_name" = some (.ref fN)) :
    FnOk P w K mg base CX0 3 f fd ["thing"] (spNPartG Ts) := by
  refine F.ok scNPart (fun vs H Q E h => ?_) (fun cdv A outer s H vs Q E hr h => ?_)
  · obtain ⟨_, _, rfl, _⟩ := h
    rfl
  obtain ⟨v, t, rfl, ht, ok, tg, q⟩ := h
  have r1 : Room 1 _ := hr.mono (by decide)
  refine ⟨_, pss_cons (ps_if (pt_not (pt_val (pe_call GF hr (by rfl) mF kF bF .nil pass0 (pa_cons (pv 0) pa_nil)))) (pss_one (ps_ret pe_bl)) pss_nil)
    (pss_one (ps_ret (pe_or (pe_cmpR op_eq (pe_ix ix_tup (pv 0) pe_int (fun _ _ => rfl)) pe_str (nomark _)) (pe_one (pe_call GN hr (by rfl) mN kN bN .nil pass0 (pa_cons (pe_call GC r1 (by rfl) mC kC bC .nil pass0 (pa_cons (pv 0) pa_nil)) pa_nil)))))), ?_⟩
  refine ⟨_, rfl, v, t, rfl, ht, _, rfl, ?_⟩
  by_cases c : formB t = true
  · rw [c]
    refine iteF ?_
    obtain ⟨z, x, r, rfl, hz⟩ := form_cases c
    have ht2 := ht
    obtain ⟨a, vs, rfl, ha, u, us, rfl, hx, hus⟩ := ht2
    have ez : u = .str z := hx
    subst ez
    have en : npB (.tup (.str z :: x :: r)) = (decide (z = "again") || nmT x) := by
      show (decide (szOf z = some (r.length + 2)) && (decide (z = "again") || nmT x)) = _
      rw [decide_eq_true hz, Bool.true_and]
    refine ⟨_, rfl, a, _, 0, _, rfl, rfl, SqT.of ha, atI_nat (j := 0) rfl, rfl, _, rfl, ite2 (fun g => ?_) (fun g => ?_)⟩
    · have q1 := q H (SamTs.refl tg)
      rw [en, decide_eq_true (str_eq g), Bool.true_or] at q1
      exact q1
    · have g' := str_ne g
      refine ⟨_, rfl, .ref a, z, x, r, rfl, ht, fun e => absurd e g', fun _ u2 hu2 => ?_⟩
      obtain ⟨th, e2⟩ := hu2.thing ok.2.2.1
      refine ⟨u2, rfl, th, tg, fun H' st => ?_⟩
      have q1 := q H' st
      rw [en, decide_eq_false g', Bool.false_or, ← e2] at q1
      exact q1
  · have c' : formB t = false := Bool.eq_false_iff.mpr c
    rw [c']
    refine iteT ?_
    have e : npB t = false := Bool.eq_false_iff.mpr fun h => c (np_form h)
    have q1 := q H (SamTs.refl tg)
    rw [e] at q1
    exact q1
end
end K19

set_option Elab.async false
set_option linter.all false
set_option maxRecDepth 100000
set_option maxHeartbeats 8000000
namespace K19
open PySem PySem.Spec PyProof.Rows L2 Wk GxR
abbrev sWithin : Stmt := topS 22
abbrev sBinds : Stmt := topS 23
abbrev sHouse : Stmt := topS 21
abbrev nmSm : List Str := ["thing", "most_parts", "most_deep", "is_part", "rest", "rows", "told", "deeper", "parts", "row", "part"]
abbrev psW : List Str := ["thing", "most_parts", "most_deep", "is_part", "rest"]
theorem scWithin : FnScope nmSm psW (defScope sWithin) := ⟨rfl, rfl, rfl, by decide +kernel, rfl, by decide +kernel, by decide +kernel⟩
theorem scBinds : FnScope ["free", "bound"] ["free", "bound"] (defScope sBinds) := ⟨rfl, rfl, rfl, by decide +kernel, rfl, by decide +kernel, by decide +kernel⟩
theorem scHouse : FnScope ["thing", "free", "bound"] ["thing"] (defScope sHouse) := ⟨rfl, rfl, rfl, by decide +kernel, rfl, by decide +kernel, by decide +kernel⟩
section
variable {P : Program} {w : World} {K : PySem.W.Frag} {mg : Str → Option Value} {base : Heap} {T : Addr} {Ts : List Addr}
theorem ok_within {f c fN fR : Addr} {fd fdN fdR : FuncData} (F : FunC K "parts_within" "parts_within" sWithin f c fd) (TB : TabB base mg c T) (mT : T ∈ Ts)
    (GN : FnOk P w K mg base CX0 3 fN fdN ["thing"] (spNPartG Ts)) (bN : Binds K fdN ["thing"] []) (kN : PySem.W.keepIn K (.ref fN) = true)
    (GR : FnOk P w K mg base CX0 1 fR fdR ["part"] spRestG) (bR : Binds K fdR ["part"] []) (kR : PySem.W.keepIn K (.ref fR) = true)
    (mi : mg "isinstance" = none) (mt : mg "tuple" = none) (ml : mg "len" = none) (ma : mg "all" = none) (ms : mg "sum" = none) (mr : mg "range" = none) :
    FnOk P w K mg base CX0 5 f fd psW (spPartsG Ts fN fR) := by
  refine F.okN scWithin (fun vs H Q E h => ?_) (fun A outer s H vs Q E hr h => ?_)
  · obtain ⟨_, _, rfl, _⟩ := h
    rfl
  obtain ⟨v, t, rfl, ht, ok, tg, qn, qy⟩ := h
  have r1 : Room 1 _ := hr.mono (by decide)
  have hr2 : ∀ e, Room 3 ((A.deeper (envOfC "parts_within" (defScope sWithin) s.heap.objs.size f (.ref c))).in1.in1.deeper e) := fun e => Wk.Room.gen hr e
  refine ⟨_, pss_cons (ps_set (i := 5) scWithin.nd rfl (.inl rfl) (pe_lst (pa_cons (pv 0) pa_nil))) (pss_cons (ps_set (i := 6) scWithin.nd rfl (.inl rfl) (pe_lst pa_nil))
    (pss_cons (ps_for PassesOwn.never rfl (pi_range1 rfl mr (pa_cons (pe_op op_add (pv 2) pe_int) pa_nil)) (pg_name (i := 7) scWithin.nd rfl (.inl rfl))
      (pss_cons (ps_if (pt_not (pt_val (pe_allX (own := [("row", 9)]) (g := gName 9) hr rfl scWithin.nd (by rfl) ma (by decide +kernel) TB rfl rfl (by decide +kernel) rfl
          (blkOk_by (own := [("row", 9)]) (N := nmSm) (sc := defScope sWithin) (by decide +kernel)) (pi_list (pv 5)) (fun _ => rfl) (fun _ _ _ _ _ _ _ => pg_name (i := 9) scWithin.nd rfl (Or.inl rfl))
          (te := tCB (rIsi K) (tCons (tVar 9) (tCons (tC (.ty "tuple")) tNil)))
          (fun _ _ _ _ _ _ _ => pe_callB call_isi (by rfl) mi (by decide +kernel) (pa_cons (pv 9) (pa_cons (pe_bltn (v := .ty "tuple") (by rfl) mt (by decide +kernel) rfl) pa_nil)))))) (pss_one (ps_ret pe_non)) pss_nil)
      (pss_cons (ps_if (pt_cmpR op_gt (pe_op op_add (pe_callB call_len_seq (by rfl) ml PySem.boot_len (pa_cons (pv 6) pa_nil)) (pe_sumX (own := [("row", 9)]) (g := gName 9) hr rfl scWithin.nd (by rfl) ms (by decide +kernel) TB rfl rfl (by decide +kernel) rfl
          (blkOk_by (own := [("row", 9)]) (N := nmSm) (sc := defScope sWithin) (by decide +kernel)) (pi_list (pv 5)) (fun _ => rfl) (fun _ _ _ _ _ _ _ => pg_name (i := 9) scWithin.nd rfl (Or.inl rfl))
          (te := tCB (fun xs H Q => ∃ p ys, xs = [.ref p] ∧ (SqL K H p ys ∨ SqT K H p ys) ∧ Q (.int ys.length) H) (tCons (tVar 9) tNil))
          (fun _ _ _ _ _ _ _ => pe_callB call_len_seq (by rfl) ml PySem.boot_len (pa_cons (pv 9) pa_nil)))) (pv 1) (nomark _)) (pss_one (ps_ret pe_non)) pss_nil)
      (pss_cons (ps_setLc2 (i := 8) (own := [("row", 9), ("part", 10)]) (vs1 := [10]) (g := gName 9) (g1 := gName 10) (tt := tYes) (tt1 := tYes) (wi1 := iTup K (tVar 9)) (te := tVar 10) (by rfl) scWithin.nd rfl rfl (sw_true rfl rfl rfl (by decide +kernel)) (pi_list (pv 5))
          (blkOk_by (own := [("row", 9), ("part", 10)]) (N := nmSm) (sc := defScope sWithin) (by decide +kernel)) (by decide) (fun _ _ _ _ _ => pg_name (i := 9) scWithin.nd rfl (Or.inl rfl)) (fun _ _ _ _ _ => pts_nil)
          (fun _ _ _ _ _ => pi_tup (pv 9)) (fun _ _ _ _ _ => pg_name (i := 10) scWithin.nd rfl (Or.inl rfl)) (fun _ _ _ _ _ => pts_nil) (fun _ _ _ _ _ => pv 10))
      (pss_cons (ps_if (pt_not (pt_truth (pv 8) (by intro _; rfl))) (pss_one (ps_ret (pv 6))) pss_nil)
      (pss_cons (ps_if (pt_not (pt_val (pe_allX (own := [("part", 10)]) (g := gName 10) hr rfl scWithin.nd (by rfl) ma (by decide +kernel) TB rfl rfl (by decide +kernel) rfl
          (blkOk_by (own := [("part", 10)]) (N := nmSm) (sc := defScope sWithin) (by decide +kernel)) (pi_list (pv 8)) (fun _ => rfl) (fun _ _ _ _ _ _ _ => pg_name (i := 10) scWithin.nd rfl (Or.inl rfl))
          (te := tCallL 3 fN (spNPartG Ts) [] E0 (tCons (tVar 10) tNil))
          (fun _ _ _ _ _ _ _ => pe_callL GN (hr2 _) rfl (.inr (.inr rfl)) kN bN .nil pass0 (pa_cons (pv 10) pa_nil))))) (pss_one (ps_ret pe_non)) pss_nil)
      (pss_cons (ps_expr (pe_bm PySem.F.plainAttrs_list PySem.F.slot_list_extend PySem.F.type_list_extend mt_extend (pv 6) (pa_cons (pv 8) pa_nil)))
      (pss_one (ps_setLc (i := 5) (own := [("part", 10)]) (g := gName 10) (tt := tYes) (te := tCallL 4 fR spRestG [] E0 (tCons (tVar 10) tNil)) (by rfl) scWithin.nd rfl rfl (sw_true rfl rfl rfl (by decide +kernel)) (pi_list (pv 8))
          (blkOk_by (own := [("part", 10)]) (N := nmSm) (sc := defScope sWithin) (by decide +kernel)) (fun _ _ _ _ _ => pg_name (i := 10) scWithin.nd rfl (Or.inl rfl)) (fun _ _ _ _ _ => pts_nil)
          (fun _ _ _ _ _ => pe_callL GR r1 rfl (.inr (.inl rfl)) kR bR .nil pass0 (pa_cons (pv 10) pa_nil)))))))))))
    (pss_one (ps_ret pe_non)))), ?_⟩
  refine ⟨_, rfl, (show 1 ≤ sizeLine by decide), fun R0 nR0 => ?_⟩
  have st0 : SamTs Ts H (upd H R0 (.lst [v])) := (SamTs.refl tg).new nR0
  refine ⟨(show 0 ≤ sizeLine by decide), fun T0 nT0 => ?_⟩
  have st1 : SamTs Ts H (upd (upd H R0 (.lst [v])) T0 (.lst [])) := st0.new nT0
  refine ⟨_, rfl, 24, 1, rfl, rfl, 25, rfl, by decide, by decide, for_range (n := 25) (lo := 0) (fun i σ H' => SamTs Ts H H' ∧ ∃ (ts : List Th) (ws tv : List V) (R Tl : Addr) (m : Nat) (s3 s4 s5 s6 : Option V), H' R = some (.lst ws) ∧ OrsAt H H' ts ws ∧ (∀ q ∈ ts, okT q) ∧ ts.length ≤ 401 ∧ m ≤ 400 ∧ H Tl = none ∧ H' Tl = some (.lst tv) ∧ tv.length = m ∧ smallT (25 - i) m ts = smallT 25 0 [t] ∧
      σ = [some v, some (.int 400), some (.int 24), some (.ref fN), some (.ref fR), some (.ref R), some (.ref Tl), s3, s4, s5, s6])
    ⟨st1, [t], [v], [], R0, T0, 0, _, _, _, _, kn upd_same nT0, ⟨v, [], rfl, .inl ht, rfl⟩, (fun x hx => by rw [List.mem_singleton.mp hx]; exact ok), (by show 1 ≤ 401; decide), Nat.zero_le _, SamTs.none tg st0 nT0, upd_same, rfl, rfl, rfl⟩ (fun i σ H1 hi hP => ?_) (fun σ H' hP => ?_)⟩
  · obtain ⟨st, ts, ws, tv, R, Tl, m, s3, s4, s5, s6, hRl, hors, hol, hll, hm, nTl, hTl, ltv, hsm, rfl⟩ := hP
    have hlv := OrsAt.all (Kpt.of tg st) hors
    have lw := ThsAt.len hlv
    have tg1 := st.2
    obtain ⟨n, en⟩ : ∃ n, 25 - i = n + 1 := ⟨24 - i, by omega⟩
    have en2 : 25 - (i + 1) = n := by omega
    rw [en] at hsm
    unfold smallT at hsm
    have ans : ∀ (H' : Hp), SamTs Ts H1 H' → false = smallT 25 0 [t] → Q .non H' := fun H' s' e => qn e.symm H' (st.trans s')
    -- all rows are tuples
    refine ⟨_, rfl, R, rfl, ⟨ws, SqL.of hRl⟩, tg1 T mT, fun H2 hT => ⟨ts.length, fun j => (ts[j]?).elim false isTup, fun _ H' => SamTs Ts H1 H', SamTs.tab mT tg1 hT, fun j H' hj hW => ?_, fun H3 hall hW => ?_, fun j H3 hj hf hW => ?_⟩⟩
    · rcases Nat.lt_or_ge j ts.length with hlt | hge
      · have hlw : j < ws.length := by omega
        refine .inr ⟨hlt, ⟨ws, ws[j], SqL.of (hW.lst tg1 hRl), List.getElem?_eq_getElem hlw⟩, fun y H3 hy => ?_⟩
        obtain ⟨rfl, hy⟩ := hy
        obtain ⟨x, hx, hxa⟩ := ThsAt.get hlv (hy ws (SqL.of (hW.lst tg1 hRl)))
        obtain ⟨ty, h1, h2, h3⟩ := (ThAt.mono (Kpt.of tg1 hW) x y hxa).tyT (K := K)
        refine ⟨rfl, _, rfl, y, .ty "tuple", .type ty, .type "tuple", isTup x, rfl, .ty "tuple", h1, h2, ?_, hW⟩
        show V.bl (isTup x) = V.bl ((ts[j]?).elim false isTup)
        rw [hx]
        rfl
      · exact .inl ⟨by omega, ws, SqL.of (hW.lst tg1 hRl), by omega⟩
    rotate_left
    · -- one is none
      refine ⟨_, rfl, iteT (ans H3 hW ?_)⟩
      have c1 : ¬ ts.all isTup = true := fun c => by
        have hf' : (ts[j]?).elim false isTup = false := hf
        rw [List.getElem?_eq_getElem hj] at hf'
        have := List.all_eq_true.mp c ts[j] (List.getElem_mem hj)
        have hf' : isTup ts[j] = false := hf'
        rw [hf'] at this
        cases this
      rw [if_neg c1] at hsm
      exact hsm
    refine ⟨_, rfl, iteF ?_⟩
    have c1 : ts.all isTup = true := List.all_eq_true.mpr fun x hx => by
      obtain ⟨j, hj⟩ := List.getElem?_of_mem hx
      have hlt := (List.getElem?_eq_some_iff.mp hj).1
      have := hall j hlt
      have this : (ts[j]?).elim false isTup = true := this
      rw [hj] at this
      exact this
    rw [if_pos c1] at hsm
    have tupx : ∀ x ∈ ts, x = .tup (itemsT x) := fun x hx => by
      have := List.all_eq_true.mp c1 x hx
      cases x with
      | tup ys => rfl
      | _ => cases this
    have hRl3 := hW.lst tg1 hRl
    have hlv3 := ThsAt.mono (Kpt.of tg1 hW) _ _ hlv
    have tg3 := hW.2
    have ans3 : ∀ (H' : Hp), SamTs Ts H3 H' → false = smallT 25 0 [t] → Q .non H' := fun H' s' e => ans H' (hW.trans s') e
    have hTl3 := hW.lst tg1 hTl
    have hors3 := OrsAt.mono (hW.tup tg1) hors
    have st3 := st.trans hW
    clear hRl hlv hT ans hW hall tg1 st hTl hors
    -- how many they have
    refine ⟨_, rfl, Tl, tv, rfl, .inl (SqL.of hTl3), _, rfl, R, rfl, ⟨ws, SqL.of hRl3⟩, tg3 T mT, fun H4 hT4 => ⟨ts.length, fun j => (ts[j]?).elim (0 : Int) fun x => ((itemsT x).length : Nat), fun _ H' => SamTs Ts H3 H', SamTs.tab mT tg3 hT4, fun j H' hj hW => ?_, fun j hj => ?_, fun H5 hW => ?_⟩⟩
    · rcases Nat.lt_or_ge j ts.length with hlt | hge
      · have hlw : j < ws.length := by omega
        refine .inr ⟨hlt, ⟨ws, ws[j], SqL.of (hW.lst tg3 hRl3), List.getElem?_eq_getElem hlw⟩, fun y H6 hy => ?_⟩
        obtain ⟨rfl, hy⟩ := hy
        obtain ⟨x, hx, hxa⟩ := ThsAt.get hlv3 (hy ws (SqL.of (hW.lst tg3 hRl3)))
        have ex := tupx x (List.mem_of_getElem? hx)
        rw [ex] at hxa
        obtain ⟨a, xs, rfl, ha, hxs⟩ := hxa
        refine ⟨rfl, _, rfl, a, xs, rfl, .inr (SqT.of (hW.tup tg3 _ _ ha)), ?_, hW⟩
        rw [ThsAt.len hxs]
        show V.int ((itemsT x).length : Nat) = V.int ((ts[j]?).elim (0 : Int) fun x => ((itemsT x).length : Nat))
        rw [hx]
        rfl
      · exact .inl ⟨by omega, ws, SqL.of (hW.lst tg3 hRl3), by omega⟩
    · have e := lens_sum ts (j + 1) hj
      have le := flat_le hol (j + 1)
      have e0 := lens_sum ts j (Nat.le_of_lt hj)
      have b1 : preSum (fun j => ((ts[j]?).elim (0 : Int) fun x => ((itemsT x).length : Nat))) (j + 1) = preSum (fun j => ((ts[j]?).elim (0 : Int) fun x => ((itemsT x).length : Nat))) j + (ts[j]?).elim (0 : Int) (fun x => ((itemsT x).length : Nat)) := rfl
      unfold InLong
      rw [e]
      rw [e, e0] at b1
      dsimp only
      have b2 : (0 : Int) ≤ (ts[j]?).elim (0 : Int) (fun x => ((itemsT x).length : Nat)) := by
        rw [List.getElem?_eq_getElem hj]
        exact Int.natCast_nonneg _
      omega
    rw [lens_sum ts ts.length (Nat.le_refl _), List.take_length]
    refine ⟨_, _, rfl, rfl, _, rfl, _, _, rfl, rfl, _, rfl, ?_⟩
    rw [ltv]
    have ans5 : ∀ (H' : Hp), SamTs Ts H5 H' → false = smallT 25 0 [t] → Q .non H' := fun H' s' e => ans3 H' (hW.trans s') e
    have hTl5 := hW.lst tg3 hTl3
    have hors5 := OrsAt.mono (hW.tup tg3) hors3
    have kp5 : Kpt H H5 := Kpt.of tg (st3.trans hW)
    have st5 := st3.trans hW
    have hRl5 := hW.lst tg3 hRl3
    have hlv5 := ThsAt.mono (Kpt.of tg3 hW) _ _ hlv3
    have tg5 := hW.2
    clear hRl3 hlv3 st3 hW hT4 ans3 tg3 hTl3 hors3
    by_cases c2 : m + (ts.map itemsT).flatten.length ≤ 400
    rotate_left
    · rw [if_neg c2] at hsm
      exact iteU (decide_eq_true (by show (400 : Int) < (m : Int) + (((ts.map itemsT).flatten).length : Nat); omega)) (ans5 H5 (SamTs.refl tg5) hsm)
    rw [if_pos c2] at hsm
    refine iteD (decide_eq_false (by show ¬ ((400 : Int) < (m : Int) + (((ts.map itemsT).flatten).length : Nat)); omega)) ?_
    -- all parts
    refine ⟨_, rfl, R, rfl, ⟨ws, SqL.of hRl5⟩, fun D nD => ?_⟩
    refine ⟨fun i k H' => k = ts.length - i ∧ i ≤ ts.length ∧ Same H5 H' ∧ ∃ us, H' D = some (.lst us) ∧ ThsAt H ((ts.take i).map itemsT).flatten us, ⟨_, rfl, Nat.zero_le _, same_new nD, [], upd_same, rfl⟩, fun i1 k H' hW => ?_⟩
    obtain ⟨rfl, hi1, sm, us, hD, hus⟩ := hW
    have whole : ((ts.take i1).map itemsT).flatten.length ≤ (ts.map itemsT).flatten.length := by
      have e : (ts.map itemsT).flatten = ((ts.take i1).map itemsT).flatten ++ ((ts.drop i1).map itemsT).flatten := by
        rw [← List.flatten_append, ← List.map_append, List.take_append_drop]
      rw [e, List.length_append]
      omega
    rcases Nat.lt_or_ge i1 ts.length with hlt | hge
    · have hlw : i1 < ws.length := by omega
      refine .inr ⟨⟨ws, ws[i1], SqL.of (sm _ _ hRl5), List.getElem?_eq_getElem hlw⟩, fun H'' => Same H5 H'' ∧ ∃ us, H'' D = some (.lst us) ∧ ThsAt H ((ts.take (i1 + 1)).map itemsT).flatten us, fun H'' hN => ⟨ts.length - (i1 + 1), by omega, rfl, by omega, hN.1, hN.2⟩, fun y H7 hy => ?_⟩
      obtain ⟨rfl, hy⟩ := hy
      obtain ⟨x, hx, hxa⟩ := OrsAt.get hors5 (hy ws (SqL.of (sm _ _ hRl5)))
      have ex := tupx x (List.mem_of_getElem? hx)
      rw [ex] at hxa
      obtain ⟨a, xs, rfl, ha, hxs⟩ := ThOr.tup kp5 hxa
      have lx := ThsAt.len hxs
      have tk : ((ts.take (i1 + 1)).map itemsT).flatten = ((ts.take i1).map itemsT).flatten ++ itemsT x := by
        rw [List.take_add_one, hx, List.map_append, List.flatten_append]
        show _ ++ (itemsT x ++ []) = _
        rw [List.append_nil]
      have wh2 : ((ts.take i1).map itemsT).flatten.length + (itemsT x).length ≤ (ts.map itemsT).flatten.length := by
        have e : (ts.map itemsT).flatten = ((ts.take (i1 + 1)).map itemsT).flatten ++ ((ts.drop (i1 + 1)).map itemsT).flatten := by
          rw [← List.flatten_append, ← List.map_append, List.take_append_drop]
        rw [e, tk, List.length_append, List.length_append]
        omega
      refine ⟨rfl, yes (iteT ?_)⟩
      refine ⟨_, rfl, a, rfl, ⟨xs, SqT.of (sm _ _ ha)⟩, fun j k H'' => k = xs.length - j ∧ j ≤ xs.length ∧ Same H5 H'' ∧ ∃ us, H'' D = some (.lst us) ∧ ThsAt H (((ts.take i1).map itemsT).flatten ++ (itemsT x).take j) us, ⟨_, rfl, Nat.zero_le _, sm, us, hD, by simpa using hus⟩, fun j k H'' hW1 => ?_⟩
      obtain ⟨rfl, hj1, sm1, us1, hD1, hus1⟩ := hW1
      rcases Nat.lt_or_ge j xs.length with hl2 | hg2
      · refine .inr ⟨⟨xs, xs[j], SqT.of (sm1 _ _ ha), List.getElem?_eq_getElem hl2⟩, fun H9 => Same H5 H9 ∧ ∃ us, H9 D = some (.lst us) ∧ ThsAt H (((ts.take i1).map itemsT).flatten ++ (itemsT x).take (j + 1)) us, fun H9 hN => ⟨xs.length - (j + 1), by omega, rfl, by omega, hN.1, hN.2⟩, fun z H10 hz => ?_⟩
        obtain ⟨rfl, hz⟩ := hz
        obtain ⟨p, hp, hpa⟩ := ThsAt.get hxs (hz xs (SqT.of (sm1 _ _ ha)))
        have lu1 := ThsAt.len hus1
        rw [List.length_append, List.length_take] at lu1
        refine ⟨rfl, yes (iteT ⟨_, rfl, us1, hD1, small1000 (by omega), fun b o e => by rw [upd_ne (ne_of_none e nD)]; exact sm1 _ _ e, us1 ++ [z], upd_same, ?_⟩)⟩
        rw [List.take_add_one, hp, ← List.append_assoc]
        exact ThsAt.app (ThsAt.one hpa) hus1
      · refine .inl ⟨⟨xs, SqT.of (sm1 _ _ ha), hg2⟩, sm1, us1, hD1, ?_⟩
        rw [tk]
        have e2 : (itemsT x).take j = itemsT x := List.take_of_length_le (by omega)
        rw [e2] at hus1
        exact hus1
    refine .inl ⟨⟨ws, SqL.of (sm _ _ hRl5), by omega⟩, ?_⟩
    rw [List.take_of_length_le hge] at hus
    have hus7 := ThsAt.mono (kp5.trans (Kpt.same sm)) _ _ hus
    have lu := ThsAt.len hus
    have okp : ∀ x ∈ (ts.map itemsT).flatten, okT x := fun x hx => by
      obtain ⟨ys, hys, hx2⟩ := List.mem_flatten.mp hx
      obtain ⟨y, hy, rfl⟩ := List.mem_map.mp hys
      exact (hol y hy).items.2 x hx2
    have st7 := st5.sm sm
    have ans7 : ∀ (H'' : Hp), SamTs Ts H' H'' → false = smallT 25 0 [t] → Q .non H'' := fun H'' s' e => ans5 H'' (((SamTs.refl tg5).sm sm).trans s') e
    have nDT : D ≠ Tl := fun z => by
      rw [z] at nD
      rw [hTl5] at nD
      cases nD
    have hTl7 := sm _ _ hTl5
    have tg7 := st7.2
    clear st5 sm hRl5 hlv5 tg5 ans5 tupx c1 hTl5 hors5 kp5 nD
    generalize (ts.map itemsT).flatten = ps at *
    -- none, or some
    refine ⟨_, rfl, _, .inl ⟨us, SqL.of hD, rfl⟩, ?_⟩
    by_cases hem : ps = []
    · have e0 : us = [] := List.length_eq_zero_iff.mp (by rw [lu, hem]; rfl)
      rw [if_pos hem] at hsm
      rw [e0]
      exact iteT ⟨_, rfl, qy hsm.symm H' Tl st7⟩
    rw [if_neg hem] at hsm
    have hne : us.isEmpty = false := by
      cases us with
      | nil => exact absurd (List.length_eq_zero_iff.mp lu.symm) hem
      | cons x l => rfl
    refine iteD (by rw [hne]; rfl) ?_
    -- each is a part with a name
    refine ⟨_, rfl, D, rfl, ⟨us, SqL.of hD⟩, tg7 T mT, fun H12 hT => ⟨ps.length, fun j => (ps[j]?).elim false npB, fun _ H'' => SamTs Ts H' H'', SamTs.tab mT tg7 hT, fun j H'' hj hW => ?_, fun H13 hall hW => ?_, fun j H13 hj hf hW => ?_⟩⟩
    · rcases Nat.lt_or_ge j ps.length with hlt | hge
      · have hlu : j < us.length := by omega
        refine .inr ⟨hlt, ⟨us, us[j], SqL.of (hW.lst tg7 hD), List.getElem?_eq_getElem hlu⟩, fun y H3 hy => ?_⟩
        obtain ⟨rfl, hy⟩ := hy
        obtain ⟨x, hx, hxa⟩ := ThsAt.get hus7 (hy us (SqL.of (hW.lst tg7 hD)))
        refine ⟨rfl, rfl, _, rfl, y, x, rfl, ThAt.mono (Kpt.of tg7 hW) x y hxa, okp x (List.mem_of_getElem? hx), hW.2, fun H5' s5 => ⟨?_, hW.trans s5⟩⟩
        show V.bl (npB x) = V.bl ((ps[j]?).elim false npB)
        rw [hx]
        rfl
      · exact .inl ⟨by omega, us, SqL.of (hW.lst tg7 hD), by omega⟩
    rotate_left
    · refine ⟨_, rfl, iteT (ans7 H13 hW ?_)⟩
      have c4 : ¬ ps.all npB = true := fun c => by
        have hf' : (ps[j]?).elim false npB = false := hf
        rw [List.getElem?_eq_getElem hj] at hf'
        have := List.all_eq_true.mp c ps[j] (List.getElem_mem hj)
        have hf' : npB ps[j] = false := hf'
        rw [hf'] at this
        cases this
      rw [if_neg c4] at hsm
      exact hsm
    have c4 : ps.all npB = true := List.all_eq_true.mpr fun x hx => by
      obtain ⟨j, hj⟩ := List.getElem?_of_mem hx
      have hlt := (List.getElem?_eq_some_iff.mp hj).1
      have := hall j hlt
      have this : (ps[j]?).elim false npB = true := this
      rw [hj] at this
      exact this
    rw [if_pos c4] at hsm
    refine ⟨_, rfl, iteF ?_⟩
    have st13 := st7.trans hW
    have hD13 := hW.lst tg7 hD
    have hTl13 := hW.lst tg7 hTl7
    clear hD hus7 hT hW ans7 hall hTl7
    -- put to the others
    refine ⟨_, rfl, .inl ⟨rfl, _, SqL.of hTl13⟩, _, rfl, Tl, D, tv, us, rfl, rfl, hTl13, hD13, small (show tv.length + us.length ≤ 1000 by omega), ?_⟩
    have st14 : SamTs Ts H (upd H13 Tl (.lst (tv ++ us))) := SamTs.own tg st13 nTl
    have hD14 : upd H13 Tl (.lst (tv ++ us)) D = some (.lst us) := by
      rw [upd_ne nDT]
      exact hD13
    have hTl14 : upd H13 Tl (.lst (tv ++ us)) Tl = some (.lst (tv ++ us)) := upd_same
    clear hD13 hTl13 st13 st7
    generalize upd H13 Tl (.lst (tv ++ us)) = H13 at *
    have st13 := st14
    have hD13 := hD14
    -- their rests
    refine ⟨_, rfl, D, rfl, ⟨us, SqL.of hD13⟩, fun D2 nD2 => ?_⟩
    refine lc_it (walk_list (xs := us)) (fun j H'' => Same H13 H'' ∧ ∃ vs, H'' D2 = some (.lst vs) ∧ OrsAt H H'' ((ps.take j).map restT) vs) ⟨same_new nD2, [], upd_same, rfl⟩ (fun j H'' _ hP => SqL.of (hP.1 _ _ hD13)) (fun j y H14 H15 hj hP hY => ?_) (fun H14 hP => ?_)
    · obtain ⟨rfl, hy⟩ := hY
      obtain ⟨sm, vs, hD2, hvs⟩ := hP
      obtain ⟨x, hx, hxa⟩ := ThsAt.get hus hy
      have lv := OrsAt.len hvs
      rw [List.length_map, List.length_take] at lv
      refine ⟨rfl, yes (iteT ⟨rfl, _, rfl, y, x, H, rfl, hxa, Kpt.of tg (st13.sm sm), List.all_eq_true.mp c4 x (List.mem_of_getElem? hx), fun H16 u sm16 hu => ?_⟩)⟩
      have hD16 := sm16 _ _ hD2
      refine ⟨vs, hD16, small1000 (by omega), fun b o e => by rw [upd_ne (ne_of_none e nD2)]; exact sm16 _ _ (sm _ _ e), vs ++ [u], upd_same, ?_⟩
      rw [List.take_add_one, hx, List.map_append]
      refine OrsAt.snoc ?_ (OrsAt.mono ((STup.of sm16).trans (STup.lst hD16)) hvs)
      rcases hu with hu | ⟨e1, a, e2, h3⟩
      · exact .inl hu
      · exact .inr ⟨e1, a, e2, STup.lst hD16 _ _ h3⟩
    obtain ⟨sm, vs, hD2, hvs⟩ := hP
    rw [lu, List.take_length] at hvs
    have lnx : (ps.map restT).length ≤ 401 := by
      rw [List.length_map]
      omega
    refine ⟨st13.sm sm, ps.map restT, vs, tv ++ us, D2, Tl, m + ps.length, _, _, _, _, hD2, hvs, (fun x hx => by
      obtain ⟨p, hp, rfl⟩ := List.mem_map.mp hx
      exact (okp p hp).rest), lnx, by omega, nTl, sm _ _ hTl14, (by rw [List.length_append]; omega), (by rw [en2]; exact hsm), rfl⟩
  · obtain ⟨st, ts, ws, tv, R, Tl, m, s3, s4, s5, s6, hRl, hors, hol, hll, hm, nTl, hTl, ltv, hsm, rfl⟩ := hP
    exact qn hsm.symm H' st
theorem ok_binds {f : Addr} {fd : FuncData} {k : Nat} (F : Fun K "binds_well" "binds_well" sBinds f fd) (ml : mg "len" = none) (ms : mg "set" = none) :
    FnOk P w K mg base CX0 (k + 1) f fd ["free", "bound"] (spBinds Ts) := by
  refine F.ok scBinds (fun vs H Q E h => ?_) (fun cdv A outer s H vs Q E hr h => ?_)
  · obtain ⟨_, _, _, _, rfl, _⟩ := h
    rfl
  obtain ⟨Fl, Bl, fs, bs, rfl, hF, hB, lf, lb, tg, q⟩ := h
  refine ⟨_, pss_one (ps_ret (pe_and (pe_cmpR op_eq (pe_callB cr_lenTx (by rfl) ml PySem.boot_len (pa_cons (pe_callTy (cr_setTx rfl) (by rfl) ms (by decide +kernel) (pa_cons (pv 1) pa_nil)) pa_nil)) (pe_callB call_len_seq (by rfl) ml PySem.boot_len (pa_cons (pv 1) pa_nil)) (nomark _))
      (pe_one (pe_cmpR op_eq (pe_callB cr_lenTx (by rfl) ml PySem.boot_len (pa_cons (pe_op op_andTx (pe_callTy (cr_setTx rfl) (by rfl) ms (by decide +kernel) (pa_cons (pv 1) pa_nil)) (pe_callTy (cr_setTx rfl) (by rfl) ms (by decide +kernel) (pa_cons (pv 0) pa_nil))) pa_nil)) pe_int (nomark _))))), ?_⟩
  have eb : scanBound = 4096 := rfl
  have st2 := SamTs.refl tg
  refine ⟨_, rfl, Bl, bs, rfl, SqL.of hB, by omega, fun p L np nd hm hL => ?_⟩
  refine ⟨p, L, rfl, upd_same, ?_⟩
  refine ⟨_, rfl, Bl, _, rfl, .inl (SqL.of (kn hB np)), rfl, _, rfl, ?_⟩
  have st3 := st2.new (o := TxO P w p L) np
  have el : decide (V.int (L.length : Nat) = V.int ((bs.map V.str).length : Nat)) = decide (L.length = bs.length) := by
    rw [List.length_map]
    by_cases e : L.length = bs.length
    · rw [e, decide_eq_true rfl, decide_eq_true rfl]
    · rw [decide_eq_false e, decide_eq_false (by intro h; exact e (by have := V.int.inj h; omega))]
  rw [el]
  by_cases c2 : L.length = bs.length
  rotate_left
  · refine iteD (decide_eq_false c2) (q _ false st3 ⟨(fun e => by cases e), fun ⟨hn, _⟩ => absurd ?_ c2⟩)
    exact Nat.le_antisymm (sub_len L bs nd fun x hx => (hm x).mp hx) (sub_len bs L hn fun x hx => (hm x).mpr hx)
  refine iteU (decide_eq_true c2) ?_
  have bnd : bs.Nodup := nodup_of_len nd (fun x hx => (hm x).mpr hx) c2 (fun x hx => (hm x).mp hx)
  refine ⟨_, rfl, Bl, bs, rfl, SqL.of (kn hB np), by omega, fun p1 L1 np1 nd1 hm1 _ => ?_⟩
  have st4 := st3.new (o := TxO P w p1 L1) np1
  refine ⟨_, rfl, Fl, fs, rfl, SqL.of (kn (kn hF np) np1), by omega, fun p2 L2' np2 nd2 hm2 _ => ?_⟩
  have st5 := st4.new (o := TxO P w p2 L2') np2
  have n12 : p1 ≠ p2 := fun z => by
    rw [← z] at np2
    have u : upd (upd H p (TxO P w p L)) p1 (TxO P w p1 L1) p1 = some (TxO P w p1 L1) := upd_same
    rw [show upd (upd H p (TxO P w p L)) p1 (TxO P w p1 L1) p1 = none from np2] at u
    cases u
  have l1 := sub_len L1 bs nd1 fun x hx => (hm1 x).mp hx
  have l2 := sub_len L2' fs nd2 fun x hx => (hm2 x).mp hx
  refine ⟨p1, p2, L1, L2', rfl, rfl, n12, kn upd_same np2, upd_same, by omega, by omega, fun p3 L3 np3 nd3 hm3 => ?_⟩
  refine ⟨p3, L3, rfl, upd_same, rfl, ?_⟩
  refine q _ _ (st5.new np3) ⟨fun e => ⟨bnd, fun x hb hf => ?_⟩, fun ⟨_, ap⟩ => ?_⟩
  · have e0 : L3.length = 0 := by
      have := V.int.inj (of_decide_eq_true e)
      omega
    have e1 := List.length_eq_zero_iff.mp e0
    have hx := (hm3 x).mpr ⟨(hm1 x).mpr hb, (hm2 x).mpr hf⟩
    rw [e1] at hx
    cases hx
  · have e3 : L3 = [] := by
      cases L3 with
      | nil => rfl
      | cons x l =>
        obtain ⟨g1, g2⟩ := (hm3 x).mp List.mem_cons_self
        exact absurd ((hm2 x).mp g2) (ap x ((hm1 x).mp g1))
    rw [e3]
    exact decide_eq_true rfl
theorem ok_houseG {f fS fC fB fN fR : Addr} {fd fdS fdC fdB : FuncData} {t24 t400 : Tok} (F : Fun K "is_house" "is_house" sHouse f fd)
    (mD : mg "MOST_DEEP" = some (.int 24 t24)) (mP : mg "MOST_PARTS" = some (.int 400 t400)) (mN : mg "is_named_part" = some (.ref fN)) (mR : mg "rest_of" = some (.ref fR))
    (GS : FnOk P w K mg base CX0 5 fS fdS psW (spPartsG Ts fN fR)) (bS : Binds K fdS psW []) (kS : PySem.W.keepIn K (.ref fS) = true) (mS : mg "parts_within" = some (.ref fS))
    (GB : FnOk P w K mg base CX0 1 fB fdB ["free", "bound"] (spBinds Ts)) (bB : Binds K fdB ["free", "bound"] []) (kB : PySem.W.keepIn K (.ref fB) = true) (mB : mg "binds_well" = some (.ref fB))
    (GC : FnOk P w K mg base CX0 27 fC fdC ["row"] (spCallings 25)) (bC : Binds K fdC ["row"] []) (kC : PySem.W.keepIn K (.ref fC) = true) (mC : mg "callings_of" = some (.ref fC)) :
    FnOk P w K mg base CX0 28 f fd ["thing"] (spHouseG Ts) := by
  refine F.ok scHouse (fun vs H Q E h => ?_) (fun cdv A outer s H vs Q E hr h => ?_)
  · obtain ⟨_, _, rfl, _⟩ := h
    rfl
  obtain ⟨v, t, rfl, ht, ok, tg, q⟩ := h
  refine ⟨_, pss_cons (ps_if (pt_cmpR op_isN (pe_call GS (hr.mono (by decide)) (by rfl) mS kS bS .nil pass0 (pa_cons (pv 0) (pa_cons (pe_glob (v := .int 400) (by rfl) mP ⟨_, rfl⟩) (pa_cons (pe_glob (v := .int 24) (by rfl) mD ⟨_, rfl⟩) (pa_cons (pe_glob (v := .ref fN) (by rfl) mN rfl) (pa_cons (pe_glob (v := .ref fR) (by rfl) mR rfl) pa_nil)))))) pe_non (nomark _)) (pss_one (ps_ret pe_bl)) pss_nil)
    (pss_cons (ps_asg (pe_call GC hr (by rfl) mC kC bC .nil pass0 (pa_cons (pv 0) pa_nil)) (pg_tup rfl (pgs_cons (pg_name (i := 1) scHouse.nd rfl (.inl rfl)) (pgs_cons (pg_name (i := 2) scHouse.nd rfl (.inl rfl)) pgs_nil))))
    (pss_one (ps_ret (pe_call GB (hr.mono (by decide)) (by rfl) mB kB bB .nil pass0 (pa_cons (pv 1) (pa_cons (pv 2) pa_nil)))))), ?_⟩
  refine ⟨_, rfl, v, t, rfl, ht, ok, tg, fun c' H1 st1 => ?_, fun c H1 a1 st1 => ?_⟩
  · refine ⟨rfl, _, rfl, iteT (q H1 false st1 ⟨(fun e => by cases e), fun ⟨r, e, hh⟩ => ?_⟩)⟩
    have c := (small_iff ok).mpr ⟨r, e, hh.ok, hh.size, hh.deep⟩
    rw [c'] at c
    cases c
  refine ⟨rfl, _, rfl, iteF ?_⟩
  obtain ⟨r, rfl, hok, hsz, hdp⟩ := (small_iff ok).mp c
  have hR : RowAt H1 r v := (thRow_at ht).mono (st1.tup tg)
  refine ⟨_, rfl, v, r, rfl, hR, by omega, by omega, by omega, fun H2 t2 Fl Bl sm nF nB hne ht2 hF hB => ?_⟩
  refine ⟨t2, _, rfl, SqT.of ht2, rfl, _, _, rfl, _, _, rfl, rfl, ?_⟩
  have lf := frR_len r []
  have lb := bdR_len r
  have st2 := st1.sm sm
  have inj : ∀ r', thRow r = thRow r' → HouseR r' → HouseR r := fun r' e hh => by rw [thRow_inj e]; exact hh
  refine ⟨_, rfl, _, rfl, Fl, Bl, frR [] r, bdR r, rfl, hF, hB, by omega, by omega, st2.2, fun H3 b st3 e => q H3 b (st2.trans st3) ⟨fun hb => ?_, fun ⟨r', e', hh⟩ => ?_⟩⟩
  · obtain ⟨bnd, ap⟩ := e.mp hb
    exact ⟨r, rfl, hok, hsz, hdp, bnd, ap⟩
  · have hh' := inj r' e' hh
    exact e.mpr ⟨hh'.nd, hh'.apart⟩
end
end K19

set_option Elab.async false
set_option linter.all false
set_option maxRecDepth 100000
set_option maxHeartbeats 4000000
namespace K19
open PySem PySem.Spec PyProof.Rows L2 Wk GxR
abbrev sFreed : Stmt := topS 30
abbrev sPFreed : Stmt := topS 31
abbrev sSettled : Stmt := topS 32
abbrev nmFr : List Str := ["number", "row", "parts", "part", "told"]
theorem scFreed : FnScope nmFr ["number", "row"] (defScope sFreed) := ⟨rfl, rfl, rfl, by decide +kernel, rfl, by decide +kernel, by decide +kernel⟩
theorem scPFreed : FnScope ["number", "part", "rest"] ["number", "part"] (defScope sPFreed) := ⟨rfl, rfl, rfl, by decide +kernel, rfl, by decide +kernel, by decide +kernel⟩
theorem scSettled : FnScope ["house"] ["house"] (defScope sSettled) := ⟨rfl, rfl, rfl, by decide +kernel, rfl, by decide +kernel, by decide +kernel⟩
section
variable {P : Program} {w : World} {K : PySem.W.Frag} {mg : Str → Option Value} {base : Heap} {Ts : List Addr}
theorem ok_freed {f fP : Addr} {fd fdP : FuncData} {n k : Nat} (F : Fun K "freed" "freed" sFreed f fd) (mt : mg "tuple" = none)
    (GP : FnOk P w K mg base CX0 k fP fdP ["number", "part"] (spPFreed n)) (bP : Binds K fdP ["number", "part"] []) (kP : PySem.W.keepIn K (.ref fP) = true) (mP : mg "part_freed" = some (.ref fP)) :
    FnOk P w K mg base CX0 (k + 1) f fd ["number", "row"] (spFreed (n + 1)) := by
  refine F.ok scFreed (fun vs H Q E h => ?_) (fun cdv A outer s H vs Q E hr h => ?_)
  · obtain ⟨_, _, _, rfl, _⟩ := h
    rfl
  obtain ⟨k0, v, r, rfl, hR, hd, hs, g, hk, q⟩ := h
  refine ⟨_, pss_cons (ps_set (i := 2) scFreed.nd rfl (.inl rfl) (pe_lst pa_nil))
    (pss_cons (ps_for PassesOwn.never rfl (pi_tup (pv 1)) (pg_name (i := 3) scFreed.nd rfl (.inl rfl))
      (pss_cons (ps_asg (pe_call GP hr (by rfl) mP kP bP .nil pass0 (pa_cons (pv 0) (pa_cons (pv 3) pa_nil))) (pg_tup rfl (pgs_cons (pg_name (i := 0) scFreed.nd rfl (.inl rfl)) (pgs_cons (pg_name (i := 4) scFreed.nd rfl (.inl rfl)) pgs_nil))))
      (pss_one (ps_expr (pe_bm PySem.F.plainAttrs_list PySem.F.slot_list_extend PySem.F.type_list_extend mt_extT (pv 2) (pa_cons (pv 4) pa_nil))))))
    (pss_one (ps_ret (pe_tup (pa_cons (pv 0) (pa_cons (pe_callTy call_tuple_of (by rfl) mt (by decide +kernel) (pa_cons (pv 2) pa_nil)) pa_nil)))))), ?_⟩
  obtain ⟨a, xs, rfl, ha, hps⟩ := hR
  have lx := PartsAt.len hps
  refine ⟨(show 0 ≤ sizeLine by decide), fun D nD => ?_⟩
  refine ⟨_, rfl, a, rfl, ⟨_, SqT.of (kn ha nD)⟩, for_it (walk_tup (xs := xs)) (fun i σ H' => Same H H' ∧ (∃ us, H' D = some (.lst us) ∧ PartsAt H' (frdR (n + 1) k0 (r.take i)).2 us) ∧ ∃ s3 s4 : Option V, σ = [some (.int (frdR (n + 1) k0 (r.take i)).1), some (.ref a), some (.ref D), s3, s4])
    ⟨same_new nD, ⟨[], upd_same, rfl⟩, _, _, rfl⟩ (fun i σ H' _ hP => SqT.of (hP.1 _ _ ha)) (fun i y σ H1 H2 hi hP hY => ?_) (fun σ H' hP => ?_)⟩
  · obtain ⟨rfl, hy⟩ := hY
    obtain ⟨sm, ⟨us, hD, hus⟩, s3, s4, rfl⟩ := hP
    obtain ⟨p, hp, hpa⟩ := PartsAt.get hps hy
    have pm : p ∈ r := List.mem_of_getElem? hp
    have d1 := deepR.mem p pm
    have tk : r.take (i + 1) = r.take i ++ [p] := by rw [List.take_add_one, hp]; rfl
    have z1 := sizeR_take r (i + 1)
    rw [tk, sizeR_app, show sizeR [p] = sizeP p from Nat.add_zero _] at z1
    have dt := deepR_take r i
    have zt := sizeR_take r i
    have fo := frd_ok (n + 1) k0 (r.take i) (by omega) (g.take i) (by omega)
    have fhi := fo.hi
    have fsz := fo.size
    have fln := len_sizeR (frdR (n + 1) k0 (r.take i)).2
    have e1 : frdR (n + 1) k0 (r.take (i + 1)) = ((frdP (frdR n) (frdR (n + 1) k0 (r.take i)).1 p).1, (frdR (n + 1) k0 (r.take i)).2 ++ (frdP (frdR n) (frdR (n + 1) k0 (r.take i)).1 p).2) := by
      rw [tk]
      exact frdL_snoc (frdR n) (r.take i) k0 p
    have fo2 := frd_ok (n + 1) k0 (r.take (i + 1)) (by have := deepR_take r (i + 1); omega) (g.take (i + 1)) (by have := sizeR_take r (i + 1); omega)
    have fs2 := fo2.size
    have fl2 := len_sizeR (frdR (n + 1) k0 (r.take (i + 1))).2
    have z2 := sizeR_take r (i + 1)
    refine ⟨_, rfl, _, rfl, _, y, p, rfl, PartAt.mono (STup.of sm) p y hpa, by omega, by have := sizeR.mem p pm; omega, g.mem p pm, by omega, fun H3 u sm3 hT => ?_⟩
    obtain ⟨t, u2, rfl, ht, b, zs, rfl, hb, hzs⟩ := hT
    refine ⟨t, _, rfl, SqT.of ht, rfl, _, _, rfl, _, _, rfl, rfl, ?_⟩
    have hD3 := sm3 _ _ hD
    have lu := PartsAt.len hus
    have lz := PartsAt.len hzs
    rw [e1] at fl2 fs2
    have fl3 : ((frdR (n + 1) k0 (r.take i)).2 ++ (frdP (frdR n) (frdR (n + 1) k0 (r.take i)).1 p).2).length ≤ 1000 := by dsimp only at fl2 fs2; omega
    rw [List.length_append] at fl3
    refine ⟨_, rfl, .inl ⟨rfl, _, SqL.of hD3⟩, _, rfl, D, b, us, zs, rfl, rfl, hD3, SqT.of hb, small (by omega), fun b o e => by rw [upd_ne (ne_of_none e nD)]; exact sm3 _ _ (sm _ _ e), ⟨us ++ zs, upd_same, ?_⟩, ?_⟩
    · rw [e1]
      exact PartsAt.app (PartsAt.mono (STup.lst hD3) _ _ hzs) (PartsAt.mono ((STup.of sm3).trans (STup.lst hD3)) _ _ hus)
    · rw [e1]
      exact ⟨_, _, rfl⟩
  · obtain ⟨sm, ⟨us, hD, hus⟩, s3, s4, rfl⟩ := hP
    rw [lx, List.take_length] at hus ⊢
    refine ⟨_, rfl, _, rfl, D, us, rfl, .inl ⟨SqL.of hD, fun t nt => ?_⟩⟩
    refine ⟨(show 2 ≤ sizeLine by decide), fun t2 nt2 => ?_⟩
    exact q _ _ ((sm.trans (same_new nt)).trans (same_new nt2)) ⟨t2, .ref t, rfl, upd_same, t, us, rfl, kn upd_same nt2, PartsAt.mono ((STup.new nt).trans (STup.new nt2)) _ _ hus⟩
theorem ok_pfreed {f fF fC : Addr} {fd fdF fdC : FuncData} {n k c : Nat} (F : Fun K "part_freed" "part_freed" sPFreed f fd) (hk13 : 2 * c + 1 ≤ k) (hn : n ≤ c)
    (GF : FnOk P w K mg base CX0 k fF fdF ["number", "row"] (spFreed n)) (bF : Binds K fdF ["number", "row"] []) (kF : PySem.W.keepIn K (.ref fF) = true) (mF : mg "freed" = some (.ref fF))
    (GC : FnOk P w K mg base CX0 (2 * c + 1) fC fdC ps3 (spCalled c)) (bC : Binds K fdC ps3 []) (kC : PySem.W.keepIn K (.ref fC) = true) (mC : mg "called" = some (.ref fC)) :
    FnOk P w K mg base CX0 (k + 1) f fd ["number", "part"] (spPFreed n) := by
  refine F.ok scPFreed (fun vs H Q E h => ?_) (fun cdv A outer s H vs Q E hr h => ?_)
  · obtain ⟨_, _, _, rfl, _⟩ := h
    rfl
  obtain ⟨k0, v, p, rfl, hp, hd, hs, g, hk, q⟩ := h
  have r13 : Room (2 * c + 1) _ := hr.mono hk13
  refine ⟨_, pss_cons (ps_if (pt_cmpR op_eq (pe_ix ix_tup (pv 1) pe_int (fun _ _ => rfl)) pe_str (nomark _))
      (pss_cons (ps_asg (pe_call GF hr (by rfl) mF kF bF .nil pass0 (pa_cons (pv 0) (pa_cons (pe_ix ix_tup (pv 1) pe_int (fun _ _ => rfl)) pa_nil))) (pg_tup rfl (pgs_cons (pg_name (i := 0) scPFreed.nd rfl (.inl rfl)) (pgs_cons (pg_name (i := 2) scPFreed.nd rfl (.inl rfl)) pgs_nil))))
      (pss_one (ps_ret (pe_tup (pa_cons (pv 0) (pa_cons (pe_tup (pa_cons (pe_tup (pa_cons pe_str (pa_cons (pe_ix ix_tup (pv 1) pe_int (fun _ _ => rfl)) (pa_cons (pv 2) pa_nil)))) pa_nil)) pa_nil)))))) pss_nil)
    (pss_cons (ps_if (pt_cmpR op_eq (pe_ix ix_tup (pv 1) pe_int (fun _ _ => rfl)) pe_str (nomark _))
      (pss_one (ps_ret (pe_call GF hr (by rfl) mF kF bF .nil pass0 (pa_cons (pe_op op_add (pv 0) pe_int) (pa_cons (pe_call GC r13 (by rfl) mC kC bC .nil pass0 (pa_cons (pe_ix ix_tup (pv 1) pe_int (fun _ _ => rfl)) (pa_cons (pe_ix ix_tup (pv 1) pe_int (fun _ _ => rfl)) (pa_cons
        (pe_joined (.cons (pe_fmt (pe_ix ix_tup (pv 1) pe_int (fun _ _ => rfl))) (.cons pe_str (.cons (pe_fmt (pv 0)) .nil)))) pa_nil)))) pa_nil))))) pss_nil)
    (pss_one (ps_ret (pe_tup (pa_cons (pv 0) (pa_cons (pe_tup (pa_cons (pv 1) pa_nil)) pa_nil)))))), ?_⟩
  have stay : ∀ (a : Addr) (xs : List V) (wd : Str), v = .ref a → H a = some (.tup xs) → atI xs 0 = some (.str wd) → decide (V.str wd = V.str "room") = false → decide (V.str wd = V.str "new") = false → frdP (frdR n) k0 p = (k0, [p]) →
      ∀ t1, H t1 = none → ∀ t2, upd H t1 (.tup [v]) t2 = none → Q (.ref t2) (upd (upd H t1 (.tup [v])) t2 (.tup [.int k0, .ref t1])) := by
    intro a xs wd e ha h0 _ _ ef t1 n1 t2 n2
    refine q _ _ ((same_new n1).trans (same_new n2)) ?_
    rw [ef]
    exact ⟨t2, .ref t1, rfl, upd_same, t1, [v], rfl, kn upd_same n2, PartsAt.one (PartAt.mono ((STup.new n1).trans (STup.new n2)) p v hp)⟩
  cases p with
  | say m =>
    have hp2 := hp
    obtain ⟨a, rfl, ha⟩ := hp2
    refine ⟨_, rfl, a, _, 0, _, rfl, rfl, SqT.of ha, atI_nat (j := 0) rfl, rfl, _, rfl, iteD (by decide +kernel) ?_⟩
    refine ⟨_, rfl, a, _, 0, _, rfl, rfl, SqT.of ha, atI_nat (j := 0) rfl, rfl, _, rfl, iteD (by decide +kernel) ?_⟩
    exact ⟨_, rfl, _, rfl, (show 1 ≤ sizeLine by decide), fun t1 n1 => ⟨(show 2 ≤ sizeLine by decide), fun t2 n2 => stay a _ "say" rfl ha (atI_nat (j := 0) rfl) (by decide +kernel) (by decide +kernel) rfl t1 n1 t2 n2⟩⟩
  | again q' =>
    have hp2 := hp
    obtain ⟨a, b, xs, rfl, ha, _⟩ := hp2
    refine ⟨_, rfl, a, _, 0, _, rfl, rfl, SqT.of ha, atI_nat (j := 0) rfl, rfl, _, rfl, iteD (by decide +kernel) ?_⟩
    refine ⟨_, rfl, a, _, 0, _, rfl, rfl, SqT.of ha, atI_nat (j := 0) rfl, rfl, _, rfl, iteD (by decide +kernel) ?_⟩
    exact ⟨_, rfl, _, rfl, (show 1 ≤ sizeLine by decide), fun t1 n1 => ⟨(show 2 ≤ sizeLine by decide), fun t2 n2 => stay a _ "again" rfl ha (atI_nat (j := 0) rfl) (by decide +kernel) (by decide +kernel) rfl t1 n1 t2 n2⟩⟩
  | oth wd m q' =>
    have hp2 := hp
    obtain ⟨a, b, xs, rfl, ha, hb, hps⟩ := hp2
    have v1 : deepP (Part.oth wd m q') = deepR q' + 1 := rfl
    have v2 : sizeP (Part.oth wd m q') = sizeR q' + 1 := rfl
    have hrow : RowAt H q' (.ref b) := ⟨b, xs, rfl, hb, hps⟩
    by_cases c1 : wd = .room
    · subst c1
      refine ⟨_, rfl, a, _, 0, _, rfl, rfl, SqT.of ha, atI_nat (j := 0) rfl, rfl, _, rfl, iteU (by decide +kernel) ?_⟩
      refine ⟨_, rfl, _, rfl, a, _, 2, _, rfl, rfl, SqT.of ha, atI_nat (j := 2) rfl, k0, .ref b, q', rfl, hrow, by omega, by omega, g.rest, by omega, fun H3 u sm3 hT => ?_⟩
      obtain ⟨t, u2, rfl, ht, hrow2⟩ := hT
      refine ⟨t, _, rfl, SqT.of ht, rfl, _, _, rfl, _, _, rfl, rfl, ?_⟩
      obtain ⟨b2, zs, rfl, hb2, hzs⟩ := hrow2
      refine ⟨_, rfl, _, rfl, a, _, 1, _, rfl, rfl, SqT.of (sm3 _ _ ha), atI_nat (j := 1) rfl, _, rfl, (show 3 ≤ sizeLine by decide), fun t1 n1 => ⟨(show 1 ≤ sizeLine by decide), fun t2 n2 => ⟨(show 2 ≤ sizeLine by decide), fun t3 n3 => ?_⟩⟩⟩
      refine q _ _ (((sm3.trans (same_new n1)).trans (same_new n2)).trans (same_new n3)) ⟨t3, .ref t2, rfl, upd_same, t2, [.ref t1], rfl, kn upd_same n3, PartsAt.one ⟨t1, b2, zs, rfl, kn (kn upd_same n2) n3, kn (kn (kn hb2 n1) n2) n3, PartsAt.mono (((STup.new n1).trans (STup.new n2)).trans (STup.new n3)) _ _ hzs⟩⟩
    · have e1 : decide (V.str wd.str = V.str "room") = false := by
        cases wd with
        | room => exact absurd rfl c1
        | _ => decide +kernel
      refine ⟨_, rfl, a, _, 0, _, rfl, rfl, SqT.of ha, atI_nat (j := 0) rfl, rfl, _, rfl, iteD e1 ?_⟩
      by_cases c2 : wd = .new
      · subst c2
        obtain ⟨hx, hs6⟩ := g.out rfl
        refine ⟨_, rfl, a, _, 0, _, rfl, rfl, SqT.of ha, atI_nat (j := 0) rfl, rfl, _, rfl, iteU (by decide +kernel) ?_⟩
        have lm := hs6.len
        have shp := priv_sh (k := k0) hs6 (by omega)
        have lp := shp.len
        have e3 : Str.empty ++ m ++ "." ++ Str.ofString (toString (k0 : Int)) = priv m k0 := by
          rw [emp_app]
          rfl
        have la : (m ++ ".").length = m.length + 1 := by rw [app_len]; rfl
        refine ⟨_, rfl, k0, 1, rfl, rfl, ?_⟩
        refine ⟨_, rfl, a, _, 2, _, rfl, rfl, SqT.of ha, atI_nat (j := 2) rfl, _, rfl, a, _, 1, _, rfl, rfl, SqT.of ha, atI_nat (j := 1) rfl, _, rfl, a, _, 1, _, rfl, rfl, SqT.of ha, atI_nat (j := 1) rfl, ?_⟩
        refine .inl ⟨m, rfl, small (by omega), m, rfl, (by rw [emp_app]; exact small (by omega)), ".", rfl, (by rw [emp_app, la]; exact small (by omega)), _, rfl, .inr ⟨k0, rfl, num_log (by omega), _, rfl, ?_, ?_⟩⟩
        · rw [e3]; exact small (by omega)
        · rw [e3]
          refine ⟨.ref b, m, priv m k0, q', rfl, hrow, by omega, by have := len_sizeR q'; omega, by omega, fun H3 u sm3 hu => ?_⟩
          refine ⟨k0 + 1, u, _, rfl, hu, by rw [calledR_deep]; omega, by rw [calledR_size]; omega, g.rest.called hx shp, by rw [calledR_size]; omega, fun H4 u4 sm4 hT => q H4 u4 (sm3.trans sm4) hT⟩
      · have e2 : decide (V.str wd.str = V.str "new") = false := by
          cases wd with
          | new => exact absurd rfl c2
          | _ => decide +kernel
        have ef : frdP (frdR n) k0 (Part.oth wd m q') = (k0, [Part.oth wd m q']) := by
          cases wd with
          | room => exact absurd rfl c1
          | new => exact absurd rfl c2
          | _ => rfl
        refine ⟨_, rfl, a, _, 0, _, rfl, rfl, SqT.of ha, atI_nat (j := 0) rfl, rfl, _, rfl, iteD e2 ?_⟩
        exact ⟨_, rfl, _, rfl, (show 1 ≤ sizeLine by decide), fun t1 n1 => ⟨(show 2 ≤ sizeLine by decide), fun t2 n2 => stay a _ wd.str rfl ha (atI_nat (j := 0) rfl) e1 e2 ef t1 n1 t2 n2⟩⟩
theorem freed_none {f : Addr} {fd : FuncData} {k : Nat} : FnOk P w K mg base CX0 k f fd ["number", "row"] (spFreed 0) := by
  have no : ∀ vs H Q E, ¬ spFreed 0 vs H Q E := fun vs H Q E h => by
    obtain ⟨_, _, _, _, _, h1, _⟩ := h
    omega
  exact ⟨fun vs H Q E h => absurd h (no vs H Q E), fun A outer s H args us vs Q E _ _ _ _ h => absurd h (no vs H Q E)⟩
theorem freed_ok {fP fF fC : Addr} {fdP fdF fdC : FuncData} {c : Nat} (FF : Fun K "freed" "freed" sFreed fF fdF) (FP : Fun K "part_freed" "part_freed" sPFreed fP fdP) (mt : mg "tuple" = none)
    (bF : Binds K fdF ["number", "row"] []) (mF : mg "freed" = some (.ref fF)) (bP : Binds K fdP ["number", "part"] []) (mP : mg "part_freed" = some (.ref fP))
    (GC : FnOk P w K mg base CX0 (2 * c + 1) fC fdC ps3 (spCalled c)) (bC : Binds K fdC ps3 []) (kC : PySem.W.keepIn K (.ref fC) = true) (mC : mg "called" = some (.ref fC)) :
    ∀ n : Nat, n ≤ c + 1 → FnOk P w K mg base CX0 (2 * c + 1 + 2 * n) fF fdF ["number", "row"] (spFreed n)
  | 0, _ => freed_none
  | n + 1, h => ok_freed FF mt (ok_pfreed FP (Nat.le_add_right _ _) (by omega) (freed_ok FF FP mt bF mF bP mP GC bC kC mC n (by omega)) bF FF.kp mF GC bC kC mC) bP FP.kp mP
theorem ok_settled {f fH fF : Addr} {fd fdH fdF : FuncData} {n k : Nat} (F : Fun K "settled" "settled" sSettled f fd)
    (GH : FnOk P w K mg base CX0 k fH fdH ["thing"] (spHouse Ts n)) (bH : Binds K fdH ["thing"] []) (kH : PySem.W.keepIn K (.ref fH) = true) (mH : mg "is_house" = some (.ref fH))
    (GF : FnOk P w K mg base CX0 k fF fdF ["number", "row"] (spFreed n)) (bF : Binds K fdF ["number", "row"] []) (kF : PySem.W.keepIn K (.ref fF) = true) (mF : mg "freed" = some (.ref fF)) :
    FnOk P w K mg base CX0 (k + 1) f fd ["house"] (spSettled Ts n) := by
  refine F.ok scSettled (fun vs H Q E h => ?_) (fun cdv A outer s H vs Q E hr h => ?_)
  · obtain ⟨_, _, rfl, _⟩ := h
    rfl
  obtain ⟨v, r, rfl, hR, hh, hd, g, tg, q⟩ := h
  refine ⟨_, pss_cons (ps_if (pt_not (pt_val (pe_call GH hr (by rfl) mH kH bH .nil pass0 (pa_cons (pv 0) pa_nil)))) (pss_one (⟨fun _ _ _ _ _ _ h => h.elim⟩ : PS _ _ (fun _ _ _ => False))) pss_nil)
    (pss_one (ps_ret (pe_call GF hr (by rfl) mF kF bF .nil pass0 (pa_cons pe_int (pa_cons (pv 0) pa_nil))))), ?_⟩
  have hz := hh.size
  refine ⟨_, rfl, v, r, rfl, hR, hh, hd, tg, fun H1 st1 => ⟨_, rfl, iteF ?_⟩⟩
  exact ⟨_, rfl, 1, v, r, rfl, hR.mono (st1.tup tg), hd, by omega, g, by omega, fun H2 u sm hT => q H2 u (st1.sm sm) hT⟩
end
end K19

set_option Elab.async false
set_option linter.all false
set_option maxRecDepth 100000
set_option maxHeartbeats 2000000
namespace K19
open PySem PySem.Spec PyProof.Rows L2 Wk
abbrev sLeft : Stmt := topS 59
abbrev sDigit : Stmt := topS 60
abbrev sNames : Stmt := topS 61
abbrev sPart : Stmt := topS 62
abbrev sRow : Stmt := topS 63
theorem scLeft : FnScope ["_law_cell", "_law_left_here", "_law_number", "_law_turn"] ["_law_cell"] (defScope sLeft) := ⟨rfl, rfl, rfl, by decide +kernel, rfl, by decide +kernel, by decide +kernel⟩
theorem scDigit : FnScope ["_law_left_here", "_law_many", "_law_found"] ["_law_left_here", "_law_many"] (defScope sDigit) := ⟨rfl, rfl, rfl, by decide +kernel, rfl, by decide +kernel, by decide +kernel⟩
theorem scNames : FnScope ["_law_left_here", "_law_many", "_law_letters", "_law_start", "_law_found", "_law_k", "_law_word", "_law_j"] ["_law_left_here", "_law_many"] (defScope sNames) := ⟨rfl, rfl, rfl, by decide +kernel, rfl, by decide +kernel, by decide +kernel⟩
theorem scPart : FnScope ["_law_left_here", "_law_room", "_law_scope", "_law_spare", "_law_way", "_law_name", "_law_own"] ["_law_left_here", "_law_room", "_law_scope", "_law_spare"] (defScope sPart) := ⟨rfl, rfl, rfl, by decide +kernel, rfl, by decide +kernel, by decide +kernel⟩
abbrev nmRow : List Str := ["_law_left_here", "_law_room", "_law_scope", "_law_spare", "_law_many", "_law_k"]
theorem scRow : FnScope nmRow ["_law_left_here", "_law_room", "_law_scope", "_law_spare"] (defScope sRow) := ⟨rfl, rfl, rfl, by decide +kernel, rfl, by decide +kernel, by decide +kernel⟩
section
variable {P : Program} {w : World} {K : PySem.W.Frag} {mg : Str → Option Value} {base : Heap}
/-! ### _law_left: a new list of one number -/
theorem ok_left {f : Addr} {fd : FuncData} {k : Nat} (F : Fun K "_law_left" "_law_left" sLeft f fd) (ma : mg "abs" = none) (mr : mg "range" = none) : FnOk P w K mg base CX0 (k + 1) f fd ["_law_cell"] spLeft := by
  refine F.ok scLeft (fun vs H Q E h => ?_) (fun cdv A outer s H vs Q E hr h => ?_)
  · obtain ⟨v, rfl, _⟩ := h
    rfl
  obtain ⟨c, rfl, q⟩ := h
  refine ⟨_, pss_cons (ps_set (i := 1) scLeft.nd rfl (.inl rfl) (pe_callB call_abs (by rfl) ma (by decide +kernel) (pa_cons (pv 0) pa_nil)))
    (pss_cons (ps_if (pt_cmpR op_lt (pv 1) (pe_op op_pow pe_int pe_int) (nomark _))
      (pss_cons (ps_set (i := 2) scLeft.nd rfl (.inl rfl) (pv 0))
      (pss_one (ps_for PassesOwn.never rfl (pi_range1 rfl mr (pa_cons pe_int pa_nil)) (pg_name (i := 3) scLeft.nd rfl (.inl rfl))
        (pss_cons (ps_set (i := 2) scLeft.nd rfl (.inl rfl) (pe_op op_mod (pe_op op_mul (pe_op op_add (pe_op op_mod (pv 2) pe_int) pe_int) pe_int) pe_int))
        (pss_cons (ps_set (i := 2) scLeft.nd rfl (.inl rfl) (pe_op op_add (pe_op op_mod (pe_op op_mul (pv 2) pe_int) pe_int) (pv 3)))
        (pss_one (ps_set (i := 1) scLeft.nd rfl (.inl rfl) (pe_op op_add (pe_op op_mul (pv 1) pe_int) (pv 2))))))))) pss_nil)
    (pss_one (ps_ret (pe_lst (pa_cons (pv 1) pa_nil))))), ?_⟩
  have one_le : (1 : Nat) ≤ sizeLine := by decide
  refine ⟨_, rfl, c, rfl, _, rfl, _, _, rfl, rfl, by unfold CPow; decide, _, _, rfl, rfl, _, rfl, ite2 (fun h => ?_) (fun h => ?_)⟩
  · refine ⟨_, rfl, 40, rfl, by decide, by decide, for_range (n := 40) (lo := 0) (fun _ σ H' => H' = H ∧ ∃ a d : Option V, ∃ i j : Int, σ = [a, some (.int i), some (.int j), d]) ⟨rfl, _, _, _, _, rfl⟩ (fun i σ H' hi hP => ?_) fun σ H' hP => ?_⟩
    · obtain ⟨rfl, a, d, x, y, rfl⟩ := hP
      refine ⟨_, rfl, _, _, rfl, rfl, pos1, _, _, rfl, rfl, _, _, rfl, rfl, .inr ⟨by decide, by decide⟩, _, _, rfl, rfl, pos1, ?_⟩
      refine ⟨_, rfl, _, _, rfl, rfl, .inr ⟨by decide, by decide⟩, _, _, rfl, rfl, pos2, _, rfl, _, _, rfl, rfl, ?_⟩
      refine ⟨_, rfl, _, _, rfl, rfl, .inr ⟨by decide, by decide⟩, _, rfl, _, _, rfl, rfl, ?_⟩
      exact ⟨rfl, _, _, _, _, rfl⟩
    · obtain ⟨rfl, a, d, x, y, rfl⟩ := hP
      exact ⟨_, rfl, one_le, fun p np => q p _ np⟩
  · exact ⟨_, rfl, one_le, fun p np => q p _ np⟩
/-! ### _law_digit -/
theorem ok_digit {f : Addr} {fd : FuncData} {k : Nat} (F : Fun K "_law_digit" "_law_digit" sDigit f fd) : FnOk P w K mg base CX0 (k + 1) f fd ["_law_left_here", "_law_many"] spDigit := by
  refine F.ok scDigit (fun vs H Q E h => ?_) (fun cdv A outer s H vs Q E hr h => ?_)
  · obtain ⟨L, n, m, rfl, _⟩ := h
    rfl
  obtain ⟨L, n, m, rfl, hL, h0, h1, q⟩ := h
  refine ⟨_, pss_cons (ps_set (i := 2) scDigit.nd rfl (.inl rfl) (pe_op op_mod (pe_ix ix_list (pv 0) pe_int (fun _ _ => rfl)) (pv 1)))
    (pss_cons (ps_asg (pe_op op_fdiv (pe_ix ix_list (pv 0) pe_int (fun _ _ => rfl)) (pv 1)) (pg_sub (pv 0) pe_int set_list))
    (pss_one (ps_ret (pv 2)))), ?_⟩
  refine ⟨_, rfl, L, _, 0, _, rfl, rfl, SqL.of hL, atI_nat (j := 0) rfl, _, rfl, _, _, rfl, rfl, h0, ?_⟩
  refine ⟨_, rfl, L, _, 0, _, rfl, rfl, SqL.of hL, atI_nat (j := 0) rfl, _, rfl, _, _, rfl, rfl, ⟨h0, h1⟩, ?_⟩
  refine ⟨_, rfl, L, _, 0, 0, rfl, rfl, hL, rfl, ?_⟩
  exact ⟨_, rfl, q _ _ (Int.emod_nonneg n (by omega)) (Int.emod_lt_of_pos n h0)⟩
/-! ### _law_names -/
theorem ok_names {f fD : Addr} {fd fdD : FuncData} (F : Fun K "_law_names" "_law_names" sNames f fd) (GD : FnOk P w K mg base CX0 1 fD fdD ["_law_left_here", "_law_many"] spDigit) (bD : Binds K fdD ["_law_left_here", "_law_many"] []) (kD : PySem.W.keepIn K (.ref fD) = true)
    (mD : mg "_law_digit" = some (.ref fD)) (mr : mg "range" = none) : FnOk P w K mg base CX0 2 f fd ["_law_left_here", "_law_many"] spNames := by
  refine F.ok scNames (fun vs H Q E h => ?_) (fun cdv A outer s H vs Q E hr h => ?_)
  · obtain ⟨L, n, m, rfl, _⟩ := h
    rfl
  obtain ⟨L, n, m, rfl, hL, hm, q⟩ := h
  refine ⟨_, pss_cons (ps_set (i := 2) scNames.nd rfl (.inl rfl) pe_str)
    (pss_cons (ps_set (i := 3) scNames.nd rfl (.inl rfl) (pe_call GD hr (by rfl) mD kD bD .nil pass0 (pa_cons (pv 0) (pa_cons pe_int pa_nil))))
    (pss_cons (ps_set (i := 4) scNames.nd rfl (.inl rfl) (pe_lst pa_nil))
    (pss_cons (ps_for PassesOwn.never rfl (pi_range1 rfl mr (pa_cons (pv 1) pa_nil)) (pg_name (i := 5) scNames.nd rfl (.inl rfl))
        (pss_cons (ps_set (i := 6) scNames.nd rfl (.inl rfl) (pe_ix ix_str (pv 2) (pe_op op_mod (pe_op op_add (pv 3) (pe_op op_mul pe_int (pv 5))) pe_int) (fun _ _ => rfl)))
        (pss_cons (ps_for PassesOwn.never rfl (pi_range1 rfl mr (pa_cons (pe_call GD hr (by rfl) mD kD bD .nil pass0 (pa_cons (pv 0) (pa_cons pe_int pa_nil))) pa_nil)) (pg_name (i := 7) scNames.nd rfl (.inl rfl))
          (pss_one (ps_set (i := 6) scNames.nd rfl (.inl rfl) (pe_op op_add_str (pv 6) (pe_ix ix_str pe_str (pe_call GD hr (by rfl) mD kD bD .nil pass0 (pa_cons (pv 0) (pa_cons pe_int pa_nil))) (fun _ _ => rfl))))))
        (pss_one (ps_expr (pe_bm PySem.F.plainAttrs_list PySem.F.slot_list_append PySem.F.type_list_append mt_append (pv 4) (pa_cons (pv 6) pa_nil)))))))
    (pss_one (ps_ret (pv 4)))))), ?_⟩
  refine ⟨_, rfl, L, n, 26, rfl, hL, by decide, by decide, fun st n1 st0 st1 => ?_⟩
  refine ⟨(show 0 ≤ sizeLine by decide), fun p np => ?_⟩
  have pL : p ≠ L := fun e => by
    rw [e, upd_same] at np
    cases np
  have nH : H p = none := by rw [upd_ne pL] at np; exact np
  have x1 : StL L H (upd (upd H L (.lst [.int n1])) p (.lst [])) := (StL.put n1).trans (StL.new upd_same np)
  refine ⟨_, rfl, (m : Int), rfl, by omega, by omega, for_range (n := m) (lo := 0) (fun i σ H' => StL L H H' ∧ ∃ zs : List Str, H' p = some (.lst (zs.map V.str)) ∧ zs.length = i ∧ (∀ j z, zs[j]? = some z → NameOf ((st.toNat + 5 * j) % 26) z) ∧
      ∃ s5 s6 s7 : Option V, σ = [some (.ref L), some (.int m), some (.str abc), some (.int st), some (.ref p), s5, s6, s7]) ⟨x1, [], upd_same, rfl, fun j z e => (by simp at e), _, _, _, rfl⟩ (fun i σ H' hi hP => ?_) fun σ H' hP => ?_⟩
  · obtain ⟨x2, zs, hp, hl, hn, s5, s6, s7, rfl⟩ := hP
    have ei : (st + 5 * (0 + (i : Int))) % 26 = (((st.toNat + 5 * i) % 26 : Nat) : Int) := by omega
    refine ⟨_, rfl, _, rfl, _, rfl, _, _, rfl, rfl, .inl ⟨by decide, by decide⟩, _, _, rfl, rfl, _, _, rfl, rfl, (show (0 : Int) < 26 by decide), ?_⟩
    refine ⟨abc, _, 97 + (st.toNat + 5 * i) % 26, rfl, rfl, by decide +kernel, by rw [ei]; exact atI_nat (abc_at _ (Nat.mod_lt _ (by decide))), ?_⟩
    obtain ⟨n2, hn2⟩ := x2.2
    refine ⟨_, rfl, L, n2, 6, rfl, hn2, by decide, by decide, fun d n3 d0 d1 => ?_⟩
    have x3 := x2.trans (StL.put (H := H') (L := L) n3)
    have hp3 : upd H' L (.lst [.int n3]) p = some (.lst (zs.map V.str)) := by rw [upd_ne pL]; exact hp
    refine ⟨d, rfl, Int.le_trans (by decide) d0, Int.lt_of_lt_of_le d1 (by decide), for_range (n := d.toNat) (lo := 0) (fun j σ H' => StL L H H' ∧ H' p = some (.lst (zs.map V.str)) ∧ ∃ (z : Str) (r : List Nat), z.cps.toList = (97 + (st.toNat + 5 * i) % 26) :: r ∧ r.length = j ∧ (∀ c ∈ r, c ∈ vow.cps.toList) ∧
      ∃ s5 s7 : Option V, σ = [some (.ref L), some (.int m), some (.str abc), some (.int st), some (.ref p), s5, some (.str z), s7]) ⟨x3, hp3, _, [], rfl, rfl, fun c hc => (nomatch hc), _, _, rfl⟩ (fun j σ H' hj hP => ?_) fun σ H' hP => ?_⟩
    · obtain ⟨x4, hp4, z, r, ez, hr1, hv, s5, s7, rfl⟩ := hP
      obtain ⟨n4, hn4⟩ := x4.2
      refine ⟨_, rfl, _, rfl, L, n4, 8, rfl, hn4, by decide, by decide, fun g n5 g0 g1 => ?_⟩
      obtain ⟨c, hc, hat, _⟩ := atX_lt (l := vow.cps.toList) g0 (by rw [vow_len]; exact g1)
      refine ⟨vow, g, c, rfl, rfl, by decide +kernel, hat, z, _, rfl, rfl, ?_, ?_⟩
      · have hz : z.length = r.length + 1 := by
          show z.cps.size = _
          rw [← Array.length_toList, ez, List.length_cons]
        exact small (by rw [hz]; show r.length + 1 + 1 ≤ 1000; omega)
      · refine ⟨x4.trans (StL.put n5), by rw [upd_ne pL]; exact hp4, _, r ++ [c], ?_, ?_, ?_, _, _, rfl⟩
        · rw [app_codes, ez, List.cons_append]
        · rw [List.length_append, hr1]
          rfl
        · intro e he
          rcases List.mem_append.mp he with u | u
          · exact hv e u
          · rw [List.mem_singleton.mp u]
            exact hc
    · obtain ⟨x4, hp4, z, r, ez, hr1, hv, s5, s7, rfl⟩ := hP
      refine ⟨_, rfl, .inl ⟨rfl, _, SqL.of hp4⟩, _, rfl, p, _, _, rfl, rfl, hp4, by rw [List.length_map]; exact small1000 (by omega), ?_⟩
      obtain ⟨n4, hn4⟩ := x4.2
      refine ⟨⟨fun b o nb e => ?_, n4, by rw [upd_ne (Ne.symm pL)]; exact hn4⟩, zs ++ [z], by rw [upd_same, List.map_append]; rfl, by rw [List.length_append, hl]; rfl, fun j y hy => ?_, _, _, _, rfl⟩
      · rw [upd_ne (ne_of_none e nH)]
        exact x4.1 b o nb e
      · by_cases hj : j < zs.length
        · rw [List.getElem?_append_left hj] at hy
          exact hn j y hy
        · have ej : j = i := by
            have := (List.getElem?_eq_some_iff.mp hy).1
            rw [List.length_append, List.length_singleton] at this
            omega
          rw [List.getElem?_append_right (by omega), show j - zs.length = 0 by omega] at hy
          rw [← Option.some.inj (show some z = some y from hy), ej]
          exact ⟨r, ez, by omega, hv⟩
  · obtain ⟨x2, zs, hp, hl, hn, s5, s6, s7, rfl⟩ := hP
    exact ⟨_, rfl, q H' p st.toNat zs x2 nH hp hl (by omega) hn⟩
/-! ### _law_part and _law_row, by the room that is left -/
abbrev ps4 : List Str := ["_law_left_here", "_law_room", "_law_scope", "_law_spare"]
theorem ok_part {f fD fR : Addr} {fd fdD fdR : FuncData} {n : Nat} (F : Fun K "_law_part" "_law_part" sPart f fd) (GD : FnOk P w K mg base CX0 1 fD fdD ["_law_left_here", "_law_many"] spDigit) (bD : Binds K fdD ["_law_left_here", "_law_many"] []) (kD : PySem.W.keepIn K (.ref fD) = true)
    (mD : mg "_law_digit" = some (.ref fD)) (ml : mg "len" = none) (Gr : FnOk P w K mg base CX0 (2 * n + 1) fR fdR ps4 (spRow n)) (bR : Binds K fdR ps4 []) (kR : PySem.W.keepIn K (.ref fR) = true) (mR : mg "_law_row" = some (.ref fR)) :
    FnOk P w K mg base CX0 (2 * n + 1 + 1) f fd ps4 (spPart n) := by
  refine F.ok scPart (fun vs H Q E h => ?_) (fun cdv A outer s H vs Q E hr h => ?_)
  · obtain ⟨_, _, _, _, _, _, _, ⟨rfl, _⟩, _⟩ := h
    rfl
  obtain ⟨L, S, A0, nL, m, ss, sp, ⟨rfl, hL, hS, hA, hAL, hAS, hne, hlen, hsh⟩, hmn, q⟩ := h
  have hr1 : Room 1 _ := hr.mono (by omega)
  refine ⟨_, pss_cons (ps_set (i := 4) scPart.nd rfl (.inl rfl) (pe_call GD hr1 (by rfl) mD kD bD .nil pass0 (pa_cons (pv 0) (pa_cons pe_int pa_nil))))
    (pss_cons (ps_set (i := 5) scPart.nd rfl (.inl rfl) (pe_ix ix_list (pv 2) (pe_call GD hr1 (by rfl) mD kD bD .nil pass0 (pa_cons (pv 0) (pa_cons (pe_callB call_len_seq (by rfl) ml PySem.boot_len (pa_cons (pv 2) pa_nil)) pa_nil))) (fun _ _ => rfl)))
    (pss_cons (ps_if (PW.pt (pw_or (pt_cmpR op_eq (pv 4) pe_int (nomark _)) (pw_or1 (pt_cmpR op_eq (pv 1) pe_int (nomark _))))) (pss_one (ps_ret (pe_tup (pa_cons pe_str (pa_cons (pv 5) pa_nil))))) pss_nil)
    (C8.pss_cut (ps_if (PW.pt (pw_and (pt_cmpR op_gt (pv 4) pe_int (nomark _)) (pw_and1 (pt_cmpR (op_neD hr.units) (pv 3) (pe_lst pa_nil) (nomark _)))))
      (pss_cons (ps_set (i := 6) scPart.nd rfl (.inl rfl) (pe_bm0 PySem.F.plainAttrs_list PySem.F.slot_list_pop PySem.F.type_list_pop mt_pop (pv 3)))
      (pss_one (ps_ret (pe_tup (pa_cons (pe_ix ix_list (pe_lst (pa_cons pe_str (pa_cons pe_str pa_nil))) (pe_op op_sub (pv 4) pe_int) (fun _ _ => rfl)) (pa_cons (pv 6) (pa_cons
        (pe_call Gr hr (by rfl) mR kR bR .nil pass0 (pa_cons (pv 0) (pa_cons (pe_op op_sub (pv 1) pe_int) (pa_cons (pe_op op_cat (pv 2) (pe_lst (pa_cons (pv 6) (pa_cons (pv 6) pa_nil)))) (pa_cons (pv 3) pa_nil))))) pa_nil))))))) pss_nil)
    (pss_cons (ps_if (pt_cmpR op_eq (pv 4) pe_int (nomark _)) (pss_one (ps_ret (pe_tup (pa_cons pe_str (pa_cons
        (pe_call Gr hr (by rfl) mR kR bR .nil pass0 (pa_cons (pv 0) (pa_cons (pe_op op_sub (pv 1) pe_int) (pa_cons (pv 2) (pa_cons (pv 3) pa_nil))))) pa_nil))))) pss_nil)
    (pss_cons (ps_if (pt_chain op_lt op_lt pe_int (pv 4) pe_int) (pss_one (ps_ret (pe_tup (pa_cons (pe_ix ix_list (pe_lst (pa_cons pe_str (pa_cons pe_str (pa_cons pe_str pa_nil)))) (pe_op op_sub (pv 4) pe_int) (fun _ _ => rfl)) (pa_cons (pv 5) (pa_cons
        (pe_call Gr hr (by rfl) mR kR bR .nil pass0 (pa_cons (pv 0) (pa_cons (pe_op op_sub (pv 1) pe_int) (pa_cons (pv 2) (pa_cons (pv 3) pa_nil))))) pa_nil)))))) pss_nil)
    (pss_one (ps_ret (pe_tup (pa_cons pe_str (pa_cons (pv 5) (pa_cons
        (pe_call Gr hr (by rfl) mR kR bR .nil pass0 (pa_cons (pv 0) (pa_cons (pe_op op_sub (pv 1) pe_int) (pa_cons (pv 2) (pa_cons (pv 3) pa_nil))))) pa_nil))))))))))), ?_⟩
  refine ⟨_, rfl, L, nL, 10, rfl, hL, by decide, by decide, fun way n1 w0 w1 => ?_⟩
  have x1 := (StG.refl hL hS).put n1
  have hA1 := x1.1 _ _ hAL hAS hA
  have hss : 0 < ss.length := List.length_pos_iff.mpr hne
  refine ⟨_, rfl, _, rfl, _, rfl, A0, _, rfl, .inl (SqL.of hA1), L, n1, _, rfl, upd_same, by rw [List.length_map]; omega, by rw [List.length_map]; omega, fun d n2 d0 d1 => ?_⟩
  have x2 := x1.put n2
  have hA2 := x2.1 _ _ hAL hAS hA
  obtain ⟨v, hv, hat, _⟩ := atX_lt (l := ss.map V.str) d0 d1
  obtain ⟨nm, hnm, rfl⟩ := List.mem_map.mp hv
  refine ⟨A0, _, d, _, rfl, rfl, SqL.of hA2, hat, ?_⟩
  have sayIt : ∀ (p : Addr), upd (upd H L (.lst [.int n1])) L (.lst [.int n2]) p = none → Q (.ref p) (upd (upd (upd H L (.lst [.int n1])) L (.lst [.int n2])) p (.tup [.str "say", .str nm])) :=
    fun p np => q _ _ sp (.say nm) (x2.new np) ⟨p, rfl, upd_same⟩ (GP.say hnm)
  refine ⟨_, rfl, rfl, _, rfl, ite2 (fun h9 => ?_) (fun h9 => ?_)⟩
  · exact iteT ⟨_, rfl, (show 2 ≤ sizeLine by decide), fun p np => sayIt p np⟩
  refine ⟨_, rfl, rfl, _, rfl, ite2 (fun h0 => ?_) (fun h0 => ?_)⟩
  · exact ⟨_, rfl, (show 2 ≤ sizeLine by decide), fun p np => sayIt p np⟩
  have w9 : way ≠ 9 := fun e => h9 (decide_eq_true (by rw [e]))
  obtain ⟨m', rfl⟩ : ∃ m', m = m' + 1 := by
    cases m with
    | zero => exact absurd (decide_eq_true rfl) h0
    | succ m' => exact ⟨m', rfl⟩
  have em : (((m' + 1 : Nat) : Int) - 1) = (m' : Int) := by omega
  -- names that are bound
  refine ⟨fun σ' H' => StG L S H H' sp ∧ ∃ s6 : Option V, σ' = [some (.ref L), some (.int (m' + 1 : Nat)), some (.ref A0), some (.ref S), some (.int way), some (.str nm), s6], ?_, fun σ' H5 hmid => ?_⟩
  · refine ⟨_, rfl, _, _, rfl, rfl, _, rfl, ite2 (fun h6 => ?_) (fun h6 => ?_)⟩
    · have h6' : 6 < way := of_decide_eq_true h6
      refine ⟨_, rfl, (show 0 ≤ sizeLine by decide), fun e ne => ?_⟩
      have x3 := x2.new (o := .lst []) ne
      refine ⟨.list (sp.map PyData.str), .list [], .lst (SqL.of x3.2.2) (strs_dp sp), .lst (SqL.of upd_same) .nil, strs_shaped (fun z hz => (hsh z hz).ok), nil_shaped, _, rfl, ?_⟩
      rw [eqv_nil]
      rcases List.eq_nil_or_concat sp with rfl | ⟨sp1, own, rfl⟩
      · exact iteF ⟨x3, _, rfl⟩
      · rw [List.concat_eq_append] at *
        have ee : (!(List.map PyData.str (sp1 ++ [own])).isEmpty) = true := by
          rw [List.map_append]
          cases sp1 <;> rfl
        rw [ee]
        refine iteT ?_
        have em1 : (sp1 ++ [own]).map V.str = sp1.map V.str ++ [.str own] := by rw [List.map_append]; rfl
        have hS3 := x3.2.2
        rw [em1] at hS3
        refine ⟨_, rfl, .inl ⟨rfl, _, SqL.of hS3⟩, S, _, .str own, rfl, rfl, hS3, ?_, ?_⟩
        · rw [List.length_append, List.length_singleton, Nat.add_sub_cancel, List.getElem?_append_right (Nat.le_refl _), Nat.sub_self]
          rfl
        rw [List.dropLast_concat]
        have x4 := x3.pop (sp1 := sp1)
        obtain ⟨w, hw, hat2⟩ : ∃ w : Wd, w.binds = true ∧ atI [V.str "hear", V.str "new"] (way - 7) = some (.str w.str) := by
          by_cases e7 : way = 7
          · exact ⟨.hear, rfl, by rw [e7]; exact atI_nat (j := 0) rfl⟩
          · have e8 : way = 8 := by omega
            exact ⟨.new, rfl, by rw [e8]; exact atI_nat (j := 1) rfl⟩
        refine ⟨(show 2 ≤ sizeLine by decide), fun l1 nl1 => ?_⟩
        have x5 := x4.new (o := .lst [.str "hear", .str "new"]) nl1
        refine ⟨_, rfl, _, _, rfl, rfl, l1, _, way - 7, _, rfl, rfl, SqL.of upd_same, hat2, _, rfl, _, rfl, _, rfl, _, _, rfl, rfl, _, rfl, _, rfl, _, rfl, (show 2 ≤ sizeLine by decide), fun l2 nl2 => ?_⟩
        have x6 := x5.new (o := .lst [.str own, .str own]) nl2
        have hA6 := x6.1 _ _ hAL hAS hA
        refine ⟨A0, l2, _, _, rfl, rfl, hA6, upd_same, small (by rw [List.length_map]; show ss.length + 2 ≤ 1000; omega), fun A1 nA1 => ?_⟩
        have x7 := x6.new (o := .lst (ss.map V.str ++ [.str own, .str own])) nA1
        obtain ⟨n7, hn7⟩ := x7.2.1
        obtain ⟨n6, hn6⟩ := x6.2.1
        refine ⟨_, rfl, L, S, A1, n7, m', ss ++ [own, own], sp1, ⟨congrArg (fun t : Int => [V.ref L, V.int t, V.ref A1, V.ref S]) em, hn7, x7.2.2, by rw [upd_same, List.map_append]; rfl, Ne.symm (ne_of_none hn6 nA1), Ne.symm (ne_of_none x6.2.2 nA1),
          by simp, by rw [List.length_append]; show ss.length + 2 + 2 * m' ≤ 1000; omega, fun z hz => hsh z (List.mem_append_left _ hz)⟩, by omega, fun H8 v sp' r x8 hR hG => ?_⟩
        obtain ⟨rb, xs, rfl, hb, hps⟩ := hR
        refine ⟨(show 3 ≤ sizeLine by decide), fun t nt => ?_⟩
        exact q _ _ sp' (.oth w own r) ((x7.trans x8).new nt) ⟨t, rb, xs, rfl, upd_same, kn hb nt, PartsAt.mono (STup.new nt) r xs hps⟩ (GP.bound hw hG)
    · exact iteF ⟨x2, _, rfl⟩
  obtain ⟨x5, s6, rfl⟩ := hmid
  have hA5 := x5.1 _ _ hAL hAS hA
  obtain ⟨n5, hn5⟩ := x5.2.1
  have arg5 : GArg [.ref L, .int (((m' + 1 : Nat) : Int) - 1), .ref A0, .ref S] H5 L S A0 n5 m' ss sp := ⟨by rw [em], hn5, x5.2.2, hA5, hAL, hAS, hne, by omega, hsh⟩
  -- rows done again
  refine ⟨_, rfl, rfl, _, rfl, ite2 (fun h6 => ?_) (fun h6 => ?_)⟩
  · refine ⟨_, rfl, _, rfl, _, _, rfl, rfl, _, rfl, _, rfl, L, S, A0, n5, m', ss, sp, arg5, by omega, fun H8 v sp' r x8 hR hG => ?_⟩
    obtain ⟨rb, xs, rfl, hb, hps⟩ := hR
    refine ⟨(show 2 ≤ sizeLine by decide), fun t nt => ?_⟩
    exact q _ _ sp' (.again r) ((x5.trans x8).new nt) ⟨t, rb, xs, rfl, upd_same, kn hb nt, PartsAt.mono (STup.new nt) r xs hps⟩ (GP.again hG)
  -- deeds
  refine ⟨_, rfl, _, _, rfl, rfl, _, rfl, ?_⟩
  have deeds : ∀ (w : Wd), w.binds = false → ∀ (H8 : Hp) (v : V) (sp' : List Str) (r : List Part), StG L S H H8 sp' → RowAt H8 r v → GR m' (most m') ss sp sp' r → ∀ t, H8 t = none → Q (.ref t) (upd H8 t (.tup [.str w.str, .str nm, v])) := by
    intro w hw H8 v sp' r x8 hR hG t nt
    obtain ⟨rb, xs, rfl, hb, hps⟩ := hR
    exact q _ _ sp' (.oth w nm r) (x8.new nt) ⟨t, rb, xs, rfl, upd_same, kn hb nt, PartsAt.mono (STup.new nt) r xs hps⟩ (GP.free hw hnm hG)
  refine ite2 (fun h2 => ?_) (fun h2 => ?_)
  · refine ⟨_, _, rfl, rfl, _, rfl, ite2 (fun h3 => ?_) (fun h3 => ?_)⟩
    · have h2' : 2 < way := of_decide_eq_true h2
      have h3' : way < 6 := of_decide_eq_true h3
      obtain ⟨w, hw, hat2⟩ : ∃ w : Wd, w.binds = false ∧ atI [V.str "in", V.str "out", V.str "open"] (way - 3) = some (.str w.str) := by
        by_cases e3 : way = 3
        · exact ⟨.inn, rfl, by rw [e3]; exact atI_nat (j := 0) rfl⟩
        · by_cases e4 : way = 4
          · exact ⟨.out, rfl, by rw [e4]; exact atI_nat (j := 1) rfl⟩
          · have e5 : way = 5 := by omega
            exact ⟨.opn, rfl, by rw [e5]; exact atI_nat (j := 2) rfl⟩
      refine ⟨(show 3 ≤ sizeLine by decide), fun l1 nl1 => ?_⟩
      have x6 := x5.new (o := .lst [.str "in", .str "out", .str "open"]) nl1
      obtain ⟨n6, hn6⟩ := x6.2.1
      refine ⟨_, rfl, _, _, rfl, rfl, l1, _, way - 3, _, rfl, rfl, SqL.of upd_same, hat2, _, rfl, _, rfl, _, rfl, _, _, rfl, rfl, _, rfl, _, rfl, L, S, A0, n6, m', ss, sp, ⟨congrArg (fun t : Int => [V.ref L, V.int t, V.ref A0, V.ref S]) em, hn6, x6.2.2, kn hA5 nl1, hAL, hAS, hne, by omega, hsh⟩, by omega, fun H8 v sp' r x8 hR hG => ?_⟩
      exact ⟨(show 3 ≤ sizeLine by decide), fun t nt => deeds w hw H8 v sp' r (x6.trans x8) hR hG t nt⟩
    · refine ⟨_, rfl, _, rfl, _, rfl, _, _, rfl, rfl, _, rfl, _, rfl, L, S, A0, n5, m', ss, sp, arg5, by omega, fun H8 v sp' r x8 hR hG => ?_⟩
      exact ⟨(show 3 ≤ sizeLine by decide), fun t nt => deeds .room rfl H8 v sp' r (x5.trans x8) hR hG t nt⟩
  · refine ⟨_, rfl, iteF ?_⟩
    refine ⟨_, rfl, _, rfl, _, rfl, _, _, rfl, rfl, _, rfl, _, rfl, L, S, A0, n5, m', ss, sp, arg5, by omega, fun H8 v sp' r x8 hR hG => ?_⟩
    exact ⟨(show 3 ≤ sizeLine by decide), fun t nt => deeds .room rfl H8 v sp' r (x5.trans x8) hR hG t nt⟩
theorem ok_row {f fD fP : Addr} {fd fdD fdP : FuncData} {n : Nat} (F : Fun K "_law_row" "_law_row" sRow f fd) (GD : FnOk P w K mg base CX0 1 fD fdD ["_law_left_here", "_law_many"] spDigit) (bD : Binds K fdD ["_law_left_here", "_law_many"] []) (kD : PySem.W.keepIn K (.ref fD) = true)
    (mD : mg "_law_digit" = some (.ref fD)) (mi : mg "int" = none) (mt : mg "tuple" = none) (mr : mg "range" = none) (Gp : FnOk P w K mg base CX0 (2 * n + 2) fP fdP ps4 (spPart n)) (bP : Binds K fdP ps4 []) (kP : PySem.W.keepIn K (.ref fP) = true) (mP : mg "_law_part" = some (.ref fP)) :
    FnOk P w K mg base CX0 (2 * n + 2 + 1) f fd ps4 (spRow (n + 1)) := by
  refine F.ok scRow (fun vs H Q E h => ?_) (fun cdv A outer s H vs Q E hr h => ?_)
  · obtain ⟨_, _, _, _, _, _, _, ⟨rfl, _⟩, _⟩ := h
    rfl
  obtain ⟨L, S, A0, nL, m, ss, sp, ⟨rfl, hL, hS, hA, hAL, hAS, hne, hlen, hsh⟩, hmn, q⟩ := h
  have hr1 : Room 1 _ := hr.mono (by omega)
  refine ⟨_, pss_cons (ps_set (i := 4) scRow.nd rfl (.inl rfl) (pe_call GD hr1 (by rfl) mD kD bD .nil pass0 (pa_cons (pv 0) (pa_cons (pe_ix ix_list (pe_lst (pa_cons pe_int (pa_cons pe_int pa_nil))) (pe_callTy call_int1 (by rfl) mi (by decide +kernel) (pa_cons (pe_cmpR op_gt (pv 1) pe_int (nomark _)) pa_nil)) (fun _ _ => rfl)) pa_nil))))
    (pss_one (ps_ret (pe_callTy call_tuple_of (by rfl) mt (by decide +kernel) (pa_cons (pe_lc (own := [("_law_k", 5)]) (g := gName 5) (tt := tYes) (by rfl) scRow.nd (pi_range1 rfl mr (pa_cons (pv 4) pa_nil))
        (blkOk_by (own := [("_law_k", 5)]) (N := nmRow) (sc := defScope sRow) (by decide +kernel)) (fun _ _ _ _ _ => pg_name (i := 5) scRow.nd rfl (Or.inl rfl)) (fun _ _ _ _ _ => pts_nil)
        (fun _ _ _ _ _ => pe_call Gp hr (by rfl) mP kP bP .nil pass0 (pa_cons (pv 0) (pa_cons (pv 1) (pa_cons (pv 2) (pa_cons (pv 3) pa_nil)))))) pa_nil)))), ?_⟩
  refine ⟨_, rfl, (show 2 ≤ sizeLine by decide), fun l1 nl1 => ?_⟩
  have x1 := (StG.refl hL hS).new (o := .lst [.int 3, .int 4]) nl1
  refine ⟨_, rfl, _, _, rfl, rfl, .inr ⟨_, rfl, ?_⟩⟩
  refine ⟨l1, _, _, _, rfl, rfl, SqL.of upd_same, most_at m, ?_⟩
  obtain ⟨n1, hn1⟩ := x1.2.1
  have h3 := most_le m
  refine ⟨L, n1, _, rfl, hn1, by omega, by omega, fun d n2 d0 d1 => ?_⟩
  have x2 := x1.put n2
  refine ⟨_, rfl, d, rfl, Int.le_trans (by decide) d0, Int.lt_trans d1 (by omega), fun D nD => ?_⟩
  have nH : H D = none := x2.none nD hL hS
  have DL : D ≠ L := Ne.symm (ne_of_none hL nH)
  have DS : D ≠ S := Ne.symm (ne_of_none hS nH)
  refine lc_range (lo := 0) (n := d.toNat) (fun i H' => ∃ (sp' : List Str) (r : List Part) (vs : List V), StG L S H H' sp' ∧ H' D = some (.lst vs) ∧ PartsAt H' r vs ∧ GR m i ss sp sp' r ∧ vs.length = i)
    ⟨sp, [], [], x2.new nD, upd_same, rfl, GR.nil, rfl⟩ (fun i H' hi hP => ?_) fun H' hP => ?_
  · obtain ⟨sp', r, vs, x3, hD, hps, hG, hl⟩ := hP
    obtain ⟨n3, hn3⟩ := x3.2.1
    refine ⟨rfl, yes (iteT ?_)⟩
    refine ⟨_, rfl, _, rfl, _, rfl, _, rfl, L, S, A0, n3, m, ss, sp', ⟨rfl, hn3, x3.2.2, x3.1 _ _ hAL hAS hA, hAL, hAS, hne, hlen, fun z hz => hsh z (by rw [hG.bd]; exact List.mem_append_left _ hz)⟩, by omega, fun H4 v sp2 p x4 hp hg => ?_⟩
    have hD4 := x4.1 _ _ DL DS hD
    have st4 : STup H' H4 := x4.tup hn3 x3.2.2
    have st5 : STup H4 (upd H4 D (.lst (vs ++ [v]))) := STup.lst hD4
    refine ⟨vs, hD4, by rw [hl]; exact small1000 (by omega), sp2, r ++ [p], vs ++ [v], ?_, upd_same, PartsAt.app (PartsAt.one (PartAt.mono st5 p v hp)) (PartsAt.mono (st4.trans st5) r vs hps), hG.snoc hg, by rw [List.length_append, hl]; rfl⟩
    have x5 := x3.trans x4
    obtain ⟨n5, hn5⟩ := x5.2.1
    refine ⟨fun b o nb nc e => ?_, ⟨n5, by rw [upd_ne (Ne.symm DL)]; exact hn5⟩, by rw [upd_ne (Ne.symm DS)]; exact x5.2.2⟩
    rw [upd_ne (ne_of_none e nH)]
    exact x5.1 b o nb nc e
  · obtain ⟨sp', r, vs, x3, hD, hps, hG, hl⟩ := hP
    refine ⟨D, vs, rfl, .inl ⟨SqL.of hD, fun t nt => ?_⟩⟩
    exact q _ _ sp' r (x3.new nt) ⟨t, vs, rfl, upd_same, PartsAt.mono (STup.new nt) r vs hps⟩ (hG.up (by omega))
theorem none_left {f : Addr} {fd : FuncData} {k : Nat} : FnOk P w K mg base CX0 k f fd ps4 (spRow 0) := by
  have no : ∀ vs H Q E, ¬ spRow 0 vs H Q E := fun vs H Q E h => by
    obtain ⟨_, _, _, _, _, _, _, _, h1, _⟩ := h
    omega
  exact ⟨fun vs H Q E h => absurd h (no vs H Q E), fun A outer s H args us vs Q E _ _ _ _ h => absurd h (no vs H Q E)⟩
/-- both, by the room -/
theorem rows_ok {fD fP fR : Addr} {fdD fdP fdR : FuncData} (FP : Fun K "_law_part" "_law_part" sPart fP fdP) (FR : Fun K "_law_row" "_law_row" sRow fR fdR) (GD : FnOk P w K mg base CX0 1 fD fdD ["_law_left_here", "_law_many"] spDigit) (bD : Binds K fdD ["_law_left_here", "_law_many"] []) (kD : PySem.W.keepIn K (.ref fD) = true)
    (mD : mg "_law_digit" = some (.ref fD)) (ml : mg "len" = none) (mi : mg "int" = none) (mt : mg "tuple" = none) (mr : mg "range" = none) (bR : Binds K fdR ps4 []) (mR : mg "_law_row" = some (.ref fR)) (bP : Binds K fdP ps4 []) (mP : mg "_law_part" = some (.ref fP)) :
    ∀ n : Nat, FnOk P w K mg base CX0 (2 * n + 1) fR fdR ps4 (spRow n)
  | 0 => none_left
  | n + 1 => ok_row FR GD bD kD mD mi mt mr (ok_part FP GD bD kD mD ml (rows_ok FP FR GD bD kD mD ml mi mt mr bR mR bP mP n) bR FR.kp mR) bP FP.kp mP
end
end K19

set_option Elab.async false
set_option linter.all false
set_option maxRecDepth 100000
set_option maxHeartbeats 800000
namespace K19
open PySem PySem.Spec PyProof.Rows L2 Wk GxR
abbrev sLSt : Stmt := topS 65
abbrev psLS : List Str := ["_law_row_here", "_law_path"]
abbrev nmLS : List Str := ["_law_row_here", "_law_path", "_law_found", "_law_k", "_law_part_here", "_law_j", "_law_other", "_law_d", "_law_deed", "_law_inner"]
theorem scLSt : FnScope nmLS psLS (defScope sLSt) := ⟨rfl, rfl, rfl, by decide +kernel, rfl, by decide +kernel, by decide +kernel⟩
section
variable {P : Program} {w : World} {K : PySem.W.Frag} {mg : Str → Option Value} {base : Heap}
theorem ok_lsteps {f : Addr} {fd : FuncData} {n : Nat} (F : Fun K "_law_steps" "_law_steps" sLSt f fd) (me : mg "enumerate" = none) (mo : mg "sorted" = none)
    (G : FnOk P w K mg base CX0 (n + 1) f fd psLS (spLSteps n)) (bF : Binds K fd psLS []) (mF : mg "_law_steps" = some (.ref f)) : FnOk P w K mg base CX0 (n + 1 + 1) f fd psLS (spLSteps (n + 1)) := by
  refine F.ok scLSt (fun vs H Q E h => ?_) (fun cdv A outer s H vs Q E hr h => ?_)
  · obtain ⟨_, _, _, _, rfl, _⟩ := h
    rfl
  obtain ⟨v, r, pa, path, rfl, hR, hd, lr, hpa, lpd, hbnd, q⟩ := h
  refine ⟨_, pss_cons (ps_set (i := 2) scLSt.nd rfl (.inl rfl) (pe_lst pa_nil))
    (pss_cons (ps_for PassesOwn.never rfl (pi_enumT (by rfl) me (pa_cons (pv 0) pa_nil)) (pg_tup rfl (pgs_cons (pg_name (i := 3) scLSt.nd rfl (.inl rfl)) (pgs_cons (pg_name (i := 4) scLSt.nd rfl (.inl rfl)) pgs_nil))) (C8.pss_cut (ps_if (pt_cmpR op_eq (pe_ix ix_tup (pv 4) pe_int (fun _ _ => rfl)) pe_str (nomark _)) (pss_one (ps_expr (pe_bm PySem.F.plainAttrs_list PySem.F.slot_list_append PySem.F.type_list_append mt_append (pv 2) (pa_cons (pe_tup (pa_cons pe_str (pa_cons (pv 1) (pa_cons (pv 3) pa_nil)))) pa_nil)))) pss_nil)
      (C8.pss_cut (ps_for PassesOwn.never rfl (pi_enumT (by rfl) me (pa_cons (pv 0) pa_nil)) (pg_tup rfl (pgs_cons (pg_name (i := 5) scLSt.nd rfl (.inl rfl)) (pgs_cons (pg_name (i := 6) scLSt.nd rfl (.inl rfl)) pgs_nil))) (C8.pss_cut (ps_if (PW.pt (pw_and (pt_cmpR op_eq (pe_ix ix_tup (pv 4) pe_int (fun _ _ => rfl)) pe_str (nomark _)) (pw_and (pt_cmpR op_eq (pe_ix ix_tup (pv 6) pe_int (fun _ _ => rfl)) pe_str (nomark _)) (pw_and1 (pt_cmpR op_eq (pe_ix ix_tup (pv 6) pe_int (fun _ _ => rfl)) (pe_ix ix_tup (pv 4) pe_int (fun _ _ => rfl)) (nomark _)))))) (pss_one (ps_expr (pe_bm PySem.F.plainAttrs_list PySem.F.slot_list_append PySem.F.type_list_append mt_append (pv 2) (pa_cons (pe_tup (pa_cons pe_str (pa_cons (pv 1) (pa_cons (pv 3) (pa_cons (pv 5) pa_nil))))) pa_nil)))) pss_nil)
        (C8.pss_cut (ps_if (PW.pt (pw_and (pt_cmpR op_eq (pe_ix ix_tup (pv 4) pe_int (fun _ _ => rfl)) pe_str (nomark _)) (pw_and1 (pt_cmpR op_eq (pe_ix ix_tup (pv 6) pe_int (fun _ _ => rfl)) pe_str (nomark _))))) (pss_one (ps_expr (pe_bm PySem.F.plainAttrs_list PySem.F.slot_list_append PySem.F.type_list_append mt_append (pv 2) (pa_cons (pe_tup (pa_cons pe_str (pa_cons (pv 1) (pa_cons (pv 3) (pa_cons (pv 5) pa_nil))))) pa_nil)))) pss_nil)
        (pss_one (ps_if (PW.pt (pw_and (pt_cmpR op_eq (pe_ix ix_tup (pv 4) pe_int (fun _ _ => rfl)) pe_str (nomark _)) (pw_and (pt_cmpR op_eq (pe_ix ix_tup (pv 6) pe_int (fun _ _ => rfl)) pe_str (nomark _)) (pw_and1 (pt_cmpR op_ne (pv 5) (pv 3) (nomark _)))))) (pss_one (ps_for PassesOwn.never rfl (pi_enumT (by rfl) me (pa_cons (pe_ix ix_tup (pv 4) pe_int (fun _ _ => rfl)) pa_nil)) (pg_tup rfl (pgs_cons (pg_name (i := 7) scLSt.nd rfl (.inl rfl)) (pgs_cons (pg_name (i := 8) scLSt.nd rfl (.inl rfl)) pgs_nil))) (pss_one (ps_if (PW.pt (pw_and (pt_cmpR op_eq (pe_ix ix_tup (pv 8) pe_int (fun _ _ => rfl)) pe_str (nomark _)) (pw_and1 (pt_cmpR op_eq (pe_ix ix_tup (pv 8) pe_int (fun _ _ => rfl)) (pe_ix ix_tup (pv 6) pe_int (fun _ _ => rfl)) (nomark _))))) (pss_one (ps_expr (pe_bm PySem.F.plainAttrs_list PySem.F.slot_list_append PySem.F.type_list_append mt_append (pv 2) (pa_cons (pe_tup (pa_cons pe_str (pa_cons (pv 1) (pa_cons (pv 3) (pa_cons (pv 7) (pa_cons (pv 5) pa_nil)))))) pa_nil)))) pss_nil)))) pss_nil)))))
      (pss_one (ps_if (pt_cmpR op_eq (pe_ix ix_tup (pv 4) pe_int (fun _ _ => rfl)) pe_str (nomark _)) (C8.pss_cut (ps_for PassesOwn.never rfl (pi_enumT (by rfl) me (pa_cons (pe_ix ix_tup (pv 4) pe_int (fun _ _ => rfl)) pa_nil)) (pg_tup rfl (pgs_cons (pg_name (i := 5) scLSt.nd rfl (.inl rfl)) (pgs_cons (pg_name (i := 9) scLSt.nd rfl (.inl rfl)) pgs_nil))) (pss_one (ps_if (pt_cmpR op_eq (pe_ix ix_tup (pv 9) pe_int (fun _ _ => rfl)) pe_str (nomark _)) (pss_one (ps_for PassesOwn.never rfl (pi_enumT (by rfl) me (pa_cons (pe_ix ix_tup (pv 9) pe_int (fun _ _ => rfl)) pa_nil)) (pg_tup rfl (pgs_cons (pg_name (i := 7) scLSt.nd rfl (.inl rfl)) (pgs_cons (pg_name (i := 8) scLSt.nd rfl (.inl rfl)) pgs_nil))) (pss_one (ps_if (PW.pt (pw_and (pt_cmpR op_eq (pe_ix ix_tup (pv 8) pe_int (fun _ _ => rfl)) pe_str (nomark _)) (pw_and1 (pt_cmpR op_eq (pe_ix ix_tup (pv 8) pe_int (fun _ _ => rfl)) (pe_ix ix_tup (pv 4) pe_int (fun _ _ => rfl)) (nomark _))))) (pss_one (ps_expr (pe_bm PySem.F.plainAttrs_list PySem.F.slot_list_append PySem.F.type_list_append mt_append (pv 2) (pa_cons (pe_tup (pa_cons pe_str (pa_cons (pv 1) (pa_cons (pv 3) (pa_cons (pv 5) (pa_cons (pv 7) pa_nil)))))) pa_nil)))) pss_nil)))) pss_nil)))
        (pss_one (ps_expr (pe_bm PySem.F.plainAttrs_list PySem.F.slot_list_extend PySem.F.type_list_extend mt_extend (pv 2) (pa_cons (pe_call G hr (by rfl) mF F.kp bF .nil pass0 (pa_cons (pe_ix ix_tup (pv 4) pe_int (fun _ _ => rfl)) (pa_cons (pe_op op_catM (pv 1) (pe_tup (pa_cons (pv 3) pa_nil))) pa_nil))) pa_nil))))) pss_nil)))))
    (pss_one (ps_ret (pe_callB (cr_sortedSt hr.units) (by rfl) mo (by decide +kernel) (pa_cons (pv 2) pa_nil))))), ?_⟩
  obtain ⟨a, xs, rfl, ha, hps⟩ := hR
  have lx := PartsAt.len hps
  have l2 := len_sizeR r
  refine ⟨(show 0 ≤ sizeLine by decide), fun F0 nF => ?_⟩
  have sF : Same H (upd H F0 (.lst [])) := same_new nF
  have hF0 : upd H F0 (.lst []) F0 = some (.lst []) := upd_same
  have ha0 := sF _ _ ha
  have hpa0 := sF _ _ hpa
  have hps0 := PartsAt.mono (STup.of sF) _ _ hps
  generalize upd H F0 (.lst []) = H0 at *
  refine ⟨_, rfl, a, xs, rfl, SqT.of ha0, for_it (walk_enumT (xs := xs)) (fun i σ H' => (∃ ts, GaS F0 H0 ts H' ∧ ts.Perm (gsL path r 0 (r.take i))) ∧ ∃ s3 s4 s5 s6 s7 s8 s9 : Option V, σ = [some (.ref a), some (.ref pa), some (.ref F0), s3, s4, s5, s6, s7, s8, s9])
    ⟨⟨[], ⟨fun _ _ _ e => e, [], hF0, rfl⟩, by rw [List.take_zero]; exact .refl _⟩, _, _, _, _, _, _, _, rfl⟩ (fun i σ H' _ hP => by obtain ⟨⟨ts, hG, _⟩, _⟩ := hP; exact SqT.of (hG.tup hF0 _ _ ha0)) (fun i x σ H1 H2 hi hP hY => ?_) (fun σ H1 hP => ?_)⟩
  rotate_left
  · obtain ⟨⟨ts, hG, pm⟩, s3, s4, s5, s6, s7, s8, s9, rfl⟩ := hP
    rw [lx, List.take_length] at pm
    obtain ⟨ys, hF1, hst⟩ := hG.ex
    have sm : Same H H1 := fun b o e => hG.ks b o (ne_of_none e nF) (sF _ _ e)
    refine ⟨_, rfl, F0, ys, _, rfl, SqL.of hF1, hst, fun ts2 zs p2 pm2 so hz np2 => ?_⟩
    refine q _ p2 ts2 zs (fun b o e => kn (sm _ _ e) np2) ?_ upd_same (hz.tup (STup.new np2)) (pm2.trans pm) so
    cases e : H p2 with
    | none => rfl
    | some o =>
      rw [sm _ _ e] at np2
      cases np2
  obtain ⟨⟨ts, hG, pm⟩, s3, s4, s5, s6, s7, s8, s9, rfl⟩ := hP
  obtain ⟨T, y, rfl, nT, rfl, hy⟩ := hY
  obtain ⟨p, hp, hpp⟩ := PartsAt.get hps0 hy
  have hG2 := hG.same (same_new (o := HO.tup [.int (i : Nat), y]) nT)
  have hT2 : upd H1 T (.tup [.int (i : Nat), y]) T = some (.tup [.int (i : Nat), y]) := upd_same
  generalize upd H1 T (.tup [.int (i : Nat), y]) = H2 at *
  have b1 := gsL_take path r 0 r (i + 1)
  rw [gsR_step hp, List.length_append] at b1
  have lts := pm.length_eq
  have hb0 : (gsL path r 0 r).length ≤ 10000000 := hbnd
  have szp : sizeP p ≤ 1000 := Nat.le_trans (sizeR.mem p (List.mem_of_getElem? hp)) lr
  have irl : i < r.length := by omega
  have ll1 := lsA_len (path := path) (k := i) (p := p)
  obtain ⟨b, zs, rfl, hb, h0⟩ := PartAt.word hpp
  have hb2 := hG2.tup hF0 _ _ hb
  have hpa2 := hG2.tup hF0 _ _ hpa0
  refine ⟨T, _, rfl, SqT.of hT2, rfl, _, _, rfl, _, _, rfl, rfl, ?_⟩
  refine ⟨fun σ' H' => GaS F0 H0 (ts ++ lsA path i p) H' ∧ σ' = [some (.ref a), some (.ref pa), some (.ref F0), some (.int (i : Nat)), some (.ref b), s5, s6, s7, s8, s9], ?_, fun σ' H3 hm => ?_⟩
  · refine ⟨_, rfl, b, _, 0, _, rfl, rfl, SqT.of hb2, atI_nat (j := 0) h0, rfl, _, rfl, ite2 (fun g => ?_) (fun g => ?_)⟩
    · obtain ⟨q0, rfl⟩ := word_again (str_eq g)
      obtain ⟨ys, hys, _⟩ := id hG2.ex
      refine ⟨_, rfl, .inl ⟨rfl, _, SqL.of hys⟩, _, rfl, _, rfl, (show 3 ≤ sizeLine by decide), fun t nt => ?_⟩
      obtain ⟨ys', hF', ly', hG'⟩ := GaS.push (wd := "again") (path := path) (rs := [i]) hG2 nt hpa2 (by omega)
      refine ⟨F0, ys', _, rfl, rfl, hF', ly', ?_⟩
      exact ⟨hG', rfl⟩
    · rw [lsA_no (str_ne g), List.append_nil]
      exact ⟨hG2, rfl⟩
  obtain ⟨hG3, rfl⟩ := hm
  have ha3 := hG3.tup hF0 _ _ ha0
  have pw := fun (H' : Hp) (us : List Stp) (g : GaS F0 H0 us H') => g.tup hF0
  refine ⟨fun σ' H' => GaS F0 H0 ((ts ++ lsA path i p) ++ lsN path r i p r.length) H' ∧ ∃ s5 s6 s7 s8 s9 : Option V, σ' = [some (.ref a), some (.ref pa), some (.ref F0), some (.int (i : Nat)), some (.ref b), s5, s6, s7, s8, s9], ?_, fun σ' H4 hm => ?_⟩
  · refine ⟨_, rfl, a, xs, rfl, SqT.of ha3, for_it (walk_enumT (xs := xs)) (fun j σ H' => GaS F0 H0 ((ts ++ lsA path i p) ++ lsN path r i p j) H' ∧ ∃ s5 s6 s7 s8 s9 : Option V, σ = [some (.ref a), some (.ref pa), some (.ref F0), some (.int (i : Nat)), some (.ref b), s5, s6, s7, s8, s9])
      ⟨by rw [show lsN path r i p 0 = [] from rfl, List.append_nil]; exact hG3, _, _, _, _, _, rfl⟩ (fun j σ H' _ hP => SqT.of (hP.1.tup hF0 _ _ ha0)) (fun j x σ H4 H5 hj hP hY => ?_) (fun σ H4 hP => by rw [lx] at hP; exact hP)⟩
    obtain ⟨hG4, s5, s6, s7, s8, s9, rfl⟩ := hP
    obtain ⟨T2, y2, rfl, nT2, rfl, hy2⟩ := hY
    obtain ⟨o, ho, hoo⟩ := PartsAt.get hps0 hy2
    have hG5 := hG4.same (same_new (o := HO.tup [.int (j : Nat), y2]) nT2)
    have hT5 : upd H4 T2 (.tup [.int (j : Nat), y2]) T2 = some (.tup [.int (j : Nat), y2]) := upd_same
    generalize upd H4 T2 (.tup [.int (j : Nat), y2]) = H5 at *
    obtain ⟨c, ws, rfl, hc, k0⟩ := PartAt.word hoo
    have lsn := lsN_len (path := path) (r := r) (k := i) szp j
    have ll2 := lsJ_len (path := path) (r := r) (k := i) szp j
    have jrl : j < 1000 := by omega
    have lall : ((ts ++ lsA path i p) ++ lsN path r i p j).length ≤ 11000001 := by
      rw [List.length_append, List.length_append]; omega
    rw [lsN_succ, lsJ_split, ← List.append_assoc]
    rw [lsJ_split, List.length_append, List.length_append] at ll2
    generalize (ts ++ lsA path i p) ++ lsN path r i p j = us at *
    have hb5 := hG5.tup hF0 _ _ hb
    have hc5 := hG5.tup hF0 _ _ hc
    have hpa5 := hG5.tup hF0 _ _ hpa0
    refine ⟨T2, _, rfl, SqT.of hT5, rfl, _, _, rfl, _, _, rfl, rfl, ?_⟩
    refine ⟨fun σ' H' => GaS F0 H0 (us ++ jO path r i p j) H' ∧ σ' = [some (.ref a), some (.ref pa), some (.ref F0), some (.int (i : Nat)), some (.ref b), some (.int (j : Nat)), some (.ref c), s7, s8, s9], ?_, fun σ' H6 hm => ?_⟩
    · have skip : jO path r i p j = [] → GaS F0 H0 (us ++ jO path r i p j) H5 := fun e => by rw [e, List.append_nil]; exact hG5
      refine ⟨_, rfl, b, _, 0, _, rfl, rfl, SqT.of hb5, atI_nat (j := 0) h0, rfl, _, rfl, ite2 (fun g => ?_) (fun g => iteF ⟨skip (jO_no1 (str_ne g)), rfl⟩)⟩
      refine ⟨_, rfl, c, _, 0, _, rfl, rfl, SqT.of hc5, atI_nat (j := 0) k0, rfl, _, rfl, ite2 (fun g2 => ?_) (fun g2 => iteF ⟨skip (jO_no2 ho (str_ne g2)), rfl⟩)⟩
      obtain ⟨c1, q1, rfl⟩ := word_open (str_eq g)
      obtain ⟨c2, q2, rfl⟩ := word_room (str_eq g2)
      obtain ⟨b', _, _, e, hb', _, _⟩ := hpp
      cases e
      rw [hb'] at hb
      cases hb
      obtain ⟨c', _, _, e, hc', _, _⟩ := hoo
      cases e
      rw [hc'] at hc
      cases hc
      refine ⟨_, rfl, c, _, 1, _, rfl, rfl, SqT.of hc5, atI_nat (j := 1) rfl, _, rfl, b, _, 1, _, rfl, rfl, SqT.of hb5, atI_nat (j := 1) rfl, rfl, _, rfl, ?_⟩
      by_cases ec : c2 = c1
      · refine iteU (decide_eq_true (by rw [ec])) ?_
        subst ec
        obtain ⟨ys, hys, _⟩ := id hG5.ex
        refine ⟨_, rfl, .inl ⟨rfl, _, SqL.of hys⟩, _, rfl, _, rfl, _, rfl, (show 4 ≤ sizeLine by decide), fun t nt => ?_⟩
        obtain ⟨ys', hF', ly', hG'⟩ := GaS.push (wd := "open") (path := path) (rs := [i, j]) hG5 nt hpa5 (by omega)
        refine ⟨F0, ys', _, rfl, rfl, hF', ly', ?_⟩
        rw [jO_yes ho]
        exact ⟨hG', rfl⟩
      · exact iteD (decide_eq_false (fun z => ec (V.str.inj z))) ⟨skip (jO_no3 ho ec), rfl⟩
    obtain ⟨hG6, rfl⟩ := hm
    have hb6 := hG6.tup hF0 _ _ hb
    have hc6 := hG6.tup hF0 _ _ hc
    have hpa6 := hG6.tup hF0 _ _ hpa0
    refine ⟨fun σ' H' => GaS F0 H0 ((us ++ jO path r i p j) ++ jS path r i p j) H' ∧ σ' = [some (.ref a), some (.ref pa), some (.ref F0), some (.int (i : Nat)), some (.ref b), some (.int (j : Nat)), some (.ref c), s7, s8, s9], ?_, fun σ' H7 hm => ?_⟩
    · have skip : jS path r i p j = [] → GaS F0 H0 ((us ++ jO path r i p j) ++ jS path r i p j) H6 := fun e => by rw [e, List.append_nil]; exact hG6
      refine ⟨_, rfl, b, _, 0, _, rfl, rfl, SqT.of hb6, atI_nat (j := 0) h0, rfl, _, rfl, ite2 (fun g => ?_) (fun g => iteF ⟨skip (jS_no1 (str_ne g)), rfl⟩)⟩
      refine ⟨_, rfl, c, _, 0, _, rfl, rfl, SqT.of hc6, atI_nat (j := 0) k0, rfl, _, rfl, ite2 (fun g2 => ?_) (fun g2 => ⟨skip (jS_no2 ho (str_ne g2)), rfl⟩)⟩
      obtain ⟨c1, rfl⟩ := word_say (str_eq g)
      obtain ⟨ys, hys, _⟩ := id hG6.ex
      have l5 : (us ++ jO path r i (.say c1) j).length ≤ 12000001 := by rw [List.length_append]; omega
      refine ⟨_, rfl, .inl ⟨rfl, _, SqL.of hys⟩, _, rfl, _, rfl, _, rfl, (show 4 ≤ sizeLine by decide), fun t nt => ?_⟩
      obtain ⟨ys', hF', ly', hG'⟩ := GaS.push (wd := "letter") (path := path) (rs := [i, j]) hG6 nt hpa6 (by omega)
      refine ⟨F0, ys', _, rfl, rfl, hF', ly', ?_⟩
      rw [jS_yes ho (str_eq g2)]
      exact ⟨hG', rfl⟩
    obtain ⟨hG7, rfl⟩ := hm
    have hb7 := hG7.tup hF0 _ _ hb
    have hc7 := hG7.tup hF0 _ _ hc
    have fin : ∀ (H' : Hp) (vs : List Stp), vs = jR path r i p j → GaS F0 H0 (((us ++ jO path r i p j) ++ jS path r i p j) ++ vs) H' → ∀ (t5 t6 t7 t8 t9 : Option V), GaS F0 H0 (us ++ ((jO path r i p j ++ jS path r i p j) ++ jR path r i p j)) H' ∧ ∃ s5 s6 s7 s8 s9 : Option V, [some (V.ref a), some (.ref pa), some (.ref F0), some (.int (i : Nat)), some (.ref b), t5, t6, t7, t8, t9] = [some (.ref a), some (.ref pa), some (.ref F0), some (.int (i : Nat)), some (.ref b), s5, s6, s7, s8, s9] := fun H' vs e hg t5 t6 t7 t8 t9 => by
      rw [← e, ← List.append_assoc, ← List.append_assoc]
      exact ⟨hg, _, _, _, _, _, rfl⟩
    have skip : jR path r i p j = [] → GaS F0 H0 (((us ++ jO path r i p j) ++ jS path r i p j) ++ []) H7 := fun e => by rw [List.append_nil]; exact hG7
    refine ⟨_, rfl, b, _, 0, _, rfl, rfl, SqT.of hb7, atI_nat (j := 0) h0, rfl, _, rfl, ite2 (fun g => ?_) (fun g => iteF (fin H7 [] (jR_no1 (str_ne g)).symm (skip (jR_no1 (str_ne g))) _ _ _ _ _))⟩
    refine ⟨_, rfl, c, _, 0, _, rfl, rfl, SqT.of hc7, atI_nat (j := 0) k0, rfl, _, rfl, ite2 (fun g2 => ?_) (fun g2 => iteF ?_)⟩
    rotate_left
    · have no : jR path r i p j = [] := jR_no2 ho (fun z => str_ne g2 z.1)
      exact fin H7 [] no.symm (skip no) _ _ _ _ _
    obtain ⟨c1, q1, rfl⟩ := word_room (str_eq g)
    obtain ⟨c2, q2, rfl⟩ := word_room (str_eq g2)
    refine ⟨_, rfl, _, rfl, rfl, _, rfl, ite2 (fun g3 => ?_) (fun g3 => ?_)⟩
    rotate_left
    · have no : jR path r i (.oth .room c1 q1) j = [] := jR_no2 ho (fun z => g3 (Wk.ne_int z.2))
      exact fin H7 [] no.symm (skip no) _ _ _ _ _
    have nji : j ≠ i := Wk.int_ne g3
    obtain ⟨b', b3, zs3, e, hb', hb3, hzs3⟩ := hpp
    cases e
    rw [hb'] at hb
    cases hb
    obtain ⟨c', c3, ws3, e, hc', hc3, hws3⟩ := hoo
    cases e
    rw [hc'] at hc
    cases hc
    have hb37 := hG7.tup hF0 _ _ hb3
    have lq1 := PartsAt.len hzs3
    have lq2 := len_sizeR q1
    have lq3 := room_size hp
    refine ⟨_, rfl, b, _, 2, _, rfl, rfl, SqT.of hb7, atI_nat (j := 2) rfl, b3, zs3, rfl, SqT.of hb37, for_it (walk_enumT (xs := zs3)) (fun d σ H' => GaS F0 H0 (((us ++ jO path r i (.oth .room c1 q1) j) ++ jS path r i (.oth .room c1 q1) j) ++ jRn path r i (.oth .room c1 q1) j d) H' ∧ ∃ s7 s8 s9 : Option V, σ = [some (.ref a), some (.ref pa), some (.ref F0), some (.int (i : Nat)), some (.ref b), some (.int (j : Nat)), some (.ref c), s7, s8, s9])
      ⟨by rw [show jRn path r i (.oth .room c1 q1) j 0 = [] from rfl, List.append_nil]; exact hG7, _, _, _, rfl⟩ (fun d σ H' _ hP => SqT.of (hP.1.tup hF0 _ _ hb3)) (fun d x σ H8 H9 hdd hP hY => ?_) (fun σ H8 hP => ?_)⟩
    rotate_left
    · obtain ⟨hG8, s7, s8, s9, rfl⟩ := hP
      rw [lq1] at hG8
      exact fin H8 (jRn path r i (.oth .room c1 q1) j q1.length) rfl hG8 _ _ _ _ _
    obtain ⟨hG8, s7, s8, s9, rfl⟩ := hP
    obtain ⟨T3, y3, rfl, nT3, rfl, hy3⟩ := hY
    obtain ⟨p3, hp3, hpp3⟩ := PartsAt.get hzs3 hy3
    have hG9 := hG8.same (same_new (o := HO.tup [.int (d : Nat), y3]) nT3)
    have hT9 : upd H8 T3 (.tup [.int (d : Nat), y3]) T3 = some (.tup [.int (d : Nat), y3]) := upd_same
    generalize upd H8 T3 (.tup [.int (d : Nat), y3]) = H9 at *
    have l9 : ((((us ++ jO path r i (.oth .room c1 q1) j) ++ jS path r i (.oth .room c1 q1) j)) ++ jRn path r i (.oth .room c1 q1) j d).length ≤ 13000000 := by
      have := jRn_len (path := path) (r := r) (k := i) (p := .oth .room c1 q1) (j := j) (d := d)
      rw [List.length_append, List.length_append, List.length_append]; omega
    rw [jRn_succ ho nji hp3, ← List.append_assoc]
    generalize (((us ++ jO path r i (.oth .room c1 q1) j) ++ jS path r i (.oth .room c1 q1) j)) ++ jRn path r i (.oth .room c1 q1) j d = vs at *
    obtain ⟨e1, es, rfl, he1, e0⟩ := PartAt.word hpp3
    have he9 := hG9.tup hF0 _ _ he1
    have hc9 := hG9.tup hF0 _ _ hc'
    have hpa9 := hG9.tup hF0 _ _ hpa0
    have skip9 : isInC c2 p3 = false → GaS F0 H0 (vs ++ (if isInC c2 p3 = true then [⟨"in", path, [i, d, j]⟩] else [])) H9 := fun e => by
      rw [e, if_neg Bool.false_ne_true, List.append_nil]; exact hG9
    refine ⟨T3, _, rfl, SqT.of hT9, rfl, _, _, rfl, _, _, rfl, rfl, ?_⟩
    refine ⟨_, rfl, e1, _, 0, _, rfl, rfl, SqT.of he9, atI_nat (j := 0) e0, rfl, _, rfl, ite2 (fun g5 => ?_) (fun g5 => iteF ⟨skip9 (isInC_no (str_ne g5)), _, _, _, rfl⟩)⟩
    obtain ⟨c5, q5, rfl⟩ := word_in (str_eq g5)
    obtain ⟨e1', _, _, e, he1', _, _⟩ := hpp3
    cases e
    rw [he1'] at he1
    cases he1
    refine ⟨_, rfl, e1, _, 1, _, rfl, rfl, SqT.of he9, atI_nat (j := 1) rfl, _, rfl, c, _, 1, _, rfl, rfl, SqT.of hc9, atI_nat (j := 1) rfl, rfl, _, rfl, ?_⟩
    by_cases ec : c5 = c2
    · refine iteU (decide_eq_true (by rw [ec])) ?_
      obtain ⟨ys, hys, _⟩ := id hG9.ex
      refine ⟨_, rfl, .inl ⟨rfl, _, SqL.of hys⟩, _, rfl, _, rfl, _, rfl, _, rfl, (show 5 ≤ sizeLine by decide), fun t nt => ?_⟩
      obtain ⟨ys', hF', ly', hG'⟩ := GaS.push (wd := "in") (path := path) (rs := [i, d, j]) hG9 nt hpa9 (by omega)
      refine ⟨F0, ys', _, rfl, rfl, hF', ly', ?_⟩
      rw [if_pos (show isInC c2 (.oth .inn c5 q5) = true from decide_eq_true ec)]
      exact ⟨hG', _, _, _, rfl⟩
    · exact iteD (decide_eq_false (fun z => ec (V.str.inj z))) ⟨skip9 (decide_eq_false ec), _, _, _, rfl⟩
  obtain ⟨hG4, s5, s6, s7, s8, s9, rfl⟩ := hm
  have lsn := lsN_len (path := path) (r := r) (k := i) szp r.length
  have lall : ((ts ++ lsA path i p) ++ lsN path r i p r.length).length ≤ 11000001 := by
    rw [List.length_append, List.length_append]; omega
  have fin : ∀ (H' : Hp) (vs : List Stp), vs.Perm (lsO path i p) → GaS F0 H0 (((ts ++ lsA path i p) ++ lsN path r i p r.length) ++ vs) H' → ∀ (t3 t4 t5 t6 t7 t8 t9 : Option V), (∃ ts, GaS F0 H0 ts H' ∧ ts.Perm (gsL path r 0 (r.take (i + 1)))) ∧ ∃ s3 s4 s5 s6 s7 s8 s9 : Option V, [some (V.ref a), some (.ref pa), some (.ref F0), t3, t4, t5, t6, t7, t8, t9] = [some (.ref a), some (.ref pa), some (.ref F0), s3, s4, s5, s6, s7, s8, s9] := fun H' vs e hg t3 t4 t5 t6 t7 t8 t9 => by
    refine ⟨⟨_, hg, ?_⟩, _, _, _, _, _, _, _, rfl⟩
    rw [gsR_step hp]
    refine (e.append_left _).trans ?_
    rw [List.append_assoc, List.append_assoc]
    refine pm.append ?_
    rw [← List.append_assoc]
    exact ls_part p
  have hlen : ((ts ++ lsA path i p) ++ lsN path r i p r.length).length + (lsO path i p).length ≤ 10000000 := by
    have e := (ls_part (path := path) (r := r) (k := i) p).length_eq
    rw [List.length_append, List.length_append] at e
    rw [List.length_append, List.length_append]
    omega
  generalize (ts ++ lsA path i p) ++ lsN path r i p r.length = us at *
  have hb4 := hG4.tup hF0 _ _ hb
  refine ⟨_, rfl, b, _, 0, _, rfl, rfl, SqT.of hb4, atI_nat (j := 0) h0, rfl, _, rfl, ite2 (fun g => ?_) (fun g => ?_)⟩
  rotate_left
  · exact fin H4 [] (by rw [lsO_no (str_ne g)]) (by rw [List.append_nil]; exact hG4) _ _ _ _ _ _ _
  obtain ⟨c1, q1, rfl⟩ := word_room (str_eq g)
  obtain ⟨b', b3, zs3, e, hb', hb3, hzs3⟩ := hpp
  cases e
  rw [hb'] at hb
  cases hb
  have hb34 := hG4.tup hF0 _ _ hb3
  have lq1 := PartsAt.len hzs3
  have lq2 := len_sizeR q1
  have lq3 := room_size hp
  have lq4 : sizeR q1 ≤ 1000 := Nat.le_trans lq3 lr
  refine ⟨fun σ' H' => GaS F0 H0 (us ++ oN path i c1 q1 q1.length) H' ∧ ∃ s5 s6 s7 s8 s9 : Option V, σ' = [some (.ref a), some (.ref pa), some (.ref F0), some (.int (i : Nat)), some (.ref b), s5, s6, s7, s8, s9], ?_, fun σ' H5 hm => ?_⟩
  · refine ⟨_, rfl, b, _, 2, _, rfl, rfl, SqT.of hb4, atI_nat (j := 2) rfl, b3, zs3, rfl, SqT.of hb34, for_it (walk_enumT (xs := zs3)) (fun j σ H' => GaS F0 H0 (us ++ oN path i c1 q1 j) H' ∧ ∃ s5 s6 s7 s8 s9 : Option V, σ = [some (.ref a), some (.ref pa), some (.ref F0), some (.int (i : Nat)), some (.ref b), s5, s6, s7, s8, s9])
      ⟨by rw [show oN path i c1 q1 0 = [] from rfl, List.append_nil]; exact hG4, _, _, _, _, _, rfl⟩ (fun j σ H' _ hP => SqT.of (hP.1.tup hF0 _ _ hb3)) (fun j x σ H5 H6 hj hP hY => ?_) (fun σ H5 hP => by rw [lq1] at hP; exact hP)⟩
    obtain ⟨hG5, s5, s6, s7, s8, s9, rfl⟩ := hP
    obtain ⟨T2, y2, rfl, nT2, rfl, hy2⟩ := hY
    obtain ⟨o, ho, hoo⟩ := PartsAt.get hzs3 hy2
    have hG6 := hG5.same (same_new (o := HO.tup [.int (j : Nat), y2]) nT2)
    have hT6 : upd H5 T2 (.tup [.int (j : Nat), y2]) T2 = some (.tup [.int (j : Nat), y2]) := upd_same
    generalize upd H5 T2 (.tup [.int (j : Nat), y2]) = H6 at *
    obtain ⟨c, ws, rfl, hc, k0⟩ := PartAt.word hoo
    have hc6 := hG6.tup hF0 _ _ hc
    refine ⟨T2, _, rfl, SqT.of hT6, rfl, _, _, rfl, _, _, rfl, rfl, ?_⟩
    refine ⟨_, rfl, c, _, 0, _, rfl, rfl, SqT.of hc6, atI_nat (j := 0) k0, rfl, _, rfl, ite2 (fun g2 => ?_) (fun g2 => ?_)⟩
    rotate_left
    · rw [oN_no ho (str_ne g2)]
      exact ⟨hG6, _, _, _, _, _, rfl⟩
    obtain ⟨c2, q2, rfl⟩ := word_room (str_eq g2)
    obtain ⟨c', c3, ws3, e, hc', hc3, hws3⟩ := hoo
    cases e
    rw [hc'] at hc
    cases hc
    have hc36 := hG6.tup hF0 _ _ hc3
    have lw1 := PartsAt.len hws3
    have lw2 := len_sizeR q2
    have lw3 := room_size ho
    have on := oN_len (path := path) (k := i) (c := c1) (n := j) lq4
    have l6 : (us ++ oN path i c1 q1 j).length ≤ 12000001 := by
      rw [List.length_append]; omega
    rw [oN_yes ho, ← List.append_assoc]
    generalize us ++ oN path i c1 q1 j = vs at *
    refine ⟨_, rfl, c, _, 2, _, rfl, rfl, SqT.of hc6, atI_nat (j := 2) rfl, c3, ws3, rfl, SqT.of hc36, for_it (walk_enumT (xs := ws3)) (fun d σ H' => GaS F0 H0 (vs ++ oD path i c1 q2 j d) H' ∧ ∃ s6 s7 s8 s9 : Option V, σ = [some (.ref a), some (.ref pa), some (.ref F0), some (.int (i : Nat)), some (.ref b), some (.int (j : Nat)), s6, s7, s8, s9])
      ⟨by rw [show oD path i c1 q2 j 0 = [] from rfl, List.append_nil]; exact hG6, _, _, _, _, rfl⟩ (fun d σ H' _ hP => SqT.of (hP.1.tup hF0 _ _ hc3)) (fun d x σ H8 H9 hdd hP hY => ?_) (fun σ H8 hP => ?_)⟩
    rotate_left
    · obtain ⟨hG8, s6, s7, s8, s9, rfl⟩ := hP
      rw [lw1] at hG8
      exact ⟨hG8, _, _, _, _, _, rfl⟩
    obtain ⟨hG8, s6, s7, s8, s9, rfl⟩ := hP
    obtain ⟨T3, y3, rfl, nT3, rfl, hy3⟩ := hY
    obtain ⟨p3, hp3, hpp3⟩ := PartsAt.get hws3 hy3
    have hG9 := hG8.same (same_new (o := HO.tup [.int (d : Nat), y3]) nT3)
    have hT9 : upd H8 T3 (.tup [.int (d : Nat), y3]) T3 = some (.tup [.int (d : Nat), y3]) := upd_same
    generalize upd H8 T3 (.tup [.int (d : Nat), y3]) = H9 at *
    have l9 : (vs ++ oD path i c1 q2 j d).length ≤ 13000000 := by
      have := oD_len (path := path) (k := i) (c := c1) (s := q2) (j := j) (n := d)
      rw [List.length_append]; omega
    rw [oD_succ hp3, ← List.append_assoc]
    generalize vs ++ oD path i c1 q2 j d = us2 at *
    obtain ⟨e1, es, rfl, he1, e0⟩ := PartAt.word hpp3
    have he9 := hG9.tup hF0 _ _ he1
    have hb9 := hG9.tup hF0 _ _ hb'
    have hpa9 := hG9.tup hF0 _ _ hpa0
    have skip9 : isOutC c1 p3 = false → GaS F0 H0 (us2 ++ (if isOutC c1 p3 = true then [⟨"out", path, [i, j, d]⟩] else [])) H9 := fun e => by
      rw [e, if_neg Bool.false_ne_true, List.append_nil]; exact hG9
    refine ⟨T3, _, rfl, SqT.of hT9, rfl, _, _, rfl, _, _, rfl, rfl, ?_⟩
    refine ⟨_, rfl, e1, _, 0, _, rfl, rfl, SqT.of he9, atI_nat (j := 0) e0, rfl, _, rfl, ite2 (fun g5 => ?_) (fun g5 => iteF ⟨skip9 (isOutC_no (str_ne g5)), _, _, _, _, rfl⟩)⟩
    obtain ⟨c5, q5, rfl⟩ := word_out (str_eq g5)
    obtain ⟨e1', _, _, e, he1', _, _⟩ := hpp3
    cases e
    rw [he1'] at he1
    cases he1
    refine ⟨_, rfl, e1, _, 1, _, rfl, rfl, SqT.of he9, atI_nat (j := 1) rfl, _, rfl, b, _, 1, _, rfl, rfl, SqT.of hb9, atI_nat (j := 1) rfl, rfl, _, rfl, ?_⟩
    by_cases ec : c5 = c1
    · refine iteU (decide_eq_true (by rw [ec])) ?_
      obtain ⟨ys, hys, _⟩ := id hG9.ex
      refine ⟨_, rfl, .inl ⟨rfl, _, SqL.of hys⟩, _, rfl, _, rfl, _, rfl, _, rfl, (show 5 ≤ sizeLine by decide), fun t nt => ?_⟩
      obtain ⟨ys', hF', ly', hG'⟩ := GaS.push (wd := "out") (path := path) (rs := [i, j, d]) hG9 nt hpa9 (by omega)
      refine ⟨F0, ys', _, rfl, rfl, hF', ly', ?_⟩
      rw [if_pos (show isOutC c1 (.oth .out c5 q5) = true from decide_eq_true ec)]
      exact ⟨hG', _, _, _, _, rfl⟩
    · exact iteD (decide_eq_false (fun z => ec (V.str.inj z))) ⟨skip9 (decide_eq_false ec), _, _, _, _, rfl⟩
  obtain ⟨hG5, s5, s6, s7, s8, s9, rfl⟩ := hm
  have on := oN_len (path := path) (k := i) (c := c1) (n := q1.length) lq4
  have l5 : (us ++ oN path i c1 q1 q1.length).length ≤ 12000001 := by
    rw [List.length_append]; omega
  have eO : lsO path i (.oth .room c1 q1) = oN path i c1 q1 q1.length ++ gsR (path ++ [i]) q1 := rfl
  rw [eO, List.length_append] at hlen
  have dq0 := deepR.mem _ (List.mem_of_getElem? hp)
  have dq1 : deepP (.oth .room c1 q1) = deepR q1 + 1 := by simp only [deepP]
  have eP : (gsP path r i (.oth .room c1 q1)).length = (goalsN r i q1 q1.length).length + ((leavN c1 q1 q1.length).length + (gsR (path ++ [i]) q1).length) := by
    simp only [gsP, gsR, List.length_append, List.length_map]
  obtain ⟨ys5, hF5, hst5⟩ := id hG5.ex
  have lys5 := StpsAt.len hst5
  have hb5 := hG5.tup hF0 _ _ hb'
  have hpa5 := hG5.tup hF0 _ _ hpa0
  refine ⟨_, rfl, .inl ⟨rfl, _, SqL.of hF5⟩, ?_⟩
  refine ⟨_, rfl, b, _, 2, _, rfl, rfl, SqT.of hb5, atI_nat (j := 2) rfl, _, rfl, _, rfl, (show 1 ≤ sizeLine by decide), fun tt ntt => ?_⟩
  refine ⟨pa, tt, _, _, rfl, rfl, kn hpa5 ntt, upd_same, ?_, fun H6 pc s6' hpc => ?_⟩
  · rw [vN_len]; show path.length + 1 ≤ 1000; omega
  have s56 := (same_new (o := HO.tup [.int (i : Nat)]) ntt).trans s6'
  have hG6 := hG5.same s56
  have hR6 : RowAt H6 q1 (.ref b3) := ⟨b3, zs3, rfl, hG6.tup hF0 _ _ hb3, PartsAt.mono (hG6.tup hF0) _ _ hzs3⟩
  have hpc' : H6 pc = some (.tup (vN (path ++ [i]))) := by rw [hpc, vN_app]; rfl
  refine ⟨.ref b3, q1, pc, path ++ [i], rfl, hR6, by omega, lq4, hpc', by rw [List.length_append]; show path.length + 1 + deepR q1 ≤ 900; omega, by omega, fun H7 p7 ts7 ys7 s7' np7 hp7 hst7 pm7 so7 => ?_⟩
  have hF7 := (s56.trans s7') _ _ hF5
  have lys7 := StpsAt.len hst7
  have l7 := pm7.length_eq
  refine ⟨F0, p7, ys5, ys7, rfl, rfl, hF7, hp7, Nat.le_trans (show ys5.length + ys7.length ≤ 10000000 by rw [List.length_append] at lys5; omega) (show 10000000 ≤ sizeLine by decide), ?_⟩
  have hG7 := (hG6.same s7').ext hF7 hst7
  rw [List.append_assoc] at hG7
  exact fin _ _ (by rw [eO]; exact pm7.append_left _) hG7 _ _ _ _ _ _ _
theorem lsteps_none {f : Addr} {fd : FuncData} {k : Nat} : FnOk P w K mg base CX0 k f fd psLS (spLSteps 0) := by
  have no : ∀ vs H Q E, ¬ spLSteps 0 vs H Q E := fun vs H Q E h => by
    obtain ⟨_, _, _, _, _, _, h1, _⟩ := h
    omega
  exact ⟨fun vs H Q E h => absurd h (no vs H Q E), fun A outer s H args us vs Q E _ _ _ _ h => absurd h (no vs H Q E)⟩
theorem lsteps_ok {f : Addr} {fd : FuncData} (F : Fun K "_law_steps" "_law_steps" sLSt f fd) (me : mg "enumerate" = none) (mo : mg "sorted" = none)
    (bF : Binds K fd psLS []) (mF : mg "_law_steps" = some (.ref f)) : ∀ n : Nat, FnOk P w K mg base CX0 (n + 1) f fd psLS (spLSteps n)
  | 0 => lsteps_none
  | n + 1 => ok_lsteps F me mo (lsteps_ok F me mo bF mF n) bF mF
end
end K19

set_option Elab.async false
set_option linter.all false
set_option maxRecDepth 100000
set_option maxHeartbeats 400000
namespace K19
open PySem PySem.Spec PyProof.Rows L2 Wk GxR
abbrev sPartAt : Stmt := topS 37
abbrev sRowAt : Stmt := topS 38
abbrev sWithRow : Stmt := topS 45
abbrev sWithPart : Stmt := topS 46
abbrev sPutAt : Stmt := topS 57
abbrev psPA : List Str := ["row", "place", "word"]
abbrev psWR : List Str := ["room", "row"]
abbrev psWP : List Str := ["row", "place", "part"]
abbrev psPu : List Str := ["row", "path", "told"]
theorem scPartAt : FnScope psPA psPA (defScope sPartAt) := ⟨rfl, rfl, rfl, by decide +kernel, rfl, by decide +kernel, by decide +kernel⟩
theorem scRowAt : FnScope ["stand", "path", "row", "place", "room"] ["stand", "path"] (defScope sRowAt) := ⟨rfl, rfl, rfl, by decide +kernel, rfl, by decide +kernel, by decide +kernel⟩
theorem scWithRow : FnScope psWR psWR (defScope sWithRow) := ⟨rfl, rfl, rfl, by decide +kernel, rfl, by decide +kernel, by decide +kernel⟩
theorem scWithPart : FnScope psWP psWP (defScope sWithPart) := ⟨rfl, rfl, rfl, by decide +kernel, rfl, by decide +kernel, by decide +kernel⟩
theorem scPutAt : FnScope ["row", "path", "told", "room"] psPu (defScope sPutAt) := ⟨rfl, rfl, rfl, by decide +kernel, rfl, by decide +kernel, by decide +kernel⟩
section
variable {P : Program} {w : World} {K : PySem.W.Frag} {mg : Str → Option Value} {base : Heap}
theorem ok_partat {f : Addr} {fd : FuncData} {k : Nat} (F : Fun K "part_at" "part_at" sPartAt f fd) (ml : mg "len" = none) : FnOk P w K mg base CX0 (k + 1) f fd psPA spPartAt := by
  refine F.ok scPartAt (fun vs H Q E h => ?_) (fun cdv A outer s H vs Q E hr h => ?_)
  · obtain ⟨_, _, _, _, _, rfl, _⟩ := h
    rfl
  obtain ⟨a, xs, r, i, w, rfl, ha, hR, lr, qy, qn⟩ := h
  refine ⟨_, pss_cons (ps_if (PW.pt (pw_and (pt_chain op_le op_lt pe_int (pv 1) (pe_callB call_len_seq (by rfl) ml PySem.boot_len (pa_cons (pv 0) pa_nil)))
      (pw_and1 (pt_cmpR op_eq (pe_ix ix_tup (pe_ix ix_tup (pv 0) (pv 1) (fun _ _ => rfl)) pe_int (fun _ _ => rfl)) (pv 2) (nomark _)))))
      (pss_one (ps_ret (pe_ix ix_tup (pv 0) (pv 1) (fun _ _ => rfl)))) pss_nil)
    (pss_one (ps_ret pe_non)), ?_⟩
  have lx := PartsAt.len hR
  refine ⟨_, rfl, 0, i, rfl, rfl, _, rfl, ?_⟩
  refine ite2 (fun g => ?_) (fun g => ?_)
  rotate_left
  · have g' : ¬ 0 ≤ i := fun z => g (decide_eq_true z)
    exact ⟨_, rfl, iteF (iteF (qn fun j p e => absurd e (by omega)))⟩
  have g' : 0 ≤ i := of_decide_eq_true g
  obtain ⟨j, rfl⟩ : ∃ j : Nat, i = (j : Nat) := ⟨i.toNat, by omega⟩
  refine ⟨_, rfl, a, xs, rfl, .inr (SqT.of ha), _, _, rfl, rfl, _, rfl, ?_⟩
  refine ite2 (fun g2 => ?_) (fun g2 => ?_)
  rotate_left
  · have g2' : ¬ j < xs.length := fun z => g2 (decide_eq_true (by omega))
    refine iteF (qn fun j' p e hp => ?_)
    have : j' = j := by omega
    subst this
    have := (List.getElem?_eq_some_iff.mp hp).1
    omega
  have g2' : j < xs.length := by
    have := of_decide_eq_true g2
    omega
  obtain ⟨y, hy⟩ : ∃ y, xs[j]? = some y := ⟨xs[j], List.getElem?_eq_getElem g2'⟩
  obtain ⟨p, hp, hpa⟩ := PartsAt.get hR hy
  obtain ⟨b, ys, rfl, hb, h0⟩ := PartAt.word hpa
  refine ⟨_, rfl, _, rfl, a, xs, _, _, rfl, rfl, SqT.of ha, atI_nat (j := j) hy, b, ys, 0, _, rfl, rfl, SqT.of hb, atI_nat (j := 0) h0, _, rfl, rfl, _, rfl, ?_⟩
  by_cases c : wordP p = w
  · refine iteU (decide_eq_true (by rw [c])) ?_
    exact ⟨_, rfl, _, rfl, a, xs, _, _, rfl, rfl, SqT.of ha, atI_nat (j := j) hy, qy j p _ rfl hp hy c⟩
  · refine iteD (decide_eq_false (fun z => c (V.str.inj z))) (qn fun j' p' e hp' => ?_)
    have : j' = j := by omega
    subst this
    rw [hp] at hp'
    cases hp'
    exact c
theorem ok_rowat {f fP : Addr} {fd fdP : FuncData} (F : Fun K "row_at" "row_at" sRowAt f fd) (GP : FnOk P w K mg base CX0 1 fP fdP psPA spPartAt) (bP : Binds K fdP psPA []) (kP : PySem.W.keepIn K (.ref fP) = true) (mP : mg "part_at" = some (.ref fP)) :
    FnOk P w K mg base CX0 2 f fd ["stand", "path"] spRowAt := by
  refine F.ok scRowAt (fun vs H Q E h => ?_) (fun cdv A outer s H vs Q E hr h => ?_)
  · obtain ⟨_, _, _, _, _, _, rfl, _⟩ := h
    rfl
  obtain ⟨s0, pa, n, rv, r, path, rfl, hs, hR, lr, hp, qy, qn⟩ := h
  refine ⟨_, pss_cons (ps_set (i := 2) scRowAt.nd rfl (.inl rfl) (pe_ix ix_tup (pv 0) pe_int (fun _ _ => rfl)))
    (pss_cons (ps_for PassesOwn.never rfl (pi_tup (pv 1)) (pg_name (i := 3) scRowAt.nd rfl (.inl rfl))
      (pss_cons (ps_set (i := 4) scRowAt.nd rfl (.inl rfl) (pe_call GP hr (by rfl) mP kP bP .nil pass0 (pa_cons (pv 2) (pa_cons (pv 3) (pa_cons pe_str pa_nil)))))
      (pss_cons (ps_if (pt_cmp (pc_isN (pv 4))) (pss_one (ps_ret pe_non)) pss_nil)
      (pss_one (ps_set (i := 2) scRowAt.nd rfl (.inl rfl) (pe_ix ix_tup (pv 4) pe_int (fun _ _ => rfl)))))))
    (pss_one (ps_ret (pv 2)))), ?_⟩
  refine ⟨_, rfl, s0, _, 1, rv, rfl, rfl, SqT.of hs, atI_nat (j := 1) rfl, ?_⟩
  refine ⟨_, rfl, pa, rfl, ⟨_, SqT.of hp⟩, for_it (walk_tup (xs := vN path)) (fun i σ H' => H' = H ∧ ∃ (v : V) (q : List Part) (s3 s4 : Option V), σ = [some (.ref s0), some (.ref pa), some v, s3, s4] ∧ RowAt H q v ∧ sizeR q ≤ 100000 ∧ rowAt r (path.take i) = some q)
    ⟨rfl, rv, r, _, _, rfl, hR, lr, rfl⟩ (fun i σ H' _ hP => by rw [hP.1]; exact SqT.of hp) (fun i x σ H1 H2 hi hP hY => ?_) (fun σ H' hP => ?_)⟩
  · obtain ⟨rfl, v, q, s3, s4, rfl, hq, lq, hrow⟩ := hP
    obtain ⟨rfl, hx⟩ := hY
    obtain ⟨m, hm, rfl⟩ := vN_get hx
    obtain ⟨a, xs, rfl, ha, hps⟩ := hq
    have lx := PartsAt.len hps
    have l2 := len_sizeR q
    have tk : path.take (i + 1) = path.take i ++ [m] := by rw [List.take_add_one, hm]; rfl
    have step : rowAt r (path.take (i + 1)) = roomAt q m := by
      rw [tk, rowAt_app, hrow]
      show (roomAt q m).bind (fun s => some s) = _
      cases roomAt q m <;> rfl
    refine ⟨_, rfl, _, rfl, a, xs, q, (m : Nat), "room", rfl, ha, hps, by omega, fun j p u ej hp' hu hw => ?_, fun no => ?_⟩
    · have ej' : m = j := by omega
      subst ej'
      have hpu : PartAt H2 p u := by
        obtain ⟨p2, e2, h2⟩ := PartsAt.get hps hu
        rw [hp'] at e2
        cases e2
        exact h2
      obtain ⟨nm, q2, rfl⟩ := word_room hw
      obtain ⟨b, c, ys, rfl, hb, hc, hys⟩ := hpu
      have hroom : roomAt q m = some q2 := by
        unfold roomAt
        rw [hp']
      refine ⟨_, rfl, _, rfl, iteF ?_⟩
      refine ⟨_, rfl, b, _, 2, _, rfl, rfl, SqT.of hb, atI_nat (j := 2) rfl, ?_⟩
      exact ⟨rfl, _, q2, _, _, rfl, ⟨c, ys, rfl, hc, hys⟩, Nat.le_trans (room_size hp') lq, by rw [step, hroom]⟩
    · have hnone : roomAt q m = none := by
        cases e : roomAt q m with
        | none => rfl
        | some q2 =>
          obtain ⟨nm, e2⟩ := roomAt_some e
          exact absurd rfl (no m _ rfl e2)
      refine ⟨_, rfl, _, rfl, iteT (qn ?_)⟩
      have e : path = path.take (i + 1) ++ path.drop (i + 1) := (List.take_append_drop _ _).symm
      rw [e, rowAt_app, step, hnone]
      rfl
  · obtain ⟨rfl, v, q, s3, s4, rfl, hq, lq, hrow⟩ := hP
    rw [vN_len, List.take_length] at hrow
    exact ⟨_, rfl, qy q v hrow hq⟩
theorem ok_withrow {f : Addr} {fd : FuncData} {k : Nat} (F : Fun K "with_row" "with_row" sWithRow f fd) : FnOk P w K mg base CX0 (k + 1) f fd psWR spWithRow := by
  refine F.ok scWithRow (fun vs H Q E h => ?_) (fun cdv A outer s H vs Q E hr h => ?_)
  · obtain ⟨_, _, _, _, _, _, rfl, _⟩ := h
    rfl
  obtain ⟨v, rv, w, n, q0, r, rfl, hv, hR, q⟩ := h
  obtain ⟨a, b, xs, rfl, ha, hb, hxs⟩ := hv
  obtain ⟨c, ys, rfl, hc, hys⟩ := hR
  refine ⟨_, pss_one (ps_ret (pe_tup (pa_cons (pe_ix ix_tup (pv 0) pe_int (fun _ _ => rfl)) (pa_cons (pe_ix ix_tup (pv 0) pe_int (fun _ _ => rfl)) (pa_cons (pv 1) pa_nil))))), ?_⟩
  refine ⟨_, rfl, a, _, 0, _, rfl, rfl, SqT.of ha, atI_nat (j := 0) rfl, _, rfl, a, _, 1, _, rfl, rfl, SqT.of ha, atI_nat (j := 1) rfl, _, rfl, (show 3 ≤ sizeLine by decide), fun t nt => ?_⟩
  exact q _ _ (same_new nt) ⟨t, c, ys, rfl, upd_same, kn hc nt, PartsAt.mono (STup.new nt) _ _ hys⟩
theorem ok_withpart {f : Addr} {fd : FuncData} {k : Nat} (F : Fun K "with_part" "with_part" sWithPart f fd) : FnOk P w K mg base CX0 (k + 1) f fd psWP spWithPart := by
  refine F.ok scWithPart (fun vs H Q E h => ?_) (fun cdv A outer s H vs Q E hr h => ?_)
  · obtain ⟨_, _, _, _, _, rfl, _⟩ := h
    rfl
  obtain ⟨v, pv', r, i, p, rfl, hR, lr, hi, hp, q⟩ := h
  obtain ⟨a, xs, rfl, ha, hxs⟩ := hR
  have lx := PartsAt.len hxs
  refine ⟨_, pss_one (ps_ret (pe_tup (pa_star (pe_slice sl_tupA (pv 0) po_none (po_some (pv 1))) (pa_cons (pv 2) (pa_star (pe_slice sl_tupA (pv 0) (po_some (pe_op op_add (pv 1) pe_int)) po_none) pa_nil))))), ?_⟩
  have ej : ((i : Nat) : Int) + 1 = ((i + 1 : Nat) : Int) := by omega
  have c1 : HT.sIx xs.length xs.length (some ((i : Nat) : Int)) = i := by rw [HT.sIx_nat]; omega
  have c2 : HT.sIx xs.length 0 (some (((i : Nat) : Int) + 1)) = i + 1 := by rw [ej, HT.sIx_nat]; omega
  refine ⟨_, rfl, _, rfl, _, rfl, a, xs, rfl, SqT.of ha, fun z => absurd (c1.symm.trans z.2) (by omega), fun _ t1 nt1 => ?_⟩
  rw [show cutV xs none (some ((i : Nat) : Int)) = xs.take i from by unfold cutV; rw [HT.sIx_none, c1, List.drop_zero, Nat.sub_zero]]
  refine ⟨t1, _, rfl, SqT.of upd_same, _, rfl, _, rfl, _, rfl, _, _, rfl, rfl, _, rfl, a, xs, rfl, SqT.of (kn ha nt1), fun z => absurd (c2.symm.trans z.1) (by omega), fun _ t2 nt2 => ?_⟩
  rw [show cutV xs (some (((i : Nat) : Int) + 1)) none = xs.drop (i + 1) from by
    unfold cutV
    rw [HT.sIx_none, c2]
    exact List.take_of_length_le (by rw [List.length_drop]; omega)]
  refine ⟨t2, _, rfl, SqT.of upd_same, ?_, fun t3 nt3 => ?_⟩
  · rw [List.append_nil, List.length_append, List.length_take, List.length_cons, List.length_drop]
    exact Nat.le_trans (by omega) (show 100000 ≤ sizeLine by decide)
  have ss := (same_new (o := HO.tup (xs.take i)) nt1).trans ((same_new (o := HO.tup (xs.drop (i + 1))) nt2).trans (same_new (o := HO.tup (xs.take i ++ pv' :: (xs.drop (i + 1) ++ []))) nt3))
  have hP : PartsAt H (r.take i ++ p :: r.drop (i + 1)) (xs.take i ++ pv' :: (xs.drop (i + 1) ++ [])) := by
    rw [List.append_nil]
    exact PartsAt.app (show PartsAt H (p :: r.drop (i + 1)) (pv' :: xs.drop (i + 1)) from ⟨pv', _, rfl, hp, hxs.drop (i + 1)⟩) (hxs.take i)
  refine q _ _ ss ⟨t3, _, rfl, upd_same, ?_⟩
  rw [set_split p hi]
  exact PartsAt.mono (STup.of ss) _ _ hP
theorem ok_putat {f fR fW : Addr} {fd fdR fdW : FuncData} {n : Nat} (F : Fun K "with_row_at" "with_row_at" sPutAt f fd)
    (GR : FnOk P w K mg base CX0 1 fR fdR psWR spWithRow) (bR : Binds K fdR psWR []) (kR : PySem.W.keepIn K (.ref fR) = true) (mR : mg "with_row" = some (.ref fR))
    (GW : FnOk P w K mg base CX0 1 fW fdW psWP spWithPart) (bW : Binds K fdW psWP []) (kW : PySem.W.keepIn K (.ref fW) = true) (mW : mg "with_part" = some (.ref fW))
    (G : FnOk P w K mg base CX0 (n + 1) f fd psPu (spPutAt n)) (bF : Binds K fd psPu []) (mF : mg "with_row_at" = some (.ref f)) : FnOk P w K mg base CX0 (n + 1 + 1) f fd psPu (spPutAt (n + 1)) := by
  refine F.ok scPutAt (fun vs H Q E h => ?_) (fun cdv A outer s H vs Q E hr h => ?_)
  · obtain ⟨_, _, _, _, _, _, rfl, _⟩ := h
    rfl
  obtain ⟨v, tv, r, q0, pa, path, rfl, hR, lr, hp, lp, lp2, hv, hT, q⟩ := h
  have hr1 : Room 1 _ := hr.mono (by omega)
  obtain ⟨a, xs, rfl, ha, hxs⟩ := hR
  have lx := PartsAt.len hxs
  refine ⟨_, pss_cons (ps_if (pt_not (pt_truth (pv 1) (by intro _; rfl))) (pss_one (ps_ret (pv 2))) pss_nil)
    (pss_cons (ps_set (i := 3) scPutAt.nd rfl (.inl rfl) (pe_ix ix_tup (pv 0) (pe_ix ix_tup (pv 1) pe_int (fun _ _ => rfl)) (fun _ _ => rfl)))
    (pss_one (ps_ret (pe_call GW hr1 (by rfl) mW kW bW .nil pass0 (pa_cons (pv 0) (pa_cons (pe_ix ix_tup (pv 1) pe_int (fun _ _ => rfl)) (pa_cons
      (pe_call GR hr1 (by rfl) mR kR bR .nil pass0 (pa_cons (pv 3) (pa_cons (pe_call G hr (by rfl) mF F.kp bF .nil pass0 (pa_cons (pe_ix ix_tup (pv 3) pe_int (fun _ _ => rfl)) (pa_cons (pe_slice sl_tupS (pv 1) (po_some pe_int) po_none) (pa_cons (pv 2) pa_nil)))) pa_nil))) pa_nil))))))), ?_⟩
  refine ⟨_, rfl, _, .inr (.inl ⟨_, SqT.of hp, rfl⟩), ?_⟩
  cases path with
  | nil => exact iteT ⟨_, rfl, q _ _ (fun _ _ e => e) hT⟩
  | cons m p =>
    refine iteF ?_
    have hv' : (rowAt r (m :: p)).isSome = true := hv
    cases e : roomAt r m with
    | none =>
      have : rowAt r (m :: p) = none := by
        show (roomAt r m).bind _ = none
        rw [e]
        rfl
      rw [this] at hv'
      cases hv'
    | some q2 =>
      obtain ⟨nm, e2⟩ := roomAt_some e
      have hrow : rowAt r (m :: p) = rowAt q2 p := by
        show (roomAt r m).bind _ = _
        rw [e]
        rfl
      rw [hrow] at hv'
      obtain ⟨y, hy, hpy⟩ := PartsAt.at hxs e2
      have hm : m < r.length := (List.getElem?_eq_some_iff.mp e2).1
      have l2 := len_sizeR r
      refine ⟨_, rfl, _, rfl, pa, _, 0, _, rfl, rfl, SqT.of hp, atI_nat (j := 0) rfl, a, xs, _, y, rfl, rfl, SqT.of ha, atI_nat (j := m) hy, ?_⟩
      obtain ⟨b, c, ys, rfl, hb, hc, hys⟩ := id hpy
      refine ⟨_, rfl, _, rfl, pa, _, 0, _, rfl, rfl, SqT.of hp, atI_nat (j := 0) rfl, _, rfl, _, rfl, b, _, 2, _, rfl, rfl, SqT.of hb, atI_nat (j := 2) rfl, ?_⟩
      refine ⟨_, rfl, 1, rfl, pa, _, rfl, hp, ?_, fun H1 c1 s1 hc1 => ?_⟩
      · rw [show (1 : Int) = ((1 : Nat) : Int) from rfl, HT.sIx_nat, vN_len, List.length_cons]
        rintro ⟨z, _⟩
        omega
      rw [show (1 : Int) = ((1 : Nat) : Int) from rfl, cutOff (by rw [vN_len, List.length_cons]; omega), vN_drop] at hc1
      refine ⟨_, rfl, .ref c, tv, q2, q0, c1, p, rfl, ⟨c, ys, rfl, s1 _ _ hc, PartsAt.mono (STup.of s1) _ _ hys⟩, Nat.le_trans (room_size e2) lr, hc1, by rw [List.length_cons] at lp; omega, by rw [List.length_cons] at lp2; omega, hv', hT.mono (STup.of s1), fun H2 u s2 hu => ?_⟩
      refine ⟨_, _, .room, nm, q2, putAt q2 p q0, rfl, PartAt.mono (STup.of (s1.trans s2)) _ _ hpy, hu, fun H3 u3 s3 hu3 => ?_⟩
      have s03 := s1.trans (s2.trans s3)
      refine ⟨_, _, r, m, _, rfl, ⟨a, xs, rfl, s03 _ _ ha, PartsAt.mono (STup.of s03) _ _ hxs⟩, by omega, hm, hu3, fun H4 u4 s4 hu4 => q H4 u4 (s03.trans s4) ?_⟩
      have ep : putAt r (m :: p) q0 = r.set m (.oth .room nm (putAt q2 p q0)) := by
        show (match r[m]? with | some (.oth w n s) => r.set m (.oth w n (putAt s p q0)) | _ => r) = _
        rw [e2]
      rw [ep]
      exact hu4
theorem putat_none {f : Addr} {fd : FuncData} {k : Nat} : FnOk P w K mg base CX0 k f fd psPu (spPutAt 0) := by
  have no : ∀ vs H Q E, ¬ spPutAt 0 vs H Q E := fun vs H Q E h => by
    obtain ⟨_, _, _, _, _, _, _, _, _, _, h1, _⟩ := h
    omega
  exact ⟨fun vs H Q E h => absurd h (no vs H Q E), fun A outer s H args us vs Q E _ _ _ _ h => absurd h (no vs H Q E)⟩
theorem putat_ok {f fR fW : Addr} {fd fdR fdW : FuncData} (F : Fun K "with_row_at" "with_row_at" sPutAt f fd)
    (GR : FnOk P w K mg base CX0 1 fR fdR psWR spWithRow) (bR : Binds K fdR psWR []) (kR : PySem.W.keepIn K (.ref fR) = true) (mR : mg "with_row" = some (.ref fR))
    (GW : FnOk P w K mg base CX0 1 fW fdW psWP spWithPart) (bW : Binds K fdW psWP []) (kW : PySem.W.keepIn K (.ref fW) = true) (mW : mg "with_part" = some (.ref fW))
    (bF : Binds K fd psPu []) (mF : mg "with_row_at" = some (.ref f)) : ∀ n : Nat, FnOk P w K mg base CX0 (n + 1) f fd psPu (spPutAt n)
  | 0 => putat_none
  | n + 1 => ok_putat F GR bR kR mR GW bW kW mW (putat_ok F GR bR kR mR GW bW kW mW bF mF n) bF mF
end
end K19

set_option Elab.async false
set_option linter.all false
set_option maxRecDepth 100000
set_option maxHeartbeats 400000
namespace K19
open PySem PySem.Spec PyProof.Rows L2 Wk GxR
abbrev sLPaths : Stmt := topS 66
abbrev psLPa : List Str := ["_law_row_here", "_law_path"]
theorem scLPaths : FnScope ["_law_row_here", "_law_path", "_law_found", "_law_k", "_law_part_here"] psLPa (defScope sLPaths) := ⟨rfl, rfl, rfl, by decide +kernel, rfl, by decide +kernel, by decide +kernel⟩
section
variable {P : Program} {w : World} {K : PySem.W.Frag} {mg : Str → Option Value} {base : Heap}
theorem ok_rowi {f fP : Addr} {fd fdP : FuncData} (F : Fun K "row_at" "row_at" sRowAt f fd) (GP : FnOk P w K mg base CX0 1 fP fdP psPA spPartAt) (bP : Binds K fdP psPA []) (kP : PySem.W.keepIn K (.ref fP) = true) (mP : mg "part_at" = some (.ref fP)) :
    FnOk P w K mg base CX0 2 f fd ["stand", "path"] spRowI := by
  refine F.ok scRowAt (fun vs H Q E h => ?_) (fun cdv A outer s H vs Q E hr h => ?_)
  · obtain ⟨_, _, _, _, _, _, rfl, _⟩ := h
    rfl
  obtain ⟨s0, pa, n, rv, r, path, rfl, hs, hR, lr, hp, qy, qn⟩ := h
  refine ⟨_, pss_cons (ps_set (i := 2) scRowAt.nd rfl (.inl rfl) (pe_ix ix_tup (pv 0) pe_int (fun _ _ => rfl)))
    (pss_cons (ps_for PassesOwn.never rfl (pi_tup (pv 1)) (pg_name (i := 3) scRowAt.nd rfl (.inl rfl))
      (pss_cons (ps_set (i := 4) scRowAt.nd rfl (.inl rfl) (pe_call GP hr (by rfl) mP kP bP .nil pass0 (pa_cons (pv 2) (pa_cons (pv 3) (pa_cons pe_str pa_nil)))))
      (pss_cons (ps_if (pt_cmp (pc_isN (pv 4))) (pss_one (ps_ret pe_non)) pss_nil)
      (pss_one (ps_set (i := 2) scRowAt.nd rfl (.inl rfl) (pe_ix ix_tup (pv 4) pe_int (fun _ _ => rfl)))))))
    (pss_one (ps_ret (pv 2)))), ?_⟩
  refine ⟨_, rfl, s0, _, 1, rv, rfl, rfl, SqT.of hs, atI_nat (j := 1) rfl, ?_⟩
  refine ⟨_, rfl, pa, rfl, ⟨_, SqT.of hp⟩, for_it (walk_tup (xs := path.map V.int)) (fun i σ H' => H' = H ∧ ∃ (v : V) (q : List Part) (s3 s4 : Option V), σ = [some (.ref s0), some (.ref pa), some v, s3, s4] ∧ RowAt H q v ∧ sizeR q ≤ 100000 ∧ rowI r (path.take i) = some q)
    ⟨rfl, rv, r, _, _, rfl, hR, lr, rfl⟩ (fun i σ H' _ hP => by rw [hP.1]; exact SqT.of hp) (fun i x σ H1 H2 hi hP hY => ?_) (fun σ H' hP => ?_)⟩
  · obtain ⟨rfl, v, q, s3, s4, rfl, hq, lq, hrow⟩ := hP
    obtain ⟨rfl, hx⟩ := hY
    rw [List.getElem?_map] at hx
    obtain ⟨m, hm, rfl⟩ := Option.map_eq_some_iff.mp hx
    obtain ⟨a, xs, rfl, ha, hps⟩ := hq
    have lx := PartsAt.len hps
    have l2 := len_sizeR q
    have tk : path.take (i + 1) = path.take i ++ [m] := by rw [List.take_add_one, hm]; rfl
    have step : rowI r (path.take (i + 1)) = roomI q m := by
      rw [tk, rowI_app, hrow]
      show (roomI q m).bind (fun s => some s) = _
      cases roomI q m <;> rfl
    refine ⟨_, rfl, _, rfl, a, xs, q, m, "room", rfl, ha, hps, by omega, fun j p u ej hp' hu hw => ?_, fun no => ?_⟩
    · subst ej
      have hpu : PartAt H2 p u := by
        obtain ⟨p2, e2, h2⟩ := PartsAt.get hps hu
        rw [hp'] at e2
        cases e2
        exact h2
      obtain ⟨nm, q2, rfl⟩ := word_room hw
      obtain ⟨b, c, ys, rfl, hb, hc, hys⟩ := hpu
      have hroom : roomI q (j : Int) = some q2 := by
        rw [roomI_nat]
        unfold roomAt
        rw [hp']
      refine ⟨_, rfl, _, rfl, iteF ?_⟩
      refine ⟨_, rfl, b, _, 2, _, rfl, rfl, SqT.of hb, atI_nat (j := 2) rfl, ?_⟩
      exact ⟨rfl, _, q2, _, _, rfl, ⟨c, ys, rfl, hc, hys⟩, Nat.le_trans (room_size hp') lq, by rw [step, hroom]⟩
    · have hnone : roomI q m = none := by
        unfold roomI
        split
        · rename_i h0
          cases e : roomAt q m.toNat with
          | none => rfl
          | some q2 =>
            obtain ⟨nm, e2⟩ := roomAt_some e
            exact absurd rfl (no m.toNat _ (by omega) e2)
        · rfl
      refine ⟨_, rfl, _, rfl, iteT (qn ?_)⟩
      have e : path = path.take (i + 1) ++ path.drop (i + 1) := (List.take_append_drop _ _).symm
      rw [e, rowI_app, step, hnone]
      rfl
  · obtain ⟨rfl, v, q, s3, s4, rfl, hq, lq, hrow⟩ := hP
    rw [List.length_map, List.take_length] at hrow
    exact ⟨_, rfl, qy q v hrow hq⟩
theorem ok_lpaths {f : Addr} {fd : FuncData} {n : Nat} (F : Fun K "_law_paths" "_law_paths" sLPaths f fd) (me : mg "enumerate" = none)
    (G : FnOk P w K mg base CX0 (n + 1) f fd psLPa (spPaths n)) (bF : Binds K fd psLPa []) (mF : mg "_law_paths" = some (.ref f)) : FnOk P w K mg base CX0 (n + 1 + 1) f fd psLPa (spPaths (n + 1)) := by
  refine F.ok scLPaths (fun vs H Q E h => ?_) (fun cdv A outer s H vs Q E hr h => ?_)
  · obtain ⟨_, _, _, _, rfl, _⟩ := h
    rfl
  obtain ⟨v, r, pa, path, rfl, hR, hd, lr, hpa, lpd, q⟩ := h
  refine ⟨_, pss_cons (ps_set (i := 2) scLPaths.nd rfl (.inl rfl) (pe_lst (pa_cons (pe_tup (pa_cons (pv 1) (pa_cons (pv 0) pa_nil))) pa_nil)))
    (pss_cons (ps_for PassesOwn.never rfl (pi_enumT (by rfl) me (pa_cons (pv 0) pa_nil)) (pg_tup rfl (pgs_cons (pg_name (i := 3) scLPaths.nd rfl (.inl rfl)) (pgs_cons (pg_name (i := 4) scLPaths.nd rfl (.inl rfl)) pgs_nil)))
      (pss_one (ps_if (pt_cmpR op_eq (pe_ix ix_tup (pv 4) pe_int (fun _ _ => rfl)) pe_str (nomark _))
        (pss_one (ps_expr (pe_bm PySem.F.plainAttrs_list PySem.F.slot_list_extend PySem.F.type_list_extend mt_extend (pv 2) (pa_cons (pe_call G hr (by rfl) mF F.kp bF .nil pass0 (pa_cons (pe_ix ix_tup (pv 4) pe_int (fun _ _ => rfl)) (pa_cons (pe_op op_catM (pv 1) (pe_tup (pa_cons (pv 3) pa_nil))) pa_nil))) pa_nil)))) pss_nil)))
    (pss_one (ps_ret (pv 2)))), ?_⟩
  obtain ⟨a, xs, rfl, ha, hps⟩ := hR
  have lx := PartsAt.len hps
  have l2 := len_sizeR r
  refine ⟨_, rfl, _, rfl, (show 2 ≤ sizeLine by decide), fun t0 nt0 => ⟨(show 1 ≤ sizeLine by decide), fun F0 nF => ?_⟩⟩
  have s1 : Same H (upd H t0 (.tup [.ref pa, .ref a])) := same_new nt0
  have ht1 : upd H t0 (.tup [.ref pa, .ref a]) t0 = some (.tup [.ref pa, .ref a]) := upd_same
  have nFH : H F0 = none := by
    cases e : H F0 with
    | none => rfl
    | some o => rw [s1 _ _ e] at nF; cases nF
  generalize upd H t0 (.tup [.ref pa, .ref a]) = H00 at *
  have sF : Same H00 (upd H00 F0 (.lst [.ref t0])) := same_new nF
  have hF0 : upd H00 F0 (.lst [.ref t0]) F0 = some (.lst [.ref t0]) := upd_same
  have ht0 := sF _ _ ht1
  have sA := s1.trans sF
  have ha0 := sA _ _ ha
  have hpa0 := sA _ _ hpa
  have hps0 := PartsAt.mono (STup.of sA) _ _ hps
  clear s1 ht1 nt0 sF
  generalize upd H00 F0 (.lst [.ref t0]) = H0 at *
  have tupm : ∀ {G G' : Hp}, STup G G' → ∀ x v, PthAt G x v → PthAt G' x v := fun s x v h => h.tup s x v
  refine ⟨_, rfl, a, xs, rfl, SqT.of ha0, for_it (walk_enumT (xs := xs)) (fun i σ H' => GaL PthAt F0 H0 ((path, r) :: ptL path 0 (r.take i)) H' ∧ ∃ s3 s4 : Option V, σ = [some (.ref a), some (.ref pa), some (.ref F0), s3, s4])
    ⟨⟨fun _ _ _ e => e, [.ref t0], hF0, ⟨.ref t0, [], rfl, ⟨t0, pa, .ref a, rfl, ht0, hpa0, ⟨a, xs, rfl, ha0, hps0⟩⟩, rfl⟩⟩, _, _, rfl⟩ (fun i σ H' _ hP => SqT.of (hP.1.tup hF0 _ _ ha0)) (fun i x σ H1 H2 hi hP hY => ?_) (fun σ H1 hP => ?_)⟩
  rotate_left
  · obtain ⟨hG, s3, s4, rfl⟩ := hP
    rw [lx, List.take_length] at hG
    obtain ⟨ys, hF1, hst⟩ := hG.ex
    exact ⟨_, rfl, q H1 F0 ys (fun b o e => hG.ks b o (ne_of_none e nFH) (sA _ _ e)) nFH hF1 hst⟩
  obtain ⟨hG, s3, s4, rfl⟩ := hP
  obtain ⟨T, y, rfl, nT, rfl, hy⟩ := hY
  obtain ⟨p, hp, hpp⟩ := PartsAt.get hps0 hy
  have hG2 := hG.same tupm (same_new (o := HO.tup [.int (i : Nat), y]) nT)
  have hT2 : upd H1 T (.tup [.int (i : Nat), y]) T = some (.tup [.int (i : Nat), y]) := upd_same
  generalize upd H1 T (.tup [.int (i : Nat), y]) = H2 at *
  obtain ⟨b, zs, rfl, hb, h0⟩ := PartAt.word hpp
  have hb2 := hG2.tup hF0 _ _ hb
  have hpa2 := hG2.tup hF0 _ _ hpa0
  have irl : i < r.length := by omega
  refine ⟨T, _, rfl, SqT.of hT2, rfl, _, _, rfl, _, _, rfl, rfl, ?_⟩
  refine ⟨_, rfl, b, _, 0, _, rfl, rfl, SqT.of hb2, atI_nat (j := 0) h0, rfl, _, rfl, ite2 (fun g => ?_) (fun g => ?_)⟩
  rotate_left
  · rw [ptL_step hp, ptP_no (str_ne g), List.append_nil]
    exact ⟨hG2, _, _, rfl⟩
  obtain ⟨c1, q1, rfl⟩ := word_room (str_eq g)
  obtain ⟨b', b3, zs3, e, hb', hb3, hzs3⟩ := hpp
  cases e
  rw [hb'] at hb
  cases hb
  have lq1 := PartsAt.len hzs3
  have lq2 := len_sizeR q1
  have lq3 := room_size hp
  have dq0 := deepR.mem _ (List.mem_of_getElem? hp)
  have dq1 : deepP (.oth .room c1 q1) = deepR q1 + 1 := by simp only [deepP]
  obtain ⟨ys5, hF5, hst5⟩ := id hG2.ex
  have lys5 := AllAt.len hst5
  have b0 := ptL_len path 0 (r.take i)
  have b1 : sizeR (r.take i) ≤ sizeR r := by
    have e := sizeR_app (r.take i) (r.drop i)
    rw [List.take_append_drop] at e
    omega
  rw [List.length_cons] at lys5
  refine ⟨_, rfl, .inl ⟨rfl, _, SqL.of hF5⟩, ?_⟩
  refine ⟨_, rfl, b, _, 2, _, rfl, rfl, SqT.of hb2, atI_nat (j := 2) rfl, _, rfl, _, rfl, (show 1 ≤ sizeLine by decide), fun tt ntt => ?_⟩
  refine ⟨pa, tt, _, _, rfl, rfl, kn hpa2 ntt, upd_same, ?_, fun H6 pc s6' hpc => ?_⟩
  · rw [vN_len]; show path.length + 1 ≤ 1000; omega
  have s56 := (same_new (o := HO.tup [.int (i : Nat)]) ntt).trans s6'
  have hG6 := hG2.same tupm s56
  have hR6 : RowAt H6 q1 (.ref b3) := ⟨b3, zs3, rfl, hG6.tup hF0 _ _ hb3, PartsAt.mono (hG6.tup hF0) _ _ hzs3⟩
  have hpc' : H6 pc = some (.tup (vN (path ++ [i]))) := by rw [hpc, vN_app]; rfl
  refine ⟨.ref b3, q1, pc, path ++ [i], rfl, hR6, by omega, by omega, hpc', by rw [List.length_append]; show path.length + 1 + deepR q1 ≤ 900; omega, fun H7 p7 ys7 s7' np7 hp7 hst7 => ?_⟩
  have hF7 := (s56.trans s7') _ _ hF5
  have lys7 := AllAt.len hst7
  have l7 := ptR_len (path ++ [i]) q1
  refine ⟨F0, p7, ys5, ys7, rfl, rfl, hF7, hp7, Nat.le_trans (show ys5.length + ys7.length ≤ 10000 by omega) (show 10000 ≤ sizeLine by decide), ?_⟩
  have hG7 := (hG6.same tupm s7').ext tupm hF7 hst7
  rw [ptL_step hp, ptP_room]
  exact ⟨hG7, _, _, rfl⟩
theorem lpaths_none {f : Addr} {fd : FuncData} {k : Nat} : FnOk P w K mg base CX0 k f fd psLPa (spPaths 0) := by
  have no : ∀ vs H Q E, ¬ spPaths 0 vs H Q E := fun vs H Q E h => by
    obtain ⟨_, _, _, _, _, _, h1, _⟩ := h
    omega
  exact ⟨fun vs H Q E h => absurd h (no vs H Q E), fun A outer s H args us vs Q E _ _ _ _ h => absurd h (no vs H Q E)⟩
theorem lpaths_ok {f : Addr} {fd : FuncData} (F : Fun K "_law_paths" "_law_paths" sLPaths f fd) (me : mg "enumerate" = none)
    (bF : Binds K fd psLPa []) (mF : mg "_law_paths" = some (.ref f)) : ∀ n : Nat, FnOk P w K mg base CX0 (n + 1) f fd psLPa (spPaths n)
  | 0 => lpaths_none
  | n + 1 => ok_lpaths F me (lpaths_ok F me bF mF n) bF mF
end
end K19

set_option Elab.async false
set_option linter.all false
set_option maxRecDepth 100000
set_option maxHeartbeats 400000
namespace K19
open PySem PySem.Spec PyProof.Rows L2 Wk GxR
abbrev sRooms : Stmt := topS 41
abbrev sGoals : Stmt := topS 42
abbrev sLeav : Stmt := topS 43
abbrev nmRo : List Str := ["row", "calling", "j", "part"]
abbrev nmGo : List Str := ["row", "k", "d", "deed", "j"]
abbrev nmLe : List Str := ["room", "j", "inner", "d", "deed"]
theorem scRooms : FnScope nmRo ["row", "calling"] (defScope sRooms) := ⟨rfl, rfl, rfl, by decide +kernel, rfl, by decide +kernel, by decide +kernel⟩
theorem scGoals : FnScope nmGo ["row", "k"] (defScope sGoals) := ⟨rfl, rfl, rfl, by decide +kernel, rfl, by decide +kernel, by decide +kernel⟩
theorem scLeav : FnScope nmLe ["room"] (defScope sLeav) := ⟨rfl, rfl, rfl, by decide +kernel, rfl, by decide +kernel, by decide +kernel⟩
abbrev gJP (K : PySem.W.Frag) (a b : Nat) := gTup K 2 (gCons (gName a) (gCons (gName b) gNil))
abbrev tIx (K : PySem.W.Frag) (i : Nat) (n : Int) : TE := tOp (rIxT K) (tVar i) (tC (.int n))
section
variable {P : Program} {w : World} {K : PySem.W.Frag} {mg : Str → Option Value} {base : Heap}
theorem ok_rooms {f : Addr} {fd : FuncData} {k : Nat} (F : Fun K "rooms_called" "rooms_called" sRooms f fd) (me : mg "enumerate" = none) : FnOk P w K mg base CX0 (k + 1) f fd ["row", "calling"] spRoomsC := by
  refine F.ok scRooms (fun vs H Q E h => ?_) (fun cdv A outer s H vs Q E hr h => ?_)
  · obtain ⟨_, _, _, rfl, _⟩ := h
    rfl
  obtain ⟨v, r, c, rfl, hR, lr, q⟩ := h
  refine ⟨_, pss_one (ps_ret (pe_lc (own := [("j", 2), ("part", 3)]) (g := gJP K 2 3) (tt := tAnd (tTest (tOp rEq (tIx K 3 0) (tC (.str "room")))) (tTest (tOp rEq (tIx K 3 1) (tVar 1)))) (te := tVar 2) (by rfl) scRooms.nd (pi_enumT (by rfl) me (pa_cons (pv 0) pa_nil))
      (blkOk_by (own := [("j", 2), ("part", 3)]) (N := nmRo) (sc := defScope sRooms) (by decide +kernel)) (fun _ _ _ _ _ => pg_tup rfl (pgs_cons (pg_name (i := 2) scRooms.nd rfl (Or.inl rfl)) (pgs_cons (pg_name (i := 3) scRooms.nd rfl (Or.inl rfl)) pgs_nil)))
      (fun _ _ _ _ _ => pts_one (PW.pt (pw_and (pt_cmpR op_eq (pe_ix ix_tup (pv 3) pe_int (fun _ _ => rfl)) pe_str (nomark _)) (pw_and1 (pt_cmpR op_eq (pe_ix ix_tup (pv 3) pe_int (fun _ _ => rfl)) (pv 1) (nomark _)))))) (fun _ _ _ _ _ => pv 2))), ?_⟩
  obtain ⟨a, xs, rfl, ha, hps⟩ := hR
  have lx := PartsAt.len hps
  have l2 := len_sizeR r
  refine ⟨_, rfl, a, xs, rfl, SqT.of ha, fun D nD => ?_⟩
  refine lc_it (walk_enumT (xs := xs)) (fun i H' => Same H H' ∧ H' D = some (.lst (vN (idx (isRoomC c) r i)))) ⟨same_new nD, upd_same⟩ (fun i H' _ hP => SqT.of (hP.1 _ _ ha)) (fun i x H1 H2 hi hP hY => ?_) (fun H1 hP => ?_)
  · obtain ⟨sm, hD⟩ := hP
    obtain ⟨T, y, rfl, nT, rfl, hy⟩ := hY
    obtain ⟨p, hp, hpa⟩ := PartsAt.get hps hy
    have sm2 : Same H (upd H1 T (.tup [.int (i : Nat), y])) := sm.trans (same_new nT)
    have hD2 : upd H1 T (.tup [.int (i : Nat), y]) D = some (.lst (vN (idx (isRoomC c) r i))) := kn hD nT
    have hT2 : upd H1 T (.tup [.int (i : Nat), y]) T = some (.tup [.int (i : Nat), y]) := upd_same
    generalize upd H1 T (.tup [.int (i : Nat), y]) = H2 at *
    have lo := idx_len (isRoomC c) r i
    have skip : isRoomC c p = false → Same H H2 ∧ H2 D = some (.lst (vN (idx (isRoomC c) r (i + 1)))) := fun e => by
      rw [idx_succ hp, e, if_neg (by decide), List.append_nil]
      exact ⟨sm2, hD2⟩
    obtain ⟨b, ys, rfl, hb, h0⟩ := PartAt.word hpa
    have hb2 := sm2 _ _ hb
    refine ⟨T, _, rfl, SqT.of hT2, rfl, _, _, rfl, _, _, rfl, rfl, rfl, _, rfl, b, ys, 0, _, rfl, rfl, SqT.of hb2, atI_nat (j := 0) h0, rfl, _, rfl, ite2 (fun g => ?_) (fun g => iteF (skip ?_))⟩
    · obtain ⟨nm, q2, rfl⟩ := word_room (str_eq g)
      obtain ⟨b', c', zs, e, hb', _, _⟩ := hpa
      cases e
      rw [hb'] at hb
      cases hb
      refine ⟨_, rfl, b, _, 1, _, rfl, rfl, SqT.of hb2, atI_nat (j := 1) rfl, _, rfl, rfl, _, rfl, ?_⟩
      by_cases ec : nm = c
      · refine iteU (decide_eq_true (by rw [ec])) ⟨_, rfl, _, hD2, small1000 (by rw [vN_len]; omega), fun z o e => ?_, ?_⟩
        · rw [upd_ne (ne_of_none e nD)]; exact sm2 _ _ e
        · rw [upd_same, idx_succ hp, if_pos (show isRoomC c (.oth .room nm q2) = true from decide_eq_true ec), vN_app]
          rfl
      · refine iteD (decide_eq_false (fun z => ec (V.str.inj z))) (skip (decide_eq_false ec))
    · cases p with
      | say n => rfl
      | again _ => rfl
      | oth wd n q2 =>
        cases wd with
        | room => exact absurd (decide_eq_true rfl) g
        | inn => rfl
        | out => rfl
        | opn => rfl
        | hear => rfl
        | new => rfl
  · obtain ⟨sm, hD⟩ := hP
    rw [lx] at hD
    exact q H1 D sm nD hD
theorem ok_goals {f fR : Addr} {fd fdR : FuncData} (F : Fun K "goals_of" "goals_of" sGoals f fd) (me : mg "enumerate" = none)
    (GR : FnOk P w K mg base CX0 1 fR fdR ["row", "calling"] spRoomsC) (bR : Binds K fdR ["row", "calling"] []) (kR : PySem.W.keepIn K (.ref fR) = true) (mR : mg "rooms_called" = some (.ref fR)) : FnOk P w K mg base CX0 2 f fd ["row", "k"] spGoals := by
  refine F.ok scGoals (fun vs H Q E h => ?_) (fun cdv A outer s H vs Q E hr h => ?_)
  · obtain ⟨_, _, _, _, _, rfl, _⟩ := h
    rfl
  obtain ⟨v, r, k, c, q0, rfl, hR, lr, hk, q⟩ := h
  refine ⟨_, pss_one (ps_ret (pe_lc2 (own := [("d", 2), ("deed", 3), ("j", 4)]) (vs1 := [4]) (g := gJP K 2 3) (g1 := gName 4) (tt := tTest (tOp rEq (tIx K 3 0) (tC (.str "in")))) (tt1 := tTest (tOp rNe (tVar 4) (tVar 1)))
      (wi1 := iList K (tCall spRoomsC [] E0 (tCons (tVar 0) (tCons (tIx K 3 1) tNil)))) (te := tTup (tCons (tVar 2) (tCons (tVar 4) tNil))) (by rfl) scGoals.nd
      (pi_enumT (by rfl) me (pa_cons (pe_ix ix_tup (pe_ix ix_tup (pv 0) (pv 1) (fun _ _ => rfl)) pe_int (fun _ _ => rfl)) pa_nil))
      (blkOk_by (own := [("d", 2), ("deed", 3), ("j", 4)]) (N := nmGo) (sc := defScope sGoals) (by decide +kernel)) (by decide)
      (fun _ _ _ _ _ => pg_tup rfl (pgs_cons (pg_name (i := 2) scGoals.nd rfl (Or.inl rfl)) (pgs_cons (pg_name (i := 3) scGoals.nd rfl (Or.inl rfl)) pgs_nil)))
      (fun _ _ _ _ _ => pts_one (pt_cmpR op_eq (pe_ix ix_tup (pv 3) pe_int (fun _ _ => rfl)) pe_str (nomark _)))
      (fun _ _ _ _ _ => pi_list (pe_call GR hr (by rfl) mR kR bR .nil pass0 (pa_cons (pv 0) (pa_cons (pe_ix ix_tup (pv 3) pe_int (fun _ _ => rfl)) pa_nil))))
      (fun _ _ _ _ _ => pg_name (i := 4) scGoals.nd rfl (Or.inl rfl)) (fun _ _ _ _ _ => pts_one (pt_cmpR op_ne (pv 4) (pv 1) (nomark _))) (fun _ _ _ _ _ => pe_tup (pa_cons (pv 2) (pa_cons (pv 4) pa_nil))))), ?_⟩
  obtain ⟨a, xs, rfl, ha, hps⟩ := hR
  have lx := PartsAt.len hps
  have l2 := len_sizeR r
  obtain ⟨y, hy, hpy⟩ := PartsAt.at hps hk
  obtain ⟨b, b2, zs, rfl, hb, hb2, hzs⟩ := hpy
  have lz := PartsAt.len hzs
  have l3 := len_sizeR q0
  have l4 := room_size hk
  refine ⟨_, rfl, _, rfl, a, xs, _, _, rfl, rfl, SqT.of ha, atI_nat (j := k) hy, b, _, 2, _, rfl, rfl, SqT.of hb, atI_nat (j := 2) rfl, b2, zs, rfl, SqT.of hb2, fun D nD => ?_⟩
  refine lc2_it (walk_enumT (xs := zs)) (fun d H' => Same H H' ∧ ∃ us : List V, H' D = some (.lst us) ∧ PrsAt H' (goalsN r k q0 d) us) ⟨same_new nD, [], upd_same, rfl⟩ (fun d H' _ hP => SqT.of (hP.1 _ _ hb2)) (fun d x H1 H2 hd hP hY => ?_) (fun H1 hP => ?_)
  · obtain ⟨sm, us, hD, hus⟩ := hP
    obtain ⟨T, y, rfl, nT, rfl, hy2⟩ := hY
    obtain ⟨p, hp, hpa⟩ := PartsAt.get hzs hy2
    have sm2 : Same H (upd H1 T (.tup [.int (d : Nat), y])) := sm.trans (same_new nT)
    have hD2 : upd H1 T (.tup [.int (d : Nat), y]) D = some (.lst us) := kn hD nT
    have hT2 : upd H1 T (.tup [.int (d : Nat), y]) T = some (.tup [.int (d : Nat), y]) := upd_same
    have hus2 := hus.tup (STup.new (o := HO.tup [.int (d : Nat), y]) nT)
    generalize upd H1 T (.tup [.int (d : Nat), y]) = H2 at *
    obtain ⟨e1, ys, rfl, he1, h0⟩ := PartAt.word hpa
    have he2 := sm2 _ _ he1
    refine ⟨T, _, rfl, SqT.of hT2, rfl, _, _, rfl, _, _, rfl, rfl, rfl, _, rfl, e1, ys, 0, _, rfl, rfl, SqT.of he2, atI_nat (j := 0) h0, rfl, _, rfl, ite2 (fun g => ?_) (fun g => ?_)⟩
    rotate_left
    · refine ⟨sm2, us, hD2, ?_⟩
      rw [goalsN_succ, goalsD_no hp (fun c s e => g (by rw [e]; exact decide_eq_true rfl)), List.append_nil]
      exact hus2
    obtain ⟨c2, s2, rfl⟩ := word_in (str_eq g)
    obtain ⟨e1', e3, ws, e, he1', _, _⟩ := hpa
    cases e
    rw [he1'] at he1
    cases he1
    refine ⟨_, rfl, _, rfl, e1, _, 1, _, rfl, rfl, SqT.of he2, atI_nat (j := 1) rfl, ?_⟩
    refine ⟨.ref a, r, c2, rfl, ⟨a, xs, rfl, sm2 _ _ ha, PartsAt.mono (STup.of sm2) _ _ hps⟩, lr, fun H4 p4 s4 np4 hp4 => ?_⟩
    refine ⟨p4, rfl, ⟨_, SqL.of hp4⟩, ?_⟩
    have D4 : p4 ≠ D := fun z => by rw [z, hD2] at np4; cases np4
    have lro := rooms_len r c2
    have lgo := goalsN_len r k q0 d
    have hdz : d < 1000 := by omega
    refine lc2_in (walk_list (xs := vN (roomsC r c2))) (fun j H' => Same H H' ∧ H' p4 = some (.lst (vN (roomsC r c2))) ∧ ∃ us : List V, H' D = some (.lst us) ∧ PrsAt H' (goalsN r k q0 d ++ flK k d ((roomsC r c2).take j)) us)
      ⟨sm2.trans s4, hp4, us, s4 _ _ hD2, by
        show PrsAt H4 (goalsN r k q0 d ++ flK k d []) us
        rw [show flK k d [] = [] from rfl, List.append_nil]
        exact hus2.tup (STup.of s4)⟩ (fun j H' _ hP => SqL.of hP.2.1) (fun j v H5 H6 hj hP hY => ?_) (fun H5 hP => ?_)
    · obtain ⟨sm5, hp5, us5, hD5, hus5⟩ := hP
      obtain ⟨rfl, hv⟩ := hY
      obtain ⟨m, hm, rfl⟩ := vN_get hv
      have tk : (roomsC r c2).take (j + 1) = (roomsC r c2).take j ++ [m] := by rw [List.take_add_one, hm]; rfl
      refine ⟨rfl, _, rfl, _, rfl, rfl, _, rfl, ?_⟩
      by_cases ek : m = k
      · refine iteD (by rw [ek, decide_eq_true rfl]; rfl) ⟨sm5, hp5, us5, hD5, ?_⟩
        rw [tk, flK_snoc, if_pos ek, List.append_nil]
        exact hus5
      · refine iteU (by rw [decide_eq_false (fun z => ek (by have := V.int.inj z; omega))]; rfl) ⟨_, rfl, _, rfl, (show 2 ≤ sizeLine by decide), fun t nt => ?_⟩
        have l5 := PrsAt.len hus5
        have l6 := flK_len k d ((roomsC r c2).take j)
        rw [List.length_append] at l5
        rw [List.length_take] at l6
        have l7 : d * r.length ≤ 1000 * 1000 := Nat.mul_le_mul (by omega) (by omega)
        refine ⟨us5, kn hD5 nt, Nat.lt_of_le_of_lt (show us5.length ≤ 1001000 by omega) (show 1001000 < sizeLine by decide), fun z o e => ?_, ?_, us5 ++ [.ref t], upd_same, ?_⟩
        · rw [upd_ne (ne_of_none e nD)]; exact kn (sm5 _ _ e) nt
        · rw [upd_ne D4]; exact kn hp5 nt
        · rw [tk, flK_snoc, if_neg ek, ← List.append_assoc]
          exact PrsAt.snoc (x := (d, m)) (STup.lst (kn hD5 nt) _ _ upd_same) ((hus5.tup (STup.new nt)).tup (STup.lst (kn hD5 nt)))
    · obtain ⟨sm5, hp5, us5, hD5, hus5⟩ := hP
      rw [vN_len, List.take_length] at hus5
      refine ⟨sm5, us5, hD5, ?_⟩
      rw [goalsN_succ, goalsD_in hp]
      exact hus5
  · obtain ⟨sm, us, hD, hus⟩ := hP
    rw [lz] at hus
    exact q H1 D us sm nD hD hus
theorem ok_leavers {f : Addr} {fd : FuncData} {k : Nat} (F : Fun K "leavers_of" "leavers_of" sLeav f fd) (me : mg "enumerate" = none) : FnOk P w K mg base CX0 (k + 1) f fd ["room"] spLeavers := by
  refine F.ok scLeav (fun vs H Q E h => ?_) (fun cdv A outer s H vs Q E hr h => ?_)
  · obtain ⟨_, _, _, rfl, _⟩ := h
    rfl
  obtain ⟨v, c, q0, rfl, hv, lq, q⟩ := h
  refine ⟨_, pss_one (ps_ret (pe_lc2 (own := [("j", 1), ("inner", 2), ("d", 3), ("deed", 4)]) (vs1 := [3, 4]) (g := gJP K 1 2) (g1 := gJP K 3 4) (tt := tTest (tOp rEq (tIx K 2 0) (tC (.str "room")))) (tt1 := tAnd (tTest (tOp rEq (tIx K 4 0) (tC (.str "out")))) (tTest (tOp rEq (tIx K 4 1) (tIx K 0 1))))
      (wi1 := iEnumT K (tCons (tIx K 2 2) tNil)) (te := tTup (tCons (tVar 1) (tCons (tVar 3) tNil))) (by rfl) scLeav.nd
      (pi_enumT (by rfl) me (pa_cons (pe_ix ix_tup (pv 0) pe_int (fun _ _ => rfl)) pa_nil))
      (blkOk_by (own := [("j", 1), ("inner", 2), ("d", 3), ("deed", 4)]) (N := nmLe) (sc := defScope sLeav) (by decide +kernel)) (by decide)
      (fun _ _ _ _ _ => pg_tup rfl (pgs_cons (pg_name (i := 1) scLeav.nd rfl (Or.inl rfl)) (pgs_cons (pg_name (i := 2) scLeav.nd rfl (Or.inl rfl)) pgs_nil)))
      (fun _ _ _ _ _ => pts_one (pt_cmpR op_eq (pe_ix ix_tup (pv 2) pe_int (fun _ _ => rfl)) pe_str (nomark _)))
      (fun _ _ _ _ _ => pi_enumT (by rfl) me (pa_cons (pe_ix ix_tup (pv 2) pe_int (fun _ _ => rfl)) pa_nil))
      (fun _ _ _ _ _ => pg_tup rfl (pgs_cons (pg_name (i := 3) scLeav.nd rfl (Or.inl rfl)) (pgs_cons (pg_name (i := 4) scLeav.nd rfl (Or.inl rfl)) pgs_nil)))
      (fun _ _ _ _ _ => pts_one (PW.pt (pw_and (pt_cmpR op_eq (pe_ix ix_tup (pv 4) pe_int (fun _ _ => rfl)) pe_str (nomark _)) (pw_and1 (pt_cmpR op_eq (pe_ix ix_tup (pv 4) pe_int (fun _ _ => rfl)) (pe_ix ix_tup (pv 0) pe_int (fun _ _ => rfl)) (nomark _))))))
      (fun _ _ _ _ _ => pe_tup (pa_cons (pv 1) (pa_cons (pv 3) pa_nil))))), ?_⟩
  obtain ⟨b, b2, zs, rfl, hb, hb2, hzs⟩ := hv
  have lz := PartsAt.len hzs
  have l3 := len_sizeR q0
  refine ⟨_, rfl, b, _, 2, _, rfl, rfl, SqT.of hb, atI_nat (j := 2) rfl, b2, zs, rfl, SqT.of hb2, fun D nD => ?_⟩
  refine lc2_it (walk_enumT (xs := zs)) (fun j H' => Same H H' ∧ ∃ us : List V, H' D = some (.lst us) ∧ PrsAt H' (leavN c q0 j) us) ⟨same_new nD, [], upd_same, rfl⟩ (fun j H' _ hP => SqT.of (hP.1 _ _ hb2)) (fun j x H1 H2 hj hP hY => ?_) (fun H1 hP => ?_)
  · obtain ⟨sm, us, hD, hus⟩ := hP
    obtain ⟨T, y, rfl, nT, rfl, hy2⟩ := hY
    obtain ⟨p, hp, hpa⟩ := PartsAt.get hzs hy2
    have sm2 : Same H (upd H1 T (.tup [.int (j : Nat), y])) := sm.trans (same_new nT)
    have hD2 : upd H1 T (.tup [.int (j : Nat), y]) D = some (.lst us) := kn hD nT
    have hT2 : upd H1 T (.tup [.int (j : Nat), y]) T = some (.tup [.int (j : Nat), y]) := upd_same
    have hus2 := hus.tup (STup.new (o := HO.tup [.int (j : Nat), y]) nT)
    generalize upd H1 T (.tup [.int (j : Nat), y]) = H2 at *
    obtain ⟨e1, ys, rfl, he1, h0⟩ := PartAt.word hpa
    have he2 := sm2 _ _ he1
    refine ⟨T, _, rfl, SqT.of hT2, rfl, _, _, rfl, _, _, rfl, rfl, rfl, _, rfl, e1, ys, 0, _, rfl, rfl, SqT.of he2, atI_nat (j := 0) h0, rfl, _, rfl, ite2 (fun g => ?_) (fun g => ?_)⟩
    rotate_left
    · refine ⟨sm2, us, hD2, ?_⟩
      rw [leavN_succ, leavD_no hp (fun c s e => g (by rw [e]; exact decide_eq_true rfl)), List.append_nil]
      exact hus2
    obtain ⟨n2, s2, rfl⟩ := word_room (str_eq g)
    obtain ⟨e1', e3, ws, e, he1', he3, hws⟩ := hpa
    cases e
    rw [he1'] at he1
    cases he1
    have lw := PartsAt.len hws
    have l4 := len_sizeR s2
    have l5 := room_size hp
    have lle := leavN_len c q0 lq j
    have he32 := sm2 _ _ he3
    refine ⟨_, rfl, e1, _, 2, _, rfl, rfl, SqT.of he2, atI_nat (j := 2) rfl, e3, ws, rfl, SqT.of he32, ?_⟩
    refine lc2_in (walk_enumT (xs := ws)) (fun d H' => Same H H' ∧ ∃ us : List V, H' D = some (.lst us) ∧ PrsAt H' (leavN c q0 j ++ (idx (isOutC c) s2 d).map fun d => (j, d)) us)
      ⟨sm2, us, hD2, by
        show PrsAt H2 (leavN c q0 j ++ []) us
        rw [List.append_nil]
        exact hus2⟩ (fun d H' _ hP => SqT.of (hP.1 _ _ he3)) (fun d v H5 H6 hd hP hY => ?_) (fun H5 hP => ?_)
    · obtain ⟨sm5, us5, hD5, hus5⟩ := hP
      obtain ⟨T2, y2, rfl, nT2, rfl, hy5⟩ := hY
      obtain ⟨p5, hp5, hpa5⟩ := PartsAt.get hws hy5
      have sm6 : Same H (upd H5 T2 (.tup [.int (d : Nat), y2])) := sm5.trans (same_new nT2)
      have hD6 : upd H5 T2 (.tup [.int (d : Nat), y2]) D = some (.lst us5) := kn hD5 nT2
      have hT6 : upd H5 T2 (.tup [.int (d : Nat), y2]) T2 = some (.tup [.int (d : Nat), y2]) := upd_same
      have hus6 := hus5.tup (STup.new (o := HO.tup [.int (d : Nat), y2]) nT2)
      generalize upd H5 T2 (.tup [.int (d : Nat), y2]) = H6 at *
      have l6 := PrsAt.len hus6
      have l7 := idx_len (isOutC c) s2 d
      rw [List.length_append, List.length_map] at l6
      have l8 : j * 1000 ≤ 1000 * 1000 := Nat.mul_le_mul (by omega) (Nat.le_refl _)
      have skip : isOutC c p5 = false → Same H H6 ∧ ∃ us : List V, H6 D = some (.lst us) ∧ PrsAt H6 (leavN c q0 j ++ (idx (isOutC c) s2 (d + 1)).map fun d => (j, d)) us := fun e => by
        rw [idx_succ hp5, e, if_neg (by decide), List.append_nil]
        exact ⟨sm6, us5, hD6, hus6⟩
      obtain ⟨f1, vs, rfl, hf1, h01⟩ := PartAt.word hpa5
      have hf2 := sm6 _ _ hf1
      refine ⟨T2, _, rfl, SqT.of hT6, rfl, _, _, rfl, _, _, rfl, rfl, rfl, _, rfl, f1, vs, 0, _, rfl, rfl, SqT.of hf2, atI_nat (j := 0) h01, rfl, _, rfl, ite2 (fun g5 => ?_) (fun g5 => iteF (skip ?_))⟩
      · obtain ⟨nm, q5, rfl⟩ := word_out (str_eq g5)
        obtain ⟨f1', f3, _, e, hf1', _, _⟩ := hpa5
        cases e
        rw [hf1'] at hf1
        cases hf1
        refine ⟨_, rfl, f1, _, 1, _, rfl, rfl, SqT.of hf2, atI_nat (j := 1) rfl, _, rfl, b, _, 1, _, rfl, rfl, SqT.of (sm6 _ _ hb), atI_nat (j := 1) rfl, rfl, _, rfl, ?_⟩
        by_cases ec : nm = c
        · refine iteU (decide_eq_true (by rw [ec])) ⟨_, rfl, _, rfl, (show 2 ≤ sizeLine by decide), fun t nt => ?_⟩
          refine ⟨us5, kn hD6 nt, Nat.lt_of_le_of_lt (show us5.length ≤ 1001000 by omega) (show 1001000 < sizeLine by decide), fun z o e => ?_, us5 ++ [.ref t], upd_same, ?_⟩
          · rw [upd_ne (ne_of_none e nD)]; exact kn (sm6 _ _ e) nt
          · rw [idx_succ hp5, if_pos (show isOutC c (.oth .out nm q5) = true from decide_eq_true ec), List.map_append, ← List.append_assoc]
            exact PrsAt.snoc (x := (j, d)) (STup.lst (kn hD6 nt) _ _ upd_same) ((hus6.tup (STup.new nt)).tup (STup.lst (kn hD6 nt)))
        · exact iteD (decide_eq_false (fun z => ec (V.str.inj z))) (skip (decide_eq_false ec))
      · cases p5 with
        | say n => rfl
        | again _ => rfl
        | oth wd n q5 =>
          cases wd with
          | out => exact absurd (decide_eq_true rfl) g5
          | room => rfl
          | inn => rfl
          | opn => rfl
          | hear => rfl
          | new => rfl
    · obtain ⟨sm5, us5, hD5, hus5⟩ := hP
      rw [lw] at hus5
      refine ⟨sm5, us5, hD5, ?_⟩
      rw [leavN_succ, leavD_room hp]
      exact hus5
  · obtain ⟨sm, us, hD, hus⟩ := hP
    rw [lz] at hus
    exact q H1 D us sm nD hD hus
end
end K19

set_option Elab.async false
set_option linter.all false
set_option maxRecDepth 100000
set_option maxHeartbeats 800000
namespace K19
open PySem PySem.Spec PyProof.Rows L2 Wk GxR
abbrev sGaSt : Stmt := topS 40
abbrev sSteps : Stmt := topS 39
abbrev nmGS : List Str := ["row", "path", "steps", "k", "part", "word", "d", "j", "other"]
abbrev psGS : List Str := ["row", "path", "steps"]
theorem scGaSt : FnScope nmGS psGS (defScope sGaSt) := ⟨rfl, rfl, rfl, by decide +kernel, rfl, by decide +kernel, by decide +kernel⟩
theorem scSteps : FnScope ["stand", "steps"] ["stand"] (defScope sSteps) := ⟨rfl, rfl, rfl, by decide +kernel, rfl, by decide +kernel, by decide +kernel⟩
section
variable {P : Program} {w : World} {K : PySem.W.Frag} {mg : Str → Option Value} {base : Heap}
theorem ok_gast {f fG fL fR : Addr} {fd fdG fdL fdR : FuncData} {n : Nat} (F : Fun K "gather_steps" "gather_steps" sGaSt f fd) (me : mg "enumerate" = none)
    (GG : FnOk P w K mg base CX0 2 fG fdG ["row", "k"] spGoals) (bG : Binds K fdG ["row", "k"] []) (kG : PySem.W.keepIn K (.ref fG) = true) (mG : mg "goals_of" = some (.ref fG))
    (GL : FnOk P w K mg base CX0 1 fL fdL ["room"] spLeavers) (bL : Binds K fdL ["room"] []) (kL : PySem.W.keepIn K (.ref fL) = true) (mL : mg "leavers_of" = some (.ref fL))
    (GR : FnOk P w K mg base CX0 1 fR fdR ["row", "calling"] spRoomsC) (bR : Binds K fdR ["row", "calling"] []) (kR : PySem.W.keepIn K (.ref fR) = true) (mR : mg "rooms_called" = some (.ref fR))
    (G : FnOk P w K mg base CX0 (n + 3) f fd psGS (spGaSt n)) (bF : Binds K fd psGS []) (mF : mg "gather_steps" = some (.ref f)) : FnOk P w K mg base CX0 (n + 3 + 1) f fd psGS (spGaSt (n + 1)) := by
  refine F.ok scGaSt (fun vs H Q E h => ?_) (fun cdv A outer s H vs Q E hr h => ?_)
  · obtain ⟨_, _, _, _, _, _, _, rfl, _⟩ := h
    rfl
  obtain ⟨v, r, pa, S, path, ss, y0, rfl, hR, hd, lr, hpa, lpd, hS0, hss0, hbnd, q⟩ := h
  have hr1 : Room 1 _ := hr.mono (by omega)
  have hr2 : Room 2 _ := hr.mono (by omega)
  refine ⟨_, pss_one (ps_for PassesOwn.never rfl (pi_enumT (by rfl) me (pa_cons (pv 0) pa_nil)) (pg_tup rfl (pgs_cons (pg_name (i := 3) scGaSt.nd rfl (Or.inr rfl)) (pgs_cons (pg_name (i := 4) scGaSt.nd rfl (Or.inl rfl)) pgs_nil)))
    (pss_cons (ps_set (i := 5) scGaSt.nd rfl (.inl rfl) (pe_ix ix_tup (pv 4) pe_int (fun _ _ => rfl)))
    (pss_one (ps_if (pt_cmpR op_eq (pv 5) pe_str (nomark _))
      (pss_cons (ps_expr (pe_bm PySem.F.plainAttrs_list PySem.F.slot_list_extend PySem.F.type_list_extend mt_extend (pv 2) (pa_cons (pe_lc (own := [("d", 6), ("j", 7)]) (g := gJP K 6 7) (tt := tYes) (te := (tTup (tCons (tC (.str "in")) (tCons (tVar 1) (tCons (tVar 3) (tCons (tVar 6) (tCons (tVar 7) tNil))))))) (by rfl) scGaSt.nd (pi_list (pe_call GG hr2 (by rfl) mG kG bG .nil pass0 (pa_cons (pv 0) (pa_cons (pv 3) pa_nil)))) (blkOk_by (own := [("d", 6), ("j", 7)]) (N := nmGS) (sc := defScope sGaSt) (by decide +kernel)) (fun _ _ _ _ _ => pg_tup rfl (pgs_cons (pg_name (i := 6) scGaSt.nd rfl (Or.inl rfl)) (pgs_cons (pg_name (i := 7) scGaSt.nd rfl (Or.inl rfl)) pgs_nil))) (fun _ _ _ _ _ => pts_nil) (fun _ _ _ _ _ => pe_tup (pa_cons pe_str (pa_cons (pv 1) (pa_cons (pv 3) (pa_cons (pv 6) (pa_cons (pv 7) pa_nil))))))) pa_nil)))
      (pss_cons (ps_expr (pe_bm PySem.F.plainAttrs_list PySem.F.slot_list_extend PySem.F.type_list_extend mt_extend (pv 2) (pa_cons (pe_lc (own := [("j", 7), ("d", 6)]) (g := gJP K 7 6) (tt := tYes) (te := (tTup (tCons (tC (.str "out")) (tCons (tVar 1) (tCons (tVar 3) (tCons (tVar 7) (tCons (tVar 6) tNil))))))) (by rfl) scGaSt.nd (pi_list (pe_call GL hr1 (by rfl) mL kL bL .nil pass0 (pa_cons (pv 4) pa_nil))) (blkOk_by (own := [("j", 7), ("d", 6)]) (N := nmGS) (sc := defScope sGaSt) (by decide +kernel)) (fun _ _ _ _ _ => pg_tup rfl (pgs_cons (pg_name (i := 7) scGaSt.nd rfl (Or.inl rfl)) (pgs_cons (pg_name (i := 6) scGaSt.nd rfl (Or.inl rfl)) pgs_nil))) (fun _ _ _ _ _ => pts_nil) (fun _ _ _ _ _ => pe_tup (pa_cons pe_str (pa_cons (pv 1) (pa_cons (pv 3) (pa_cons (pv 7) (pa_cons (pv 6) pa_nil))))))) pa_nil)))
      (pss_one (ps_expr (pe_call G hr (by rfl) mF F.kp bF .nil pass0 (pa_cons (pe_ix ix_tup (pv 4) pe_int (fun _ _ => rfl)) (pa_cons (pe_tup (pa_star (pv 1) (pa_cons (pv 3) pa_nil))) (pa_cons (pv 2) pa_nil))))))))
      (pss_one (ps_if (pt_cmpR op_eq (pv 5) pe_str (nomark _)) (pss_one (ps_expr (pe_bm PySem.F.plainAttrs_list PySem.F.slot_list_extend PySem.F.type_list_extend mt_extend (pv 2) (pa_cons (pe_lc (own := [("j", 7)]) (g := gName 7) (tt := tYes) (te := (tTup (tCons (tC (.str "open")) (tCons (tVar 1) (tCons (tVar 3) (tCons (tVar 7) tNil)))))) (by rfl) scGaSt.nd (pi_list (pe_call GR hr1 (by rfl) mR kR bR .nil pass0 (pa_cons (pv 0) (pa_cons (pe_ix ix_tup (pv 4) pe_int (fun _ _ => rfl)) pa_nil)))) (blkOk_by (own := [("j", 7)]) (N := nmGS) (sc := defScope sGaSt) (by decide +kernel)) (fun _ _ _ _ _ => pg_name (i := 7) scGaSt.nd rfl (Or.inl rfl)) (fun _ _ _ _ _ => pts_nil) (fun _ _ _ _ _ => pe_tup (pa_cons pe_str (pa_cons (pv 1) (pa_cons (pv 3) (pa_cons (pv 7) pa_nil)))))) pa_nil))))
      (pss_one (ps_if (pt_cmpR op_eq (pv 5) pe_str (nomark _)) (pss_one (ps_expr (pe_bm PySem.F.plainAttrs_list PySem.F.slot_list_extend PySem.F.type_list_extend mt_extend (pv 2) (pa_cons (pe_lc (own := [("j", 7), ("other", 8)]) (g := gJP K 7 8) (tt := tTest (tOp rEq (tIx K 8 0) (tC (.str "hear")))) (te := (tTup (tCons (tC (.str "letter")) (tCons (tVar 1) (tCons (tVar 3) (tCons (tVar 7) tNil)))))) (by rfl) scGaSt.nd (pi_enumT (by rfl) me (pa_cons (pv 0) pa_nil)) (blkOk_by (own := [("j", 7), ("other", 8)]) (N := nmGS) (sc := defScope sGaSt) (by decide +kernel)) (fun _ _ _ _ _ => pg_tup rfl (pgs_cons (pg_name (i := 7) scGaSt.nd rfl (Or.inl rfl)) (pgs_cons (pg_name (i := 8) scGaSt.nd rfl (Or.inl rfl)) pgs_nil))) (fun _ _ _ _ _ => pts_one (pt_cmpR op_eq (pe_ix ix_tup (pv 8) pe_int (fun _ _ => rfl)) pe_str (nomark _))) (fun _ _ _ _ _ => pe_tup (pa_cons pe_str (pa_cons (pv 1) (pa_cons (pv 3) (pa_cons (pv 7) pa_nil)))))) pa_nil))))
      (pss_one (ps_if (pt_cmpR op_eq (pv 5) pe_str (nomark _)) (pss_one (ps_expr (pe_bm PySem.F.plainAttrs_list PySem.F.slot_list_append PySem.F.type_list_append mt_append (pv 2) (pa_cons (pe_tup (pa_cons pe_str (pa_cons (pv 1) (pa_cons (pv 3) pa_nil)))) pa_nil)))) pss_nil)))))))))), ?_⟩
  obtain ⟨a, xs, rfl, ha, hps⟩ := hR
  have lx := PartsAt.len hps
  have l2 := len_sizeR r
  refine ⟨_, rfl, a, xs, rfl, SqT.of ha, for_it (walk_enumT (xs := xs)) (fun i σ H' => GaS S H (ss ++ gsL path r 0 (r.take i)) H' ∧ ∃ s3 s4 s5 s6 s7 s8 : Option V, σ = [some (.ref a), some (.ref pa), some (.ref S), s3, s4, s5, s6, s7, s8])
    ⟨⟨fun _ _ _ e => e, y0, hS0, by rw [show gsL path r 0 (r.take 0) = [] from by rw [List.take_zero]; rfl, List.append_nil]; exact hss0⟩, _, _, _, _, _, _, rfl⟩ (fun i σ H' _ hP => SqT.of (hP.1.tup hS0 _ _ ha)) (fun i x σ H1 H2 hi hP hY => ?_) (fun σ H1 hP => ?_)⟩
  rotate_left
  · obtain ⟨hG, _⟩ := hP
    rw [lx, List.take_length] at hG
    exact q H1 hG
  obtain ⟨hG, s3, s4, s5, s6, s7, s8, rfl⟩ := hP
  obtain ⟨T, y, rfl, nT, rfl, hy⟩ := hY
  obtain ⟨p, hp, hpa0⟩ := PartsAt.get hps hy
  have hG2 := hG.same (same_new (o := HO.tup [.int (i : Nat), y]) nT)
  have hT2 : upd H1 T (.tup [.int (i : Nat), y]) T = some (.tup [.int (i : Nat), y]) := upd_same
  generalize upd H1 T (.tup [.int (i : Nat), y]) = H2 at *
  have b1 := gsL_take path r 0 r (i + 1)
  rw [gsR_step hp, List.length_append] at b1
  have hbnd2 : ss.length + ((gsL path r 0 (r.take i)).length + (gsP path r i p).length) ≤ 10000000 := Nat.le_trans (Nat.add_le_add_left b1 _) hbnd
  have st2 := hG2.tup hS0
  have hpa2 := PartAt.mono st2 _ _ hpa0
  have hpt2 := st2 _ _ hpa
  have ha2 := st2 _ _ ha
  have hps2 := PartsAt.mono st2 _ _ hps
  -- how a turn ends
  have fin : ∀ (ts : List Stp) (H' : Hp), ts = gsP path r i p → GaS S H ((ss ++ gsL path r 0 (r.take i)) ++ ts) H' → ∀ (t3 t4 t5 t6 t7 t8 : Option V), GaS S H (ss ++ gsL path r 0 (r.take (i + 1))) H' ∧ ∃ s3 s4 s5 s6 s7 s8 : Option V, [some (V.ref a), some (.ref pa), some (.ref S), t3, t4, t5, t6, t7, t8] = [some (.ref a), some (.ref pa), some (.ref S), s3, s4, s5, s6, s7, s8] := fun ts H' e hg t3 t4 t5 t6 t7 t8 => by
    rw [gsR_step hp, ← List.append_assoc, ← e]
    exact ⟨hg, _, _, _, _, _, _, rfl⟩
  obtain ⟨b, ys, rfl, hb, h0⟩ := PartAt.word hpa2
  refine ⟨T, _, rfl, SqT.of hT2, rfl, _, _, rfl, _, _, rfl, rfl, _, rfl, b, ys, 0, _, rfl, rfl, SqT.of hb, atI_nat (j := 0) h0, ?_⟩
  refine ⟨_, rfl, rfl, _, rfl, ite2 (fun g => ?_) (fun g => ?_)⟩
  · obtain ⟨c, q0, rfl⟩ := word_room (str_eq g)
    obtain ⟨b', cc, zs0, e, hb', hcc, hzs⟩ := hpa2
    cases e
    rw [hb'] at hb
    cases hb
    have lq0 : sizeR q0 ≤ 1000 := Nat.le_trans (room_size hp) lr
    have dq0 := deepR.mem _ (List.mem_of_getElem? hp)
    have dq1 : deepP (.oth .room c q0) = deepR q0 + 1 := by simp only [deepP]
    have eP : gsP path r i (.oth .room c q0) = ((goalsN r i q0 q0.length).map fun x => (⟨"in", path, [i, x.1, x.2]⟩ : Stp)) ++ (((leavN c q0 q0.length).map fun x => (⟨"out", path, [i, x.1, x.2]⟩ : Stp)) ++ gsR (path ++ [i]) q0) := by simp only [gsP, gsR]
    rw [eP, List.length_append, List.length_append, List.length_map, List.length_map] at hbnd2
    obtain ⟨ya2, hS2, hst2⟩ := hG2.ex
    have lya2 := StpsAt.len hst2
    rw [List.length_append] at lya2
    refine ⟨_, rfl, .inl ⟨rfl, _, SqL.of hS2⟩, ?_⟩
    refine ⟨_, rfl, _, rfl, .ref a, r, i, c, q0, rfl, ⟨a, xs, rfl, ha2, hps2⟩, lr, hp, fun Hc2 p2 us2 s2' np2 hp2 hus2 => ?_⟩
    refine ⟨p2, rfl, ⟨_, SqL.of hp2⟩, fun D2 nD2 => ?_⟩
    have hpc2 := s2' _ _ hpt2
    have lus2 := PrsAt.len hus2
    refine lc_it (walk_list (xs := us2)) (fun j H' => Same Hc2 H' ∧ ∃ zs, H' D2 = some (.lst zs) ∧ StpsAt H' (((goalsN r i q0 q0.length).take j).map fun x => (⟨"in", path, [i, x.1, x.2]⟩ : Stp)) zs) ⟨same_new nD2, [], upd_same, rfl⟩ (fun j H' _ hP => SqL.of (hP.1 _ _ hp2)) (fun j v Ha Hb hj hP hY => ?_) (fun Ha hP => ?_)
    · obtain ⟨rfl, hv⟩ := hY
      obtain ⟨sm, zs, hD, hst⟩ := hP
      obtain ⟨x, t, hx, rfl, ht⟩ := PrsAt.get hus2 hv
      have tk : (goalsN r i q0 q0.length).take (j + 1) = (goalsN r i q0 q0.length).take j ++ [x] := by rw [List.take_add_one, hx]; rfl
      have lz := StpsAt.len hst
      rw [List.length_map, List.length_take] at lz
      refine ⟨t, _, rfl, SqT.of (sm _ _ ht), rfl, _, _, rfl, _, _, rfl, rfl, rfl, yes (iteT ⟨_, rfl, _, rfl, _, rfl, _, rfl, (show 5 ≤ sizeLine by decide), fun t2 nt2 => ?_⟩)⟩
      have stl := STup.lst (o := HO.lst (zs ++ [.ref t2])) (kn (u := HO.tup [.str "in", .ref pa, .int (i : Nat), .int (x.1 : Nat), .int (x.2 : Nat)]) hD nt2)
      refine ⟨zs, kn hD nt2, Nat.lt_of_le_of_lt (show zs.length ≤ 10000000 by omega) (show 10000000 < sizeLine by decide), fun z o e => ?_, zs ++ [.ref t2], upd_same, ?_⟩
      · rw [upd_ne (ne_of_none e nD2)]; exact kn (sm _ _ e) nt2
      · rw [tk, List.map_append]
        exact ((hst.tup (STup.new nt2)).tup stl).app ⟨.ref t2, [], rfl, ⟨t2, pa, rfl, stl _ _ upd_same, stl _ _ (kn (sm _ _ hpc2) nt2)⟩, rfl⟩
    obtain ⟨sm2, zs2, hDz2, hstz2⟩ := hP
    rw [lus2, List.take_length] at hstz2
    have lzs2 := StpsAt.len hstz2
    rw [List.length_map] at lzs2
    have hGx2 := hG2.same (s2'.trans sm2)
    have hSx2 := (s2'.trans sm2) _ _ hS2
    refine ⟨S, D2, ya2, zs2, rfl, rfl, hSx2, hDz2, Nat.le_trans (show ya2.length + zs2.length ≤ 10000000 by omega) (show 10000000 ≤ sizeLine by decide), ?_⟩
    have hG3 := hGx2.ext hSx2 hstz2
    generalize upd Ha S (.lst (ya2 ++ zs2)) = H3 at *
    obtain ⟨ya3, hS3, hst3⟩ := hG3.ex
    have st3 := hG3.tup hS0
    have hpt3 := st3 _ _ hpa
    have lya3 := StpsAt.len hst3
    rw [List.length_append, List.length_append, List.length_map] at lya3
    refine ⟨_, rfl, .inl ⟨rfl, _, SqL.of hS3⟩, ?_⟩
    refine ⟨_, rfl, .ref b, c, q0, rfl, PartAt.mono st3 _ _ hpa0, lq0, fun Hc3 p3 us3 s3' np3 hp3 hus3 => ?_⟩
    refine ⟨p3, rfl, ⟨_, SqL.of hp3⟩, fun D3 nD3 => ?_⟩
    have hpc3 := s3' _ _ hpt3
    have lus3 := PrsAt.len hus3
    refine lc_it (walk_list (xs := us3)) (fun j H' => Same Hc3 H' ∧ ∃ zs, H' D3 = some (.lst zs) ∧ StpsAt H' (((leavN c q0 q0.length).take j).map fun x => (⟨"out", path, [i, x.1, x.2]⟩ : Stp)) zs) ⟨same_new nD3, [], upd_same, rfl⟩ (fun j H' _ hP => SqL.of (hP.1 _ _ hp3)) (fun j v Ha Hb hj hP hY => ?_) (fun Ha hP => ?_)
    · obtain ⟨rfl, hv⟩ := hY
      obtain ⟨sm, zs, hD, hst⟩ := hP
      obtain ⟨x, t, hx, rfl, ht⟩ := PrsAt.get hus3 hv
      have tk : (leavN c q0 q0.length).take (j + 1) = (leavN c q0 q0.length).take j ++ [x] := by rw [List.take_add_one, hx]; rfl
      have lz := StpsAt.len hst
      rw [List.length_map, List.length_take] at lz
      refine ⟨t, _, rfl, SqT.of (sm _ _ ht), rfl, _, _, rfl, _, _, rfl, rfl, rfl, yes (iteT ⟨_, rfl, _, rfl, _, rfl, _, rfl, (show 5 ≤ sizeLine by decide), fun t2 nt2 => ?_⟩)⟩
      have stl := STup.lst (o := HO.lst (zs ++ [.ref t2])) (kn (u := HO.tup [.str "out", .ref pa, .int (i : Nat), .int (x.1 : Nat), .int (x.2 : Nat)]) hD nt2)
      refine ⟨zs, kn hD nt2, Nat.lt_of_le_of_lt (show zs.length ≤ 10000000 by omega) (show 10000000 < sizeLine by decide), fun z o e => ?_, zs ++ [.ref t2], upd_same, ?_⟩
      · rw [upd_ne (ne_of_none e nD3)]; exact kn (sm _ _ e) nt2
      · rw [tk, List.map_append]
        exact ((hst.tup (STup.new nt2)).tup stl).app ⟨.ref t2, [], rfl, ⟨t2, pa, rfl, stl _ _ upd_same, stl _ _ (kn (sm _ _ hpc3) nt2)⟩, rfl⟩
    obtain ⟨sm3, zs3, hDz3, hstz3⟩ := hP
    rw [lus3, List.take_length] at hstz3
    have lzs3 := StpsAt.len hstz3
    rw [List.length_map] at lzs3
    have hGx3 := hG3.same (s3'.trans sm3)
    have hSx3 := (s3'.trans sm3) _ _ hS3
    refine ⟨S, D3, ya3, zs3, rfl, rfl, hSx3, hDz3, Nat.le_trans (show ya3.length + zs3.length ≤ 10000000 by omega) (show 10000000 ≤ sizeLine by decide), ?_⟩
    have hG4 := hGx3.ext hSx3 hstz3
    generalize upd Ha S (.lst (ya3 ++ zs3)) = H4 at *
    obtain ⟨ya4, hS4, hst4⟩ := hG4.ex
    have st4 := hG4.tup hS0
    have hpt4 := st4 _ _ hpa
    have lya4 := StpsAt.len hst4
    rw [List.length_append, List.length_append, List.length_append, List.length_map, List.length_map] at lya4
    obtain ⟨b4, c4, zs4, e4, hb4, hc4, hzs4⟩ := PartAt.mono st4 _ _ hpa0
    cases e4
    refine ⟨_, rfl, b, _, 2, _, rfl, rfl, SqT.of hb4, atI_nat (j := 2) rfl, _, rfl, pa, _, rfl, SqT.of hpt4, _, rfl, ?_, fun pt npt => ?_⟩
    · rw [List.length_append, vN_len]
      exact Nat.le_trans (show path.length + 1 ≤ 1001 by omega) (show 1001 ≤ sizeLine by decide)
    have hG5 := hG4.same (same_new (o := HO.tup (vN path ++ [.int (i : Nat)])) npt)
    have hpt5 : upd H4 pt (.tup (vN path ++ [.int (i : Nat)])) pt = some (.tup (vN (path ++ [i]))) := by rw [upd_same, vN_app]; rfl
    have hS5 : upd H4 pt (.tup (vN path ++ [.int (i : Nat)])) S = some (.lst ya4) := kn hS4 npt
    have hst5 := hst4.tup (STup.new (o := HO.tup (vN path ++ [.int (i : Nat)])) npt)
    have hc5 : upd H4 pt (.tup (vN path ++ [.int (i : Nat)])) c4 = _ := kn hc4 npt
    have hzs5 := PartsAt.mono (STup.new (o := HO.tup (vN path ++ [.int (i : Nat)])) npt) _ _ hzs4
    generalize upd H4 pt (.tup (vN path ++ [.int (i : Nat)])) = H5 at *
    refine ⟨_, rfl, .ref c4, q0, pt, S, path ++ [i], _, ya4, rfl, ⟨c4, zs4, rfl, hc5, hzs5⟩, by omega, lq0, hpt5, by rw [List.length_append]; show path.length + 1 + deepR q0 ≤ 1000; omega, hS5, hst5, ?_, fun H6 hGa => ?_⟩
    · rw [List.length_append, List.length_append, List.length_append, List.length_map, List.length_map]
      omega
    · refine fin _ H6 eP.symm ?_ _ _ _ _ _ _
      have hz := hG5.trans hGa
      simp only [List.append_assoc] at hz ⊢
      exact hz
  obtain ⟨ya2, hS2, hst2⟩ := hG2.ex
  have lya2 := StpsAt.len hst2
  rw [List.length_append] at lya2
  refine ⟨_, rfl, rfl, _, rfl, ite2 (fun g1 => ?_) (fun g1 => ?_)⟩
  · obtain ⟨c, q0, rfl⟩ := word_open (str_eq g1)
    obtain ⟨b', cc, zs0, e, hb', hcc, hzs⟩ := hpa2
    cases e
    rw [hb'] at hb
    cases hb
    have eP : gsP path r i (.oth .opn c q0) = (roomsC r c).map fun j => (⟨"open", path, [i, j]⟩ : Stp) := by simp only [gsP]
    rw [eP, List.length_map] at hbnd2
    refine ⟨_, rfl, .inl ⟨rfl, _, SqL.of hS2⟩, ?_⟩
    refine ⟨_, rfl, _, rfl, b, _, 1, _, rfl, rfl, SqT.of hb', atI_nat (j := 1) rfl, .ref a, r, c, rfl, ⟨a, xs, rfl, ha2, hps2⟩, lr, fun H3 p3 s3' np3 hp3 => ?_⟩
    refine ⟨p3, rfl, ⟨_, SqL.of hp3⟩, fun D nD => ?_⟩
    refine lc_it (walk_list (xs := vN (roomsC r c))) (fun j H' => Same H3 H' ∧ ∃ zs, H' D = some (.lst zs) ∧ StpsAt H' (((roomsC r c).take j).map fun j => (⟨"open", path, [i, j]⟩ : Stp)) zs) ⟨same_new nD, [], upd_same, rfl⟩ (fun j H' _ hP => SqL.of (hP.1 _ _ hp3)) (fun j v Ha Hb hj hP hY => ?_) (fun Ha hP => ?_)
    · obtain ⟨rfl, hv⟩ := hY
      obtain ⟨sm, zs, hD, hst⟩ := hP
      obtain ⟨m, hm, rfl⟩ := vN_get hv
      have tk : (roomsC r c).take (j + 1) = (roomsC r c).take j ++ [m] := by rw [List.take_add_one, hm]; rfl
      have lz := StpsAt.len hst
      rw [List.length_map, List.length_take] at lz
      refine ⟨rfl, yes (iteT ⟨_, rfl, _, rfl, _, rfl, (show 4 ≤ sizeLine by decide), fun t2 nt2 => ?_⟩)⟩
      have stl := STup.lst (o := HO.lst (zs ++ [.ref t2])) (kn (u := HO.tup [.str "open", .ref pa, .int (i : Nat), .int (m : Nat)]) hD nt2)
      refine ⟨zs, kn hD nt2, Nat.lt_of_le_of_lt (show zs.length ≤ 10000000 by omega) (show 10000000 < sizeLine by decide), fun z o e => ?_, zs ++ [.ref t2], upd_same, ?_⟩
      · rw [upd_ne (ne_of_none e nD)]; exact kn (sm _ _ e) nt2
      · rw [tk, List.map_append]
        exact ((hst.tup (STup.new nt2)).tup stl).app ⟨.ref t2, [], rfl, ⟨t2, pa, rfl, stl _ _ upd_same, stl _ _ (kn (sm _ _ (s3' _ _ hpt2)) nt2)⟩, rfl⟩
    obtain ⟨sm, zs, hD, hst⟩ := hP
    rw [vN_len, List.take_length] at hst
    have lz := StpsAt.len hst
    rw [List.length_map] at lz
    have hSx := (s3'.trans sm) _ _ hS2
    refine ⟨S, D, ya2, zs, rfl, rfl, hSx, hD, Nat.le_trans (show ya2.length + zs.length ≤ 10000000 by omega) (show 10000000 ≤ sizeLine by decide), ?_⟩
    exact fin _ _ eP.symm ((hG2.same (s3'.trans sm)).ext hSx hst) _ _ _ _ _ _
  refine ⟨_, rfl, rfl, _, rfl, ite2 (fun g2 => ?_) (fun g2 => ?_)⟩
  · obtain ⟨c, rfl⟩ := word_say (str_eq g2)
    have eP : gsP path r i (.say c) = (idx isHear r r.length).map fun j => (⟨"letter", path, [i, j]⟩ : Stp) := by simp only [gsP]
    rw [eP, List.length_map] at hbnd2
    refine ⟨_, rfl, .inl ⟨rfl, _, SqL.of hS2⟩, ?_⟩
    refine ⟨_, rfl, a, xs, rfl, SqT.of ha2, fun D nD => ?_⟩
    refine lc_it (walk_enumT (xs := xs)) (fun j H' => Same H2 H' ∧ ∃ zs, H' D = some (.lst zs) ∧ StpsAt H' ((idx isHear r j).map fun j => (⟨"letter", path, [i, j]⟩ : Stp)) zs) ⟨same_new nD, [], upd_same, rfl⟩ (fun j H' _ hP => SqT.of (hP.1 _ _ ha2)) (fun j v Ha Hb hj hP hY => ?_) (fun Ha hP => ?_)
    · obtain ⟨sm, zs, hD, hst⟩ := hP
      obtain ⟨T2, y2, rfl, nT2, rfl, hy2⟩ := hY
      obtain ⟨p2, hp2, hq2⟩ := PartsAt.get hps2 hy2
      have sm2 : Same H2 (upd Ha T2 (.tup [.int (j : Nat), y2])) := sm.trans (same_new nT2)
      have hD2 : upd Ha T2 (.tup [.int (j : Nat), y2]) D = some (.lst zs) := kn hD nT2
      have hT3 : upd Ha T2 (.tup [.int (j : Nat), y2]) T2 = some (.tup [.int (j : Nat), y2]) := upd_same
      have hstx := hst.tup (STup.new (o := HO.tup [.int (j : Nat), y2]) nT2)
      generalize upd Ha T2 (.tup [.int (j : Nat), y2]) = Hb at *
      obtain ⟨e1, ws, rfl, he1, h01⟩ := PartAt.word hq2
      have lz := StpsAt.len hstx
      have li := idx_len isHear r j
      rw [List.length_map] at lz
      refine ⟨T2, _, rfl, SqT.of hT3, rfl, _, _, rfl, _, _, rfl, rfl, rfl, _, rfl, e1, ws, 0, _, rfl, rfl, SqT.of (sm2 _ _ he1), atI_nat (j := 0) h01, rfl, _, rfl, ?_⟩
      rw [← isHear_eq]
      by_cases ch : isHear p2 = true
      · refine iteU ch ⟨_, rfl, _, rfl, _, rfl, (show 4 ≤ sizeLine by decide), fun t2 nt2 => ?_⟩
        have stl := STup.lst (o := HO.lst (zs ++ [.ref t2])) (kn (u := HO.tup [.str "letter", .ref pa, .int (i : Nat), .int (j : Nat)]) hD2 nt2)
        refine ⟨zs, kn hD2 nt2, small1000 (by omega), fun z o e => ?_, zs ++ [.ref t2], upd_same, ?_⟩
        · rw [upd_ne (ne_of_none e nD)]; exact kn (sm2 _ _ e) nt2
        · rw [idx_succ hp2, if_pos ch, List.map_append]
          exact ((hstx.tup (STup.new nt2)).tup stl).app ⟨.ref t2, [], rfl, ⟨t2, pa, rfl, stl _ _ upd_same, stl _ _ (kn (sm2 _ _ hpt2) nt2)⟩, rfl⟩
      · refine iteD (Bool.eq_false_iff.mpr ch) ⟨sm2, zs, hD2, ?_⟩
        rw [idx_succ hp2, if_neg ch, List.append_nil]
        exact hstx
    obtain ⟨sm, zs, hD, hst⟩ := hP
    rw [lx] at hst
    have lz := StpsAt.len hst
    rw [List.length_map] at lz
    have hSx := sm _ _ hS2
    refine ⟨S, D, ya2, zs, rfl, rfl, hSx, hD, Nat.le_trans (show ya2.length + zs.length ≤ 10000000 by omega) (show 10000000 ≤ sizeLine by decide), ?_⟩
    exact fin _ _ eP.symm ((hG2.same sm).ext hSx hst) _ _ _ _ _ _
  refine ⟨_, rfl, rfl, _, rfl, ite2 (fun g3 => ?_) (fun g3 => ?_)⟩
  · obtain ⟨q0, rfl⟩ := word_again (str_eq g3)
    have eP : gsP path r i (.again q0) = [⟨"again", path, [i]⟩] := by simp only [gsP]
    rw [eP] at hbnd2
    have e1 : ([⟨"again", path, [i]⟩] : List Stp).length = 1 := rfl
    refine ⟨_, rfl, .inl ⟨rfl, _, SqL.of hS2⟩, _, rfl, _, rfl, (show 3 ≤ sizeLine by decide), fun t nt => ?_⟩
    refine ⟨S, _, _, rfl, rfl, kn hS2 nt, Nat.lt_of_le_of_lt (show ya2.length ≤ 10000000 by omega) (show 10000000 < sizeLine by decide), ?_⟩
    refine fin _ _ eP.symm ((hG2.same (same_new nt)).ext (kn hS2 nt) ⟨.ref t, [], rfl, ⟨t, pa, rfl, upd_same, kn hpt2 nt⟩, rfl⟩) _ _ _ _ _ _
  refine fin [] H2 ?_ (by rw [List.append_nil]; exact hG2) _ _ _ _ _ _
  cases p with
  | say n => exact absurd (decide_eq_true rfl) g2
  | again q0 => exact absurd (decide_eq_true rfl) g3
  | oth w nm q0 =>
    cases w with
    | room => exact absurd (decide_eq_true rfl) g
    | opn => exact absurd (decide_eq_true rfl) g1
    | inn => simp only [gsP]
    | out => simp only [gsP]
    | hear => simp only [gsP]
    | new => simp only [gsP]
theorem gast_none {f : Addr} {fd : FuncData} {k : Nat} : FnOk P w K mg base CX0 k f fd psGS (spGaSt 0) := by
  have no : ∀ vs H Q E, ¬ spGaSt 0 vs H Q E := fun vs H Q E h => by
    obtain ⟨_, _, _, _, _, _, _, _, _, h1, _⟩ := h
    omega
  exact ⟨fun vs H Q E h => absurd h (no vs H Q E), fun A outer s H args us vs Q E _ _ _ _ h => absurd h (no vs H Q E)⟩
theorem gast_ok {f fG fL fR : Addr} {fd fdG fdL fdR : FuncData} (F : Fun K "gather_steps" "gather_steps" sGaSt f fd) (me : mg "enumerate" = none)
    (GG : FnOk P w K mg base CX0 2 fG fdG ["row", "k"] spGoals) (bG : Binds K fdG ["row", "k"] []) (kG : PySem.W.keepIn K (.ref fG) = true) (mG : mg "goals_of" = some (.ref fG))
    (GL : FnOk P w K mg base CX0 1 fL fdL ["room"] spLeavers) (bL : Binds K fdL ["room"] []) (kL : PySem.W.keepIn K (.ref fL) = true) (mL : mg "leavers_of" = some (.ref fL))
    (GR : FnOk P w K mg base CX0 1 fR fdR ["row", "calling"] spRoomsC) (bR : Binds K fdR ["row", "calling"] []) (kR : PySem.W.keepIn K (.ref fR) = true) (mR : mg "rooms_called" = some (.ref fR))
    (bF : Binds K fd psGS []) (mF : mg "gather_steps" = some (.ref f)) : ∀ n : Nat, FnOk P w K mg base CX0 (n + 3) f fd psGS (spGaSt n)
  | 0 => gast_none
  | n + 1 => ok_gast F me GG bG kG mG GL bL kL mL GR bR kR mR (gast_ok F me GG bG kG mG GL bL kL mL GR bR kR mR bF mF n) bF mF
theorem ok_steps {f fG : Addr} {fd fdG : FuncData} (F : Fun K "steps_of" "steps_of" sSteps f fd) (mo : mg "sorted" = none)
    (GG : FnOk P w K mg base CX0 23 fG fdG psGS (spGaSt 20)) (bG : Binds K fdG psGS []) (kG : PySem.W.keepIn K (.ref fG) = true) (mG : mg "gather_steps" = some (.ref fG)) : FnOk P w K mg base CX0 24 f fd ["stand"] spSteps := by
  refine F.ok scSteps (fun vs H Q E h => ?_) (fun cdv A outer s H vs Q E hr h => ?_)
  · obtain ⟨_, _, _, _, rfl, _⟩ := h
    rfl
  obtain ⟨s0, n, rv, r, rfl, hs, hR, hd, lr, hb, q⟩ := h
  refine ⟨_, pss_cons (ps_set (i := 1) scSteps.nd rfl (.inl rfl) (pe_lst pa_nil))
    (pss_cons (ps_expr (pe_call GG hr (by rfl) mG kG bG .nil pass0 (pa_cons (pe_ix ix_tup (pv 0) pe_int (fun _ _ => rfl)) (pa_cons (pe_tup pa_nil) (pa_cons (pv 1) pa_nil)))))
    (pss_one (ps_ret (pe_callB (cr_sortedSt hr.units) (by rfl) mo (by decide +kernel) (pa_cons (pv 1) pa_nil))))), ?_⟩
  refine ⟨(show 0 ≤ sizeLine by decide), fun S nS => ?_⟩
  refine ⟨_, rfl, s0, _, 1, rv, rfl, rfl, SqT.of (kn hs nS), atI_nat (j := 1) rfl, (show 0 ≤ sizeLine by decide), fun pt npt => ?_⟩
  have ss := (same_new (o := HO.lst []) nS).trans (same_new (o := HO.tup []) npt)
  refine ⟨_, rfl, rv, r, pt, S, [], [], [], rfl, hR.mono (STup.of ss), hd, lr, upd_same, by show 0 + deepR r ≤ 1000; omega, kn upd_same npt, rfl, by show 0 + _ ≤ _; omega, fun H1 hG => ?_⟩
  obtain ⟨ys, hS1, hst⟩ := hG.ex
  have sm : Same H H1 := fun b o e => hG.ks b o (ne_of_none e nS) (ss _ _ e)
  refine ⟨_, rfl, S, ys, _, rfl, SqL.of hS1, hst, fun ts zs p2 pm so hz np2 => ?_⟩
  refine q _ p2 ts zs (fun b o e => kn (sm _ _ e) np2) ?_ upd_same (hz.tup (STup.new np2)) ?_ so
  · cases e : H p2 with
    | none => rfl
    | some o =>
      rw [sm _ _ e] at np2
      cases np2
  · exact pm
end
end K19

set_option Elab.async false
set_option linter.all false
set_option maxRecDepth 100000
set_option maxHeartbeats 400000
namespace K19
open PySem PySem.Spec PyProof.Rows L2 Wk GxR
abbrev sRight : Stmt := topS 67
abbrev nmRight : List Str := ["_law_stand", "_law_left_here", "_law_due", "_law_turn", "_law_found", "_law_step", "_law_paths_here", "_law_path", "_law_rows", "_law_row_here", "_law_one"]
theorem scRight : FnScope nmRight ["_law_stand", "_law_left_here"] (defScope sRight) := ⟨rfl, rfl, rfl, by decide +kernel, rfl, by decide +kernel, by decide +kernel⟩
abbrev psRi : List Str := ["_law_stand", "_law_left_here"]
abbrev psLw : List Str := ["_law_left_here", "_law_many"]
section
variable {P : Program} {w : World} {K : PySem.W.Frag} {mg : Str → Option Value} {base : Heap}
theorem ok_right {f f2 fL fT fQ fA : Addr} {fd d2 dL dT dQ dA : FuncData} (F : Fun K "_law_right" "_law_right" sRight f fd)
    (G2 : FnOk P w K mg base CX0 1 f2 d2 psLw spDigit) (b2 : Binds K d2 psLw []) (k2 : PySem.W.keepIn K (.ref f2) = true) (m2 : mg "_law_digit" = some (.ref f2))
    (GL : FnOk P w K mg base CX0 11 fL dL psLS (spLSteps 10)) (bL : Binds K dL psLS []) (kL : PySem.W.keepIn K (.ref fL) = true) (mL : mg "_law_steps" = some (.ref fL))
    (GT : FnOk P w K mg base CX0 24 fT dT ["stand"] spSteps) (bT : Binds K dT ["stand"] []) (kT : PySem.W.keepIn K (.ref fT) = true) (mT : mg "steps_of" = some (.ref fT))
    (GQ : FnOk P w K mg base CX0 11 fQ dQ psLPa (spPaths 10)) (bQ : Binds K dQ psLPa []) (kQ : PySem.W.keepIn K (.ref fQ) = true) (mQ : mg "_law_paths" = some (.ref fQ))
    (GA : FnOk P w K mg base CX0 2 fA dA ["stand", "path"] spRowI) (bA : Binds K dA ["stand", "path"] []) (kA : PySem.W.keepIn K (.ref fA) = true) (mA : mg "row_at" = some (.ref fA))
    (ml : mg "len" = none) (mr : mg "range" = none) (mi : mg "isinstance" = none) (mli : mg "list" = none) (mbo : mg "bool" = none) :
    FnOk P w K mg base CX0 25 f fd psRi spRight19 := by
  refine F.ok scRight (fun vs H Q E h => ?_) (fun cdv A outer s H vs Q E hr h => ?_)
  · obtain ⟨_, _, _, _, _, _, _, rfl, _⟩ := h
    rfl
  obtain ⟨st, L, n0, i0, m, hv, h, rfl, hst, hR, iv, hi0, hL, q⟩ := h
  refine ⟨_, (pss_cons (ps_set (i := 2) scRight.nd rfl (.inl rfl) (pe_call GL (hr.mono (by decide)) (by rfl) mL kL bL .nil pass0 (pa_cons (pe_ix ix_tup (pv 0) pe_int (fun _ _ => rfl)) (pa_cons (pe_tup pa_nil) pa_nil))))
    (pss_cons (ps_for PassesOwn.never rfl (pi_range1 rfl mr (pa_cons pe_int pa_nil)) (pg_name (i := 3) scRight.nd rfl (.inl rfl)) (pss_cons (ps_set (i := 4) scRight.nd rfl (.inl rfl) (pe_call GT (hr.mono (by decide)) (by rfl) mT kT bT .nil pass0 (pa_cons (pv 0) pa_nil)))
    (pss_cons (ps_if (PW.pt (pw_or (pt_not (pt_val (pe_callB call_isi (by rfl) mi (by decide +kernel) (pa_cons (pv 4) (pa_cons (pe_bltn (v := .ty "list") (by rfl) mli (by decide +kernel) rfl) pa_nil))))) (pw_or1 (pt_cmpR (op_neD hr.units) (pv 4) (pv 2) (nomark _))))) (pss_one (ps_ret pe_bl)) pss_nil)
    (pss_cons (ps_for PassesOwn.never rfl (pi_list (pv 4)) (pg_name (i := 5) scRight.nd rfl (.inl rfl)) (pss_one (ps_if (pt_cmpR (op_neD hr.units) (pe_lc (own := [("_law_one", 10)]) (g := (gName 10)) (tt := (tB (tCB (rIsi K) (tCons (tVar 10) (tCons (tC (.ty "bool")) tNil))))) (te := (tVar 10)) (by rfl) scRight.nd (pi_tup (pe_op op_catM (pe_ix ix_tup (pv 5) pe_int (fun _ _ => rfl)) (pe_slice sl_tupS (pv 5) (po_some pe_int) po_none))) (blkOk_by (own := [("_law_one", 10)]) (N := nmRight) (sc := defScope sRight) (by decide +kernel)) (fun _ _ _ _ _ => (pg_name (i := 10) scRight.nd rfl (.inl rfl))) (fun _ _ _ _ _ => (pts_one (pt_val (pe_callB call_isi (by rfl) mi (by decide +kernel) (pa_cons (pv 10) (pa_cons (pe_bltn (v := .ty "bool") (by rfl) mbo (by decide +kernel) rfl) pa_nil)))))) (fun _ _ _ _ _ => (pv 10))) (pe_lst pa_nil) (nomark _)) (pss_one (ps_ret pe_bl)) pss_nil)))
    (pss_one (ps_expr (pe_bm PySem.F.plainAttrs_list PySem.F.slot_list_append PySem.F.type_list_append mt_append (pv 4) (pa_cons (pe_tup (pa_cons pe_str (pa_cons (pe_tup pa_nil) pa_nil))) pa_nil))))))))
    (pss_cons (ps_set (i := 6) scRight.nd rfl (.inl rfl) (pe_call GQ (hr.mono (by decide)) (by rfl) mQ kQ bQ .nil pass0 (pa_cons (pe_ix ix_tup (pv 0) pe_int (fun _ _ => rfl)) (pa_cons (pe_tup pa_nil) pa_nil))))
    (pss_cons (ps_if (pt_cmpR (op_neD hr.units) (pe_lc (own := [("_law_path", 7), ("_law_row_here", 9)]) (g := (gTup K 2 (gCons (gName 7) (gCons (gName 9) gNil)))) (tt := (tTest (tOp (rNeD K) (tCall spRowI [] E0 (tCons (tVar 0) (tCons (tVar 7) tNil))) (tVar 9)))) (te := (tVar 7)) (by rfl) scRight.nd (pi_list (pv 6)) (blkOk_by (own := [("_law_path", 7), ("_law_row_here", 9)]) (N := nmRight) (sc := defScope sRight) (by decide +kernel)) (fun _ _ _ _ _ => (pg_tup rfl (pgs_cons (pg_name (i := 7) scRight.nd rfl (.inl rfl)) (pgs_cons (pg_name (i := 9) scRight.nd rfl (.inl rfl)) pgs_nil)))) (fun _ _ _ _ _ => (pts_one (pt_cmpR (op_neD hr.units) (pe_call GA (hr.mono (by decide)) (by rfl) mA kA bA .nil pass0 (pa_cons (pv 0) (pa_cons (pv 7) pa_nil))) (pv 9) (nomark _)))) (fun _ _ _ _ _ => (pv 7))) (pe_lst pa_nil) (nomark _)) (pss_one (ps_ret pe_bl)) pss_nil)
    (pss_cons (ps_for PassesOwn.never rfl (pi_range1 rfl mr (pa_cons pe_int pa_nil)) (pg_name (i := 3) scRight.nd rfl (.inl rfl)) (pss_cons (ps_set (i := 7) scRight.nd rfl (.inr rfl) (pe_op op_catM (pe_ix ix_tup (pe_ix ix_list (pv 6) (pe_call G2 (hr.mono (by decide)) (by rfl) m2 k2 b2 .nil pass0 (pa_cons (pv 1) (pa_cons (pe_callB call_len_seq (by rfl) ml PySem.boot_len (pa_cons (pv 6) pa_nil)) pa_nil))) (fun _ _ => rfl)) pe_int (fun _ _ => rfl)) (pe_tup (pa_cons (pe_call G2 (hr.mono (by decide)) (by rfl) m2 k2 b2 .nil pass0 (pa_cons (pv 1) (pa_cons pe_int pa_nil))) pa_nil))))
    (pss_cons (ps_set (i := 7) scRight.nd rfl (.inr rfl) (pe_op op_catM (pv 7) (pe_ix ix_list (pe_lst (pa_cons (pe_tup pa_nil) (pa_cons (pe_tup (pa_cons pe_int pa_nil)) (pa_cons (pe_tup (pa_cons (pe_call G2 (hr.mono (by decide)) (by rfl) m2 k2 b2 .nil pass0 (pa_cons (pv 1) (pa_cons pe_int pa_nil))) pa_nil)) pa_nil)))) (pe_call G2 (hr.mono (by decide)) (by rfl) m2 k2 b2 .nil pass0 (pa_cons (pv 1) (pa_cons pe_int pa_nil))) (fun _ _ => rfl))))
    (pss_cons (ps_setLc (i := 8) (own := [("_law_one", 10), ("_law_row_here", 9)]) (g := (gTup K 2 (gCons (gName 10) (gCons (gName 9) gNil)))) (tt := (tTest (tOp (rEqD K) (tVar 10) (tVar 7)))) (te := (tVar 9)) (by rfl) scRight.nd rfl rfl (sw_true rfl rfl rfl (by decide +kernel)) (pi_list (pv 6)) (blkOk_by (own := [("_law_one", 10), ("_law_row_here", 9)]) (N := nmRight) (sc := defScope sRight) (by decide +kernel)) (fun _ _ _ _ _ => (pg_tup rfl (pgs_cons (pg_name (i := 10) scRight.nd rfl (.inl rfl)) (pgs_cons (pg_name (i := 9) scRight.nd rfl (.inl rfl)) pgs_nil)))) (fun _ _ _ _ _ => (pts_one (pt_cmpR (op_eqD hr.units) (pv 10) (pv 7) (nomark _)))) (fun _ _ _ _ _ => (pv 9)))
    (pss_one (ps_if (pt_cmpR (op_neD hr.units) (pe_call GA (hr.mono (by decide)) (by rfl) mA kA bA .nil pass0 (pa_cons (pv 0) (pa_cons (pv 7) pa_nil))) (pe_ix ix_list (pe_op op_cat (pv 8) (pe_lst (pa_cons pe_non pa_nil))) pe_int (fun _ _ => rfl)) (nomark _)) (pss_one (ps_ret pe_bl)) pss_nil))))))
    (pss_cons (ps_if (pt_cmpR (op_neD hr.units) (pe_lc (own := [("_law_path", 7), ("_law_row_here", 9)]) (g := (gTup K 2 (gCons (gName 7) (gCons (gName 9) gNil)))) (tt := (tB (tNotN (tCall spRowI [] E0 (tCons (tVar 0) (tCons (tOp rCatM (tVar 7) (tTup (tCons (tUn (rU fun i => .int (-i)) (tC (.int 1))) tNil))) tNil)))))) (te := (tVar 7)) (by rfl) scRight.nd (pi_list (pe_slice sl_list (pv 6) po_none (po_some pe_int))) (blkOk_by (own := [("_law_path", 7), ("_law_row_here", 9)]) (N := nmRight) (sc := defScope sRight) (by decide +kernel)) (fun _ _ _ _ _ => (pg_tup rfl (pgs_cons (pg_name (i := 7) scRight.nd rfl (.inl rfl)) (pgs_cons (pg_name (i := 9) scRight.nd rfl (.inl rfl)) pgs_nil)))) (fun _ _ _ _ _ => (pts_one (pt_cmp (pc_notN (pe_call GA (hr.mono (by decide)) (by rfl) mA kA bA .nil pass0 (pa_cons (pv 0) (pa_cons (pe_op op_catM (pv 7) (pe_tup (pa_cons (pe_un un_neg pe_int) pa_nil))) pa_nil))))))) (fun _ _ _ _ _ => (pv 7))) (pe_lst pa_nil) (nomark _)) (pss_one (ps_ret pe_bl)) pss_nil)
    (pss_one (ps_ret (pe_and (pe_cmp (pc_isN (pe_call GA (hr.mono (by decide)) (by rfl) mA kA bA .nil pass0 (pa_cons (pv 0) (pa_cons (pe_tup (pa_cons (pe_un un_neg pe_int) pa_nil)) pa_nil))))) (pe_one (pe_cmp (pc_isN (pe_call GA (hr.mono (by decide)) (by rfl) mA kA bA .nil pass0 (pa_cons (pv 0) (pa_cons (pe_tup (pa_cons (pe_callB call_len_seq (by rfl) ml PySem.boot_len (pa_cons (pe_ix ix_tup (pv 0) pe_int (fun _ _ => rfl)) pa_nil)) pa_nil)) pa_nil))))))))))))))), ?_⟩
  have z1 := iv.size
  have z2 := iv.deep
  have lh := len_sizeR h
  have few := gs_few2 (r := h) (by omega) (by omega)
  have okh := iv_okR h iv.iv
  -- the steps that are due
  refine ⟨_, rfl, st, _, 1, hv, rfl, rfl, SqT.of hst, atI_nat (j := 1) rfl, (show 0 ≤ sizeLine by decide), fun e0 ne0 => ?_⟩
  refine ⟨hv, h, e0, [], rfl, hR.mono (STup.new ne0), by omega, by omega, upd_same, (show 0 + deepR h ≤ 900 by omega), few, fun H1 p1 ts ys1 s1' np1 hp1 hst1 pm1 so1 => ?_⟩
  have s1 : Same H H1 := (same_new ne0).trans s1'
  have wds : ∀ x ∈ ts, PyData.strOk x.w = true := fun x hx => gsL_word h [] h 0 x (pm1.mem_iff.mp hx)
  clear ne0 s1' np1
  refine ⟨2, rfl, by decide, by decide, for_range (n := 2) (lo := 0) (fun _ σ H' => Same H1 H' ∧ ∃ s3 s4 s5 : Option V, σ = [some (.ref st), some (.ref L), some (.ref p1), s3, s4, s5, none, none, none, none, none])
    ⟨fun _ _ e => e, _, _, _, rfl⟩ (fun i σ H2 hi hP => ?_) (fun σ H2 hP => ?_)⟩
  · obtain ⟨s2, s3, s4, s5, rfl⟩ := hP
    have s02 := s1.trans s2
    refine ⟨_, rfl, st, _, hv, h, rfl, s02 _ _ hst, hR.mono (STup.of s02), by omega, by omega, few, fun H3 p3 ts3 ys3 s3' np3 hp3 hst3 pm3 so3 => ?_⟩
    have e3 : ts3 = ts := srt_same so3 so1 (pm3.trans pm1.symm)
    subst e3
    have s13 := s2.trans s3'
    refine ⟨_, rfl, .ref p3, .ty "list", .type "list", .type "list", true, rfl, .ty "list", .base (.lst hp3), kit_ty (by decide +kernel), _, rfl, iteF ?_⟩
    refine ⟨_, rfl, _, rfl, _, _, .lst (SqL.of hp3) hst3.dp, .lst (SqL.of (s13 _ _ hp1)) (hst1.tup (STup.of s13)).dp, shapedL wds, shapedL wds, _, rfl, iteD (by show (!PyData.eqvAll _ _) = false; rw [eqv_stps]; rfl) ?_⟩
    refine ⟨_, rfl, p3, rfl, ⟨_, SqL.of hp3⟩, for_it (walk_list (xs := ys3)) (fun _ σ H' => Same H3 H' ∧ ∃ s5 : Option V, σ = [some (.ref st), some (.ref L), some (.ref p1), some (.int (0 + (i : Nat))), some (.ref p3), s5, none, none, none, none, none])
      ⟨fun _ _ e => e, _, rfl⟩ (fun j σ H' _ hP => SqL.of (hP.1 _ _ hp3)) (fun j x σ H4 H5 hj hP hY => ?_) (fun σ H4 hP => ?_)⟩
    · obtain ⟨sm, s5, rfl⟩ := hP
      obtain ⟨rfl, hx⟩ := hY
      obtain ⟨y, hy, t, pa, rfl, ht0, hpa0⟩ := hst3.mem (List.mem_of_getElem? hx)
      obtain ⟨ly1, ly2⟩ := stp_lens (pm1.mem_iff.mp hy)
      have ht := sm _ _ ht0
      have hpa := sm _ _ hpa0
      refine ⟨_, rfl, t, _, 1, _, rfl, rfl, SqT.of ht, atI_nat (j := 1) rfl, _, rfl, 2, rfl, t, _, rfl, ht, ?_, fun H6 c s6 hc => ?_⟩
      · rw [show (2 : Int) = ((2 : Nat) : Int) from rfl, HT.sIx_nat, List.length_cons, List.length_cons]
        rintro ⟨z, _⟩
        omega
      rw [show (2 : Int) = ((2 : Nat) : Int) from rfl, cutOff (by rw [List.length_cons, List.length_cons]; omega)] at hc
      have hc' : H6 c = some (.tup (vN y.r)) := hc
      refine ⟨pa, c, _, _, rfl, rfl, s6 _ _ hpa, hc', (by rw [vN_len, vN_len]; omega), fun H7 dd s7 hd => ?_⟩
      have s47 := s6.trans s7
      refine ⟨dd, rfl, ⟨_, SqT.of hd⟩, fun D nD => lc_it (walk_tup (xs := vN y.p ++ vN y.r)) (fun j H' => Same H7 H' ∧ H' D = some (.lst [])) ⟨same_new nD, upd_same⟩ (fun j H' _ hP => SqT.of (hP.1 _ _ hd)) (fun j z H8 H9 hj hP hY => ?_) (fun H8 hP => ?_)⟩
      · obtain ⟨rfl, hz⟩ := hY
        have hzm : ∃ k : Int, z = .int k := by
          rw [← vN_app] at hz
          obtain ⟨k, _, rfl⟩ := vN_get hz
          exact ⟨_, rfl⟩
        obtain ⟨k, rfl⟩ := hzm
        exact ⟨rfl, _, rfl, .int k, .ty "bool", .type "int", .type "bool", false, rfl, .ty "bool", .base (.int k), kit_ty (show kitB "int" "bool" = some false by decide +kernel), _, rfl, iteF hP⟩
      · obtain ⟨s8, hD⟩ := hP
        refine ⟨(show 0 ≤ sizeLine by decide), fun e1 ne1 => ?_⟩
        refine ⟨_, _, .lst (SqL.of (kn hD ne1)) .nil, .lst (SqL.of upd_same) .nil, nil_shaped, nil_shaped, _, rfl, iteD (by rw [eqv_nil]; rfl) ?_⟩
        exact ⟨((sm.trans s47).trans s8).trans (same_new ne1), _, rfl⟩
    · obtain ⟨sm, s5, rfl⟩ := hP
      have hp4 := sm _ _ hp3
      have n1 : H1 p3 = none := none_of s2 np3
      have lys := StpsAt.len hst3
      have lts := pm1.length_eq
      refine ⟨_, rfl, .inl ⟨rfl, _, SqL.of hp4⟩, (show 0 ≤ sizeLine by decide), fun e2 ne2 => ⟨(show 2 ≤ sizeLine by decide), fun t2 nt2 => ?_⟩⟩
      refine ⟨p3, ys3, _, rfl, rfl, kn (kn hp4 ne2) nt2, Nat.lt_of_le_of_lt (show ys3.length ≤ 10000000 by omega) (by decide), ?_⟩
      exact ⟨same_in n1 (((s13.trans sm).trans (same_new ne2)).trans (same_new nt2)), _, _, _, rfl⟩
  obtain ⟨s2, s3, s4, s5, rfl⟩ := hP
  have s02 := s1.trans s2
  clear s1 s2 hst1 hp1 so1 pm1 wds
  -- all paths
  refine ⟨_, rfl, st, _, 1, hv, rfl, rfl, SqT.of (s02 _ _ hst), atI_nat (j := 1) rfl, (show 0 ≤ sizeLine by decide), fun e0 ne0 => ?_⟩
  refine ⟨hv, h, e0, [], rfl, hR.mono ((STup.of s02).trans (STup.new ne0)), by omega, by omega, upd_same, (show 0 + deepR h ≤ 900 by omega), fun H5 pq vs s5' np5 hpq hal => ?_⟩
  have s05 : Same H H5 := (s02.trans (same_new ne0)).trans s5'
  have lvs := AllAt.len hal
  have lpt := ptR_len [] h
  have lp1 : 0 < (ptR [] h).length := Nat.succ_pos _
  have hst5 := s05 _ _ hst
  have hR5 := hR.mono (STup.of s05)
  have hL5 := s05 _ _ hL
  have x05 : StL L H H5 := ⟨fun b o _ e => s05 _ _ e, _, hL5⟩
  clear s02 s5' ne0 np5
  have okq : ∀ x ∈ ptR [] h, okR (Sh 30) x.2 ∧ deepR x.2 ≤ 30 := fun x hx => by
    have e := ptR_mem hx
    have rd := row_deep e
    exact ⟨iv_okR _ (row_iv e iv.iv), by omega⟩
  have shq : ∀ x ∈ ptR [] h, SeqAt.shaped (.tuple (dR x.2)) = true := fun x hx => shapedR (fun n g => g.ok) (okq x hx).1 (okq x hx).2
  have eqq : ∀ x ∈ ptR [] h, PyData.eqv (.tuple (dR x.2)) (.tuple (dR x.2)) = true := fun x hx => eqv_rows (fun n g => g.ok) (okq x hx).1
  have rwq : ∀ x ∈ ptR [] h, rowI h (iN x.1) = some x.2 := fun x hx => by rw [rowI_nat]; exact ptR_mem hx
  refine ⟨_, rfl, pq, rfl, ⟨_, SqL.of hpq⟩, fun D nD => lc_it (walk_list (xs := vs)) (fun j H' => Same H5 H' ∧ H' D = some (.lst [])) ⟨same_new nD, upd_same⟩ (fun j H' _ hP => SqL.of (hP.1 _ _ hpq)) (fun j y H8 H9 hj hP hY => ?_) (fun H8 hP => ?_)⟩
  · obtain ⟨rfl, hy⟩ := hY
    obtain ⟨sm, hD⟩ := hP
    obtain ⟨x, hx, t, pa, rv, rfl, ht, hpa, hrv⟩ := hal.mem (List.mem_of_getElem? hy)
    refine ⟨t, _, rfl, SqT.of (sm _ _ ht), rfl, _, _, rfl, _, _, rfl, rfl, rfl, _, rfl, _, rfl, st, pa, _, hv, h, iN x.1, rfl, sm _ _ hst5, hR5.mono (STup.of sm), by omega, sm _ _ hpa, fun q1 v1 hq1 hv1 => ?_, fun hq1 => ?_⟩
    · rw [rwq x hx] at hq1
      cases hq1
      exact ⟨_, rfl, _, _, hv1.dp, (hrv.mono (STup.of sm)).dp, shq x hx, shq x hx, _, rfl, iteD (by rw [eqq x hx]; rfl) ⟨sm, hD⟩⟩
    · rw [rwq x hx] at hq1
      cases hq1
  obtain ⟨s8, hD8⟩ := hP
  refine ⟨(show 0 ≤ sizeLine by decide), fun e1 ne1 => ?_⟩
  refine ⟨_, _, .lst (SqL.of (kn hD8 ne1)) .nil, .lst (SqL.of upd_same) .nil, nil_shaped, nil_shaped, _, rfl, iteD (by rw [eqv_nil]; rfl) ?_⟩
  have s56 := s8.trans (same_new (o := HO.lst []) ne1)
  have x06 : StL L H _ := ⟨fun b o nb e => s56 _ _ (x05.1 _ _ nb e), _, s56 _ _ hL5⟩
  have pqL : pq ≠ L := fun e => by
    rw [e, hL5] at hpq
    have e2 := HO.lst.inj (Option.some.inj hpq)
    rw [← e2] at hal
    obtain ⟨_, _, e3, ⟨_, _, _, e4, _⟩, _⟩ := hal
    rw [e4] at e3
    cases e3
  have stL : st ≠ L := fun e => by rw [e, hL] at hst; cases hst
  generalize upd H8 e1 (.lst []) = H6 at *
  have hal6 := hal.imp (PthAt.tup (STup.of s56))
  have hpq6 := s56 _ _ hpq
  have hst6 := s56 _ _ hst5
  have hR6 := hR5.mono (STup.of s56)
  have hL6 := s56 _ _ hL5
  clear s56 s8 hD8 ne1 hal hpq hst5 hR5 hL5 x05 s05 hst hR
  -- drawn paths
  refine ⟨6, rfl, by decide, by decide, for_range (n := 6) (lo := 0) (fun _ σ H' => StL L H6 H' ∧ ∃ s3 s7 s8 : Option V, σ = [some (.ref st), some (.ref L), some (.ref p1), s3, s4, s5, some (.ref pq), s7, s8, none, none])
    ⟨StL.refl hL6, _, _, _, rfl⟩ (fun i σ H2 hi hP => ?_) (fun σ H2 hP => ?_)⟩
  · obtain ⟨x2, s3, s7, s8, rfl⟩ := hP
    obtain ⟨n2, hn2⟩ := id x2.2
    have hpq2 := x2.1 _ _ pqL hpq6
    refine ⟨_, rfl, _, rfl, _, rfl, pq, _, rfl, .inl (SqL.of hpq2), L, n2, _, rfl, hn2, by omega, by omega, fun c n3 c0 c1 => ?_⟩
    have x3 := x2.trans (StL.put (H := H2) (L := L) n3)
    have hn3 : upd H2 L (.lst [.int n3]) L = some (.lst [.int n3]) := upd_same
    clear x2 hn2 hpq2
    generalize upd H2 L (.lst [.int n3]) = H3 at *
    obtain ⟨v, hv0, hat, _⟩ := atX_lt (l := vs) c0 c1
    have tp3 : STup H6 H3 := fun a xs e => x3.1 _ _ (fun z => by rw [z, hL6] at e; cases e) e
    obtain ⟨x, hx, t, pa, rv, rfl, ht, hpa, hrv⟩ := hal6.mem hv0
    have ptd : x.1.length ≤ deepR h := by
      have := row_deep (ptR_mem hx)
      omega
    refine ⟨pq, _, c, _, rfl, rfl, SqL.of (x3.1 _ _ pqL hpq6), hat, t, _, 0, _, rfl, rfl, SqT.of (tp3 _ _ ht), atI_nat (j := 0) rfl, ?_⟩
    refine ⟨_, rfl, L, n3, 9, rfl, hn3, by decide, by decide, fun d1 n4 d10 d11 => ⟨(show 1 ≤ sizeLine by decide), fun t1 nt1 => ?_⟩⟩
    have x4 := x3.trans (StL.put (H := H3) (L := L) n4)
    have tp4 := tp3.trans (STup.lst (o := .lst [.int n4]) hn3)
    have hn4 : upd H3 L (.lst [.int n4]) L = some (.lst [.int n4]) := upd_same
    clear x3 hn3 tp3
    generalize upd H3 L (.lst [.int n4]) = H4 at *
    refine ⟨pa, t1, _, [.int d1], rfl, rfl, kn (tp4 _ _ hpa) nt1, upd_same, (by rw [vN_len]; show x.1.length + 1 ≤ 1000; omega), fun H5 c5 s5' hc5 => ?_⟩
    have s45 := (same_new (o := HO.tup [.int d1]) nt1).trans s5'
    have tp5 := tp4.trans (STup.of s45)
    have x5 : StL L H6 H5 := ⟨fun b o nb e => s45 _ _ (x4.1 _ _ nb e), _, s45 _ _ hn4⟩
    have hn5 := s45 _ _ hn4
    have hc5' : H5 c5 = some (.tup ((iN x.1 ++ [d1]).map V.int)) := by rw [hc5, List.map_append]; rfl
    clear x4 hn4 tp4 s45 s5' nt1 hc5
    -- with more behind
    refine ⟨_, rfl, (show 0 ≤ sizeLine by decide), fun t0 nt0 => ⟨(show 1 ≤ sizeLine by decide), fun t1 nt1 => ?_⟩⟩
    have s57 := (same_new (o := HO.tup []) nt0).trans (same_new (o := HO.tup [.int 0]) nt1)
    have ht0 : upd (upd H5 t0 (.tup [])) t1 (.tup [.int 0]) t0 = some (.tup []) := kn upd_same nt1
    have ht1 : upd (upd H5 t0 (.tup [])) t1 (.tup [.int 0]) t1 = some (.tup [.int 0]) := upd_same
    have hn7 := s57 _ _ hn5
    have hc7 := s57 _ _ hc5'
    have x7 : StL L H6 _ := ⟨fun b o nb e => s57 _ _ (x5.1 _ _ nb e), _, hn7⟩
    have tp7 := tp5.trans (STup.of s57)
    clear x5 hn5 hc5' tp5 s57 nt0 nt1
    generalize upd (upd H5 t0 (.tup [])) t1 (.tup [.int 0]) = H7 at *
    refine ⟨_, rfl, L, n4, 400, rfl, hn7, by decide, by decide, fun d2 n5 d20 d21 => ⟨(show 1 ≤ sizeLine by decide), fun t2 nt2 => ⟨(show 3 ≤ sizeLine by decide), fun l3 nl3 => ?_⟩⟩⟩
    have x8 := x7.trans (StL.put (H := H7) (L := L) n5)
    have tpl := STup.lst (o := .lst [.int n5]) hn7
    have hn8 : upd H7 L (.lst [.int n5]) L = some (.lst [.int n5]) := upd_same
    have ht08 := tpl _ _ ht0
    have ht18 := tpl _ _ ht1
    have hc8 := tpl _ _ hc7
    have tp8 := tp7.trans tpl
    clear x7 tp7 hn7 hc7 ht0 ht1 tpl
    generalize upd H7 L (.lst [.int n5]) = H8' at *
    have s89 := (same_new (o := HO.tup [.int d2]) nt2).trans (same_new (o := HO.lst [.ref t0, .ref t1, .ref t2]) nl3)
    have ht09 := s89 _ _ ht08
    have ht19 := s89 _ _ ht18
    have ht29 : upd (upd H8' t2 (.tup [.int d2])) l3 (.lst [.ref t0, .ref t1, .ref t2]) t2 = some (.tup [.int d2]) := kn upd_same nl3
    have hl39 : upd (upd H8' t2 (.tup [.int d2])) l3 (.lst [.ref t0, .ref t1, .ref t2]) l3 = some (.lst [.ref t0, .ref t1, .ref t2]) := upd_same
    have hc9 := s89 _ _ hc8
    have hn9 := s89 _ _ hn8
    have tp9 := tp8.trans (STup.of s89)
    have x9 : StL L H6 _ := ⟨fun b o nb e => s89 _ _ (x8.1 _ _ nb e), _, hn9⟩
    have l3L : l3 ≠ L := Ne.symm (ne_of_none (kn hn8 nt2) nl3)
    clear x8 tp8 hn8 hc8 ht08 ht18 s89 nt2 nl3
    generalize upd (upd H8' t2 (.tup [.int d2])) l3 (.lst [.ref t0, .ref t1, .ref t2]) = H9 at *
    refine ⟨_, rfl, L, n5, 3, rfl, hn9, by decide, by decide, fun e n6 e0 e1 => ?_⟩
    have x10 := x9.trans (StL.put (H := H9) (L := L) n6)
    have tpl := STup.lst (o := .lst [.int n6]) hn9
    have ht0a := tpl _ _ ht09
    have ht1a := tpl _ _ ht19
    have ht2a := tpl _ _ ht29
    have hca := tpl _ _ hc9
    have tp10 := tp9.trans tpl
    have hl3a : upd H9 L (.lst [.int n6]) l3 = some (.lst [.ref t0, .ref t1, .ref t2]) := by rw [upd_ne l3L]; exact hl39
    clear x9 tp9 hn9 hc9 ht09 ht19 ht29 hl39 tpl
    generalize upd H9 L (.lst [.int n6]) = Ha at *
    obtain ⟨tX, ext, hatX, htX, lX⟩ : ∃ (tX : Addr) (ext : List Int), atI [V.ref t0, V.ref t1, V.ref t2] e = some (.ref tX) ∧ Ha tX = some (.tup (ext.map V.int)) ∧ ext.length ≤ 1 := by
      have : e = 0 ∨ e = 1 ∨ e = 2 := by omega
      rcases this with rfl | rfl | rfl
      · exact ⟨t0, [], rfl, ht0a, Nat.zero_le _⟩
      · exact ⟨t1, [0], rfl, ht1a, Nat.le_refl _⟩
      · exact ⟨t2, [d2], rfl, ht2a, Nat.le_refl _⟩
    refine ⟨l3, _, e, _, rfl, rfl, SqL.of hl3a, hatX, c5, tX, _, _, rfl, rfl, hca, htX, (by rw [List.length_map, List.length_map, List.length_append]; show (iN x.1).length + 1 + ext.length ≤ 1000; rw [show (iN x.1).length = x.1.length from List.length_map _]; omega), fun Hb cp sb hcp => ?_⟩
    rw [← List.map_append] at hcp
    have tpb := tp10.trans (STup.of sb)
    obtain ⟨nb, hnb⟩ := id x10.2
    have xb : StL L H6 Hb := ⟨fun b o nb e => sb _ _ (x10.1 _ _ nb e), _, sb _ _ hnb⟩
    generalize (iN x.1 ++ [d1]) ++ ext = path at *
    clear ht0a ht1a ht2a hca htX hatX hl3a lX ptd ht hpa hrv hx
    have hpqb := xb.1 _ _ pqL hpq6
    -- the rows that are there
    refine ⟨_, rfl, pq, rfl, ⟨_, SqL.of hpqb⟩, fun D nD => lc_it (walk_list (xs := vs)) (fun j H' => Same Hb H' ∧ ∃ acc : List V, H' D = some (.lst acc) ∧ acc.length ≤ j ∧ (∀ v ∈ acc, ∃ x ∈ ptR [] h, iN x.1 = path ∧ RowAt H6 x.2 v) ∧ (acc = [] → ∀ k x, k < j → (ptR [] h)[k]? = some x → iN x.1 ≠ path))
      ⟨same_new nD, [], upd_same, Nat.le_refl _, fun v hv => (nomatch hv), fun _ k x hk => (by omega)⟩ (fun j H' _ hP => SqL.of (hP.1 _ _ hpqb)) (fun j y H8 H9 hj hP hY => ?_) (fun Hc hP => ?_)⟩
    · obtain ⟨rfl, hy⟩ := hY
      obtain ⟨sm, acc, hD, la, h1, h2⟩ := hP
      obtain ⟨x, hxj, t, pa, rv, rfl, ht, hpa, hrv⟩ := hal6.get hy
      have tpm := tpb.trans (STup.of sm)
      refine ⟨t, _, rfl, SqT.of (tpm _ _ ht), rfl, _, _, rfl, _, _, rfl, rfl, rfl, _, rfl, _, rfl, _, _, .tup (SqT.of (tpm _ _ hpa)) (dpI (iN x.1)), .tup (SqT.of (sm _ _ hcp)) (dpI path), shapedI _, shapedI _, _, rfl, ?_⟩
      have eq : PyData.eqv (.tuple (dataI (iN x.1))) (.tuple (dataI path)) = decide (iN x.1 = path) := eqvI _ _
      rw [eq]
      by_cases ep : iN x.1 = path
      · refine iteU (decide_eq_true ep) ⟨_, rfl, acc, hD, Nat.lt_of_le_of_lt (show acc.length ≤ 1000 by omega) (by decide), same_in nD sm, acc ++ [rv], upd_same, by rw [List.length_append]; exact Nat.succ_le_succ la, fun v hv => ?_, fun e => by simp at e⟩
        rcases List.mem_append.mp hv with g | g
        · exact h1 v g
        · rw [List.mem_singleton.mp g]
          exact ⟨x, List.mem_of_getElem? hxj, ep, hrv⟩
      · refine iteD (decide_eq_false ep) ⟨sm, acc, hD, Nat.le_succ_of_le la, h1, fun e k x' hk hx' => ?_⟩
        rcases Nat.lt_succ_iff_lt_or_eq.mp hk with g | rfl
        · exact h2 e k x' g hx'
        · rw [hxj] at hx'
          cases hx'
          exact ep
    obtain ⟨sc, acc, hD, la, h1, h2⟩ := hP
    have tpc := tpb.trans (STup.of sc)
    obtain ⟨nc, hnc⟩ := id xb.2
    have xc : StL L H6 Hc := ⟨fun b o nb e => sc _ _ (xb.1 _ _ nb e), _, sc _ _ hnc⟩
    have hnc2 := sc _ _ hnc
    have lam : acc.length ≤ 1000 := by omega
    have stay : ∀ Hd : Hp, Same Hc Hd → StL L H6 Hd := fun Hd sd => ⟨fun b o nb e => sd _ _ (xc.1 _ _ nb e), _, sd _ _ hnc2⟩
    refine ⟨_, rfl, _, rfl, st, cp, _, hv, h, path, rfl, xc.1 _ _ stL hst6, hR6.mono tpc, by omega, sc _ _ hcp, fun q1 v1 hq1 hv1 => ?_, fun hq1 => ?_⟩
    · obtain ⟨l, el, hrl⟩ := rowI_some hq1
      have hin : (l, q1) ∈ ptR [] h := by
        have := ptR_at (pre := []) hrl
        rw [List.nil_append] at this
        exact this
      cases acc with
      | nil =>
        obtain ⟨k, hk⟩ := List.getElem?_of_mem hin
        have hlt := (List.getElem?_eq_some_iff.mp hk).1
        exact absurd el.symm (h2 rfl k _ (by omega) hk)
      | cons v0 acc =>
        obtain ⟨x', hx', ex', hr'⟩ := h1 v0 List.mem_cons_self
        have e1 : x'.1 = l := iN_inj (ex'.trans el)
        have e2 := ptR_mem hx'
        rw [e1, hrl] at e2
        cases e2
        refine ⟨_, rfl, (show 1 ≤ sizeLine by decide), fun l1 nl1 => ?_⟩
        refine ⟨D, l1, _, [.non], rfl, rfl, kn hD nl1, upd_same, small (by rw [List.length_singleton]; omega), fun c2 nc2 => ?_⟩
        have sd := (same_new (o := HO.lst [.non]) nl1).trans (same_new (o := HO.lst ((v0 :: acc) ++ [.non])) nc2)
        refine ⟨c2, _, 0, v0, rfl, rfl, SqL.of upd_same, atI_nat (j := 0) rfl, ?_⟩
        refine ⟨_, _, (hv1.mono (STup.of sd)).dp, (hr'.mono (tpc.trans (STup.of sd))).dp, shq x' hx', shq x' hx', _, rfl, iteD (by rw [eqq x' hx']; rfl) ⟨stay _ sd, _, _, _, rfl⟩⟩
    · have ea : acc = [] := by
        cases acc with
        | nil => rfl
        | cons v0 acc =>
          obtain ⟨x', hx', ex', hr'⟩ := h1 v0 List.mem_cons_self
          rw [← ex', rwq x' hx'] at hq1
          cases hq1
      subst ea
      refine ⟨_, rfl, (show 1 ≤ sizeLine by decide), fun l1 nl1 => ?_⟩
      refine ⟨D, l1, _, [.non], rfl, rfl, kn hD nl1, upd_same, small (by decide), fun c2 nc2 => ?_⟩
      have sd := (same_new (o := HO.lst [.non]) nl1).trans (same_new (o := HO.lst ([] ++ [.non])) nc2)
      refine ⟨c2, _, 0, .non, rfl, rfl, SqL.of upd_same, atI_nat (j := 0) rfl, ?_⟩
      exact ⟨_, _, .non, .non, rfl, rfl, _, rfl, iteD rfl ⟨stay _ sd, _, _, _, rfl⟩⟩
  obtain ⟨x2, s3, s7, s8, rfl⟩ := hP
  obtain ⟨n2, hn2⟩ := id x2.2
  have tp2 : STup H6 H2 := fun a xs e => x2.1 _ _ (fun z => by rw [z, hL6] at e; cases e) e
  have hpq2 := x2.1 _ _ pqL hpq6
  have hst2 := x2.1 _ _ stL hst6
  have hR2 := hR6.mono tp2
  have hal2 := hal6.imp (PthAt.tup tp2)
  have x02 := x06.trans x2
  clear x06 x2 tp2 hal6 hpq6 hst6 hR6
  -- none beyond
  refine ⟨_, rfl, 8, rfl, pq, _, rfl, SqL.of hpq2, fun c nc => ?_⟩
  have s23 : Same H2 (upd H2 c (.lst (cutV vs none (some 8)))) := same_new nc
  refine ⟨c, rfl, ⟨_, SqL.of upd_same⟩, fun D nD => lc_it (walk_list (xs := cutV vs none (some 8))) (fun j H' => Same (upd H2 c (.lst (cutV vs none (some 8)))) H' ∧ H' D = some (.lst [])) ⟨same_new nD, upd_same⟩ (fun j H' _ hP => SqL.of (hP.1 _ _ upd_same)) (fun j y H8 H9 hj hP hY => ?_) (fun H8 hP => ?_)⟩
  · obtain ⟨rfl, hy⟩ := hY
    obtain ⟨sm, hD⟩ := hP
    have hym : y ∈ vs := by
      have g := List.mem_of_getElem? hy
      unfold cutV at g
      exact List.mem_of_mem_drop (List.mem_of_mem_take g)
    obtain ⟨x, hx, t, pa, rv, rfl, ht, hpa, hrv⟩ := hal2.mem hym
    have ptd : x.1.length ≤ deepR h := by
      have := row_deep (ptR_mem hx)
      omega
    have sm2 := s23.trans sm
    refine ⟨t, _, rfl, SqT.of (sm2 _ _ ht), rfl, _, _, rfl, _, _, rfl, rfl, rfl, _, rfl, _, rfl, 1, rfl, (show 1 ≤ sizeLine by decide), fun t1 nt1 => ?_⟩
    refine ⟨pa, t1, _, [.int (-1)], rfl, rfl, kn (sm2 _ _ hpa) nt1, upd_same, (by rw [vN_len]; show x.1.length + 1 ≤ 1000; omega), fun H3 c3 s3' hc3 => ?_⟩
    have s93 := (same_new (o := HO.tup [.int (-1)]) nt1).trans s3'
    have hc3' : H3 c3 = some (.tup ((iN x.1 ++ [-1]).map V.int)) := by rw [hc3, List.map_append]; rfl
    have nor := rowI_neg h (iN x.1) (i := -1) (by decide)
    refine ⟨st, c3, _, hv, h, iN x.1 ++ [-1], rfl, (sm2.trans s93) _ _ hst2, hR2.mono (STup.of (sm2.trans s93)), by omega, hc3', fun q1 v1 hq1 hv1 => ?_, fun hq1 => ?_⟩
    · rw [nor] at hq1
      cases hq1
    · exact ⟨_, rfl, iteD rfl ⟨sm.trans s93, s93 _ _ hD⟩⟩
  obtain ⟨s8', hD8⟩ := hP
  refine ⟨(show 0 ≤ sizeLine by decide), fun e1 ne1 => ?_⟩
  refine ⟨_, _, .lst (SqL.of (kn hD8 ne1)) .nil, .lst (SqL.of upd_same) .nil, nil_shaped, nil_shaped, _, rfl, iteD (by rw [eqv_nil]; rfl) ?_⟩
  have s24 := (s23.trans s8').trans (same_new (o := HO.lst []) ne1)
  generalize upd H8 e1 (.lst []) = H4 at *
  refine ⟨_, rfl, 1, rfl, (show 1 ≤ sizeLine by decide), fun t1 nt1 => ?_⟩
  have s25 := s24.trans (same_new (o := HO.tup [.int (-1)]) nt1)
  refine ⟨st, t1, _, hv, h, [-1], rfl, s25 _ _ hst2, hR2.mono (STup.of s25), by omega, upd_same, fun q1 v1 hq1 hv1 => ?_, fun hq1 => ?_⟩
  · have := rowI_neg h [] (i := -1) (by decide)
    rw [List.nil_append] at this
    rw [this] at hq1
    cases hq1
  refine ⟨_, rfl, iteU rfl ?_⟩
  obtain ⟨ha, hxs, rfl, hha, hhp⟩ := id hR2
  have lhx := PartsAt.len hhp
  refine ⟨_, rfl, _, rfl, st, _, 1, _, rfl, rfl, SqT.of (s25 _ _ hst2), atI_nat (j := 1) rfl, ha, hxs, rfl, .inr (SqT.of (s25 _ _ hha)), (show 1 ≤ sizeLine by decide), fun t2 nt2 => ?_⟩
  have s26 := s25.trans (same_new (o := HO.tup [.int (hxs.length : Nat)]) nt2)
  refine ⟨st, t2, _, .ref ha, h, [(hxs.length : Int)], rfl, s26 _ _ hst2, hR2.mono (STup.of s26), by omega, upd_same, fun q1 v1 hq1 hv1 => ?_, fun hq1 => ?_⟩
  · rw [rowI_far h (by omega)] at hq1
    cases hq1
  exact q _ ⟨fun b o nb e => s26 _ _ (x02.1 _ _ nb e), _, s26 _ _ hn2⟩
end
end K19

set_option Elab.async false
set_option linter.all false
set_option maxRecDepth 100000
set_option maxHeartbeats 400000
namespace K19
open PySem PySem.Spec PyProof.Rows L2 Wk GxR
abbrev sLively : Stmt := topS 64
abbrev psLv : List Str := ["_law_left_here", "_law_scope", "_law_spare"]
theorem scLively : FnScope ["_law_left_here", "_law_scope", "_law_spare", "_law_house", "_law_turn"] psLv (defScope sLively) := ⟨rfl, rfl, rfl, by decide +kernel, rfl, by decide +kernel, by decide +kernel⟩
section
variable {P : Program} {w : World} {K : PySem.W.Frag} {mg : Str → Option Value} {base : Heap}
theorem ok_lively {f fD fR : Addr} {fd fdD fdR : FuncData} (F : Fun K "_law_lively" "_law_lively" sLively f fd) (GD : FnOk P w K mg base CX0 1 fD fdD ["_law_left_here", "_law_many"] spDigit) (bD : Binds K fdD ["_law_left_here", "_law_many"] []) (kD : PySem.W.keepIn K (.ref fD) = true)
    (mD : mg "_law_digit" = some (.ref fD)) (mr : mg "range" = none) (GR : FnOk P w K mg base CX0 11 fR fdR ps4 (spRow 5)) (bR : Binds K fdR ps4 []) (kR : PySem.W.keepIn K (.ref fR) = true) (mR : mg "_law_row" = some (.ref fR)) :
    FnOk P w K mg base CX0 12 f fd psLv spLively := by
  refine F.ok scLively (fun vs H Q E h => ?_) (fun cdv A outer s H vs Q E hr h => ?_)
  · obtain ⟨_, _, _, _, _, _, rfl, _⟩ := h
    rfl
  obtain ⟨L, S, A0, nL, ss, sp, rfl, ag, q⟩ := h
  have r1 : Room 1 _ := hr.mono (by omega)
  refine ⟨_, pss_cons (ps_set (i := 3) scLively.nd rfl (.inl rfl) (pe_tup pa_nil))
    (pss_cons (ps_for PassesOwn.never rfl (pi_range1 rfl mr (pa_cons (pe_op op_add pe_int (pe_call GD r1 (by rfl) mD kD bD .nil pass0 (pa_cons (pv 0) (pa_cons pe_int pa_nil)))) pa_nil)) (pg_name (i := 4) scLively.nd rfl (.inl rfl))
      (pss_one (ps_set (i := 3) scLively.nd rfl (.inl rfl) (pe_op op_catM (pv 3) (pe_call GR hr (by rfl) mR kR bR .nil pass0 (pa_cons (pv 0) (pa_cons pe_int (pa_cons (pv 1) (pa_cons (pv 2) pa_nil)))))))))
    (pss_one (ps_ret (pv 3)))), ?_⟩
  refine ⟨(show 0 ≤ sizeLine by decide), fun p0 np0 => ?_⟩
  have x1 := (StG.refl ag.hL ag.hS).new (o := .tup []) np0
  obtain ⟨n1, hn1⟩ := x1.2.1
  have lss := ag.len
  refine ⟨_, rfl, L, n1, 3, rfl, hn1, by decide, by decide, fun d n2 d0 d1 => ?_⟩
  have x2 := x1.put n2
  have p0L : p0 ≠ L := Ne.symm (ne_of_none ag.hL np0)
  have hp2 : upd (upd H p0 (.tup [])) L (.lst [.int n2]) p0 = some (.tup []) := by rw [upd_ne p0L, upd_same]
  refine ⟨_, _, rfl, rfl, 2 + d, rfl, by omega, by omega, for_range (n := (2 + d).toNat) (lo := 0) (fun i σ H' => ∃ (sp' : List Str) (rv : V) (r : List Part), StG L S H H' sp' ∧ RowAt H' r rv ∧ Dr 4 (66 * i) ss sp sp' r ∧ (∀ p ∈ r, sizeP p ≤ 66) ∧
      ∃ s4 : Option V, σ = [some (.ref L), some (.ref A0), some (.ref S), some rv, s4]) ⟨sp, .ref p0, [], x2, ⟨p0, [], rfl, hp2, rfl⟩, Dr.nil.up (by decide) (by decide), fun p hp => (nomatch hp), _, rfl⟩ (fun i σ H' hi hP => ?_) fun σ H' hP => ?_⟩
  · obtain ⟨sp', rv, r, x3, hR, dr, hz, s4, rfl⟩ := hP
    obtain ⟨n3, ag3⟩ := ag.step x3 dr.sub
    refine ⟨_, rfl, _, rfl, _, rfl, _, rfl, L, S, A0, n3, 3, ss, sp', ⟨rfl, ag3.hL, ag3.hS, ag3.hA, ag3.AL, ag3.AS, ag3.ne, by omega, ag3.sh⟩, by decide, fun H4 v sp2 q0 x4 hq hG => ?_⟩
    have st4 := x4.tup ag3.hL ag3.hS
    have dq : Dr 4 66 ss sp' sp2 q0 := (Dr.of hG).up (Nat.le_refl _) (by decide)
    have da := (dr.app dq).up (D' := 4) (Z' := 66 * (i + 1)) (by decide) (by omega)
    obtain ⟨a, xs, rfl, ha, hxs⟩ := hR.mono st4
    obtain ⟨b, ys, rfl, hb, hys⟩ := hq
    have lx := PartsAt.len hxs
    have ly := PartsAt.len hys
    have lr1 := len_sizeR r
    have lr2 := len_sizeR q0
    have z1 := dr.size
    have z2 := dq.size
    refine ⟨a, b, xs, ys, rfl, rfl, ha, hb, by omega, fun H5 c s5 hc => ?_⟩
    refine ⟨sp2, .ref c, r ++ q0, (x3.trans x4).sm s5, ⟨c, _, rfl, hc, PartsAt.app (PartsAt.mono (STup.of s5) _ _ hys) (PartsAt.mono (STup.of s5) _ _ hxs)⟩, da, fun p hp => ?_, _, rfl⟩
    rcases List.mem_append.mp hp with h | h
    · exact hz p h
    · exact Nat.le_trans (sizeR.mem p h) z2
  · obtain ⟨sp', rv, r, x3, hR, dr, hz, s4, rfl⟩ := hP
    exact ⟨_, rfl, q H' rv sp' r x3 hR (dr.up (Nat.le_refl _) (by omega)) hz⟩
end
end K19

set_option Elab.async false
set_option linter.all false
set_option maxRecDepth 100000
set_option maxHeartbeats 400000
namespace K19
open PySem PySem.Spec PyProof.Rows L2 Wk GxR
abbrev sMoved : Stmt := topS 55
abbrev sDone : Stmt := topS 54
abbrev psSS : List Str := ["stand", "step"]
theorem scMoved : FnScope ["stand", "step", "row", "move", "places"] psSS (defScope sMoved) := ⟨rfl, rfl, rfl, by decide +kernel, rfl, by decide +kernel, by decide +kernel⟩
theorem scDone : FnScope ["stand", "step", "moved", "number", "row"] psSS (defScope sDone) := ⟨rfl, rfl, rfl, by decide +kernel, rfl, by decide +kernel, by decide +kernel⟩
section
variable {P : Program} {w : World} {K : PySem.W.Frag} {mg : Str → Option Value} {base : Heap} {Ts : List Addr}
theorem ok_movedG {f fS fR fA dM : Addr} {fd fdS fdR fdA : FuncData} {k ar : Nat} {wd : Str} {psX : List Str} {Ok : MvP} (F : Fun K "moved_row" "moved_row" sMoved f fd) (hz : stSz wd = some (ar + 2)) (har : 0 < ar)
    (GS : FnOk P w K mg base CX0 4 fS fdS ["thing"] (spStForm Ts)) (bS : Binds K fdS ["thing"] []) (kS : PySem.W.keepIn K (.ref fS) = true) (mS : mg "has_step_form" = some (.ref fS))
    (GR : FnOk P w K mg base CX0 2 fR fdR ["stand", "path"] spRowAt) (bR : Binds K fdR ["stand", "path"] []) (kR : PySem.W.keepIn K (.ref fR) = true) (mR : mg "row_at" = some (.ref fR))
    (GA : FnOk P w K mg base CX0 (k + 4) fA fdA psX (spMvG Ok)) (bA : Binds K fdA psX []) (kA : PySem.W.keepIn K (.ref fA) = true)
    (mM : mg "MOVES" = some (.ref dM)) (hM : KDct K w dM wd (.ref fA)) :
    FnOk P w K mg base CX0 (k + 5) f fd psSS (spMovedG Ts wd ar Ok) := by
  refine F.ok scMoved (fun vs H Q E h => ?_) (fun cdv A outer s H vs Q E hr h => ?_)
  · obtain ⟨_, _, _, _, _, _, _, _, _, rfl, _⟩ := h
    rfl
  obtain ⟨s0, t0, m, rv, r, q0, path, pl, o, rfl, hs, hR, lr, hx, hpl, hrow, lq0, ok, tg, q⟩ := h
  refine ⟨_, pss_cons (ps_if (pt_not (pt_val (pe_call GS (hr.mono (by omega)) (by rfl) mS kS bS .nil pass0 (pa_cons (pv 1) pa_nil)))) (pss_one (ps_ret pe_non)) pss_nil)
    (pss_cons (ps_set (i := 2) scMoved.nd rfl (.inl rfl) (pe_call GR (hr.mono (by omega)) (by rfl) mR kR bR .nil pass0 (pa_cons (pv 0) (pa_cons (pe_ix ix_tup (pv 1) pe_int (fun _ _ => rfl)) pa_nil))))
    (pss_cons (ps_if (pt_cmp (pc_isN (pv 2))) (pss_one (ps_ret pe_non)) pss_nil)
    (pss_cons (ps_set (i := 3) scMoved.nd rfl (.inl rfl) (pe_ix ix_kdict (pe_glob (v := .ref dM) (by rfl) mM rfl) (pe_ix ix_tup (pv 1) pe_int (fun _ _ => rfl)) (fun _ _ => rfl)))
    (pss_cons (ps_set (i := 4) scMoved.nd rfl (.inl rfl) (pe_slice sl_tupS (pv 1) (po_some pe_int) po_none))
    (pss_one (ps_ret (pe_callLS (i := 3) GA hr rfl (.inl rfl) kA bA .nil pass0 (pa_cons (pe_ix ix_tup (pv 0) pe_int (fun _ _ => rfl)) (pa_cons (pv 2) (pa_star (pv 4) pa_nil)))))))))), ?_⟩
  refine ⟨_, rfl, _, ⟨wd, path, pl⟩, rfl, hx, (show stSz wd = some (pl.length + 2) by rw [hpl]; exact hz), tg, fun H1 s1 => ⟨_, rfl, iteF ?_⟩⟩
  have hx1 := hx.tup (s1.tup tg)
  obtain ⟨t', pa, e, ht, hpa⟩ := hx1
  cases e
  have hs1 := s1.tup tg _ _ hs
  have hR1 := hR.mono (s1.tup tg)
  refine ⟨_, rfl, _, rfl, t0, _, 1, _, rfl, rfl, SqT.of ht, atI_nat (j := 1) rfl, s0, pa, (m : Nat), rv, r, path, rfl, hs1, hR1, lr, hpa, fun q2 u e2 hu => ?_, fun e2 => by rw [hrow] at e2; cases e2⟩
  rw [hrow] at e2
  cases e2
  obtain ⟨a, xs, rfl, ha, hps⟩ := hu
  refine ⟨_, rfl, _, rfl, iteF ?_⟩
  refine ⟨_, rfl, t0, _, 0, _, rfl, rfl, SqT.of ht, atI_nat (j := 0) rfl, dM, wd, .ref fA, rfl, rfl, hM, ?_⟩
  refine ⟨_, rfl, 2, rfl, t0, _, rfl, ht, ?_, fun H2 c2 s2 hc2 => ?_⟩
  · rw [show (2 : Int) = ((2 : Nat) : Int) from rfl, HT.sIx_nat]
    simp only [List.length_cons, vN_len]
    rintro ⟨z, _⟩
    omega
  rw [show (2 : Int) = ((2 : Nat) : Int) from rfl, cutOff (by simp only [List.length_cons]; omega)] at hc2
  refine ⟨rfl, _, rfl, s0, _, 0, _, rfl, rfl, SqT.of (s2 _ _ hs1), atI_nat (j := 0) rfl, _, rfl, _, rfl, c2, _, rfl, SqT.of hc2, ?_⟩
  refine ⟨m, .ref a, q0, pl, o, ?_, ⟨a, xs, rfl, s2 _ _ ha, PartsAt.mono (STup.of s2) _ _ hps⟩, lq0, ok, fun H3 u s3 hu => q H3 u ((s1.sm s2).sm s3) hu⟩
  show V.int (m : Nat) :: V.ref a :: ((vN pl) ++ []) ++ [] = _
  rw [List.append_nil, List.append_nil]
theorem ok_doneG {f fM fW : Addr} {fd fdM fdW : FuncData} {k ar : Nat} {wd : Str} {Ok : MvP} (F : Fun K "step_done" "step_done" sDone f fd)
    (GM : FnOk P w K mg base CX0 (k + 21) fM fdM psSS (spMovedG Ts wd ar Ok)) (bM : Binds K fdM psSS []) (kM : PySem.W.keepIn K (.ref fM) = true) (mM : mg "moved_row" = some (.ref fM))
    (GW : FnOk P w K mg base CX0 21 fW fdW psPu (spPutAt 20)) (bW : Binds K fdW psPu []) (kW : PySem.W.keepIn K (.ref fW) = true) (mW : mg "with_row_at" = some (.ref fW)) :
    FnOk P w K mg base CX0 (k + 22) f fd psSS (spDoneG Ts wd ar Ok) := by
  refine F.ok scDone (fun vs H Q E h => ?_) (fun cdv A outer s H vs Q E hr h => ?_)
  · obtain ⟨_, _, _, _, _, _, _, _, _, rfl, _⟩ := h
    rfl
  obtain ⟨s0, t0, m, rv, r, q0, path, pl, o, rfl, hs, hR, lr, hx, hpl, lp, hrow, lq0, ok, tg, q⟩ := h
  refine ⟨_, pss_cons (ps_set (i := 2) scDone.nd rfl (.inl rfl) (pe_call GM hr (by rfl) mM kM bM .nil pass0 (pa_cons (pv 0) (pa_cons (pv 1) pa_nil))))
    (pss_cons (ps_if (pt_cmp (pc_isN (pv 2))) (pss_one Wk.ps_never) pss_nil)
    (pss_cons (ps_asg (pv 2) (pg_tup rfl (pgs_cons (pg_name (i := 3) scDone.nd rfl (.inl rfl)) (pgs_cons (pg_name (i := 4) scDone.nd rfl (.inl rfl)) pgs_nil))))
    (pss_one (ps_ret (pe_tup (pa_cons (pv 3) (pa_cons (pe_call GW (hr.mono (by omega)) (by rfl) mW kW bW .nil pass0 (pa_cons (pe_ix ix_tup (pv 0) pe_int (fun _ _ => rfl)) (pa_cons (pe_ix ix_tup (pv 1) pe_int (fun _ _ => rfl)) (pa_cons (pv 4) pa_nil)))) pa_nil))))))), ?_⟩
  refine ⟨_, rfl, _, rfl, s0, t0, m, rv, r, q0, path, pl, o, rfl, hs, hR, lr, hx, hpl, hrow, lq0, ok, tg, fun H1 u s1 hu => ?_⟩
  obtain ⟨t, ru, rfl, ht, hru⟩ := hu
  have st1 := s1.tup tg
  obtain ⟨t', pa, e, hx1, hpa⟩ := hx.tup st1
  cases e
  refine ⟨_, rfl, _, rfl, iteF ?_⟩
  refine ⟨_, rfl, t, _, rfl, SqT.of ht, rfl, _, _, rfl, _, _, rfl, rfl, ?_⟩
  refine ⟨_, rfl, _, rfl, s0, _, 1, _, rfl, rfl, SqT.of (st1 _ _ hs), atI_nat (j := 1) rfl, _, rfl, t0, _, 1, _, rfl, rfl, SqT.of hx1, atI_nat (j := 1) rfl, _, rfl, rv, ru, r, _, pa, path, rfl, hR.mono st1, lr, hpa, lp, by omega, by rw [hrow]; rfl, hru, fun H2 u2 s2 hu2 => ?_⟩
  refine ⟨(show 2 ≤ sizeLine by decide), fun t3 nt3 => ?_⟩
  exact q _ _ ((s1.sm s2).new nt3) ⟨t3, u2, rfl, upd_same, hu2.mono (STup.new nt3)⟩
end
end K19

set_option Elab.async false
set_option linter.all false
set_option maxRecDepth 100000
set_option maxHeartbeats 400000
namespace K19
open PySem PySem.Spec PyProof.Rows L2 Wk GxR
abbrev sLaw : Stmt := topS 68
abbrev nmLaw : List Str := ["_law_script", "_law_cell", "_law_left_here", "_law_names_here", "_law_stand", "_law_turn", "_law_some"]
theorem scLaw : FnScope nmLaw ["_law_script"] (defScope sLaw) := ⟨rfl, rfl, rfl, by decide +kernel, rfl, by decide +kernel, by decide +kernel⟩
def spLaw (K : PySem.W.Frag) (Ts : List Addr) : Sp := fun vs H Q _ => ∃ (a : Addr) (ns : List Int), vs = [.ref a] ∧ SqL K H a (ns.map V.int) ∧ ns.length ≤ 63 ∧ TabsG Ts H ∧ ∀ H', Q (.bl true) H'
section
variable {P : Program} {w : World} {K : PySem.W.Frag} {mg : Str → Option Value} {base : Heap} {Ts : List Addr}
theorem ok_law {f f1 f2 f3 fV fS fR fT fD : Addr} {fd d1 d2 d3 dV dS dR dT dD : FuncData} (F : Fun K "law" "law" sLaw f fd)
    (G1 : FnOk P w K mg base CX0 1 f1 d1 ["_law_cell"] spLeft) (b1 : Binds K d1 ["_law_cell"] []) (k1 : PySem.W.keepIn K (.ref f1) = true) (m1 : mg "_law_left" = some (.ref f1))
    (G2 : FnOk P w K mg base CX0 1 f2 d2 psLw spDigit) (b2 : Binds K d2 psLw []) (k2 : PySem.W.keepIn K (.ref f2) = true) (m2 : mg "_law_digit" = some (.ref f2))
    (G3 : FnOk P w K mg base CX0 2 f3 d3 psLw spNames) (b3 : Binds K d3 psLw []) (k3 : PySem.W.keepIn K (.ref f3) = true) (m3 : mg "_law_names" = some (.ref f3))
    (GV : FnOk P w K mg base CX0 12 fV dV psLv spLively) (bV : Binds K dV psLv []) (kV : PySem.W.keepIn K (.ref fV) = true) (mV : mg "_law_lively" = some (.ref fV))
    (GS : FnOk P w K mg base CX0 36 fS dS ["house"] (spSettled Ts 6)) (bS : Binds K dS ["house"] []) (kS : PySem.W.keepIn K (.ref fS) = true) (mS : mg "settled" = some (.ref fS))
    (GR : FnOk P w K mg base CX0 25 fR dR psRi spRight19) (bR : Binds K dR psRi []) (kR : PySem.W.keepIn K (.ref fR) = true) (mR : mg "_law_right" = some (.ref fR))
    (GT : FnOk P w K mg base CX0 24 fT dT ["stand"] spSteps) (bT : Binds K dT ["stand"] []) (kT : PySem.W.keepIn K (.ref fT) = true) (mT : mg "steps_of" = some (.ref fT))
    (GD : FnOk P w K mg base CX0 33 fD dD psSS (spDoneA Ts)) (bD : Binds K dD psSS []) (kD : PySem.W.keepIn K (.ref fD) = true) (mD : mg "step_done" = some (.ref fD))
    (ml : mg "len" = none) (mr : mg "range" = none) :
    FnOk P w K mg base CX0 37 f fd ["_law_script"] (spLaw K Ts) := by
  refine F.ok scLaw (fun vs H Q E h => ?_) (fun cdv A outer s H vs Q E hr h => ?_)
  · obtain ⟨a, ns, rfl, _⟩ := h
    rfl
  obtain ⟨a, ns, rfl, hS, hlen, tg, q⟩ := h
  refine ⟨_, (pss_cons (ps_for PassesOwn.never rfl (pi_list (pe_op op_cat (pe_slice sl_list (pv 0) po_none (po_some pe_int)) (pe_lst (pa_cons pe_int pa_nil)))) (pg_name (i := 1) scLaw.nd rfl (.inl rfl)) (pss_cons (ps_set (i := 2) scLaw.nd rfl (.inl rfl) (pe_call G1 (hr.mono (by decide)) (by rfl) m1 k1 b1 .nil pass0 (pa_cons (pv 1) pa_nil)))
    (pss_cons (ps_set (i := 3) scLaw.nd rfl (.inl rfl) (pe_call G3 (hr.mono (by decide)) (by rfl) m3 k3 b3 .nil pass0 (pa_cons (pv 2) (pa_cons pe_int pa_nil))))
    (pss_cons (ps_set (i := 4) scLaw.nd rfl (.inl rfl) (pe_call GS (hr.mono (by decide)) (by rfl) mS kS bS .nil pass0 (pa_cons (pe_call GV (hr.mono (by decide)) (by rfl) mV kV bV .nil pass0 (pa_cons (pv 2) (pa_cons (pe_slice sl_list (pv 3) po_none (po_some (pe_op op_add pe_int (pe_call G2 (hr.mono (by decide)) (by rfl) m2 k2 b2 .nil pass0 (pa_cons (pv 2) (pa_cons pe_int pa_nil)))))) (pa_cons (pe_slice sl_list (pv 3) (po_some pe_int) po_none) pa_nil)))) pa_nil)))
    (pss_one (ps_for PassesOwn.never rfl (pi_range1 rfl mr (pa_cons pe_int pa_nil)) (pg_name (i := 5) scLaw.nd rfl (.inl rfl)) (pss_cons (ps_if (pt_not (pt_val (pe_call GR (hr.mono (by decide)) (by rfl) mR kR bR .nil pass0 (pa_cons (pv 4) (pa_cons (pv 2) pa_nil))))) (pss_one (ps_ret pe_bl)) pss_nil)
    (pss_cons (ps_set (i := 6) scLaw.nd rfl (.inl rfl) (pe_call GT (hr.mono (by decide)) (by rfl) mT kT bT .nil pass0 (pa_cons (pv 4) pa_nil)))
    (pss_one (ps_if (pt_cmpR (op_neD hr.units) (pv 6) (pe_lst pa_nil) (nomark _)) (pss_one (ps_set (i := 4) scLaw.nd rfl (.inl rfl) (pe_call GD (hr.mono (by decide)) (by rfl) mD kD bD .nil pass0 (pa_cons (pv 4) (pa_cons (pe_ix ix_list (pv 6) (pe_call G2 (hr.mono (by decide)) (by rfl) m2 k2 b2 .nil pass0 (pa_cons (pv 2) (pa_cons (pe_callB call_len_seq (by rfl) ml PySem.boot_len (pa_cons (pv 6) pa_nil)) pa_nil))) (fun _ _ => rfl)) pa_nil))))) pss_nil))))))))))
    (pss_one (ps_ret pe_bl))), ?_⟩
  refine ⟨.ref a, rfl, 6, rfl, a, ns.map V.int, rfl, hS, fun c nc => ?_⟩
  refine ⟨(show 1 ≤ sizeLine by decide), fun c2 nc2 => ?_⟩
  have hc2 : upd (upd H c (.lst (cutV (ns.map V.int) none (some 6)))) c2 (.lst [.int 4]) c = some (.lst (cutV (ns.map V.int) none (some 6))) := kn upd_same nc2
  have hl := cut_len (ns := ns) (lo := none) (hi := some 6) hlen
  refine ⟨c, c2, _, _, rfl, rfl, hc2, upd_same, small (by rw [List.length_singleton]; omega), fun p np => ?_⟩
  have allI : ∀ v ∈ cutV (ns.map V.int) none (some 6) ++ [V.int 4], ∃ i : Int, v = .int i := fun v hv => by
    rcases List.mem_append.mp hv with g | g
    · exact cut_ints v g
    · exact ⟨4, List.mem_singleton.mp g⟩
  have tg4 := TabsG.new (o := .lst (cutV (ns.map V.int) none (some 6) ++ [V.int 4])) (TabsG.new (o := .lst [.int 4]) (TabsG.new (o := .lst (cutV (ns.map V.int) none (some 6))) tg nc) nc2) np
  generalize cutV (ns.map V.int) none (some 6) ++ [V.int 4] = items at *
  refine ⟨p, rfl, ⟨_, SqL.of upd_same⟩, for_it (walk_list (xs := items))
    (fun _ σ H' => H' p = some (.lst items) ∧ TabsG Ts H' ∧ ∃ s1 s2 s3 s4 s5 s6 : Option V, σ = [some (.ref a), s1, s2, s3, s4, s5, s6])
    ⟨upd_same, tg4, _, _, _, _, _, _, rfl⟩ (fun i σ H' _ hP => SqL.of hP.1) (fun i x σ H1 H2 hi hP hY => ?_) (fun σ H' hP => q _)⟩
  obtain ⟨hp, tg5, s1, s2, s3, s4, s5, s6, rfl⟩ := hP
  obtain ⟨rfl, hx⟩ := hY
  obtain ⟨j, rfl⟩ := allI x (List.mem_of_getElem? hx)
  clear tg4 tg hc2 hS
  -- the digits and the names
  refine ⟨_, rfl, j, rfl, fun L n0 nL => ?_⟩
  have pL : p ≠ L := ne_of_none hp nL
  have tgL : TabsG Ts (upd H2 L (.lst [.int n0])) := tg5.new nL
  have hL : upd H2 L (.lst [.int n0]) L = some (.lst [.int n0]) := upd_same
  have hp0 : upd H2 L (.lst [.int n0]) p = some (.lst items) := kn hp nL
  have pT : p ∉ Ts := fun z => tg5.outL hp z
  clear tg5 hp nL
  generalize upd H2 L (.lst [.int n0]) = H0 at *
  refine ⟨_, rfl, L, n0, 13, rfl, hL, by decide, fun H1 pn s0 zs x1 npn hzs hlz hs26 hnm => ?_⟩
  have kp1 := KpL.left tgL hL x1
  obtain ⟨n1, hn1⟩ := x1.2
  have pnL : pn ≠ L := Ne.symm (ne_of_none hL npn)
  refine ⟨_, rfl, _, rfl, _, rfl, L, n1, 4, rfl, hn1, by decide, by decide, fun d n2 d0 d1 => ?_⟩
  have x2 := x1.trans (StL.put (H := H1) (L := L) n2)
  have kp2 := KpL.left tgL hL x2
  have hzs2 : upd H1 L (.lst [.int n2]) pn = some (.lst (zs.map V.str)) := by rw [upd_ne pnL]; exact hzs
  have hL2 : upd H1 L (.lst [.int n2]) L = some (.lst [.int n2]) := upd_same
  clear x1 kp1 hzs hn1
  generalize upd H1 L (.lst [.int n2]) = H2' at *
  obtain ⟨c', ec, c1, c3⟩ : ∃ c' : Nat, 2 + d = (c' : Int) ∧ 1 ≤ c' ∧ c' ≤ 5 := ⟨2 + d.toNat, by omega, by omega, by omega⟩
  refine ⟨_, _, rfl, rfl, 2 + d, rfl, pn, _, rfl, SqL.of hzs2, fun A0 nA0 => ?_⟩
  rw [ec, cut_to (k := c') (by omega)]
  refine ⟨_, rfl, 5, rfl, pn, _, rfl, SqL.of (kn hzs2 nA0), fun S nS => ?_⟩
  rw [show (5 : Int) = ((5 : Nat) : Int) from rfl, cut_off (i := 5) (by omega)]
  have s24 := (same_new (o := HO.lst ((zs.take c').map V.str)) nA0).trans (same_new (o := HO.lst ((zs.drop 5).map V.str)) nS)
  have kp4 := kp2.same s24
  have nSH : H0 S = none := by
    cases e : H0 S with
    | none => rfl
    | some o =>
      by_cases eL : S = L
      · rw [eL, kn hL2 nA0] at nS; cases nS
      · rw [kn (x2.1 S o eL e) nA0] at nS; cases nS
  have shz := names_sh hnm
  have lss : (zs.take c').length = c' := by rw [List.length_take]; omega
  have ag4 : SArg _ L S A0 n2 (zs.take c') (zs.drop 5) := ⟨s24 _ _ hL2, upd_same, kn upd_same nS, Ne.symm (ne_of_none hL2 nA0), ne_of_none upd_same nS, (fun e => by rw [e] at lss; simp at lss; omega), by omega, fun z hz => shz z (List.mem_of_mem_drop hz)⟩
  have hsub : ∀ x ∈ zs.take c', x ∈ zs.take 5 := fun x hx => List.take_subset_take_left zs (by omega) hx
  clear nA0 nS hzs2 hL2 x2 kp2 s24
  generalize upd (upd H2' A0 (.lst ((zs.take c').map V.str))) S (.lst ((zs.drop 5).map V.str)) = H4 at *
  generalize zs.take c' = ss at *
  -- the house
  refine ⟨L, S, A0, n2, ss, zs.drop 5, rfl, ag4, fun H5 v sp1 r x5 hR dr hz => ?_⟩
  obtain ⟨hh, gd, iv0⟩ := lively_iv hnm (by omega) hsub dr hz
  have dd := dr.deep
  have kp5 := kp4.drawn ag4.hL ag4.hS nSH x5
  refine ⟨v, r, rfl, hR, hh, by omega, gd, kp5.2, fun H6 u sm6 hT6 => ?_⟩
  have kp6 := kp5.sam sm6
  obtain ⟨n5, hn5⟩ := x5.2.1
  have hL6 : H6 L = some (.lst [.int n5]) := sm6.lst kp5.2 hn5
  clear ag4 x5 kp4 kp5 sm6 hR dr nSH
  obtain ⟨st0, hv0, rfl, hst0, hrow0⟩ := hT6
  -- the turns
  refine ⟨4, rfl, by decide, by decide, for_range (n := 4) (lo := 0) (fun i σ H' => KpL Ts L H0 H' ∧ (∃ n, H' L = some (.lst [.int n])) ∧ ∃ (m : Nat) (h : List Part) (st : Addr) (hv : V) (s5 s6 : Option V), Iv i m h ∧ H' st = some (.tup [.int (m : Nat), hv]) ∧ RowAt H' h hv ∧ σ = [some (.ref a), some (.int j), some (.ref L), some (.ref pn), some (.ref st), s5, s6])
    ⟨kp6, ⟨_, hL6⟩, _, _, st0, hv0, _, _, iv0, hst0, hrow0, rfl⟩ (fun i σ H7 hi hP => ?_) (fun σ H7 hP => ?_)⟩
  · obtain ⟨kp7, ⟨n7, hL7⟩, m, h, st, hv, s5, s6, iv, hst, hrow, rfl⟩ := hP
    have z1 := iv.size
    have z2 := iv.deep
    have lh := len_sizeR h
    have few := gs_few2 (r := h) (by omega) (by omega)
    refine ⟨_, rfl, _, rfl, st, L, n7, i, m, hv, h, rfl, hst, hrow, iv, by omega, hL7, fun H8 x8 => ⟨_, rfl, iteF ?_⟩⟩
    have kp8 := kp7.stl hL7 x8
    obtain ⟨n8, hL8⟩ := id x8.2
    have tp8 : STup H7 H8 := fun a xs e => x8.1 _ _ (fun z => by rw [z, hL7] at e; cases e) e
    have hst8 := tp8 _ _ hst
    have hrow8 := hrow.mono tp8
    clear kp7 hL7 hst hrow x8 tp8
    refine ⟨_, rfl, st, _, hv, h, rfl, hst8, hrow8, by omega, by omega, few, fun H9 p9 ts ys s9 np9 hp9 hsts pm so => ?_⟩
    have wds : ∀ x ∈ ts, PyData.strOk x.w = true := fun x hx => gsL_word h [] h 0 x (pm.mem_iff.mp hx)
    have lts := pm.length_eq
    have lys := StpsAt.len hsts
    refine ⟨_, rfl, (show 0 ≤ sizeLine by decide), fun e0 ne0 => ?_⟩
    have sa := s9.trans (same_new (o := HO.lst []) ne0)
    have kpa := kp8.same sa
    have hLa := sa _ _ hL8
    have hsta := sa _ _ hst8
    have hrowa := hrow8.mono (STup.of sa)
    have hpa : upd H9 e0 (.lst []) p9 = some (.lst ys) := kn hp9 ne0
    have hea : upd H9 e0 (.lst []) e0 = some (.lst []) := upd_same
    have hstsa := hsts.tup (STup.new (o := .lst []) ne0)
    have p9L : p9 ≠ L := Ne.symm (ne_of_none hL8 np9)
    clear sa kp8 hL8 hst8 hrow8 hp9 hsts ne0 s9
    generalize upd H9 e0 (.lst []) = Ha at *
    refine ⟨_, _, .lst (SqL.of hpa) hstsa.dp, .lst (SqL.of hea) .nil, shapedL wds, nil_shaped, _, rfl, ?_⟩
    cases ts with
    | nil => exact iteD (by rw [eqv_nil]; rfl) ⟨kpa, ⟨_, hLa⟩, m, h, st, hv, _, _, iv.up (Nat.le_succ i), hsta, hrowa, rfl⟩
    | cons t0 ts =>
      refine iteU (by rw [eqv_nil]; rfl) ?_
      refine ⟨_, rfl, _, rfl, _, rfl, _, rfl, p9, _, rfl, .inl (SqL.of hpa), L, n8, _, rfl, hLa, by rw [lys, List.length_cons]; omega, by omega, fun c n9 c0 c1 => ?_⟩
      have kpb := kpa.stl hLa (StL.put n9)
      have tpb := STup.lst (o := .lst [.int n9]) hLa
      have hstb := tpb _ _ hsta
      have hrowb := hrowa.mono tpb
      have hstsb := hstsa.tup tpb
      have hpb : upd Ha L (.lst [.int n9]) p9 = some (.lst ys) := by rw [upd_ne p9L]; exact hpa
      have hLb : upd Ha L (.lst [.int n9]) L = some (.lst [.int n9]) := upd_same
      clear kpa tpb hsta hrowa hstsa hpa hLa hea
      generalize upd Ha L (.lst [.int n9]) = Hb at *
      obtain ⟨v9, hv9, hat, _⟩ := atX_lt (l := ys) c0 c1
      obtain ⟨x, hx, hxa⟩ := hstsb.mem hv9
      obtain ⟨path, q0, o, ep, hq0, mv, lp, lq, ivn⟩ := iv.next (by omega) (pm.mem_iff.mp hx)
      obtain ⟨t, _, rfl, _, _⟩ := id hxa
      refine ⟨p9, _, c, _, rfl, rfl, SqL.of hpb, hat, st, t, m, hv, h, q0, x, o, rfl, hstb, hrowb, by omega, hxa, by rw [ep]; omega, by rw [ep]; exact hq0, by omega, mv, kpb.2, fun Hc u' smc hTc => ?_⟩
      obtain ⟨stc, hvc, rfl, hstc, hrowc⟩ := hTc
      refine ⟨kpb.sam smc, ⟨_, smc.lst kpb.2 hLb⟩, o.1, putAt h path o.2, stc, hvc, _, _, ivn, hstc, ?_, rfl⟩
      rw [ep] at hrowc
      exact hrowc
  · obtain ⟨kp7, ⟨n7, hL7⟩, m, h, st, hv, s5, s6, iv, hst, hrow, rfl⟩ := hP
    exact ⟨kp7.1 _ _ pL pT hp0, kp7.2, _, _, _, _, _, _, rfl⟩
end
end K19

set_option Elab.async false
set_option linter.all false
set_option maxRecDepth 100000
set_option maxHeartbeats 2000000
/-! The end of a law with the code tables of defs told. -/
namespace Wk
open PySem PySem.Spec PyProof.Rows L2 GxR
theorem walk_tab {l : PySem.W.OpenLaw} {n k : Nat} {q : Program} {loose : List Str} {XP : (Str → Option Value) → Heap → Prop}
    {YP : World → Heap → Prop} {d : DefRec} {K : Params → PySem.W.Frag} {x : Str}
    (hn : l.most = some n) (hn2 : n ≤ sizeLine) (hdf : d.params.defaults = []) (hr : Room k callerA) (hY : ∀ (w : World) (h : Heap), YP w h → (K w.params).In h)
    (F : ∀ (w : World) (mg : Str → Option Value) (fa : Addr) (h : Heap), (K w.params).In h → h.Ns mainGlobals mg → mg d.name = some (.ref fa) →
      (∀ (y : Str) (e : DefRec) (c P : Addr), (recsOf q).find? (fun e => e.name == y) = some e → PySem.W.tabIn (K w.params) y = some (c, P) → PySem.W.CodeHd h c P ∧ h.get? P = some { cls := .none, data := .fields #[] }) →
      LamX.LawAtS l w (K w.params) CX0 k n x mg fa h) :
    PySem.W.WalkO q loose XP YP l.row.toRowW d [] (fun f vs => PySem.call f vs) := by
  refine Att.attach_callB hn hdf fun w s₀ s₁ mg mb fa o pm cd doc a vs ns G Y ho hd hcd hmg hobj hints hlen hbits hg => ?_
  have KX := hY w _ Y
  obtain ⟨fd, cs, sp, hT, nT, C, hb, hsp, hF⟩ := F w mg fa _ KX G.T.g hmg fun y e c P h1 h2 => PySem.W.tab_of G.T KX h1 h2
  refine LamX.law_callTs KX G.T.g G.T.b G.T.builtins G.T.nolimit hg hT nT C G.T.bmain hobj hints (Nat.le_trans hlen hn2) hr hF hb ?_ fun H e s' z => z
  exact fun H hH hS => hsp H a ns hlen hbits hH hS
theorem tab_in {K : PySem.W.Frag} {y : Str} {f c T : Addr} {oc : Value} {od : Option Addr} {fd : FuncData} {sl : Array (Option Value)} {occ : Value} {odc : Option Addr} {vs : Array Value} {slc : Array (Option Value)}
    (a : PySem.W.nsIn K mainGlobals y = some (some (.ref f))) (l : K.lookup f = some ⟨oc, od, .func fd, sl⟩) (e : fd.code = .ref c) (lc : K.lookup c = some ⟨occ, odc, .fields vs, slc⟩) (hv : vs[11]? = some (.ref T)) : PySem.W.tabIn K y = some (c, T) := by
  unfold PySem.W.tabIn
  rw [a]
  dsimp only
  rw [l]
  dsimp only
  rw [e]
  dsimp only
  rw [lc]
  dsimp only
  rw [hv]
theorem funC_mk {K : PySem.W.Frag} {x qual : Str} {st : Stmt} {f c : Addr} {oc : Value} {od : Option Addr} {kV doc pm : Value} {an : Option Addr} {ct : Value} {osl : Array (Option Value)}
    (l : K.lookup f = some ⟨oc, od, .func (PySem.W.fnOf x qual (defArgs st) (defBody st) (defScope st) .none kV doc pm an (.ref c) ct), osl⟩) (h : PySem.W.codeIn K (.ref c) qual = true) (k : PySem.W.keepIn K (.ref f) = true) :
    FunC K x qual st f c (PySem.W.fnOf x qual (defArgs st) (defBody st) (defScope st) .none kV doc pm an (.ref c) ct) := ⟨⟨oc, od, kV, doc, pm, an, ct, osl, rfl, l, h⟩, k⟩
end Wk

set_option Elab.async false
set_option linter.all false
set_option maxRecDepth 100000
set_option maxHeartbeats 2000000
/-! SIZES, asked for any text. -/
namespace Wk
open PySem PySem.Spec PyProof.Rows L2 GxR
theorem find_no {z a : Str} {h : Int} {u : Tok} {v : Value} {r : List DictEntry} (c : ¬ z = a) : List.find? (fun e : DictEntry => e.key.isStr z) (⟨h, .str a u, v⟩ :: r) = List.find? (fun e : DictEntry => e.key.isStr z) r := by
  rw [List.find?_cons]
  have e : Value.isStr (.str a u) z = false := beq_eq_false_iff_ne.mpr fun h => c h.symm
  show (match Value.isStr (.str a u) z with | true => _ | false => _) = _
  rw [e]
theorem find_yes {a : Str} {h : Int} {u : Tok} {v : Value} {r : List DictEntry} : List.find? (fun e : DictEntry => e.key.isStr a) (⟨h, .str a u, v⟩ :: r) = some ⟨h, .str a u, v⟩ := by
  rw [List.find?_cons]
  have e : Value.isStr (.str a u) a = true := beq_self_eq_true a
  show (match Value.isStr (.str a u) a with | true => _ | false => _) = _
  rw [e]
theorem sizesG_of {K : PySem.W.Frag} {w : World} {d : Addr} {es : Array DictEntry} {n : Nat} {h0 h1 h2 h3 h4 h5 h6 h7 : Int} {u0 u1 u2 u3 u4 u5 u6 u7 q0 q1 q2 q3 q4 q5 q6 q7 : Tok}
    (l : K.lookup d = some ⟨.type "dict", none, .dict es n, #[]⟩) (k : PySem.W.KeysLit w.params es.toList) (low : (d == sysModules) = false)
    (e : es.toList = [⟨h0, .str "room" u0, .int 3 q0⟩, ⟨h1, .str "in" u1, .int 3 q1⟩, ⟨h2, .str "out" u2, .int 3 q2⟩, ⟨h3, .str "open" u3, .int 3 q3⟩, ⟨h4, .str "say" u4, .int 2 q4⟩, ⟨h5, .str "hear" u5, .int 3 q5⟩, ⟨h6, .str "new" u6, .int 3 q6⟩, ⟨h7, .str "again" u7, .int 2 q7⟩]) :
    SizesG K w d := by
  refine ⟨⟨es, n, l, k, low⟩, fun z => ?_⟩
  unfold PySem.W.nsIn
  rw [l]
  dsimp only
  rw [e]
  unfold szV szOf
  by_cases c0 : z = "room"
  · subst c0; rw [find_yes]; exact ⟨_, rfl, ⟨_, rfl⟩⟩
  rw [find_no c0, if_neg c0]
  by_cases c1 : z = "in"
  · subst c1; rw [find_yes]; exact ⟨_, rfl, ⟨_, rfl⟩⟩
  rw [find_no c1, if_neg c1]
  by_cases c2 : z = "out"
  · subst c2; rw [find_yes]; exact ⟨_, rfl, ⟨_, rfl⟩⟩
  rw [find_no c2, if_neg c2]
  by_cases c3 : z = "open"
  · subst c3; rw [find_yes]; exact ⟨_, rfl, ⟨_, rfl⟩⟩
  rw [find_no c3, if_neg c3]
  by_cases c4 : z = "say"
  · subst c4; rw [find_yes]; exact ⟨_, rfl, ⟨_, rfl⟩⟩
  rw [find_no c4, if_neg c4]
  by_cases c5 : z = "hear"
  · subst c5; rw [find_yes]; exact ⟨_, rfl, ⟨_, rfl⟩⟩
  rw [find_no c5, if_neg c5]
  by_cases c6 : z = "new"
  · subst c6; rw [find_yes]; exact ⟨_, rfl, ⟨_, rfl⟩⟩
  rw [find_no c6, if_neg c6]
  by_cases c7 : z = "again"
  · subst c7; rw [find_yes]; exact ⟨_, rfl, ⟨_, rfl⟩⟩
  rw [find_no c7, if_neg c7]
  exact ⟨none, rfl, rfl⟩
end Wk

set_option Elab.async false
set_option linter.all false
set_option maxRecDepth 100000
/-! STEP_SIZES, as it stands at the module's top. -/
namespace Wk
open PySem PySem.Spec PyProof.Rows L2 GxR
theorem stepSz_of {K : PySem.W.Frag} {w : World} {d : Addr} {es : Array DictEntry} {n : Nat} {q0 q1 q2 q3 q4 : Tok} (h1 : K.lookup d = some ⟨.type "dict", none, .dict es n, #[]⟩) (h2 : PySem.W.KeysLit w.params es.toList) (h3 : (d == sysModules) = false)
    (i0 : PySem.W.nsIn K d "in" = some (some (.int 5 q0))) (i1 : PySem.W.nsIn K d "out" = some (some (.int 5 q1))) (i2 : PySem.W.nsIn K d "open" = some (some (.int 4 q2))) (i3 : PySem.W.nsIn K d "letter" = some (some (.int 4 q3))) (i4 : PySem.W.nsIn K d "again" = some (some (.int 3 q4))) : StepSz K w d := by
  refine ⟨⟨es, n, h1, h2, h3⟩, fun z m h => ?_⟩
  unfold stSz at h
  by_cases c0 : z = "in"
  · rw [if_pos c0] at h; cases h; rw [c0]; exact ⟨_, i0, ⟨_, rfl⟩⟩
  rw [if_neg c0] at h
  by_cases c1 : z = "out"
  · rw [if_pos c1] at h; cases h; rw [c1]; exact ⟨_, i1, ⟨_, rfl⟩⟩
  rw [if_neg c1] at h
  by_cases c2 : z = "open"
  · rw [if_pos c2] at h; cases h; rw [c2]; exact ⟨_, i2, ⟨_, rfl⟩⟩
  rw [if_neg c2] at h
  by_cases c3 : z = "letter"
  · rw [if_pos c3] at h; cases h; rw [c3]; exact ⟨_, i3, ⟨_, rfl⟩⟩
  rw [if_neg c3] at h
  by_cases c4 : z = "again"
  · rw [if_pos c4] at h; cases h; rw [c4]; exact ⟨_, i4, ⟨_, rfl⟩⟩
  rw [if_neg c4] at h
  cases h
end Wk

set_option Elab.async false
set_option linter.all false
set_option maxRecDepth 100000
set_option maxHeartbeats 400000
namespace K19
open PySem PySem.Spec PyProof.Rows L2 Wk GxR
abbrev sWhole : Stmt := topS 35
abbrev sPlaces : Stmt := topS 36
abbrev sStForm : Stmt := topS 56
theorem scWhole : FnScope ["thing"] ["thing"] (defScope sWhole) := ⟨rfl, rfl, rfl, by decide +kernel, rfl, by decide +kernel, by decide +kernel⟩
theorem scPlaces : FnScope ["thing", "place"] ["thing"] (defScope sPlaces) := ⟨rfl, rfl, rfl, by decide +kernel, rfl, by decide +kernel, by decide +kernel⟩
theorem scStForm : FnScope ["thing"] ["thing"] (defScope sStForm) := ⟨rfl, rfl, rfl, by decide +kernel, rfl, by decide +kernel, by decide +kernel⟩
section
variable {P : Program} {w : World} {K : PySem.W.Frag} {mg : Str → Option Value} {base : Heap} {T : Addr} {Ts : List Addr}
theorem ok_whole {f : Addr} {fd : FuncData} {k : Nat} (F : Fun K "is_whole" "is_whole" sWhole f fd) (mi : mg "isinstance" = none) (mn : mg "int" = none) (mb : mg "bool" = none) : FnOk P w K mg base CX0 (k + 1) f fd ["thing"] spWhole := by
  refine F.ok scWhole (fun vs H Q E h => ?_) (fun cdv A outer s H vs Q E hr h => ?_)
  · obtain ⟨_, rfl, _⟩ := h
    rfl
  obtain ⟨n, rfl, q⟩ := h
  refine ⟨_, pss_one (ps_ret (pe_and (pe_callB call_isi (by rfl) mi (by decide +kernel) (pa_cons (pv 0) (pa_cons (pe_bltn (v := .ty "int") (by rfl) mn (by decide +kernel) rfl) pa_nil)))
      (pe_one (pe_not (pe_callB call_isi (by rfl) mi (by decide +kernel) (pa_cons (pv 0) (pa_cons (pe_bltn (v := .ty "bool") (by rfl) mb (by decide +kernel) rfl) pa_nil))))))), ?_⟩
  refine ⟨_, rfl, .int n, .ty "int", .type "int", .type "int", true, rfl, .ty "int", .base (.int n), kit_ty (show kitB "int" "int" = some true by decide +kernel), _, rfl, iteT ?_⟩
  exact ⟨_, rfl, .int n, .ty "bool", .type "int", .type "bool", false, rfl, .ty "bool", .base (.int n), kit_ty (show kitB "int" "bool" = some false by decide +kernel), _, rfl, q⟩
theorem ok_places {f c fW : Addr} {fd fdW : FuncData} (F : FunC K "are_places" "are_places" sPlaces f c fd) (TB : TabB base mg c T) (mT : T ∈ Ts) (mi : mg "isinstance" = none) (mt : mg "tuple" = none) (ma : mg "all" = none)
    (GW : FnOk P w K mg base CX0 1 fW fdW ["thing"] spWhole) (bW : Binds K fdW ["thing"] []) (kW : PySem.W.keepIn K (.ref fW) = true) (mW : mg "is_whole" = some (.ref fW)) :
    FnOk P w K mg base CX0 3 f fd ["thing"] (spPlaces Ts) := by
  refine F.okN scPlaces (fun vs H Q E h => ?_) (fun A outer s H vs Q E hr h => ?_)
  · obtain ⟨_, _, rfl, _⟩ := h
    rfl
  obtain ⟨a, l, rfl, ha, tg, q⟩ := h
  have hr2 : ∀ e, Room 1 ((A.deeper (envOfC "are_places" (defScope sPlaces) s.heap.objs.size f (.ref c))).in1.in1.deeper e) := fun e => Wk.Room.gen hr e
  refine ⟨_, pss_one (ps_ret (pe_and (pe_callB call_isi (by rfl) mi (by decide +kernel) (pa_cons (pv 0) (pa_cons (pe_bltn (v := .ty "tuple") (by rfl) mt (by decide +kernel) rfl) pa_nil)))
      (pe_one (pe_allX (own := [("place", 1)]) (g := gName 1) hr rfl scPlaces.nd (by rfl) ma (by decide +kernel) TB rfl rfl (by decide +kernel) rfl
          (blkOk_by (own := [("place", 1)]) (N := ["thing", "place"]) (sc := defScope sPlaces) (by decide +kernel)) (pi_tup (pv 0)) (fun _ => rfl) (fun _ _ _ _ _ _ _ => pg_name (i := 1) scPlaces.nd rfl (Or.inl rfl))
          (te := tCall spWhole [] E0 (tCons (tVar 1) tNil))
          (fun _ _ _ _ _ _ _ => pe_call GW (hr2 _) (by rfl) mW kW bW .nil pass0 (pa_cons (pv 1) pa_nil)))))), ?_⟩
  refine ⟨_, rfl, .ref a, .ty "tuple", .type "tuple", .type "tuple", true, rfl, .ty "tuple", .base (.tup ha), kit_ty (show kitB "tuple" "tuple" = some true by decide +kernel), _, rfl, iteT ?_⟩
  refine ⟨_, rfl, a, rfl, ⟨_, SqT.of ha⟩, tg T mT, fun H2 hT => ⟨l.length, fun _ => true, fun _ H' => SamTs Ts H H', SamTs.tab mT tg hT, fun j H' hj hW => ?_, fun H3 hall hW => q H3 hW, fun j H3 hj hf hW => by cases hf⟩⟩
  have ha' := hW.tup tg _ _ ha
  rcases Nat.lt_or_ge j l.length with hlt | hge
  · obtain ⟨y, hy⟩ : ∃ y, (vN l)[j]? = some y := ⟨(vN l)[j]'(by rw [vN_len]; exact hlt), List.getElem?_eq_getElem _⟩
    refine .inr ⟨hlt, ⟨vN l, y, SqT.of ha', hy⟩, fun y' H3 hy' => ?_⟩
    obtain ⟨rfl, hy'⟩ := hy'
    obtain ⟨n, _, rfl⟩ := vN_get (hy' _ (SqT.of ha'))
    exact ⟨rfl, _, rfl, _, rfl, rfl, hW⟩
  · exact .inl ⟨by omega, vN l, SqT.of ha', by rw [vN_len]; omega⟩
theorem ok_stform {f fB fP dS : Addr} {fd fdB fdP : FuncData} (F : Fun K "has_step_form" "has_step_form" sStForm f fd) (ml : mg "len" = none) (mS : mg "STEP_SIZES" = some (.ref dS)) (hS : StepSz K w dS)
    (GB : FnOk P w K mg base CX0 1 fB fdB ["thing"] spBegins) (bB : Binds K fdB ["thing"] []) (kB : PySem.W.keepIn K (.ref fB) = true) (mB : mg "begins_with_word" = some (.ref fB))
    (GP : FnOk P w K mg base CX0 3 fP fdP ["thing"] (spPlaces Ts)) (bP : Binds K fdP ["thing"] []) (kP : PySem.W.keepIn K (.ref fP) = true) (mP : mg "are_places" = some (.ref fP)) :
    FnOk P w K mg base CX0 4 f fd ["thing"] (spStForm Ts) := by
  refine F.ok scStForm (fun vs H Q E h => ?_) (fun cdv A outer s H vs Q E hr h => ?_)
  · obtain ⟨_, _, rfl, _⟩ := h
    rfl
  obtain ⟨v, x, rfl, hx, hsz, tg, q⟩ := h
  have r1 : Room 1 _ := hr.mono (by decide)
  refine ⟨_, pss_cons (ps_if (PW.pt (pw_or (pt_not (pt_val (pe_call GB r1 (by rfl) mB kB bB .nil pass0 (pa_cons (pv 0) pa_nil))))
      (pw_or1 (pt_cmpR op_ne (pe_kget (pe_glob (v := .ref dS) (by rfl) mS rfl) (pe_ix ix_tup (pv 0) pe_int (fun _ _ => rfl)) ⟨rfl, rfl, rfl, rfl⟩) (pe_callB call_len_seq (by rfl) ml PySem.boot_len (pa_cons (pv 0) pa_nil)) (nomark _))))) (pss_one (ps_ret pe_bl)) pss_nil)
    (pss_one (ps_ret (pe_and (pe_call GP hr (by rfl) mP kP bP .nil pass0 (pa_cons (pe_ix ix_tup (pv 0) pe_int (fun _ _ => rfl)) pa_nil)) (pe_one (pe_call GP hr (by rfl) mP kP bP .nil pass0 (pa_cons (pe_slice sl_tupS (pv 0) (po_some pe_int) po_none) pa_nil)))))), ?_⟩
  refine ⟨_, rfl, v, thS x, rfl, hx.th, _, rfl, iteF ?_⟩
  obtain ⟨t, pa, rfl, ht, hpa⟩ := hx
  obtain ⟨rr, g1, g2⟩ := hS.2 x.w _ hsz
  refine ⟨dS, rfl, hS.1, _, rfl, t, _, 0, _, rfl, rfl, SqT.of ht, atI_nat (j := 0) rfl, x.w, rr, _, rfl, g1, g2, _, rfl, t, _, rfl, .inr (SqT.of ht), rfl, _, rfl, iteD ?_ ?_⟩
  · rw [List.length_cons, List.length_cons, vN_len, decide_eq_true rfl]
    rfl
  refine ⟨_, rfl, t, _, 1, _, rfl, rfl, SqT.of ht, atI_nat (j := 1) rfl, pa, x.p, rfl, hpa, tg, fun H1 s1 => ⟨_, rfl, iteT ?_⟩⟩
  have ht1 := s1.tup tg _ _ ht
  refine ⟨_, rfl, 2, rfl, t, _, rfl, ht1, ?_, fun H2 c2 s2 hc2 => ?_⟩
  · rw [show (2 : Int) = ((2 : Nat) : Int) from rfl, HT.sIx_nat, List.length_cons, List.length_cons]
    rintro ⟨z, _⟩
    omega
  rw [show (2 : Int) = ((2 : Nat) : Int) from rfl, cutOff (by rw [List.length_cons, List.length_cons]; omega)] at hc2
  have st2 := s1.sm s2
  exact ⟨c2, x.r, rfl, hc2, st2.2, fun H3 s3 => q H3 (st2.trans s3)⟩
end
end K19

set_option Elab.async false
set_option linter.all false
set_option maxRecDepth 100000
set_option maxHeartbeats 400000
namespace K19
open PySem PySem.Spec PyProof.Rows L2 Wk GxR
abbrev sAgain : Stmt := topS 52
abbrev psDA : List Str := ["number", "row", "k"]
theorem scAgain : FnScope ["number", "row", "k", "part", "rest"] psDA (defScope sAgain) := ⟨rfl, rfl, rfl, by decide +kernel, rfl, by decide +kernel, by decide +kernel⟩
section
variable {P : Program} {w : World} {K : PySem.W.Frag} {mg : Str → Option Value} {base : Heap} {Ts : List Addr}
theorem ok_again {f fP fF : Addr} {fd fdP fdF : FuncData} {n k : Nat} (F : Fun K "done_again" "done_again" sAgain f fd)
    (GP : FnOk P w K mg base CX0 1 fP fdP psPA spPartAt) (bP : Binds K fdP psPA []) (kP : PySem.W.keepIn K (.ref fP) = true) (mP : mg "part_at" = some (.ref fP))
    (GF : FnOk P w K mg base CX0 (k + 1) fF fdF ["number", "row"] (spFreed n)) (bF : Binds K fdF ["number", "row"] []) (kF : PySem.W.keepIn K (.ref fF) = true) (mF : mg "freed" = some (.ref fF)) :
    FnOk P w K mg base CX0 (k + 2) f fd psDA (spAgain n) := by
  refine F.ok scAgain (fun vs H Q E h => ?_) (fun cdv A outer s H vs Q E hr h => ?_)
  · obtain ⟨_, _, _, _, _, rfl, _⟩ := h
    rfl
  obtain ⟨m, i, v, r, q0, rfl, hR, lr, hi, dq, lq, gq, hm, lf, q⟩ := h
  have r1 : Room 1 _ := hr.mono (by omega)
  refine ⟨_, pss_cons (ps_set (i := 3) scAgain.nd rfl (.inl rfl) (pe_call GP r1 (by rfl) mP kP bP .nil pass0 (pa_cons (pv 1) (pa_cons (pv 2) (pa_cons pe_str pa_nil)))))
    (pss_cons (ps_if (pt_cmp (pc_isN (pv 3))) (pss_one (ps_ret pe_non)) pss_nil)
    (pss_cons (ps_asg (pe_call GF hr (by rfl) mF kF bF .nil pass0 (pa_cons (pv 0) (pa_cons (pe_ix ix_tup (pv 3) pe_int (fun _ _ => rfl)) pa_nil))) (pg_tup rfl (pgs_cons (pg_name (i := 0) scAgain.nd rfl (.inl rfl)) (pgs_cons (pg_name (i := 4) scAgain.nd rfl (.inl rfl)) pgs_nil))))
    (pss_one (ps_ret (pe_tup (pa_cons (pv 0) (pa_cons (pe_tup (pa_star (pv 1) (pa_star (pv 4) pa_nil))) pa_nil))))))), ?_⟩
  obtain ⟨a, xs, rfl, ha, hps⟩ := hR
  have lx := PartsAt.len hps
  refine ⟨_, rfl, _, rfl, a, xs, r, (i : Nat), "again", rfl, ha, hps, by omega, fun j p u ej hp hu hw => ?_, fun no => absurd rfl (no i _ rfl hi)⟩
  have ej' : i = j := by omega
  subst ej'
  rw [hi] at hp
  cases hp
  obtain ⟨p2, e2, hpu⟩ := PartsAt.get hps hu
  rw [hi] at e2
  cases e2
  obtain ⟨b, c, ys, rfl, hb, hc, hys⟩ := hpu
  refine ⟨_, rfl, _, rfl, iteF ?_⟩
  refine ⟨_, rfl, _, rfl, b, _, 1, _, rfl, rfl, SqT.of hb, atI_nat (j := 1) rfl, m, .ref c, q0, rfl, ⟨c, ys, rfl, hc, hys⟩, dq, lq, gq, hm, fun H1 u s1 hu1 => ?_⟩
  obtain ⟨t, ru, rfl, ht, hru⟩ := hu1
  obtain ⟨d, zs, rfl, hd, hzs⟩ := hru
  have lz := PartsAt.len hzs
  refine ⟨t, _, rfl, SqT.of ht, rfl, _, _, rfl, _, _, rfl, rfl, ?_⟩
  refine ⟨_, rfl, _, rfl, a, xs, rfl, SqT.of (s1 _ _ ha), _, rfl, d, zs, rfl, SqT.of hd, ?_, fun t2 nt2 => ⟨(show 2 ≤ sizeLine by decide), fun t3 nt3 => ?_⟩⟩
  · rw [List.append_nil, List.length_append]
    exact Nat.le_trans (show xs.length + zs.length ≤ 2000 by omega) (show 2000 ≤ sizeLine by decide)
  have ss := (same_new (o := HO.tup (xs ++ (zs ++ []))) nt2).trans (same_new (o := HO.tup [.int ((frdR n m q0).1 : Nat), .ref t2]) nt3)
  refine q _ _ (s1.trans ss) ⟨t3, .ref t2, rfl, upd_same, t2, _, rfl, kn upd_same nt3, ?_⟩
  have hP : PartsAt H1 (r ++ (frdR n m q0).2) (xs ++ (zs ++ [])) := by
    rw [List.append_nil]
    exact PartsAt.app hzs (PartsAt.mono (STup.of s1) _ _ hps)
  exact PartsAt.mono (STup.of ss) _ _ hP
end
end K19

set_option Elab.async false
set_option linter.all false
set_option maxRecDepth 100000
set_option maxHeartbeats 400000
namespace K19
open PySem PySem.Spec PyProof.Rows L2 Wk GxR
abbrev sWithout : Stmt := topS 44
abbrev sSpent : Stmt := topS 47
abbrev sIn : Stmt := topS 48
abbrev sOut : Stmt := topS 49
abbrev sOpened : Stmt := topS 50
abbrev sHeard : Stmt := topS 51
abbrev nmWo : List Str := ["row", "places", "at", "part"]
theorem scWo : FnScope nmWo ((["row"] : List Str) ++ (["places"] : List Str)) (defScope sWithout) := ⟨rfl, rfl, rfl, by decide +kernel, rfl, by decide +kernel, by decide +kernel⟩
theorem scSpent : FnScope ["number", "room", "d", "rest"] ["number", "room", "d"] (defScope sSpent) := ⟨rfl, rfl, rfl, by decide +kernel, rfl, by decide +kernel, by decide +kernel⟩
theorem scIn : FnScope ["number", "row", "k", "d", "j", "room", "goal", "deed", "walker"] ["number", "row", "k", "d", "j"] (defScope sIn) := ⟨rfl, rfl, rfl, by decide +kernel, rfl, by decide +kernel, by decide +kernel⟩
theorem scOut : FnScope ["number", "row", "k", "j", "d", "outer", "room", "deed", "walker"] ["number", "row", "k", "j", "d"] (defScope sOut) := ⟨rfl, rfl, rfl, by decide +kernel, rfl, by decide +kernel, by decide +kernel⟩
theorem scOpened : FnScope ["number", "row", "k", "j", "deed", "room", "rest"] ["number", "row", "k", "j"] (defScope sOpened) := ⟨rfl, rfl, rfl, by decide +kernel, rfl, by decide +kernel, by decide +kernel⟩
theorem scHeard : FnScope ["number", "row", "k", "j", "letter", "hearer", "rest"] ["number", "row", "k", "j"] (defScope sHeard) := ⟨rfl, rfl, rfl, by decide +kernel, rfl, by decide +kernel, by decide +kernel⟩
abbrev gJQ (K : PySem.W.Frag) (a b : Nat) := gTup K 2 (gCons (gName a) (gCons (gName b) gNil))
section
variable {P : Program} {w : World} {K : PySem.W.Frag} {mg : Str → Option Value} {base : Heap}
theorem ok_without {f : Addr} {oc : Value} {od an : Option Addr} {osl : Array (Option Value)} {kV doc pm cdv ct : Value} {k : Nat}
    (lk : K.lookup f = some ⟨oc, od, .func (PySem.W.fnOf "without" "without" (defArgs sWithout) (defBody sWithout) (defScope sWithout) .none kV doc pm an cdv ct), osl⟩) (hcd : PySem.W.codeIn K cdv "without" = true) (me : mg "enumerate" = none) (mt : mg "tuple" = none) :
    FnR P w K mg base CX0 (k + 1) f spWithout := by
  refine (StX.fn_star (sp := spWo) (ps := ["row"]) (pv := "places") (N := nmWo) lk hcd scWo StX.cxUp_none (fun us rest hl => StX.bind_star1 (B := fun l => bindArgs (PySem.W.fnOf "without" "without" (defArgs sWithout) (defBody sWithout) (defScope sWithout) .none kV doc pm an cdv ct) ⟨l, []⟩) (p1 := "row") (pv := "places") (fun a => rfl) (fun a r rs => rfl) us rest hl) fun A outer s H vs Q E hr h => ?_).imp fun vs H Q E h => ?_
  · obtain ⟨v, p, r, pl, rfl, hR, lr, hp, q⟩ := h
    refine ⟨_, pss_one (ps_ret (pe_callTy call_tuple_of (by rfl) mt (by decide +kernel) (pa_cons (pe_lc (own := [("at", 2), ("part", 3)]) (g := gJQ K 2 3) (tt := tTest (tOp (rIn K true) (tVar 2) (tVar 1))) (te := tVar 3) (by rfl) scWo.nd (pi_enumT (by rfl) me (pa_cons (pv 0) pa_nil))
      (blkOk_by (own := [("at", 2), ("part", 3)]) (N := nmWo) (sc := defScope sWithout) (by decide +kernel)) (fun _ _ _ _ _ => pg_tup rfl (pgs_cons (pg_name (i := 2) scWo.nd rfl (Or.inl rfl)) (pgs_cons (pg_name (i := 3) scWo.nd rfl (Or.inl rfl)) pgs_nil)))
      (fun _ _ _ _ _ => pts_one (pt_cmpR op_notIn_seq (pv 2) (pv 1) rfl)) (fun _ _ _ _ _ => pv 3)) pa_nil))), ?_⟩
    obtain ⟨a, xs, rfl, ha, hps⟩ := hR
    have lx := PartsAt.len hps
    refine ⟨_, rfl, a, xs, rfl, SqT.of ha, fun D nD => ?_⟩
    refine lc_it (walk_enumT (xs := xs)) (fun i H' => Same H H' ∧ ∃ vs : List V, H' D = some (.lst vs) ∧ PartsAt H' (wo pl (r.take i)) vs ∧ vs.length ≤ i) ⟨same_new nD, [], upd_same, rfl, Nat.le_refl _⟩ (fun i H' _ hP => SqT.of (hP.1 _ _ ha)) (fun i x H1 H2 hi hP hY => ?_) (fun H1 hP => ?_)
    · obtain ⟨sm, vs, hD, hvs, lv⟩ := hP
      obtain ⟨T, y, rfl, nT, rfl, hy⟩ := hY
      obtain ⟨p', hp', hpa⟩ := PartsAt.get hps hy
      have sm2 : Same H (upd H1 T (.tup [.int (i : Nat), y])) := sm.trans (same_new nT)
      have hD2 : upd H1 T (.tup [.int (i : Nat), y]) D = some (.lst vs) := kn hD nT
      have hT2 : upd H1 T (.tup [.int (i : Nat), y]) T = some (.tup [.int (i : Nat), y]) := upd_same
      have hvs2 := PartsAt.mono (STup.new (o := .tup [.int (i : Nat), y]) nT) _ _ hvs
      generalize upd H1 T (.tup [.int (i : Nat), y]) = H2 at *
      refine ⟨T, _, rfl, SqT.of hT2, rfl, _, _, rfl, _, _, rfl, rfl, rfl, _, rfl, _, rfl, p, _, rfl, .inr (SqT.of (sm2 _ _ hp)), rfl, ?_, _, rfl, ?_⟩
      · exact List.all_eq_true.mpr fun v hv => by
          obtain ⟨n, _, rfl⟩ := List.mem_map.mp (show v ∈ (iN pl).map V.int from hv)
          rfl
      · rw [if_pos rfl, inV_vN, wo_snoc hp']
        by_cases c : i ∈ pl
        · rw [decide_eq_true c, if_pos c, List.append_nil]
          exact iteF ⟨sm2, vs, hD2, hvs2, by omega⟩
        · rw [decide_eq_false c, if_neg c]
          refine iteT ⟨_, rfl, vs, hD2, small1000 (by omega), fun z o e => ?_, vs ++ [y], upd_same, ?_, by rw [List.length_append, List.length_singleton]; omega⟩
          · rw [upd_ne (ne_of_none e nD)]; exact sm2 _ _ e
          · exact PartsAt.app (PartsAt.one (PartAt.mono ((STup.of sm2).trans (STup.lst hD2)) _ _ hpa)) (PartsAt.mono (STup.lst hD2) _ _ hvs2)
    · obtain ⟨sm, vs, hD, hvs, lv⟩ := hP
      rw [lx, List.take_length] at hvs
      exact ⟨D, vs, rfl, .inl ⟨SqL.of hD, fun t nt => q _ _ (sm.trans (same_new nt)) ⟨t, vs, rfl, upd_same, PartsAt.mono (STup.new nt) _ _ hvs⟩⟩⟩
  · obtain ⟨v, r, pl, rfl, hR, lr, lp, q⟩ := h
    exact ⟨[v], vN pl, rfl, rfl, by rw [vN_len]; exact small lp, fun p np => ⟨v, p, r, pl, rfl, hR.mono (STup.new np), lr, upd_same, fun H' u sm hu => q H' u ((same_new np).trans sm) hu⟩⟩
theorem ok_opened {f fP fF fW : Addr} {fd fdP fdF : FuncData} {n k : Nat} (F : Fun K "opened" "opened" sOpened f fd)
    (GP : FnOk P w K mg base CX0 1 fP fdP psPA spPartAt) (bP : Binds K fdP psPA []) (kP : PySem.W.keepIn K (.ref fP) = true) (mP : mg "part_at" = some (.ref fP))
    (GF : FnOk P w K mg base CX0 (k + 1) fF fdF ["number", "row"] (spFreed n)) (bF : Binds K fdF ["number", "row"] []) (kF : PySem.W.keepIn K (.ref fF) = true) (mF : mg "freed" = some (.ref fF))
    (GW : FnR P w K mg base CX0 1 fW spWithout) (kW : PySem.W.keepIn K (.ref fW) = true) (mW : mg "without" = some (.ref fW)) :
    FnOk P w K mg base CX0 (k + 2) f fd ["number", "row", "k", "j"] (spMvG (OkOpen n)) := by
  refine F.ok scOpened (fun vs H Q E h => ?_) (fun cdv A outer s H vs Q E hr h => ?_)
  · obtain ⟨_, _, _, _, _, rfl, _, _, ⟨_, _, _, _, _, rfl, _⟩, _⟩ := h
    rfl
  obtain ⟨m, v, r, pl, o, rfl, hR, lr, ⟨i, j, c, s0, t0, rfl, hi, hj, fr, lt, rfl⟩, q⟩ := h
  have r1 : Room 1 _ := hr.mono (by omega)
  refine ⟨_, pss_cons (ps_set (i := 4) scOpened.nd rfl (.inl rfl) (pe_call GP r1 (by rfl) mP kP bP .nil pass0 (pa_cons (pv 1) (pa_cons (pv 2) (pa_cons pe_str pa_nil)))))
    (pss_cons (ps_set (i := 5) scOpened.nd rfl (.inl rfl) (pe_call GP r1 (by rfl) mP kP bP .nil pass0 (pa_cons (pv 1) (pa_cons (pv 3) (pa_cons pe_str pa_nil)))))
    (pss_cons (ps_if (PW.pt (pw_or (pt_cmp (pc_isN (pv 4))) (pw_or (pt_cmp (pc_isN (pv 5))) (pw_or1 (pt_cmpR op_ne (pe_ix ix_tup (pv 4) pe_int (fun _ _ => rfl)) (pe_ix ix_tup (pv 5) pe_int (fun _ _ => rfl)) (nomark _)))))) (pss_one (ps_ret pe_non)) pss_nil)
    (pss_cons (ps_asg (pe_call GF hr (by rfl) mF kF bF .nil pass0 (pa_cons (pv 0) (pa_cons (pe_ix ix_tup (pv 4) pe_int (fun _ _ => rfl)) pa_nil))) (pg_tup rfl (pgs_cons (pg_name (i := 0) scOpened.nd rfl (.inl rfl)) (pgs_cons (pg_name (i := 6) scOpened.nd rfl (.inl rfl)) pgs_nil))))
    (pss_one (ps_ret (pe_tup (pa_cons (pv 0) (pa_cons (pe_tup (pa_star (pe_callR GW r1 (by rfl) mW kW pass0 (pa_cons (pv 1) (pa_cons (pv 2) (pa_cons (pv 3) pa_nil)))) (pa_star (pv 6) (pa_star (pe_ix ix_tup (pv 5) pe_int (fun _ _ => rfl)) pa_nil)))) pa_nil)))))))), ?_⟩
  obtain ⟨a, xs, rfl, ha, hps⟩ := hR
  refine ⟨_, rfl, _, rfl, partAt_get (E := E0) ha hps (by omega) hi rfl fun v1 _ hv1 => ?_⟩
  refine ⟨_, rfl, _, rfl, partAt_get (E := E0) ha hps (by omega) hj rfl fun v2 _ hv2 => ?_⟩
  obtain ⟨b1, d1, ys1, rfl, hb1, hd1, hys1⟩ := hv1
  obtain ⟨b2, d2, ys2, rfl, hb2, hd2, hys2⟩ := hv2
  refine ⟨_, rfl, _, rfl, iteF ⟨_, rfl, _, rfl, iteF ?_⟩⟩
  refine ⟨_, rfl, b1, _, 1, _, rfl, rfl, SqT.of hb1, atI_nat (j := 1) rfl, _, rfl, b2, _, 1, _, rfl, rfl, SqT.of hb2, atI_nat (j := 1) rfl, rfl, _, rfl, iteD (by rw [decide_eq_true rfl]; rfl) ?_⟩
  have f1 := fr.size
  refine ⟨_, rfl, _, rfl, b1, _, 2, _, rfl, rfl, SqT.of hb1, atI_nat (j := 2) rfl, m, .ref d1, s0, rfl, ⟨d1, ys1, rfl, hd1, hys1⟩, fr.deep, by omega, fr.gd, fr.num, fun H1 u s1 hu => ?_⟩
  obtain ⟨t, ru, rfl, ht, d, zs, rfl, hd, hzs⟩ := hu
  have lz := PartsAt.len hzs
  have lz2 := fr.len
  refine ⟨t, _, rfl, SqT.of ht, rfl, _, _, rfl, _, _, rfl, rfl, ?_⟩
  refine ⟨_, rfl, _, rfl, _, rfl, _, rfl, .ref a, r, [i, j], rfl, (show RowAt H r (.ref a) from ⟨a, xs, rfl, ha, hps⟩).mono (STup.of s1), by omega, (show 2 ≤ 1000 by decide), fun H2 u2 s2 hu2 => ?_⟩
  obtain ⟨w2, ws, rfl, hw2, hws⟩ := hu2
  have lw := PartsAt.len hws
  have lw2 := wo_len [i, j] r 0
  have lw3 : (wo [i, j] r).length ≤ r.length := lw2
  have s02 := s1.trans s2
  have ly := PartsAt.len hys2
  refine ⟨w2, ws, rfl, SqT.of hw2, _, rfl, d, zs, rfl, SqT.of (s2 _ _ hd), _, rfl, b2, _, 2, _, rfl, rfl, SqT.of (s02 _ _ hb2), atI_nat (j := 2) rfl, d2, ys2, rfl, SqT.of (s02 _ _ hd2), ?_, fun t2 nt2 => ⟨(show 2 ≤ sizeLine by decide), fun t3 nt3 => ?_⟩⟩
  · simp only [List.length_append, List.append_nil]
    exact Nat.le_trans (show ws.length + (zs.length + ys2.length) ≤ 2000 by omega) (show 2000 ≤ sizeLine by decide)
  have hP : PartsAt H2 (wo [i, j] r ++ ((frdR n m s0).2 ++ t0)) (ws ++ (zs ++ (ys2 ++ []))) := by
    rw [List.append_nil]
    exact PartsAt.app (PartsAt.app (PartsAt.mono (STup.of s02) _ _ hys2) (PartsAt.mono (STup.of s2) _ _ hzs)) hws
  have ss := (same_new (o := HO.tup (ws ++ (zs ++ (ys2 ++ [])))) nt2).trans (same_new (o := HO.tup [.int ((frdR n m s0).1 : Nat), .ref t2]) nt3)
  exact q _ _ (s02.trans ss) ⟨t3, .ref t2, rfl, upd_same, t2, _, rfl, kn upd_same nt3, PartsAt.mono (STup.of ss) _ _ hP⟩
theorem ok_heard {f fP fF fW fC : Addr} {fd fdP fdF fdC : FuncData} {n k g : Nat} (F : Fun K "heard" "heard" sHeard f fd)
    (GP : FnOk P w K mg base CX0 1 fP fdP psPA spPartAt) (bP : Binds K fdP psPA []) (kP : PySem.W.keepIn K (.ref fP) = true) (mP : mg "part_at" = some (.ref fP))
    (GF : FnOk P w K mg base CX0 (k + 1) fF fdF ["number", "row"] (spFreed n)) (bF : Binds K fdF ["number", "row"] []) (kF : PySem.W.keepIn K (.ref fF) = true) (mF : mg "freed" = some (.ref fF))
    (GC : FnOk P w K mg base CX0 g fC fdC ps3 (spCalled n)) (bC : Binds K fdC ps3 []) (kC : PySem.W.keepIn K (.ref fC) = true) (mC : mg "called" = some (.ref fC)) (hg : g ≤ k + 1)
    (GW : FnR P w K mg base CX0 1 fW spWithout) (kW : PySem.W.keepIn K (.ref fW) = true) (mW : mg "without" = some (.ref fW)) :
    FnOk P w K mg base CX0 (k + 2) f fd ["number", "row", "k", "j"] (spMvG (OkHear n)) := by
  refine F.ok scHeard (fun vs H Q E h => ?_) (fun cdv A outer s H vs Q E hr h => ?_)
  · obtain ⟨_, _, _, _, _, rfl, _, _, ⟨_, _, _, _, _, rfl, _⟩, _⟩ := h
    rfl
  obtain ⟨m, v, r, pl, o, rfl, hR, lr, ⟨i, j, c, x, s0, rfl, hi, hj, fr, rfl⟩, q⟩ := h
  have r1 : Room 1 _ := hr.mono (by omega)
  have rg : Room g _ := hr.mono hg
  refine ⟨_, pss_cons (ps_set (i := 4) scHeard.nd rfl (.inl rfl) (pe_call GP r1 (by rfl) mP kP bP .nil pass0 (pa_cons (pv 1) (pa_cons (pv 2) (pa_cons pe_str pa_nil)))))
    (pss_cons (ps_set (i := 5) scHeard.nd rfl (.inl rfl) (pe_call GP r1 (by rfl) mP kP bP .nil pass0 (pa_cons (pv 1) (pa_cons (pv 3) (pa_cons pe_str pa_nil)))))
    (pss_cons (ps_if (PW.pt (pw_or (pt_cmp (pc_isN (pv 4))) (pw_or1 (pt_cmp (pc_isN (pv 5)))))) (pss_one (ps_ret pe_non)) pss_nil)
    (pss_cons (ps_asg (pe_call GF hr (by rfl) mF kF bF .nil pass0 (pa_cons (pv 0) (pa_cons (pe_call GC rg (by rfl) mC kC bC .nil pass0 (pa_cons (pe_ix ix_tup (pv 5) pe_int (fun _ _ => rfl)) (pa_cons (pe_ix ix_tup (pv 5) pe_int (fun _ _ => rfl)) (pa_cons (pe_ix ix_tup (pv 4) pe_int (fun _ _ => rfl)) pa_nil)))) pa_nil))) (pg_tup rfl (pgs_cons (pg_name (i := 0) scHeard.nd rfl (.inl rfl)) (pgs_cons (pg_name (i := 6) scHeard.nd rfl (.inl rfl)) pgs_nil))))
    (pss_one (ps_ret (pe_tup (pa_cons (pv 0) (pa_cons (pe_tup (pa_star (pe_callR GW r1 (by rfl) mW kW pass0 (pa_cons (pv 1) (pa_cons (pv 2) (pa_cons (pv 3) pa_nil)))) (pa_star (pv 6) pa_nil))) pa_nil)))))))), ?_⟩
  obtain ⟨a, xs, rfl, ha, hps⟩ := hR
  refine ⟨_, rfl, _, rfl, partAt_get (E := E0) ha hps (by omega) hi rfl fun v1 _ hv1 => ?_⟩
  refine ⟨_, rfl, _, rfl, partAt_get (E := E0) ha hps (by omega) hj rfl fun v2 _ hv2 => ?_⟩
  obtain ⟨b1, rfl, hb1⟩ := hv1
  obtain ⟨b2, d2, ys2, rfl, hb2, hd2, hys2⟩ := hv2
  refine ⟨_, rfl, _, rfl, iteF ⟨_, rfl, _, rfl, iteF ?_⟩⟩
  have f1 := fr.size
  have f2 := fr.deep
  rw [calledR_size] at f1
  rw [calledR_deep] at f2
  have l0 := len_sizeR s0
  refine ⟨_, rfl, _, rfl, b2, _, 2, _, rfl, rfl, SqT.of hb2, atI_nat (j := 2) rfl, _, rfl, b2, _, 1, _, rfl, rfl, SqT.of hb2, atI_nat (j := 1) rfl, _, rfl, b1, _, 1, _, rfl, rfl, SqT.of hb1, atI_nat (j := 1) rfl, .ref d2, x, c, s0, rfl, ⟨d2, ys2, rfl, hd2, hys2⟩, by omega, by omega, by omega, fun H0 u0 s0' hu0 => ?_⟩
  refine ⟨m, u0, _, rfl, hu0, fr.deep, by have := fr.size; omega, fr.gd, fr.num, fun H1 u s1' hu => ?_⟩
  have s1 := s0'.trans s1'
  obtain ⟨t, ru, rfl, ht, d, zs, rfl, hd, hzs⟩ := hu
  have lz := PartsAt.len hzs
  have lz2 := fr.len
  refine ⟨t, _, rfl, SqT.of ht, rfl, _, _, rfl, _, _, rfl, rfl, ?_⟩
  refine ⟨_, rfl, _, rfl, _, rfl, _, rfl, .ref a, r, [i, j], rfl, (show RowAt H r (.ref a) from ⟨a, xs, rfl, ha, hps⟩).mono (STup.of s1), by omega, (show 2 ≤ 1000 by decide), fun H2 u2 s2 hu2 => ?_⟩
  obtain ⟨w2, ws, rfl, hw2, hws⟩ := hu2
  have lw := PartsAt.len hws
  have lw2 := wo_len [i, j] r 0
  have lw3 : (wo [i, j] r).length ≤ r.length := lw2
  have s02 := s1.trans s2
  refine ⟨w2, ws, rfl, SqT.of hw2, _, rfl, d, zs, rfl, SqT.of (s2 _ _ hd), ?_, fun t2 nt2 => ⟨(show 2 ≤ sizeLine by decide), fun t3 nt3 => ?_⟩⟩
  · simp only [List.length_append, List.append_nil]
    exact Nat.le_trans (show ws.length + zs.length ≤ 2000 by omega) (show 2000 ≤ sizeLine by decide)
  have hP : PartsAt H2 (wo [i, j] r ++ (frdR n m (calledR x c s0)).2) (ws ++ (zs ++ [])) := by
    rw [List.append_nil]
    exact PartsAt.app (PartsAt.mono (STup.of s2) _ _ hzs) hws
  have ss := (same_new (o := HO.tup (ws ++ (zs ++ []))) nt2).trans (same_new (o := HO.tup [.int ((frdR n m (calledR x c s0)).1 : Nat), .ref t2]) nt3)
  exact q _ _ (s02.trans ss) ⟨t3, .ref t2, rfl, upd_same, t2, _, rfl, kn upd_same nt3, PartsAt.mono (STup.of ss) _ _ hP⟩
theorem ok_spent {f fF fW fR : Addr} {fd fdF fdR : FuncData} {n k : Nat} (F : Fun K "deed_spent" "deed_spent" sSpent f fd)
    (GF : FnOk P w K mg base CX0 (k + 1) fF fdF ["number", "row"] (spFreed n)) (bF : Binds K fdF ["number", "row"] []) (kF : PySem.W.keepIn K (.ref fF) = true) (mF : mg "freed" = some (.ref fF))
    (GW : FnR P w K mg base CX0 1 fW spWithout) (kW : PySem.W.keepIn K (.ref fW) = true) (mW : mg "without" = some (.ref fW))
    (GR : FnOk P w K mg base CX0 1 fR fdR psWR spWithRow) (bR : Binds K fdR psWR []) (kR : PySem.W.keepIn K (.ref fR) = true) (mR : mg "with_row" = some (.ref fR)) :
    FnOk P w K mg base CX0 (k + 2) f fd ["number", "room", "d"] (spSpent n) := by
  refine F.ok scSpent (fun vs H Q E h => ?_) (fun cdv A outer s H vs Q E hr h => ?_)
  · obtain ⟨_, _, _, _, _, _, _, _, rfl, _⟩ := h
    rfl
  obtain ⟨m, i, v, w0, c, wd, t0, s0, rfl, hP0, lt, hi, fr, q⟩ := h
  have r1 : Room 1 _ := hr.mono (by omega)
  refine ⟨_, pss_cons (ps_asg (pe_call GF hr (by rfl) mF kF bF .nil pass0 (pa_cons (pv 0) (pa_cons (pe_ix ix_tup (pe_ix ix_tup (pe_ix ix_tup (pv 1) pe_int (fun _ _ => rfl)) (pv 2) (fun _ _ => rfl)) pe_int (fun _ _ => rfl)) pa_nil))) (pg_tup rfl (pgs_cons (pg_name (i := 0) scSpent.nd rfl (.inl rfl)) (pgs_cons (pg_name (i := 3) scSpent.nd rfl (.inl rfl)) pgs_nil))))
    (pss_one (ps_ret (pe_tup (pa_cons (pv 0) (pa_cons (pe_call GR r1 (by rfl) mR kR bR .nil pass0 (pa_cons (pv 1) (pa_cons (pe_tup (pa_star (pe_callR GW r1 (by rfl) mW kW pass0 (pa_cons (pe_ix ix_tup (pv 1) pe_int (fun _ _ => rfl)) (pa_cons (pv 2) pa_nil))) (pa_star (pv 3) pa_nil))) pa_nil))) pa_nil))))), ?_⟩
  have hP00 := hP0
  obtain ⟨a, b, xs, rfl, ha, hb, hps⟩ := hP0
  obtain ⟨y, hy, hpy⟩ := PartsAt.at hps hi
  obtain ⟨b1, d1, ys1, rfl, hb1, hd1, hys1⟩ := hpy
  have f1 := fr.size
  refine ⟨_, rfl, _, rfl, a, _, 2, _, rfl, rfl, SqT.of ha, atI_nat (j := 2) rfl, _, rfl, b, xs, _, _, rfl, rfl, SqT.of hb, atI_nat (j := i) hy, b1, _, 2, _, rfl, rfl, SqT.of hb1, atI_nat (j := 2) rfl, m, .ref d1, s0, rfl, ⟨d1, ys1, rfl, hd1, hys1⟩, fr.deep, by omega, fr.gd, fr.num, fun H1 u s1 hu => ?_⟩
  obtain ⟨t, ru, rfl, ht, d, zs, rfl, hd, hzs⟩ := hu
  have lz := PartsAt.len hzs
  have lz2 := fr.len
  refine ⟨t, _, rfl, SqT.of ht, rfl, _, _, rfl, _, _, rfl, rfl, ?_⟩
  refine ⟨_, rfl, _, rfl, _, rfl, a, _, 2, _, rfl, rfl, SqT.of (s1 _ _ ha), atI_nat (j := 2) rfl, _, rfl, .ref b, t0, [i], rfl, (show RowAt H t0 (.ref b) from ⟨b, xs, rfl, hb, hps⟩).mono (STup.of s1), by omega, (show 1 ≤ 1000 by decide), fun H2 u2 s2 hu2 => ?_⟩
  obtain ⟨w2, ws, rfl, hw2, hws⟩ := hu2
  have lw := PartsAt.len hws
  have lw2 := wo_len [i] t0 0
  have lw3 : (wo [i] t0).length ≤ t0.length := lw2
  have s02 := s1.trans s2
  refine ⟨w2, ws, rfl, SqT.of hw2, _, rfl, d, zs, rfl, SqT.of (s2 _ _ hd), ?_, fun t2 nt2 => ?_⟩
  · simp only [List.length_append, List.append_nil]
    exact Nat.le_trans (show ws.length + zs.length ≤ 2000 by omega) (show 2000 ≤ sizeLine by decide)
  have hP : PartsAt H2 (wo [i] t0 ++ (frdR n m s0).2) (ws ++ (zs ++ [])) := by
    rw [List.append_nil]
    exact PartsAt.app (PartsAt.mono (STup.of s2) _ _ hzs) hws
  have sn := same_new (o := HO.tup (ws ++ (zs ++ []))) nt2
  refine ⟨_, .ref t2, .room, w0, t0, _, rfl, PartAt.mono (STup.of (s02.trans sn)) _ _ hP00, ⟨t2, _, rfl, upd_same, PartsAt.mono (STup.of sn) _ _ hP⟩, fun H3 u3 s3 hu3 => ?_⟩
  refine ⟨(show 2 ≤ sizeLine by decide), fun t3 nt3 => ?_⟩
  exact q _ t3 u3 (s02.trans (sn.trans (s3.trans (same_new nt3)))) upd_same (PartAt.mono (STup.new nt3) _ _ hu3)
theorem ok_gin {f fP fW fR fT fS : Addr} {fd fdP fdR fdT fdS : FuncData} {n k : Nat} (F : Fun K "gone_in" "gone_in" sIn f fd)
    (GP : FnOk P w K mg base CX0 1 fP fdP psPA spPartAt) (bP : Binds K fdP psPA []) (kP : PySem.W.keepIn K (.ref fP) = true) (mP : mg "part_at" = some (.ref fP))
    (GW : FnR P w K mg base CX0 1 fW spWithout) (kW : PySem.W.keepIn K (.ref fW) = true) (mW : mg "without" = some (.ref fW))
    (GR : FnOk P w K mg base CX0 1 fR fdR psWR spWithRow) (bR : Binds K fdR psWR []) (kR : PySem.W.keepIn K (.ref fR) = true) (mR : mg "with_row" = some (.ref fR))
    (GT : FnOk P w K mg base CX0 1 fT fdT psWP spWithPart) (bT : Binds K fdT psWP []) (kT : PySem.W.keepIn K (.ref fT) = true) (mT : mg "with_part" = some (.ref fT))
    (GS : FnOk P w K mg base CX0 (k + 2) fS fdS ["number", "room", "d"] (spSpent n)) (bS : Binds K fdS ["number", "room", "d"] []) (kS : PySem.W.keepIn K (.ref fS) = true) (mS : mg "deed_spent" = some (.ref fS)) :
    FnOk P w K mg base CX0 (k + 3) f fd ["number", "row", "k", "d", "j"] (spMvG (OkIn n)) := by
  refine F.ok scIn (fun vs H Q E h => ?_) (fun cdv A outer s H vs Q E hr h => ?_)
  · obtain ⟨_, _, _, _, _, rfl, _, _, ⟨_, _, _, _, _, _, _, _, rfl, _⟩, _⟩ := h
    rfl
  obtain ⟨m, v, r, pl, o, rfl, hR, lr, ⟨i, d, j, w0, c, t0, u0, s0, rfl, nij, hi, hj, hd, lt, lu, fr, rfl⟩, q⟩ := h
  have r1 : Room 1 _ := hr.mono (by omega)
  refine ⟨_, pss_cons (ps_set (i := 5) scIn.nd rfl (.inl rfl) (pe_call GP r1 (by rfl) mP kP bP .nil pass0 (pa_cons (pv 1) (pa_cons (pv 2) (pa_cons pe_str pa_nil)))))
    (pss_cons (ps_set (i := 6) scIn.nd rfl (.inl rfl) (pe_call GP r1 (by rfl) mP kP bP .nil pass0 (pa_cons (pv 1) (pa_cons (pv 4) (pa_cons pe_str pa_nil)))))
    (pss_cons (ps_if (PW.pt (pw_or (pt_cmp (pc_isN (pv 5))) (pw_or (pt_cmp (pc_isN (pv 6))) (pw_or1 (pt_cmpR op_eq (pv 2) (pv 4) (nomark _)))))) (pss_one (ps_ret pe_non)) pss_nil)
    (pss_cons (ps_set (i := 7) scIn.nd rfl (.inl rfl) (pe_call GP r1 (by rfl) mP kP bP .nil pass0 (pa_cons (pe_ix ix_tup (pv 5) pe_int (fun _ _ => rfl)) (pa_cons (pv 3) (pa_cons pe_str pa_nil)))))
    (pss_cons (ps_if (PW.pt (pw_or (pt_cmp (pc_isN (pv 7))) (pw_or1 (pt_cmpR op_ne (pe_ix ix_tup (pv 7) pe_int (fun _ _ => rfl)) (pe_ix ix_tup (pv 6) pe_int (fun _ _ => rfl)) (nomark _))))) (pss_one (ps_ret pe_non)) pss_nil)
    (pss_cons (ps_asg (pe_call GS hr (by rfl) mS kS bS .nil pass0 (pa_cons (pv 0) (pa_cons (pv 5) (pa_cons (pv 3) pa_nil)))) (pg_tup rfl (pgs_cons (pg_name (i := 0) scIn.nd rfl (.inl rfl)) (pgs_cons (pg_name (i := 8) scIn.nd rfl (.inl rfl)) pgs_nil))))
    (pss_one (ps_ret (pe_tup (pa_cons (pv 0) (pa_cons (pe_callR GW r1 (by rfl) mW kW pass0 (pa_cons (pe_call GT r1 (by rfl) mT kT bT .nil pass0 (pa_cons (pv 1) (pa_cons (pv 4) (pa_cons (pe_call GR r1 (by rfl) mR kR bR .nil pass0 (pa_cons (pv 6) (pa_cons (pe_tup (pa_star (pe_ix ix_tup (pv 6) pe_int (fun _ _ => rfl)) (pa_cons (pv 8) pa_nil))) pa_nil))) pa_nil)))) (pa_cons (pv 2) pa_nil))) pa_nil)))))))))), ?_⟩
  obtain ⟨a, xs, rfl, ha, hps⟩ := hR
  refine ⟨_, rfl, _, rfl, partAt_get (E := E0) ha hps (by omega) hi rfl fun v1 _ hv1 => ?_⟩
  refine ⟨_, rfl, _, rfl, partAt_get (E := E0) ha hps (by omega) hj rfl fun v2 _ hv2 => ?_⟩
  have hv1' := hv1
  have hv2' := hv2
  obtain ⟨b1, d1, ys1, rfl, hb1, hd1, hys1⟩ := hv1
  obtain ⟨b2, d2, ys2, rfl, hb2, hd2, hys2⟩ := hv2
  refine ⟨_, rfl, _, rfl, iteF ⟨_, rfl, _, rfl, iteF ?_⟩⟩
  refine ⟨_, rfl, _, rfl, rfl, _, rfl, iteD (decide_eq_false fun z => nij (Int.ofNat.inj (V.int.inj z))) ?_⟩
  refine ⟨_, rfl, b1, _, 2, _, rfl, rfl, SqT.of hb1, atI_nat (j := 2) rfl, _, rfl, partAt_get (E := E0) hd1 hys1 (by omega) hd rfl fun v3 _ hv3 => ?_⟩
  obtain ⟨b3, d3, ys3, rfl, hb3, hd3, hys3⟩ := hv3
  refine ⟨_, rfl, _, rfl, iteF ?_⟩
  refine ⟨_, rfl, b3, _, 1, _, rfl, rfl, SqT.of hb3, atI_nat (j := 1) rfl, _, rfl, b2, _, 1, _, rfl, rfl, SqT.of hb2, atI_nat (j := 1) rfl, rfl, _, rfl, iteD (by rw [decide_eq_true rfl]; rfl) ?_⟩
  refine ⟨_, rfl, _, rfl, _, rfl, m, d, .ref b1, w0, c, .inn, t0, s0, rfl, hv1', lt, hd, fr, fun H1 a1 u1 s1 ha1 hu1 => ?_⟩
  refine ⟨a1, _, rfl, SqT.of ha1, rfl, _, _, rfl, _, _, rfl, rfl, ?_⟩
  have ly := PartsAt.len hys2
  refine ⟨_, rfl, _, rfl, _, rfl, _, rfl, _, rfl, b2, _, 2, _, rfl, rfl, SqT.of (s1 _ _ hb2), atI_nat (j := 2) rfl, d2, ys2, rfl, SqT.of (s1 _ _ hd2), _, rfl, ?_, fun t2 nt2 => ?_⟩
  · rw [List.length_append]
    exact Nat.le_trans (show ys2.length + 1 ≤ 2000 by omega) (show 2000 ≤ sizeLine by decide)
  have hP : PartsAt H1 (u0 ++ [.oth .room w0 (wo [d] t0 ++ (frdR n m s0).2)]) (ys2 ++ [u1]) := PartsAt.app (PartsAt.one hu1) (PartsAt.mono (STup.of s1) _ _ hys2)
  have sn := same_new (o := HO.tup (ys2 ++ [u1])) nt2
  refine ⟨_, .ref t2, .room, c, u0, _, rfl, PartAt.mono (STup.of (s1.trans sn)) _ _ hv2', ⟨t2, _, rfl, upd_same, PartsAt.mono (STup.of sn) _ _ hP⟩, fun H3 u3 s3 hu3 => ?_⟩
  have s03 := s1.trans (sn.trans s3)
  refine ⟨.ref a, u3, r, j, _, rfl, (show RowAt H r (.ref a) from ⟨a, xs, rfl, ha, hps⟩).mono (STup.of s03), by omega, (List.getElem?_eq_some_iff.mp hj).1, hu3, fun H4 u4 s4 hu4 => ?_⟩
  refine ⟨_, rfl, u4, _, [i], rfl, hu4, by rw [List.length_set]; omega, (show 1 ≤ 1000 by decide), fun H5 u5 s5 hu5 => ?_⟩
  refine ⟨(show 2 ≤ sizeLine by decide), fun t3 nt3 => ?_⟩
  exact q _ _ (s03.trans (s4.trans (s5.trans (same_new nt3)))) ⟨t3, u5, rfl, upd_same, hu5.mono (STup.new nt3)⟩
theorem ok_gout {f fP fW fR fT fS : Addr} {fd fdP fdR fdT fdS : FuncData} {n k : Nat} (F : Fun K "gone_out" "gone_out" sOut f fd)
    (GP : FnOk P w K mg base CX0 1 fP fdP psPA spPartAt) (bP : Binds K fdP psPA []) (kP : PySem.W.keepIn K (.ref fP) = true) (mP : mg "part_at" = some (.ref fP))
    (GW : FnR P w K mg base CX0 1 fW spWithout) (kW : PySem.W.keepIn K (.ref fW) = true) (mW : mg "without" = some (.ref fW))
    (GR : FnOk P w K mg base CX0 1 fR fdR psWR spWithRow) (bR : Binds K fdR psWR []) (kR : PySem.W.keepIn K (.ref fR) = true) (mR : mg "with_row" = some (.ref fR))
    (GT : FnOk P w K mg base CX0 1 fT fdT psWP spWithPart) (bT : Binds K fdT psWP []) (kT : PySem.W.keepIn K (.ref fT) = true) (mT : mg "with_part" = some (.ref fT))
    (GS : FnOk P w K mg base CX0 (k + 2) fS fdS ["number", "room", "d"] (spSpent n)) (bS : Binds K fdS ["number", "room", "d"] []) (kS : PySem.W.keepIn K (.ref fS) = true) (mS : mg "deed_spent" = some (.ref fS)) :
    FnOk P w K mg base CX0 (k + 3) f fd ["number", "row", "k", "j", "d"] (spMvG (OkOut n)) := by
  refine F.ok scOut (fun vs H Q E h => ?_) (fun cdv A outer s H vs Q E hr h => ?_)
  · obtain ⟨_, _, _, _, _, rfl, _, _, ⟨_, _, _, _, _, _, _, _, rfl, _⟩, _⟩ := h
    rfl
  obtain ⟨m, v, r, pl, o, rfl, hR, lr, ⟨i, j, d, w0, c, t0, u0, s0, rfl, hi, hj, hd, lt, lu, fr, rfl⟩, q⟩ := h
  have r1 : Room 1 _ := hr.mono (by omega)
  refine ⟨_, pss_cons (ps_set (i := 5) scOut.nd rfl (.inl rfl) (pe_call GP r1 (by rfl) mP kP bP .nil pass0 (pa_cons (pv 1) (pa_cons (pv 2) (pa_cons pe_str pa_nil)))))
    (pss_cons (ps_if (pt_cmp (pc_isN (pv 5))) (pss_one (ps_ret pe_non)) pss_nil)
    (pss_cons (ps_set (i := 6) scOut.nd rfl (.inl rfl) (pe_call GP r1 (by rfl) mP kP bP .nil pass0 (pa_cons (pe_ix ix_tup (pv 5) pe_int (fun _ _ => rfl)) (pa_cons (pv 3) (pa_cons pe_str pa_nil)))))
    (pss_cons (ps_if (pt_cmp (pc_isN (pv 6))) (pss_one (ps_ret pe_non)) pss_nil)
    (pss_cons (ps_set (i := 7) scOut.nd rfl (.inl rfl) (pe_call GP r1 (by rfl) mP kP bP .nil pass0 (pa_cons (pe_ix ix_tup (pv 6) pe_int (fun _ _ => rfl)) (pa_cons (pv 4) (pa_cons pe_str pa_nil)))))
    (pss_cons (ps_if (PW.pt (pw_or (pt_cmp (pc_isN (pv 7))) (pw_or1 (pt_cmpR op_ne (pe_ix ix_tup (pv 7) pe_int (fun _ _ => rfl)) (pe_ix ix_tup (pv 5) pe_int (fun _ _ => rfl)) (nomark _))))) (pss_one (ps_ret pe_non)) pss_nil)
    (pss_cons (ps_asg (pe_call GS hr (by rfl) mS kS bS .nil pass0 (pa_cons (pv 0) (pa_cons (pv 6) (pa_cons (pv 4) pa_nil)))) (pg_tup rfl (pgs_cons (pg_name (i := 0) scOut.nd rfl (.inl rfl)) (pgs_cons (pg_name (i := 8) scOut.nd rfl (.inl rfl)) pgs_nil))))
    (pss_one (ps_ret (pe_tup (pa_cons (pv 0) (pa_cons (pe_tup (pa_star (pe_call GT r1 (by rfl) mT kT bT .nil pass0 (pa_cons (pv 1) (pa_cons (pv 2) (pa_cons (pe_call GR r1 (by rfl) mR kR bR .nil pass0 (pa_cons (pv 5) (pa_cons (pe_callR GW r1 (by rfl) mW kW pass0 (pa_cons (pe_ix ix_tup (pv 5) pe_int (fun _ _ => rfl)) (pa_cons (pv 3) pa_nil))) pa_nil))) pa_nil)))) (pa_cons (pv 8) pa_nil))) pa_nil))))))))))), ?_⟩
  obtain ⟨a, xs, rfl, ha, hps⟩ := hR
  refine ⟨_, rfl, _, rfl, partAt_get (E := E0) ha hps (by omega) hi rfl fun v1 _ hv1 => ?_⟩
  have hv1' := hv1
  obtain ⟨b1, d1, ys1, rfl, hb1, hd1, hys1⟩ := hv1
  refine ⟨_, rfl, _, rfl, iteF ?_⟩
  refine ⟨_, rfl, b1, _, 2, _, rfl, rfl, SqT.of hb1, atI_nat (j := 2) rfl, _, rfl, partAt_get (E := E0) hd1 hys1 (by omega) hj rfl fun v2 _ hv2 => ?_⟩
  have hv2' := hv2
  obtain ⟨b2, d2, ys2, rfl, hb2, hd2, hys2⟩ := hv2
  refine ⟨_, rfl, _, rfl, iteF ?_⟩
  refine ⟨_, rfl, b2, _, 2, _, rfl, rfl, SqT.of hb2, atI_nat (j := 2) rfl, _, rfl, partAt_get (E := E0) hd2 hys2 (by omega) hd rfl fun v3 _ hv3 => ?_⟩
  obtain ⟨b3, d3, ys3, rfl, hb3, hd3, hys3⟩ := hv3
  refine ⟨_, rfl, _, rfl, iteF ?_⟩
  refine ⟨_, rfl, b3, _, 1, _, rfl, rfl, SqT.of hb3, atI_nat (j := 1) rfl, _, rfl, b1, _, 1, _, rfl, rfl, SqT.of hb1, atI_nat (j := 1) rfl, rfl, _, rfl, iteD (by rw [decide_eq_true rfl]; rfl) ?_⟩
  refine ⟨_, rfl, _, rfl, _, rfl, m, d, .ref b2, w0, c, .out, u0, s0, rfl, hv2', lu, hd, fr, fun H1 a1 u1 s1 ha1 hu1 => ?_⟩
  refine ⟨a1, _, rfl, SqT.of ha1, rfl, _, _, rfl, _, _, rfl, rfl, ?_⟩
  refine ⟨_, rfl, _, rfl, _, rfl, _, rfl, _, rfl, b1, _, 2, _, rfl, rfl, SqT.of (s1 _ _ hb1), atI_nat (j := 2) rfl, _, rfl, .ref d1, t0, [j], rfl, (show RowAt H t0 (.ref d1) from ⟨d1, ys1, rfl, hd1, hys1⟩).mono (STup.of s1), by omega, (show 1 ≤ 1000 by decide), fun H2 u2 s2 hu2 => ?_⟩
  have s02 := s1.trans s2
  refine ⟨_, u2, .room, c, t0, _, rfl, PartAt.mono (STup.of s02) _ _ hv1', hu2, fun H3 u3 s3 hu3 => ?_⟩
  have s03 := s02.trans s3
  refine ⟨.ref a, u3, r, i, _, rfl, (show RowAt H r (.ref a) from ⟨a, xs, rfl, ha, hps⟩).mono (STup.of s03), by omega, (List.getElem?_eq_some_iff.mp hi).1, hu3, fun H4 u4 s4 hu4 => ?_⟩
  obtain ⟨w4, ws, rfl, hw4, hws⟩ := hu4
  have lw := PartsAt.len hws
  rw [List.length_set] at lw
  refine ⟨w4, ws, rfl, SqT.of hw4, _, rfl, ?_, fun t2 nt2 => ⟨(show 2 ≤ sizeLine by decide), fun t3 nt3 => ?_⟩⟩
  · rw [List.length_append]
    exact Nat.le_trans (show ws.length + 1 ≤ 2000 by omega) (show 2000 ≤ sizeLine by decide)
  have s14 := s2.trans (s3.trans s4)
  have hP : PartsAt H4 (r.set i (.oth .room c (wo [j] t0)) ++ [.oth .room w0 (wo [d] u0 ++ (frdR n m s0).2)]) (ws ++ [u1]) := PartsAt.app (PartsAt.one (PartAt.mono (STup.of s14) _ _ hu1)) hws
  have ss := (same_new (o := HO.tup (ws ++ [u1])) nt2).trans (same_new (o := HO.tup [.int ((frdR n m s0).1 : Nat), .ref t2]) nt3)
  exact q _ _ (s1.trans (s14.trans ss)) ⟨t3, .ref t2, rfl, upd_same, t2, _, rfl, kn upd_same nt3, PartsAt.mono (STup.of ss) _ _ hP⟩
end
end K19

set_option Elab.async false
set_option linter.all false
set_option maxRecDepth 100000
set_option maxHeartbeats 2000000
namespace K19
open PySem PySem.Spec PyProof.Rows L2 Wk GxR
theorem all_mk {l : PySem.W.OpenLaw} {w : World} {K : PySem.W.Frag} {h : Heap} {mg : Str → Option Value} {fa f1 f2 f3 f4 f5 f6 f7 f8 f9 f10 f11 f12 f13 f14 f15 f16 f17 f18 f19 f20 f21 f22 f23 f24 f25 f26 f27 f28 f29 f30 f31 f32 f33 f34 f35 f36 f37 f38 f39 f40 f41 f42 f43 f44 f45 f46 f47 f48 f49 f50 t1 t2 cc2 T2 cc8 T8 cc35 T35 : Addr} (X : K.In h) (G : h.Ns mainGlobals mg) (hfa : mg "law" = some (.ref fa))
    {od1 an1 od2 an2 od3 an3 od4 an4 od5 an5 od6 an6 od7 an7 od8 an8 od9 an9 od10 an10 od11 an11 od12 an12 od13 an13 od14 an14 od15 an15 od16 an16 od17 an17 od18 an18 od19 an19 od20 an20 od21 an21 od22 an22 od23 an23 od24 an24 od25 an25 od26 an26 od27 an27 od28 an28 od29 an29 od30 an30 od31 an31 od32 an32 od33 an33 od34 an34 od35 an35 od36 an36 od37 an37 od38 an38 od39 an39 od40 an40 od41 an41 od42 an42 od43 an43 od44 an44 od45 an45 od46 an46 od47 an47 od48 an48 od49 an49 od50 an50 : Option Addr} {sl1 sl2 sl3 sl4 sl5 sl6 sl7 sl8 sl9 sl10 sl11 sl12 sl13 sl14 sl15 sl16 sl17 sl18 sl19 sl20 sl21 sl22 sl23 sl24 sl25 sl26 sl27 sl28 sl29 sl30 sl31 sl32 sl33 sl34 sl35 sl36 sl37 sl38 sl39 sl40 sl41 sl42 sl43 sl44 sl45 sl46 sl47 sl48 sl49 sl50 : Array (Option Value)} {oc1 kV1 dc1 pm1 cd1 ct1 oc2 kV2 dc2 pm2 ct2 oc3 kV3 dc3 pm3 cd3 ct3 oc4 kV4 dc4 pm4 cd4 ct4 oc5 kV5 dc5 pm5 cd5 ct5 oc6 kV6 dc6 pm6 cd6 ct6 oc7 kV7 dc7 pm7 cd7 ct7 oc8 kV8 dc8 pm8 ct8 oc9 kV9 dc9 pm9 cd9 ct9 oc10 kV10 dc10 pm10 cd10 ct10 oc11 kV11 dc11 pm11 cd11 ct11 oc12 kV12 dc12 pm12 cd12 ct12 oc13 kV13 dc13 pm13 cd13 ct13 oc14 kV14 dc14 pm14 cd14 ct14 oc15 kV15 dc15 pm15 cd15 ct15 oc16 kV16 dc16 pm16 cd16 ct16 oc17 kV17 dc17 pm17 cd17 ct17 oc18 kV18 dc18 pm18 cd18 ct18 oc19 kV19 dc19 pm19 cd19 ct19 oc20 kV20 dc20 pm20 cd20 ct20 oc21 kV21 dc21 pm21 cd21 ct21 oc22 kV22 dc22 pm22 cd22 ct22 oc23 kV23 dc23 pm23 cd23 ct23 oc24 kV24 dc24 pm24 cd24 ct24 oc25 kV25 dc25 pm25 cd25 ct25 oc26 kV26 dc26 pm26 cd26 ct26 oc27 kV27 dc27 pm27 cd27 ct27 oc28 kV28 dc28 pm28 cd28 ct28 oc29 kV29 dc29 pm29 cd29 ct29 oc30 kV30 dc30 pm30 cd30 ct30 oc31 kV31 dc31 pm31 cd31 ct31 oc32 kV32 dc32 pm32 cd32 ct32 oc33 kV33 dc33 pm33 cd33 ct33 oc34 kV34 dc34 pm34 cd34 ct34 oc35 kV35 dc35 pm35 ct35 oc36 kV36 dc36 pm36 cd36 ct36 oc37 kV37 dc37 pm37 cd37 ct37 oc38 kV38 dc38 pm38 cd38 ct38 oc39 kV39 dc39 pm39 cd39 ct39 oc40 kV40 dc40 pm40 cd40 ct40 oc41 kV41 dc41 pm41 cd41 ct41 oc42 kV42 dc42 pm42 cd42 ct42 oc43 kV43 dc43 pm43 cd43 ct43 oc44 kV44 dc44 pm44 cd44 ct44 oc45 kV45 dc45 pm45 cd45 ct45 oc46 kV46 dc46 pm46 cd46 ct46 oc47 kV47 dc47 pm47 cd47 ct47 oc48 kV48 dc48 pm48 cd48 ct48 oc49 kV49 dc49 pm49 cd49 ct49 oc50 kV50 dc50 pm50 cd50 ct50 : Value}
    (a1 : PySem.W.nsIn K mainGlobals "is_name" = some (some (.ref f1)))
    (l1 : K.lookup f1 = some ⟨oc1, od1, .func (PySem.W.fnOf "is_name" "is_name" (defArgs sIsName) (defBody sIsName) (defScope sIsName) .none kV1 dc1 pm1 an1 cd1 ct1), sl1⟩)
    (c1 : PySem.W.codeIn K cd1 "is_name" = true) (k1 : PySem.W.keepIn K (.ref f1) = true)
    (a2 : PySem.W.nsIn K mainGlobals "consists_of" = some (some (.ref f2)))
    (l2 : K.lookup f2 = some ⟨oc2, od2, .func (PySem.W.fnOf "consists_of" "consists_of" (defArgs sCons) (defBody sCons) (defScope sCons) .none kV2 dc2 pm2 an2 (.ref cc2) ct2), sl2⟩)
    (c2 : PySem.W.codeIn K (.ref cc2) "consists_of" = true) (k2 : PySem.W.keepIn K (.ref f2) = true)
    (a3 : PySem.W.nsIn K mainGlobals "has_form" = some (some (.ref f3)))
    (l3 : K.lookup f3 = some ⟨oc3, od3, .func (PySem.W.fnOf "has_form" "has_form" (defArgs sForm) (defBody sForm) (defScope sForm) .none kV3 dc3 pm3 an3 cd3 ct3), sl3⟩)
    (c3 : PySem.W.codeIn K cd3 "has_form" = true) (k3 : PySem.W.keepIn K (.ref f3) = true)
    (a4 : PySem.W.nsIn K mainGlobals "calling_of" = some (some (.ref f4)))
    (l4 : K.lookup f4 = some ⟨oc4, od4, .func (PySem.W.fnOf "calling_of" "calling_of" (defArgs sCalling) (defBody sCalling) (defScope sCalling) .none kV4 dc4 pm4 an4 cd4 ct4), sl4⟩)
    (c4 : PySem.W.codeIn K cd4 "calling_of" = true) (k4 : PySem.W.keepIn K (.ref f4) = true)
    (a5 : PySem.W.nsIn K mainGlobals "rest_of" = some (some (.ref f5)))
    (l5 : K.lookup f5 = some ⟨oc5, od5, .func (PySem.W.fnOf "rest_of" "rest_of" (defArgs sRest) (defBody sRest) (defScope sRest) .none kV5 dc5 pm5 an5 cd5 ct5), sl5⟩)
    (c5 : PySem.W.codeIn K cd5 "rest_of" = true) (k5 : PySem.W.keepIn K (.ref f5) = true)
    (a6 : PySem.W.nsIn K mainGlobals "is_binder" = some (some (.ref f6)))
    (l6 : K.lookup f6 = some ⟨oc6, od6, .func (PySem.W.fnOf "is_binder" "is_binder" (defArgs sBinder) (defBody sBinder) (defScope sBinder) .none kV6 dc6 pm6 an6 cd6 ct6), sl6⟩)
    (c6 : PySem.W.codeIn K cd6 "is_binder" = true) (k6 : PySem.W.keepIn K (.ref f6) = true)
    (a7 : PySem.W.nsIn K mainGlobals "is_house" = some (some (.ref f7)))
    (l7 : K.lookup f7 = some ⟨oc7, od7, .func (PySem.W.fnOf "is_house" "is_house" (defArgs sHouse) (defBody sHouse) (defScope sHouse) .none kV7 dc7 pm7 an7 cd7 ct7), sl7⟩)
    (c7 : PySem.W.codeIn K cd7 "is_house" = true) (k7 : PySem.W.keepIn K (.ref f7) = true)
    (a8 : PySem.W.nsIn K mainGlobals "parts_within" = some (some (.ref f8)))
    (l8 : K.lookup f8 = some ⟨oc8, od8, .func (PySem.W.fnOf "parts_within" "parts_within" (defArgs sWithin) (defBody sWithin) (defScope sWithin) .none kV8 dc8 pm8 an8 (.ref cc8) ct8), sl8⟩)
    (c8 : PySem.W.codeIn K (.ref cc8) "parts_within" = true) (k8 : PySem.W.keepIn K (.ref f8) = true)
    (a9 : PySem.W.nsIn K mainGlobals "is_named_part" = some (some (.ref f9)))
    (l9 : K.lookup f9 = some ⟨oc9, od9, .func (PySem.W.fnOf "is_named_part" "is_named_part" (defArgs sNPart) (defBody sNPart) (defScope sNPart) .none kV9 dc9 pm9 an9 cd9 ct9), sl9⟩)
    (c9 : PySem.W.codeIn K cd9 "is_named_part" = true) (k9 : PySem.W.keepIn K (.ref f9) = true)
    (a10 : PySem.W.nsIn K mainGlobals "callings_of" = some (some (.ref f10)))
    (l10 : K.lookup f10 = some ⟨oc10, od10, .func (PySem.W.fnOf "callings_of" "callings_of" (defArgs sCallings) (defBody sCallings) (defScope sCallings) .none kV10 dc10 pm10 an10 cd10 ct10), sl10⟩)
    (c10 : PySem.W.codeIn K cd10 "callings_of" = true) (k10 : PySem.W.keepIn K (.ref f10) = true)
    (a11 : PySem.W.nsIn K mainGlobals "gather_callings" = some (some (.ref f11)))
    (l11 : K.lookup f11 = some ⟨oc11, od11, .func (PySem.W.fnOf "gather_callings" "gather_callings" (defArgs sGather) (defBody sGather) (defScope sGather) .none kV11 dc11 pm11 an11 cd11 ct11), sl11⟩)
    (c11 : PySem.W.codeIn K cd11 "gather_callings" = true) (k11 : PySem.W.keepIn K (.ref f11) = true)
    (a12 : PySem.W.nsIn K mainGlobals "called" = some (some (.ref f12)))
    (l12 : K.lookup f12 = some ⟨oc12, od12, .func (PySem.W.fnOf "called" "called" (defArgs sCalled) (defBody sCalled) (defScope sCalled) .none kV12 dc12 pm12 an12 cd12 ct12), sl12⟩)
    (c12 : PySem.W.codeIn K cd12 "called" = true) (k12 : PySem.W.keepIn K (.ref f12) = true)
    (a13 : PySem.W.nsIn K mainGlobals "part_called" = some (some (.ref f13)))
    (l13 : K.lookup f13 = some ⟨oc13, od13, .func (PySem.W.fnOf "part_called" "part_called" (defArgs sPCalled) (defBody sPCalled) (defScope sPCalled) .none kV13 dc13 pm13 an13 cd13 ct13), sl13⟩)
    (c13 : PySem.W.codeIn K cd13 "part_called" = true) (k13 : PySem.W.keepIn K (.ref f13) = true)
    (a14 : PySem.W.nsIn K mainGlobals "freed" = some (some (.ref f14)))
    (l14 : K.lookup f14 = some ⟨oc14, od14, .func (PySem.W.fnOf "freed" "freed" (defArgs sFreed) (defBody sFreed) (defScope sFreed) .none kV14 dc14 pm14 an14 cd14 ct14), sl14⟩)
    (c14 : PySem.W.codeIn K cd14 "freed" = true) (k14 : PySem.W.keepIn K (.ref f14) = true)
    (a15 : PySem.W.nsIn K mainGlobals "part_freed" = some (some (.ref f15)))
    (l15 : K.lookup f15 = some ⟨oc15, od15, .func (PySem.W.fnOf "part_freed" "part_freed" (defArgs sPFreed) (defBody sPFreed) (defScope sPFreed) .none kV15 dc15 pm15 an15 cd15 ct15), sl15⟩)
    (c15 : PySem.W.codeIn K cd15 "part_freed" = true) (k15 : PySem.W.keepIn K (.ref f15) = true)
    (a16 : PySem.W.nsIn K mainGlobals "settled" = some (some (.ref f16)))
    (l16 : K.lookup f16 = some ⟨oc16, od16, .func (PySem.W.fnOf "settled" "settled" (defArgs sSettled) (defBody sSettled) (defScope sSettled) .none kV16 dc16 pm16 an16 cd16 ct16), sl16⟩)
    (c16 : PySem.W.codeIn K cd16 "settled" = true) (k16 : PySem.W.keepIn K (.ref f16) = true)
    (a17 : PySem.W.nsIn K mainGlobals "_law_left" = some (some (.ref f17)))
    (l17 : K.lookup f17 = some ⟨oc17, od17, .func (PySem.W.fnOf "_law_left" "_law_left" (defArgs sLeft) (defBody sLeft) (defScope sLeft) .none kV17 dc17 pm17 an17 cd17 ct17), sl17⟩)
    (c17 : PySem.W.codeIn K cd17 "_law_left" = true) (k17 : PySem.W.keepIn K (.ref f17) = true)
    (a18 : PySem.W.nsIn K mainGlobals "_law_digit" = some (some (.ref f18)))
    (l18 : K.lookup f18 = some ⟨oc18, od18, .func (PySem.W.fnOf "_law_digit" "_law_digit" (defArgs sDigit) (defBody sDigit) (defScope sDigit) .none kV18 dc18 pm18 an18 cd18 ct18), sl18⟩)
    (c18 : PySem.W.codeIn K cd18 "_law_digit" = true) (k18 : PySem.W.keepIn K (.ref f18) = true)
    (a19 : PySem.W.nsIn K mainGlobals "_law_names" = some (some (.ref f19)))
    (l19 : K.lookup f19 = some ⟨oc19, od19, .func (PySem.W.fnOf "_law_names" "_law_names" (defArgs sNames) (defBody sNames) (defScope sNames) .none kV19 dc19 pm19 an19 cd19 ct19), sl19⟩)
    (c19 : PySem.W.codeIn K cd19 "_law_names" = true) (k19 : PySem.W.keepIn K (.ref f19) = true)
    (a20 : PySem.W.nsIn K mainGlobals "_law_part" = some (some (.ref f20)))
    (l20 : K.lookup f20 = some ⟨oc20, od20, .func (PySem.W.fnOf "_law_part" "_law_part" (defArgs sPart) (defBody sPart) (defScope sPart) .none kV20 dc20 pm20 an20 cd20 ct20), sl20⟩)
    (c20 : PySem.W.codeIn K cd20 "_law_part" = true) (k20 : PySem.W.keepIn K (.ref f20) = true)
    (a21 : PySem.W.nsIn K mainGlobals "_law_row" = some (some (.ref f21)))
    (l21 : K.lookup f21 = some ⟨oc21, od21, .func (PySem.W.fnOf "_law_row" "_law_row" (defArgs sRow) (defBody sRow) (defScope sRow) .none kV21 dc21 pm21 an21 cd21 ct21), sl21⟩)
    (c21 : PySem.W.codeIn K cd21 "_law_row" = true) (k21 : PySem.W.keepIn K (.ref f21) = true)
    (a22 : PySem.W.nsIn K mainGlobals "begins_with_word" = some (some (.ref f22)))
    (l22 : K.lookup f22 = some ⟨oc22, od22, .func (PySem.W.fnOf "begins_with_word" "begins_with_word" (defArgs sBegins) (defBody sBegins) (defScope sBegins) .none kV22 dc22 pm22 an22 cd22 ct22), sl22⟩)
    (c22 : PySem.W.codeIn K cd22 "begins_with_word" = true) (k22 : PySem.W.keepIn K (.ref f22) = true)
    (a23 : PySem.W.nsIn K mainGlobals "binds_well" = some (some (.ref f23)))
    (l23 : K.lookup f23 = some ⟨oc23, od23, .func (PySem.W.fnOf "binds_well" "binds_well" (defArgs sBinds) (defBody sBinds) (defScope sBinds) .none kV23 dc23 pm23 an23 cd23 ct23), sl23⟩)
    (c23 : PySem.W.codeIn K cd23 "binds_well" = true) (k23 : PySem.W.keepIn K (.ref f23) = true)
    (a24 : PySem.W.nsIn K mainGlobals "part_at" = some (some (.ref f24)))
    (l24 : K.lookup f24 = some ⟨oc24, od24, .func (PySem.W.fnOf "part_at" "part_at" (defArgs sPartAt) (defBody sPartAt) (defScope sPartAt) .none kV24 dc24 pm24 an24 cd24 ct24), sl24⟩)
    (c24 : PySem.W.codeIn K cd24 "part_at" = true) (k24 : PySem.W.keepIn K (.ref f24) = true)
    (a25 : PySem.W.nsIn K mainGlobals "row_at" = some (some (.ref f25)))
    (l25 : K.lookup f25 = some ⟨oc25, od25, .func (PySem.W.fnOf "row_at" "row_at" (defArgs sRowAt) (defBody sRowAt) (defScope sRowAt) .none kV25 dc25 pm25 an25 cd25 ct25), sl25⟩)
    (c25 : PySem.W.codeIn K cd25 "row_at" = true) (k25 : PySem.W.keepIn K (.ref f25) = true)
    (a26 : PySem.W.nsIn K mainGlobals "with_row" = some (some (.ref f26)))
    (l26 : K.lookup f26 = some ⟨oc26, od26, .func (PySem.W.fnOf "with_row" "with_row" (defArgs sWithRow) (defBody sWithRow) (defScope sWithRow) .none kV26 dc26 pm26 an26 cd26 ct26), sl26⟩)
    (c26 : PySem.W.codeIn K cd26 "with_row" = true) (k26 : PySem.W.keepIn K (.ref f26) = true)
    (a27 : PySem.W.nsIn K mainGlobals "with_part" = some (some (.ref f27)))
    (l27 : K.lookup f27 = some ⟨oc27, od27, .func (PySem.W.fnOf "with_part" "with_part" (defArgs sWithPart) (defBody sWithPart) (defScope sWithPart) .none kV27 dc27 pm27 an27 cd27 ct27), sl27⟩)
    (c27 : PySem.W.codeIn K cd27 "with_part" = true) (k27 : PySem.W.keepIn K (.ref f27) = true)
    (a28 : PySem.W.nsIn K mainGlobals "with_row_at" = some (some (.ref f28)))
    (l28 : K.lookup f28 = some ⟨oc28, od28, .func (PySem.W.fnOf "with_row_at" "with_row_at" (defArgs sPutAt) (defBody sPutAt) (defScope sPutAt) .none kV28 dc28 pm28 an28 cd28 ct28), sl28⟩)
    (c28 : PySem.W.codeIn K cd28 "with_row_at" = true) (k28 : PySem.W.keepIn K (.ref f28) = true)
    (a29 : PySem.W.nsIn K mainGlobals "rooms_called" = some (some (.ref f29)))
    (l29 : K.lookup f29 = some ⟨oc29, od29, .func (PySem.W.fnOf "rooms_called" "rooms_called" (defArgs sRooms) (defBody sRooms) (defScope sRooms) .none kV29 dc29 pm29 an29 cd29 ct29), sl29⟩)
    (c29 : PySem.W.codeIn K cd29 "rooms_called" = true) (k29 : PySem.W.keepIn K (.ref f29) = true)
    (a30 : PySem.W.nsIn K mainGlobals "goals_of" = some (some (.ref f30)))
    (l30 : K.lookup f30 = some ⟨oc30, od30, .func (PySem.W.fnOf "goals_of" "goals_of" (defArgs sGoals) (defBody sGoals) (defScope sGoals) .none kV30 dc30 pm30 an30 cd30 ct30), sl30⟩)
    (c30 : PySem.W.codeIn K cd30 "goals_of" = true) (k30 : PySem.W.keepIn K (.ref f30) = true)
    (a31 : PySem.W.nsIn K mainGlobals "leavers_of" = some (some (.ref f31)))
    (l31 : K.lookup f31 = some ⟨oc31, od31, .func (PySem.W.fnOf "leavers_of" "leavers_of" (defArgs sLeav) (defBody sLeav) (defScope sLeav) .none kV31 dc31 pm31 an31 cd31 ct31), sl31⟩)
    (c31 : PySem.W.codeIn K cd31 "leavers_of" = true) (k31 : PySem.W.keepIn K (.ref f31) = true)
    (a32 : PySem.W.nsIn K mainGlobals "gather_steps" = some (some (.ref f32)))
    (l32 : K.lookup f32 = some ⟨oc32, od32, .func (PySem.W.fnOf "gather_steps" "gather_steps" (defArgs sGaSt) (defBody sGaSt) (defScope sGaSt) .none kV32 dc32 pm32 an32 cd32 ct32), sl32⟩)
    (c32 : PySem.W.codeIn K cd32 "gather_steps" = true) (k32 : PySem.W.keepIn K (.ref f32) = true)
    (a33 : PySem.W.nsIn K mainGlobals "steps_of" = some (some (.ref f33)))
    (l33 : K.lookup f33 = some ⟨oc33, od33, .func (PySem.W.fnOf "steps_of" "steps_of" (defArgs sSteps) (defBody sSteps) (defScope sSteps) .none kV33 dc33 pm33 an33 cd33 ct33), sl33⟩)
    (c33 : PySem.W.codeIn K cd33 "steps_of" = true) (k33 : PySem.W.keepIn K (.ref f33) = true)
    (a34 : PySem.W.nsIn K mainGlobals "is_whole" = some (some (.ref f34)))
    (l34 : K.lookup f34 = some ⟨oc34, od34, .func (PySem.W.fnOf "is_whole" "is_whole" (defArgs sWhole) (defBody sWhole) (defScope sWhole) .none kV34 dc34 pm34 an34 cd34 ct34), sl34⟩)
    (c34 : PySem.W.codeIn K cd34 "is_whole" = true) (k34 : PySem.W.keepIn K (.ref f34) = true)
    (a35 : PySem.W.nsIn K mainGlobals "are_places" = some (some (.ref f35)))
    (l35 : K.lookup f35 = some ⟨oc35, od35, .func (PySem.W.fnOf "are_places" "are_places" (defArgs sPlaces) (defBody sPlaces) (defScope sPlaces) .none kV35 dc35 pm35 an35 (.ref cc35) ct35), sl35⟩)
    (c35 : PySem.W.codeIn K (.ref cc35) "are_places" = true) (k35 : PySem.W.keepIn K (.ref f35) = true)
    (a36 : PySem.W.nsIn K mainGlobals "has_step_form" = some (some (.ref f36)))
    (l36 : K.lookup f36 = some ⟨oc36, od36, .func (PySem.W.fnOf "has_step_form" "has_step_form" (defArgs sStForm) (defBody sStForm) (defScope sStForm) .none kV36 dc36 pm36 an36 cd36 ct36), sl36⟩)
    (c36 : PySem.W.codeIn K cd36 "has_step_form" = true) (k36 : PySem.W.keepIn K (.ref f36) = true)
    (a37 : PySem.W.nsIn K mainGlobals "without" = some (some (.ref f37)))
    (l37 : K.lookup f37 = some ⟨oc37, od37, .func (PySem.W.fnOf "without" "without" (defArgs sWithout) (defBody sWithout) (defScope sWithout) .none kV37 dc37 pm37 an37 cd37 ct37), sl37⟩)
    (c37 : PySem.W.codeIn K cd37 "without" = true) (k37 : PySem.W.keepIn K (.ref f37) = true)
    (a38 : PySem.W.nsIn K mainGlobals "deed_spent" = some (some (.ref f38)))
    (l38 : K.lookup f38 = some ⟨oc38, od38, .func (PySem.W.fnOf "deed_spent" "deed_spent" (defArgs sSpent) (defBody sSpent) (defScope sSpent) .none kV38 dc38 pm38 an38 cd38 ct38), sl38⟩)
    (c38 : PySem.W.codeIn K cd38 "deed_spent" = true) (k38 : PySem.W.keepIn K (.ref f38) = true)
    (a39 : PySem.W.nsIn K mainGlobals "gone_in" = some (some (.ref f39)))
    (l39 : K.lookup f39 = some ⟨oc39, od39, .func (PySem.W.fnOf "gone_in" "gone_in" (defArgs sIn) (defBody sIn) (defScope sIn) .none kV39 dc39 pm39 an39 cd39 ct39), sl39⟩)
    (c39 : PySem.W.codeIn K cd39 "gone_in" = true) (k39 : PySem.W.keepIn K (.ref f39) = true)
    (a40 : PySem.W.nsIn K mainGlobals "gone_out" = some (some (.ref f40)))
    (l40 : K.lookup f40 = some ⟨oc40, od40, .func (PySem.W.fnOf "gone_out" "gone_out" (defArgs sOut) (defBody sOut) (defScope sOut) .none kV40 dc40 pm40 an40 cd40 ct40), sl40⟩)
    (c40 : PySem.W.codeIn K cd40 "gone_out" = true) (k40 : PySem.W.keepIn K (.ref f40) = true)
    (a41 : PySem.W.nsIn K mainGlobals "opened" = some (some (.ref f41)))
    (l41 : K.lookup f41 = some ⟨oc41, od41, .func (PySem.W.fnOf "opened" "opened" (defArgs sOpened) (defBody sOpened) (defScope sOpened) .none kV41 dc41 pm41 an41 cd41 ct41), sl41⟩)
    (c41 : PySem.W.codeIn K cd41 "opened" = true) (k41 : PySem.W.keepIn K (.ref f41) = true)
    (a42 : PySem.W.nsIn K mainGlobals "heard" = some (some (.ref f42)))
    (l42 : K.lookup f42 = some ⟨oc42, od42, .func (PySem.W.fnOf "heard" "heard" (defArgs sHeard) (defBody sHeard) (defScope sHeard) .none kV42 dc42 pm42 an42 cd42 ct42), sl42⟩)
    (c42 : PySem.W.codeIn K cd42 "heard" = true) (k42 : PySem.W.keepIn K (.ref f42) = true)
    (a43 : PySem.W.nsIn K mainGlobals "done_again" = some (some (.ref f43)))
    (l43 : K.lookup f43 = some ⟨oc43, od43, .func (PySem.W.fnOf "done_again" "done_again" (defArgs sAgain) (defBody sAgain) (defScope sAgain) .none kV43 dc43 pm43 an43 cd43 ct43), sl43⟩)
    (c43 : PySem.W.codeIn K cd43 "done_again" = true) (k43 : PySem.W.keepIn K (.ref f43) = true)
    (a44 : PySem.W.nsIn K mainGlobals "moved_row" = some (some (.ref f44)))
    (l44 : K.lookup f44 = some ⟨oc44, od44, .func (PySem.W.fnOf "moved_row" "moved_row" (defArgs sMoved) (defBody sMoved) (defScope sMoved) .none kV44 dc44 pm44 an44 cd44 ct44), sl44⟩)
    (c44 : PySem.W.codeIn K cd44 "moved_row" = true) (k44 : PySem.W.keepIn K (.ref f44) = true)
    (a45 : PySem.W.nsIn K mainGlobals "step_done" = some (some (.ref f45)))
    (l45 : K.lookup f45 = some ⟨oc45, od45, .func (PySem.W.fnOf "step_done" "step_done" (defArgs sDone) (defBody sDone) (defScope sDone) .none kV45 dc45 pm45 an45 cd45 ct45), sl45⟩)
    (c45 : PySem.W.codeIn K cd45 "step_done" = true) (k45 : PySem.W.keepIn K (.ref f45) = true)
    (a46 : PySem.W.nsIn K mainGlobals "_law_lively" = some (some (.ref f46)))
    (l46 : K.lookup f46 = some ⟨oc46, od46, .func (PySem.W.fnOf "_law_lively" "_law_lively" (defArgs sLively) (defBody sLively) (defScope sLively) .none kV46 dc46 pm46 an46 cd46 ct46), sl46⟩)
    (c46 : PySem.W.codeIn K cd46 "_law_lively" = true) (k46 : PySem.W.keepIn K (.ref f46) = true)
    (a47 : PySem.W.nsIn K mainGlobals "_law_steps" = some (some (.ref f47)))
    (l47 : K.lookup f47 = some ⟨oc47, od47, .func (PySem.W.fnOf "_law_steps" "_law_steps" (defArgs sLSt) (defBody sLSt) (defScope sLSt) .none kV47 dc47 pm47 an47 cd47 ct47), sl47⟩)
    (c47 : PySem.W.codeIn K cd47 "_law_steps" = true) (k47 : PySem.W.keepIn K (.ref f47) = true)
    (a48 : PySem.W.nsIn K mainGlobals "_law_paths" = some (some (.ref f48)))
    (l48 : K.lookup f48 = some ⟨oc48, od48, .func (PySem.W.fnOf "_law_paths" "_law_paths" (defArgs sLPaths) (defBody sLPaths) (defScope sLPaths) .none kV48 dc48 pm48 an48 cd48 ct48), sl48⟩)
    (c48 : PySem.W.codeIn K cd48 "_law_paths" = true) (k48 : PySem.W.keepIn K (.ref f48) = true)
    (a49 : PySem.W.nsIn K mainGlobals "_law_right" = some (some (.ref f49)))
    (l49 : K.lookup f49 = some ⟨oc49, od49, .func (PySem.W.fnOf "_law_right" "_law_right" (defArgs sRight) (defBody sRight) (defScope sRight) .none kV49 dc49 pm49 an49 cd49 ct49), sl49⟩)
    (c49 : PySem.W.codeIn K cd49 "_law_right" = true) (k49 : PySem.W.keepIn K (.ref f49) = true)
    (a50 : PySem.W.nsIn K mainGlobals "law" = some (some (.ref f50)))
    (l50 : K.lookup f50 = some ⟨oc50, od50, .func (PySem.W.fnOf "law" "law" (defArgs sLaw) (defBody sLaw) (defScope sLaw) .none kV50 dc50 pm50 an50 cd50 ct50), sl50⟩)
    (c50 : PySem.W.codeIn K cd50 "law" = true) (k50 : PySem.W.keepIn K (.ref f50) = true)
    (z1 : PySem.W.nsIn K mainGlobals "abs" = some none)
    (z2 : PySem.W.nsIn K mainGlobals "range" = some none)
    (z3 : PySem.W.nsIn K mainGlobals "len" = some none)
    (z4 : PySem.W.nsIn K mainGlobals "int" = some none)
    (z5 : PySem.W.nsIn K mainGlobals "tuple" = some none)
    (z6 : PySem.W.nsIn K mainGlobals "list" = some none)
    (z7 : PySem.W.nsIn K mainGlobals "isinstance" = some none)
    (z8 : PySem.W.nsIn K mainGlobals "sorted" = some none)
    (z9 : PySem.W.nsIn K mainGlobals "sum" = some none)
    (z10 : PySem.W.nsIn K mainGlobals "all" = some none)
    (z11 : PySem.W.nsIn K mainGlobals "set" = some none)
    (z12 : PySem.W.nsIn K mainGlobals "str" = some none)
    (z13 : PySem.W.nsIn K mainGlobals "enumerate" = some none)
    (z14 : PySem.W.nsIn K mainGlobals "bool" = some none)
    {u1_0 u1_1 : Tok} {dd1 : Option Addr} {nn1 : Nat} {sl_1 : Array (Option Value)} (y1 : PySem.W.nsIn K mainGlobals "BINDING_WORDS" = some (some (.ref t1)))
    (x1 : K.lookup t1 = some ⟨.type "tuple", dd1, .seq #[.str "hear" u1_0, .str "new" u1_1] nn1, sl_1⟩)
    {u2_0 u2_1 u2_2 u2_3 : Tok} {dd2 : Option Addr} {nn2 : Nat} {sl_2 : Array (Option Value)} (y2 : PySem.W.nsIn K mainGlobals "TAKEN_WORDS" = some (some (.ref t2)))
    (x2 : K.lookup t2 = some ⟨.type "tuple", dd2, .seq #[.str "in" u2_0, .str "out" u2_1, .str "open" u2_2, .str "new" u2_3] nn2, sl_2⟩)
    {tk1 : Tok} (r1 : PySem.W.nsIn K mainGlobals "LETTERS" = some (some (.str abc tk1)))
    {tk2 : Tok} (r2 : PySem.W.nsIn K mainGlobals "MOST_SIGNS" = some (some (.int 6 tk2)))
    {tk3 : Tok} (r3 : PySem.W.nsIn K mainGlobals "MOST_PARTS" = some (some (.int 400 tk3)))
    {tk4 : Tok} (r4 : PySem.W.nsIn K mainGlobals "MOST_DEEP" = some (some (.int 24 tk4)))
    {dS : Addr} {esS : Array DictEntry} {nS : Nat} {hh0 hh1 hh2 hh3 hh4 hh5 hh6 hh7 : Int} {uu0 qq0 uu1 qq1 uu2 qq2 uu3 qq3 uu4 qq4 uu5 qq5 uu6 qq6 uu7 qq7 : Tok}
    (sz0 : PySem.W.nsIn K mainGlobals "SIZES" = some (some (.ref dS))) (sz1 : K.lookup dS = some ⟨.type "dict", none, .dict esS nS, #[]⟩)
    (sz2 : PySem.W.KeysLit w.params esS.toList) (sz3 : (dS == sysModules) = false)
    (sz4 : esS.toList = [⟨hh0, .str "room" uu0, .int 3 qq0⟩, ⟨hh1, .str "in" uu1, .int 3 qq1⟩, ⟨hh2, .str "out" uu2, .int 3 qq2⟩, ⟨hh3, .str "open" uu3, .int 3 qq3⟩, ⟨hh4, .str "say" uu4, .int 2 qq4⟩, ⟨hh5, .str "hear" uu5, .int 3 qq5⟩, ⟨hh6, .str "new" uu6, .int 3 qq6⟩, ⟨hh7, .str "again" uu7, .int 2 qq7⟩])
    {dT dM : Addr} {esT esM : Array DictEntry} {nT nM : Nat} {tq0 tq1 tq2 tq3 tq4 : Tok}
    (st0 : PySem.W.nsIn K mainGlobals "STEP_SIZES" = some (some (.ref dT))) (st1 : K.lookup dT = some ⟨.type "dict", none, .dict esT nT, #[]⟩)
    (st2 : PySem.W.KeysLit w.params esT.toList) (st3 : (dT == sysModules) = false)
    (sw0 : PySem.W.nsIn K dT "in" = some (some (.int 5 tq0)))
    (sw1 : PySem.W.nsIn K dT "out" = some (some (.int 5 tq1)))
    (sw2 : PySem.W.nsIn K dT "open" = some (some (.int 4 tq2)))
    (sw3 : PySem.W.nsIn K dT "letter" = some (some (.int 4 tq3)))
    (sw4 : PySem.W.nsIn K dT "again" = some (some (.int 3 tq4)))
    (mv0 : PySem.W.nsIn K mainGlobals "MOVES" = some (some (.ref dM))) (mv1 : K.lookup dM = some ⟨.type "dict", none, .dict esM nM, #[]⟩)
    (mv2 : PySem.W.KeysLit w.params esM.toList) (mw0 : PySem.W.nsIn K dM "in" = some (some (.ref f39))) (mw1 : PySem.W.nsIn K dM "out" = some (some (.ref f40))) (mw2 : PySem.W.nsIn K dM "open" = some (some (.ref f41))) (mw3 : PySem.W.nsIn K dM "letter" = some (some (.ref f42))) (mw4 : PySem.W.nsIn K dM "again" = some (some (.ref f43)))
    {occ2 : Value} {odc2 : Option Addr} {vs2 : Array Value} {slc2 : Array (Option Value)} (lc2 : K.lookup cc2 = some ⟨occ2, odc2, .fields vs2, slc2⟩) (hv2 : vs2[11]? = some (.ref T2)) (tN2 : K.lookup T2 = none)
    (tb2 : PySem.W.tabIn K "consists_of" = some (cc2, T2) → PySem.W.CodeHd h cc2 T2 ∧ h.get? T2 = some { cls := .none, data := .fields #[] })
    {occ8 : Value} {odc8 : Option Addr} {vs8 : Array Value} {slc8 : Array (Option Value)} (lc8 : K.lookup cc8 = some ⟨occ8, odc8, .fields vs8, slc8⟩) (hv8 : vs8[11]? = some (.ref T8)) (tN8 : K.lookup T8 = none)
    (tb8 : PySem.W.tabIn K "parts_within" = some (cc8, T8) → PySem.W.CodeHd h cc8 T8 ∧ h.get? T8 = some { cls := .none, data := .fields #[] })
    {occ35 : Value} {odc35 : Option Addr} {vs35 : Array Value} {slc35 : Array (Option Value)} (lc35 : K.lookup cc35 = some ⟨occ35, odc35, .fields vs35, slc35⟩) (hv35 : vs35[11]? = some (.ref T35)) (tN35 : K.lookup T35 = none)
    (tb35 : PySem.W.tabIn K "are_places" = some (cc35, T35) → PySem.W.CodeHd h cc35 T35 ∧ h.get? T35 = some { cls := .none, data := .fields #[] })
    : LamX.LawAtS l w K CX0 37 63 "_law_script" mg fa h := by
  have e := hfa.symm.trans (PySem.W.mg_of X G a50)
  cases e
  have F1 := fun_mk (st := sIsName) l1 c1 k1
  have g1 := PySem.W.mg_of X G a1
  have b1 := F1.binds (ps := ["thing"]) fun _ _ _ _ _ _ us hl => match us, hl with | [_], _ => rfl
  have E2 := funC_mk (st := sCons) l2 c2 k2
  have F2 := E2.fn
  have g2 := PySem.W.mg_of X G a2
  have b2 := F2.binds (ps := ["text", "signs"]) fun _ _ _ _ _ _ us hl => match us, hl with | [_, _], _ => rfl
  have F3 := fun_mk (st := sForm) l3 c3 k3
  have g3 := PySem.W.mg_of X G a3
  have b3 := F3.binds (ps := ["thing"]) fun _ _ _ _ _ _ us hl => match us, hl with | [_], _ => rfl
  have F4 := fun_mk (st := sCalling) l4 c4 k4
  have g4 := PySem.W.mg_of X G a4
  have b4 := F4.binds (ps := ["part"]) fun _ _ _ _ _ _ us hl => match us, hl with | [_], _ => rfl
  have F5 := fun_mk (st := sRest) l5 c5 k5
  have g5 := PySem.W.mg_of X G a5
  have b5 := F5.binds (ps := ["part"]) fun _ _ _ _ _ _ us hl => match us, hl with | [_], _ => rfl
  have F6 := fun_mk (st := sBinder) l6 c6 k6
  have g6 := PySem.W.mg_of X G a6
  have b6 := F6.binds (ps := ["part"]) fun _ _ _ _ _ _ us hl => match us, hl with | [_], _ => rfl
  have F7 := fun_mk (st := sHouse) l7 c7 k7
  have g7 := PySem.W.mg_of X G a7
  have b7 := F7.binds (ps := ["thing"]) fun _ _ _ _ _ _ us hl => match us, hl with | [_], _ => rfl
  have E8 := funC_mk (st := sWithin) l8 c8 k8
  have F8 := E8.fn
  have g8 := PySem.W.mg_of X G a8
  have b8 := F8.binds (ps := ["thing", "most_parts", "most_deep", "is_part", "rest"]) fun _ _ _ _ _ _ us hl => match us, hl with | [_, _, _, _, _], _ => rfl
  have F9 := fun_mk (st := sNPart) l9 c9 k9
  have g9 := PySem.W.mg_of X G a9
  have b9 := F9.binds (ps := ["thing"]) fun _ _ _ _ _ _ us hl => match us, hl with | [_], _ => rfl
  have F10 := fun_mk (st := sCallings) l10 c10 k10
  have g10 := PySem.W.mg_of X G a10
  have b10 := F10.binds (ps := ["row"]) fun _ _ _ _ _ _ us hl => match us, hl with | [_], _ => rfl
  have F11 := fun_mk (st := sGather) l11 c11 k11
  have g11 := PySem.W.mg_of X G a11
  have b11 := F11.binds (ps := ["row", "around", "free", "bound"]) fun _ _ _ _ _ _ us hl => match us, hl with | [_, _, _, _], _ => rfl
  have F12 := fun_mk (st := sCalled) l12 c12 k12
  have g12 := PySem.W.mg_of X G a12
  have b12 := F12.binds (ps := ["row", "x", "calling"]) fun _ _ _ _ _ _ us hl => match us, hl with | [_, _, _], _ => rfl
  have F13 := fun_mk (st := sPCalled) l13 c13 k13
  have g13 := PySem.W.mg_of X G a13
  have b13 := F13.binds (ps := ["part", "x", "calling"]) fun _ _ _ _ _ _ us hl => match us, hl with | [_, _, _], _ => rfl
  have F14 := fun_mk (st := sFreed) l14 c14 k14
  have g14 := PySem.W.mg_of X G a14
  have b14 := F14.binds (ps := ["number", "row"]) fun _ _ _ _ _ _ us hl => match us, hl with | [_, _], _ => rfl
  have F15 := fun_mk (st := sPFreed) l15 c15 k15
  have g15 := PySem.W.mg_of X G a15
  have b15 := F15.binds (ps := ["number", "part"]) fun _ _ _ _ _ _ us hl => match us, hl with | [_, _], _ => rfl
  have F16 := fun_mk (st := sSettled) l16 c16 k16
  have g16 := PySem.W.mg_of X G a16
  have b16 := F16.binds (ps := ["house"]) fun _ _ _ _ _ _ us hl => match us, hl with | [_], _ => rfl
  have F17 := fun_mk (st := sLeft) l17 c17 k17
  have g17 := PySem.W.mg_of X G a17
  have b17 := F17.binds (ps := ["_law_cell"]) fun _ _ _ _ _ _ us hl => match us, hl with | [_], _ => rfl
  have F18 := fun_mk (st := sDigit) l18 c18 k18
  have g18 := PySem.W.mg_of X G a18
  have b18 := F18.binds (ps := ["_law_left_here", "_law_many"]) fun _ _ _ _ _ _ us hl => match us, hl with | [_, _], _ => rfl
  have F19 := fun_mk (st := sNames) l19 c19 k19
  have g19 := PySem.W.mg_of X G a19
  have b19 := F19.binds (ps := ["_law_left_here", "_law_many"]) fun _ _ _ _ _ _ us hl => match us, hl with | [_, _], _ => rfl
  have F20 := fun_mk (st := sPart) l20 c20 k20
  have g20 := PySem.W.mg_of X G a20
  have b20 := F20.binds (ps := ["_law_left_here", "_law_room", "_law_scope", "_law_spare"]) fun _ _ _ _ _ _ us hl => match us, hl with | [_, _, _, _], _ => rfl
  have F21 := fun_mk (st := sRow) l21 c21 k21
  have g21 := PySem.W.mg_of X G a21
  have b21 := F21.binds (ps := ["_law_left_here", "_law_room", "_law_scope", "_law_spare"]) fun _ _ _ _ _ _ us hl => match us, hl with | [_, _, _, _], _ => rfl
  have F22 := fun_mk (st := sBegins) l22 c22 k22
  have g22 := PySem.W.mg_of X G a22
  have b22 := F22.binds (ps := ["thing"]) fun _ _ _ _ _ _ us hl => match us, hl with | [_], _ => rfl
  have F23 := fun_mk (st := sBinds) l23 c23 k23
  have g23 := PySem.W.mg_of X G a23
  have b23 := F23.binds (ps := ["free", "bound"]) fun _ _ _ _ _ _ us hl => match us, hl with | [_, _], _ => rfl
  have F24 := fun_mk (st := sPartAt) l24 c24 k24
  have g24 := PySem.W.mg_of X G a24
  have b24 := F24.binds (ps := ["row", "place", "word"]) fun _ _ _ _ _ _ us hl => match us, hl with | [_, _, _], _ => rfl
  have F25 := fun_mk (st := sRowAt) l25 c25 k25
  have g25 := PySem.W.mg_of X G a25
  have b25 := F25.binds (ps := ["stand", "path"]) fun _ _ _ _ _ _ us hl => match us, hl with | [_, _], _ => rfl
  have F26 := fun_mk (st := sWithRow) l26 c26 k26
  have g26 := PySem.W.mg_of X G a26
  have b26 := F26.binds (ps := ["room", "row"]) fun _ _ _ _ _ _ us hl => match us, hl with | [_, _], _ => rfl
  have F27 := fun_mk (st := sWithPart) l27 c27 k27
  have g27 := PySem.W.mg_of X G a27
  have b27 := F27.binds (ps := ["row", "place", "part"]) fun _ _ _ _ _ _ us hl => match us, hl with | [_, _, _], _ => rfl
  have F28 := fun_mk (st := sPutAt) l28 c28 k28
  have g28 := PySem.W.mg_of X G a28
  have b28 := F28.binds (ps := ["row", "path", "told"]) fun _ _ _ _ _ _ us hl => match us, hl with | [_, _, _], _ => rfl
  have F29 := fun_mk (st := sRooms) l29 c29 k29
  have g29 := PySem.W.mg_of X G a29
  have b29 := F29.binds (ps := ["row", "calling"]) fun _ _ _ _ _ _ us hl => match us, hl with | [_, _], _ => rfl
  have F30 := fun_mk (st := sGoals) l30 c30 k30
  have g30 := PySem.W.mg_of X G a30
  have b30 := F30.binds (ps := ["row", "k"]) fun _ _ _ _ _ _ us hl => match us, hl with | [_, _], _ => rfl
  have F31 := fun_mk (st := sLeav) l31 c31 k31
  have g31 := PySem.W.mg_of X G a31
  have b31 := F31.binds (ps := ["room"]) fun _ _ _ _ _ _ us hl => match us, hl with | [_], _ => rfl
  have F32 := fun_mk (st := sGaSt) l32 c32 k32
  have g32 := PySem.W.mg_of X G a32
  have b32 := F32.binds (ps := ["row", "path", "steps"]) fun _ _ _ _ _ _ us hl => match us, hl with | [_, _, _], _ => rfl
  have F33 := fun_mk (st := sSteps) l33 c33 k33
  have g33 := PySem.W.mg_of X G a33
  have b33 := F33.binds (ps := ["stand"]) fun _ _ _ _ _ _ us hl => match us, hl with | [_], _ => rfl
  have F34 := fun_mk (st := sWhole) l34 c34 k34
  have g34 := PySem.W.mg_of X G a34
  have b34 := F34.binds (ps := ["thing"]) fun _ _ _ _ _ _ us hl => match us, hl with | [_], _ => rfl
  have E35 := funC_mk (st := sPlaces) l35 c35 k35
  have F35 := E35.fn
  have g35 := PySem.W.mg_of X G a35
  have b35 := F35.binds (ps := ["thing"]) fun _ _ _ _ _ _ us hl => match us, hl with | [_], _ => rfl
  have F36 := fun_mk (st := sStForm) l36 c36 k36
  have g36 := PySem.W.mg_of X G a36
  have b36 := F36.binds (ps := ["thing"]) fun _ _ _ _ _ _ us hl => match us, hl with | [_], _ => rfl
  have F37 := fun_mk (st := sWithout) l37 c37 k37
  have g37 := PySem.W.mg_of X G a37
  have F38 := fun_mk (st := sSpent) l38 c38 k38
  have g38 := PySem.W.mg_of X G a38
  have b38 := F38.binds (ps := ["number", "room", "d"]) fun _ _ _ _ _ _ us hl => match us, hl with | [_, _, _], _ => rfl
  have F39 := fun_mk (st := sIn) l39 c39 k39
  have g39 := PySem.W.mg_of X G a39
  have b39 := F39.binds (ps := ["number", "row", "k", "d", "j"]) fun _ _ _ _ _ _ us hl => match us, hl with | [_, _, _, _, _], _ => rfl
  have F40 := fun_mk (st := sOut) l40 c40 k40
  have g40 := PySem.W.mg_of X G a40
  have b40 := F40.binds (ps := ["number", "row", "k", "j", "d"]) fun _ _ _ _ _ _ us hl => match us, hl with | [_, _, _, _, _], _ => rfl
  have F41 := fun_mk (st := sOpened) l41 c41 k41
  have g41 := PySem.W.mg_of X G a41
  have b41 := F41.binds (ps := ["number", "row", "k", "j"]) fun _ _ _ _ _ _ us hl => match us, hl with | [_, _, _, _], _ => rfl
  have F42 := fun_mk (st := sHeard) l42 c42 k42
  have g42 := PySem.W.mg_of X G a42
  have b42 := F42.binds (ps := ["number", "row", "k", "j"]) fun _ _ _ _ _ _ us hl => match us, hl with | [_, _, _, _], _ => rfl
  have F43 := fun_mk (st := sAgain) l43 c43 k43
  have g43 := PySem.W.mg_of X G a43
  have b43 := F43.binds (ps := ["number", "row", "k"]) fun _ _ _ _ _ _ us hl => match us, hl with | [_, _, _], _ => rfl
  have F44 := fun_mk (st := sMoved) l44 c44 k44
  have g44 := PySem.W.mg_of X G a44
  have b44 := F44.binds (ps := ["stand", "step"]) fun _ _ _ _ _ _ us hl => match us, hl with | [_, _], _ => rfl
  have F45 := fun_mk (st := sDone) l45 c45 k45
  have g45 := PySem.W.mg_of X G a45
  have b45 := F45.binds (ps := ["stand", "step"]) fun _ _ _ _ _ _ us hl => match us, hl with | [_, _], _ => rfl
  have F46 := fun_mk (st := sLively) l46 c46 k46
  have g46 := PySem.W.mg_of X G a46
  have b46 := F46.binds (ps := ["_law_left_here", "_law_scope", "_law_spare"]) fun _ _ _ _ _ _ us hl => match us, hl with | [_, _, _], _ => rfl
  have F47 := fun_mk (st := sLSt) l47 c47 k47
  have g47 := PySem.W.mg_of X G a47
  have b47 := F47.binds (ps := ["_law_row_here", "_law_path"]) fun _ _ _ _ _ _ us hl => match us, hl with | [_, _], _ => rfl
  have F48 := fun_mk (st := sLPaths) l48 c48 k48
  have g48 := PySem.W.mg_of X G a48
  have b48 := F48.binds (ps := ["_law_row_here", "_law_path"]) fun _ _ _ _ _ _ us hl => match us, hl with | [_, _], _ => rfl
  have F49 := fun_mk (st := sRight) l49 c49 k49
  have g49 := PySem.W.mg_of X G a49
  have b49 := F49.binds (ps := ["_law_stand", "_law_left_here"]) fun _ _ _ _ _ _ us hl => match us, hl with | [_, _], _ => rfl
  have F50 := fun_mk (st := sLaw) l50 c50 k50
  have g50 := PySem.W.mg_of X G a50
  have n1 := PySem.W.mg_none_of X G z1
  have n2 := PySem.W.mg_none_of X G z2
  have n3 := PySem.W.mg_none_of X G z3
  have n4 := PySem.W.mg_none_of X G z4
  have n5 := PySem.W.mg_none_of X G z5
  have n6 := PySem.W.mg_none_of X G z6
  have n7 := PySem.W.mg_none_of X G z7
  have n8 := PySem.W.mg_none_of X G z8
  have n9 := PySem.W.mg_none_of X G z9
  have n10 := PySem.W.mg_none_of X G z10
  have n11 := PySem.W.mg_none_of X G z11
  have n12 := PySem.W.mg_none_of X G z12
  have n13 := PySem.W.mg_none_of X G z13
  have n14 := PySem.W.mg_none_of X G z14
  have v1 := PySem.W.mg_of X G y1
  have U1 : ∀ H, SqT K H t1 [.str "hear", .str "new"] := fun H => .inr ⟨_, _, _, x1, rfl, rfl, (show 2 ≤ sizeLine by decide), (.cons ⟨_, rfl⟩ (.cons ⟨_, rfl⟩ .nil))⟩
  have v2 := PySem.W.mg_of X G y2
  have U2 : ∀ H, SqT K H t2 [.str "in", .str "out", .str "open", .str "new"] := fun H => .inr ⟨_, _, _, x2, rfl, rfl, (show 4 ≤ sizeLine by decide), (.cons ⟨_, rfl⟩ (.cons ⟨_, rfl⟩ (.cons ⟨_, rfl⟩ (.cons ⟨_, rfl⟩ .nil))))⟩
  have o1 := PySem.W.mg_of X G r1
  have o2 := PySem.W.mg_of X G r2
  have o3 := PySem.W.mg_of X G r3
  have o4 := PySem.W.mg_of X G r4
  obtain ⟨tC2, tT2⟩ := tb2 (tab_in a2 l2 rfl lc2 hv2)
  obtain ⟨tC8, tT8⟩ := tb8 (tab_in a8 l8 rfl lc8 hv8)
  obtain ⟨tC35, tT35⟩ := tb35 (tab_in a35 l35 rfl lc35 hv35)
  refine ⟨PySem.W.fnOf "law" "law" (defArgs sLaw) (defBody sLaw) (defScope sLaw) .none kV50 dc50 pm50 an50 cd50 ct50, [(cc2, T2), (cc8, T8), (cc35, T35)], spLaw K [T2, T8, T35], fun p hp => ?_, fun p hp => ?_, fun p hp => ?_, fun s u => .of_eq rfl, fun H a ns hl hb hH hS => ?_, fun base KB NB TB => ?_⟩
  · simp only [List.mem_cons, List.not_mem_nil, or_false] at hp
    rcases hp with hp | hp | hp
    · rw [hp]; exact tT2
    · rw [hp]; exact tT8
    · rw [hp]; exact tT35
  · simp only [List.mem_cons, List.not_mem_nil, or_false] at hp
    rcases hp with hp | hp | hp
    · rw [hp]; exact tN2
    · rw [hp]; exact tN8
    · rw [hp]; exact tN35
  · simp only [List.mem_cons, List.not_mem_nil, or_false] at hp
    rcases hp with hp | hp | hp
    · rw [hp]; exact tC2
    · rw [hp]; exact tC8
    · rw [hp]; exact tC35
  · refine ⟨a, ns, rfl, hS, hl, fun T h => ?_, fun _ => rfl⟩
    simp only [List.mem_cons, List.not_mem_nil, or_false] at h
    rcases h with h | h | h
    · rw [h]; exact ⟨#[], hH (cc2, T2) (by simp), True.intro⟩
    · rw [h]; exact ⟨#[], hH (cc8, T8) (by simp), True.intro⟩
    · rw [h]; exact ⟨#[], hH (cc35, T35) (by simp), True.intro⟩
  · have tb_2 := TB (cc2, T2) (by simp)
    have B2 : GxR.TabB base mg cc2 T2 := ⟨tb_2.code, tb_2.bm, tb_2.gP⟩
    have tb_8 := TB (cc8, T8) (by simp)
    have B8 : GxR.TabB base mg cc8 T8 := ⟨tb_8.code, tb_8.bm, tb_8.gP⟩
    have tb_35 := TB (cc35, T35) (by simp)
    have B35 : GxR.TabB base mg cc35 T35 := ⟨tb_35.code, tb_35.bm, tb_35.gP⟩
    have mSz := PySem.W.mg_of X G sz0
    have hSz : SizesG K w dS := sizesG_of sz1 sz2 sz3 sz4
    have mSt := PySem.W.mg_of X G st0
    have hSt : StepSz K w dT := stepSz_of st1 st2 st3 sw0 sw1 sw2 sw3 sw4
    have mMv := PySem.W.mg_of X G mv0
    have hMv0 : KDct K w dM "in" (.ref f39) := ⟨esM, nM, _, mv1, mv2, mw0, rfl⟩
    have hMv1 : KDct K w dM "out" (.ref f40) := ⟨esM, nM, _, mv1, mv2, mw1, rfl⟩
    have hMv2 : KDct K w dM "open" (.ref f41) := ⟨esM, nM, _, mv1, mv2, mw2, rfl⟩
    have hMv3 : KDct K w dM "letter" (.ref f42) := ⟨esM, nM, _, mv1, mv2, mw3, rfl⟩
    have hMv4 : KDct K w dM "again" (.ref f43) := ⟨esM, nM, _, mv1, mv2, mw4, rfl⟩
    have m2 : T2 ∈ [T2, T8, T35] := by simp
    have m8 : T8 ∈ [T2, T8, T35] := by simp
    have m35 : T35 ∈ [T2, T8, T35] := by simp
    have G2 := ok_cons (P := l.prog) (w := w) (k := 0) l2 c2 B2 m2 n3 n10 o2
    have G1 := ok_name (P := l.prog) (w := w) F1 G2 b2 k2 g2 n7 n12 v2 U2 o1
    have G4 := ok_calling (P := l.prog) (w := w) (mg := mg) (base := base) (k := 0) F4
    have G5 := ok_rest (P := l.prog) (w := w) (mg := mg) (base := base) (k := 0) F5
    have G6 := ok_binder (P := l.prog) (w := w) (base := base) (k := 0) F6 v1 U1
    have G11 := gather_ok (P := l.prog) (w := w) F11 G4 b4 k4 g4 G6 b6 k6 g6 G5 b5 k5 g5 b11 g11 6
    have G10 := ok_callings (P := l.prog) (w := w) F10 G11 b11 k11 g11
  
    have G22 := ok_begins (P := l.prog) (w := w) (base := base) (k := 0) F22 n7 n5 n12 n3
    have G3 := ok_formG (P := l.prog) (w := w) (base := base) (k := 1) F3 n3 mSz hSz G22 b22 k22 g22
    have G4g := ok_callingG (P := l.prog) (w := w) (mg := mg) (base := base) (k := 0) F4
    have G5g := ok_restG (P := l.prog) (w := w) (mg := mg) (base := base) (k := 0) F5
    have G9 := ok_npartG (P := l.prog) (w := w) F9 G3 b3 k3 g3 G4g b4 k4 g4 G1 b1 k1 g1
    have G8 := ok_within (P := l.prog) (w := w) E8 B8 m8 G9 b9 k9 G5g b5 k5 n7 n5 n3 n10 n9 n2
    have G23 := ok_binds (P := l.prog) (w := w) (base := base) (Ts := [T2, T8, T35]) (k := 0) F23 n3 n11
    have G11b := gather_ok (P := l.prog) (w := w) F11 G4 b4 k4 g4 G6 b6 k6 g6 G5 b5 k5 g5 b11 g11 25
    have G10b := ok_callings (P := l.prog) (w := w) F10 G11b b11 k11 g11
    have G7g := ok_houseG (P := l.prog) (w := w) F7 o4 o3 g9 g5 G8 b8 k8 g8 G23 b23 k23 g23 G10b b10 k10 g10
    have G7 := house_of_G (n := 6) G7g
    have G12 := called_ok (P := l.prog) (w := w) F13 F12 G6 b6 k6 g6 n5 b12 g12 b13 g13 5
    have G12b := called_ok (P := l.prog) (w := w) F13 F12 G6 b6 k6 g6 n5 b12 g12 b13 g13 6
    have G12c := called_ok (P := l.prog) (w := w) F13 F12 G6 b6 k6 g6 n5 b12 g12 b13 g13 5
    have G14 := freed_ok (P := l.prog) (w := w) (c := 5) F14 F15 n5 b14 g14 b15 g15 G12 b12 k12 g12 6 (by decide)
    have G14b := freed_ok (P := l.prog) (w := w) (c := 5) F14 F15 n5 b14 g14 b15 g15 G12c b12 k12 g12 6 (by decide)
    have G16 := ok_settled (P := l.prog) (w := w) F16 (FnOk.mono G7 (by decide)) b7 k7 g7 (FnOk.mono G14 (by decide) : FnOk l.prog w K mg base CX0 35 _ _ _ _) b14 k14 g14
    have G17 := ok_left (P := l.prog) (w := w) (base := base) (k := 0) F17 n1 n2
    have G18 := ok_digit (P := l.prog) (w := w) (mg := mg) (base := base) (k := 0) F18
    have G19 := ok_names (P := l.prog) (w := w) F19 G18 b18 k18 g18 n2
    have G21 := rows_ok (P := l.prog) (w := w) F20 F21 G18 b18 k18 g18 n3 n4 n5 n2 b21 g21 b20 g20 5
    have G24 := ok_partat (P := l.prog) (w := w) (base := base) (k := 0) F24 n3
    have G25 := ok_rowat (P := l.prog) (w := w) F25 G24 b24 k24 g24
    have G26 := ok_withrow (P := l.prog) (w := w) (mg := mg) (base := base) (k := 0) F26
    have G27 := ok_withpart (P := l.prog) (w := w) (mg := mg) (base := base) (k := 0) F27
    have G28 := putat_ok (P := l.prog) (w := w) F28 G26 b26 k26 g26 G27 b27 k27 g27 b28 g28 20
    have G29 := ok_rooms (P := l.prog) (w := w) (base := base) (k := 0) F29 n13
    have G30 := ok_goals (P := l.prog) (w := w) F30 n13 G29 b29 k29 g29
    have G31 := ok_leavers (P := l.prog) (w := w) (base := base) (k := 0) F31 n13
    have G32 := gast_ok (P := l.prog) (w := w) F32 n13 G30 b30 k30 g30 G31 b31 k31 g31 G29 b29 k29 g29 b32 g32 20
    have G33 := ok_steps (P := l.prog) (w := w) F33 n8 G32 b32 k32 g32
    have G34 := ok_whole (P := l.prog) (w := w) (base := base) (k := 0) F34 n7 n4 n14
    have G35 := ok_places (P := l.prog) (w := w) E35 B35 m35 n7 n5 n10 G34 b34 k34 g34
    have G36 := ok_stform (P := l.prog) (w := w) F36 n3 mSt hSt G22 b22 k22 g22 G35 b35 k35 g35
    have G37 := ok_without (P := l.prog) (w := w) (mg := mg) (base := base) (k := 0) l37 c37 n13 n5
    have G41 := ok_opened (P := l.prog) (w := w) (k := 28) F41 G24 b24 k24 g24 (FnOk.mono G14b (by decide)) b14 k14 g14 G37 k37 g37
    have G42 := ok_heard (P := l.prog) (w := w) (k := 28) F42 G24 b24 k24 g24 (FnOk.mono G14b (by decide)) b14 k14 g14 G12b b12 k12 g12 (by decide) G37 k37 g37
    have G43 := again_mv (ok_again (P := l.prog) (w := w) (k := 28) F43 G24 b24 k24 g24 (FnOk.mono G14b (by decide)) b14 k14 g14)
    have G38 := ok_spent (P := l.prog) (w := w) (k := 28) F38 (FnOk.mono G14b (by decide)) b14 k14 g14 G37 k37 g37 G26 b26 k26 g26
    have G39 := ok_gin (P := l.prog) (w := w) (k := 28) F39 G24 b24 k24 g24 G37 k37 g37 G26 b26 k26 g26 G27 b27 k27 g27 G38 b38 k38 g38
    have G40 := ok_gout (P := l.prog) (w := w) (k := 28) F40 G24 b24 k24 g24 G37 k37 g37 G26 b26 k26 g26 G27 b27 k27 g27 G38 b38 k38 g38
    have Gm0 := ok_movedG (P := l.prog) (w := w) (k := 27) (ar := 3) (wd := "in") F44 (by decide +kernel) (by decide) G36 b36 k36 g36 G25 b25 k25 g25 (FnOk.mono G39 (by decide)) b39 k39 mMv hMv0
    have Gd0 := ok_doneG (P := l.prog) (w := w) (k := 11) F45 Gm0 b44 k44 g44 G28 b28 k28 g28
    have Gm1 := ok_movedG (P := l.prog) (w := w) (k := 27) (ar := 3) (wd := "out") F44 (by decide +kernel) (by decide) G36 b36 k36 g36 G25 b25 k25 g25 (FnOk.mono G40 (by decide)) b40 k40 mMv hMv1
    have Gd1 := ok_doneG (P := l.prog) (w := w) (k := 11) F45 Gm1 b44 k44 g44 G28 b28 k28 g28
    have Gm2 := ok_movedG (P := l.prog) (w := w) (k := 27) (ar := 2) (wd := "open") F44 (by decide +kernel) (by decide) G36 b36 k36 g36 G25 b25 k25 g25 (FnOk.mono G41 (by decide)) b41 k41 mMv hMv2
    have Gd2 := ok_doneG (P := l.prog) (w := w) (k := 11) F45 Gm2 b44 k44 g44 G28 b28 k28 g28
    have Gm3 := ok_movedG (P := l.prog) (w := w) (k := 27) (ar := 2) (wd := "letter") F44 (by decide +kernel) (by decide) G36 b36 k36 g36 G25 b25 k25 g25 (FnOk.mono G42 (by decide)) b42 k42 mMv hMv3
    have Gd3 := ok_doneG (P := l.prog) (w := w) (k := 11) F45 Gm3 b44 k44 g44 G28 b28 k28 g28
    have Gm4 := ok_movedG (P := l.prog) (w := w) (k := 27) (ar := 1) (wd := "again") F44 (by decide +kernel) (by decide) G36 b36 k36 g36 G25 b25 k25 g25 (FnOk.mono G43 (by decide)) b43 k43 mMv hMv4
    have Gd4 := ok_doneG (P := l.prog) (w := w) (k := 11) F45 Gm4 b44 k44 g44 G28 b28 k28 g28
    have G45 := doneA Gd4 Gd2 Gd3 Gd0 Gd1
    have GI := ok_rowi (P := l.prog) (w := w) F25 G24 b24 k24 g24
    have G46 := ok_lively (P := l.prog) (w := w) F46 G18 b18 k18 g18 n2 G21 b21 k21 g21
    have G47 := lsteps_ok (P := l.prog) (w := w) (base := base) F47 n13 n8 b47 g47 10
    have G48 := lpaths_ok (P := l.prog) (w := w) (base := base) F48 n13 b48 g48 10
    have G49 := ok_right (P := l.prog) (w := w) F49 G18 b18 k18 g18 G47 b47 k47 g47 G33 b33 k33 g33 G48 b48 k48 g48 GI b25 k25 g25 n3 n2 n7 n6 n14
    exact ok_law (P := l.prog) (w := w) F50 G17 b17 k17 g17 G18 b18 k18 g18 G19 b19 k19 g19 G46 b46 k46 g46 G16 b16 k16 g16 G49 b49 k49 g49 G33 b33 k33 g33 G45 b45 k45 g45 n3 n2
end K19
open PySem PySem.W PyProof.Rows
set_option maxRecDepth 100000 in
set_option maxHeartbeats 0 in
theorem PySem.Challenge.cw_walkrooms_k19_steps_told_holds : PySem.Challenge.rw_walkrooms_k19_steps_told.Holds := by
  w_on; o_law; k_head; (case hw => w_witness2)
  k_fill
  refine Wk.walk_tab (l := PySem.Challenge.rw_walkrooms_k19_steps_told) (n := 63) (k := 37) (x := "_law_script") rfl (by decide) rfl ⟨rfl, by decide, by decide⟩ (fun w h Y => PySem.W.kIn_of Y) ?F
  case F =>
    intro w mg fa h KX G hmg tabs
    refine' K19.all_mk KX G hmg ?a1 ?l1 ?c1 ?k1 ?a2 ?l2 ?c2 ?k2 ?a3 ?l3 ?c3 ?k3 ?a4 ?l4 ?c4 ?k4 ?a5 ?l5 ?c5 ?k5 ?a6 ?l6 ?c6 ?k6 ?a7 ?l7 ?c7 ?k7 ?a8 ?l8 ?c8 ?k8 ?a9 ?l9 ?c9 ?k9 ?a10 ?l10 ?c10 ?k10 ?a11 ?l11 ?c11 ?k11 ?a12 ?l12 ?c12 ?k12 ?a13 ?l13 ?c13 ?k13 ?a14 ?l14 ?c14 ?k14 ?a15 ?l15 ?c15 ?k15 ?a16 ?l16 ?c16 ?k16 ?a17 ?l17 ?c17 ?k17 ?a18 ?l18 ?c18 ?k18 ?a19 ?l19 ?c19 ?k19 ?a20 ?l20 ?c20 ?k20 ?a21 ?l21 ?c21 ?k21 ?a22 ?l22 ?c22 ?k22 ?a23 ?l23 ?c23 ?k23 ?a24 ?l24 ?c24 ?k24 ?a25 ?l25 ?c25 ?k25 ?a26 ?l26 ?c26 ?k26 ?a27 ?l27 ?c27 ?k27 ?a28 ?l28 ?c28 ?k28 ?a29 ?l29 ?c29 ?k29 ?a30 ?l30 ?c30 ?k30 ?a31 ?l31 ?c31 ?k31 ?a32 ?l32 ?c32 ?k32 ?a33 ?l33 ?c33 ?k33 ?a34 ?l34 ?c34 ?k34 ?a35 ?l35 ?c35 ?k35 ?a36 ?l36 ?c36 ?k36 ?a37 ?l37 ?c37 ?k37 ?a38 ?l38 ?c38 ?k38 ?a39 ?l39 ?c39 ?k39 ?a40 ?l40 ?c40 ?k40 ?a41 ?l41 ?c41 ?k41 ?a42 ?l42 ?c42 ?k42 ?a43 ?l43 ?c43 ?k43 ?a44 ?l44 ?c44 ?k44 ?a45 ?l45 ?c45 ?k45 ?a46 ?l46 ?c46 ?k46 ?a47 ?l47 ?c47 ?k47 ?a48 ?l48 ?c48 ?k48 ?a49 ?l49 ?c49 ?k49 ?a50 ?l50 ?c50 ?k50 ?z1 ?z2 ?z3 ?z4 ?z5 ?z6 ?z7 ?z8 ?z9 ?z10 ?z11 ?z12 ?z13 ?z14 ?y1 ?x1 ?y2 ?x2 ?r1 ?r2 ?r3 ?r4 ?sz0 ?sz1 ?sz2 ?sz3 ?sz4 ?st0 ?st1 ?st2 ?st3 ?sw0 ?sw1 ?sw2 ?sw3 ?sw4 ?mv0 ?mv1 ?mv2 ?mw0 ?mw1 ?mw2 ?mw3 ?mw4 ?lc2 ?hv2 ?tN2 (fun ht => tabs "consists_of" _ _ _ rfl ht) ?lc8 ?hv8 ?tN8 (fun ht => tabs "parts_within" _ _ _ rfl ht) ?lc35 ?hv35 ?tN35 (fun ht => tabs "are_places" _ _ _ rfl ht)
    (case a1 => k_is)
    (case l1 => k_is)
    (case c1 => k_is)
    (case k1 => k_is)
    (case a2 => k_is)
    (case l2 => k_is)
    (case c2 => k_is)
    (case k2 => k_is)
    (case a3 => k_is)
    (case l3 => k_is)
    (case c3 => k_is)
    (case k3 => k_is)
    (case a4 => k_is)
    (case l4 => k_is)
    (case c4 => k_is)
    (case k4 => k_is)
    (case a5 => k_is)
    (case l5 => k_is)
    (case c5 => k_is)
    (case k5 => k_is)
    (case a6 => k_is)
    (case l6 => k_is)
    (case c6 => k_is)
    (case k6 => k_is)
    (case a7 => k_is)
    (case l7 => k_is)
    (case c7 => k_is)
    (case k7 => k_is)
    (case a8 => k_is)
    (case l8 => k_is)
    (case c8 => k_is)
    (case k8 => k_is)
    (case a9 => k_is)
    (case l9 => k_is)
    (case c9 => k_is)
    (case k9 => k_is)
    (case a10 => k_is)
    (case l10 => k_is)
    (case c10 => k_is)
    (case k10 => k_is)
    (case a11 => k_is)
    (case l11 => k_is)
    (case c11 => k_is)
    (case k11 => k_is)
    (case a12 => k_is)
    (case l12 => k_is)
    (case c12 => k_is)
    (case k12 => k_is)
    (case a13 => k_is)
    (case l13 => k_is)
    (case c13 => k_is)
    (case k13 => k_is)
    (case a14 => k_is)
    (case l14 => k_is)
    (case c14 => k_is)
    (case k14 => k_is)
    (case a15 => k_is)
    (case l15 => k_is)
    (case c15 => k_is)
    (case k15 => k_is)
    (case a16 => k_is)
    (case l16 => k_is)
    (case c16 => k_is)
    (case k16 => k_is)
    (case a17 => k_is)
    (case l17 => k_is)
    (case c17 => k_is)
    (case k17 => k_is)
    (case a18 => k_is)
    (case l18 => k_is)
    (case c18 => k_is)
    (case k18 => k_is)
    (case a19 => k_is)
    (case l19 => k_is)
    (case c19 => k_is)
    (case k19 => k_is)
    (case a20 => k_is)
    (case l20 => k_is)
    (case c20 => k_is)
    (case k20 => k_is)
    (case a21 => k_is)
    (case l21 => k_is)
    (case c21 => k_is)
    (case k21 => k_is)
    (case a22 => k_is)
    (case l22 => k_is)
    (case c22 => k_is)
    (case k22 => k_is)
    (case a23 => k_is)
    (case l23 => k_is)
    (case c23 => k_is)
    (case k23 => k_is)
    (case a24 => k_is)
    (case l24 => k_is)
    (case c24 => k_is)
    (case k24 => k_is)
    (case a25 => k_is)
    (case l25 => k_is)
    (case c25 => k_is)
    (case k25 => k_is)
    (case a26 => k_is)
    (case l26 => k_is)
    (case c26 => k_is)
    (case k26 => k_is)
    (case a27 => k_is)
    (case l27 => k_is)
    (case c27 => k_is)
    (case k27 => k_is)
    (case a28 => k_is)
    (case l28 => k_is)
    (case c28 => k_is)
    (case k28 => k_is)
    (case a29 => k_is)
    (case l29 => k_is)
    (case c29 => k_is)
    (case k29 => k_is)
    (case a30 => k_is)
    (case l30 => k_is)
    (case c30 => k_is)
    (case k30 => k_is)
    (case a31 => k_is)
    (case l31 => k_is)
    (case c31 => k_is)
    (case k31 => k_is)
    (case a32 => k_is)
    (case l32 => k_is)
    (case c32 => k_is)
    (case k32 => k_is)
    (case a33 => k_is)
    (case l33 => k_is)
    (case c33 => k_is)
    (case k33 => k_is)
    (case a34 => k_is)
    (case l34 => k_is)
    (case c34 => k_is)
    (case k34 => k_is)
    (case a35 => k_is)
    (case l35 => k_is)
    (case c35 => k_is)
    (case k35 => k_is)
    (case a36 => k_is)
    (case l36 => k_is)
    (case c36 => k_is)
    (case k36 => k_is)
    (case a37 => k_is)
    (case l37 => k_is)
    (case c37 => k_is)
    (case k37 => k_is)
    (case a38 => k_is)
    (case l38 => k_is)
    (case c38 => k_is)
    (case k38 => k_is)
    (case a39 => k_is)
    (case l39 => k_is)
    (case c39 => k_is)
    (case k39 => k_is)
    (case a40 => k_is)
    (case l40 => k_is)
    (case c40 => k_is)
    (case k40 => k_is)
    (case a41 => k_is)
    (case l41 => k_is)
    (case c41 => k_is)
    (case k41 => k_is)
    (case a42 => k_is)
    (case l42 => k_is)
    (case c42 => k_is)
    (case k42 => k_is)
    (case a43 => k_is)
    (case l43 => k_is)
    (case c43 => k_is)
    (case k43 => k_is)
    (case a44 => k_is)
    (case l44 => k_is)
    (case c44 => k_is)
    (case k44 => k_is)
    (case a45 => k_is)
    (case l45 => k_is)
    (case c45 => k_is)
    (case k45 => k_is)
    (case a46 => k_is)
    (case l46 => k_is)
    (case c46 => k_is)
    (case k46 => k_is)
    (case a47 => k_is)
    (case l47 => k_is)
    (case c47 => k_is)
    (case k47 => k_is)
    (case a48 => k_is)
    (case l48 => k_is)
    (case c48 => k_is)
    (case k48 => k_is)
    (case a49 => k_is)
    (case l49 => k_is)
    (case c49 => k_is)
    (case k49 => k_is)
    (case a50 => k_is)
    (case l50 => k_is)
    (case c50 => k_is)
    (case k50 => k_is)
    (case z1 => k_is)
    (case z2 => k_is)
    (case z3 => k_is)
    (case z4 => k_is)
    (case z5 => k_is)
    (case z6 => k_is)
    (case z7 => k_is)
    (case z8 => k_is)
    (case z9 => k_is)
    (case z10 => k_is)
    (case z11 => k_is)
    (case z12 => k_is)
    (case z13 => k_is)
    (case z14 => k_is)
    (case y1 => k_is)
    (case x1 => k_is)
    (case y2 => k_is)
    (case x2 => k_is)
    (case r1 => k_is)
    (case r2 => k_is)
    (case r3 => k_is)
    (case r4 => k_is)
    (case sz0 => k_is)
    (case sz1 => k_is)
    (case sz2 => exact ⟨⟨_, _, rfl, rfl⟩, ⟨_, _, rfl, rfl⟩, ⟨_, _, rfl, rfl⟩, ⟨_, _, rfl, rfl⟩, ⟨_, _, rfl, rfl⟩, ⟨_, _, rfl, rfl⟩, ⟨_, _, rfl, rfl⟩, ⟨_, _, rfl, rfl⟩, trivial⟩)
    (case sz3 => rfl)
    (case sz4 => rfl)
    (case st0 => k_is)
    (case st1 => k_is)
    (case st2 => exact ⟨⟨_, _, rfl, rfl⟩, ⟨_, _, rfl, rfl⟩, ⟨_, _, rfl, rfl⟩, ⟨_, _, rfl, rfl⟩, ⟨_, _, rfl, rfl⟩, trivial⟩)
    (case st3 => rfl)
    (case sw0 => k_is)
    (case sw1 => k_is)
    (case sw2 => k_is)
    (case sw3 => k_is)
    (case sw4 => k_is)
    (case mv0 => k_is)
    (case mv1 => k_is)
    (case mv2 => exact ⟨⟨_, _, rfl, rfl⟩, ⟨_, _, rfl, rfl⟩, ⟨_, _, rfl, rfl⟩, ⟨_, _, rfl, rfl⟩, ⟨_, _, rfl, rfl⟩, trivial⟩)
    (case mw0 => k_is)
    (case mw1 => k_is)
    (case mw2 => k_is)
    (case mw3 => k_is)
    (case mw4 => k_is)
    (case lc2 => k_is)
    (case hv2 => rfl)
    (case tN2 => rfl)
    (case lc8 => k_is)
    (case hv8 => rfl)
    (case tN8 => rfl)
    (case lc35 => k_is)
    (case hv35 => rfl)
    (case tN35 => rfl)
